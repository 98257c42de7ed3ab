/-
  The program's digraph: the contracts that the statements' walks lean on, over any place of the edges in memory.
-/
import Derived.Test.YtcggmonnajggcaaDigGives
import Derived.Test.YtcggmonnajggcaaDevReach
import Derived.Test.YtcggmonnajggcaaDevComp
import Derived.Test.YtcggmonnajggcaaDevOrder
import Derived.Test.YtcggmonnajggcaaDevRanks
import Derived.Test.YtcggmonnajggcaaDevCycle
import Derived.Test.YtcggmonnajggcaaDevClosure
import Derived.Test.YtcggmonnajggcaaCycSame
namespace Go.Proofs.Ytcggmonnajggcaa
open Go.RowKit

/-- A slice value that leads to these edges, and that may be cut to its length. -/
def EdgesC (w : World) (v : Value) (l : List (Nat × Nat)) : Prop := ∃ a c, v = .slice a (edgesOf l).length c ∧ EdgesA w.heap.size w a (edgesOf l) ∧ (edgesOf l).length ≤ 9223372036854775807 ∧ (edgesOf l).length ≤ c
theorem EdgesC.edges {w : World} {v : Value} {l : List (Nat × Nat)} (h : EdgesC w v l) : Edges w v l := by
  obtain ⟨a, c, e, h1, h2, _⟩ := h
  exact ⟨a, c, e, h1, h2⟩
theorem EdgesC.below {w w' : World} {v : Value} {l : List (Nat × Nat)} (h : EdgesC w v l) (hb : Below w.heap.size w w') : EdgesC w' v l := by
  obtain ⟨a, c, e, hi, hl⟩ := h
  exact ⟨a, c, e, (hi.below hb).mono hb.size, hl⟩
theorem OwnE.known {B : Nat} {l : List (Nat × Nat)} {v : Value} {w : World} (h : OwnE B l v w) : EdgesC w v l := by
  obtain ⟨a', c', e', hc1, hc2⟩ := own_sliceS h
  by_cases hv : v = .slice none 0 0
  · have hl : l = [] := by
      rcases h.2 with ⟨_, e⟩ | ⟨g, cap, cur, e, _⟩
      · exact List.eq_nil_of_length_eq_zero e
      · rw [hv] at e; cases e
    subst hl
    exact ⟨none, 0, hv, fun j hj => by simp [edgesOf] at hj, by simp [edgesOf], by simp [edgesOf]⟩
  · have hr : ∃ g cap, v = .slice (some ⟨g, 0, none⟩) l.length cap ∧ w.ownsRow B TE 2 v l.length (edV l) := by
      rcases h.2 with ⟨e, _⟩ | ⟨g, cap, cur, e, _⟩
      · exact absurd e hv
      · exact ⟨g, cap, e, h⟩
    obtain ⟨a, c, e, hi, h2⟩ := RowE.known (B := B) hr
    refine ⟨a, c, e, hi, h2, ?_⟩
    rw [e] at e'
    injection e' with _ e2 e3
    rw [edgesOf_length, e3]
    exact hc1
/-- A call that returns edges that may be cut, and an error. -/
def RetEC (l : List (Nat × Nat)) (x : Int) (w : World) (e : Ending) (w' : World) : Prop := ∃ v, e = .returned (.tuple #[v, .int .i64 x]) ∧ EdgesC w' v l ∧ Below w.heap.size w w'
theorem RetEC.ret {l : List (Nat × Nat)} {x : Int} {w : World} {e : Ending} {w' : World} (h : RetEC l x w e w') : RetEE l x w e w' := by
  obtain ⟨v, e, hr, hb⟩ := h
  exact ⟨v, e, hr.edges, hb⟩
theorem GivN.ret {l : List Nat} {x : Int} {w : World} {e : Ending} {w' : World} (h : GivN l x w e w') : RetIE l x w e w' := by
  obtain ⟨v, e, hr, hb⟩ := h
  exact ⟨v, e, hr.known, hb⟩
theorem cycDL_eq (n : Int) (es : List (Int × Int)) : cycDL n es = cycL n es ∧ cycDE n es = cycE n es := by
  unfold cycDL cycDE cycL cycE
  by_cases hc : chkE n es = 0
  · obtain ⟨N, rfl, hN, hl, hok⟩ := chk_ok hc
    have hg : ∀ e, e ∈ gN es → e.1 < N ∧ e.2 < N := by
      intro e he
      obtain ⟨x, hx, rfl⟩ := List.mem_map.1 he
      have := hok x hx
      dsimp only
      omega
    rw [if_pos hc, if_pos hc, if_pos hc, if_pos hc, Int.toNat_natCast, cyc_same hg (chk_srt hc)]
    exact ⟨rfl, rfl⟩
  · rw [if_neg hc, if_neg hc, if_neg hc, if_neg hc]
    exact ⟨rfl, rfl⟩
theorem myCheck (n : Int) (ad : Option Addr) (cap : Nat) (es : List (Int × Int)) (w : World) (hE : EdgesA w.heap.size w ad es) (hl : es.length ≤ 9223372036854775807) :
    Calls Try.prog 13 #[.int .i64 n, .slice ad es.length cap] w fun e w' => e = .returned (.int .i64 (chkE n es)) ∧ Below w.heap.size w w' := devCheck_any n ad cap es w hE hl
theorem myReach (n s : Int) (ad : Option Addr) (cap : Nat) (es : List (Int × Int)) (w : World) (hE : EdgesA w.heap.size w ad es) (hl : es.length ≤ 9223372036854775807) (hcap : es.length ≤ cap) :
    Calls Try.prog 16 #[.int .i64 n, .slice ad es.length cap, .int .i64 s] w (RetI (reachL n es s) w) := by
  refine (devReach_any n s ad cap es w hE hl hcap).mono ?_
  rintro e w1 ⟨v, rfl, hr, b1⟩
  exact ⟨v, rfl, hr.known, b1⟩
theorem myComponents (n : Int) (ad : Option Addr) (cap : Nat) (es : List (Int × Int)) (w : World) (hE : EdgesA w.heap.size w ad es) (hl : es.length ≤ 9223372036854775807) (hcap : es.length ≤ cap) :
    Calls Try.prog 19 #[.int .i64 n, .slice ad es.length cap] w (RetL (compL n es) w) := by
  refine (devComponents_any n ad cap es w hE hl hcap).mono ?_
  rintro e w1 ⟨v, rfl, hr, b1⟩
  exact ⟨v, rfl, hr.known, b1⟩
theorem myOrder (n : Int) (ad : Option Addr) (cap : Nat) (es : List (Int × Int)) (w : World) (hE : EdgesA w.heap.size w ad es) (hl : es.length ≤ 9223372036854775807) (hcap : es.length ≤ cap) :
    Calls Try.prog 21 #[.int .i64 n, .slice ad es.length cap] w (RetIE (ordL n es) (ordE n es) w) :=
  (devOrder_any n ad cap es w hE hl hcap).mono fun _ _ h => h.ret
theorem myCycle (n : Int) (ad : Option Addr) (cap : Nat) (es : List (Int × Int)) (w : World) (hE : EdgesA w.heap.size w ad es) (hl : es.length ≤ 9223372036854775807) (hcap : es.length ≤ cap) :
    Calls Try.prog 23 #[.int .i64 n, .slice ad es.length cap] w (RetIE (cycL n es) (cycE n es) w) := by
  rw [← (cycDL_eq n es).1, ← (cycDL_eq n es).2]
  exact (devCycle_any n ad cap es w hE hl hcap).mono fun _ _ h => h.ret
theorem myRanks (n : Int) (ad : Option Addr) (cap : Nat) (es : List (Int × Int)) (w : World) (hE : EdgesA w.heap.size w ad es) (hl : es.length ≤ 9223372036854775807) (hcap : es.length ≤ cap) :
    Calls Try.prog 25 #[.int .i64 n, .slice ad es.length cap] w (RetIE (rankL n es) (ordE n es) w) :=
  (devRanks_any n ad cap es w hE hl hcap).mono fun _ _ h => h.ret
theorem myClosureC (n : Int) (ad : Option Addr) (cap : Nat) (es : List (Int × Int)) (w : World) (hE : EdgesA w.heap.size w ad es) (hl : es.length ≤ 9223372036854775807) (hcap : es.length ≤ cap) :
    Calls Try.prog 27 #[.int .i64 n, .slice ad es.length cap] w (RetEC (cloL n es) (cloE n es) w) := by
  refine (devClosure_any n ad cap es w hE hl hcap).mono ?_
  rintro e w1 ⟨v, rfl, hr, b1⟩
  exact ⟨v, rfl, hr.known, b1⟩
theorem myClosure (n : Int) (ad : Option Addr) (cap : Nat) (es : List (Int × Int)) (w : World) (hE : EdgesA w.heap.size w ad es) (hl : es.length ≤ 9223372036854775807) (hcap : es.length ≤ cap) :
    Calls Try.prog 27 #[.int .i64 n, .slice ad es.length cap] w (RetEE (cloL n es) (cloE n es) w) :=
  (myClosureC n ad cap es w hE hl hcap).mono fun _ _ h => h.ret

end Go.Proofs.Ytcggmonnajggcaa
