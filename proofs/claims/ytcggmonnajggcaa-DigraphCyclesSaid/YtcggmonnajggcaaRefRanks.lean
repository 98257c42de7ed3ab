/-
  What the reference's Ranks of digraph returns.
-/
import Derived.Test.YtcggmonnajggcaaRefOrder
import Derived.Test.YtcggmonnajggcaaRankPlain
import Derived.StillTailTactics
namespace Go.Proofs.Ytcggmonnajggcaa
open Go.RowKit

/-- The numbers l in a row of the call's own. -/
def NumsAt (B G N : Nat) (l : List Nat) (W : World) : Prop := W.ownsRow B TI 1 (.slice (some ⟨G, 0, none⟩) N N) N (natV l)
theorem NumsAt.cell {B G N : Nat} {l : List Nat} {W : World} (h : NumsAt B G N l W) {j b : Nat} (hj : j < N) (hb : l[j]? = some b) : W.cell? ⟨G, j, none⟩ = some (.int .i64 (b : Int)) := by
  rw [World.ownsRow.cellAt h j (by omega), natV, List.getElem?_map, hb]
  rfl
theorem NumsAt.free {B G N : Nat} {l : List Nat} {W : World} (h : NumsAt B G N l W) (j : Nat) : W.frozen? ⟨G, j, none⟩ = false := World.ownsRow.frozenAt h j
theorem NumsAt.store {B G N : Nat} {l : List Nat} {W : World} (h : NumsAt B G N l W) (j b : Nat) : NumsAt B G N (l.set j b) (W.setCell ⟨G, j, none⟩ (.int .i64 (b : Int))) := by
  have := (World.ownsRow.stored h j (.int .i64 (b : Int))).1
  unfold NumsAt natV
  rw [List.map_set]
  exact this
theorem NumsAt.row {B G N : Nat} {l : List Nat} {W : World} (h : NumsAt B G N l W) (hl : l.length = N) : RowN B l (.slice (some ⟨G, 0, none⟩) N N) W := by
  subst hl
  exact ⟨G, _, rfl, h⟩
theorem madeZero (N : Nat) : (madeCells #[Value.int .i64 0] N).toList = natV (List.replicate N 0) := by
  rw [toList_madeCells_one]
  simp [natV]
theorem own_drewN {w : World} {B n k : Nat} {T : TypeId} {v : Value} {xs : List Value} (h : w.ownsRow B T 1 v n xs) : (w.drewN k).ownsRow B T 1 v n xs := h.kept (row := none) ⟨rfl, rfl, rfl, Nat.le_refl _, fun _ _ _ => rfl⟩ (by cases hv : v.ownBlock <;> simp)
theorem below_drewN' {B k : Nat} {w w' : World} (h : Below B w w') : Below B w (w'.drewN k) := ⟨h.os, h.tape, h.output, h.size, h.block⟩

/-- What Ranks returns. -/
def rankL (n : Int) (es : List (Int × Int)) : List Nat := if ordE n es = 0 then ranksF n.toNat (gN es) (ordL n es) else []

set_option maxRecDepth 100000 in
set_option maxHeartbeats 8000000 in
theorem ranks_ok (n₀ N : Nat) (ad : Option Addr) (cap : Nat) (es : List (Int × Int)) (w : World) (hE : EdgesA n₀ w ad es) (hn₀ : n₀ ≤ w.heap.size) (hl : es.length ≤ 2000) (hN : N ≤ 200) (hok : OkE N es) (l : List Nat) (hll : l.length = N) (hlN : ∀ x ∈ l, x < N) (ho : ordL (N : Int) es = l) (he : ordE (N : Int) es = 0) :
    Calls Try.prog 26 #[.int .i64 (N : Int), .slice ad es.length cap] w (Gives (ranksF N (gN es) l) 0 w) := by
  obtain ⟨i1, ji, jz0, jz1, jz2⟩ := info_parts infoI
  have hor := order_any n₀ (N : Int) ad cap es w hE hn₀ (by omega)
  rw [ho, he] at hor
  have HOR := Lib.hid hor
  have HE := Lib.hid (hE.mono hn₀)
  have HOK := Lib.hid hok
  have HLN := Lib.hid hlN
  have HLL := Lib.hid hll
  obtain ⟨g0, hg0⟩ : ∃ g : List (Nat × Nat), gN es = g := ⟨_, rfl⟩
  rw [hg0]
  have HG0 := Lib.hid hg0
  clear hE hn₀ hor ho he hok hlN hll hg0
  go_enter Try.func26, Try.ntmps26
  go_wp2_with fail
  refine HOR.out.mono ?_
  rintro e w1 ⟨v, rfl, ⟨go, co, rfl, hown⟩, b1⟩
  have s1 := b1.size
  have HO1 := Lib.hid hown
  clear hown
  go_wp2_with (at_make; refine wpList_make_full _ rfl (.tmp 21) (.tmp 21) 28 rfl w.heap.size TI i1 (.int .i64 0) 1 Try.underlying28 ji jz0 jz1 .i64 .i64 _ _ N rfl rfl rfl rfl (by rw [jz2]; omega) (by unfold maxLen; omega) s1 ?_)
  intro w2 ho2 hg2
  rw [madeZero] at ho2
  obtain ⟨G, hG⟩ : ∃ G, w1.heap.size = G := ⟨_, rfl⟩
  rw [hG] at ho2 ⊢
  have hGB : w.heap.size ≤ G := by omega
  have hgo := (HO1.out.lt go rfl).2
  have hgG : go < G := by omega
  have HO2 := Lib.hid (HO1.out.kept hg2 (.inr (by simp [Value.ownBlock])))
  have HN2 : Hid (NumsAt w.heap.size G N (List.replicate N 0) w2) := Lib.hid ho2
  have c2 : Below w.heap.size w w2 := b1.grown hg2 s1 (fun j hj => by cases hj)
  clear ho2 hg2 hG hgo b1 s1
  go_wp2
  go_loopw [9] (fun i wr => ∃ k : Nat, k ≤ N ∧ i = .int .i64 k ∧ Hid (NumsAt w.heap.size G N ((l.take k).foldl (relaxN g0) (List.replicate N 0)) wr) ∧ Hid (Most (k * 2000) ((l.take k).foldl (relaxN g0) (List.replicate N 0))) ∧ Hid (wr.ownsRow w.heap.size TI 1 (.slice (some ⟨go, 0, none⟩) l.length co) l.length (natV l)) ∧ Below w.heap.size w wr) (fun i _ => N - (intOf i).toNat)
  case atStart => exact ⟨0, Nat.zero_le _, rfl, HN2, Lib.hid (by simpa using Most.start N), HO2, c2⟩
  case round =>
    obtain ⟨k, hk, rfl, HN, HMO, HO, hb⟩ := hrel
    by_cases hlt : k < N
    · have hkl : k < l.length := by have := HLL.out; omega
      obtain ⟨x, hx⟩ : ∃ x, l[k]? = some x := ⟨_, List.getElem?_eq_getElem hkl⟩
      have hxN : x < N := HLN.out x (List.mem_of_getElem? hx)
      have HX := Lib.hid hx
      obtain ⟨r0, hr0⟩ : ∃ r0, (l.take k).foldl (relaxN g0) (List.replicate N 0) = r0 := ⟨_, rfl⟩
      rw [hr0] at HN HMO
      have HR0 := Lib.hid hr0
      clear hx hr0
      go_wp2
      go_loopw [10] (fun j wx => ∃ q : Nat, q ≤ es.length ∧ j = .int .i64 q ∧ Hid (NumsAt w.heap.size G N ((g0.take q).foldl (relax1 x) r0) wx) ∧ Hid (Most (k * 2000 + q) ((g0.take q).foldl (relax1 x) r0)) ∧ Hid (wx.ownsRow w.heap.size TI 1 (.slice (some ⟨go, 0, none⟩) l.length co) l.length (natV l)) ∧ Below w.heap.size w wx) (fun j _ => es.length - (intOf j).toNat)
      case atStart => exact ⟨0, Nat.zero_le _, rfl, HN, HMO, HO, hb⟩
      case round =>
        obtain ⟨q, hq, rfl, HNx, HMx, HOx, hbr⟩ := hrel
        by_cases hlq : q < es.length
        · obtain ⟨bl, off, rfl, hbb, hcc⟩ := HE.out.some_ (by omega)
          obtain ⟨d1, d2⟩ := hcc q hlq
          obtain ⟨u, v, hev, hu, hv, hge⟩ := HOK.out.at_ hlq
          rw [hev] at d1 d2
          rw [HG0.out] at hge
          have e1 := (hbr.cell (p := ⟨bl, off + q * 2, none⟩) hbb).trans d1
          have e2 := (hbr.cell (p := ⟨bl, off + q * 2 + 1, none⟩) hbb).trans d2
          simp only [] at e1 e2
          have HST := Lib.hid (take_fold (relax1 x) r0 g0 q (u, v) hge)
          obtain ⟨r, hr⟩ : ∃ r, (g0.take q).foldl (relax1 x) r0 = r := ⟨_, rfl⟩
          rw [hr] at HNx HMx HST
          have HRR := Lib.hid hr
          have e3 : wr.cell? ⟨go, k, none⟩ = some (.int .i64 (x : Int)) := by
            rw [World.ownsRow.cellAt HOx.out k (by omega), natV, List.getElem?_map, HX.out]
            rfl
          have q1 : (k : Int) < (l.length : Int) := by omega
          have q2 : (q : Int) < (es.length : Int) := by omega
          have q3 : (0 : Int) ≤ (k : Int) := by omega
          have q4 : (0 : Int) ≤ (q : Int) := by omega
          clear hcc d1 d2 hev hge hr
          by_cases hux : u = x
          · have hlr : r.length = N := by have := HNx.out.1; simpa [natV] using this
            obtain ⟨a, ha⟩ : ∃ a, r[v]? = some a := ⟨_, List.getElem?_eq_getElem (by omega)⟩
            obtain ⟨b, hbx⟩ : ∃ b, r[x]? = some b := ⟨_, List.getElem?_eq_getElem (by omega)⟩
            have hgd1 : r.getD v 0 = a := by rw [List.getD_eq_getElem?_getD, ha]; rfl
            have hgd2 : r.getD x 0 = b := by rw [List.getD_eq_getElem?_getD, hbx]; rfl
            have HNN : Hid ((g0.take (q + 1)).foldl (relax1 x) r0 = r.set v (max a (b + 1))) := Lib.hid (by rw [HST.out]; unfold relax1; rw [if_pos hux, hgd1, hgd2])
            have hm1 := HMx.out a (List.mem_of_getElem? ha)
            have hm2 := HMx.out b (List.mem_of_getElem? hbx)
            have HMN : Hid (Most (k * 2000 + (q + 1)) (r.set v (max a (b + 1)))) := Lib.hid (by
              intro z hz
              rcases List.mem_or_eq_of_mem_set hz with hz | hz
              · have := HMx.out z hz; omega
              · omega)
            have t1 := HNx.out.cell hv ha
            have t2 := HNx.out.cell hxN hbx
            have t3 := HNx.out.free v
            have hst := HNx.out.store v (max a (b + 1))
            have hsg := (World.ownsRow.stored HNx.out v (.int .i64 ((max a (b + 1) : Nat) : Int))).2
            have hub : ((u : Int) == (x : Int)) = true := by rw [beq_iff_eq]; omega
            have HA := Lib.hid ha
            have HBX := Lib.hid hbx
            clear hux hgd1 hgd2 ha hbx hlr hst hsg
            go_wp2_with fail
            go_quiet (fail)
            go_wp2_with fail
            obtain ⟨we, hwe⟩ : ∃ we, (wr.drewN nq).drew = we := ⟨_, rfl⟩
            refine wp_region_still_tail 24 (by kernel_rfl) (by kernel_rfl) ?_
            change wpStill _ _ (wr.drewN nq).drew (fun a' => wpList _ _ _ _ a' (wr.drewN nq).drew) _ _
            rw [hwe]
            have p1 : we.cell? ⟨bl, off + q * 2, none⟩ = some (.int .i64 (u : Int)) := by rw [← hwe]; exact e1
            have p2 : we.cell? ⟨bl, off + q * 2 + 1, none⟩ = some (.int .i64 (v : Int)) := by rw [← hwe]; exact e2
            have p3 : we.cell? ⟨go, k, none⟩ = some (.int .i64 (x : Int)) := by rw [← hwe]; exact e3
            have p4 : we.cell? ⟨G, v, none⟩ = some (.int .i64 (a : Int)) := by rw [← hwe]; exact t1
            have p5 : we.cell? ⟨G, x, none⟩ = some (.int .i64 (b : Int)) := by rw [← hwe]; exact t2
            have p6 : we.frozen? ⟨G, v, none⟩ = false := by rw [← hwe]; exact t3
            have HNe : Hid (NumsAt w.heap.size G N r we) := Lib.hid (by rw [← hwe]; exact own_drewN (k := 1) (own_drewN HNx.out))
            have HOe : Hid (we.ownsRow w.heap.size TI 1 (.slice (some ⟨go, 0, none⟩) l.length co) l.length (natV l)) := Lib.hid (by rw [← hwe]; exact own_drewN (k := 1) (own_drewN HOx.out))
            have hbe : Below w.heap.size w we := by rw [← hwe]; exact (below_drewN' hbr).drew
            clear hwe e1 e2 e3 t1 t2 t3
            have v1 : (v : Int) < (N : Int) := by omega
            have x1 : (x : Int) < (N : Int) := by omega
            have w1' : IntKind.i64.wrap ((b : Int) + 1) = (b : Int) + 1 := IntWalk.i64_in _ (by omega)
            simp only [List.take_succ_cons, List.take_zero, List.drop_succ_cons, List.drop_zero]
            repeat still_step
            refine wpStill_nil ?_
            have HS1 : Hid (NumsAt w.heap.size G N (r.set v (max a (b + 1))) (we.setCell ⟨G, v, none⟩ (.int .i64 (if (a : Int) < (b : Int) + 1 then (b : Int) + 1 else (a : Int))))) := Lib.hid (by
              have h : (if (a : Int) < (b : Int) + 1 then (b : Int) + 1 else (a : Int)) = ((max a (b + 1) : Nat) : Int) := by split <;> omega
              rw [h]
              exact HNe.out.store v (max a (b + 1)))
            have HS2 : Hid ((we.setCell ⟨G, v, none⟩ (.int .i64 (if (a : Int) < (b : Int) + 1 then (b : Int) + 1 else (a : Int)))).ownsRow w.heap.size TI 1 (.slice (some ⟨go, 0, none⟩) l.length co) l.length (natV l)) := Lib.hid (HOe.out.kept (World.ownsRow.stored HNe.out v _).2 (.inr (by simp [Value.ownBlock]; omega)))
            have hb3 : Below w.heap.size w (we.setCell ⟨G, v, none⟩ (.int .i64 (if (a : Int) < (b : Int) + 1 then (b : Int) + 1 else (a : Int)))) := hbe.setCell (p := ⟨G, v, none⟩) hGB _
            go_wp2
            refine ⟨⟨q + 1, by omega, by go_num, ?_, ?_, HS2, hb3⟩, ?_⟩
            · rw [HNN.out]; exact HS1
            · rw [HNN.out]; exact HMN
            · simp [intOf]; omega
          · have HNN : Hid ((g0.take (q + 1)).foldl (relax1 x) r0 = r) := Lib.hid (by rw [HST.out]; unfold relax1; rw [if_neg hux])
            have hub : ((u : Int) == (x : Int)) = false := by rw [beq_eq_false_iff_ne]; omega
            clear hux
            go_wp2_with fail
            go_quiet (fail)
            go_wp2
            go_roundw
            case rel => exact ⟨q + 1, by omega, by go_num, by rw [HNN.out]; exact Lib.hid (own_drewN HNx.out), by rw [HNN.out]; exact Lib.hid (fun b hb => by have := HMx.out b hb; omega), Lib.hid (own_drewN HOx.out), below_drewN' hbr⟩
            case measure => simp [intOf]; omega
        · have HQ : Hid ((g0.take q).foldl (relax1 x) r0 = relaxN g0 r0 x) := Lib.hid (by rw [List.take_of_length_le (by rw [← HG0.out, gN_length]; omega)]; rfl)
          have HSK : Hid ((l.take (k + 1)).foldl (relaxN g0) (List.replicate N 0) = relaxN g0 r0 x) := Lib.hid (by rw [take_fold _ _ _ _ _ HX.out, HR0.out])
          have HMK : Hid (Most ((k + 1) * 2000) (relaxN g0 r0 x)) := Lib.hid (by have h := HMx.out; rw [HQ.out] at h; exact fun b hb => by have := h b hb; omega)
          have HNK : Hid (NumsAt w.heap.size G N (relaxN g0 r0 x) wr) := Lib.hid (by have h := HNx.out; rwa [HQ.out] at h)
          go_wp2
          go_roundw
          case rel => exact ⟨k + 1, by omega, by go_num, by rw [HSK.out]; exact HNK, by rw [HSK.out]; exact HMK, HOx, hbr⟩
          case measure => simp [intOf]; omega
    · have HF : Hid ((l.take k).foldl (relaxN g0) (List.replicate N 0) = ranksF N g0 l) := Lib.hid (by rw [List.take_of_length_le (by have := HLL.out; omega)]; rfl)
      have HRW : Hid (RowN w.heap.size (ranksF N g0 l) (.slice (some ⟨G, 0, none⟩) N N) wr) := Lib.hid (by
        have h := HN.out
        rw [HF.out] at h
        exact h.row (ranksF_length N g0 l))
      go_wp2
      go_ret2
      exact ⟨_, rfl, HRW.out, hb⟩

set_option maxRecDepth 100000 in
set_option maxHeartbeats 4000000 in
theorem ranks_any (n₀ : Nat) (n : Int) (ad : Option Addr) (cap : Nat) (es : List (Int × Int)) (w : World) (hE : EdgesA n₀ w ad es) (hn₀ : n₀ ≤ w.heap.size) (hl : es.length ≤ 9223372036854775807) :
    Calls Try.prog 26 #[.int .i64 n, .slice ad es.length cap] w (Gives (rankL n es) (ordE n es) w) := by
  by_cases ho : ordE n es = 0
  · unfold rankL
    rw [if_pos ho]
    have hc : chkE n es = 0 := by
      unfold ordE at ho
      by_cases h : chkE n es = 0
      · exact h
      · rw [if_neg h] at ho; cases ho
    obtain ⟨N, rfl, hN, hl2, hok⟩ := chk_ok hc
    obtain ⟨l, hle⟩ : ∃ l, orderFrom N (gN es) [] = some l := by
      unfold ordE at ho
      rw [if_pos hc, Int.toNat_natCast] at ho
      cases h : orderFrom N (gN es) [] with
      | none => rw [h] at ho; cases ho
      | some l => exact ⟨l, rfl⟩
    obtain ⟨h1, h2⟩ := orderFrom_length (Nat.zero_le _) (fun x hx => by cases hx) hle
    have hL : ordL (N : Int) es = l := by
      unfold ordL
      rw [if_pos hc, Int.toNat_natCast, hle]
      rfl
    rw [hL, ho, Int.toNat_natCast]
    exact ranks_ok n₀ N ad cap es w hE hn₀ hl2 hN hok l h1 h2 hL ho
  · unfold rankL
    rw [if_neg ho]
    have hor := order_any n₀ n ad cap es w hE hn₀ hl
    have hcb : (ordE n es != 0) = true := by simpa using ho
    obtain ⟨c, hce⟩ : ∃ c, ordE n es = c := ⟨_, rfl⟩
    obtain ⟨l, hle⟩ : ∃ l, ordL n es = l := ⟨_, rfl⟩
    rw [hce, hle] at hor
    rw [hce] at hcb ⊢
    have HOR := Lib.hid hor
    clear hE ho hor hce hle
    go_enter Try.func26, Try.ntmps26
    go_wp2_with fail
    refine HOR.out.mono ?_
    rintro e w1 ⟨v, rfl, hv, b1⟩
    have HL : Hid (w.heap.size ≤ w1.heap.size) := Lib.hid b1.size
    clear hv
    go_wp2
    go_ret2
    exact ⟨_, rfl, RowN.empty w1 _ HL.out, b1.alloc HL.out _⟩

end Go.Proofs.Ytcggmonnajggcaa
