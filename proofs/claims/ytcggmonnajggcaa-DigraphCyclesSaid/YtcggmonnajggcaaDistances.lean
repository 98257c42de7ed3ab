/-
  What the reference's distances of digraph returns.
-/
import Derived.Test.YtcggmonnajggcaaRefOrder
import Derived.Test.YtcggmonnajggcaaDistPlain
namespace Go.Proofs.Ytcggmonnajggcaa
open Go.RowKit

/-- The numbers l (of any sign) in a row of the call's own. -/
def zV (l : List Int) : List Value := l.map fun (x : Int) => Value.int .i64 x
def ZsAt (B G N : Nat) (l : List Int) (W : World) : Prop := W.ownsRow B TI 1 (.slice (some ⟨G, 0, none⟩) N N) N (zV l)
theorem ZsAt.cell {B G N : Nat} {l : List Int} {W : World} (h : ZsAt B G N l W) {j : Nat} {b : Int} (hj : j < N) (hb : l[j]? = some b) : W.cell? ⟨G, j, none⟩ = some (.int .i64 b) := by
  rw [World.ownsRow.cellAt h j (by omega), zV, List.getElem?_map, hb]
  rfl
theorem ZsAt.free {B G N : Nat} {l : List Int} {W : World} (h : ZsAt B G N l W) (j : Nat) : W.frozen? ⟨G, j, none⟩ = false := World.ownsRow.frozenAt h j
theorem ZsAt.store {B G N : Nat} {l : List Int} {W : World} (h : ZsAt B G N l W) (j : Nat) (b : Int) : ZsAt B G N (l.set j b) (W.setCell ⟨G, j, none⟩ (.int .i64 b)) := by
  have := (World.ownsRow.stored h j (.int .i64 b)).1
  unfold ZsAt zV
  rw [List.map_set]
  exact this
theorem madeZ (N : Nat) : (madeCells #[Value.int .i64 0] N).toList = zV (List.replicate N 0) := by
  rw [toList_madeCells_one]
  simp [zV]

set_option maxRecDepth 100000 in
set_option maxHeartbeats 8000000 in
theorem distances_any (n₀ N t : Nat) (ad : Option Addr) (cap : Nat) (es : List (Int × Int)) (w : World) (hE : EdgesA n₀ w ad es) (hn₀ : n₀ ≤ w.heap.size) (hl : es.length ≤ 2000) (hN : N ≤ 200) (ht : t < N) (hok : OkE N es) :
    Calls Try.prog 63 #[.int .i64 (N : Int), .slice ad es.length cap, .int .i64 (t : Int)] w fun e w' => e = .returned (.slice (some ⟨w.heap.size, 0, none⟩) N N) ∧ ZsAt w.heap.size w.heap.size N (distF N (gN es) t) w' ∧ Below w.heap.size w w' := by
  obtain ⟨i1, ji, jz0, jz1, jz2⟩ := info_parts infoI
  have HE := Lib.hid (hE.mono hn₀)
  have HOK := Lib.hid hok
  obtain ⟨g0, hg0⟩ : ∃ g : List (Nat × Nat), gN es = g := ⟨_, rfl⟩
  rw [hg0]
  have HG0 := Lib.hid hg0
  clear hE hok hn₀ hg0
  go_enter Try.func63, Try.ntmps63
  go_wp2_with (at_make; refine wpList_make_full _ rfl (.tmp 11) (.tmp 11) 28 rfl w.heap.size TI i1 (.int .i64 0) 1 Try.underlying28 ji jz0 jz1 .i64 .i64 _ _ N rfl rfl rfl rfl (by rw [jz2]; omega) (by unfold maxLen; omega) (Nat.le_refl _) ?_)
  intro w1 ho1 hg1
  rw [madeZ, ← initK_zero] at ho1
  have c1 : Below w.heap.size w w1 := (Below.refl _ w).grown hg1 (Nat.le_refl _) (fun j hj => by cases hj)
  have HZ1 : Hid (ZsAt w.heap.size w.heap.size N (initK N 0) w1) := Lib.hid ho1
  obtain ⟨G, hG⟩ : ∃ G, w.heap.size = G := ⟨_, rfl⟩
  have HGG := Lib.hid hG
  rw [hG] at HZ1 c1 HE ⊢
  clear ho1 hg1 hG
  go_wp2
  go_loopw [8] (fun i wr => ∃ k : Nat, k ≤ N ∧ i = .int .i64 k ∧ Hid (ZsAt G G N (initK N k) wr) ∧ Below G w wr) (fun i _ => N - (intOf i).toNat)
  case atStart => exact ⟨0, Nat.zero_le _, rfl, HZ1, c1⟩
  case round =>
    obtain ⟨k, hk, rfl, HZ, hb⟩ := hrel
    by_cases hlt : k < N
    · have HS : Hid (ZsAt G G N (initK N (k + 1)) (wr.setCell ⟨G, k, none⟩ (.int .i64 (-1)))) := Lib.hid (by rw [← initK_set hlt]; exact HZ.out.store k (-1))
      have hbs := hb.setCell (p := ⟨G, k, none⟩) (Nat.le_refl _) (.int .i64 (-1))
      have t1 : wr.cell? ⟨G, k, none⟩ = some (.int .i64 0) := HZ.out.cell hlt (by rw [initK_get _ hlt, if_neg (by omega)])
      have t2 := HZ.out.free k
      have k1 : (k : Int) < (N : Int) := by omega
      go_wp2
      go_roundw
      case rel => exact ⟨k + 1, by omega, by go_num, HS, hbs⟩
      case measure => simp [intOf]; omega
    · have hkN : k = N := by omega
      have HA : Hid (ZsAt G G N (List.replicate N (-1)) wr) := Lib.hid (by rw [← initK_all]; exact hkN ▸ HZ.out)
      have HS : Hid (ZsAt G G N ((List.range 0).foldl (distN g0) (dist0 N t)) (wr.setCell ⟨G, t, none⟩ (.int .i64 0))) := Lib.hid (HA.out.store t 0)
      have hbs := hb.setCell (p := ⟨G, t, none⟩) (Nat.le_refl _) (.int .i64 0)
      have t1 : wr.cell? ⟨G, t, none⟩ = some (.int .i64 (-1)) := HA.out.cell ht (by simp [ht])
      have t2 := HA.out.free t
      have k1 : (t : Int) < (N : Int) := by omega
      clear hkN
      go_wp2
      clear t1 t2
      go_loopw [9] (fun i wr => ∃ k : Nat, k ≤ N ∧ i = .int .i64 k ∧ Hid (ZsAt G G N ((List.range k).foldl (distN g0) (dist0 N t)) wr) ∧ Below G w wr) (fun i _ => N - (intOf i).toNat)
      case atStart => exact ⟨0, Nat.zero_le _, rfl, HS, hbs⟩
      case round =>
        obtain ⟨d, hd, rfl, HZd, hbd⟩ := hrel
        by_cases hld : d < N
        · obtain ⟨r0, hr0⟩ : ∃ r0, (List.range d).foldl (distN g0) (dist0 N t) = r0 := ⟨_, rfl⟩
          have HLR : Hid (r0.length = N) := Lib.hid (by rw [← hr0]; exact dists_length N d g0 t)
          rw [hr0] at HZd
          have HR0 := Lib.hid hr0
          clear hr0
          go_wp2
          go_loopw [10] (fun i wx => ∃ q : Nat, q ≤ es.length ∧ i = .int .i64 q ∧ Hid (ZsAt G G N ((g0.take q).foldl (dist1 d) r0) wx) ∧ Below G w wx) (fun i _ => es.length - (intOf i).toNat)
          case atStart => exact ⟨0, Nat.zero_le _, rfl, HZd, hbd⟩
          case round =>
            obtain ⟨q, hq, rfl, HZx, hbr⟩ := hrel
            by_cases hlq : q < es.length
            · obtain ⟨bl, off, rfl, hbb, hcc⟩ := HE.out.some_ (by omega)
              obtain ⟨d1, d2⟩ := hcc q hlq
              obtain ⟨u, v, hev, hu, hv, hge⟩ := HOK.out.at_ hlq
              rw [hev] at d1 d2
              rw [HG0.out] at hge
              have e1 := (hbr.cell (p := ⟨bl, off + q * 2, none⟩) hbb).trans d1
              have e2 := (hbr.cell (p := ⟨bl, off + q * 2 + 1, none⟩) hbb).trans d2
              simp only [] at e1 e2
              have hst := fold_snoc (dist1 d) r0 g0 q (u, v) hge
              obtain ⟨r, hr⟩ : ∃ r, (g0.take q).foldl (dist1 d) r0 = r := ⟨_, rfl⟩
              have hlr : r.length = N := by rw [← hr, sweep_length]; exact HLR.out
              rw [hr] at HZx hst
              obtain ⟨a, ha⟩ : ∃ a, r[v]? = some a := ⟨_, List.getElem?_eq_getElem (by omega)⟩
              obtain ⟨b, hbu⟩ : ∃ b, r[u]? = some b := ⟨_, List.getElem?_eq_getElem (by omega)⟩
              have t1 := HZx.out.cell hv ha
              have t2 := HZx.out.cell hu hbu
              have t3 := HZx.out.free u
              have q2 : (q : Int) < (es.length : Int) := by omega
              have q4 : (0 : Int) ≤ (q : Int) := by omega
              have v1 : (v : Int) < (N : Int) := by omega
              have u1 : (u : Int) < (N : Int) := by omega
              by_cases had : a = (d : Int)
              · subst had
                by_cases hneg : b < 0
                · rw [dist1_yes ha hbu hneg] at hst
                  have HST := Lib.hid hst
                  have HS2 := Lib.hid (HZx.out.store u ((d : Int) + 1))
                  have hbs2 := hbr.setCell (p := ⟨G, u, none⟩) (Nat.le_refl _) (.int .i64 ((d : Int) + 1))
                  clear hcc d1 d2 hev hge hr hst ha hbu hlr
                  go_wp2
                  go_roundw
                  case rel => exact ⟨q + 1, by omega, by go_num, by rw [HST.out]; exact HS2, hbs2⟩
                  case measure => simp [intOf]; omega
                · rw [dist1_had hbu hneg] at hst
                  have HST := Lib.hid hst
                  clear hcc d1 d2 hev hge hr hst ha hbu hlr
                  go_wp2
                  go_roundw
                  case rel => exact ⟨q + 1, by omega, by go_num, by rw [HST.out]; exact HZx, hbr⟩
                  case measure => simp [intOf]; omega
              · rw [dist1_far ha had] at hst
                have hab : (a == (d : Int)) = false := by rw [beq_eq_false_iff_ne]; exact had
                have HST := Lib.hid hst
                clear hcc d1 d2 hev hge hr hst ha hbu hlr had
                go_wp2
                go_roundw
                case rel => exact ⟨q + 1, by omega, by go_num, by rw [HST.out]; exact HZx, hbr⟩
                case measure => simp [intOf]; omega
            · have HN : Hid (ZsAt G G N ((List.range (d + 1)).foldl (distN g0) (dist0 N t)) wr) := Lib.hid (by
                have h := HZx.out
                rw [List.take_of_length_le (by rw [← HG0.out, gN_length]; omega)] at h
                rw [range_fold, HR0.out]
                exact h)
              go_wp2
              go_roundw
              case rel => exact ⟨d + 1, by omega, by go_num, HN, hbr⟩
              case measure => simp [intOf]; omega
        · have HN : Hid (ZsAt G G N (distF N g0 t) wr) := Lib.hid (by
            have h : d = N := by omega
            unfold distF
            exact h ▸ HZd.out)
          go_wp2
          go_ret
          have h := HGG.out
          subst h
          exact ⟨rfl, HN.out, hbd⟩

end Go.Proofs.Ytcggmonnajggcaa
