/-
  Two operators in a row.
-/
import Derived.Test.YtdgphhdkeikbaaaDoorLxAwake
namespace Go.Proofs.YtdgphhdkeikbaaaDoor
set_option linter.unusedSimpArgs false
set_option linter.unusedVariables false
open Go.RowKit

structure OpG where
  s : ByteArray
  o : Int
  p : Int
def opsG : List OpG := [⟨⟨#[43]⟩, 3, 4⟩, ⟨⟨#[45]⟩, 4, 4⟩, ⟨⟨#[42]⟩, 5, 5⟩, ⟨⟨#[47]⟩, 6, 5⟩, ⟨⟨#[37]⟩, 7, 5⟩, ⟨⟨#[61, 61]⟩, 8, 3⟩, ⟨⟨#[33, 61]⟩, 9, 3⟩, ⟨⟨#[60]⟩, 10, 3⟩, ⟨⟨#[60, 61]⟩, 11, 3⟩, ⟨⟨#[62]⟩, 12, 3⟩, ⟨⟨#[62, 61]⟩, 13, 3⟩, ⟨⟨#[38, 38]⟩, 14, 2⟩, ⟨⟨#[124, 124]⟩, 15, 1⟩]
def gO (i : Nat) : OpG := opsG[i]?.getD ⟨.empty, 0, 0⟩
def txG (x y : OpG) : ByteArray := bB (97 :: (x.s.data.toList ++ 98 :: (y.s.data.toList ++ [99])))
theorem by_list {x y : ByteArray} (h : x.data.toList = y.data.toList) : x = y := by
  cases x; cases y
  have : ∀ {a b : Array UInt8}, a.toList = b.toList → a = b := fun h => Array.toList_inj.1 h
  exact congrArg _ (this h)
theorem txG_eq (x y : OpG) : ⟨#[97]⟩ ++ x.s ++ ⟨#[98]⟩ ++ y.s ++ ⟨#[99]⟩ = txG x y := by
  apply by_list
  unfold txG
  rw [bB_list]
  simp
def xA : Ex := nmX ⟨#[97]⟩
def xB : Ex := nmX ⟨#[98]⟩
def xC : Ex := nmX ⟨#[99]⟩
def wtG (x y : OpG) : Ex × Nat × Int := if x.p = 3 ∧ y.p = 3 then (zeroX, 2 + x.s.size, 3) else if x.p < y.p then (biX x.o xA (biX y.o xB xC), 0, 0) else (biX y.o (biX x.o xA xB) xC, 0, 0)
def okG (x y : OpG) : Bool := eqE (psF (txG x y)).1 (wtG x y).1 && decide ((psF (txG x y)).2 = (wtG x y).2) && (decide (x.p = 3 ∧ y.p = 3) || equE (wtG x y).1 (wtG x y).1)
set_option maxRecDepth 100000 in
theorem all_okG : (opsG.all fun x => opsG.all fun y => okG x y) = true := by decide +kernel
theorem psG (i k : Nat) (hi : i < 13) (hk : k < 13) : psF (txG (gO i) (gO k)) = wtG (gO i) (gO k) ∧ (¬ ((gO i).p = 3 ∧ (gO k).p = 3) → equE (wtG (gO i) (gO k)).1 (wtG (gO i) (gO k)).1 = true) := by
  have h := List.all_eq_true.1 all_okG (gO i) (by unfold gO; rw [List.getElem?_eq_getElem (show i < opsG.length from hi)]; exact List.getElem_mem _)
  have h2 := List.all_eq_true.1 h (gO k) (by unfold gO; rw [List.getElem?_eq_getElem (show k < opsG.length from hk)]; exact List.getElem_mem _)
  simp only [okG, Bool.and_eq_true, Bool.or_eq_true, decide_eq_true_eq] at h2
  obtain ⟨⟨h3, h4⟩, h5⟩ := h2
  exact ⟨Prod.ext ((eqE_iff _ _).1 h3) h4, fun hn => h5.resolve_left hn⟩
end Go.Proofs.YtdgphhdkeikbaaaDoor
