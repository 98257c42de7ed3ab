/-
  From what a law's walk is told of a slice of ints that came in to the list that it holds.
-/
import Derived.Test.YtdnjjppidolnbaaSame
import Derived.OpenShut
namespace Go.Proofs.Ytdnjjppidolnbaa
open Go.RowKit

theorem rowInts {w : World} {a : Option Addr} {len cap : Nat} {zs : List Int} (h : (a = none ∧ len = 0 ∧ cap = 0 ∧ zs = []) ∨
    ∃ x, a = some x ∧ len ≤ cap ∧ cap ≤ maxLen ∧ zs.length = cap ∧ (∀ i, i < zs.length → w.cell? (x.add i) = some (.int .i64 (zs.getD i 0))) ∧ ∀ n ∈ zs, (Lit.int .i64 n).wf = true) :
    ∃ l : List Int, l.length = len ∧ len ≤ 9223372036854775807 ∧ IntsA w.heap.size w a l ∧ (∀ n ∈ l, -9223372036854775808 ≤ n ∧ n ≤ 9223372036854775807) := by
  rcases h with ⟨rfl, rfl, rfl, rfl⟩ | ⟨x, rfl, hl, hm, hz, hc, hw⟩
  · exact ⟨[], rfl, by omega, fun j hj => by simp at hj, by simp⟩
  · unfold maxLen at hm
    refine ⟨zs.take len, by simp; omega, by omega, fun j hj => ?_, fun n hn => ?_⟩
    · simp only [List.length_take] at hj
      obtain ⟨b, off, rfl, hc2⟩ := Go.ints_at hc (by omega)
      have := hc2 j (by omega)
      refine ⟨b, off, rfl, World.block_lt_of_cell? _ _ this, ?_⟩
      rw [this]
      simp [show j < len from by omega]
    · have := hw n (List.mem_of_mem_take hn)
      simp [Lit.wf] at this
      exact this

end Go.Proofs.Ytdnjjppidolnbaa
