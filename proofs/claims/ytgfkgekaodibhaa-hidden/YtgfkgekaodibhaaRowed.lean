/- A slice of integers that came in, as a list. -/
import Derived.Test.YtgfkgekaodibhaaLists
import Derived.ChangeOld
namespace Go.Proofs.Ytgfkgekaodibhaa
open Go.RowKit
set_option linter.unusedVariables false

theorem cell_in {w : World} {a : Addr} {v : Value} (h : w.cell? a = some v) : a.block < w.heap.size := by
  have hs := World.cell?_spot h
  obtain ⟨b, off, spot⟩ := a
  refine World.cells?_block (w := w) (base := 0) (a := ⟨b, off, spot⟩) (n := 1) (cs := [v]) ?_ (by omega)
  simp [World.cells?, Addr.add, h]

theorem rowed {w : World} {a : Option Addr} {len cap : Nat} {zs : List Int}
    (h : (a = none ∧ len = 0 ∧ cap = 0 ∧ zs = []) ∨ ∃ x, a = some x ∧ len ≤ cap ∧ cap ≤ maxLen ∧ zs.length = cap ∧ (∀ i, i < zs.length → w.cell? (x.add i) = some (.int .i64 (zs.getD i 0))) ∧ ∀ n ∈ zs, (Lit.int .i64 n).wf = true) :
    ListAt w (.slice a len cap) (zs.take len) ∧ (zs.take len).length = len := by
  rcases h with ⟨rfl, rfl, rfl, rfl⟩ | ⟨x, rfl, hl, hm, hz, hcell, hwz⟩
  · exact ⟨⟨none, 0, rfl, by simp, Nat.zero_le _, by simp, .inl rfl⟩, rfl⟩
  · have htl : (zs.take len).length = len := by rw [List.length_take]; omega
    refine ⟨⟨some x, cap, by rw [htl], by omega, hm, fun z hz' => bounds_i64 (hwz z (List.mem_of_mem_take hz')), ?_⟩, htl⟩
    rcases Nat.eq_zero_or_pos len with h0 | h0
    · exact .inl (by rw [h0]; rfl)
    · right
      obtain ⟨b, off, spot⟩ := x
      have hc0 := hcell 0 (by omega)
      have hspot : spot = none := by simpa [Addr.add] using World.cell?_spot hc0
      subst hspot
      refine ⟨b, off, rfl, cell_in hc0, fun i hi => ?_⟩
      have hci := hcell i (by omega)
      rw [List.getD_eq_getElem?_getD, List.getElem?_take_of_lt (by omega), ← List.getD_eq_getElem?_getD, ← hci]
      unfold Addr.add
      by_cases hi0 : i = 0
      · simp [hi0]
      · simp [hi0]

end Go.Proofs.Ytgfkgekaodibhaa
