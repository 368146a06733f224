/- A script that came in, opened: each step's cells. -/
import Derived.Test.YtchideljndagjaaGreatPlays
import Derived.Deep.Slices
import Derived.ChangeOld
import Derived.SizedLaws
namespace Go.Proofs.YtchideljndagjaaGreat
open Go.ChangeShapes Go.WideShapes Go.ChangeAt Go.RowKit Go.Deep
set_option linter.unusedVariables false

theorem cellsInt : Tryz.prog.cellsOf 3 = 1 := by kernel_rfl
theorem cellsInts : Tryz.prog.cellsOf 35 = 1 := by kernel_rfl
theorem bytesInt : Tryz.prog.bytesOf 3 = 8 := by kernel_rfl
theorem bytesOp : Tryz.prog.bytesOf 45 = 168 := by kernel_rfl
theorem cellsOp : Tryz.prog.cellsOf 45 = 14 := by kernel_rfl

section
variable {H : Type} {enc : TypeId × Value → H} {w : World} {spare : Nat → Bool} {held : Bool}

theorem cell_block {a : Addr} {v : Value} (h : w.cell? a = some v) : a.block < w.heap.size := by
  have hs := World.cell?_spot h
  obtain ⟨b, off, spot⟩ := a
  refine World.cells?_block (w := w) (base := 0) (a := ⟨b, off, spot⟩) (n := 1) (cs := [v]) ?_ (by omega)
  simp [World.cells?, Addr.add, h]

theorem int_of {n : Nat} {c : Value} {y : DataW H × List MemPlace} (h : DataW.trod enc Tryz.prog w 0 spare held n 3 [c] = some y) : ∃ x : Int, c = .int .i64 x ∧ inI x := by
  obtain ⟨x, e, _, hx⟩ := DataW.trod_int Tryz.underlying3 h
  simp at e
  exact ⟨x, e, bounds_i64 hx⟩

theorem mem_all {P : Program} {e : TypeId} {d : DataW H} : ∀ {l : List (DataW H)}, d ∈ l → ∀ n ∈ d.weights P e, n ∈ DataW.weightsAll P e l
  | [], h, _, _ => by cases h
  | x :: l, h, n, hn => by
    rw [DataW.weightsAll]
    rcases List.mem_cons.1 h with e | h
    · subst e; exact List.mem_append.2 (.inl hn)
    · exact List.mem_append.2 (.inr (mem_all h n hn))

theorem list_of {n : Nat} {c : Value} {y : DataW H × List MemPlace} (h : DataW.trod enc Tryz.prog w 0 spare held n 35 [c] = some y) (hw : ∀ n ∈ y.1.weights Tryz.prog 35, n ≤ reachBytes) : ListIs w c := by
  rcases open_ints Tryz.underlying35 Tryz.underlying3 cellsInt h with ⟨hcs, _⟩ | ⟨x, l, c', zs, hcs, _, hl, hm, hz, hy, hcell, hwz⟩
  · simp at hcs
    exact ⟨[], ⟨none, 0, hcs, by simp, by unfold maxLen; omega, by simp, .inl rfl⟩, by simp⟩
  · simp at hcs
    have hcap : l ≤ zs.length := by rw [hz]; split <;> omega
    have htl : (zs.take l).length = l := by rw [List.length_take]; omega
    have hbytes := hw _ (by rw [hy]; simp only [DataW.weights, Tryz.underlying35]; exact List.mem_cons_self)
    rw [bytesInt] at hbytes
    simp only [lits, List.length_map, List.length_take, List.length_drop, reachBytes] at hbytes
    refine ⟨zs.take l, ⟨some x, c', by rw [htl]; exact hcs, by omega, hm, fun z hz' => bounds_i64 (hwz z (List.mem_of_mem_take hz')), ?_⟩, by rw [htl]; omega⟩
    rcases Nat.eq_zero_or_pos l with h0 | h0
    · exact .inl (by rw [h0]; rfl)
    · right
      obtain ⟨b, off, spot⟩ := x
      have hc0 := hcell 0 (by omega)
      have hspot : spot = none := by simpa [Addr.add] using World.cell?_spot hc0
      subst hspot
      refine ⟨b, off, rfl, ?_, fun i hi => ?_⟩
      · exact cell_block hc0
      · have hci := hcell i (by omega)
        rw [List.getD_eq_getElem?_getD, List.getElem?_take_of_lt (by omega), ← List.getD_eq_getElem?_getD, ← hci]
        unfold Addr.add
        by_cases hi0 : i = 0
        · simp [hi0]
        · simp [hi0]

set_option maxRecDepth 100000 in
theorem op_of {n : Nat} {cs : List Value} {y : DataW H × List MemPlace} (h : DataW.trod enc Tryz.prog w 0 spare held n 45 cs = some y) (hw : ∀ n ∈ y.1.weights Tryz.prog 45, n ≤ reachBytes) :
    ∃ kd x y z r, OpIs w kd x y z r ∧ cs = opCells kd x y z r := by
  obtain ⟨xs, m, _, hy, hl, hlen, hf⟩ := DataW.trod_struct Tryz.underlying45 h
  rw [cellsOp] at hl
  match cs, hl with
  | [c0, c1, c2, c3, c4, c5, c6, c7, c8, c9, c10, c11, c12, c13], _ =>
    have f0 := hf 0 _ rfl
    have f1 := hf 1 _ rfl
    have f2 := hf 2 _ rfl
    have f3 := hf 3 _ rfl
    have f4 := hf 4 _ rfl
    simp [cellsInt, cellsInts] at f0 f1 f2 f3 f4
    have hlen9 : xs.length = 9 := hlen
    rw [List.getElem?_eq_getElem (by omega)] at f0 f1 f2 f3 f4
    obtain ⟨kd, rfl, k0⟩ := int_of f0
    obtain ⟨x, rfl, k1⟩ := int_of f1
    obtain ⟨y, rfl, k2⟩ := int_of f2
    obtain ⟨z, rfl, k3⟩ := int_of f3
    have hw4 : ∀ n ∈ (xs[4]).1.weights Tryz.prog 35, n ≤ reachBytes := fun n hn => hw n (by
      rw [hy]
      simp only [DataW.weights, Tryz.underlying45]
      refine DataW.weights_mem_each (j := 4) (t := 35) (d := (xs[4]).1) rfl ?_ n hn
      rw [List.getElem?_map, List.getElem?_eq_getElem (by omega)]; rfl)
    exact ⟨kd, x, y, z, fun j => [c4, c5, c6, c7, c8, c9, c10, c11, c12, c13].getD j undef, ⟨k0, k1, k2, k3, list_of f4 hw4⟩, rfl⟩

theorem scr_of {n : Nat} {a : Option Addr} {len cap : Nat} {y : DataW H × List MemPlace} (h : DataW.trod enc Tryz.prog w 0 spare held n 22 [.slice a len cap] = some y) (hw : ∀ n ∈ y.1.weights Tryz.prog 22, n ≤ reachBytes) : Scr w a len := by
  rcases open_slice Tryz.underlying22 h with ⟨hcs, _⟩ | ⟨x, l, c, m, n', D, Pl, hcs, _, hl, hm, hmm, hy, hx⟩
  · simp at hcs
    obtain ⟨rfl, rfl, rfl⟩ := hcs
    exact ⟨by omega, .inl rfl⟩
  · simp at hcs
    obtain ⟨rfl, rfl, rfl⟩ := hcs
    have hbytes := hw _ (by rw [hy]; simp only [DataW.weights, Tryz.underlying22]; exact List.mem_cons_self)
    rw [bytesOp] at hbytes
    simp only [List.length_map, List.length_range, reachBytes] at hbytes
    refine ⟨by omega, ?_⟩
    rcases Nat.eq_zero_or_pos len with h0 | h0
    · exact .inl h0
    · right
      have hlm : len ≤ m := by rw [hmm]; split <;> omega
      rw [cellsOp] at hx
      obtain ⟨b, off, spot⟩ := x
      obtain ⟨cs0, g1, g2⟩ := hx 0 (by omega)
      obtain ⟨_, l0, q0⟩ := World.cells?_some g1
      have q00 := q0 0 (by omega)
      rw [List.getElem?_eq_getElem (by omega)] at q00
      have hspot : spot = none := by simpa [Addr.add] using World.cell?_spot q00
      subst hspot
      refine ⟨b, off, rfl, by simpa [Addr.add] using cell_block q00, fun i hi => ?_⟩
      obtain ⟨cs, e1, e2⟩ := hx i (by omega)
      obtain ⟨_, e3, e4⟩ := World.cells?_some e1
      obtain ⟨kd, x, y', z, r, ho, hcs⟩ := op_of e2 (fun n hn => hw n (by
        rw [hy]; simp only [DataW.weights, Tryz.underlying22]
        refine List.mem_cons_of_mem _ (List.mem_append.2 (.inl (mem_all (List.mem_map.2 ⟨i, List.mem_range.2 hi, rfl⟩) n hn)))))
      refine ⟨kd, x, y', z, r, ho, fun j hj => ?_⟩
      have e5 := e4 j hj
      rw [List.getElem?_eq_getElem (by omega)] at e5
      rw [← hcs, List.getD_eq_getElem?_getD, List.getElem?_eq_getElem (by omega), Option.getD_some, ← e5, Deep.add_add]
      unfold Addr.add
      by_cases hz : i * 14 + j = 0
      · rw [if_pos hz, show off + i * 14 + j = off by omega]
      · rw [if_neg hz, show off + i * 14 + j = off + (i * 14 + j) by omega]

end
end Go.Proofs.YtchideljndagjaaGreat
