/- Arguments opened: a configuration, a draw, a list of strings. -/
import Derived.Test.YtchideljndagjaaMemAll
import Derived.Test.YtchideljndagjaaField
import Derived.Test.YtchideljndagjaaCliMemAll
import Derived.Deep.Strs
import Derived.ChangeOld
import Derived.ShutString
namespace Go.Proofs.Ytchideljndagjaa
open Go.ChangeShapes Go.WideShapes Go.ChangeAt Go.RowKit Go.Deep
set_option linter.unusedVariables false

theorem acellsInt : Try.prog.cellsOf 3 = 1 := by kernel_rfl
theorem acellsInts : Try.prog.cellsOf 28 = 1 := by kernel_rfl
theorem acellsStr : Try.prog.cellsOf 9 = 1 := by kernel_rfl
theorem acellsCfg : Try.prog.cellsOf 65 = 4 := by kernel_rfl
theorem acellsDraw : Try.prog.cellsOf 67 = 6 := by kernel_rfl

theorem arr4 {cs : Array Value} (h : cs.size = 4) : ∃ a b c d, cs = #[a, b, c, d] := by
  obtain ⟨l⟩ := cs
  match l, h with
  | [a, b, c, d], _ => exact ⟨a, b, c, d, rfl⟩
theorem arr6 {cs : Array Value} (h : cs.size = 6) : ∃ a b c d e f, cs = #[a, b, c, d, e, f] := by
  obtain ⟨l⟩ := cs
  match l, h with
  | [a, b, c, d, e, f], _ => exact ⟨a, b, c, d, e, f, rfl⟩

section
variable {H : Type} {enc : TypeId × Value → H} {w : World} {spare : Nat → Bool} {held : Bool} {r : Reach} {b0 : Nat}

theorem aint_of {n : Nat} {c : Value} {y : DataW H × List MemPlace} (h : DataW.trod enc Try.prog w 0 spare held n 3 [c] = some y) : ∃ x : Int, c = .int .i64 x ∧ inI x := by
  obtain ⟨x, e, _, hx⟩ := DataW.trod_int Try.underlying3 h
  simp at e
  exact ⟨x, e, bounds_i64 hx⟩
theorem alist_of {n : Nat} {c : Value} {y : DataW H × List MemPlace} (h : DataW.trod enc Try.prog w 0 (fun _ => true) held n 28 [c] = some y) : ∃ zs, ListAt w c zs := by
  rcases open_ints Try.underlying28 Try.underlying3 acellsInt h with ⟨hcs, _⟩ | ⟨x, l, c', zs, hcs, _, hl, hm, hz, _, hcell, hwz⟩
  · simp at hcs
    subst hcs
    exact ⟨_, (rowed (zs := []) (.inl ⟨rfl, rfl, rfl, rfl⟩)).1⟩
  · simp at hcs
    subst hcs
    exact ⟨_, (rowed (zs := zs) (.inr ⟨_, rfl, hl, hm, by simpa using hz, hcell, hwz⟩)).1⟩

set_option maxRecDepth 100000 in
theorem cfg_open {v : Value} {d : DataW H} {p : List MemPlace} (hv : Value.okWide Try.prog w r b0 65 v) (h : DataW.Trod enc Try.prog w 0 (fun _ => true) held 65 v d p) :
    ∃ N T M D : Int, v = .agg #[.int .i64 N, .int .i64 T, .int .i64 M, .int .i64 D] := by
  obtain ⟨cs, rfl, hsz⟩ := okWide_struct Try.underlying65 hv
  rw [acellsCfg] at hsz
  obtain ⟨c0, c1, c2, c3, rfl⟩ := arr4 hsz
  obtain ⟨fuel, hf⟩ := h
  obtain ⟨xs, m, _, hy, hl, hlen, hf⟩ := DataW.trod_struct Try.underlying65 hf
  have f0 := hf 0 _ rfl
  have f1 := hf 1 _ rfl
  have f2 := hf 2 _ rfl
  have f3 := hf 3 _ rfl
  simp [acellsInt, Value.cells] at f0 f1 f2 f3
  have hlen4 : xs.length = 4 := hlen
  rw [List.getElem?_eq_getElem (by omega)] at f0 f1 f2 f3
  obtain ⟨a, rfl, _⟩ := aint_of f0
  obtain ⟨b, rfl, _⟩ := aint_of f1
  obtain ⟨c, rfl, _⟩ := aint_of f2
  obtain ⟨e, rfl, _⟩ := aint_of f3
  exact ⟨a, b, c, e, rfl⟩

set_option maxRecDepth 100000 in
theorem draw_open {v : Value} {d : DataW H} {p : List MemPlace} (hv : Value.okWide Try.prog w r b0 67 v) (h : DataW.Trod enc Try.prog w 0 (fun _ => true) held 67 v d p) :
    ∃ (vi vm vs : Value) (ch mk sd : Int) (inp sm ss : List Int), v = .agg #[vi, .int .i64 ch, .int .i64 mk, .int .i64 sd, vm, vs] ∧ ListAt w vi inp ∧ ListAt w vm sm ∧ ListAt w vs ss ∧ inI ch ∧ inI mk ∧ inI sd := by
  obtain ⟨cs, rfl, hsz⟩ := okWide_struct Try.underlying67 hv
  rw [acellsDraw] at hsz
  obtain ⟨c0, c1, c2, c3, c4, c5, rfl⟩ := arr6 hsz
  obtain ⟨fuel, hf⟩ := h
  obtain ⟨xs, m, _, hy, hl, hlen, hf⟩ := DataW.trod_struct Try.underlying67 hf
  have f0 := hf 0 _ rfl
  have f1 := hf 1 _ rfl
  have f2 := hf 2 _ rfl
  have f3 := hf 3 _ rfl
  have f4 := hf 4 _ rfl
  have f5 := hf 5 _ rfl
  simp [acellsInt, acellsInts, Value.cells] at f0 f1 f2 f3 f4 f5
  have hlen6 : xs.length = 6 := hlen
  rw [List.getElem?_eq_getElem (by omega)] at f0 f1 f2 f3 f4 f5
  obtain ⟨a, rfl, k1⟩ := aint_of f1
  obtain ⟨b, rfl, k2⟩ := aint_of f2
  obtain ⟨c, rfl, k3⟩ := aint_of f3
  obtain ⟨z0, l0⟩ := alist_of f0
  obtain ⟨z4, l4⟩ := alist_of f4
  obtain ⟨z5, l5⟩ := alist_of f5
  exact ⟨_, _, _, a, b, c, z0, z4, z5, rfl, l0, l4, l5, k1, k2, k3⟩

/-- Strings in memory. -/
def StrsAt (w : World) (a : Option Addr) (n cap : Nat) (Sx : Nat → ByteArray) : Prop :=
  n ≤ cap ∧ cap ≤ maxLen ∧ ∀ i, i < n → (Sx i).size ≤ maxLen ∧ ∃ b off, a = some ⟨b, off, none⟩ ∧ b < w.heap.size ∧ w.cell? ⟨b, off + i, none⟩ = some (.string (Sx i))

theorem strs_open {a : Option Addr} {n cap : Nat} {d : DataW H} {p : List MemPlace} (h : DataW.Trod enc Try.prog w 0 (fun _ => true) held 68 (.slice a n cap) d p) : ∃ Sx, StrsAt w a n cap Sx := by
  obtain ⟨fuel, hf⟩ := h
  rcases open_strs Try.underlying68 Try.underlying9 acellsStr hf with ⟨hcs, _⟩ | ⟨x, len, cap', m, Sx, hcs, _, hl, hm, hmm, _, hx⟩
  · simp [Value.cells] at hcs
    obtain ⟨rfl, rfl, rfl⟩ := hcs
    exact ⟨fun _ => ByteArray.empty, Nat.le_refl _, by unfold maxLen; omega, fun i hi => by omega⟩
  · simp [Value.cells] at hcs
    obtain ⟨rfl, rfl, rfl⟩ := hcs
    simp at hmm
    refine ⟨Sx, hl, hm, fun i hi => ?_⟩
    obtain ⟨b, off, spot⟩ := x
    have h0 := hx i (by omega)
    have hs0 := hx 0 (by omega)
    have hspot : spot = none := by simpa [Addr.add] using World.cell?_spot hs0.1
    subst hspot
    rw [Addr.add_mid] at h0
    exact ⟨h0.2, b, off, rfl, cell_in h0.1, h0.1⟩

end
end Go.Proofs.Ytchideljndagjaa
