/- Rows in blocks of their own, by functions. -/
import Derived.Test.YtchideljndagjabGreatPkSeAB
import Derived.Deep.MidRow
import Derived.Test.YtchideljndagjabGreatPkSeAC
import Derived.Laws.MakeOwn
import Derived.WalkSpells
import Derived.Deep.CutRange
import Derived.BigQuiet
import Derived.Test.YtchideljndagjabGreatPkSeAM
namespace Go.Proofs.YtchideljndagjabGreat
open Go.RowKit
set_option linter.unusedVariables false

def FRow (w : World) (g : Nat) (T : TypeId) (N : Nat) (f : Nat → Value) : Prop := w.heap[g]? = some (.cells ((List.range N).map f).toArray T (0, 0))
theorem frow_get (N : Nat) (f : Nat → Value) (t : Nat) (ht : t < N) : ((List.range N).map f)[t]? = some (f t) := by rw [List.getElem?_map, List.getElem?_range ht]; rfl
section
variable {w w' : World} {g N : Nat} {T : TypeId} {f f' : Nat → Value}
theorem FRow.cell (h : FRow w g T N f) (t : Nat) (ht : t < N) : w.cell? ⟨g, t, none⟩ = some (f t) := by
  rw [cell_of_row w g t _ _ (0, 0) h, List.getElem?_toArray]; exact frow_get N f t ht
theorem FRow.froz (h : FRow w g T N f) (t : Nat) : w.frozen? ⟨g, t, none⟩ = false := frozen_of_row w g t _ _ h
theorem FRow.lt (h : FRow w g T N f) : g < w.heap.size := by
  by_cases hb : g < w.heap.size
  · exact hb
  · unfold FRow at h; rw [Array.getElem?_eq_none (by omega)] at h; cases h
theorem FRow.block (h : FRow w g T N f) (e : w'.heap[g]? = w.heap[g]?) : FRow w' g T N f := e.trans h
theorem FRow.ext (h : FRow w g T N f) (e : ∀ t, t < N → f t = f' t) : FRow w g T N f' := by
  unfold FRow at h ⊢
  rw [h]
  congr 3
  apply List.map_congr_left
  intro t ht
  exact e t (List.mem_range.1 ht)
theorem FRow.upd (h : FRow w g T N f) (t : Nat) (ht : t < N) (v : Value) (hz : f' t = v) (e : ∀ u, u < N → u ≠ t → f' u = f u) : FRow (w.setCell ⟨g, t, none⟩ v) g T N f' := by
  have := heap_setCell_same w g t _ _ v h
  unfold FRow
  rw [this, List.setIfInBounds_toArray]
  congr 3
  apply List.ext_getElem?
  intro u
  rw [List.getElem?_set]
  by_cases hu : u < N
  · rw [frow_get N f' u hu]
    by_cases ee : t = u
    · subst ee; rw [if_pos rfl, if_pos (by simpa using ht), hz]
    · rw [if_neg ee, frow_get N f u hu, e u hu (fun x => ee x.symm)]
  · rw [List.getElem?_eq_none (by simp; omega)]
    by_cases ee : t = u
    · omega
    · rw [if_neg ee, List.getElem?_eq_none (by simp; omega)]
theorem FRow.set (h : FRow w g T N f) (t : Nat) (ht : t < N) (v : Value) : FRow (w.setCell ⟨g, t, none⟩ v) g T N (fun u => if u = t then v else f u) := h.upd t ht v (if_pos rfl) (fun u _ hu => if_neg hu)
end

theorem FRow.range {w : World} {g N : Nat} {T : TypeId} {f : Nat → Value} (h : FRow w g T N f) (o n : Nat) (hn : o + n ≤ N) : w.rangeAt g o ((List.range n).map fun j => f (o + j)) := fun j v e => by
  have hj : j < n := by have := (List.getElem?_eq_some_iff.1 e).1; simpa using this
  rw [List.getElem?_map, List.getElem?_range hj] at e
  rw [h.cell (o + j) (by omega)]; exact e
theorem FRow.there {w : World} {g N : Nat} {T : TypeId} {f : Nat → Value} (h : FRow w g T N f) (o n : Nat) (hn : o + n ≤ N) : w.there g o n := fun j hj => ⟨by rw [h.cell (o + j) (by omega)]; rfl, h.froz _⟩
theorem FRow.setAll {w : World} {g N : Nat} {T : TypeId} {f : Nat → Value} (h : FRow w g T N f) (f' : Nat → Value) : FRow (w.setCells g 0 ((List.range N).map f')) g T N f' := by
  have hh : ∀ (vs : List Value) (pre : List Value) (mid : List Value) (w : World), mid.length = vs.length → w.heap[g]? = some (.cells (pre ++ mid).toArray T (0, 0)) → (w.setCells g pre.length vs).heap[g]? = some (.cells (pre ++ vs).toArray T (0, 0)) := by
    intro vs
    induction vs with
    | nil => intro pre mid w hl h; rw [List.eq_nil_of_length_eq_zero hl] at h; exact h
    | cons v vs ih =>
      intro pre mid w hl h
      obtain ⟨m, ms, rfl⟩ : ∃ m ms, mid = m :: ms := by cases mid with | nil => simp at hl | cons m ms => exact ⟨m, ms, rfl⟩
      have h1 := heap_setCell_same w g pre.length _ T v h
      rw [List.setIfInBounds_toArray, List.set_append_right _ _ (Nat.le_refl _), Nat.sub_self] at h1
      have h2 := ih (pre ++ [v]) ms (w.setCell ⟨g, pre.length, none⟩ v) (by simpa using hl) (by simpa using h1)
      rw [World.setCells]
      rw [List.length_append] at h2
      simpa using h2
  exact hh _ [] _ w (by simp) h

end Go.Proofs.YtchideljndagjabGreat

namespace Go.Proofs.YtchideljndagjabGreat
open Go.RowKit
set_option linter.unusedVariables false

structure DD where
  inp : List Int
  ch : Int
  ms : Int
  sd : Int
  sm : List Int
  ss : List Int
def dl (d : DD) : Nat → List Int
  | 0 => d.inp
  | 1 => d.sm
  | _ => d.ss

/-- A draw's six cells in a block of its own. -/
def BoxAt (w : World) (b : Nat) (d0 d1 d2 d3 d4 d5 : Value) : Prop := w.heap[b]? = some (.cells #[d0, d1, d2, d3, d4, d5] 117 (0, 0))
theorem BoxAt.cells {w : World} {b : Nat} {d0 d1 d2 d3 d4 d5 : Value} (h : BoxAt w b d0 d1 d2 d3 d4 d5) : (w.cell? ⟨b, 0, none⟩ = some d0 ∧ w.cell? ⟨b, 1, none⟩ = some d1 ∧ w.cell? ⟨b, 2, none⟩ = some d2 ∧ w.cell? ⟨b, 3, none⟩ = some d3 ∧ w.cell? ⟨b, 4, none⟩ = some d4 ∧ w.cell? ⟨b, 5, none⟩ = some d5) ∧ ∀ i, w.frozen? ⟨b, i, none⟩ = false :=
  ⟨⟨(cell_of_row w b 0 _ _ (0, 0) h).trans rfl, (cell_of_row w b 1 _ _ (0, 0) h).trans rfl, (cell_of_row w b 2 _ _ (0, 0) h).trans rfl, (cell_of_row w b 3 _ _ (0, 0) h).trans rfl, (cell_of_row w b 4 _ _ (0, 0) h).trans rfl, (cell_of_row w b 5 _ _ (0, 0) h).trans rfl⟩, fun i => frozen_of_row w b i _ _ h⟩
theorem BoxAt.below {w w' : World} {b B : Nat} {d0 d1 d2 d3 d4 d5 : Value} (h : BoxAt w b d0 d1 d2 d3 d4 d5) (hb : Below B w w') (hB : b < B) : BoxAt w' b d0 d1 d2 d3 d4 d5 := (hb.block b hB).trans h
def DrawIs (w : World) (vi vm vs : Value) (d : DD) : Prop := ListAt w vi d.inp ∧ ListAt w vm d.sm ∧ ListAt w vs d.ss ∧ inI d.ch ∧ inI d.ms ∧ inI d.sd
theorem DrawIs.below {w w' : World} {vi vm vs : Value} {d : DD} (h : DrawIs w vi vm vs d) (hb : Below w.heap.size w w') : DrawIs w' vi vm vs d := ⟨h.1.below hb, h.2.1.below hb, h.2.2.1.below hb, h.2.2.2⟩

/-- A list of draws. -/
structure DrawsAt (w : World) (a : Option Addr) (n cap : Nat) (vi vm vs : Nat → Value) (D : Nat → DD) : Prop where
  le : n ≤ cap
  mx : cap ≤ 9223372036854775807
  cells : ∀ i, i < n → ∃ b off, a = some ⟨b, off, none⟩ ∧ b < w.heap.size ∧ w.cell? ⟨b, off + i * 6, none⟩ = some (vi i) ∧ w.cell? ⟨b, off + i * 6 + 1, none⟩ = some (.int .i64 (D i).ch) ∧ w.cell? ⟨b, off + i * 6 + 2, none⟩ = some (.int .i64 (D i).ms) ∧ w.cell? ⟨b, off + i * 6 + 3, none⟩ = some (.int .i64 (D i).sd) ∧ w.cell? ⟨b, off + i * 6 + 4, none⟩ = some (vm i) ∧ w.cell? ⟨b, off + i * 6 + 5, none⟩ = some (vs i)
  its : ∀ i, i < n → DrawIs w (vi i) (vm i) (vs i) (D i)
theorem DrawsAt.below {w w' : World} {a : Option Addr} {n cap : Nat} {vi vm vs : Nat → Value} {D : Nat → DD} (h : DrawsAt w a n cap vi vm vs D) (hb : Below w.heap.size w w') : DrawsAt w' a n cap vi vm vs D :=
  ⟨h.le, h.mx, fun i hi => by
    obtain ⟨b, off, e1, e2, e3, e4, e5, e6, e7, e8⟩ := h.cells i hi
    exact ⟨b, off, e1, Nat.lt_of_lt_of_le e2 hb.size, (hb.cell (p := ⟨b, off + i * 6, none⟩) e2).trans e3, (hb.cell (p := ⟨b, off + i * 6 + 1, none⟩) e2).trans e4, (hb.cell (p := ⟨b, off + i * 6 + 2, none⟩) e2).trans e5, (hb.cell (p := ⟨b, off + i * 6 + 3, none⟩) e2).trans e6, (hb.cell (p := ⟨b, off + i * 6 + 4, none⟩) e2).trans e7, (hb.cell (p := ⟨b, off + i * 6 + 5, none⟩) e2).trans e8⟩,
   fun i hi => (h.its i hi).below hb⟩

/-- The lists of the draws, in their blocks: all apart. -/
structure GivenAt (w : World) (B g n : Nat) (G : Nat → Nat → Nat) (D : Nat → DD) : Prop where
  row : ∀ i k, i < n → k < 3 → w.heap[G i k]? = some (.cells (given (dl (D i) k) 3).toArray 3 (0, 0))
  lo : ∀ i k, i < n → k < 3 → B ≤ G i k ∧ G i k ≠ g
  inj : ∀ i k i' k', i < n → k < 3 → i' < n → k' < 3 → G i k = G i' k' → i = i' ∧ k = k'
theorem GivenAt.lt {w : World} {B g n : Nat} {G : Nat → Nat → Nat} {D : Nat → DD} (h : GivenAt w B g n G D) (i k : Nat) (hi : i < n) (hk : k < 3) : G i k < w.heap.size := by
  have := h.row i k hi hk
  by_cases hb : G i k < w.heap.size
  · exact hb
  · rw [Array.getElem?_eq_none (by omega)] at this; cases this

end Go.Proofs.YtchideljndagjabGreat

namespace Go.Proofs.YtchideljndagjabGreat
open Go.RowKit
set_option linter.unusedVariables false

end Go.Proofs.YtchideljndagjabGreat

namespace Go.Proofs.YtchideljndagjabGreat
open Go.RowKit
set_option linter.unusedVariables false

section
variable {w wr : World} {pw n g : Nat} {F : Nat → Value} {nx : Int} {ls : Nat → List Ow} {G : Nat → Nat → Nat} {D : Nat → DD} {m : Nat}

end

end Go.Proofs.YtchideljndagjabGreat

namespace Go.Proofs.YtchideljndagjabGreat
open Go.RowKit
set_option linter.unusedVariables false

end Go.Proofs.YtchideljndagjabGreat

namespace Go.Proofs.YtchideljndagjabGreat
open Go.ChangeShapes Go.WideShapes Go.ChangeAt Go.RowKit
set_option linter.unusedVariables false

end Go.Proofs.YtchideljndagjabGreat

namespace Go.Proofs.YtchideljndagjabGreat
open Go.ChangeShapes Go.WideShapes Go.ChangeAt Go.RowKit Go.Deep
set_option linter.unusedVariables false

/-- A list of draws that came in. -/
def DrawsIs (w : World) (v : Value) : Prop := ∃ (a : Option Addr) (n cap : Nat) (vi vm vs : Nat → Value) (D : Nat → DD), v = .slice a n cap ∧ DrawsAt w a n cap vi vm vs D ∧ n * 96 ≤ 140737488351232 ∧ (∀ i k, i < n → k < 3 → (dl (D i) k).length * 8 ≤ 140737488351232)
def OpIs3 (w : World) (kd x y z : Int) (r : Nat → Value) : Prop :=
  OpIs2 w kd x y z r ∧ (∃ N T M D : Int, r 5 = .int .i64 N ∧ r 6 = .int .i64 T ∧ r 7 = .int .i64 M ∧ r 8 = .int .i64 D ∧ inI N ∧ inI T ∧ inI M ∧ inI D) ∧ DrawsIs w (r 9)

/-- A script in memory: each step's fourteen cells. -/
def Scr3 (w : World) (a : Option Addr) (len : Nat) : Prop :=
  len * 168 ≤ 140737488351232 ∧ (len = 0 ∨ ∃ b off, a = some ⟨b, off, none⟩ ∧ b < w.heap.size ∧ ∀ i, i < len → ∃ kd x y z r, OpIs3 w kd x y z r ∧
    ∀ j, j < 14 → w.cell? ⟨b, off + i * 14 + j, none⟩ = some ((opCells kd x y z r).getD j undef))

theorem cellsDraw : Tryz.prog.cellsOf 117 = 6 := by kernel_rfl
theorem bytesDraw : Tryz.prog.bytesOf 117 = 96 := by kernel_rfl
theorem cellsConfig : Tryz.prog.cellsOf 26 = 4 := by kernel_rfl
theorem cellsDraws : Tryz.prog.cellsOf 27 = 1 := by kernel_rfl

section
variable {H : Type} {enc : TypeId × Value → H} {w : World} {spare : Nat → Bool} {held : Bool}

set_option maxRecDepth 100000 in
theorem config_of {n : Nat} {cs : List Value} {y : DataW H × List MemPlace} (h : DataW.trod enc Tryz.prog w 0 spare held n 26 cs = some y) :
    ∃ a b c d : Int, cs = [.int .i64 a, .int .i64 b, .int .i64 c, .int .i64 d] ∧ inI a ∧ inI b ∧ inI c ∧ inI d := by
  obtain ⟨xs, m, _, hy, hl, hlen, hf⟩ := DataW.trod_struct Tryz.underlying26 h
  rw [cellsConfig] at hl
  match cs, hl with
  | [c0, c1, c2, c3], _ =>
    have f0 := hf 0 _ rfl
    have f1 := hf 1 _ rfl
    have f2 := hf 2 _ rfl
    have f3 := hf 3 _ rfl
    simp [cellsInt] at f0 f1 f2 f3
    have hlen4 : xs.length = 4 := hlen
    rw [List.getElem?_eq_getElem (by omega)] at f0 f1 f2 f3
    obtain ⟨a, rfl, k0⟩ := int_of f0
    obtain ⟨b, rfl, k1⟩ := int_of f1
    obtain ⟨c, rfl, k2⟩ := int_of f2
    obtain ⟨d, rfl, k3⟩ := int_of f3
    exact ⟨a, b, c, d, rfl, k0, k1, k2, k3⟩

/-- One draw. -/
def DrawOne (w : World) (cs : List Value) (vi vm vs : Value) (d : DD) : Prop := cs = [vi, .int .i64 d.ch, .int .i64 d.ms, .int .i64 d.sd, vm, vs] ∧ DrawIs w vi vm vs d ∧ ∀ k, k < 3 → (dl d k).length * 8 ≤ 140737488351232

set_option maxRecDepth 100000 in
theorem draw_of {n : Nat} {cs : List Value} {y : DataW H × List MemPlace} (h : DataW.trod enc Tryz.prog w 0 spare held n 117 cs = some y) (hw : ∀ n ∈ y.1.weights Tryz.prog 117, n ≤ reachBytes) :
    ∃ vi vm vs d, DrawOne w cs vi vm vs d := by
  obtain ⟨xs, m, _, hy, hl, hlen, hf⟩ := DataW.trod_struct Tryz.underlying117 h
  rw [cellsDraw] at hl
  match cs, hl with
  | [c0, c1, c2, c3, c4, c5], _ =>
    have f0 := hf 0 _ rfl
    have f1 := hf 1 _ rfl
    have f2 := hf 2 _ rfl
    have f3 := hf 3 _ rfl
    have f4 := hf 4 _ rfl
    have f5 := hf 5 _ rfl
    simp [cellsInt, cellsInts] at f0 f1 f2 f3 f4 f5
    have hlen6 : xs.length = 6 := hlen
    rw [List.getElem?_eq_getElem (by omega)] at f0 f1 f2 f3 f4 f5
    obtain ⟨a, rfl, k1⟩ := int_of f1
    obtain ⟨b, rfl, k2⟩ := int_of f2
    obtain ⟨c, rfl, k3⟩ := int_of f3
    obtain ⟨z0, l0, b0⟩ := list_of f0 (fun n hn => hw n (by
      rw [hy]
      simp only [DataW.weights, Tryz.underlying117]
      refine DataW.weights_mem_each (j := 0) (t := 33) (d := (xs[0]).1) rfl ?_ n hn
      rw [List.getElem?_map, List.getElem?_eq_getElem (by omega)]; rfl))
    obtain ⟨z4, l4, b4⟩ := list_of f4 (fun n hn => hw n (by
      rw [hy]
      simp only [DataW.weights, Tryz.underlying117]
      refine DataW.weights_mem_each (j := 4) (t := 33) (d := (xs[4]).1) rfl ?_ n hn
      rw [List.getElem?_map, List.getElem?_eq_getElem (by omega)]; rfl))
    obtain ⟨z5, l5, b5⟩ := list_of f5 (fun n hn => hw n (by
      rw [hy]
      simp only [DataW.weights, Tryz.underlying117]
      refine DataW.weights_mem_each (j := 5) (t := 33) (d := (xs[5]).1) rfl ?_ n hn
      rw [List.getElem?_map, List.getElem?_eq_getElem (by omega)]; rfl))
    refine ⟨c0, c4, c5, ⟨z0, a, b, c, z4, z5⟩, rfl, ⟨l0, l4, l5, k1, k2, k3⟩, fun k hk => ?_⟩
    rcases (show k = 0 ∨ k = 1 ∨ k = 2 by omega) with rfl | rfl | rfl
    · exact b0
    · exact b4
    · exact b5

theorem draws_of {n : Nat} {c : Value} {y : DataW H × List MemPlace} (h : DataW.trod enc Tryz.prog w 0 spare held n 27 [c] = some y) (hw : ∀ n ∈ y.1.weights Tryz.prog 27, n ≤ reachBytes) : DrawsIs w c := by
  rcases open_slice Tryz.underlying27 h with ⟨hcs, _⟩ | ⟨x, l, cp, m, n', D, Pl, hcs, _, hl, hm, hmm, hy, hx⟩
  · simp at hcs
    exact ⟨none, 0, 0, fun _ => undef, fun _ => undef, fun _ => undef, fun _ => ⟨[], 0, 0, 0, [], []⟩, hcs, ⟨Nat.le_refl _, by omega, fun i hi => by omega, fun i hi => by omega⟩, by omega, fun i k hi => by omega⟩
  · simp at hcs
    have hbytes := hw _ (by rw [hy]; simp only [DataW.weights, Tryz.underlying27]; exact List.mem_cons_self)
    rw [bytesDraw] at hbytes
    simp only [List.length_map, List.length_range, reachBytes] at hbytes
    have hlm : l ≤ m := by rw [hmm]; split <;> omega
    rw [cellsDraw] at hx
    have hit : ∀ i, i < l → ∃ t : Value × Value × Value × DD, (DrawIs w t.1 t.2.1 t.2.2.1 t.2.2.2 ∧ ∀ k, k < 3 → (dl t.2.2.2 k).length * 8 ≤ 140737488351232) ∧ ∀ j, j < 6 → w.cell? (x.add (i * 6 + j)) = some (([t.1, .int .i64 t.2.2.2.ch, .int .i64 t.2.2.2.ms, .int .i64 t.2.2.2.sd, t.2.1, t.2.2.1] : List Value).getD j undef) := by
      intro i hi
      obtain ⟨cs, e1, e2⟩ := hx i (by omega)
      obtain ⟨_, e3, e4⟩ := World.cells?_some e1
      obtain ⟨vi, vm, vs, d, hcs', hd, hdl⟩ := draw_of e2 (fun n hn => hw n (by
        rw [hy]; simp only [DataW.weights, Tryz.underlying27]
        refine List.mem_cons_of_mem _ (List.mem_append.2 (.inl (mem_all (List.mem_map.2 ⟨i, List.mem_range.2 hi, rfl⟩) n hn)))))
      refine ⟨(vi, vm, vs, d), ⟨hd, hdl⟩, fun j hj => ?_⟩
      have e5 := e4 j hj
      rw [List.getElem?_eq_getElem (by omega)] at e5
      show _ = some (([vi, .int .i64 d.ch, .int .i64 d.ms, .int .i64 d.sd, vm, vs] : List Value).getD j undef)
      rw [← hcs', List.getD_eq_getElem?_getD, List.getElem?_eq_getElem (by omega), Option.getD_some, ← e5, Deep.add_add]
    let T : Nat → Value × Value × Value × DD := fun i => if hi : i < l then (hit i hi).choose else (undef, undef, undef, ⟨[], 0, 0, 0, [], []⟩)
    have hT : ∀ i, i < l → (DrawIs w (T i).1 (T i).2.1 (T i).2.2.1 (T i).2.2.2 ∧ ∀ k, k < 3 → (dl (T i).2.2.2 k).length * 8 ≤ 140737488351232) ∧ ∀ j, j < 6 → w.cell? (x.add (i * 6 + j)) = some (([(T i).1, .int .i64 (T i).2.2.2.ch, .int .i64 (T i).2.2.2.ms, .int .i64 (T i).2.2.2.sd, (T i).2.1, (T i).2.2.1] : List Value).getD j undef) := fun i hi => by
      have e : T i = (hit i hi).choose := dif_pos hi
      rw [e]; exact (hit i hi).choose_spec
    have hcpm : cp ≤ 9223372036854775807 := by unfold maxLen at hm; omega
    refine ⟨some x, l, cp, fun i => (T i).1, fun i => (T i).2.1, fun i => (T i).2.2.1, fun i => (T i).2.2.2, hcs, ⟨by omega, hcpm, fun i hi => ?_, fun i hi => (hT i hi).1.1⟩, by omega, fun i k hi hk => (hT i hi).1.2 k hk⟩
    obtain ⟨b, off, spot⟩ := x
    have q000 := (hT 0 (by omega)).2 0 (by omega)
    have hspot : spot = none := by simpa [Addr.add] using World.cell?_spot q000
    have q00 := (hT i hi).2 0 (by omega)
    subst hspot
    have hadd : ∀ j, (⟨b, off, none⟩ : Addr).add j = ⟨b, off + j, none⟩ := fun j => by unfold Addr.add; by_cases hz : j = 0 <;> simp [hz]
    have g := (hT i hi).2
    have g0 := g 0 (by omega)
    have g1 := g 1 (by omega)
    have g2 := g 2 (by omega)
    have g3 := g 3 (by omega)
    have g4 := g 4 (by omega)
    have g5 := g 5 (by omega)
    rw [hadd] at g0 g1 g2 g3 g4 g5 q00
    refine ⟨b, off, rfl, cell_block q00, ?_, ?_, ?_, ?_, ?_, ?_⟩
    · rw [Nat.add_zero] at g0; exact g0
    · rw [Nat.add_assoc]; exact g1
    · rw [Nat.add_assoc]; exact g2
    · rw [Nat.add_assoc]; exact g3
    · rw [Nat.add_assoc]; exact g4
    · rw [Nat.add_assoc]; exact g5

set_option maxRecDepth 100000 in
theorem op_of3 {n : Nat} {cs : List Value} {y : DataW H × List MemPlace} (h : DataW.trod enc Tryz.prog w 0 spare held n 91 cs = some y) (hw : ∀ n ∈ y.1.weights Tryz.prog 91, n ≤ reachBytes) :
    ∃ kd x y z r, OpIs3 w kd x y z r ∧ cs = opCells kd x y z r := by
  obtain ⟨xs, m, _, hy, hl, hlen, hf⟩ := DataW.trod_struct Tryz.underlying91 h
  rw [cellsOp] at hl
  match cs, hl with
  | [c0, c1, c2, c3, c4, c5, c6, c7, c8, c9, c10, c11, c12, c13], _ =>
    have f0 := hf 0 _ rfl
    have f1 := hf 1 _ rfl
    have f2 := hf 2 _ rfl
    have f3 := hf 3 _ rfl
    have f4 := hf 4 _ rfl
    have f5 := hf 5 _ rfl
    have f6 := hf 6 _ rfl
    have f7 := hf 7 _ rfl
    have f8 := hf 8 _ rfl
    simp [cellsInt, cellsInts, cellsStr, cellsFrame, cellsConfig, cellsDraws] at f0 f1 f2 f3 f4 f5 f6 f7 f8
    have hlen9 : xs.length = 9 := hlen
    rw [List.getElem?_eq_getElem (by omega)] at f0 f1 f2 f3 f4 f5 f6 f7 f8
    obtain ⟨kd, rfl, k0⟩ := int_of f0
    obtain ⟨x, rfl, k1⟩ := int_of f1
    obtain ⟨y, rfl, k2⟩ := int_of f2
    obtain ⟨z, rfl, k3⟩ := int_of f3
    have hw4 : ∀ n ∈ (xs[4]).1.weights Tryz.prog 33, n ≤ reachBytes := fun n hn => hw n (by
      rw [hy]
      simp only [DataW.weights, Tryz.underlying91]
      refine DataW.weights_mem_each (j := 4) (t := 33) (d := (xs[4]).1) rfl ?_ n hn
      rw [List.getElem?_map, List.getElem?_eq_getElem (by omega)]; rfl)
    have hw5 : ∀ n ∈ (xs[5]).1.weights Tryz.prog 9, n ≤ reachBytes := fun n hn => hw n (by
      rw [hy]
      simp only [DataW.weights, Tryz.underlying91]
      refine DataW.weights_mem_each (j := 5) (t := 9) (d := (xs[5]).1) rfl ?_ n hn
      rw [List.getElem?_map, List.getElem?_eq_getElem (by omega)]; rfl)
    have hw6 : ∀ n ∈ (xs[6]).1.weights Tryz.prog 65, n ≤ reachBytes := fun n hn => hw n (by
      rw [hy]
      simp only [DataW.weights, Tryz.underlying91]
      refine DataW.weights_mem_each (j := 6) (t := 65) (d := (xs[6]).1) rfl ?_ n hn
      rw [List.getElem?_map, List.getElem?_eq_getElem (by omega)]; rfl)
    have hw8 : ∀ n ∈ (xs[8]).1.weights Tryz.prog 27, n ≤ reachBytes := fun n hn => hw n (by
      rw [hy]
      simp only [DataW.weights, Tryz.underlying91]
      refine DataW.weights_mem_each (j := 8) (t := 27) (d := (xs[8]).1) rfl ?_ n hn
      rw [List.getElem?_map, List.getElem?_eq_getElem (by omega)]; rfl)
    obtain ⟨q0, q1, q2, q3, hcf, i0, i1, i2, i3⟩ := config_of f7
    simp only [List.cons.injEq, and_true] at hcf
    obtain ⟨e9, e10, e11, e12⟩ := hcf
    have hdr := draws_of f8 hw8
    obtain ⟨fk, ff, fv, hfr, hfi⟩ := frame_of f6 hw6
    simp only [List.cons.injEq, and_true] at hfr
    obtain ⟨h6, h7, h8⟩ := hfr
    exact ⟨kd, x, y, z, fun j => [c4, c5, c6, c7, c8, c9, c10, c11, c12, c13].getD j undef, ⟨⟨⟨k0, k1, k2, k3, list_of f4 hw4⟩, str_of f5 hw5, ⟨fk, ff, h6, h7⟩, by show ItemsIs w c8; rw [h8]; exact hfi⟩, ⟨q0, q1, q2, q3, e9, e10, e11, e12, i0, i1, i2, i3⟩, hdr⟩, rfl⟩

theorem scr_of3 {n : Nat} {a : Option Addr} {len cap : Nat} {y : DataW H × List MemPlace} (h : DataW.trod enc Tryz.prog w 0 spare held n 22 [.slice a len cap] = some y) (hw : ∀ n ∈ y.1.weights Tryz.prog 22, n ≤ reachBytes) : Scr3 w a len := by
  rcases open_slice Tryz.underlying22 h with ⟨hcs, _⟩ | ⟨x, l, c, m, n', D, Pl, hcs, _, hl, hm, hmm, hy, hx⟩
  · simp at hcs
    obtain ⟨rfl, rfl, rfl⟩ := hcs
    exact ⟨by omega, .inl rfl⟩
  · simp at hcs
    obtain ⟨rfl, rfl, rfl⟩ := hcs
    have hbytes := hw _ (by rw [hy]; simp only [DataW.weights, Tryz.underlying22]; exact List.mem_cons_self)
    rw [bytesOp] at hbytes
    simp only [List.length_map, List.length_range, reachBytes] at hbytes
    refine ⟨by omega, ?_⟩
    rcases Nat.eq_zero_or_pos len with h0 | h0
    · exact .inl h0
    · right
      have hlm : len ≤ m := by rw [hmm]; split <;> omega
      rw [cellsOp] at hx
      obtain ⟨b, off, spot⟩ := x
      obtain ⟨cs0, g1, g2⟩ := hx 0 (by omega)
      obtain ⟨_, l0, q0⟩ := World.cells?_some g1
      have q00 := q0 0 (by omega)
      rw [List.getElem?_eq_getElem (by omega)] at q00
      have hspot : spot = none := by simpa [Addr.add] using World.cell?_spot q00
      subst hspot
      refine ⟨b, off, rfl, by simpa [Addr.add] using cell_block q00, fun i hi => ?_⟩
      obtain ⟨cs, e1, e2⟩ := hx i (by omega)
      obtain ⟨_, e3, e4⟩ := World.cells?_some e1
      obtain ⟨kd, x, y', z, r, ho, hcs⟩ := op_of3 e2 (fun n hn => hw n (by
        rw [hy]; simp only [DataW.weights, Tryz.underlying22]
        refine List.mem_cons_of_mem _ (List.mem_append.2 (.inl (mem_all (List.mem_map.2 ⟨i, List.mem_range.2 hi, rfl⟩) n hn)))))
      refine ⟨kd, x, y', z, r, ho, fun j hj => ?_⟩
      have e5 := e4 j hj
      rw [List.getElem?_eq_getElem (by omega)] at e5
      rw [← hcs, List.getD_eq_getElem?_getD, List.getElem?_eq_getElem (by omega), Option.getD_some, ← e5, Deep.add_add]
      unfold Addr.add
      by_cases hz : i * 14 + j = 0
      · rw [if_pos hz, show off + i * 14 + j = off by omega]
      · rw [if_neg hz, show off + i * 14 + j = off + (i * 14 + j) by omega]

end

set_option maxHeartbeats 1000000 in
set_option maxRecDepth 100000 in
theorem plays_any3 (lo hi : Int) (a : Option Addr) (len cap : Nat) (w : World) (hs : Scr3 w a len) (J : Nat → World → Prop) (J2 : World → Prop)
    (h0 : J 0 (w.alloc (.cells #[.slice none 0 0, .slice none 0 0, .slice none 0 0, .slice none 0 0, .slice none 0 0, .slice none 0 0, .slice none 0 0, .slice none 0 0, .slice none 0 0, .slice none 0 0, .slice none 0 0, .slice none 0 0, .slice none 0 0, .slice none 0 0, .slice none 0 0, .int .i64 0] 89)))
    (hB : ∀ k wr, J k wr → Below w.heap.size w wr)
    (hskip : ∀ k wr, J k wr → J (k + 1) wr)
    (hstep : ∀ k wr kd x y z r, k < len → J k wr → lo ≤ kd → kd ≤ hi → OpIs3 w kd x y z r → Calls Tryz.prog 25 #[.pointer (some ⟨w.heap.size, 0, none⟩), .agg #[.int .i64 kd, .int .i64 x, .int .i64 y, .int .i64 z, r 0, r 1, r 2, r 3, r 4, r 5, r 6, r 7, r 8, r 9]] wr fun e w' => e = .returned (.bool true) ∧ J (k + 1) w')
    (hend : ∀ wr, J len wr → Calls Tryz.prog 26 #[.pointer (some ⟨w.heap.size, 0, none⟩)] wr fun e w' => e = .returned (.bool true) ∧ J2 w')
    (hlook : ∀ wr, J2 wr → Calls Tryz.prog 27 #[.pointer (some ⟨w.heap.size, 0, none⟩)] wr fun e w' => e = .returned (.bool true) ∧ Below w.heap.size w w') :
    Calls Tryz.prog 10 #[.slice a len cap, .int .i64 lo, .int .i64 hi] w fun e w' => e = .returned (.bool true) ∧ Below w.heap.size w w' := by
  obtain ⟨hl, hs⟩ := hs
  have HS := hideH hs
  have H0 := hideH h0
  have HB := hideH hB
  have HK := hideH hskip
  have HT := hideH hstep
  have HE := hideH hend
  have HL := hideH hlook
  clear hs h0 hB hskip hstep hend hlook
  go_enter Tryz.func10, Tryz.ntmps10
  go_wp2_with fail
  go_loopw [8] (fun i wr => ∃ k : Nat, k ≤ len ∧ i = .int .i64 k ∧ J k wr) (fun i _ => len - (intOf i).toNat)
  case atStart => exact ⟨0, Nat.zero_le _, rfl, H0.out⟩
  case round =>
    obtain ⟨k, hk, rfl, hj⟩ := hrel
    have HJ := hideH hj
    clear hj
    by_cases hlt : k < len
    · obtain ⟨b, off, rfl, hblk, hops⟩ : ∃ b off, a = some ⟨b, off, none⟩ ∧ b < w.heap.size ∧ ∀ i, i < len → ∃ kd x y z r, OpIs3 w kd x y z r ∧
          ∀ j, j < 14 → w.cell? ⟨b, off + i * 14 + j, none⟩ = some ((opCells kd x y z r).getD j undef) := by
        rcases HS.out with h | h
        · omega
        · exact h
      obtain ⟨kd, x, y, z, r, hop, hc0⟩ := hops k hlt
      have HOP := hideH hop
      have hc : ∀ j, j < 14 → wr.cell? ⟨b, off + k * 14 + j, none⟩ = some ((opCells kd x y z r).getD j undef) := fun j hj => by
        rw [(HB.out _ _ HJ.out).cell (p := ⟨b, off + k * 14 + j, none⟩) hblk]; exact hc0 j hj
      clear hc0 hops hop HS
      have c0 := hc 0 (by omega)
      have c1 := hc 1 (by omega)
      have c2 := hc 2 (by omega)
      have c3 := hc 3 (by omega)
      have c4 := hc 4 (by omega)
      have c5 := hc 5 (by omega)
      have c6 := hc 6 (by omega)
      have c7 := hc 7 (by omega)
      have c8 := hc 8 (by omega)
      have c9 := hc 9 (by omega)
      have c10 := hc 10 (by omega)
      have c11 := hc 11 (by omega)
      have c12 := hc 12 (by omega)
      have c13 := hc 13 (by omega)
      simp only [opCells, List.getD_cons_zero, List.getD_cons_succ, Nat.add_zero] at c0 c1 c2 c3 c4 c5 c6 c7 c8 c9 c10 c11 c12 c13
      clear hc
      by_cases k1 : lo ≤ kd
      · by_cases k2 : kd ≤ hi
        · go_wp2_with fail
          refine (HT.out k _ kd x y z r hlt HJ.out k1 k2 HOP.out).mono ?_
          rintro e w' ⟨rfl, hj2⟩
          have HJ2 := hideH hj2
          clear hj2
          go_wp2_with fail
          go_roundw
          case rel => exact ⟨k + 1, by omega, by go_num, HJ2.out⟩
          case measure => simp [intOf]; omega
        · go_wp2_with fail
          go_roundw
          case rel => exact ⟨k + 1, by omega, by go_num, HK.out _ _ HJ.out⟩
          case measure => simp [intOf]; omega
      · go_wp2_with fail
        go_roundw
        case rel => exact ⟨k + 1, by omega, by go_num, HK.out _ _ HJ.out⟩
        case measure => simp [intOf]; omega
    · have ek : k = len := by omega
      subst ek
      go_wp2_with fail
      refine (HE.out _ HJ.out).mono ?_
      rintro e w' ⟨rfl, hj2⟩
      have HJ2 := hideH hj2
      clear hj2
      go_wp2_with fail
      refine (HL.out _ HJ2.out).mono ?_
      rintro e w' ⟨rfl, hb⟩
      have HBB := hideH hb
      clear hb
      go_wp2_with fail
      go_ret
      exact ⟨rfl, HBB.out⟩

end Go.Proofs.YtchideljndagjabGreat

namespace Go.Proofs.YtchideljndagjabGreat
open Go.RowKit
set_option linter.unusedVariables false

structure Pair where
  pc : Nat
  bx : Nat
  yb : Nat
  c : Cli.Cl
  s : Cli.St
  S : PS
  R : RS
  hh : List Cli.Fr
  vs : List Value

def PFoot (p : Pair) (x : Nat) : Prop := x = p.pc ∨ CFoot p.bx p.S x ∨ RFoot p.yb p.R p.vs x

structure PairAt (w : World) (pw : Nat) (p : Pair) : Prop where
  row : w.heap[p.pc]? = some (.cells #[.pointer (some ⟨p.bx, 0, none⟩), .pointer (some ⟨p.yb, 0, none⟩)] 174 (0, 0))
  cli : CliW w p.bx p.c p.s p.S
  ref : RefW w pw p.yb p.R p.hh p.vs
  eqc : p.R.c = p.c
  eqs : Cli.lk p.c p.hh = p.s
  lo : ∀ x, PFoot p x → pw < x
  ap1 : ∀ x, CFoot p.bx p.S x → ¬ RFoot p.yb p.R p.vs x
  ap2 : ¬ CFoot p.bx p.S p.pc ∧ ¬ RFoot p.yb p.R p.vs p.pc

theorem PairAt.lt {w : World} {pw : Nat} {p : Pair} (h : PairAt w pw p) {x : Nat} (hx : PFoot p x) : x < w.heap.size := by
  rcases hx with hx | hx | hx
  · have := h.row
    subst hx
    by_cases hb : p.pc < w.heap.size
    · exact hb
    · rw [Array.getElem?_eq_none (by omega)] at this; cases this
  · exact h.cli.low x hx
  · exact (h.ref.foot x hx).2
theorem PairAt.keep {w w' : World} {pw : Nat} {p : Pair} (h : PairAt w pw p) (hs : w.heap.size ≤ w'.heap.size) (hb : ∀ x, PFoot p x → w'.heap[x]? = w.heap[x]?) (hp : ∀ x, x < pw → w'.heap[x]? = w.heap[x]?) : PairAt w' pw p where
  row := (hb p.pc (.inl rfl)).trans h.row
  cli := h.cli.keep hs (fun x hx => hb x (.inr (.inl hx)))
  ref := h.ref.keep hs (fun x hx => hb x (.inr (.inr hx))) hp
  eqc := h.eqc
  eqs := h.eqs
  lo := h.lo
  ap1 := h.ap1
  ap2 := h.ap2

/-- All pairs, and the World's list of them: apart from one another and from what the World owns. -/
structure InvK (w : World) (pw : Nat) (F : Nat → Value) (ls : Nat → List Ow) (K : List Pair) : Prop where
  row : w.ownsRow (pw + 1) 126 1 (F 0) K.length (K.map fun p => Value.pointer (some ⟨p.pc, 0, none⟩))
  f1 : F 1 = .slice none 0 0
  f2 : F 2 = .slice none 0 0
  pairs : ∀ p ∈ K, PairAt w pw p
  tag : ∃ tg : Nat → Nat, (∀ i p x, K[i]? = some p → PFoot p x → tg x = i + 1) ∧ (∀ x, (F 0).ownBlock = some x → tg x = 0 ∧ ¬ Foot F ls x) ∧ ∀ x, Foot F ls x → tg x = 0

/-- The World wrote into what it owns, and nothing else that was there. -/
structure QS (pw : Nat) (w : World) (F : Nat → Value) (ls : Nat → List Ow) (w' : World) (F' : Nat → Value) (ls' : Nat → List Ow) : Prop where
  chg : Chg (fun b => b = pw ∨ Foot F ls b) w w'
  fs : ∀ j, j < 3 → F' j = F j
  foot : ∀ b, b < w.heap.size → ¬ Foot F ls b → ¬ Foot F' ls' b

section
variable {nx : Int} {w w' w'' : World} {pw : Nat} {F F' F'' : Nat → Value} {ls ls' ls'' : Nat → List Ow} {K : List Pair}

theorem QS.refl : QS pw w F ls w F ls := ⟨Chg.refl _ _, fun _ _ => rfl, fun _ _ h => h⟩
theorem QS.below (h : QS pw w F ls w' F' ls') (hb : Below w'.heap.size w' w'') : QS pw w F ls w'' F' ls' := ⟨h.chg.grow hb, h.fs, h.foot⟩
/-- One list more, that was not there at the beginning. -/
theorem QS.own (h : QS pw w F ls w' F' ls') {g : Nat} (hg : w.heap.size ≤ g) (hc : Chg (fun b => b = pw ∨ g = b ∨ Foot F' ls' b) w' w'') (hf : ∀ j, j < 3 → F'' j = F' j) (hn : ∀ b, b < w'.heap.size → g ≠ b → ¬ Foot F' ls' b → ¬ Foot F'' ls'' b) : QS pw w F ls w'' F'' ls'' := by
  refine ⟨h.chg.trans hc (fun b e hbl => ?_), fun j hj => (hf j hj).trans (h.fs j hj), fun b hbl hnf => hn b (by have := h.chg.size; omega) (by omega) (h.foot b hbl hnf)⟩
  rcases e with e | e | e
  · exact .inl e
  · omega
  · by_cases hx : Foot F ls b
    · exact .inr hx
    · exact absurd e (h.foot b hbl hx)
theorem InvK.quiet (h : InvK w pw F ls K) (hi : InvW w pw F nx ls) (q : QS pw w F ls w' F' ls') : InvK w' pw F' ls' K := by
  obtain ⟨tg, t1, t2, t3⟩ := h.tag
  have hlt := hi.pw_lt
  have hkeep : ∀ p ∈ K, ∀ x, PFoot p x → w'.heap[x]? = w.heap[x]? := fun p hp x hx => by
    obtain ⟨i, hi'⟩ := List.mem_iff_getElem?.1 hp
    refine q.chg.block x ((h.pairs p hp).lt hx) (fun e => ?_)
    rcases e with e | e
    · have := (h.pairs p hp).lo x hx; omega
    · have a := t1 i p x hi' hx; have b := t3 x e; omega
  refine ⟨?_, by rw [q.fs 1 (by omega)]; exact h.f1, by rw [q.fs 2 (by omega)]; exact h.f2, fun p hp => (h.pairs p hp).keep q.chg.size (hkeep p hp) (fun x hx => q.chg.block x (by omega) (fun e => ?_)), ?_⟩
  · rw [q.fs 0 (by omega)]
    exact ownsRow_chg h.row q.chg (fun b hb e => by
      rcases e with e | e
      · have := h.row.lt b hb; omega
      · exact (t2 b hb).2 e)
  · rcases e with e | e
    · omega
    · have := hi.foot_lt e; omega
  · classical
    refine ⟨fun x => if x < w.heap.size then tg x else 0, fun i p x hp hx => ?_, fun x hx => ?_, fun x hx => ?_⟩
    · dsimp only; rw [if_pos ((h.pairs p (List.mem_of_getElem? hp)).lt hx)]; exact t1 i p x hp hx
    · rw [q.fs 0 (by omega)] at hx
      have hl := h.row.lt x hx
      dsimp only; rw [if_pos hl.2]
      exact ⟨(t2 x hx).1, q.foot x hl.2 (t2 x hx).2⟩
    · by_cases hl : x < w.heap.size
      · dsimp only
        rw [if_pos hl]
        by_cases hf : Foot F ls x
        · exact t3 x hf
        · exact absurd hx (q.foot x hl hf)
      · dsimp only
        rw [if_neg hl]

theorem InvK.below (h : InvK w pw F ls K) (hi : InvW w pw F nx ls) (hb : Below w.heap.size w w') : InvK w' pw F ls K := h.quiet hi (QS.refl.below hb)

/-- A pair more. -/
theorem InvK.more (h : InvK w pw F ls K) (hi : InvW w pw F nx ls) {p : Pair} {v' : Value} (hp' : PairAt w' pw p) (hnew : ∀ x, PFoot p x → w.heap.size ≤ x) (hc : Chg (fun x => x = pw ∨ (F 0).ownBlock = some x) w w')
    (hblk : w'.heap[pw]? = some (.cells (fArr (upd F 0 v')) 89 (0, 0))) (hrow : w'.ownsRow (pw + 1) 126 1 v' (K.length + 1) ((K.map fun p => Value.pointer (some ⟨p.pc, 0, none⟩)) ++ [.pointer (some ⟨p.pc, 0, none⟩)]))
    (hv : ∀ x, v'.ownBlock = some x → ((F 0).ownBlock = some x ∨ w.heap.size ≤ x) ∧ ¬ PFoot p x) : InvK w' pw (upd F 0 v') ls (K ++ [p]) ∧ InvW w' pw (upd F 0 v') nx ls := by
  obtain ⟨tg, t1, t2, t3⟩ := h.tag
  have hlt := hi.pw_lt
  have hfi : ∀ c, upd F 0 v' (cat c).fi = F (cat c).fi := fun c => upd_other _ _ (by have := cat_fi c; omega)
  have hfm : ∀ c, upd F 0 v' (cat c).fm = F (cat c).fm := fun c => upd_other _ _ (by have := cat_fm c; omega)
  have hfoot : ∀ x, Foot (upd F 0 v') ls x ↔ Foot F ls x := fun x => by unfold Foot; simp only [hfi, hfm]
  have hno : ∀ x, Foot F ls x → ¬ (x = pw ∨ (F 0).ownBlock = some x) := fun x hx e => by
    rcases e with e | e
    · have := hi.foot_lt hx; omega
    · exact (t2 x e).2 hx
  refine ⟨⟨?_, by rw [upd_other _ _ (by omega)]; exact h.f1, by rw [upd_other _ _ (by omega)]; exact h.f2, fun q hq => ?_, ?_⟩, ⟨hblk, by rw [upd_other _ _ (by omega)]; exact hi.nxt, fun c hc' => ?_, ?_⟩⟩
  · rw [upd_same, List.map_append, List.length_append]; exact hrow
  · rcases List.mem_append.1 hq with hq | hq
    · obtain ⟨i, hi'⟩ := List.mem_iff_getElem?.1 hq
      refine (h.pairs q hq).keep hc.size (fun x hx => hc.block x ((h.pairs q hq).lt hx) (fun e => ?_)) (fun x hx => hc.block x (by omega) (fun e => ?_))
      · rcases e with e | e
        · have := (h.pairs q hq).lo x hx; omega
        · have a := t1 i q x hi' hx; have b := (t2 x e).1; omega
      · rcases e with e | e
        · omega
        · have := h.row.lt x e; omega
    · simp at hq; subst hq; exact hp'
  · classical
    refine ⟨fun x => if x < w.heap.size then tg x else (if PFoot p x then K.length + 1 else 0), fun j q x hq hx => ?_, fun x hx => ?_, fun x hx => ?_⟩
    · by_cases hj : j < K.length
      · dsimp only
        rw [List.getElem?_append_left hj] at hq
        rw [if_pos ((h.pairs q (List.mem_of_getElem? hq)).lt hx)]
        exact t1 j q x hq hx
      · dsimp only
        rw [List.getElem?_append_right (by omega)] at hq
        have hj0 : j - K.length = 0 := by
          rcases Nat.eq_zero_or_pos (j - K.length) with e | e
          · exact e
          · rw [List.getElem?_eq_none (by simp; omega)] at hq; cases hq
        rw [hj0] at hq
        simp at hq
        subst hq
        have := hnew x hx
        rw [if_neg (by omega), if_pos hx]
        omega
    · rw [upd_same] at hx
      obtain ⟨h1, h2⟩ := hv x hx
      rcases h1 with h1 | h1
      · dsimp only
        rw [if_pos (h.row.lt x h1).2]
        exact ⟨(t2 x h1).1, fun hf => (t2 x h1).2 ((hfoot x).1 hf)⟩
      · dsimp only
        rw [if_neg (by omega), if_neg h2]
        exact ⟨rfl, fun hf => by have := hi.foot_lt ((hfoot x).1 hf); omega⟩
    · have hx' := (hfoot x).1 hx
      dsimp only; rw [if_pos (hi.foot_lt hx').2]; exact t3 x hx'
  · rw [hfi, hfm]
    obtain ⟨h1, h2, h3⟩ := hi.own c hc'
    refine ⟨ownsRow_chg h1 hc (fun b hb => hno b ⟨c, hc', .inl hb⟩), ownsRow_chg h2 hc (fun b hb => hno b ⟨c, hc', .inr (.inl hb)⟩), fun o ho => ?_⟩
    obtain ⟨k1, k0, k2⟩ := h3 o ho
    refine ⟨k1, k0, fun g hg => ?_⟩
    obtain ⟨q1, q2, q3⟩ := k2 g hg
    exact ⟨q1, Nat.lt_of_lt_of_le q2 hc.size, by rw [hc.block g q2 (hno g ⟨c, hc', .inr (.inr ⟨o, ho, hg⟩)⟩)]; exact q3⟩
  · obtain ⟨tg', a1, a2, a3⟩ := hi.tag
    exact ⟨tg', fun c hc' b hb => a1 c hc' b (by rw [← hfi c]; exact hb), fun c hc' b hb => a2 c hc' b (by rw [← hfm c]; exact hb), a3⟩
end

end Go.Proofs.YtchideljndagjabGreat
