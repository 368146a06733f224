/- Contracts of the steps of a script: Times and Power. -/
import Derived.Test.YtchideljndagjabGreatPkIdAG
import Derived.Test.YtchideljndagjabGreatPkIdBD
import Derived.Test.YtchideljndagjabGreatPkIdAB
import Derived.Test.YtchideljndagjabGreatPkIdAH
import Derived.WalkSpells
import Derived.Laws.CopyOwn
import Derived.Laws.MakeOwn
import Derived.Deep.MidRow
namespace Go.Proofs.YtchideljndagjabGreat
open Go.ChangeShapes Go.WideShapes Go.ChangeAt Go.RowKit
set_option linter.unusedVariables false
end Go.Proofs.YtchideljndagjabGreat
namespace Go.Proofs.YtchideljndagjabGreat
open Go.ChangeShapes Go.WideShapes Go.ChangeAt Go.RowKit
set_option linter.unusedVariables false
end Go.Proofs.YtchideljndagjabGreat
namespace Go.Proofs.YtchideljndagjabGreat
open Go.ChangeShapes Go.WideShapes Go.ChangeAt Go.RowKit
set_option linter.unusedVariables false
end Go.Proofs.YtchideljndagjabGreat
namespace Go.Proofs.YtchideljndagjabGreat
open Go.ChangeShapes Go.WideShapes Go.ChangeAt Go.RowKit
set_option linter.unusedVariables false
end Go.Proofs.YtchideljndagjabGreat
namespace Go.Proofs.YtchideljndagjabGreat
open Go.ChangeShapes Go.WideShapes Go.ChangeAt Go.RowKit
set_option linter.unusedVariables false
end Go.Proofs.YtchideljndagjabGreat
namespace Go.Proofs.YtchideljndagjabGreat
open Go.ChangeShapes Go.WideShapes Go.ChangeAt Go.RowKit
set_option linter.unusedVariables false
end Go.Proofs.YtchideljndagjabGreat
namespace Go.Proofs.YtchideljndagjabGreat
open Go.RowKit
set_option linter.unusedVariables false
def given (zs : List Int) (k : Nat) : List Value := zs.map (Value.int .i64) ++ (List.replicate k (.int .i64 77) ++ List.replicate (3 - k) (.int .i64 0))
end Go.Proofs.YtchideljndagjabGreat
namespace Go.Proofs.YtchideljndagjabGreat
open Go.RowKit
set_option linter.unusedVariables false
def FRow (w : World) (g : Nat) (T : TypeId) (N : Nat) (f : Nat → Value) : Prop := w.heap[g]? = some (.cells ((List.range N).map f).toArray T (0, 0))
theorem frow_get (N : Nat) (f : Nat → Value) (t : Nat) (ht : t < N) : ((List.range N).map f)[t]? = some (f t) := by rw [List.getElem?_map, List.getElem?_range ht]; rfl
section
variable {w w' : World} {g N : Nat} {T : TypeId} {f f' : Nat → Value}
theorem FRow.cell (h : FRow w g T N f) (t : Nat) (ht : t < N) : w.cell? ⟨g, t, none⟩ = some (f t) := by
  rw [cell_of_row w g t _ _ (0, 0) h, List.getElem?_toArray]; exact frow_get N f t ht
theorem FRow.froz (h : FRow w g T N f) (t : Nat) : w.frozen? ⟨g, t, none⟩ = false := frozen_of_row w g t _ _ h
theorem FRow.lt (h : FRow w g T N f) : g < w.heap.size := by
  by_cases hb : g < w.heap.size
  · exact hb
  · unfold FRow at h; rw [Array.getElem?_eq_none (by omega)] at h; cases h
theorem FRow.block (h : FRow w g T N f) (e : w'.heap[g]? = w.heap[g]?) : FRow w' g T N f := e.trans h
theorem FRow.ext (h : FRow w g T N f) (e : ∀ t, t < N → f t = f' t) : FRow w g T N f' := by
  unfold FRow at h ⊢
  rw [h]
  congr 3
  apply List.map_congr_left
  intro t ht
  exact e t (List.mem_range.1 ht)
theorem FRow.upd (h : FRow w g T N f) (t : Nat) (ht : t < N) (v : Value) (hz : f' t = v) (e : ∀ u, u < N → u ≠ t → f' u = f u) : FRow (w.setCell ⟨g, t, none⟩ v) g T N f' := by
  have := heap_setCell_same w g t _ _ v h
  unfold FRow
  rw [this, List.setIfInBounds_toArray]
  congr 3
  apply List.ext_getElem?
  intro u
  rw [List.getElem?_set]
  by_cases hu : u < N
  · rw [frow_get N f' u hu]
    by_cases ee : t = u
    · subst ee; rw [if_pos rfl, if_pos (by simpa using ht), hz]
    · rw [if_neg ee, frow_get N f u hu, e u hu (fun x => ee x.symm)]
  · rw [List.getElem?_eq_none (by simp; omega)]
    by_cases ee : t = u
    · omega
    · rw [if_neg ee, List.getElem?_eq_none (by simp; omega)]
theorem FRow.set (h : FRow w g T N f) (t : Nat) (ht : t < N) (v : Value) : FRow (w.setCell ⟨g, t, none⟩ v) g T N (fun u => if u = t then v else f u) := h.upd t ht v (if_pos rfl) (fun u _ hu => if_neg hu)
end
theorem FRow.range {w : World} {g N : Nat} {T : TypeId} {f : Nat → Value} (h : FRow w g T N f) (o n : Nat) (hn : o + n ≤ N) : w.rangeAt g o ((List.range n).map fun j => f (o + j)) := fun j v e => by
  have hj : j < n := by have := (List.getElem?_eq_some_iff.1 e).1; simpa using this
  rw [List.getElem?_map, List.getElem?_range hj] at e
  rw [h.cell (o + j) (by omega)]; exact e
theorem FRow.there {w : World} {g N : Nat} {T : TypeId} {f : Nat → Value} (h : FRow w g T N f) (o n : Nat) (hn : o + n ≤ N) : w.there g o n := fun j hj => ⟨by rw [h.cell (o + j) (by omega)]; rfl, h.froz _⟩
theorem FRow.setAll {w : World} {g N : Nat} {T : TypeId} {f : Nat → Value} (h : FRow w g T N f) (f' : Nat → Value) : FRow (w.setCells g 0 ((List.range N).map f')) g T N f' := by
  have hh : ∀ (vs : List Value) (pre : List Value) (mid : List Value) (w : World), mid.length = vs.length → w.heap[g]? = some (.cells (pre ++ mid).toArray T (0, 0)) → (w.setCells g pre.length vs).heap[g]? = some (.cells (pre ++ vs).toArray T (0, 0)) := by
    intro vs
    induction vs with
    | nil => intro pre mid w hl h; rw [List.eq_nil_of_length_eq_zero hl] at h; exact h
    | cons v vs ih =>
      intro pre mid w hl h
      obtain ⟨m, ms, rfl⟩ : ∃ m ms, mid = m :: ms := by cases mid with | nil => simp at hl | cons m ms => exact ⟨m, ms, rfl⟩
      have h1 := heap_setCell_same w g pre.length _ T v h
      rw [List.setIfInBounds_toArray, List.set_append_right _ _ (Nat.le_refl _), Nat.sub_self] at h1
      have h2 := ih (pre ++ [v]) ms (w.setCell ⟨g, pre.length, none⟩ v) (by simpa using hl) (by simpa using h1)
      rw [World.setCells]
      rw [List.length_append] at h2
      simpa using h2
  exact hh _ [] _ w (by simp) h
end Go.Proofs.YtchideljndagjabGreat
namespace Go.Proofs.YtchideljndagjabGreat
open Go.RowKit
set_option linter.unusedVariables false
structure DD where
  inp : List Int
  ch : Int
  ms : Int
  sd : Int
  sm : List Int
  ss : List Int
def dl (d : DD) : Nat → List Int
  | 0 => d.inp
  | 1 => d.sm
  | _ => d.ss
def BoxAt (w : World) (b : Nat) (d0 d1 d2 d3 d4 d5 : Value) : Prop := w.heap[b]? = some (.cells #[d0, d1, d2, d3, d4, d5] 117 (0, 0))
theorem BoxAt.cells {w : World} {b : Nat} {d0 d1 d2 d3 d4 d5 : Value} (h : BoxAt w b d0 d1 d2 d3 d4 d5) : (w.cell? ⟨b, 0, none⟩ = some d0 ∧ w.cell? ⟨b, 1, none⟩ = some d1 ∧ w.cell? ⟨b, 2, none⟩ = some d2 ∧ w.cell? ⟨b, 3, none⟩ = some d3 ∧ w.cell? ⟨b, 4, none⟩ = some d4 ∧ w.cell? ⟨b, 5, none⟩ = some d5) ∧ ∀ i, w.frozen? ⟨b, i, none⟩ = false :=
  ⟨⟨(cell_of_row w b 0 _ _ (0, 0) h).trans rfl, (cell_of_row w b 1 _ _ (0, 0) h).trans rfl, (cell_of_row w b 2 _ _ (0, 0) h).trans rfl, (cell_of_row w b 3 _ _ (0, 0) h).trans rfl, (cell_of_row w b 4 _ _ (0, 0) h).trans rfl, (cell_of_row w b 5 _ _ (0, 0) h).trans rfl⟩, fun i => frozen_of_row w b i _ _ h⟩
theorem BoxAt.below {w w' : World} {b B : Nat} {d0 d1 d2 d3 d4 d5 : Value} (h : BoxAt w b d0 d1 d2 d3 d4 d5) (hb : Below B w w') (hB : b < B) : BoxAt w' b d0 d1 d2 d3 d4 d5 := (hb.block b hB).trans h
theorem BoxAt.set0 {w : World} {b : Nat} {d0 d1 d2 d3 d4 d5 : Value} (h : BoxAt w b d0 d1 d2 d3 d4 d5) (v : Value) : BoxAt (w.setCell ⟨b, 0, none⟩ v) b v d1 d2 d3 d4 d5 := heap_setCell_same w b 0 _ _ v h
theorem BoxAt.set4 {w : World} {b : Nat} {d0 d1 d2 d3 d4 d5 : Value} (h : BoxAt w b d0 d1 d2 d3 d4 d5) (v : Value) : BoxAt (w.setCell ⟨b, 4, none⟩ v) b d0 d1 d2 d3 v d5 := heap_setCell_same w b 4 _ _ v h
def DrawIs (w : World) (vi vm vs : Value) (d : DD) : Prop := ListAt w vi d.inp ∧ ListAt w vm d.sm ∧ ListAt w vs d.ss ∧ inI d.ch ∧ inI d.ms ∧ inI d.sd
theorem DrawIs.below {w w' : World} {vi vm vs : Value} {d : DD} (h : DrawIs w vi vm vs d) (hb : Below w.heap.size w w') : DrawIs w' vi vm vs d := ⟨h.1.below hb, h.2.1.below hb, h.2.2.1.below hb, h.2.2.2⟩
structure DrawsAt (w : World) (a : Option Addr) (n cap : Nat) (vi vm vs : Nat → Value) (D : Nat → DD) : Prop where
  le : n ≤ cap
  mx : cap ≤ 9223372036854775807
  cells : ∀ i, i < n → ∃ b off, a = some ⟨b, off, none⟩ ∧ b < w.heap.size ∧ w.cell? ⟨b, off + i * 6, none⟩ = some (vi i) ∧ w.cell? ⟨b, off + i * 6 + 1, none⟩ = some (.int .i64 (D i).ch) ∧ w.cell? ⟨b, off + i * 6 + 2, none⟩ = some (.int .i64 (D i).ms) ∧ w.cell? ⟨b, off + i * 6 + 3, none⟩ = some (.int .i64 (D i).sd) ∧ w.cell? ⟨b, off + i * 6 + 4, none⟩ = some (vm i) ∧ w.cell? ⟨b, off + i * 6 + 5, none⟩ = some (vs i)
  its : ∀ i, i < n → DrawIs w (vi i) (vm i) (vs i) (D i)
theorem DrawsAt.below {w w' : World} {a : Option Addr} {n cap : Nat} {vi vm vs : Nat → Value} {D : Nat → DD} (h : DrawsAt w a n cap vi vm vs D) (hb : Below w.heap.size w w') : DrawsAt w' a n cap vi vm vs D :=
  ⟨h.le, h.mx, fun i hi => by
    obtain ⟨b, off, e1, e2, e3, e4, e5, e6, e7, e8⟩ := h.cells i hi
    exact ⟨b, off, e1, Nat.lt_of_lt_of_le e2 hb.size, (hb.cell (p := ⟨b, off + i * 6, none⟩) e2).trans e3, (hb.cell (p := ⟨b, off + i * 6 + 1, none⟩) e2).trans e4, (hb.cell (p := ⟨b, off + i * 6 + 2, none⟩) e2).trans e5, (hb.cell (p := ⟨b, off + i * 6 + 3, none⟩) e2).trans e6, (hb.cell (p := ⟨b, off + i * 6 + 4, none⟩) e2).trans e7, (hb.cell (p := ⟨b, off + i * 6 + 5, none⟩) e2).trans e8⟩,
   fun i hi => (h.its i hi).below hb⟩
structure GivenAt (w : World) (B g n : Nat) (G : Nat → Nat → Nat) (D : Nat → DD) : Prop where
  row : ∀ i k, i < n → k < 3 → w.heap[G i k]? = some (.cells (given (dl (D i) k) 3).toArray 3 (0, 0))
  lo : ∀ i k, i < n → k < 3 → B ≤ G i k ∧ G i k ≠ g
  inj : ∀ i k i' k', i < n → k < 3 → i' < n → k' < 3 → G i k = G i' k' → i = i' ∧ k = k'
theorem GivenAt.lt {w : World} {B g n : Nat} {G : Nat → Nat → Nat} {D : Nat → DD} (h : GivenAt w B g n G D) (i k : Nat) (hi : i < n) (hk : k < 3) : G i k < w.heap.size := by
  have := h.row i k hi hk
  by_cases hb : G i k < w.heap.size
  · exact hb
  · rw [Array.getElem?_eq_none (by omega)] at this; cases this
end Go.Proofs.YtchideljndagjabGreat
