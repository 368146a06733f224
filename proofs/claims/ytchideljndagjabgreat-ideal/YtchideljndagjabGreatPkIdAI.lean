/- Contracts of the program's client: a draw copied; New. -/
import Derived.Test.YtchideljndagjabGreatPkIdAG
import Derived.Test.YtchideljndagjabGreatPkIdAH
namespace Go.Proofs.YtchideljndagjabGreat
open Go.ChangeShapes Go.WideShapes Go.ChangeAt Go.RowKit
set_option linter.unusedVariables false
def SixAt (w : World) (b : Nat) (T : TypeId) (a0 a1 a2 a3 a4 a5 : Value) : Prop := w.heap[b]? = some (.cells #[a0, a1, a2, a3, a4, a5] T (0, 0))
theorem SixAt.cells {w : World} {b : Nat} {T : TypeId} {a0 a1 a2 a3 a4 a5 : Value} (h : SixAt w b T a0 a1 a2 a3 a4 a5) :
    (w.cell? ⟨b, 0, none⟩ = some a0 ∧ w.cell? ⟨b, 1, none⟩ = some a1 ∧ w.cell? ⟨b, 2, none⟩ = some a2 ∧ w.cell? ⟨b, 3, none⟩ = some a3 ∧ w.cell? ⟨b, 4, none⟩ = some a4 ∧ w.cell? ⟨b, 5, none⟩ = some a5) ∧ ∀ i, w.frozen? ⟨b, i, none⟩ = false := by
  refine ⟨⟨?_, ?_, ?_, ?_, ?_, ?_⟩, fun i => frozen_of_row w b i _ T h⟩
  all_goals (rw [cell_of_row w b _ _ T (0, 0) h]; rfl)
theorem SixAt.below {w w' : World} {b B : Nat} {T : TypeId} {a0 a1 a2 a3 a4 a5 : Value} (h : SixAt w b T a0 a1 a2 a3 a4 a5) (hb : Below B w w') (hB : b < B) : SixAt w' b T a0 a1 a2 a3 a4 a5 := (hb.block b hB).trans h
theorem SixAt.chg {P : Nat → Prop} {w w' : World} {b : Nat} {T : TypeId} {a0 a1 a2 a3 a4 a5 : Value} (h : SixAt w b T a0 a1 a2 a3 a4 a5) (hc : Chg P w w') (hl : b < w.heap.size) (hn : ¬ P b) : SixAt w' b T a0 a1 a2 a3 a4 a5 := (hc.block b hl hn).trans h
theorem SixAt.set0 {w : World} {b : Nat} {T : TypeId} {a0 a1 a2 a3 a4 a5 : Value} (h : SixAt w b T a0 a1 a2 a3 a4 a5) (x : Value) : SixAt (w.setCell ⟨b, 0, none⟩ x) b T x a1 a2 a3 a4 a5 := heap_setCell_same w b 0 _ T x h
theorem SixAt.set4 {w : World} {b : Nat} {T : TypeId} {a0 a1 a2 a3 a4 a5 : Value} (h : SixAt w b T a0 a1 a2 a3 a4 a5) (x : Value) : SixAt (w.setCell ⟨b, 4, none⟩ x) b T a0 a1 a2 a3 x a5 := heap_setCell_same w b 4 _ T x h
theorem SixAt.setAll {w : World} {b : Nat} {T : TypeId} {a0 a1 a2 a3 a4 a5 : Value} (h : SixAt w b T a0 a1 a2 a3 a4 a5) (x0 x1 x2 x3 x4 x5 : Value) : SixAt (((((((w.setCell ⟨b, 0, none⟩ x0).setCell ⟨b, 1, none⟩ x1).setCell ⟨b, 2, none⟩ x2).setCell ⟨b, 3, none⟩ x3).setCell ⟨b, 4, none⟩ x4).setCell ⟨b, 5, none⟩ x5)) b T x0 x1 x2 x3 x4 x5 :=
  heap_setCell_same _ b 5 #[x0, x1, x2, x3, x4, a5] T x5 (heap_setCell_same _ b 4 #[x0, x1, x2, x3, a4, a5] T x4 (heap_setCell_same _ b 3 #[x0, x1, x2, a3, a4, a5] T x3 (heap_setCell_same _ b 2 #[x0, x1, a2, a3, a4, a5] T x2 (heap_setCell_same _ b 1 #[x0, a1, a2, a3, a4, a5] T x1 (heap_setCell_same w b 0 #[a0, a1, a2, a3, a4, a5] T x0 h)))))
theorem sizeDr : (Tryz.prog.info? 117).map (·.size) = some 6 := by kernel_rfl
set_option maxHeartbeats 2000000 in
set_option maxRecDepth 100000 in
theorem copied_calls (vi vm vs : Value) (inp sm ss : List Int) (ch mk sd : Int) (w : World) (hi : ListAt w vi inp) (hm : ListAt w vm sm) (hs : ListAt w vs ss) (li : inp.length ≤ 12) (lm : sm.length ≤ 12) (ls : ss.length ≤ 12) :
    Calls Tryz.prog 192 #[.agg #[vi, .int .i64 ch, .int .i64 mk, .int .i64 sd, vm, vs]] w fun e w' => ∃ v1 v2 v3, e = .returned (.agg #[v1, .int .i64 ch, .int .i64 mk, .int .i64 sd, v2, v3]) ∧
      w'.ownsRow w.heap.size 3 1 v1 inp.length (inp.map (Value.int .i64)) ∧ w'.ownsRow w.heap.size 3 1 v2 sm.length (sm.map (Value.int .i64)) ∧ w'.ownsRow w.heap.size 3 1 v3 ss.length (ss.map (Value.int .i64)) ∧ Below w.heap.size w w' := by
  have C1 := hideG (fun (W : World) (hb : Below w.heap.size w W) => copied_ints W vi inp (hi.below hb) li)
  have C2 := hideG (fun (W : World) (hb : Below w.heap.size w W) => copied_ints W vm sm (hm.below hb) lm)
  have C3 := hideG (fun (W : World) (hb : Below w.heap.size w W) => copied_ints W vs ss (hs.below hb) ls)
  obtain ⟨a1, c1, rfl, -⟩ := hi
  obtain ⟨a2, c2, rfl, -⟩ := hm
  obtain ⟨a3, c3, rfl, -⟩ := hs
  generalize inp.length = n1 at *
  generalize sm.length = n2 at *
  generalize ss.length = n3 at *
  generalize inp.map (Value.int .i64) = L1 at *
  generalize sm.map (Value.int .i64) = L2 at *
  generalize ss.map (Value.int .i64) = L3 at *
  clear li lm ls
  obtain ⟨W0, hW0⟩ : ∃ W0, W0 = (w.alloc (.cells #[.slice a1 n1 c1, .int .i64 ch, .int .i64 mk, .int .i64 sd, .slice a2 n2 c2, .slice a3 n3 c3] 117)).alloc (.cells #[.slice none 0 0, .int .i64 0, .int .i64 0, .int .i64 0, .slice none 0 0, .slice none 0 0] 117) := ⟨_, rfl⟩
  have B0 := hideG (show Below w.heap.size w W0 by rw [hW0]; exact ((Below.refl _ _).alloc (Nat.le_refl _) _).alloc (by simp) _)
  have S0 := hideG (show SixAt W0 w.heap.size 117 (.slice a1 n1 c1) (.int .i64 ch) (.int .i64 mk) (.int .i64 sd) (.slice a2 n2 c2) (.slice a3 n3 c3) by rw [hW0]; exact heap_alloc2_old w _ _)
  have R0 := hideG (show SixAt W0 (w.heap.size + 1) 117 (.slice none 0 0) (.int .i64 0) (.int .i64 0) (.int .i64 0) (.slice none 0 0) (.slice none 0 0) by rw [hW0]; exact heap_alloc2_new w _ _)
  have z0 : w.heap.size + 1 < W0.heap.size := by rw [hW0]; simp
  have HW0 := hideG hW0
  clear hW0
  go_enter Tryz.func192, Tryz.ntmps192
  go_upto_region 1 with fail
  rw [← HW0.out]
  obtain ⟨⟨x0, x1, x2, x3, x4, x5⟩, xf⟩ := S0.out.cells
  go_wp2_with (at_builtin; refine wpList_append_copy _ rfl _ _ 33 rfl rfl (.slice a1 n1 c1) rfl 3 1 n1 L1 (C1.out _ B0.out) ?_)
  intro v1 w1 hown1 hb1
  obtain ⟨p1, q1, hv1⟩ := owns_form hown1
  subst hv1
  have s1 := hb1.size
  have S1 := hideG (S0.out.below hb1 (by omega))
  have R1 := hideG (R0.out.below hb1 (by omega))
  have O1 := hideG (ownsRow_chg (S := fun x => x = w.heap.size) hown1 (Chg.setCell w1 ⟨w.heap.size, 0, none⟩ (.slice p1 n1 q1)) (fun x e hx => by have := (hown1.lt x e).1; omega))
  have B1 := hideG ((B0.out.trans (hb1.mono (by omega))).setCell (p := ⟨w.heap.size, 0, none⟩) (Nat.le_refl _) (.slice p1 n1 q1))
  have S1' := hideG (S1.out.set0 (.slice p1 n1 q1))
  have R1' := hideG (R1.out.chg (Chg.setCell w1 ⟨w.heap.size, 0, none⟩ (.slice p1 n1 q1)) (by omega) (by simp))
  have z1 : w.heap.size + 1 < (w1.setCell ⟨w.heap.size, 0, none⟩ (.slice p1 n1 q1)).heap.size := by simp; omega
  clear x0 x1 x2 x3 x4 x5 xf hown1 hb1
  obtain ⟨⟨x0, x1, x2, x3, x4, x5⟩, xf⟩ := S1.out.cells
  have Z1 := hideG z1
  clear z1
  go_wp2_with (at_builtin; refine wpList_append_copy _ rfl _ _ 33 rfl rfl (.slice a2 n2 c2) rfl 3 1 n2 L2 (C2.out _ B1.out) ?_)
  intro v2 w2 hown2 hb2
  have hown2' : w2.ownsRow (w1.setCell ⟨w.heap.size, 0, none⟩ (.slice p1 n1 q1)).heap.size 3 1 v2 n2 L2 := by simpa using hown2
  have hb2' : Below (w1.setCell ⟨w.heap.size, 0, none⟩ (.slice p1 n1 q1)).heap.size (w1.setCell ⟨w.heap.size, 0, none⟩ (.slice p1 n1 q1)) w2 := by simpa using hb2
  obtain ⟨p2, q2, hv2⟩ := owns_form hown2
  subst hv2
  clear x0 x1 x2 x3 x4 x5 xf hown2 hb2
  have s2 := hb2'.size
  have S2 := hideG (S1'.out.below hb2' (by have := Z1.out; omega))
  have R2 := hideG (R1'.out.below hb2' Z1.out)
  have c2' : Chg (fun x => x = w.heap.size) w2 (w2.setCell ⟨w.heap.size, 4, none⟩ (.slice p2 n2 q2)) := Chg.setCell w2 ⟨w.heap.size, 4, none⟩ _
  have O21 := hideG (ownsRow_chg (ownsRow_chg (S := fun _ => False) O1.out (Chg.of_below hb2') (fun _ _ h => h)) c2' (fun x e hx => by have := (O1.out.lt x e).1; omega))
  have O22 := hideG (ownsRow_chg hown2' c2' (fun x e hx => by have := (hown2'.lt x e).1; have := Z1.out; omega))
  have B2 := hideG ((B1.out.trans (hb2'.mono (by have := Z1.out; omega))).setCell (p := ⟨w.heap.size, 4, none⟩) (Nat.le_refl _) (.slice p2 n2 q2))
  have S2' := hideG (S2.out.set4 (.slice p2 n2 q2))
  have R2' := hideG (R2.out.chg c2' (by have := Z1.out; omega) (by simp))
  have Z2 := hideG (show w.heap.size + 1 < (w2.setCell ⟨w.heap.size, 4, none⟩ (.slice p2 n2 q2)).heap.size by have := Z1.out; simp at *; omega)
  obtain ⟨⟨x0, x1, x2, x3, x4, x5⟩, xf⟩ := S2.out.cells
  clear hown2' hb2' c2' s2
  go_wp2_with (at_builtin; refine wpList_append_copy _ rfl _ _ 33 rfl rfl (.slice a3 n3 c3) rfl 3 1 n3 L3 (C3.out _ B2.out) ?_)
  intro v3 w3 hown3 hb3
  have hown3' : w3.ownsRow (w2.setCell ⟨w.heap.size, 4, none⟩ (.slice p2 n2 q2)).heap.size 3 1 v3 n3 L3 := by simpa using hown3
  have hb3' : Below (w2.setCell ⟨w.heap.size, 4, none⟩ (.slice p2 n2 q2)).heap.size (w2.setCell ⟨w.heap.size, 4, none⟩ (.slice p2 n2 q2)) w3 := by simpa using hb3
  obtain ⟨p3, q3, hv3⟩ := owns_form hown3
  subst hv3
  clear x0 x1 x2 x3 x4 x5 xf hown3 hb3
  have S3 := hideG (S2'.out.below hb3' (by have := Z2.out; omega))
  have R3 := hideG (R2'.out.below hb3' Z2.out)
  have hz3 : w.heap.size + 1 < w3.heap.size := Nat.lt_of_lt_of_le Z2.out hb3'.size
  obtain ⟨W5, hW5⟩ : ∃ W5, W5 = (((((((w3.setCell ⟨w.heap.size, 5, none⟩ (.slice p3 n3 q3)).setCell ⟨w.heap.size + 1, 0, none⟩ (.slice p1 n1 q1)).setCell ⟨w.heap.size + 1, 1, none⟩ (.int .i64 ch)).setCell ⟨w.heap.size + 1, 2, none⟩ (.int .i64 mk)).setCell ⟨w.heap.size + 1, 3, none⟩ (.int .i64 sd)).setCell ⟨w.heap.size + 1, 4, none⟩ (.slice p2 n2 q2)).setCell ⟨w.heap.size + 1, 5, none⟩ (.slice p3 n3 q3)) := ⟨_, rfl⟩
  have c5 : Chg (fun x => x = w.heap.size ∨ x = w.heap.size + 1) w3 W5 := by
    rw [hW5]
    have k0 : Chg (fun x => x = w.heap.size ∨ x = w.heap.size + 1) w3 (w3.setCell ⟨w.heap.size, 5, none⟩ (.slice p3 n3 q3)) := (Chg.setCell w3 ⟨w.heap.size, 5, none⟩ _).mono (fun x e _ => .inl e)
    have kk : ∀ (X : World) (o : Nat) (u : Value), Chg (fun x => x = w.heap.size ∨ x = w.heap.size + 1) X (X.setCell ⟨w.heap.size + 1, o, none⟩ u) := fun X o u => (Chg.setCell X ⟨w.heap.size + 1, o, none⟩ u).mono (fun x e _ => .inr e)
    exact (((((k0.also (kk _ _ _)).also (kk _ _ _)).also (kk _ _ _)).also (kk _ _ _)).also (kk _ _ _)).also (kk _ _ _)
  have HROW := hideG (show W5.heap[w.heap.size + 1]? = some (.cells #[.slice p1 n1 q1, .int .i64 ch, .int .i64 mk, .int .i64 sd, .slice p2 n2 q2, .slice p3 n3 q3] 117 (0, 0)) by
    rw [hW5]; exact (R3.out.chg (Chg.setCell w3 ⟨w.heap.size, 5, none⟩ (.slice p3 n3 q3)) hz3 (by simp)).setAll _ _ _ _ _ _)
  have OF1 := hideG (ownsRow_chg (ownsRow_chg (S := fun _ => False) O21.out (Chg.of_below hb3') (fun _ _ h => h)) c5 (fun x e hx => by have := (O1.out.lt x e).1; omega))
  have OF2 := hideG (ownsRow_chg (ownsRow_chg (S := fun _ => False) O22.out (Chg.of_below hb3') (fun _ _ h => h)) c5 (fun x e hx => by have := (O22.out.lt x e).1; have := Z1.out; omega))
  have OF3 := hideG (ownsRow_chg hown3' c5 (fun x e hx => by have := (hown3'.lt x e).1; have := Z2.out; omega))
  have BF := hideG (show Below w.heap.size w W5 from (B2.out.trans (hb3'.mono (by have := Z2.out; omega))).trans (c5.below (Nat.le_of_lt (by omega)) (fun x e => by omega)))
  obtain ⟨⟨x0, x1, x2, x3, x4, x5⟩, xf⟩ := S3.out.cells
  obtain ⟨⟨y0, y1, y2, y3, y4, y5⟩, yf⟩ := R3.out.cells
  have HW5 := hideG hW5
  clear hown3' hb3' c5 hW5
  have hne : w.heap.size ≠ w.heap.size + 1 := by omega
  go_wp2_with fail
  rw [← HW5.out]
  refine bodyPost_ret (results_cell_row rfl _ _ (w.heap.size + 1) 117 #[.slice p1 n1 q1, .int .i64 ch, .int .i64 mk, .int .i64 sd, .slice p2 n2 q2, .slice p3 n3 q3] (0, 0) _ rfl HROW.out Tryz.underlying117 rfl sizeDr) rfl ?_
  exact ⟨_, _, _, rfl, ownsRow_base OF1.out (by omega), ownsRow_base OF2.out (by have := Z1.out; omega), ownsRow_base OF3.out (by have := Z2.out; omega), BF.out⟩
end Go.Proofs.YtchideljndagjabGreat
namespace Go.Proofs.YtchideljndagjabGreat
open Go.ChangeShapes Go.WideShapes Go.ChangeAt Go.RowKit
set_option linter.unusedVariables false
def zeroPS : PS := ⟨0, 0, 0, 0, 0, 0, .slice none 0 0, 0, 0, 0, .slice none 0 0, .slice none 0 0, fun _ => Cli.Pr.z, .slice none 0 0⟩
theorem zero_ps : Tryz.zeroCells205 = (psCells zeroPS).toArray := by kernel_rfl
theorem zero_psl : Tryz.zeroCells205.toList = psCells zeroPS := by rw [zero_ps]
theorem ps_len (s : PS) : (psCells s).toArray.size = 78 := by rw [List.size_toArray]; exact psCells_length s
theorem PSAt.range78 {w : World} {b : Nat} {T : TypeId} {s : PS} (h : PSAt w b T s) : w.rangeAt b 0 (psCells s) := by
  intro j v hv
  rw [Nat.zero_add, h.cell j]
  exact hv
theorem PSAt.chg {P : Nat → Prop} {w w' : World} {b : Nat} {T : TypeId} {s : PS} (h : PSAt w b T s) (hc : Chg P w w') (hn : ¬ P b) : PSAt w' b T s := h.block (hc.block b h.lt hn)
def newE (N T M D id : Int) (inp : List Int) (ch mk sd : Int) (sm ss : List Int) : Int :=
  if Cli.cfgB N T M D = false then 5 else if id < 1 ∨ N < id then 1 else if Cli.drawB T M inp ch mk sd sm ss = false then 6 else 0
def newW (Z : Array Value) (w : World) (N T M D : Int) (vi vm vs : Value) (ch mk sd : Int) : World :=
  ((w.alloc (.cells #[.int .i64 N, .int .i64 T, .int .i64 M, .int .i64 D] 26)).alloc (.cells #[vi, .int .i64 ch, .int .i64 mk, .int .i64 sd, vm, vs] 117)).alloc (.cells Z 205)
theorem newW_facts (w : World) (N T M D : Int) (vi vm vs : Value) (ch mk sd : Int) : Below w.heap.size w (newW Tryz.zeroCells205 w N T M D vi vm vs ch mk sd) ∧ (newW Tryz.zeroCells205 w N T M D vi vm vs ch mk sd).heap.size = w.heap.size + 3 ∧ PSAt (newW Tryz.zeroCells205 w N T M D vi vm vs ch mk sd) (w.heap.size + 2) 205 zeroPS := by
  refine ⟨(((Below.refl _ _).alloc (Nat.le_refl _) _).alloc (by simp) _).alloc (by simp; omega) _, by simp [newW], ?_⟩
  unfold PSAt newW
  rw [← zero_ps]
  have := heap_alloc_new ((w.alloc (.cells #[.int .i64 N, .int .i64 T, .int .i64 M, .int .i64 D] 26)).alloc (.cells #[vi, .int .i64 ch, .int .i64 mk, .int .i64 sd, vm, vs] 117)) (.cells Tryz.zeroCells205 205)
  simpa using this
theorem newW_cells (w : World) (N T M D : Int) (vi vm vs : Value) (ch mk sd : Int) {W : World} (hb : Below (newW Tryz.zeroCells205 w N T M D vi vm vs ch mk sd).heap.size (newW Tryz.zeroCells205 w N T M D vi vm vs ch mk sd) W) :
    (W.cell? ⟨w.heap.size, 0, none⟩ = some (.int .i64 N) ∧ W.cell? ⟨w.heap.size, 1, none⟩ = some (.int .i64 T) ∧ W.cell? ⟨w.heap.size, 2, none⟩ = some (.int .i64 M) ∧ W.cell? ⟨w.heap.size, 3, none⟩ = some (.int .i64 D)) ∧
    (W.cell? ⟨w.heap.size + 1, 0, none⟩ = some vi ∧ W.cell? ⟨w.heap.size + 1, 1, none⟩ = some (.int .i64 ch) ∧ W.cell? ⟨w.heap.size + 1, 2, none⟩ = some (.int .i64 mk) ∧ W.cell? ⟨w.heap.size + 1, 3, none⟩ = some (.int .i64 sd) ∧ W.cell? ⟨w.heap.size + 1, 4, none⟩ = some vm ∧ W.cell? ⟨w.heap.size + 1, 5, none⟩ = some vs) := by
  have hs := (newW_facts w N T M D vi vm vs ch mk sd).2.1
  have e0 : ∀ o, W.cell? ⟨w.heap.size, o, none⟩ = (newW Tryz.zeroCells205 w N T M D vi vm vs ch mk sd).cell? ⟨w.heap.size, o, none⟩ := fun o => hb.cell (p := ⟨w.heap.size, o, none⟩) (by show w.heap.size < _; omega)
  have e1 : ∀ o, W.cell? ⟨w.heap.size + 1, o, none⟩ = (newW Tryz.zeroCells205 w N T M D vi vm vs ch mk sd).cell? ⟨w.heap.size + 1, o, none⟩ := fun o => hb.cell (p := ⟨w.heap.size + 1, o, none⟩) (by show w.heap.size + 1 < _; omega)
  have k1 : Below (w.heap.size + 1) (w.alloc (.cells #[.int .i64 N, .int .i64 T, .int .i64 M, .int .i64 D] 26)) (newW Tryz.zeroCells205 w N T M D vi vm vs ch mk sd) := ((Below.refl _ _).alloc (by simp) _).alloc (by simp) _
  have k2 : Below (w.heap.size + 2) ((w.alloc (.cells #[.int .i64 N, .int .i64 T, .int .i64 M, .int .i64 D] 26)).alloc (.cells #[vi, .int .i64 ch, .int .i64 mk, .int .i64 sd, vm, vs] 117)) (newW Tryz.zeroCells205 w N T M D vi vm vs ch mk sd) := (Below.refl _ _).alloc (by simp) _
  refine ⟨⟨?_, ?_, ?_, ?_⟩, ⟨?_, ?_, ?_, ?_, ?_, ?_⟩⟩
  all_goals first
    | (rw [e0, k1.cell (p := ⟨w.heap.size, _, none⟩) (by show w.heap.size < _; omega)]; simp)
    | (rw [e1, k2.cell (p := ⟨w.heap.size + 1, _, none⟩) (by show w.heap.size + 1 < _; omega)]; simp)
theorem new_fail {w W : World} {N T M D : Int} {vi vm vs : Value} {ch mk sd : Int} (hb : Below (newW Tryz.zeroCells205 w N T M D vi vm vs ch mk sd).heap.size (newW Tryz.zeroCells205 w N T M D vi vm vs ch mk sd) W) :
    ∃ X2, (storeCells ⟨w.heap.size + 2, 0, none⟩ Tryz.zeroCells205.toList).run Tryz.prog W = .ok () X2 ∧ X2.heap[w.heap.size + 2]? = some (.cells (psCells zeroPS).toArray 205 (0, 0)) ∧ Below w.heap.size w X2 := by
  obtain ⟨f1, f2, f3⟩ := newW_facts w N T M D vi vm vs ch mk sd
  have hp := f3.block (hb.block _ (by omega))
  refine ⟨_, stc Tryz.prog (w.heap.size + 2) 0 _ W ?_ ?_, ?_, below_setCells (by omega) _ _ _ (f1.trans (hb.mono (by omega)))⟩
  · rw [zero_psl, psCells_length]; exact hp.there 0 78 (by omega)
  · rw [zero_psl]; exact fun v hv => Array.all_eq_true_iff_forall_mem.1 (psCells_one zeroPS rfl rfl rfl rfl) v (by simpa using hv)
  · rw [zero_psl]; exact hp.setAll zeroPS
set_option maxHeartbeats 2000000 in
set_option maxRecDepth 100000 in
theorem new_no (N T M D id : Int) (vi vm vs : Value) (inp sm ss : List Int) (ch mk sd : Int) (w : World) (hi : ListAt w vi inp) (hm : ListAt w vm sm) (hs : ListAt w vs ss) (hE : newE N T M D id inp ch mk sd sm ss ≠ 0) :
    Calls Tryz.prog 126 #[.agg #[.int .i64 N, .int .i64 T, .int .i64 M, .int .i64 D], .int .i64 id, .agg #[vi, .int .i64 ch, .int .i64 mk, .int .i64 sd, vm, vs]] w fun e w' =>
      e = .returned (.tuple #[.agg (psCells zeroPS).toArray, .int .i64 (newE N T M D id inp ch mk sd sm ss)]) ∧ Below w.heap.size w w' := by
  have HCF := hideG (fun (W : World) => config_calls N T M D W)
  have HDR := hideG (fun (W : World) (hb : Below w.heap.size w W) (t1 : 1 ≤ T) (t2 : T ≤ 12) => draw_calls N T M D vi vm vs inp sm ss ch mk sd W (hi.below hb) (hm.below hb) (hs.below hb) t1 t2)
  obtain ⟨a1, c1, rfl, -⟩ := hi
  obtain ⟨a2, c2, rfl, -⟩ := hm
  obtain ⟨a3, c3, rfl, -⟩ := hs
  generalize inp.length = n1 at *
  generalize sm.length = n2 at *
  generalize ss.length = n3 at *
  have HWF := hideG (newW_facts w N T M D (.slice a1 n1 c1) (.slice a2 n2 c2) (.slice a3 n3 c3) ch mk sd)
  have HCE := hideG (fun W hb => newW_cells w N T M D (.slice a1 n1 c1) (.slice a2 n2 c2) (.slice a3 n3 c3) ch mk sd (W := W) hb)
  have HFA := hideG (fun W hb => new_fail (w := w) (W := W) (N := N) (T := T) (M := M) (D := D) (vi := .slice a1 n1 c1) (vm := .slice a2 n2 c2) (vs := .slice a3 n3 c3) (ch := ch) (mk := mk) (sd := sd) hb)
  have HSZ := hideG (show (Tryz.prog.info? 205).map (·.size) = some (psCells zeroPS).toArray.size by rw [size98, ps_len])
  have HD := hideG (show newW Tryz.zeroCells205 w N T M D (.slice a1 n1 c1) (.slice a2 n2 c2) (.slice a3 n3 c3) ch mk sd = ((w.alloc (.cells #[.int .i64 N, .int .i64 T, .int .i64 M, .int .i64 D] 26)).alloc (.cells #[.slice a1 n1 c1, .int .i64 ch, .int .i64 mk, .int .i64 sd, .slice a2 n2 c2, .slice a3 n3 c3] 117)).alloc (.cells Tryz.zeroCells205 205) from rfl)
  obtain ⟨W0, hW0⟩ : ∃ W0, W0 = newW Tryz.zeroCells205 w N T M D (.slice a1 n1 c1) (.slice a2 n2 c2) (.slice a3 n3 c3) ch mk sd := ⟨_, rfl⟩
  rw [← hW0] at HWF HCE HFA HD
  clear hW0
  obtain ⟨CZ, hCZ⟩ : ∃ CZ, CZ = (psCells zeroPS).toArray := ⟨_, rfl⟩
  rw [← hCZ] at HFA HSZ ⊢
  clear hCZ
  have s0 : w.heap.size + 2 < W0.heap.size := by have := HWF.out.2.1; omega
  cases hcf : Cli.cfgB N T M D
  · have HEE := hideG (show newE N T M D id inp ch mk sd sm ss = 5 by unfold newE; rw [if_pos hcf])
    rw [hcf] at HCF
    clear hE hcf
    go_enter Tryz.func126, Tryz.ntmps126
    go_wp2_with fail
    rw [← HD.out]
    refine (HCF.out W0).mono ?_
    rintro e w1 ⟨rfl, hb1⟩
    obtain ⟨X2, hst, hrow, hbx⟩ := HFA.out w1 hb1
    have HROW := hideG hrow
    have HBX := hideG hbx
    clear hrow hbx hb1
    go_wp2_with fail
    refine bodyPost_ret (results_row_tmp rfl _ _ (w.heap.size + 2) 205 CZ (0, 0) _ rfl HROW.out Tryz.underlying205 rfl HSZ.out) rfl ?_
    exact ⟨by rw [HEE.out]; rfl, HBX.out⟩
  obtain ⟨g1, g2, g3, g4, g5, g6, g7, g8⟩ : 1 ≤ N ∧ N ≤ 12 ∧ 1 ≤ T ∧ T ≤ N ∧ 1 ≤ M ∧ M ≤ 12 ∧ 1 ≤ D ∧ D ≤ 50 := by
    unfold Cli.cfgB at hcf; simp only [Bool.and_eq_true, decide_eq_true_iff] at hcf; omega
  by_cases q1 : id < 1
  · have HEE := hideG (show newE N T M D id inp ch mk sd sm ss = 1 by unfold newE; rw [if_neg (by rw [hcf]; simp), if_pos (.inl q1)])
    rw [hcf] at HCF
    clear hE hcf
    go_enter Tryz.func126, Tryz.ntmps126
    go_wp2_with fail
    rw [← HD.out]
    refine (HCF.out W0).mono ?_
    rintro e w1 ⟨rfl, hb1⟩
    obtain ⟨⟨x0, x1, x2, x3⟩, -⟩ := HCE.out w1 hb1
    obtain ⟨X2, hst, hrow, hbx⟩ := HFA.out w1 hb1
    have HROW := hideG hrow
    have HBX := hideG hbx
    clear hrow hbx hb1
    go_wp2_with fail
    refine bodyPost_ret (results_row_tmp rfl _ _ (w.heap.size + 2) 205 CZ (0, 0) _ rfl HROW.out Tryz.underlying205 rfl HSZ.out) rfl ?_
    exact ⟨by rw [HEE.out]; rfl, HBX.out⟩
  by_cases q2 : N < id
  · have HEE := hideG (show newE N T M D id inp ch mk sd sm ss = 1 by unfold newE; rw [if_neg (by rw [hcf]; simp), if_pos (.inr q2)])
    rw [hcf] at HCF
    clear hE hcf
    go_enter Tryz.func126, Tryz.ntmps126
    go_wp2_with fail
    rw [← HD.out]
    refine (HCF.out W0).mono ?_
    rintro e w1 ⟨rfl, hb1⟩
    obtain ⟨⟨x0, x1, x2, x3⟩, -⟩ := HCE.out w1 hb1
    obtain ⟨X2, hst, hrow, hbx⟩ := HFA.out w1 hb1
    have HROW := hideG hrow
    have HBX := hideG hbx
    clear hrow hbx hb1
    go_wp2_with fail
    refine bodyPost_ret (results_row_tmp rfl _ _ (w.heap.size + 2) 205 CZ (0, 0) _ rfl HROW.out Tryz.underlying205 rfl HSZ.out) rfl ?_
    exact ⟨by rw [HEE.out]; rfl, HBX.out⟩
  have hdr : Cli.drawB T M inp ch mk sd sm ss = false := by
    cases e : Cli.drawB T M inp ch mk sd sm ss
    · rfl
    · exfalso; apply hE; unfold newE; rw [if_neg (by rw [hcf]; simp), if_neg (by omega), if_neg (by rw [e]; simp)]
  have HEE := hideG (show newE N T M D id inp ch mk sd sm ss = 6 by unfold newE; rw [if_neg (by rw [hcf]; simp), if_neg (by omega), if_pos hdr])
  rw [hcf] at HCF
  rw [hdr] at HDR
  clear hE hcf hdr
  go_enter Tryz.func126, Tryz.ntmps126
  go_wp2_with fail
  rw [← HD.out]
  refine (HCF.out W0).mono ?_
  rintro e w1 ⟨rfl, hb1⟩
  obtain ⟨⟨x0, x1, x2, x3⟩, y0, y1, y2, y3, y4, y5⟩ := HCE.out w1 hb1
  have HB1 := hideG hb1
  have s1 := hb1.size
  clear hb1
  go_wp2_with fail
  refine (HDR.out w1 (HWF.out.1.trans (HB1.out.mono (by omega))) g3 (by omega)).mono ?_
  rintro e w2 ⟨rfl, hb2⟩
  obtain ⟨X2, hst, hrow, hbx⟩ := HFA.out w2 (HB1.out.trans (hb2.mono s1))
  have HROW := hideG hrow
  have HBX := hideG hbx
  clear hrow hbx hb2 x0 x1 x2 x3 y0 y1 y2 y3 y4 y5
  go_wp2_with fail
  refine bodyPost_ret (results_row_tmp rfl _ _ (w.heap.size + 2) 205 CZ (0, 0) _ rfl HROW.out Tryz.underlying205 rfl HSZ.out) rfl ?_
  exact ⟨by rw [HEE.out]; rfl, HBX.out⟩
end Go.Proofs.YtchideljndagjabGreat
namespace Go.Proofs.YtchideljndagjabGreat
open Go.ChangeShapes Go.WideShapes Go.ChangeAt Go.RowKit
set_option linter.unusedVariables false
def freshS (id N T ch mk sd : Int) (v1 v2 v3 : Value) : PS := ⟨id, 1, Num.powP 37 ch, Num.powP 37 mk, N, T, v1, ch, mk, sd, v2, v3, fun _ => Cli.Pr.z, .slice none 0 0⟩
def freshS0 (id N T cp mp : Int) : PS := ⟨id, 1, cp, mp, N, T, .slice none 0 0, 0, 0, 0, .slice none 0 0, .slice none 0 0, fun _ => Cli.Pr.z, .slice none 0 0⟩
theorem newE_ok {N T M D id : Int} {inp : List Int} {ch mk sd : Int} {sm ss : List Int} (h : newE N T M D id inp ch mk sd sm ss = 0) : Cli.cfgB N T M D = true ∧ (1 ≤ id ∧ id ≤ N) ∧ Cli.drawB T M inp ch mk sd sm ss = true := by
  unfold newE at h
  cases e1 : Cli.cfgB N T M D
  · rw [if_pos e1] at h; omega
  · rw [if_neg (by rw [e1]; simp)] at h
    by_cases q : id < 1 ∨ N < id
    · rw [if_pos q] at h; omega
    · rw [if_neg q] at h
      cases e2 : Cli.drawB T M inp ch mk sd sm ss
      · rw [if_pos e2] at h; omega
      · exact ⟨rfl, by omega, rfl⟩
set_option maxHeartbeats 4000000 in
set_option maxRecDepth 100000 in
theorem new_ok (N T M D id : Int) (vi vm vs : Value) (inp sm ss : List Int) (ch mk sd : Int) (w : World) (hi : ListAt w vi inp) (hm : ListAt w vm sm) (hs : ListAt w vs ss) (hE : newE N T M D id inp ch mk sd sm ss = 0) :
    Calls Tryz.prog 126 #[.agg #[.int .i64 N, .int .i64 T, .int .i64 M, .int .i64 D], .int .i64 id, .agg #[vi, .int .i64 ch, .int .i64 mk, .int .i64 sd, vm, vs]] w fun e w' =>
      ∃ v1 v2 v3, e = .returned (.tuple #[.agg (psCells (freshS id N T ch mk sd v1 v2 v3)).toArray, .int .i64 0]) ∧ w'.ownsRow w.heap.size 3 1 v1 inp.length (inp.map (Value.int .i64)) ∧ w'.ownsRow w.heap.size 3 1 v2 sm.length (sm.map (Value.int .i64)) ∧ w'.ownsRow w.heap.size 3 1 v3 ss.length (ss.map (Value.int .i64)) ∧ Below w.heap.size w w' := by
  obtain ⟨hcf, ⟨q1, q2⟩, hdr⟩ := newE_ok hE
  have hg := Cli.good_of hcf ⟨q1, q2⟩ hdr
  have gn := hg.n
  have gt := hg.t
  have gm := hg.m
  have gl1 := hg.len
  have gl2 := hg.sml
  have gl3 := hg.ssl
  obtain ⟨k1, k2⟩ := hg.ch
  obtain ⟨k3, k4⟩ := hg.ms
  change 1 ≤ N ∧ N ≤ 12 at gn
  change 1 ≤ T ∧ T ≤ N at gt
  change 1 ≤ M ∧ M ≤ 12 at gm
  change (inp.length : Int) = M at gl1
  change (sm.length : Int) = T - 1 at gl2
  change (ss.length : Int) = T - 1 at gl3
  change ch < _ at k2
  change mk < _ at k4
  replace k1 : ch ≤ 9223372036854775807 := by omega
  replace k3 : mk ≤ 9223372036854775807 := by omega
  obtain ⟨g1, g2⟩ := gn
  obtain ⟨g3, g4⟩ := gt
  have HCF := hideG (fun (W : World) => config_calls N T M D W)
  have HDR := hideG (fun (W : World) (hb : Below w.heap.size w W) => draw_calls N T M D vi vm vs inp sm ss ch mk sd W (hi.below hb) (hm.below hb) (hs.below hb) g3 (by omega))
  have HCP := hideG (fun (W : World) (hb : Below w.heap.size w W) => copied_calls vi vm vs inp sm ss ch mk sd W (hi.below hb) (hm.below hb) (hs.below hb) (by omega) (by omega) (by omega))
  rw [hcf] at HCF
  rw [hdr] at HDR
  clear hcf hdr hg hE gl1 gl2 gl3 gm k2 k4
  obtain ⟨a1, c1, rfl, -⟩ := hi
  obtain ⟨a2, c2, rfl, -⟩ := hm
  obtain ⟨a3, c3, rfl, -⟩ := hs
  generalize inp.length = n1 at *
  generalize sm.length = n2 at *
  generalize ss.length = n3 at *
  have HWF := hideG (newW_facts w N T M D (.slice a1 n1 c1) (.slice a2 n2 c2) (.slice a3 n3 c3) ch mk sd)
  have HCE := hideG (fun W hb => newW_cells w N T M D (.slice a1 n1 c1) (.slice a2 n2 c2) (.slice a3 n3 c3) ch mk sd (W := W) hb)
  have HD := hideG (show newW Tryz.zeroCells205 w N T M D (.slice a1 n1 c1) (.slice a2 n2 c2) (.slice a3 n3 c3) ch mk sd = ((w.alloc (.cells #[.int .i64 N, .int .i64 T, .int .i64 M, .int .i64 D] 26)).alloc (.cells #[.slice a1 n1 c1, .int .i64 ch, .int .i64 mk, .int .i64 sd, .slice a2 n2 c2, .slice a3 n3 c3] 117)).alloc (.cells Tryz.zeroCells205 205) from rfl)
  obtain ⟨W0, hW0⟩ : ∃ W0, W0 = newW Tryz.zeroCells205 w N T M D (.slice a1 n1 c1) (.slice a2 n2 c2) (.slice a3 n3 c3) ch mk sd := ⟨_, rfl⟩
  rw [← hW0] at HWF HCE HD
  clear hW0
  have s0 : w.heap.size + 2 < W0.heap.size := by have := HWF.out.2.1; omega
  go_enter Tryz.func126, Tryz.ntmps126
  go_wp2_with fail
  rw [← HD.out]
  refine (HCF.out W0).mono ?_
  rintro e w1 ⟨rfl, hb1⟩
  obtain ⟨⟨x0, x1, x2, x3⟩, y0, y1, y2, y3, y4, y5⟩ := HCE.out w1 hb1
  have HB1 := hideG hb1
  have s1 := hb1.size
  clear hb1
  go_wp2_with fail
  refine (HDR.out w1 (HWF.out.1.trans (HB1.out.mono (by omega)))).mono ?_
  rintro e w2 ⟨rfl, hb2⟩
  have s2 := hb2.size
  have HB2 := hideG (HB1.out.trans (hb2.mono s1))
  clear hb2 x0 x1 x2 x3 y0 y1 y2 y3 y4 y5
  obtain ⟨⟨x0, x1, x2, x3⟩, -⟩ := HCE.out w2 HB2.out
  have hp3 : PSAt (w2.alloc (.cells Tryz.zeroCells205 205)) w2.heap.size 205 zeroPS := by unfold PSAt; rw [← zero_ps]; exact heap_alloc_new w2 _
  have hst := stc Tryz.prog w2.heap.size 0 (psCells (freshS0 id N T 0 0)) (w2.alloc (.cells Tryz.zeroCells205 205)) (by rw [psCells_length]; exact hp3.there 0 78 (by omega)) (fun v hv => Array.all_eq_true_iff_forall_mem.1 (psCells_one (freshS0 id N T 0 0) rfl rfl rfl rfl) v (by simpa using hv))
  have hst2 : (storeCells ⟨w2.heap.size, 0, none⟩ ((((Tryz.zeroCells205.toList.set 0 (Value.int IntKind.i64 id)).set 1 (Value.int IntKind.i64 1)).set 4 (Value.int IntKind.i64 N)).set 5 (Value.int IntKind.i64 T))).run Tryz.prog (w2.alloc (.cells Tryz.zeroCells205 205)) = .ok () ((w2.alloc (.cells Tryz.zeroCells205 205)).setCells w2.heap.size 0 (psCells (freshS0 id N T 0 0))) := hst
  have PS3 := hideG (hp3.setAll (freshS0 id N T 0 0))
  have hb3 : Below w2.heap.size w2 ((w2.alloc (.cells Tryz.zeroCells205 205)).setCells w2.heap.size 0 (psCells (freshS0 id N T 0 0))) := below_setCells (Nat.le_refl _) _ _ _ ((Below.refl _ _).alloc (Nat.le_refl _) _)
  clear hst hp3
  obtain ⟨w3, hw3⟩ : ∃ w3, w3 = (w2.alloc (.cells Tryz.zeroCells205 205)).setCells w2.heap.size 0 (psCells (freshS0 id N T 0 0)) := ⟨_, rfl⟩
  rw [← hw3] at hst2 PS3 hb3
  clear hw3
  have s3 := hb3.size
  have HB3 := hideG (HB2.out.trans (hb3.mono (by omega)))
  have l3 := PS3.out.lt
  obtain ⟨-, y0, y1, y2, y3, y4, y5⟩ := HCE.out w3 HB3.out
  have e2 := PS3.out.c2
  have e3 := PS3.out.c3
  have ef := PS3.out.froz
  clear hb3
  have hne : w2.heap.size ≠ w.heap.size + 1 := by omega
  have hne' : w.heap.size + 1 ≠ w2.heap.size := by omega
  go_wp2_with fail
  refine (power_calls _ _ _ (by omega) (by omega) k1).mono ?_
  rintro e w' ⟨rfl, hw'⟩
  rw [hw']
  clear hw'
  obtain ⟨P1, hP1⟩ : ∃ P1, P1 = Num.powP 37 ch := ⟨_, rfl⟩
  rw [← hP1]
  have HP1 := hideG hP1
  clear hP1
  go_wp2_with fail
  refine (power_calls _ _ _ (by omega) (by omega) k3).mono ?_
  rintro e w' ⟨rfl, hw'⟩
  rw [hw']
  clear hw'
  obtain ⟨P2, hP2⟩ : ∃ P2, P2 = Num.powP 37 mk := ⟨_, rfl⟩
  rw [← hP2]
  have HP2 := hideG hP2
  clear hP2
  go_wp2_with fail
  obtain ⟨w4, hw4⟩ : ∃ w4, w4 = (w3.setCell ⟨w2.heap.size, 2, none⟩ (.int .i64 P1)).setCell ⟨w2.heap.size, 3, none⟩ (.int .i64 P2) := ⟨_, rfl⟩
  rw [← hw4]
  have PS4 := hideG (show PSAt w4 w2.heap.size 205 (freshS0 id N T P1 P2) by rw [hw4]; exact (PS3.out.setCp P1).setMp P2)
  have hc4 : Chg (fun x => x = w2.heap.size) w3 w4 := by rw [hw4]; exact (Chg.setCell w3 ⟨w2.heap.size, 2, none⟩ _).also (Chg.setCell _ ⟨w2.heap.size, 3, none⟩ _)
  have HB4 := hideG (show Below W0.heap.size W0 w4 from HB3.out.trans (hc4.below (by omega) (fun x e => by omega)))
  have s4 := hc4.size
  clear hc4 hw4 e2 e3 ef x0 x1 x2 x3 y0 y1 y2 y3 y4 y5 hst2
  refine (HCP.out w4 (HWF.out.1.trans (HB4.out.mono (by omega)))).mono ?_
  rintro e w5 ⟨v1, v2, v3, rfl, o1, o2, o3, hb5⟩
  obtain ⟨p1, r1, hv1⟩ := owns_form o1
  obtain ⟨p2, r2, hv2⟩ := owns_form o2
  obtain ⟨p3, r3, hv3⟩ := owns_form o3
  subst hv1 hv2 hv3
  have s5 := hb5.size
  have PS5 := hideG (PS4.out.below hb5)
  have HB5 := hideG (HB4.out.trans (hb5.mono (by omega)))
  have O1 := hideG o1
  have O2 := hideG o2
  have O3 := hideG o3
  clear o1 o2 o3 hb5
  have e6 := PS5.out.c6
  have e7 := PS5.out.c7
  have e8 := PS5.out.c8
  have e9 := PS5.out.c9
  have e10 := PS5.out.c10
  have e11 := PS5.out.c11
  have ef := PS5.out.froz
  obtain ⟨S, hS⟩ : ∃ S, S = freshS id N T ch mk sd (.slice p1 n1 r1) (.slice p2 n2 r2) (.slice p3 n3 r3) := ⟨_, rfl⟩
  have hw6 : ∀ (W : World), W = w5.setCells w2.heap.size 6 [.slice p1 n1 r1, .int .i64 ch, .int .i64 mk, .int .i64 sd, .slice p2 n2 r2, .slice p3 n3 r3] → PSAt W w2.heap.size 205 S ∧ Chg (fun x => x = w2.heap.size) w5 W := fun W hW => by
    rw [hW, hS]
    have := PS5.out.setDraw (.slice p1 n1 r1) ch mk sd (.slice p2 n2 r2) (.slice p3 n3 r3)
    refine ⟨?_, chg_setCells _ _ _ _⟩
    have e : freshS id N T ch mk sd (.slice p1 n1 r1) (.slice p2 n2 r2) (.slice p3 n3 r3) = { freshS0 id N T P1 P2 with inp := .slice p1 n1 r1, ch := ch, ms := mk, sd := sd, sm := .slice p2 n2 r2, ss := .slice p3 n3 r3 } := by
      rw [HP1.out, HP2.out]; rfl
    rw [e]; exact this
  have HW6 := hideG hw6
  have HS := hideG hS
  have HONE := hideG (show (psCells S).toArray.all (·.oneCell') = true by rw [hS]; exact psCells_one _ rfl rfl rfl rfl)
  clear hS hw6
  go_upto_region 11 with fail
  obtain ⟨w6, hw6⟩ : ∃ w6, w6 = (((((w5.setCell ⟨w2.heap.size, 6, none⟩ (.slice p1 n1 r1)).setCell ⟨w2.heap.size, 7, none⟩ (.int .i64 ch)).setCell ⟨w2.heap.size, 8, none⟩ (.int .i64 mk)).setCell ⟨w2.heap.size, 9, none⟩ (.int .i64 sd)).setCell ⟨w2.heap.size, 10, none⟩ (.slice p2 n2 r2)).setCell ⟨w2.heap.size, 11, none⟩ (.slice p3 n3 r3) := ⟨_, rfl⟩
  rw [← hw6]
  obtain ⟨p6, c6⟩ := HW6.out w6 hw6
  have PS6 := hideG p6
  have s6 := c6.size
  have HB6 := hideG (show Below W0.heap.size W0 w6 from HB5.out.trans (c6.below (by omega) (fun x e => by omega)))
  have OO1 := hideG (ownsRow_chg O1.out c6 (fun x e hx => by have := (O1.out.lt x e).1; omega))
  have OO2 := hideG (ownsRow_chg O2.out c6 (fun x e hx => by have := (O2.out.lt x e).1; omega))
  have OO3 := hideG (ownsRow_chg O3.out c6 (fun x e hx => by have := (O3.out.lt x e).1; omega))
  clear hw6 p6 c6 e6 e7 e8 e9 e10 e11 ef
  have PR6 := hideG (show PSAt w6 (w.heap.size + 2) 205 zeroPS from HWF.out.2.2.block (HB6.out.block _ (by omega)))
  obtain ⟨CS, hCS⟩ : ∃ CS, CS = psCells S := ⟨_, rfl⟩
  have L78 := hideG (show CS.length = 78 by rw [hCS]; exact psCells_length S)
  have RG := hideG (show w6.rangeAt w2.heap.size 0 CS by rw [hCS]; exact PS6.out.range78)
  have HTH := hideG (show w6.there (w.heap.size + 2) 0 CS.toArray.size by rw [show CS.toArray.size = 78 by rw [List.size_toArray]; exact L78.out]; exact PR6.out.there 0 78 (by omega))
  have HROW := hideG (show (w6.setCells (w.heap.size + 2) 0 CS).heap[w.heap.size + 2]? = some (.cells CS.toArray 205 (0, 0)) by rw [hCS]; exact PR6.out.setAll S)
  have c7 : Chg (fun x => x = w.heap.size + 2) w6 (w6.setCells (w.heap.size + 2) 0 CS) := chg_setCells _ _ _ _
  have BF := hideG (show Below w.heap.size w (w6.setCells (w.heap.size + 2) 0 CS) from below_setCells (by omega) _ _ _ (HWF.out.1.trans (HB6.out.mono (by omega))))
  have OF1 := hideG (ownsRow_chg OO1.out c7 (fun x e hx => by have := (O1.out.lt x e).1; omega))
  have OF2 := hideG (ownsRow_chg OO2.out c7 (fun x e hx => by have := (O2.out.lt x e).1; omega))
  have OF3 := hideG (ownsRow_chg OO3.out c7 (fun x e hx => by have := (O3.out.lt x e).1; omega))
  rw [← hCS] at HONE
  have HCS := hideG hCS
  clear hCS c7
  have HSZ := hideG (show (Tryz.prog.info? 205).map (·.size) = some CS.toArray.size by rw [size98, List.size_toArray, L78.out])
  have HSL := hideG (show (Tryz.prog.info? 205).map (·.size) = some CS.length by rw [size98, L78.out])
  go_wp2_with (first | refine wpList_load_mid rfl 205 _ rfl w2.heap.size 0 rfl CS _ RG.out Tryz.underlying205 rfl HSL.out ?_ | refine wpList_store_mid rfl 205 _ _ rfl (w.heap.size + 2) 0 CS.toArray rfl rfl HTH.out HSZ.out HONE.out ?_)
  refine bodyPost_ret (results_row_tmp rfl _ _ (w.heap.size + 2) 205 CS.toArray (0, 0) _ rfl HROW.out Tryz.underlying205 rfl HSZ.out) rfl ?_
  exact ⟨_, _, _, by rw [HCS.out, HS.out]; rfl, ownsRow_base OF1.out (by omega), ownsRow_base OF2.out (by omega), ownsRow_base OF3.out (by omega), BF.out⟩
end Go.Proofs.YtchideljndagjabGreat
