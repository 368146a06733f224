/- Contracts of the program's server: Outcome. -/
import Derived.Test.YtchideljndagjabGreatPkSeAW
import Derived.Test.YtchideljndagjabGreatPkSeAB
import Derived.Test.YtchideljndagjabGreatPkSeAC
import Derived.Test.YtchideljndagjabGreatPkSeAO
import Derived.BigQuiet
import Derived.Test.YtchideljndagjabGreatPkSeAS
namespace Go.Proofs.YtchideljndagjabGreat
open Go.ChangeShapes Go.WideShapes Go.ChangeAt Go.RowKit
set_option linter.unusedVariables false

theorem size_out4 : (Tryz.prog.info? 35).map (·.size) = some 4 := by kernel_rfl
theorem row_four {w : World} {b : Nat} {T : TypeId} {x0 x1 x2 x3 : Value} (h : w.heap[b]? = some (.cells #[x0, x1, x2, x3] T (0, 0))) (y0 y1 y2 y3 : Value) : ((((w.setCell ⟨b, 0, none⟩ y0).setCell ⟨b, 1, none⟩ y1).setCell ⟨b, 2, none⟩ y2).setCell ⟨b, 3, none⟩ y3).heap[b]? = some (.cells #[y0, y1, y2, y3] T (0, 0)) :=
  heap_setCell_same _ _ 3 #[y0, y1, y2, x3] _ _ (heap_setCell_same _ _ 2 #[y0, y1, x2, x3] _ _ (heap_setCell_same _ _ 1 #[y0, x1, x2, x3] _ _ (heap_setCell_same _ _ 0 _ _ _ h)))
theorem chg_four (w : World) (b : Nat) (y0 y1 y2 y3 : Value) : Chg (fun x => x = b) w ((((w.setCell ⟨b, 0, none⟩ y0).setCell ⟨b, 1, none⟩ y1).setCell ⟨b, 2, none⟩ y2).setCell ⟨b, 3, none⟩ y3) :=
  (((Chg.setCell w ⟨b, 0, none⟩ y0).also (Chg.setCell _ ⟨b, 1, none⟩ y1)).also (Chg.setCell _ ⟨b, 2, none⟩ y2)).also (Chg.setCell _ ⟨b, 3, none⟩ y3)
theorem cells_four {w : World} {b : Nat} {T : TypeId} {x0 x1 x2 x3 : Value} (h : w.heap[b]? = some (.cells #[x0, x1, x2, x3] T (0, 0))) : (w.cell? ⟨b, 0, none⟩ = some x0 ∧ w.cell? ⟨b, 1, none⟩ = some x1 ∧ w.cell? ⟨b, 2, none⟩ = some x2 ∧ w.cell? ⟨b, 3, none⟩ = some x3) ∧ ∀ i, w.frozen? ⟨b, i, none⟩ = false :=
  ⟨⟨by rw [cell_of_row w b 0 _ _ (0, 0) h]; rfl, by rw [cell_of_row w b 1 _ _ (0, 0) h]; rfl, by rw [cell_of_row w b 2 _ _ (0, 0) h]; rfl, by rw [cell_of_row w b 3 _ _ (0, 0) h]; rfl⟩, fun i => frozen_of_row w b i _ _ h⟩

/-- An outcome that is told: its lists are new, and two. -/
def Told (w w' : World) (va vb : Value) (ls us : List Int) : Prop :=
  w'.ownsRow w.heap.size 3 1 va ls.length (ls.map (Value.int .i64)) ∧ w'.ownsRow w.heap.size 3 1 vb us.length (us.map (Value.int .i64)) ∧ (∀ x, va.ownBlock = some x → vb.ownBlock ≠ some x) ∧ Below w.heap.size w w'

set_option maxHeartbeats 2000000 in
set_option maxRecDepth 100000 in
theorem sOutcome_calls (b : Nat) (S : SS) (ls us : List Int) (w : World) (h : SSAt w b S) (hs : ListAt w S.set ls) (hu : ListAt w S.sum us) (l1 : ls.length ≤ 12) (l2 : us.length ≤ 12) :
    Calls Tryz.prog 70 #[.pointer (some ⟨b, 0, none⟩)] w fun e w' => ∃ va vb, e = .returned (.agg #[.int .i64 S.st, .int .i64 S.ro, va, vb]) ∧ Told w w' va vb ls us := by
  have hbl := h.lt
  have C1 := hideG (fun (W : World) (hb : Below w.heap.size w W) => copied_ints W S.set ls (hs.below hb) l1)
  have C2 := hideG (fun (W : World) (hb : Below w.heap.size w W) => copied_ints W S.sum us (hu.below hb) l2)
  obtain ⟨W0, hW0⟩ : ∃ W0, W0 = w.alloc (.cells #[.int .i64 0, .int .i64 0, .slice none 0 0, .slice none 0 0] 35) := ⟨_, rfl⟩
  have b0 : Below w.heap.size w W0 := by rw [hW0]; exact (Below.refl _ _).alloc (Nat.le_refl _) _
  have h0 := h.below b0
  have c72 := h0.st
  have c73 := h0.ro
  have c74 := h0.set
  have c75 := h0.sum
  obtain ⟨a1, k1, hv1, -⟩ := hs
  obtain ⟨a2, k2, hv2, -⟩ := hu
  rw [hv1] at C1 c74
  rw [hv2] at C2 c75
  clear h h0 hv1 hv2 l1 l2
  have R0 := hideG (show W0.heap[w.heap.size]? = some (.cells #[.int .i64 0, .int .i64 0, .slice none 0 0, .slice none 0 0] 35 (0, 0)) by rw [hW0]; exact heap_alloc_new w _)
  have z0 : W0.heap.size = w.heap.size + 1 := by rw [hW0]; simp
  have HW0 := hideG hW0
  generalize S.st = st at *
  generalize S.ro = ro at *
  obtain ⟨n1, hn1⟩ : ∃ n1, ls.length = n1 := ⟨_, rfl⟩
  obtain ⟨n2, hn2⟩ : ∃ n2, us.length = n2 := ⟨_, rfl⟩
  rw [hn1] at C1 c74
  rw [hn2] at C2 c75
  have NL1 := hideG hn1
  have NL2 := hideG hn2
  clear hn1 hn2
  obtain ⟨W1, hW1⟩ : ∃ W1, W1 = W0.alloc (.cells #[.int .i64 st, .int .i64 ro, .slice a1 n1 k1, .slice a2 n2 k2] 35) := ⟨_, rfl⟩
  have b1 : Below W0.heap.size W0 W1 := by rw [hW1]; exact (Below.refl _ _).alloc (Nat.le_refl _) _
  have R1 := hideG (show W1.heap[W0.heap.size]? = some (.cells #[.int .i64 st, .int .i64 ro, .slice a1 n1 k1, .slice a2 n2 k2] 35 (0, 0)) by rw [hW1]; exact heap_alloc_new W0 _)
  have z1 : W1.heap.size = w.heap.size + 2 := by rw [hW1]; simp; omega
  have R01 := hideG ((b1.block w.heap.size (by omega)).trans R0.out)
  have B1 := hideG (b0.trans (b1.mono b0.size))
  have HW1 := hideG hW1
  clear hW0 hW1 b0 b1
  have CC1 := hideG (C1.out W1 B1.out)
  obtain ⟨⟨y0, y1, y2, y3⟩, yf⟩ := cells_four R1.out
  obtain ⟨d, hd⟩ : ∃ d, d = W0.heap.size := ⟨_, rfl⟩
  have dz : d = w.heap.size + 1 := by omega
  have DZ := hideG dz
  rw [← hd] at y0 y1 y2 y3 yf R1
  have HD := hideG hd
  have BD := hideG (show b < w.heap.size from hbl)
  have Z1 := hideG z1
  clear z0 z1 hd dz
  go_enter Tryz.func70, Tryz.ntmps70
  go_upto_region 1 with fail
  rw [← HW0.out]
  go_upto_region 2 with fail
  rw [← HW1.out, ← HD.out]
  clear c72 c73 c74 c75
  go_wp2_with (at_builtin; refine wpList_append_copy _ rfl _ _ 33 rfl rfl _ rfl 3 1 _ _ CC1.out ?_)
  intro va w2 hva hb2
  obtain ⟨a3, k3, hv3⟩ := owns_form hva
  subst hv3
  have s2 := hb2.size
  have R2 := hideG ((hb2.block d (by have := DZ.out; have := Z1.out; omega)).trans R1.out)
  have R02 := hideG ((hb2.block w.heap.size (by have := Z1.out; omega)).trans R01.out)
  have B2 := hideG (B1.out.trans (hb2.mono B1.out.size))
  have O2 := hideG hva
  clear hva hb2 y0 y1 y2 y3 yf
  obtain ⟨⟨y0, y1, y2, y3⟩, yf⟩ := cells_four R2.out
  obtain ⟨W3, hW3⟩ : ∃ W3, W3 = w2.setCell ⟨d, 2, none⟩ (.slice a3 n1 k3) := ⟨_, rfl⟩
  have c3 : Chg (fun x => x = d) w2 W3 := by rw [hW3]; exact Chg.setCell w2 ⟨d, 2, none⟩ _
  have R3 := hideG (show W3.heap[d]? = some (.cells #[.int .i64 st, .int .i64 ro, .slice a3 n1 k3, .slice a2 n2 k2] 35 (0, 0)) by rw [hW3]; exact heap_setCell_same w2 d 2 _ _ _ R2.out)
  have R03 := hideG ((c3.block w.heap.size (by have := Z1.out; omega) (by have := DZ.out; omega)).trans R02.out)
  have B3 := hideG (show Below w.heap.size w W3 by rw [hW3]; exact B2.out.setCell (p := ⟨d, 2, none⟩) (by have := DZ.out; show w.heap.size ≤ d; omega) _)
  have O3 := hideG (ownsRow_chg O2.out c3 (fun x hx e => by have := (O2.out.lt x hx).1; have := DZ.out; have := Z1.out; omega))
  have s3 : W3.heap.size = w2.heap.size := by rw [hW3]; simp
  have S3 := hideG s3
  have HW3 := hideG hW3
  clear hW3 c3 s3
  go_upto_region 3 with fail
  rw [← HW3.out]
  clear y0 y1 y2 y3 yf
  obtain ⟨⟨y0, y1, y2, y3⟩, yf⟩ := cells_four R3.out
  have CC2 := hideG (C2.out W3 B3.out)
  go_wp2_with (at_builtin; refine wpList_append_copy _ rfl _ _ 33 rfl rfl _ rfl 3 1 _ _ CC2.out ?_)
  intro vb w4 hvb hb4
  obtain ⟨a4, k4, hv4⟩ := owns_form hvb
  subst hv4
  have s4 := hb4.size
  have dl : d < W3.heap.size := by have := DZ.out; have := Z1.out; have := S3.out; omega
  have R4 := hideG ((hb4.block d dl).trans R3.out)
  have R04 := hideG ((hb4.block w.heap.size (by have := DZ.out; omega)).trans R03.out)
  have B4 := hideG (B3.out.trans (hb4.mono B3.out.size))
  have O4 := hideG (ownsRow_chg (S := fun _ => False) O3.out (Chg.of_below hb4) (fun _ _ h => h))
  have P4 := hideG hvb
  clear hvb hb4 y0 y1 y2 y3 yf
  obtain ⟨⟨y0, y1, y2, y3⟩, yf⟩ := cells_four R4.out
  obtain ⟨W5, hW5⟩ : ∃ W5, W5 = w4.setCell ⟨d, 3, none⟩ (.slice a4 n2 k4) := ⟨_, rfl⟩
  have c5 : Chg (fun x => x = d) w4 W5 := by rw [hW5]; exact Chg.setCell w4 ⟨d, 3, none⟩ _
  have R5 := hideG (show W5.heap[d]? = some (.cells #[.int .i64 st, .int .i64 ro, .slice a3 n1 k3, .slice a4 n2 k4] 35 (0, 0)) by rw [hW5]; exact heap_setCell_same w4 d 3 _ _ _ R4.out)
  have R05 := hideG ((c5.block w.heap.size (by have := DZ.out; omega) (by have := DZ.out; omega)).trans R04.out)
  have B5 := hideG (show Below w.heap.size w W5 by rw [hW5]; exact B4.out.setCell (p := ⟨d, 3, none⟩) (by have := DZ.out; show w.heap.size ≤ d; omega) _)
  have O5 := hideG (ownsRow_chg O4.out c5 (fun x hx e => by have := (O4.out.lt x hx).1; have := DZ.out; have := Z1.out; omega))
  have P5 := hideG (ownsRow_chg P4.out c5 (fun x hx e => by have := (P4.out.lt x hx).1; omega))
  have HW5 := hideG hW5
  clear hW5 c5
  go_upto_region 4 with fail
  rw [← HW5.out]
  clear y0 y1 y2 y3 yf
  obtain ⟨⟨y0, y1, y2, y3⟩, yf⟩ := cells_four R5.out
  obtain ⟨⟨x0, x1, x2, x3⟩, xf⟩ := cells_four R05.out
  have c6 := chg_four W5 w.heap.size (.int .i64 st) (.int .i64 ro) (.slice a3 n1 k3) (.slice a4 n2 k4)
  have R6 := hideG (row_four R05.out (.int .i64 st) (.int .i64 ro) (.slice a3 n1 k3) (.slice a4 n2 k4))
  have hl1 : w.heap.size + 2 ≤ W3.heap.size := by have := Z1.out; have := S3.out; omega
  have FIN := hideG (show Told w ((((W5.setCell ⟨w.heap.size, 0, none⟩ (.int .i64 st)).setCell ⟨w.heap.size, 1, none⟩ (.int .i64 ro)).setCell ⟨w.heap.size, 2, none⟩ (.slice a3 n1 k3)).setCell ⟨w.heap.size, 3, none⟩ (.slice a4 n2 k4)) (.slice a3 n1 k3) (.slice a4 n2 k4) ls us from
    ⟨by rw [NL1.out]; exact ownsRow_base (ownsRow_chg O5.out c6 (fun x hx e => by have := (O5.out.lt x hx).1; have := Z1.out; omega)) (by have := Z1.out; omega),
     by rw [NL2.out]; exact ownsRow_base (ownsRow_chg P5.out c6 (fun x hx e => by have := (P5.out.lt x hx).1; omega)) (by omega),
     fun x hx hy => by
       have q1 := (O3.out.lt x hx).2
       have q2 := (P4.out.lt x hy).1
       omega,
     (((B5.out.setCell (p := ⟨w.heap.size, 0, none⟩) (Nat.le_refl _) _).setCell (p := ⟨w.heap.size, 1, none⟩) (Nat.le_refl _) _).setCell (p := ⟨w.heap.size, 2, none⟩) (Nat.le_refl _) _).setCell (p := ⟨w.heap.size, 3, none⟩) (Nat.le_refl _) _⟩)
  clear c6
  go_wp2_with fail
  refine bodyPost_ret (results_cell_row rfl _ _ w.heap.size 35 #[.int .i64 st, .int .i64 ro, .slice a3 n1 k3, .slice a4 n2 k4] (0, 0) _ rfl R6.out Tryz.underlying35 rfl size_out4) rfl ?_
  exact ⟨_, _, rfl, FIN.out⟩

end Go.Proofs.YtchideljndagjabGreat

namespace Go.Proofs.YtchideljndagjabGreat
open Go.ChangeShapes Go.WideShapes Go.ChangeAt Go.RowKit
set_option linter.unusedVariables false

theorem at_calls (v : Value) (i : Nat) (zs : List Int) (w : World) (hi : i ≤ 2) (h : ListAt w v zs) :
    Calls Tryz.prog 162 #[v, .int .i64 (i : Int)] w fun e w' => e = .returned (.int .i64 (zs.getD i 0)) ∧ w' = w := by
  obtain ⟨a, cap, rfl, h2, h3, h4, h5⟩ := h
  unfold maxLen at h3
  by_cases hlt : i < zs.length
  · obtain ⟨b, off, rfl, _, hc⟩ : ∃ b off, a = some ⟨b, off, none⟩ ∧ b < w.heap.size ∧ ∀ i, i < zs.length → w.cell? ⟨b, off + i, none⟩ = some (.int .i64 (zs.getD i 0)) := by
      rcases h5 with h5 | h5
      · rw [h5] at hlt; simp at hlt
      · exact h5
    have c0 := hc i hlt
    obtain ⟨x, hx⟩ : ∃ x, x = zs.getD i 0 := ⟨_, rfl⟩
    rw [← hx] at c0 ⊢
    clear hc h4 hx
    go_enter Tryz.func162, Tryz.ntmps162
    go_wp2
    go_ret
    exact ⟨rfl, rfl⟩
  · have H := hideG (show (0 : Int) = zs.getD i 0 by rw [List.getD_eq_getElem?_getD, List.getElem?_eq_none (by omega)]; rfl)
    clear h4 h5
    go_enter Tryz.func162, Tryz.ntmps162
    go_wp2
    go_ret
    exact ⟨congrArg (fun x => Ending.returned (.int .i64 x)) H.out, rfl⟩

theorem at0 (v : Value) (zs : List Int) (w : World) (h : ListAt w v zs) :
    Calls Tryz.prog 162 #[v, .int .i64 0] w fun e w' => e = .returned (.int .i64 (zs.getD 0 0)) ∧ w' = w := at_calls v 0 zs w (by omega) h

theorem at1 (v : Value) (zs : List Int) (w : World) (h : ListAt w v zs) :
    Calls Tryz.prog 162 #[v, .int .i64 1] w fun e w' => e = .returned (.int .i64 (zs.getD 1 0)) ∧ w' = w := at_calls v 1 zs w (by omega) h

theorem at2 (v : Value) (zs : List Int) (w : World) (h : ListAt w v zs) :
    Calls Tryz.prog 162 #[v, .int .i64 2] w fun e w' => e = .returned (.int .i64 (zs.getD 2 0)) ∧ w' = w := at_calls v 2 zs w (by omega) h

end Go.Proofs.YtchideljndagjabGreat

namespace Go.Proofs.YtchideljndagjabGreat
open Go.ChangeShapes Go.WideShapes Go.ChangeAt Go.RowKit
set_option linter.unusedVariables false

/-- A list of integers, nil or a row of the call's own, is owned. -/
theorem own_list (pw : Nat) (F : Nat → Value) (nx : Int) (ls : Nat → List Ow) (v : Value) (n B : Nat) (xs : List Value) (w : World) (h : InvW w pw F nx ls) (h0 : 0 ≤ nx) (h1 : nx ≤ 1000000000000000000)
    (hlen : ((ls 0).length + 1) * 24 ≤ 140737488355328) (hown : w.ownsRow B 3 1 v n xs) (hB : pw < B) (hfoot : ∀ b, v.ownBlock = some b → ¬ Foot F ls b) :
    Calls Tryz.prog 88 #[.pointer (some ⟨pw, 0, none⟩), v] w fun e w' => e = .returned (.tuple #[]) ∧ ∃ F' o, InvW w' pw F' (nx + 1) (updL ls 0 (ls 0 ++ [o])) ∧
      (∀ b, b < w.heap.size → v.ownBlock ≠ some b → ¬ Foot F ls b → ¬ Foot F' (updL ls 0 (ls 0 ++ [o])) b) ∧ (∀ j, j < 3 → F' j = F j) ∧
      Chg (fun b => b = pw ∨ v.ownBlock = some b ∨ Foot F ls b) w w' := by
  rcases hown.2 with ⟨rfl, rfl⟩ | ⟨g, cap, cur, rfl, hg, hblk, hnc, hcm, hcs, _⟩
  · refine (ownNil_calls pw F nx ls w h h0 h1 hlen).mono ?_
    rintro e w' ⟨rfl, F', i1, i2, i3, i4⟩
    exact ⟨rfl, F', _, i1, fun b hb _ hf => i2 b hb hf, i3, i4.mono (fun b e _ => by rcases e with e | e; exact .inl e; exact .inr (.inr e))⟩
  · refine (ownInts_calls pw F nx ls g n cap cur w h h0 h1 hlen hblk (by omega) hnc hcm (by omega) (hfoot g rfl)).mono ?_
    rintro e w' ⟨rfl, F', i1, i2, i3, i4⟩
    refine ⟨rfl, F', _, i1, fun b hb hne hf => i2 b hb (fun e => hne (by rw [e]; rfl)) hf, i3, i4.mono (fun b e _ => ?_)⟩
    rcases e with e | e | e
    · exact .inl e
    · exact .inr (.inl (by rw [e]; rfl))
    · exact .inr (.inr e)

end Go.Proofs.YtchideljndagjabGreat

namespace Go.Proofs.YtchideljndagjabGreat
open Go.ChangeShapes Go.WideShapes Go.ChangeAt Go.RowKit
set_option linter.unusedVariables false

/-- A parcel, read. -/
theorem Packs.view {w : World} {B : Nat} {v : Value} {vs : List Value} {ps : List Pk} (h : Packs w B v vs ps) : ∃ a c, v = .slice a ps.length c ∧ ps.length ≤ c ∧ c ≤ 9223372036854775807 ∧ ∀ j p, ps[j]? = some p → ∃ g y, a = some ⟨g, 0, none⟩ ∧ g < w.heap.size ∧ vs[j]? = some y ∧ w.cell? ⟨g, j * 3, none⟩ = some (.int .i64 p.1) ∧ w.cell? ⟨g, j * 3 + 1, none⟩ = some (.int .i64 p.2.1) ∧ w.cell? ⟨g, j * 3 + 2, none⟩ = some y ∧ w.ownsRow B 5 1 y p.2.2.length (bytesV p.2.2) := by
  have h0 := h.row
  rcases h0.2 with ⟨rfl, hn⟩ | ⟨g, cap, cur, rfl, _, hb, hnc, hcm, _⟩
  · refine ⟨none, 0, by rw [hn], by omega, by omega, fun j p hp => ?_⟩
    have := (List.getElem?_eq_some_iff.1 hp).1
    omega
  · refine ⟨_, cap, rfl, hnc, by unfold maxLen at hcm; omega, fun j p hp => ?_⟩
    have hj := (List.getElem?_eq_some_iff.1 hp).1
    have hjv : j < vs.length := by rw [h.len]; exact hj
    obtain ⟨q0, q1, q2⟩ := packV_get ps vs j p _ hp (List.getElem?_eq_getElem hjv)
    exact ⟨g, vs[j], rfl, (h0.lt g rfl).2, List.getElem?_eq_getElem hjv, (h0.cellAt (j * 3) (by omega)).trans q0, (h0.cellAt (j * 3 + 1) (by omega)).trans q1, (h0.cellAt (j * 3 + 2) (by omega)).trans q2, h.each j _ p (List.getElem?_eq_getElem hjv) hp⟩

set_option maxHeartbeats 4000000 in
set_option maxRecDepth 100000 in
theorem sameParcels_same (va vb : Value) (xs ys : List Value) (ps : List Pk) (B B' : Nat) (w : World) (ha : Packs w B va xs ps) (hb : Packs w B' vb ys ps) (hB : ∀ p ∈ ps, Frm.isB p.2.2) :
    Calls Tryz.prog 117 #[va, vb] w fun e w' => e = .returned (.bool true) ∧ Below w.heap.size w w' := by
  have HPA := hideG (fun (W : World) (hW : Below w.heap.size w W) => ha.below hW)
  have HPB := hideG (fun (W : World) (hW : Below w.heap.size w W) => hb.below hW)
  have HBB := hideG hB
  obtain ⟨a, ca, rfl, a1, a2, hA⟩ := ha.view
  obtain ⟨b, cb, rfl, b1, b2, hBv⟩ := hb.view
  have HG := hideG (fun j (hj : j < ps.length) => (show ∃ p, ps[j]? = some p from ⟨_, List.getElem?_eq_getElem hj⟩))
  have HVA := hideG (fun (W : World) (hW : Below w.heap.size w W) => (show ∀ j p, ps[j]? = some p → ∃ g y, a = some ⟨g, 0, none⟩ ∧ g < w.heap.size ∧ W.cell? ⟨g, j * 3, none⟩ = some (.int .i64 p.1) ∧ W.cell? ⟨g, j * 3 + 1, none⟩ = some (.int .i64 p.2.1) ∧ W.cell? ⟨g, j * 3 + 2, none⟩ = some y ∧ W.ownsRow B 5 1 y p.2.2.length (bytesV p.2.2) from fun j p hp => by
    obtain ⟨g, y, e1, e2, e3, e4, e5, e6, e7⟩ := hA j p hp
    exact ⟨g, y, e1, e2, (hW.cell (p := ⟨g, j * 3, none⟩) e2).trans e4, (hW.cell (p := ⟨g, j * 3 + 1, none⟩) e2).trans e5, (hW.cell (p := ⟨g, j * 3 + 2, none⟩) e2).trans e6, (ha.below hW).each j y p e3 hp⟩))
  have HVB := hideG (fun (W : World) (hW : Below w.heap.size w W) => (show ∀ j p, ps[j]? = some p → ∃ g y, b = some ⟨g, 0, none⟩ ∧ g < w.heap.size ∧ W.cell? ⟨g, j * 3, none⟩ = some (.int .i64 p.1) ∧ W.cell? ⟨g, j * 3 + 1, none⟩ = some (.int .i64 p.2.1) ∧ W.cell? ⟨g, j * 3 + 2, none⟩ = some y ∧ W.ownsRow B' 5 1 y p.2.2.length (bytesV p.2.2) from fun j p hp => by
    obtain ⟨g, y, e1, e2, e3, e4, e5, e6, e7⟩ := hBv j p hp
    exact ⟨g, y, e1, e2, (hW.cell (p := ⟨g, j * 3, none⟩) e2).trans e4, (hW.cell (p := ⟨g, j * 3 + 1, none⟩) e2).trans e5, (hW.cell (p := ⟨g, j * 3 + 2, none⟩) e2).trans e6, (hb.below hW).each j y p e3 hp⟩))
  clear ha hb hB hA hBv
  obtain ⟨n, hn⟩ : ∃ n, n = ps.length := ⟨_, rfl⟩
  rw [← hn] at HG a1 b1 ⊢
  clear hn
  have nn : ((n : Int) != (n : Int)) = false := by simp
  go_enter Tryz.func117, Tryz.ntmps117
  go_wp2_with fail
  go_loopw [5] (fun i wr => ∃ j : Nat, j ≤ n ∧ i = .int .i64 (j : Int) ∧ Below w.heap.size w wr) (fun i _ => n - (intOf i).toNat)
  case atStart => exact ⟨0, Nat.zero_le _, rfl, Below.refl _ _⟩
  case round =>
    obtain ⟨j, hj, rfl, hbel⟩ := hrel
    have HB := hideG hbel
    have hsz := hbel.size
    clear hbel
    by_cases hlt : j < n
    · obtain ⟨p, hp⟩ := HG.out j hlt
      obtain ⟨g, y, rfl, gl, c0, c1, c2, co⟩ := HVA.out wr HB.out j p hp
      obtain ⟨g', y', rfl, gl', d0, d1, d2, do_⟩ := HVB.out wr HB.out j p hp
      have hIB := HBB.out p (List.mem_of_getElem? hp)
      obtain ⟨f0, f1, E⟩ := p
      dsimp only at c0 c1 d0 d1 co do_ hIB
      obtain ⟨av, cv, hy⟩ := owns_form co
      obtain ⟨av', cv', hy'⟩ := owns_form do_
      have hq1 : ∀ k, (convert 47 9 (.slice av E.length cv)).run Tryz.prog (wr.drewN k) = .ok (.string (strOfNums E)) (wr.drewN k) := fun k => by rw [← hy]; exact conv_str ((bytesAt_of_owns co hIB).below (below_drewN wr k))
      have hq2 : ∀ k, (convert 47 9 (.slice av' E.length cv')).run Tryz.prog (wr.drewN k) = .ok (.string (strOfNums E)) (wr.drewN k) := fun k => by rw [← hy']; exact conv_str ((bytesAt_of_owns do_ hIB).below (below_drewN wr k))
      subst hy
      subst hy'
      clear co do_ hIB hp
      generalize strOfNums E = sE at *
      generalize E.length = nE at *
      have ne0 : (f0 != f0) = false := by simp
      have ne1 : (f1 != f1) = false := by simp
      have hgw : g < wr.heap.size := by omega
      have hgw' : g' < wr.heap.size := by omega
      have jn : (j : Int) < (n : Int) := by omega
      have j0 : (0 : Int) ≤ (j : Int) := by omega
      go_upto_region 6 with fail
      go_quiet (fail)
      have BN := hideG (HB.out.trans ((below_drewN wr nq).mono hsz))
      go_wp2_with fail
      go_roundw
      case rel => exact ⟨j + 1, by omega, by go_num, BN.out⟩
      case measure => simp [intOf]; omega
    · have ej : j = n := by omega
      subst ej
      go_wp2_with fail
      go_ret
      exact ⟨rfl, HB.out⟩

theorem list_form {w : World} {v : Value} {zs : List Int} (h : ListAt w v zs) : ∃ a c, v = .slice a zs.length c := by obtain ⟨a, c, e, _⟩ := h; exact ⟨a, c, e⟩

set_option maxHeartbeats 2000000 in
set_option maxRecDepth 100000 in
theorem sameOutcome_same (st ro : Int) (va vb ua ub : Value) (zs us : List Int) (w : World) (h1 : ListAt w va zs) (h2 : ListAt w vb us) (h3 : ListAt w ua zs) (h4 : ListAt w ub us) :
    Calls Tryz.prog 122 #[.agg #[.int .i64 st, .int .i64 ro, va, vb], .agg #[.int .i64 st, .int .i64 ro, ua, ub]] w fun e w' => e = .returned (.bool true) ∧ Below w.heap.size w w' := by
  have H1 := hideG (fun (W : World) (hb : Below w.heap.size w W) => sameInts_same va ua zs W (h1.below hb) (h3.below hb))
  have H2 := hideG (fun (W : World) (hb : Below w.heap.size w W) => sameInts_same vb ub us W (h2.below hb) (h4.below hb))
  obtain ⟨a1, c1, rfl⟩ := list_form h1
  obtain ⟨a2, c2, rfl⟩ := list_form h2
  obtain ⟨a3, c3, rfl⟩ := list_form h3
  obtain ⟨a4, c4, rfl⟩ := list_form h4
  clear h1 h2 h3 h4
  generalize zs.length = nz at *
  generalize us.length = nu at *
  obtain ⟨W0, hW0⟩ : ∃ W0, W0 = (w.alloc (.cells #[.int .i64 st, .int .i64 ro, .slice a1 nz c1, .slice a2 nu c2] 35)).alloc (.cells #[.int .i64 st, .int .i64 ro, .slice a3 nz c3, .slice a4 nu c4] 35) := ⟨_, rfl⟩
  have B0 := hideG (show Below w.heap.size w W0 by rw [hW0]; exact ((Below.refl _ _).alloc (Nat.le_refl _) _).alloc (by simp) _)
  have z0 : W0.heap.size = w.heap.size + 2 := by rw [hW0]; simp
  have X := hideG (fun (W : World) (hb : Below W0.heap.size W0 W) => (show (W.cell? ⟨w.heap.size, 0, none⟩ = some (.int .i64 st) ∧ W.cell? ⟨w.heap.size, 1, none⟩ = some (.int .i64 ro) ∧ W.cell? ⟨w.heap.size, 2, none⟩ = some (.slice a1 nz c1) ∧ W.cell? ⟨w.heap.size, 3, none⟩ = some (.slice a2 nu c2)) ∧ (W.cell? ⟨w.heap.size + 1, 0, none⟩ = some (.int .i64 st) ∧ W.cell? ⟨w.heap.size + 1, 1, none⟩ = some (.int .i64 ro) ∧ W.cell? ⟨w.heap.size + 1, 2, none⟩ = some (.slice a3 nz c3) ∧ W.cell? ⟨w.heap.size + 1, 3, none⟩ = some (.slice a4 nu c4)) from by
    have k1 : ∀ o, W.cell? ⟨w.heap.size, o, none⟩ = W0.cell? ⟨w.heap.size, o, none⟩ := fun o => hb.cell (p := ⟨w.heap.size, o, none⟩) (by show w.heap.size < _; omega)
    have k2 : ∀ o, W.cell? ⟨w.heap.size + 1, o, none⟩ = W0.cell? ⟨w.heap.size + 1, o, none⟩ := fun o => hb.cell (p := ⟨w.heap.size + 1, o, none⟩) (by show w.heap.size + 1 < _; omega)
    simp only [k1, k2]
    rw [hW0]
    refine ⟨⟨?_, ?_, ?_, ?_⟩, ?_, ?_, ?_, ?_⟩ <;> simp))
  have HW0 := hideG hW0
  clear hW0
  obtain ⟨⟨x0, x1, x2, x3⟩, y0, y1, y2, y3⟩ := X.out W0 (Below.refl _ _)
  have es : (st == st) = true := by simp
  have er : (ro == ro) = true := by simp
  go_enter Tryz.func122, Tryz.ntmps122
  go_upto_region 1 with fail
  rw [← HW0.out]
  go_wp2_with fail
  refine (H1.out W0 B0.out).mono ?_
  rintro e w1 ⟨rfl, n1, hw1⟩
  have hb1 : Below W0.heap.size W0 w1 := by rw [hw1]; exact below_drewN W0 n1
  have B1 := hideG (B0.out.trans (hb1.mono B0.out.size))
  have s1 := hb1.size
  clear x0 x1 x2 x3 y0 y1 y2 y3
  obtain ⟨⟨x0, x1, x2, x3⟩, y0, y1, y2, y3⟩ := X.out w1 hb1
  have HB1 := hideG hb1
  clear hb1 hw1
  go_wp2_with fail
  refine (H2.out w1 B1.out).mono ?_
  rintro e w2 ⟨rfl, n2, hw2⟩
  have hb2 : Below w1.heap.size w1 w2 := by rw [hw2]; exact below_drewN w1 n2
  have B2 := hideG (B1.out.trans (hb2.mono B1.out.size))
  have s2 := hb2.size
  clear x0 x1 x2 x3 y0 y1 y2 y3
  obtain ⟨⟨x0, x1, x2, x3⟩, y0, y1, y2, y3⟩ := X.out w2 (HB1.out.trans (hb2.mono s1))
  clear hb2 hw2
  go_wp2_with fail
  go_ret
  exact ⟨rfl, B2.out⟩

end Go.Proofs.YtchideljndagjabGreat

namespace Go.Proofs.YtchideljndagjabGreat
open Go.ChangeShapes Go.WideShapes Go.ChangeAt Go.RowKit
set_option linter.unusedVariables false

structure StoodAt (w : World) (pw : Nat) (F : Nat → Value) (nx : Int) (ls : Nat → List Ow) (va vb : Value) (w' : World) (F' : Nat → Value) (ls' : Nat → List Ow) : Prop where
  inv : InvW w' pw F' (nx + 2) ls'
  other : ∀ c, c ≠ 0 → ls' c = ls c
  len : (ls' 0).length = (ls 0).length + 2
  fs : ∀ j, j < 3 → F' j = F j
  chg : Chg (fun b => b = pw ∨ va.ownBlock = some b ∨ vb.ownBlock = some b ∨ Foot F ls b) w w'
  foot : ∀ b, b < w.heap.size → va.ownBlock ≠ some b → vb.ownBlock ≠ some b → ¬ Foot F ls b → ¬ Foot F' ls' b
theorem stood_fin {w W w1 w2 : World} {pw : Nat} {F F1 F2 : Nat → Value} {nx : Int} {ls : Nat → List Ow} {va vb : Value} {o1 o2 : Ow} (hb : Below w.heap.size w W)
    (j2 : ∀ b, b < W.heap.size → va.ownBlock ≠ some b → ¬ Foot F ls b → ¬ Foot F1 (updL ls 0 (ls 0 ++ [o1])) b) (j3 : ∀ j, j < 3 → F1 j = F j) (j4 : Chg (fun b => b = pw ∨ va.ownBlock = some b ∨ Foot F ls b) W w1)
    (q1 : InvW w2 pw F2 (nx + 1 + 1) (updL (updL ls 0 (ls 0 ++ [o1])) 0 ((updL ls 0 (ls 0 ++ [o1])) 0 ++ [o2]))) (q2 : ∀ b, b < w1.heap.size → vb.ownBlock ≠ some b → ¬ Foot F1 (updL ls 0 (ls 0 ++ [o1])) b → ¬ Foot F2 (updL (updL ls 0 (ls 0 ++ [o1])) 0 ((updL ls 0 (ls 0 ++ [o1])) 0 ++ [o2])) b) (q3 : ∀ j, j < 3 → F2 j = F1 j) (q4 : Chg (fun b => b = pw ∨ vb.ownBlock = some b ∨ Foot F1 (updL ls 0 (ls 0 ++ [o1])) b) w1 w2) :
    ∃ F' ls', StoodAt w pw F nx ls va vb w2 F' ls' := by
  have zb := hb.size
  have z4 := j4.size
  refine ⟨F2, _, ⟨by rw [show nx + 2 = nx + 1 + 1 by omega]; exact q1, fun c hc => ?_, ?_, fun j hj => (q3 j hj).trans (j3 j hj), ?_, fun b hbl ha hv hf => q2 b (by omega) hv (j2 b (by omega) ha hf)⟩⟩
  · unfold updL; rw [if_neg hc, if_neg hc]
  · unfold updL; simp
  · refine ((Chg.of_below (S := fun b => b = pw ∨ va.ownBlock = some b ∨ vb.ownBlock = some b ∨ Foot F ls b) hb).trans j4 (fun b e hbl => ?_)).trans q4 (fun b e hbl => ?_)
    · rcases e with e | e | e
      · exact .inl e
      · exact .inr (.inl e)
      · exact .inr (.inr (.inr e))
    · rcases e with e | e | e
      · exact .inl e
      · exact .inr (.inr (.inl e))
      · by_cases h1 : va.ownBlock = some b
        · exact .inr (.inl h1)
        · by_cases h2 : Foot F ls b
          · exact .inr (.inr (.inr h2))
          · exact absurd e (j2 b (by omega) h1 h2)

set_option maxHeartbeats 2000000 in
set_option maxRecDepth 100000 in
theorem stood_step (pw : Nat) (F : Nat → Value) (nx : Int) (ls : Nat → List Ow) (st ro : Int) (va vb ua ub : Value) (zs us : List Int) (B : Nat) (w : World) (h : InvW w pw F nx ls) (h0 : 0 ≤ nx) (h1 : nx + 1 ≤ 1000000000000000000) (hlen : ((ls 0).length + 2) * 24 ≤ 140737488355328)
    (oa : w.ownsRow B 3 1 va zs.length (zs.map (Value.int .i64))) (ob : w.ownsRow B 3 1 vb us.length (us.map (Value.int .i64))) (hd : ∀ x, va.ownBlock = some x → vb.ownBlock ≠ some x) (hB : pw < B) (hf : ∀ x, va.ownBlock = some x ∨ vb.ownBlock = some x → ¬ Foot F ls x)
    (hz : ∀ z ∈ zs, inI z) (hu : ∀ z ∈ us, inI z) (h3 : ListAt w ua zs) (h4 : ListAt w ub us) :
    Calls Tryz.prog 58 #[.pointer (some ⟨pw, 0, none⟩), .agg #[.int .i64 st, .int .i64 ro, va, vb], .agg #[.int .i64 st, .int .i64 ro, ua, ub]] w fun e w' => e = .returned (.bool true) ∧ ∃ F' ls', StoodAt w pw F nx ls va vb w' F' ls' := by
  have hpl := h.pw_lt
  have HSO := hideG (fun (W : World) (hb : Below w.heap.size w W) => sameOutcome_same st ro va vb ua ub zs us W ((listAt_of_owns oa hz).below hb) ((listAt_of_owns ob hu).below hb) (h3.below hb) (h4.below hb))
  have HOA := hideG (fun (W : World) (hb : Below w.heap.size w W) => ownsRow_chg (S := fun _ => False) oa (Chg.of_below hb) (fun _ _ h => h))
  have HOB := hideG (fun (W : World) (hb : Below w.heap.size w W) => ownsRow_chg (S := fun _ => False) ob (Chg.of_below hb) (fun _ _ h => h))
  have HD := hideG hd
  have HF := hideG hf
  have HI := hideG h
  have LA := hideG (fun x (hx : va.ownBlock = some x) => (oa.lt x hx).2)
  have LB := hideG (fun x (hx : vb.ownBlock = some x) => (ob.lt x hx))
  obtain ⟨a1, c1, e1⟩ := owns_form oa
  obtain ⟨a2, c2, e2⟩ := owns_form ob
  obtain ⟨a3, c3, e3⟩ := list_form h3
  obtain ⟨a4, c4, e4⟩ := list_form h4
  subst e1; subst e2; subst e3; subst e4
  clear h oa ob hd hf hz hu h3 h4
  obtain ⟨nz, hnz⟩ : ∃ nz, nz = zs.length := ⟨_, rfl⟩
  obtain ⟨nu, hnu⟩ : ∃ nu, nu = us.length := ⟨_, rfl⟩
  rw [← hnz] at HSO HOA HD HF LA ⊢
  rw [← hnu] at HSO HOB HD HF LB ⊢
  clear hnz hnu
  obtain ⟨W0, hW0⟩ : ∃ W0, W0 = (w.alloc (.cells #[.int .i64 st, .int .i64 ro, .slice a1 nz c1, .slice a2 nu c2] 35)).alloc (.cells #[.int .i64 st, .int .i64 ro, .slice a3 nz c3, .slice a4 nu c4] 35) := ⟨_, rfl⟩
  have B0 := hideG (show Below w.heap.size w W0 by rw [hW0]; exact ((Below.refl _ _).alloc (Nat.le_refl _) _).alloc (by simp) _)
  have z0 : W0.heap.size = w.heap.size + 2 := by rw [hW0]; simp
  have X := hideG (show (W0.cell? ⟨w.heap.size, 0, none⟩ = some (.int .i64 st) ∧ W0.cell? ⟨w.heap.size, 1, none⟩ = some (.int .i64 ro) ∧ W0.cell? ⟨w.heap.size, 2, none⟩ = some (.slice a1 nz c1) ∧ W0.cell? ⟨w.heap.size, 3, none⟩ = some (.slice a2 nu c2)) ∧ (W0.cell? ⟨w.heap.size + 1, 0, none⟩ = some (.int .i64 st) ∧ W0.cell? ⟨w.heap.size + 1, 1, none⟩ = some (.int .i64 ro) ∧ W0.cell? ⟨w.heap.size + 1, 2, none⟩ = some (.slice a3 nz c3) ∧ W0.cell? ⟨w.heap.size + 1, 3, none⟩ = some (.slice a4 nu c4)) from by
    rw [hW0]
    refine ⟨⟨?_, ?_, ?_, ?_⟩, ?_, ?_, ?_, ?_⟩ <;> simp)
  have HW0 := hideG hW0
  clear hW0
  obtain ⟨⟨x0, x1, x2, x3⟩, y0, y1, y2, y3⟩ := X.out
  have SO := hideG (HSO.out W0 B0.out)
  go_enter Tryz.func58, Tryz.ntmps58
  go_upto_region 1 with fail
  rw [← HW0.out]
  go_wp2_with fail
  refine SO.out.mono ?_
  rintro e w1 ⟨rfl, hb1⟩
  have s1 := hb1.size
  have B1 := hideG (B0.out.trans (hb1.mono B0.out.size))
  have k2 := (hb1.cell (p := ⟨w.heap.size, 2, none⟩) (by show w.heap.size < _; omega)).trans x2
  have k3 := (hb1.cell (p := ⟨w.heap.size, 3, none⟩) (by show w.heap.size < _; omega)).trans x3
  have K3 := hideG k3
  clear hb1 x0 x1 x2 x3 y0 y1 y2 y3 SO k3
  have hw1 : w.heap.size < w1.heap.size := by omega
  have I1 := hideG (HI.out.below B1.out)
  have OA1 := hideG (HOA.out w1 B1.out)
  have OB1 := hideG (HOB.out w1 B1.out)
  have OC := hideG (own_list pw F nx ls _ _ B _ w1 I1.out h0 (by omega) (by omega) OA1.out hB (fun x hx => HF.out x (.inl hx)))
  go_wp2_with fail
  refine OC.out.mono ?_
  rintro e w2 ⟨rfl, F1, o1, i1, i2, i3, i4⟩
  have z2 := i4.size
  have k3 : w2.cell? ⟨w.heap.size, 3, none⟩ = some (.slice a2 nu c2) := (World.cell?_of_block (w := w1) (a := ⟨w.heap.size, 3, none⟩) (i4.block w.heap.size hw1 (fun e => by
    rcases e with e | e | e
    · omega
    · have := LA.out _ e; omega
    · have := (HI.out.foot_lt e).2; omega))).trans K3.out
  have hw2 : w.heap.size < w2.heap.size := by omega
  have OB2 := hideG (ownsRow_chg OB1.out i4 (fun x hx e => by
    rcases e with e | e | e
    · have := (LB.out x hx).1; omega
    · exact HD.out x e hx
    · exact HF.out x (.inr hx) e))
  have OC2 := hideG (own_list pw F1 (nx + 1) (updL ls 0 (ls 0 ++ [o1])) _ _ B _ w2 i1 (by omega) (by omega) (by simp [updL]; omega) OB2.out hB (fun x hx => i2 x (by have := (LB.out x hx).2; omega) (fun e => HD.out x e hx) (HF.out x (.inr hx))))
  have J := hideG (And.intro i2 (And.intro i3 i4))
  clear k2 i1 i2 i3 i4 OC
  go_wp2_with fail
  refine OC2.out.mono ?_
  rintro e w3 ⟨rfl, F2, o2, q1, q2, q3, q4⟩
  have FIN := hideG (stood_fin B1.out J.out.1 J.out.2.1 J.out.2.2 q1 q2 q3 q4)
  clear k3 q1 q2 q3 q4 OC2
  go_wp2_with fail
  go_ret
  exact ⟨rfl, FIN.out⟩

end Go.Proofs.YtchideljndagjabGreat

namespace Go.Proofs.YtchideljndagjabGreat
open Go.ChangeShapes Go.WideShapes Go.ChangeAt Go.RowKit
set_option linter.unusedVariables false

set_option maxHeartbeats 4000000 in
set_option maxRecDepth 100000 in
theorem sTake_calls (b : Nat) (C : Srv.Cf) (s : Srv.Sv) (S : SS) (v : Value) (zs : List Int) (w : World) (hw : SrvW w b C s S) (hs : s.out.1 = 0 → Srv.SOk C s) (hv : BytesAt w v zs) :
    Calls Tryz.prog 140 #[.pointer (some ⟨b, 0, none⟩), v] w fun e w' => e = .returned (.bool (scntD C s zs)) ∧ ∃ S', STook w w' b C (sstepD C s zs) S S' := by
  have hbl := hw.srv.at_.lt
  have HD := hideG (decode_calls v zs w hv)
  obtain ⟨az, cz, rfl, -, -, hB, -⟩ := bytes_view hv
  have HW := hideG hw
  obtain ⟨rd, hrd, hr4⟩ : ∃ rd : Nat, S.rd = (rd : Int) ∧ rd < 4 := by
    by_cases hp : s.out.1 = 0
    · exact ⟨s.rd, (hw.srv.now hp).2, (hs hp).rd⟩
    · exact ⟨0, hw.srv.rdz hp, by omega⟩
  clear hv hw
  cases hd : Frm.decF zs with
  | none =>
    obtain ⟨x1, x2, x3, x4⟩ := d_none hd
    rw [x1, x2, x3, x4] at HD
    have y1 : scntD C s zs = false := by unfold scntD; rw [hd]
    have y2 : sstepD C s zs = s := by unfold sstepD; rw [hd]
    rw [y1, y2]
    clear x1 x2 x3 x4 y1 y2 hd hB
    go_enter Tryz.func140, Tryz.ntmps140
    go_wp2_with fail
    refine HD.out.mono ?_
    rintro e w1 ⟨va, rfl, hown, hb⟩
    obtain ⟨a', c', hv'⟩ := owns_form hown
    subst hv'
    have HB := hideG hb
    clear hown hb
    go_wp2_with fail
    go_ret
    exact ⟨rfl, S, stook_same HW.out (HB.out.alloc HB.out.size _)⟩
  | some f =>
    obtain ⟨k, fr, l⟩ := f
    obtain ⟨x1, x2, x3, x4⟩ := d_some hd
    rw [x1, x2, x3, x4] at HD
    obtain ⟨y1, y2, y3⟩ := Frm.enc_dec hB hd
    obtain ⟨u, hu⟩ : ∃ u : Nat, fr = (u : Int) := ⟨fr.toNat, by have := (Frm.okF_bounds y1).2.2.2.1; omega⟩
    subst hu
    have u13 : u < 13 := by have := (Frm.okF_bounds y1).2.2.2.2.1; omega
    have u13' : (u : Int) < 13 := by omega
    have HOK := hideG y1
    have HIN := hideG (okF_in y1)
    have e1 : scntD C s zs = cntB S rd k u l := by unfold scntD; rw [hd]; exact (cnt_eq HW.out.srv hs y1 rd hrd).symm
    have e2 : sstepD C s zs = if cntB S rd k u l = true then { s with G := Srv.updT s.G s.rd u l } else s := by
      unfold sstepD; rw [hd, cnt_eq HW.out.srv hs y1 rd hrd]
      show Srv.takeS C s (k, (u : Int), l) = _
      unfold Srv.takeS
      rfl
    have HP := hideG (fun (h : cntB S rd k u l = true) => (show s.out.1 = 0 by
      unfold cntB at h; rw [Bool.and_eq_true, decide_eq_true_iff, HW.out.srv.st] at h; exact h.1))
    rw [e1, e2]
    clear x1 x2 x3 x4 y1 y2 y3 hd hB e1 e2
    have HM := hideG (fun (w1 : World) (a' : Option Addr) (c' : Nat) (hb : Below w.heap.size w w1) (hown : w1.ownsRow w.heap.size 147 4 (.slice a' l.length c') l.length (flat4 l)) =>
      (show ∀ (o : Obj), Below w.heap.size w (w1.alloc o) ∧ SrvW (w1.alloc o) b C s S ∧ ItemsAt (w1.alloc o) (.slice a' l.length c') l ∧ (∀ x, (Value.slice a' l.length c').ownBlock = some x → w.heap.size ≤ x ∧ x < (w1.alloc o).heap.size ∧ x ≠ w1.heap.size) from fun o => by
        have hb2 := hb.alloc hb.size o
        refine ⟨hb2, HW.out.below hb2, (itemsAt_of_owns hown HIN.out).below ((Below.refl _ _).alloc (Nat.le_refl _) _), fun x hx => ?_⟩
        have := hown.lt x hx
        exact ⟨this.1, by simp; omega, by omega⟩))
    have HCC := hideG (fun (W : World) (x : Value) (hS : SSAt W b S) (hI : ItemsAt W x l) => counts_calls b S k u x l W hS hI HOK.out rd hrd hr4)
    obtain ⟨p, hp⟩ : ∃ p, p = cntB S rd k u l := ⟨_, rfl⟩
    rw [← hp] at HCC HP ⊢
    clear hp
    go_enter Tryz.func140, Tryz.ntmps140
    go_wp2_with fail
    refine HD.out.mono ?_
    rintro e w1 ⟨va, rfl, hown, hb⟩
    obtain ⟨a', c', hv'⟩ := owns_form hown
    subst hv'
    have s1 := hb.size
    have MM := hideG (HM.out w1 a' c' hb hown (.cells #[.int .i64 k, .int .i64 (u : Int), .slice a' l.length c'] 65))
    clear hown hb HM HD
    obtain ⟨W, hW⟩ : ∃ W, W = w1.alloc (.cells #[.int .i64 k, .int .i64 (u : Int), .slice a' l.length c'] 65) := ⟨_, rfl⟩
    have X0 := hideG (show W.cell? ⟨w1.heap.size, 0, none⟩ = some (.int .i64 k) by rw [hW]; simp)
    have X1 := hideG (show W.cell? ⟨w1.heap.size, 1, none⟩ = some (.int .i64 (u : Int)) by rw [hW]; simp)
    have X2 := hideG (show W.cell? ⟨w1.heap.size, 2, none⟩ = some (.slice a' l.length c') by rw [hW]; simp)
    have sz : w1.heap.size < W.heap.size := by rw [hW]; simp
    rw [← hW] at MM
    have HWW := hideG hW
    clear hW
    have CC := hideG (HCC.out W _ MM.out.2.1.srv.at_ MM.out.2.2.1)
    go_upto_region 2 with fail
    rw [← HWW.out]
    have x0 := X0.out
    have x1 := X1.out
    have x2 := X2.out
    go_wp2_with fail
    refine CC.out.mono ?_
    rintro e w2 ⟨rfl, hb2⟩
    have s2 := hb2.size
    have B2 := hideG hb2
    have T2 := hideG (MM.out.1.trans (hb2.mono MM.out.1.size))
    have S2 := hideG (MM.out.2.1.below hb2)
    have I2 := hideG (MM.out.2.2.1.below hb2)
    have F2 := hideG MM.out.2.2.2
    have y1 : w2.cell? ⟨w1.heap.size, 1, none⟩ = some (.int .i64 (u : Int)) := (hb2.cell (p := ⟨w1.heap.size, 1, none⟩) sz).trans X1.out
    have y2 : w2.cell? ⟨w1.heap.size, 2, none⟩ = some (.slice a' l.length c') := (hb2.cell (p := ⟨w1.heap.size, 2, none⟩) sz).trans X2.out
    clear hb2 x0 x1 x2 X0 X1 X2 MM CC
    cases p
    · go_wp2_with fail
      go_ret
      exact ⟨rfl, S, stook_same HW.out T2.out⟩
    · have c1 := S2.out.srv.at_.cct u u13
      have f1 := S2.out.srv.at_.froz (19 + u) (by omega)
      have c2 := S2.out.srv.at_.cit u u13
      have f2 := S2.out.srv.at_.froz (32 + u) (by omega)
      have hne : (⟨b, 19 + u, none⟩ : Addr) ≠ ⟨w1.heap.size, 1, none⟩ := by intro q; injection q with q1 q2 q3; omega
      have hne2 : (⟨b, 19 + u, none⟩ : Addr) ≠ ⟨w1.heap.size, 2, none⟩ := by intro q; injection q with q1 q2 q3; omega
      have hne3 : (⟨b, 19 + u, none⟩ : Addr) ≠ ⟨b, 32 + u, none⟩ := by intro q; injection q with q1 q2 q3; omega
      obtain ⟨W3, hW3⟩ : ∃ W3, W3 = (w2.setCell ⟨b, 19 + u, none⟩ (.bool true)).drew := ⟨_, rfl⟩
      have z1 : W3.cell? ⟨w1.heap.size, 1, none⟩ = some (.int .i64 (u : Int)) := by rw [hW3]; exact (World.cell?_setCell_other _ _ _ _ hne).trans y1
      have z2 : W3.cell? ⟨w1.heap.size, 2, none⟩ = some (.slice a' l.length c') := by rw [hW3]; exact (World.cell?_setCell_other _ _ _ _ hne2).trans y2
      have z3 : W3.cell? ⟨b, 32 + u, none⟩ = some (S.it u) := by rw [hW3]; exact (World.cell?_setCell_other _ _ _ _ hne3).trans c2
      have z4 : W3.frozen? ⟨b, 32 + u, none⟩ = false := by rw [hW3]; exact (World.frozen?_setCell ..).trans f2
      have T3 := hideG (show STook w (W3.setCell ⟨b, 32 + u, none⟩ (.slice a' l.length c')).drew b C { s with G := Srv.updT s.G s.rd u l } S { S with ct := fun v => if v = u then true else S.ct v, it := updV S.it u (.slice a' l.length c') } by
        have hc : Chg (fun x => x = b) w2 (W3.setCell ⟨b, 32 + u, none⟩ (.slice a' l.length c')).drew := by
          rw [hW3]
          exact (((Chg.setCell w2 ⟨b, 19 + u, none⟩ (.bool true)).also (Chg.drew _ _)).also (Chg.setCell _ ⟨b, 32 + u, none⟩ _)).also (Chg.drew _ _)
        have hsl : ∀ x, (Value.slice a' l.length c').ownBlock = some x → x ≠ b ∧ x < w2.heap.size ∧ w.heap.size ≤ x := fun x hx => by
          have := F2.out x hx
          exact ⟨by omega, by omega, this.1⟩
        have hat : SSAt (W3.setCell ⟨b, 32 + u, none⟩ (.slice a' l.length c')).drew b { S with ct := fun v => if v = u then true else S.ct v, it := updV S.it u (.slice a' l.length c') } := by
          rw [hW3]
          exact (((S2.out.srv.at_.setCt u u13 true).block (w' := (w2.setCell ⟨b, 19 + u, none⟩ (.bool true)).drew) rfl).setIt u u13 (.slice a' l.length c')).block rfl
        refine ⟨⟨srvAt_more S2.out.srv (HP.out rfl) u13 hat (I2.out.chg hc (fun x hx e => (hsl x hx).1 e)) (fun e => (hsl b e).1 rfl) hc.size (fun y hy hf => hc.block y (S2.out.low y hf) hy), fun x hx => ?_⟩, (Chg.of_below T2.out).also hc, fun x hx => ?_, fun i hi => ?_⟩
        · refine Nat.lt_of_lt_of_le ?_ hc.size
          rcases hx with hx | ⟨v, hv, hx⟩ | hx
          · exact S2.out.low x (.inl hx)
          · have hx' : (updV S.it u (.slice a' l.length c') v).ownBlock = some x := hx
            unfold updV at hx'
            split at hx'
            · exact (hsl x hx').2.1
            · exact S2.out.low x (.inr (.inl ⟨v, hv, hx'⟩))
          · exact S2.out.low x (.inr (.inr hx))
        · rcases hx with hx | ⟨v, hv, hx⟩ | hx
          · exact .inl (.inl hx)
          · have hx' : (updV S.it u (.slice a' l.length c') v).ownBlock = some x := hx
            unfold updV at hx'
            split at hx'
            · exact .inr (hsl x hx').2.2
            · exact .inl (.inr (.inl ⟨v, hv, hx'⟩))
          · exact .inl (.inr (.inr hx))
        · rw [hW3, ← T2.out.cell (p := ⟨b, i, none⟩) hbl, ← T2.out.frozen (p := ⟨b, i, none⟩) hbl]
          refine ⟨?_, ?_⟩
          · show ((w2.setCell ⟨b, 19 + u, none⟩ (.bool true)).drew.setCell ⟨b, 32 + u, none⟩ _).cell? ⟨b, i, none⟩ = _
            rw [World.cell?_setCell_other (h := by intro q; injection q with q1 q2 q3; omega)]
            exact World.cell?_setCell_other _ _ _ _ (by intro q; injection q with q1 q2 q3; omega)
          · show ((w2.setCell ⟨b, 19 + u, none⟩ (.bool true)).drew.setCell ⟨b, 32 + u, none⟩ _).frozen? ⟨b, i, none⟩ = _
            rw [World.frozen?_setCell]
            exact World.frozen?_setCell ..)
      have HW3 := hideG hW3
      clear hW3
      go_upto_region 4 with fail
      go_region
      rw [← HW3.out]
      go_upto_region 5 with fail
      go_region
      go_wp2_with fail
      go_ret
      exact ⟨rfl, _, T3.out⟩

end Go.Proofs.YtchideljndagjabGreat
