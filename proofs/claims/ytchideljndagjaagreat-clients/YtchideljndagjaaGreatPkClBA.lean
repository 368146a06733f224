/- Draws that are handed in: giveDraws. -/
import Derived.Test.YtchideljndagjaaGreatPkClAZ
import Derived.Laws.MakeOwn
import Derived.WalkSpells
import Derived.Deep.CutRange
import Derived.Test.YtchideljndagjaaGreatPkClAW
namespace Go.Proofs.YtchideljndagjaaGreat
open Go.RowKit
set_option linter.unusedVariables false

/-- Behind i rounds. -/
def gRel (w : World) (g n : Nat) (D : Nat → DD) (i : Nat) (wr : World) : Prop :=
  ∃ G, FRow wr g 74 ((n + 3) * 6) (fun t => if t / 6 < i then dgiven n G D t else pick6 (.slice none 0 0) (.int .i64 0) (.int .i64 0) (.int .i64 0) (.slice none 0 0) (.slice none 0 0) (t % 6)) ∧
    (∀ i' k, i' < i → i' < n → k < 3 → g < G i' k ∧ G i' k < wr.heap.size ∧ wr.heap[G i' k]? = some (.cells (given (dl (D i') k) 3).toArray 3 (0, 0))) ∧
    (∀ i' k' i'' k'', i' < i → i' < n → k' < 3 → i'' < i → i'' < n → k'' < 3 → G i' k' = G i'' k'' → i' = i'' ∧ k' = k'') ∧ Below g w wr

theorem gRel_mark {w wr W : World} {g n : Nat} {D : Nat → DD} {i : Nat} (h : gRel w g n D i wr) (hn : n ≤ i) (hi : i < n + 3) (hb : Below wr.heap.size wr W) (hg : w.heap.size = g) :
    gRel w g n D (i + 1) (set6 W g (i * 6) (.slice none 0 0) (.int .i64 77) (.int .i64 77) (.int .i64 77) (.slice none 0 0) (.slice none 0 0)) := by
  obtain ⟨G, h1, h2, h3, h4⟩ := h
  have hc := set6_chg W g (i * 6) (.slice none 0 0) (.int .i64 77) (.int .i64 77) (.int .i64 77) (.slice none 0 0) (.slice none 0 0)
  have hgl := h1.lt
  have s1 := hb.size
  have s2 := hc.size
  refine ⟨G, ?_, fun i' k hi' hn' hk => ?_, fun i' k' i'' k'' a1 a2 a3 b1 b2 b3 e => h3 i' k' i'' k'' (by omega) a2 a3 (by omega) b2 b3 e, (h4.trans (hb.mono (by omega))).trans (hc.below (by omega) (fun b e => by omega))⟩
  · refine ((h1.block (hb.block g hgl)).set6 i (by omega) _ _ _ _ _ _).ext (fun t ht => ?_)
    by_cases e : t / 6 = i
    · rw [if_pos e, if_pos (by omega)]
      unfold dgiven
      rw [if_neg (by omega)]
    · rw [if_neg e]
      by_cases e2 : t / 6 < i
      · rw [if_pos e2, if_pos (by omega)]
      · rw [if_neg e2, if_neg (by omega)]
  · obtain ⟨q1, q2, q3⟩ := h2 i' k (by omega) hn' hk
    exact ⟨q1, by omega, by rw [hc.block _ (by omega) (by omega), hb.block _ q2]; exact q3⟩

theorem gRel_draw {w wr W : World} {g n : Nat} {D : Nat → DD} {i g0 g1 g2 : Nat} (h : gRel w g n D i wr) (hi : i < n) (hb : Below wr.heap.size wr W) (hg : w.heap.size = g)
    (q0 : wr.heap.size ≤ g0 ∧ g0 < g1 ∧ g1 < g2 ∧ g2 < W.heap.size) (r0 : W.heap[g0]? = some (.cells (given (D i).inp 3).toArray 3 (0, 0))) (r1 : W.heap[g1]? = some (.cells (given (D i).sm 3).toArray 3 (0, 0))) (r2 : W.heap[g2]? = some (.cells (given (D i).ss 3).toArray 3 (0, 0))) :
    gRel w g n D (i + 1) (set6 W g (i * 6) (gsl g0 (D i).inp) (.int .i64 (D i).ch) (.int .i64 (D i).ms) (.int .i64 (D i).sd) (gsl g1 (D i).sm) (gsl g2 (D i).ss)) := by
  obtain ⟨G, h1, h2, h3, h4⟩ := h
  have hc := set6_chg W g (i * 6) (gsl g0 (D i).inp) (.int .i64 (D i).ch) (.int .i64 (D i).ms) (.int .i64 (D i).sd) (gsl g1 (D i).sm) (gsl g2 (D i).ss)
  have hgl := h1.lt
  have s1 := hb.size
  have s2 := hc.size
  obtain ⟨G', hG'⟩ : ∃ G' : Nat → Nat → Nat, G' = fun i' k => if i' = i then (if k = 0 then g0 else if k = 1 then g1 else g2) else G i' k := ⟨_, rfl⟩
  have ga : ∀ k, G' i k = if k = 0 then g0 else if k = 1 then g1 else g2 := fun k => by rw [hG']; exact if_pos rfl
  have gb : ∀ i' k, i' ≠ i → G' i' k = G i' k := fun i' k hne => by rw [hG']; exact if_neg hne
  refine ⟨G', ?_, fun i' k hi' hn' hk => ?_, fun i' k' i'' k'' a1 a2 a3 b1 b2 b3 e => ?_, (h4.trans (hb.mono (by omega))).trans (hc.below (by omega) (fun b e => by omega))⟩
  · refine ((h1.block (hb.block g hgl)).set6 i (by omega) _ _ _ _ _ _).ext (fun t ht => ?_)
    by_cases e : t / 6 = i
    · rw [if_pos e, if_pos (by omega)]
      unfold dgiven
      rw [if_pos (by omega), e, ga 0, ga 1, ga 2]
      rfl
    · rw [if_neg e]
      by_cases e2 : t / 6 < i
      · rw [if_pos e2, if_pos (by omega)]
        unfold dgiven
        rw [if_pos (by omega), if_pos (by omega), gb _ 0 e, gb _ 1 e, gb _ 2 e]
      · rw [if_neg e2, if_neg (by omega)]
  · by_cases e : i' = i
    · subst e
      rw [ga k]
      rcases (show k = 0 ∨ k = 1 ∨ k = 2 by omega) with rfl | rfl | rfl
      · exact ⟨by show g < g0; omega, by show g0 < _; omega, by show (set6 W g (i' * 6) _ _ _ _ _ _).heap[g0]? = _; rw [hc.block _ (by omega) (by omega)]; exact r0⟩
      · exact ⟨by show g < g1; omega, by show g1 < _; omega, by show (set6 W g (i' * 6) _ _ _ _ _ _).heap[g1]? = _; rw [hc.block _ (by omega) (by omega)]; exact r1⟩
      · exact ⟨by show g < g2; omega, by show g2 < _; omega, by show (set6 W g (i' * 6) _ _ _ _ _ _).heap[g2]? = _; rw [hc.block _ (by omega) (by omega)]; exact r2⟩
    · rw [gb i' k e]
      obtain ⟨q1, q2, q3⟩ := h2 i' k (by omega) hn' hk
      exact ⟨q1, by omega, by rw [hc.block _ (by omega) (by omega), hb.block _ q2]; exact q3⟩
  · by_cases e1 : i' = i
    · by_cases e2 : i'' = i
      · subst e1
        subst e2
        rw [ga, ga] at e
        refine ⟨rfl, ?_⟩
        rcases (show k' = 0 ∨ k' = 1 ∨ k' = 2 by omega) with rfl | rfl | rfl <;> rcases (show k'' = 0 ∨ k'' = 1 ∨ k'' = 2 by omega) with rfl | rfl | rfl <;> simp at e ⊢ <;> omega
      · exfalso
        subst e1
        rw [ga, gb i'' k'' e2] at e
        have := (h2 i'' k'' (by omega) b2 b3).2.1
        rcases (show k' = 0 ∨ k' = 1 ∨ k' = 2 by omega) with rfl | rfl | rfl <;> simp at e <;> omega
    · by_cases e2 : i'' = i
      · exfalso
        subst e2
        rw [ga, gb i' k' e1] at e
        have := (h2 i' k' (by omega) a2 a3).2.1
        rcases (show k'' = 0 ∨ k'' = 1 ∨ k'' = 2 by omega) with rfl | rfl | rfl <;> simp at e <;> omega
      · rw [gb i' k' e1, gb i'' k'' e2] at e
        exact h3 i' k' i'' k'' (by omega) a2 a3 (by omega) b2 b3 e

set_option maxHeartbeats 4000000 in
set_option maxRecDepth 100000 in
theorem giveDraws_calls (a : Option Addr) (n cap : Nat) (vi vm vs : Nat → Value) (D : Nat → DD) (w : World) (h : DrawsAt w a n cap vi vm vs D) (hb : (n + 3) * 96 ≤ 140737488355328) (hl : ∀ i k, i < n → k < 3 → (dl (D i) k).length * 8 ≤ 140737488351232) :
    Calls Tryz.prog 46 #[.slice a n cap] w fun e w' => ∃ g, e = .returned (.slice (some ⟨g, 0, none⟩) n (n + 3)) ∧ w.heap.size ≤ g ∧ ∃ G, FRow w' g 74 ((n + 3) * 6) (dgiven n G D) ∧ GivenAt w' w.heap.size g n G D ∧ Below w.heap.size w w' := by
  obtain ⟨i0, hi, hz0, hz1, hz2⟩ := info_parts infoDr
  have l2 := h.le
  have l3 := h.mx
  have HD := hideG h
  have HLN := hideG hl
  have HGI := hideG (fun (W : World) (hb' : Below w.heap.size w W) (i : Nat) (hi : i < n) => (show DrawIs W (vi i) (vm i) (vs i) (D i) from (h.its i hi).below hb'))
  have HCE := hideG (fun (W : World) (hb' : Below w.heap.size w W) (i : Nat) (hi : i < n) => (h.below hb').cells i hi)
  clear h hl
  have en : ((n : Int) + 3).toNat = n + 3 := by omega
  go_enter Tryz.func46, Tryz.ntmps46
  go_wp2_with (at_make; refine wpList_make_full _ rfl _ _ 43 rfl w.heap.size 74 i0 (.agg #[.slice none 0 0, .int .i64 0, .int .i64 0, .int .i64 0, .slice none 0 0, .slice none 0 0]) 6 Tryz.underlying43 hi hz0 hz1 _ _ _ _ (n + 3) rfl rfl (by omega) (by omega) ?m1 ?m2 ?m3 ?_)
  case m1 => rw [hz2]; omega
  case m2 => unfold maxLen; omega
  case m3 => exact Nat.le_refl _
  intro w2 hown2 hgrow2
  have hr := row_of_full6 hown2
  have hb2 : Below w.heap.size w w2 := (Below.refl _ _).grown hgrow2 (Nat.le_refl _) (by simp)
  rw [made6] at hr
  have R0 := hideG (show gRel w w.heap.size n D 0 w2 from ⟨fun _ _ => 0, FRow.ext (f := fun t => pick6 (.slice none 0 0) (.int .i64 0) (.int .i64 0) (.int .i64 0) (.slice none 0 0) (.slice none 0 0) (t % 6)) hr (fun t ht => by rw [if_neg (by omega)]), fun i' k hi' => by omega, fun i' k' i'' k'' hi' => by omega, hb2⟩)
  clear hr hb2 hown2 hgrow2
  generalize hg : w.heap.size = B at *
  have HG := hideG hg
  clear hg
  go_wp2_with fail
  go_loopw [4] (fun i wr => ∃ j : Nat, j ≤ n + 3 ∧ i = .int .i64 j ∧ gRel w B n D j wr) (fun i _ => n + 3 - (intOf i).toNat)
  case atStart => exact ⟨0, Nat.zero_le _, rfl, R0.out⟩
  case round =>
    clear R0
    obtain ⟨j, hj, rfl, hrel⟩ := hrel
    have HR := hideG hrel
    obtain ⟨G0, r1, _, _, hbel⟩ := hrel
    have gl := r1.lt
    have HB := hideG hbel
    by_cases hlt : j < n + 3
    · by_cases hjn : j < n
      · have hjn' : (j : Int) < (n : Int) := by omega
        have HBW := hideG (show Below B w wr from hbel)
        obtain ⟨b', off, rfl, hb', e0, e1, e2, e3, e4, e5⟩ := HCE.out wr HBW.out j hjn
        obtain ⟨li, lm, ls, _, _, _⟩ := HGI.out wr HBW.out j hjn
        have HG1 := hideG (fun (W : World) (hb' : Below wr.heap.size wr W) => giveInts_calls (vi j) (D j).inp W (li.below hb') (HLN.out j 0 hjn (by omega)))
        have HG2 := hideG (fun (W : World) (hb' : Below wr.heap.size wr W) => giveInts_calls (vm j) (D j).sm W (lm.below hb') (HLN.out j 1 hjn (by omega)))
        have HG3 := hideG (fun (W : World) (hb' : Below wr.heap.size wr W) => giveInts_calls (vs j) (D j).ss W (ls.below hb') (HLN.out j 2 hjn (by omega)))
        have HFIN := hideG (fun (W : World) (g0 g1 g2 : Nat) (hb : Below wr.heap.size wr W) q0 r0 r1 r2 => gRel_draw (W := W) (g0 := g0) (g1 := g1) (g2 := g2) HR.out hjn hb HG.out q0 r0 r1 r2)
        obtain ⟨a1, c1, hv1, -⟩ := li
        obtain ⟨a2, c2, hv2, -⟩ := lm
        obtain ⟨a3, c3, hv3, -⟩ := ls
        unfold gsl at HFIN
        obtain ⟨Z1, hZ1⟩ : ∃ Z, Z = (D j).inp := ⟨_, rfl⟩
        obtain ⟨Z2, hZ2⟩ : ∃ Z, Z = (D j).sm := ⟨_, rfl⟩
        obtain ⟨Z3, hZ3⟩ : ∃ Z, Z = (D j).ss := ⟨_, rfl⟩
        rw [← hZ1] at HG1 HFIN hv1
        rw [← hZ2] at HG2 HFIN hv2
        rw [← hZ3] at HG3 HFIN hv3
        obtain ⟨n1, hn1⟩ : ∃ n, n = Z1.length := ⟨_, rfl⟩
        obtain ⟨n2, hn2⟩ : ∃ n, n = Z2.length := ⟨_, rfl⟩
        obtain ⟨n3, hn3⟩ : ∃ n, n = Z3.length := ⟨_, rfl⟩
        rw [← hn1] at HG1 HFIN hv1
        rw [← hn2] at HG2 HFIN hv2
        rw [← hn3] at HG3 HFIN hv3
        rw [hv1] at e0 HG1
        rw [hv2] at e4 HG2
        rw [hv3] at e5 HG3
        generalize (D j).ch = ch at *
        generalize (D j).ms = ms at *
        generalize (D j).sd = sd at *
        have al : ∀ (ob : Obj) (o : Nat), (wr.alloc ob).cell? ⟨b', o, none⟩ = wr.cell? ⟨b', o, none⟩ := fun ob o => ((Below.refl wr.heap.size wr).alloc (Nat.le_refl _) ob).cell (p := ⟨b', o, none⟩) hb'
        obtain ⟨X, hX⟩ : ∃ X, X = wr.alloc (.cells #[.slice a1 n1 c1, .int .i64 ch, .int .i64 ms, .int .i64 sd, .slice a2 n2 c2, .slice a3 n3 c3] 74) := ⟨_, rfl⟩
        have hbX : Below wr.heap.size wr X := by rw [hX]; exact (Below.refl _ _).alloc (Nat.le_refl _) _
        have BX := hideG hbX
        have bx : BoxAt X wr.heap.size (.slice a1 n1 c1) (.int .i64 ch) (.int .i64 ms) (.int .i64 sd) (.slice a2 n2 c2) (.slice a3 n3 c3) := by rw [hX]; exact heap_alloc_new wr _
        have BXX := hideG bx
        have sX : X.heap.size = wr.heap.size + 1 := by rw [hX]; simp
        have HX := hideG hX
        have HE := hideG (show ∀ W, Below wr.heap.size wr W → W.cell? ⟨b', off + j * 6, none⟩ = some (.slice a1 n1 c1) ∧ W.cell? ⟨b', off + j * 6 + 4, none⟩ = some (.slice a2 n2 c2) ∧ W.cell? ⟨b', off + j * 6 + 5, none⟩ = some (.slice a3 n3 c3) from fun W hb => ⟨(hb.cell (p := ⟨b', off + j * 6, none⟩) hb').trans e0, (hb.cell (p := ⟨b', off + j * 6 + 4, none⟩) hb').trans e4, (hb.cell (p := ⟨b', off + j * 6 + 5, none⟩) hb').trans e5⟩)
        have R1 := hideG r1
        clear hX hbX bx hv1 hv2 hv3 hn1 hn2 hn3 hZ1 hZ2 hZ3 r1 hbel
        go_upto_region 8 with fail
        rw [← HX.out]
        clear e0 e1 e2 e3 e4 e5 al
        obtain ⟨e0, _, _⟩ := HE.out X BX.out
        go_wp2_with fail
        refine (HG1.out X BX.out).mono ?_
        rintro e w3 ⟨g0, hg0, rfl, hr0, hb3⟩
        have s3 := hb3.size
        have gl0 : g0 < w3.heap.size := by
          by_cases hb : g0 < w3.heap.size
          · exact hb
          · rw [Array.getElem?_eq_none (by omega)] at hr0; cases hr0
        have bx3 := BXX.out.below hb3 (by omega)
        obtain ⟨⟨x0, x1, x2, x3, x4, x5⟩, xf⟩ := bx3.cells
        obtain ⟨W3, hW3⟩ : ∃ W3, W3 = w3.setCell ⟨wr.heap.size, 0, none⟩ (.slice (some ⟨g0, 0, none⟩) n1 (n1 + 3)) := ⟨_, rfl⟩
        have hc3 : Chg (fun x => x = wr.heap.size) w3 W3 := by rw [hW3]; exact Chg.setCell w3 ⟨wr.heap.size, 0, none⟩ _
        have z3 := hc3.size
        have B3 := hideG (show Below wr.heap.size wr W3 from (BX.out.trans (hb3.mono (by omega))).trans (hc3.below (by omega) (fun x e => by omega)))
        have BX3 := hideG (show BoxAt W3 wr.heap.size (.slice (some ⟨g0, 0, none⟩) n1 (n1 + 3)) (.int .i64 ch) (.int .i64 ms) (.int .i64 sd) (.slice a2 n2 c2) (.slice a3 n3 c3) by rw [hW3]; exact bx3.set0 _)
        have RW3 := hideG (show W3.heap[g0]? = some (.cells (given Z1 3).toArray 3 (0, 0)) by rw [hc3.block g0 gl0 (by omega)]; exact hr0)
        have HW3 := hideG hW3
        clear hW3 hc3 bx3 hr0 hb3 e0
        have hbx3 : wr.heap.size < w3.heap.size := by omega
        go_upto_region 9 with fail
        rw [← HW3.out]
        clear x0 x1 x2 x3 x4 x5 xf
        obtain ⟨_, e4, _⟩ := HE.out W3 B3.out
        go_wp2_with fail
        refine (HG2.out W3 B3.out).mono ?_
        rintro e w4 ⟨g1, hg1, rfl, hr1, hb4⟩
        have s4 := hb4.size
        have gl1 : g1 < w4.heap.size := by
          by_cases hb : g1 < w4.heap.size
          · exact hb
          · rw [Array.getElem?_eq_none (by omega)] at hr1; cases hr1
        have bx4 := BX3.out.below hb4 (by omega)
        obtain ⟨⟨x0, x1, x2, x3, x4, x5⟩, xf⟩ := bx4.cells
        obtain ⟨W4, hW4⟩ : ∃ W4, W4 = w4.setCell ⟨wr.heap.size, 4, none⟩ (.slice (some ⟨g1, 0, none⟩) n2 (n2 + 3)) := ⟨_, rfl⟩
        have hc4 : Chg (fun x => x = wr.heap.size) w4 W4 := by rw [hW4]; exact Chg.setCell w4 ⟨wr.heap.size, 4, none⟩ _
        have z4 := hc4.size
        have B4 := hideG (show Below wr.heap.size wr W4 from (B3.out.trans (hb4.mono (by omega))).trans (hc4.below (by omega) (fun x e => by omega)))
        have BX4 := hideG (show BoxAt W4 wr.heap.size (.slice (some ⟨g0, 0, none⟩) n1 (n1 + 3)) (.int .i64 ch) (.int .i64 ms) (.int .i64 sd) (.slice (some ⟨g1, 0, none⟩) n2 (n2 + 3)) (.slice a3 n3 c3) by rw [hW4]; exact bx4.set4 _)
        have RW4 := hideG (show W4.heap[g1]? = some (.cells (given Z2 3).toArray 3 (0, 0)) by rw [hc4.block g1 gl1 (by omega)]; exact hr1)
        have RV4 := hideG (show W4.heap[g0]? = some (.cells (given Z1 3).toArray 3 (0, 0)) by rw [hc4.block g0 (by omega) (by omega), hb4.block g0 (by omega)]; exact RW3.out)
        have HW4 := hideG hW4
        clear hW4 hc4 bx4 hr1 hb4 e4
        have hbx4 : wr.heap.size < w4.heap.size := by omega
        go_upto_region 10 with fail
        rw [← HW4.out]
        clear x0 x1 x2 x3 x4 x5 xf
        obtain ⟨_, _, e5⟩ := HE.out W4 B4.out
        go_wp2_with fail
        refine (HG3.out W4 B4.out).mono ?_
        rintro e w5 ⟨g2, hg2, rfl, hr2, hb5⟩
        have s5 := hb5.size
        have gl2 : g2 < w5.heap.size := by
          by_cases hb : g2 < w5.heap.size
          · exact hb
          · rw [Array.getElem?_eq_none (by omega)] at hr2; cases hr2
        have bx5 := BX4.out.below hb5 (by omega)
        obtain ⟨⟨x0, x1, x2, x3, x4, x5⟩, xf⟩ := bx5.cells
        obtain ⟨W5, hW5⟩ : ∃ W5, W5 = w5.setCell ⟨wr.heap.size, 5, none⟩ (.slice (some ⟨g2, 0, none⟩) n3 (n3 + 3)) := ⟨_, rfl⟩
        have hc5 : Chg (fun x => x = wr.heap.size) w5 W5 := by rw [hW5]; exact Chg.setCell w5 ⟨wr.heap.size, 5, none⟩ _
        have z5 := hc5.size
        have hB5 : Below wr.heap.size wr W5 := (B4.out.trans (hb5.mono (by omega))).trans (hc5.below (by omega) (fun x e => by omega))
        have BX5 : BoxAt W5 wr.heap.size (.slice (some ⟨g0, 0, none⟩) n1 (n1 + 3)) (.int .i64 ch) (.int .i64 ms) (.int .i64 sd) (.slice (some ⟨g1, 0, none⟩) n2 (n2 + 3)) (.slice (some ⟨g2, 0, none⟩) n3 (n3 + 3)) := by rw [hW5]; exact bx5.set5 _
        have FIN := hideG (HFIN.out W5 g0 g1 g2 hB5 ⟨by omega, by omega, by omega, by omega⟩ (by rw [hc5.block g0 (by omega) (by omega), hb5.block g0 (by omega)]; exact RV4.out) (by rw [hc5.block g1 (by omega) (by omega), hb5.block g1 (by omega)]; exact RW4.out) (by rw [hc5.block g2 gl2 (by omega)]; exact hr2))
        have HW5 := hideG hW5
        have rX := R1.out.block (hB5.block B gl)
        obtain ⟨⟨y0, y1, y2, y3, y4, y5⟩, yf⟩ := BX5.cells
        have c0 := rX.cell (j * 6) (by omega)
        have c1 := rX.cell (j * 6 + 1) (by omega)
        have c2 := rX.cell (j * 6 + 2) (by omega)
        have c3 := rX.cell (j * 6 + 3) (by omega)
        have c4 := rX.cell (j * 6 + 4) (by omega)
        have c5 := rX.cell (j * 6 + 5) (by omega)
        have cf := fun t => rX.froz t
        have glX : B < W5.heap.size := by omega
        have hbx5 : wr.heap.size < w5.heap.size := by omega
        have hbx55 : wr.heap.size < W5.heap.size := by omega
        obtain ⟨W9, hW9⟩ : ∃ W9, W9 = set6 W5 B (j * 6) (.slice (some ⟨g0, 0, none⟩) n1 (n1 + 3)) (.int .i64 ch) (.int .i64 ms) (.int .i64 sd) (.slice (some ⟨g1, 0, none⟩) n2 (n2 + 3)) (.slice (some ⟨g2, 0, none⟩) n3 (n3 + 3)) := ⟨_, rfl⟩
        rw [← hW9] at FIN
        unfold set6 at hW9
        have HW9 := hideG hW9
        clear hW5 hc5 bx5 hr2 hb5 e5 hW9 rX BX5 hB5 sX
        generalize (if j * 6 / 6 < j then dgiven n G0 D (j * 6) else _) = u0 at c0
        generalize (if (j * 6 + 1) / 6 < j then dgiven n G0 D (j * 6 + 1) else _) = u1 at c1
        generalize (if (j * 6 + 2) / 6 < j then dgiven n G0 D (j * 6 + 2) else _) = u2 at c2
        generalize (if (j * 6 + 3) / 6 < j then dgiven n G0 D (j * 6 + 3) else _) = u3 at c3
        generalize (if (j * 6 + 4) / 6 < j then dgiven n G0 D (j * 6 + 4) else _) = u4 at c4
        generalize (if (j * 6 + 5) / 6 < j then dgiven n G0 D (j * 6 + 5) else _) = u5 at c5
        go_upto_region 11 with fail
        rw [← HW5.out]
        clear x0 x1 x2 x3 x4 x5 xf
        go_wp2_with fail
        rw [← HW9.out]
        go_roundw
        case rel => exact ⟨j + 1, by omega, by go_num, FIN.out⟩
        case measure => simp [intOf]; omega
      · have hjn' : ¬ (j : Int) < (n : Int) := by omega
        obtain ⟨X, hX⟩ : ∃ X, X = wr.alloc (.cells #[.slice none 0 0, .int .i64 77, .int .i64 77, .int .i64 77, .slice none 0 0, .slice none 0 0] 74) := ⟨_, rfl⟩
        have hbX : Below wr.heap.size wr X := by rw [hX]; exact (Below.refl _ _).alloc (Nat.le_refl _) _
        have bx : BoxAt X wr.heap.size (.slice none 0 0) (.int .i64 77) (.int .i64 77) (.int .i64 77) (.slice none 0 0) (.slice none 0 0) := by rw [hX]; exact heap_alloc_new wr _
        obtain ⟨⟨x0, x1, x2, x3, x4, x5⟩, xf⟩ := bx.cells
        have rX := r1.block (hbX.block B gl)
        have c0 := rX.cell (j * 6) (by omega)
        have c1 := rX.cell (j * 6 + 1) (by omega)
        have c2 := rX.cell (j * 6 + 2) (by omega)
        have c3 := rX.cell (j * 6 + 3) (by omega)
        have c4 := rX.cell (j * 6 + 4) (by omega)
        have c5 := rX.cell (j * 6 + 5) (by omega)
        have cf := fun t => rX.froz t
        have sX : X.heap.size = wr.heap.size + 1 := by rw [hX]; simp
        have hwl : wr.heap.size < X.heap.size := by omega
        have glX : B < X.heap.size := by omega
        have FIN := hideG (gRel_mark HR.out (by omega) hlt hbX HG.out)
        obtain ⟨W9, hW9⟩ : ∃ W9, W9 = set6 X B (j * 6) (.slice none 0 0) (.int .i64 77) (.int .i64 77) (.int .i64 77) (.slice none 0 0) (.slice none 0 0) := ⟨_, rfl⟩
        rw [← hW9] at FIN
        unfold set6 at hW9
        have HW9 := hideG hW9
        have HX := hideG hX
        clear hX hbX bx rX hW9 r1 hbel sX
        generalize (if j * 6 / 6 < j then dgiven n G0 D (j * 6) else _) = u0 at c0
        generalize (if (j * 6 + 1) / 6 < j then dgiven n G0 D (j * 6 + 1) else _) = u1 at c1
        generalize (if (j * 6 + 2) / 6 < j then dgiven n G0 D (j * 6 + 2) else _) = u2 at c2
        generalize (if (j * 6 + 3) / 6 < j then dgiven n G0 D (j * 6 + 3) else _) = u3 at c3
        generalize (if (j * 6 + 4) / 6 < j then dgiven n G0 D (j * 6 + 4) else _) = u4 at c4
        generalize (if (j * 6 + 5) / 6 < j then dgiven n G0 D (j * 6 + 5) else _) = u5 at c5
        go_upto_region 6 with fail
        rw [← HX.out]
        go_wp2_with fail
        rw [← HW9.out]
        go_roundw
        case rel => exact ⟨j + 1, by omega, by go_num, FIN.out⟩
        case measure => simp [intOf]; omega
    · have ej : j = n + 3 := by omega
      subst ej
      have FIN := hideG (show ∃ G, FRow wr B 74 ((n + 3) * 6) (dgiven n G D) ∧ GivenAt wr B B n G D ∧ Below B w wr from by
        obtain ⟨G, h1, h2, h3, h4⟩ := HR.out
        exact ⟨G, h1.ext (fun t ht => if_pos (by omega)), ⟨fun i k hi hk => (h2 i k (by omega) hi hk).2.2, fun i k hi hk => by have := (h2 i k (by omega) hi hk).1; omega, fun i k i' k' a1 a2 b1 b2 e => h3 i k i' k' (by omega) a1 a2 (by omega) b1 b2 e⟩, h4⟩)
      clear r1 hbel
      go_wp2_with fail
      go_ret
      exact ⟨B, rfl, Nat.le_of_eq HG.out, by rw [HG.out]; exact FIN.out⟩

end Go.Proofs.YtchideljndagjaaGreat

namespace Go.Proofs.YtchideljndagjaaGreat
open Go.RowKit
set_option linter.unusedVariables false

theorem infoDL : (Tryz.prog.info? 43).map (fun i => (i.zero, i.size, i.bytes)) = some (some (.slice none 0 0), 1, 24) := by kernel_rfl

/-- The lists of the draws, one after another. -/
def gq (G : Nat → Nat → Nat) (q : Nat) : Nat := G (q / 3) (q % 3)
def dq (D : Nat → DD) (q : Nat) : List Int := dl (D (q / 3)) (q % 3)

theorem updL_upd (ls : Nat → List Ow) (c : Nat) (l l' : List Ow) : updL (updL ls c l) c l' = updL ls c l' := by funext d; unfold updL; by_cases e : d = c <;> simp [e]

/-- Behind m lists. -/
def oRel (w : World) (pw : Nat) (F : Nat → Value) (nx : Int) (ls : Nat → List Ow) (G : Nat → Nat → Nat) (m : Nat) (wr : World) : Prop :=
  ∃ F' os, InvW wr pw F' (nx + (m : Int)) (updL ls 0 (ls 0 ++ os)) ∧ os.length = m ∧ (∀ j, j < 3 → F' j = F j) ∧ Chg (fun b => b = pw ∨ (∃ q, q < m ∧ b = gq G q) ∨ Foot F ls b) w wr ∧
    ∀ b, b < w.heap.size → (∀ q, q < m → b ≠ gq G q) → ¬ Foot F ls b → ¬ Foot F' (updL ls 0 (ls 0 ++ os)) b

theorem oRel_zero {w : World} {pw : Nat} {F : Nat → Value} {nx : Int} {ls : Nat → List Ow} {G : Nat → Nat → Nat} (h : InvW w pw F nx ls) : oRel w pw F nx ls G 0 w := by
  have e : updL ls 0 (ls 0 ++ []) = ls := by funext d; unfold updL; by_cases e : d = 0 <;> simp [e]
  refine ⟨F, [], ?_, rfl, fun _ _ => rfl, Chg.refl _ _, fun b _ _ hf => ?_⟩
  · rw [e]; simpa using h
  · rw [e]; exact hf

section
variable {w wr : World} {pw n g : Nat} {F : Nat → Value} {nx : Int} {ls : Nat → List Ow} {G : Nat → Nat → Nat} {D : Nat → DD} {m : Nat}

theorem gq_facts (hg : GivenAt w (pw + 1) g n G D) (q : Nat) (hq : q < 3 * n) : w.heap[gq G q]? = some (.cells (given (dq D q) 3).toArray 3 (0, 0)) ∧ pw < gq G q ∧ gq G q ≠ g ∧ gq G q < w.heap.size := by
  have h1 : q / 3 < n := by omega
  have h2 : q % 3 < 3 := by omega
  have := hg.lo (q / 3) (q % 3) h1 h2
  exact ⟨hg.row _ _ h1 h2, by unfold gq; omega, this.2, hg.lt _ _ h1 h2⟩
theorem gq_inj (hg : GivenAt w (pw + 1) g n G D) {q q' : Nat} (hq : q < 3 * n) (hq' : q' < 3 * n) (e : gq G q = gq G q') : q = q' := by
  have := hg.inj (q / 3) (q % 3) (q' / 3) (q' % 3) (by omega) (by omega) (by omega) (by omega) e
  omega

theorem oRel_row (h : oRel w pw F nx ls G m wr) (hg : GivenAt w (pw + 1) g n G D) (hm : m < 3 * n) (hf : ∀ q, q < 3 * n → ¬ Foot F ls (gq G q)) :
    wr.heap[gq G m]? = some (.cells (given (dq D m) 3).toArray 3 (0, 0)) := by
  obtain ⟨F', os, h1, h2, h3, h4, h5⟩ := h
  obtain ⟨q1, q2, q3, q4⟩ := gq_facts hg m hm
  rw [h4.block _ q4 (fun e => ?_)]
  · exact q1
  · rcases e with e | ⟨q, hq, e⟩ | e
    · omega
    · have := gq_inj hg hm (show q < 3 * n by omega) e; omega
    · exact hf m hm e
theorem oRel_frow {N : Nat} {f : Nat → Value} (h : oRel w pw F nx ls G m wr) (hg : GivenAt w (pw + 1) g n G D) (hm : m ≤ 3 * n) (hr : FRow w g 74 N f) (hpg : pw < g) (hfg : ¬ Foot F ls g) : FRow wr g 74 N f := by
  obtain ⟨F', os, h1, h2, h3, h4, h5⟩ := h
  refine hr.block (h4.block g hr.lt (fun e => ?_))
  rcases e with e | ⟨q, hq, e⟩ | e
  · omega
  · exact (gq_facts hg q (by omega)).2.2.1 e.symm
  · exact hfg e

set_option maxHeartbeats 1000000 in
theorem oRel_step (h : oRel w pw F nx ls G m wr) (hg : GivenAt w (pw + 1) g n G D) (hm : m < 3 * n) (hf : ∀ q, q < 3 * n → ¬ Foot F ls (gq G q)) (h0 : 0 ≤ nx) (h1 : nx + (m : Int) ≤ 1000000000000000000)
    (hlen : ((ls 0).length + m + 1) * 24 ≤ 140737488355328) (hb : (dq D m).length * 8 ≤ 140737488351232) :
    Calls Tryz.prog 33 #[.pointer (some ⟨pw, 0, none⟩), gsl (gq G m) (dq D m)] wr fun e w' => e = .returned (.tuple #[]) ∧ oRel w pw F nx ls G (m + 1) w' := by
  have hrow := oRel_row h hg hm hf
  obtain ⟨F', os, i1, i2, i3, i4, i5⟩ := h
  obtain ⟨q1, q2, q3, q4⟩ := gq_facts hg m hm
  have hlow : gq G m < wr.heap.size := by have := i4.size; omega
  have hnf : ¬ Foot F' (updL ls 0 (ls 0 ++ os)) (gq G m) := i5 _ q4 (fun q hq e => by have := gq_inj hg hm (show q < 3 * n by omega) e; omega) (hf m hm)
  have hl0 : (updL ls 0 (ls 0 ++ os)) 0 = ls 0 ++ os := by simp [updL]
  refine (ownInts_calls pw F' (nx + (m : Int)) _ (gq G m) (dq D m).length ((dq D m).length + 3) _ wr i1 (by omega) h1 (by rw [hl0, List.length_append, i2]; exact hlen) hrow (by simp [given_length _ _ (Nat.le_refl 3)]) (by omega) (by unfold maxLen; omega) q2 hnf).mono ?_
  rintro e w' ⟨rfl, F2, j1, j2, j3, j4⟩
  refine ⟨rfl, F2, os ++ [(some (gq G m), (dq D m).length + 3, mkN (nx + (m : Int)))], ?_, by simp [i2], fun j hj => (j3 j hj).trans (i3 j hj), ?_, ?_⟩
  · rw [hl0, updL_upd, List.append_assoc] at j1
    rw [show nx + ((m + 1 : Nat) : Int) = nx + (m : Int) + 1 by omega]
    exact j1
  · have key : ∀ b, Foot F' (updL ls 0 (ls 0 ++ os)) b → b < w.heap.size → b = pw ∨ (∃ q, q < m + 1 ∧ b = gq G q) ∨ Foot F ls b := fun b hb hbl => by
      by_cases hx : ∃ q, q < m ∧ b = gq G q
      · obtain ⟨q, hq, e⟩ := hx; exact .inr (.inl ⟨q, by omega, e⟩)
      · by_cases hy : Foot F ls b
        · exact .inr (.inr hy)
        · exact absurd hb (i5 b hbl (fun q hq e => hx ⟨q, hq, e⟩) hy)
    refine (i4.mono (S' := fun b => b = pw ∨ (∃ q, q < m + 1 ∧ b = gq G q) ∨ Foot F ls b) (fun b e _ => ?_)).trans j4 (fun b e hbl => ?_)
    · rcases e with e | ⟨q, hq, e⟩ | e
      · exact .inl e
      · exact .inr (.inl ⟨q, by omega, e⟩)
      · exact .inr (.inr e)
    · rcases e with e | e | e
      · exact .inl e
      · exact .inr (.inl ⟨m, by omega, e.symm⟩)
      · exact key b e hbl
  · intro b hbl hne hnf'
    have hs := i4.size
    have := j2 b (by omega) (fun e => hne m (by omega) e.symm) (i5 b hbl (fun q hq => hne q (by omega)) hnf')
    rw [hl0, updL_upd, List.append_assoc] at this
    exact this
end

def patD (m : Int) (j : Nat) : Value := pick6 (.slice none 0 0) (.int .i64 m) (.int .i64 m) (.int .i64 m) (.slice none 0 0) (.slice none 0 0) j
theorem flat_pat (n : Nat) (m : Int) : (List.replicate n ((cat 4).pat m)).flatten = (List.range (n * 6)).map (fun t => patD m (t % 6)) := by
  induction n with
  | zero => rfl
  | succ n ih =>
    rw [List.replicate_succ', List.flatten_append, ih, show (n + 1) * 6 = n * 6 + 6 by omega, List.range_add, List.map_append]
    congr 1
    show (cat 4).pat m ++ [] = _
    rw [List.append_nil, List.map_map]
    have h6 : List.range 6 = [0, 1, 2, 3, 4, 5] := by decide
    rw [h6]
    simp only [List.map_cons, List.map_nil, Function.comp]
    rw [show (n * 6 + 0) % 6 = 0 by omega, show (n * 6 + 1) % 6 = 1 by omega, show (n * 6 + 2) % 6 = 2 by omega, show (n * 6 + 3) % 6 = 3 by omega, show (n * 6 + 4) % 6 = 4 by omega, show (n * 6 + 5) % 6 = 5 by omega]
    rfl

def FilledD (w : World) (g N : Nat) (f : Nat → Value) (m : Int) (k : Nat) (wr : World) : Prop :=
  Chg (fun b => b = g) w wr ∧ FRow wr g 74 (N * 6) (fun t => if t / 6 < k then patD m (t % 6) else f t)
theorem filledD_next {w wr : World} {g N : Nat} {f : Nat → Value} {m : Int} {k : Nat} (h : FilledD w g N f m k wr) (hk : k < N) : FilledD w g N f m (k + 1) (set6 wr g (k * 6) (.slice none 0 0) (.int .i64 m) (.int .i64 m) (.int .i64 m) (.slice none 0 0) (.slice none 0 0)) := by
  refine ⟨h.1.trans (set6_chg _ _ _ _ _ _ _ _ _) (fun x e _ => e), (h.2.set6 k (by omega) _ _ _ _ _ _).ext (fun t ht => ?_)⟩
  by_cases e : t / 6 = k
  · rw [if_pos e, if_pos (by omega)]; rfl
  · rw [if_neg e]
    by_cases e2 : t / 6 < k
    · rw [if_pos e2, if_pos (by omega)]
    · rw [if_neg e2, if_neg (by omega)]
theorem filledD_end {w wr : World} {g N : Nat} {f : Nat → Value} {m : Int} (h : FilledD w g N f m N wr) : wr.heap[g]? = some (.cells (owCells (cat 4) (some g, N, m)).toArray 74 (0, 0)) := by
  have h2 := h.2.ext (f' := fun t => patD m (t % 6)) (fun t ht => if_pos (by omega))
  unfold FRow at h2
  rw [h2]
  unfold owCells
  rw [flat_pat]

theorem oRel_steps {w : World} {pw n g : Nat} {F : Nat → Value} {nx : Int} {ls : Nat → List Ow} {G : Nat → Nat → Nat} {D : Nat → DD} (hg : GivenAt w (pw + 1) g n G D) (hf : ∀ q, q < 3 * n → ¬ Foot F ls (gq G q)) (h0 : 0 ≤ nx) (h1 : nx + 3 * (n : Int) ≤ 1000000000000000000)
    (hlen0 : ((ls 0).length + 3 * n) * 24 ≤ 140737488355328) (hl : ∀ q, q < 3 * n → (dq D q).length * 8 ≤ 140737488351232) (m : Nat) (wr : World) (hm : m < 3 * n) (h : oRel w pw F nx ls G m wr) :
    Calls Tryz.prog 33 #[.pointer (some ⟨pw, 0, none⟩), .slice (some ⟨gq G m, 0, none⟩) (dq D m).length ((dq D m).length + 3)] wr fun e w' => e = .returned (.tuple #[]) ∧ oRel w pw F nx ls G (m + 1) w' := by
  have a1 : nx + (m : Int) ≤ 1000000000000000000 := by omega
  have a2 : ((ls 0).length + m + 1) * 24 ≤ 140737488355328 := by omega
  exact oRel_step h hg hm hf h0 a1 a2 (hl m hm)

end Go.Proofs.YtchideljndagjaaGreat

namespace Go.Proofs.YtchideljndagjaaGreat
open Go.RowKit
set_option linter.unusedVariables false

set_option maxHeartbeats 4000000 in
set_option maxRecDepth 100000 in
theorem ownDraws_calls (pw : Nat) (F : Nat → Value) (nx : Int) (ls : Nat → List Ow) (g n : Nat) (G : Nat → Nat → Nat) (D : Nat → DD) (w : World) (h : InvW w pw F nx ls) (h0 : 0 ≤ nx) (h1 : nx + 3 * (n : Int) ≤ 1000000000000000000)
    (hlen0 : ((ls 0).length + 3 * n) * 24 ≤ 140737488355328) (hlen4 : ((ls 4).length + 1) * 24 ≤ 140737488355328) (hb : (n + 3) * 96 ≤ 140737488355328) (hl : ∀ q, q < 3 * n → (dq D q).length * 8 ≤ 140737488351232)
    (hr : FRow w g 74 ((n + 3) * 6) (dgiven n G D)) (hg : GivenAt w (pw + 1) g n G D) (hpg : pw < g) (hfg : ¬ Foot F ls g) (hf : ∀ q, q < 3 * n → ¬ Foot F ls (gq G q)) :
    Calls Tryz.prog 50 #[.pointer (some ⟨pw, 0, none⟩), .slice (some ⟨g, 0, none⟩) n (n + 3)] w fun e w' => e = .returned (.tuple #[]) ∧ ∃ F' os o, InvW w' pw F' (nx + 3 * (n : Int) + 1) (updL (updL ls 0 (ls 0 ++ os)) 4 (ls 4 ++ [o])) ∧ os.length = 3 * n ∧
      (∀ j, j < 3 → F' j = F j) ∧ Chg (fun b => b = pw ∨ b = g ∨ (∃ q, q < 3 * n ∧ b = gq G q) ∨ Foot F ls b) w w' ∧
      ∀ b, b < w.heap.size → b ≠ g → (∀ q, q < 3 * n → b ≠ gq G q) → ¬ Foot F ls b → ¬ Foot F' (updL (updL ls 0 (ls 0 ++ os)) 4 (ls 4 ++ [o])) b := by
  obtain ⟨i0, hi, hz0, hz1, hz2⟩ := info_parts infoI
  obtain ⟨i1, hi1, hy0, hy1, hy2⟩ := info_parts infoDL
  have hgl := hr.lt
  have hpl := h.pw_lt
  have HST := hideG (fun (m : Nat) (wr : World) (hm : m < 3 * n) (hrel : oRel w pw F nx ls G m wr) => oRel_steps hg hf h0 h1 hlen0 hl m wr hm hrel)
  have HFR := hideG (fun (m : Nat) (wr : World) (hm : m ≤ 3 * n) (hrel : oRel w pw F nx ls G m wr) => oRel_frow hrel hg hm hr hpg hfg)
  have HD0 := hideG (show ∀ j, j < n → dgiven n G D (j * 6) = gsl (gq G (3 * j)) (dq D (3 * j)) ∧ dgiven n G D (j * 6 + 4) = gsl (gq G (3 * j + 1)) (dq D (3 * j + 1)) ∧ dgiven n G D (j * 6 + 5) = gsl (gq G (3 * j + 2)) (dq D (3 * j + 2)) from fun j hj => by
    unfold dgiven gq dq
    refine ⟨?_, ?_, ?_⟩
    · rw [if_pos (by omega), show j * 6 / 6 = j by omega, show j * 6 % 6 = 0 by omega, show 3 * j / 3 = j by omega, show 3 * j % 3 = 0 by omega]; rfl
    · rw [if_pos (by omega), show (j * 6 + 4) / 6 = j by omega, show (j * 6 + 4) % 6 = 4 by omega, show (3 * j + 1) / 3 = j by omega, show (3 * j + 1) % 3 = 1 by omega]; rfl
    · rw [if_pos (by omega), show (j * 6 + 5) / 6 = j by omega, show (j * 6 + 5) % 6 = 5 by omega, show (3 * j + 2) / 3 = j by omega, show (3 * j + 2) % 3 = 2 by omega]; rfl)
  have R0 := hideG (show oRel w pw F nx ls G (3 * 0) w from oRel_zero h)
  have HGV := hideG hg
  have HFG := hideG hfg
  clear h hg hf hfg hl hr
  go_enter Tryz.func50, Tryz.ntmps50
  go_wp2_with fail
  go_loopw [4] (fun i wr => ∃ j : Nat, j ≤ n ∧ i = .int .i64 j ∧ oRel w pw F nx ls G (3 * j) wr) (fun i _ => n - (intOf i).toNat)
  case atStart => exact ⟨0, Nat.zero_le _, rfl, R0.out⟩
  case round =>
    clear R0
    obtain ⟨j, hj, rfl, hrel⟩ := hrel
    have HR := hideG hrel
    have hsz : w.heap.size ≤ wr.heap.size := by obtain ⟨_, _, _, _, _, c, _⟩ := hrel; exact c.size
    have hgr : g < wr.heap.size := by omega
    clear hrel
    by_cases hlt : j < n
    · obtain ⟨d0, d4, d5⟩ := HD0.out j hlt
      have c0 := (HFR.out _ wr (by omega) HR.out).cell (j * 6) (by omega)
      rw [d0] at c0
      have HC1 := hideG (HST.out (3 * j) wr (by omega) HR.out)
      unfold gsl at c0
      clear d0
      go_wp2_with fail
      refine HC1.out.mono ?_
      rintro e w1 ⟨rfl, hr1⟩
      have s1 : w.heap.size ≤ w1.heap.size := by obtain ⟨_, _, _, _, _, c, _⟩ := hr1; exact c.size
      have c4 := (HFR.out _ w1 (by omega) hr1).cell (j * 6 + 4) (by omega)
      rw [d4] at c4
      have HC2 := hideG (HST.out (3 * j + 1) w1 (by omega) hr1)
      unfold gsl at c4
      clear d4 c0 hr1 HC1
      have hgr1 : g < w1.heap.size := by omega
      go_wp2_with fail
      refine HC2.out.mono ?_
      rintro e w2 ⟨rfl, hr2⟩
      have s2 : w.heap.size ≤ w2.heap.size := by obtain ⟨_, _, _, _, _, c, _⟩ := hr2; exact c.size
      have c5 := (HFR.out _ w2 (by omega) hr2).cell (j * 6 + 5) (by omega)
      rw [d5] at c5
      have HC3 := hideG (HST.out (3 * j + 2) w2 (by omega) hr2)
      unfold gsl at c5
      clear d5 c4 hr2 HC2
      have hgr2 : g < w2.heap.size := by omega
      go_wp2_with fail
      refine HC3.out.mono ?_
      rintro e w3 ⟨rfl, hr3⟩
      have HR3 := hideG (show oRel w pw F nx ls G (3 * (j + 1)) w3 from hr3)
      clear c5 hr3 HC3
      go_wp2_with fail
      go_roundw
      case rel => exact ⟨j + 1, by omega, by go_num, HR3.out⟩
      case measure => simp [intOf]; omega
    · have ej : j = n := by omega
      subst ej
      have hfr := HFR.out _ wr (Nat.le_refl _) HR.out
      obtain ⟨F1, os, k1, k2, k3, k4, k5⟩ := HR.out
      obtain ⟨ls1, hls1⟩ : ∃ ls1, ls1 = updL ls 0 (ls 0 ++ os) := ⟨_, rfl⟩
      obtain ⟨nx1, hnx1⟩ : ∃ nx1, nx1 = nx + ((3 * j : Nat) : Int) := ⟨_, rfl⟩
      rw [← hls1, ← hnx1] at k1
      rw [← hls1] at k5
      have hl4 : ls1 4 = ls 4 := by rw [hls1]; rfl
      have HI := hideG k1
      have HF := hideG (show ¬ Foot F1 ls1 g from k5 g hgl (fun q hq e => (gq_facts HGV.out q hq).2.2.1 e.symm) HFG.out)
      have HK := hideG (show os.length = 3 * j ∧ (∀ q, q < 3 → F1 q = F q) ∧ Chg (fun b => b = pw ∨ (∃ q, q < 3 * j ∧ b = gq G q) ∨ Foot F ls b) w wr ∧ (∀ b, b < w.heap.size → (∀ q, q < 3 * j → b ≠ gq G q) → ¬ Foot F ls b → ¬ Foot F1 ls1 b) from ⟨k2, k3, k4, k5⟩)
      have HLS := hideG hls1
      have HNX := hideG (show nx1 = nx + 3 * (j : Int) by rw [hnx1]; omega)
      have HL4 := hideG hl4
      rw [← hl4] at hlen4
      have h0' : 0 ≤ nx1 := by omega
      have h1' : nx1 ≤ 1000000000000000000 := by omega
      have G0 := hideG hfr
      have m1 := mkN_lo nx1
      have m2 := mkN_hi nx1
      clear hls1 hnx1 hl4 hfr k1 k2 k3 k4 k5
      obtain ⟨w0, hw0⟩ : ∃ w0, w0 = wr := ⟨_, rfl⟩
      rw [← hw0] at HI HK G0 hgr ⊢
      have hsz0 : w.heap.size ≤ w0.heap.size := by rw [hw0]; exact hsz
      clear hw0 HR hsz
      go_wp2_with fail
      refine (mark_calls pw F1 nx1 ls1 _ HI.out h0' h1').mono ?_
      rintro e w1 ⟨rfl, hw1⟩
      have g1 : FRow w1 g 74 ((j + 3) * 6) (dgiven j G D) := G0.out.block (by rw [hw1, Below.heap_setCell _ _ _ _ (by simp; omega)])
      have W1 := hideG hw1
      have G1 := hideG g1
      clear hw1 g1
      generalize hm : mkN nx1 = m at *
      have HM := hideG hm
      clear hm
      go_wp2_with fail
      go_loopw [7] (fun i wr => ∃ k : Nat, k ≤ j + 3 ∧ i = .int .i64 k ∧ FilledD w1 g (j + 3) (dgiven j G D) m k wr) (fun i _ => j + 3 - (intOf i).toNat)
      case atStart => exact ⟨0, by omega, rfl, Chg.refl _ _, G1.out.ext (fun t _ => (if_neg (Nat.not_lt_zero _)).symm)⟩
      case round =>
        obtain ⟨k, hk, rfl, hfill⟩ := hrel
        have FI := hideG hfill
        by_cases hlt2 : k < j + 3
        · have rX := hfill.2
          have c0 := rX.cell (k * 6) (by omega)
          have c1 := rX.cell (k * 6 + 1) (by omega)
          have c2 := rX.cell (k * 6 + 2) (by omega)
          have c3 := rX.cell (k * 6 + 3) (by omega)
          have c4 := rX.cell (k * 6 + 4) (by omega)
          have c5 := rX.cell (k * 6 + 5) (by omega)
          have cf := fun t => rX.froz t
          have hgw := rX.lt
          generalize (if k * 6 / 6 < k then patD m (k * 6 % 6) else dgiven j G D (k * 6)) = u0 at c0
          generalize (if (k * 6 + 1) / 6 < k then patD m ((k * 6 + 1) % 6) else dgiven j G D (k * 6 + 1)) = u1 at c1
          generalize (if (k * 6 + 2) / 6 < k then patD m ((k * 6 + 2) % 6) else dgiven j G D (k * 6 + 2)) = u2 at c2
          generalize (if (k * 6 + 3) / 6 < k then patD m ((k * 6 + 3) % 6) else dgiven j G D (k * 6 + 3)) = u3 at c3
          generalize (if (k * 6 + 4) / 6 < k then patD m ((k * 6 + 4) % 6) else dgiven j G D (k * 6 + 4)) = u4 at c4
          generalize (if (k * 6 + 5) / 6 < k then patD m ((k * 6 + 5) % 6) else dgiven j G D (k * 6 + 5)) = u5 at c5
          have FIN := hideG (filledD_next FI.out hlt2)
          obtain ⟨W9, hW9⟩ : ∃ W9, W9 = set6 wr g (k * 6) (.slice none 0 0) (.int .i64 m) (.int .i64 m) (.int .i64 m) (.slice none 0 0) (.slice none 0 0) := ⟨_, rfl⟩
          rw [← hW9] at FIN
          unfold set6 at hW9
          have HW9 := hideG hW9
          clear hfill rX hW9
          go_wp2_with fail
          rw [← HW9.out]
          go_roundw
          case rel => exact ⟨k + 1, by omega, by go_num, FIN.out⟩
          case measure => simp [intOf]; omega
        · have ek : k = j + 3 := by omega
          subst ek
          clear hfill
          have k2 := FI.out.1.mono (S' := fun b => ((some g, j + 3, m) : Ow).1 = some b) (fun b e _ => by rw [e])
          have K2 := hideG k2
          obtain ⟨a1, a2, a3, a4, a5⟩ := own_mid1 HI.out 4 (by omega) W1.out k2 (fun x e => by cases e; exact ⟨HF.out, hpg⟩)
          obtain ⟨c3, c3f⟩ := cell_f a1 7 (by omega)
          rw [upd_other _ _ (by omega)] at c3
          have A1 := hideG a1
          have A2 := hideG a2
          have A3 := hideG a3
          clear a1 a2 a3 a5 k2
          go_wp2_with (at_builtin; refine wpList_append_one _ rfl _ _ 33 rfl (pw + 1) 43 i1 (.slice none 0 0) 24 Tryz.underlying33 hi1 hy0 hy1 hy2 rfl (F1 7) (ls1 4).length ((ls1 4).map owVal) rfl (A2.out.alloc _) ⟨wr.heap.size, 0, none⟩ 1 (.slice (some ⟨g, 0, none⟩) (j + 3) (j + 3)) rfl (by simp [go_sem]) rfl (by unfold maxLen; omega) hlen4 (by simp; omega) ?_)
          intro g3 cap3 w3 ho3 hg3 hv3
          obtain ⟨p1, p2, p3, p4⟩ := own_mid2 HI.out 4 (by omega) A1.out A3.out A2.out hg3
          obtain ⟨c9, c9f⟩ := cell_f p1 13 (by omega)
          rw [upd_other _ _ (by omega)] at c9
          obtain ⟨d3, d3f⟩ := cell_f p1 7 (by omega)
          rw [upd_other _ _ (by omega)] at d3
          have O3 := hideG ho3
          have K3 := hideG hg3
          have V3 := hideG (own_one (n := (ls1 4).length + 1) (c := cap3) hv3)
          have P1 := hideG p1
          have P2 := hideG p2
          clear ho3 hg3 hv3 p1 p2 p4 c3 c3f
          go_wp2_with (at_builtin; (refine wpList_append_one _ rfl _ _ 35 rfl (pw + 1) 3 i0 (.int .i64 0) 8 Tryz.underlying35 hi hz0 hz1 hz2 rfl (F1 13) (ls1 4).length ((ls1 4).map fun o => Value.int .i64 o.2.2) rfl ((ownsRow_setCell_below P2.out (by simp) _).alloc _) ⟨w3.heap.size, 0, none⟩ 1 (.int .i64 m) rfl (by simp [go_sem]) rfl (by unfold maxLen; omega) (by omega) (by simp [World.setCell]; omega) ?_))
          intro g5 cap5 w5 ho5 hg5 hv5
          obtain ⟨q1, q2, q3⟩ := own_mid3 HI.out 4 P1.out P2.out (.slice (some ⟨g3, 0, none⟩) ((ls1 4).length + 1) cap3) hg5
          obtain ⟨f9, f9f⟩ := cell_f q1 13 (by omega)
          have O5 := hideG ho5
          have K5 := hideG hg5
          have V5 := hideG (own_one (n := (ls1 4).length + 1) (c := cap5) hv5)
          clear ho5 hg5 hv5 q1 q3 d3 d3f c9 c9f
          go_wp2_with fail
          go_end0
          have R := own_finish HI.out 4 (by omega) (o := (some g, j + 3, m)) (.slice (some ⟨g3, 0, none⟩) ((ls1 4).length + 1) cap3) (.slice (some ⟨g5, 0, none⟩) ((ls1 4).length + 1) cap5) W1.out K2.out K3.out O3.out (fun b hb => by simpa [cat] using V3.out b hb) K5.out O5.out (fun b hb => by simpa [World.setCell, cat] using V5.out b hb) (fun x e => by cases e; exact ⟨HF.out, hpg, hgr, filledD_end FI.out⟩) (fun e => by cases e) (by first | exact Nat.zero_le _ | (show j + 3 ≤ maxLen; unfold maxLen; omega))
          obtain ⟨k2', k3', k4', k5'⟩ := HK.out
          refine ⟨rfl, _, os, (some g, j + 3, m), ?_, k2', fun q hq => (R.2.2.1 q hq).trans (k3' q hq), ?_, ?_⟩
          · have e1 : updL (updL ls 0 (ls 0 ++ os)) 4 (ls 4 ++ [(some g, j + 3, m)]) = updL ls1 4 (ls1 4 ++ [(some g, j + 3, m)]) := by rw [HL4.out, HLS.out]
            rw [e1, ← HNX.out]
            exact R.1
          · refine (k4'.mono (S' := fun b => b = pw ∨ b = g ∨ (∃ q, q < 3 * j ∧ b = gq G q) ∨ Foot F ls b) (fun b e _ => ?_)).trans R.2.2.2 (fun b e hbl => ?_)
            · rcases e with e | e | e
              · exact .inl e
              · exact .inr (.inr (.inl e))
              · exact .inr (.inr (.inr e))
            · rcases e with e | e | e
              · exact .inl e
              · exact .inr (.inl (by cases e; rfl))
              · by_cases hx : ∃ q, q < 3 * j ∧ b = gq G q
                · exact .inr (.inr (.inl hx))
                · by_cases hy : Foot F ls b
                  · exact .inr (.inr (.inr hy))
                  · exact absurd e (k5' b hbl (fun q hq e2 => hx ⟨q, hq, e2⟩) hy)
          · intro b hbl hne hnq hnf
            have r2 := R.2.1 b (by omega) (by simpa using fun e => hne e.symm) (k5' b hbl hnq hnf)
            have e1 : updL (updL ls 0 (ls 0 ++ os)) 4 (ls 4 ++ [(some g, j + 3, m)]) = updL ls1 4 (ls1 4 ++ [(some g, j + 3, m)]) := by rw [HL4.out, HLS.out]
            rw [e1]
            exact r2

end Go.Proofs.YtchideljndagjaaGreat
