/- Contract of veilref's server: sends. -/
import Derived.Test.YtchideljndagjabGreatPkSeBB
import Derived.Test.YtchideljndagjabGreatPkSeAX
namespace Go.Proofs.YtchideljndagjabGreat
open Go.ChangeShapes Go.WideShapes Go.ChangeAt Go.RowKit
set_option linter.unusedVariables false

set_option maxHeartbeats 4000000 in
set_option maxRecDepth 100000 in
theorem rsends_0 (H : Nat → RF) (G : Srv.Tab) (u : Nat) (w : World) (hH : HTab w H G) (hz : ∀ r, G r 0 = none) (hC : ∀ v, Srv.mem (G 0) v = true → (Cli.itemOf (Srv.its (G 0) v) v).2.2.2 = 0) :
    Calls Tryz.prog 243 #[.agg (tabL H).toArray, .int .i64 0, .int .i64 (u : Int)] w fun e w' => ∃ va, e = .returned (.agg #[.int .i64 2, .int .i64 0, va]) ∧ w'.ownsRow w.heap.size 147 4 va (Srv.keysN G 13).length (flat4 (Srv.keysN G 13)) ∧ Below w.heap.size w w' := by
  obtain ⟨i1, hi1, hy0, hy1, hy2⟩ := info_parts infoIt
  have HVW := hideG (fun x hx => hH.view (r := 0) (by omega) (u := x) hx)
  have HCC := hideG hC
  clear hC
  have HIM := hideG (fun (w1 : World) (x : Nat) (y : Value) (hb : Below w.heap.size w w1) (hx : ItemsAt w y (Srv.its (G 0) x)) => ritem_calls 1 (x : Int) y (Srv.its (G 0) x) (x : Int) w1 (hx.below hb))
  have H0 := hideG (show Srv.keysN G 1 = [] by rw [Srv.keysN_succ]; unfold Srv.mem; rw [hz 0]; rfl)
  have HLN := hideG (show ∀ n, (Srv.keysN G n).length ≤ n from fun n => by unfold Srv.keysN; rw [List.length_map]; exact Srv.lstN_le _ _)
  have HS := hideG (Srv.keysN_succ G)
  clear hH hz
  obtain ⟨X, hX⟩ : ∃ X, X = tabL H := ⟨_, rfl⟩
  obtain ⟨W0, hW0⟩ : ∃ W0, W0 = ((w.alloc (.cells X.toArray 238)).alloc (.cells #[.int .i64 0, .int .i64 0, .slice none 0 0] 65)).alloc (.cells #[.int .i64 2, .int .i64 0, .slice none 0 0] 65) := ⟨_, rfl⟩
  have z0 : W0.heap.size = w.heap.size + 3 := by rw [hW0]; simp
  have FT := hideG (show FRow W0 w.heap.size 238 156 (cellF H) by
    rw [hW0, hX]
    have k : Below (w.heap.size + 1) (w.alloc (.cells (tabL H).toArray 238)) (((w.alloc (.cells (tabL H).toArray 238)).alloc (.cells #[.int .i64 0, .int .i64 0, .slice none 0 0] 65)).alloc (.cells #[.int .i64 2, .int .i64 0, .slice none 0 0] 65)) := ((Below.refl _ _).alloc (by simp) _).alloc (by simp) _
    exact (tab_new w H).block (k.block _ (by omega)))
  have FR := hideG (show W0.heap[w.heap.size + 1]? = some (.cells #[.int .i64 0, .int .i64 0, .slice none 0 0] 65 (0, 0)) by
    rw [hW0]
    have := heap_alloc2_old (w.alloc (.cells X.toArray 238)) (.cells #[.int .i64 0, .int .i64 0, .slice none 0 0] 65) (.cells #[.int .i64 2, .int .i64 0, .slice none 0 0] 65)
    simp only [World.size_alloc] at this
    exact this)
  have FF := hideG (show W0.heap[w.heap.size + 2]? = some (.cells #[.int .i64 2, .int .i64 0, .slice none 0 0] 65 (0, 0)) by
    rw [hW0]
    have := heap_alloc2_new (w.alloc (.cells X.toArray 238)) (.cells #[.int .i64 0, .int .i64 0, .slice none 0 0] 65) (.cells #[.int .i64 2, .int .i64 0, .slice none 0 0] 65)
    simp only [World.size_alloc] at this
    exact this)
  have B0 := hideG (show Below w.heap.size w W0 by rw [hW0]; exact (((Below.refl _ _).alloc (Nat.le_refl _) _).alloc (by simp) _).alloc (by simp; omega) _)
  have HW0 := hideG hW0
  rw [← hX]
  clear hX hW0
  have Z0 := hideG z0
  clear z0
  go_enter Tryz.func243, Tryz.ntmps243
  go_wp2_with fail
  rw [← HW0.out]
  go_loopw [8] (fun i wr => ∃ (k : Nat) (ro : Value), k ≤ 12 ∧ i = .int .i64 ((k : Int) + 1) ∧ wr.heap[w.heap.size + 2]? = some (.cells #[.int .i64 2, .int .i64 0, ro] 65 (0, 0)) ∧ wr.heap[w.heap.size + 1]? = some (.cells #[.int .i64 0, .int .i64 0, .slice none 0 0] 65 (0, 0)) ∧ FRow wr w.heap.size 238 156 (cellF H) ∧ wr.ownsRow W0.heap.size 147 4 ro (Srv.keysN G (k + 1)).length (flat4 (Srv.keysN G (k + 1))) ∧ Below w.heap.size w wr ∧ W0.heap.size ≤ wr.heap.size) (fun i _ => 13 - (intOf i).toNat)
  case atStart => exact ⟨0, _, by omega, rfl, FF.out, FR.out, FT.out, by rw [H0.out]; exact World.ownsRow_nil _ _ _ _, B0.out, Nat.le_refl _⟩
  case round =>
    obtain ⟨k, ro, hk, rfl, hff, hfr, hft, hown, hbel, hsz⟩ := hrel
    have HFF := hideG hff
    have HFR := hideG hfr
    have HFT := hideG hft
    have HO := hideG hown
    have HB := hideG hbel
    obtain ⟨a3, c3, hv3⟩ := owns_form hown
    subst hv3
    have hl13 := HLN.out (k + 1)
    have HSU := hideG (HS.out (k + 1))
    by_cases hlt : k < 12
    · have hlt' : (k : Int) + 1 ≤ 12 := by omega
      have hk13 : (k : Int) + 1 < 13 := by omega
      obtain ⟨cc0, cc1, cc2⟩ := cells_frame hft (0 * 13 + (k + 1)) ((k + 1) * 3) (by omega) (by omega)
      clear hff hfr hft hown hbel
      rcases HVW.out (k + 1) (by omega) with ⟨hm, hh⟩ | ⟨hm, fa, fn, fc, hh, hit⟩
      · rw [hh] at cc0 cc1 cc2
        have HS2 := hideG (show Srv.keysN G (k + 1 + 1) = Srv.keysN G (k + 1) by rw [HSU.out]; rw [hm]; simp)
        change wr.cell? _ = some (.int .i64 0) at cc0
        clear hh hm cc1 cc2
        go_wp2_with fail
        go_roundw
        case rel => exact ⟨k + 1, _, by omega, by go_num, HFF.out, HFR.out, HFT.out, by rw [HS2.out]; exact HO.out, HB.out, hsz⟩
        case measure => simp [intOf]; omega
      · rw [hh] at cc0 cc1 cc2
        change wr.cell? _ = some (.int .i64 1) at cc0
        change wr.cell? _ = some (.int .i64 ((k + 1 : Nat) : Int)) at cc1
        change wr.cell? _ = some (.slice fa fn fc) at cc2
        obtain ⟨W1, hW1⟩ : ∃ W1, W1 = wr.alloc (.cells #[.int .i64 0, .int .i64 0, .int .i64 0, .int .i64 0] 147) := ⟨_, rfl⟩
        have bA : Below wr.heap.size wr W1 := by rw [hW1]; exact (Below.refl _ _).alloc (Nat.le_refl _) _
        have RY := hideG (show W1.heap[wr.heap.size]? = some (.cells #[.int .i64 0, .int .i64 0, .int .i64 0, .int .i64 0] 147 (0, 0)) by rw [hW1]; exact heap_alloc_new wr _)
        have szy : wr.heap.size < W1.heap.size := by rw [hW1]; simp
        have BA := hideG bA
        have HW1 := hideG hW1
        have BW1 := hideG (HB.out.trans (bA.mono HB.out.size))
        have ltb : w.heap.size < wr.heap.size := HFT.out.lt
        have d0 := (bA.cell (p := ⟨w.heap.size, (k + 1) * 3, none⟩) ltb).trans cc0
        have d1 := (bA.cell (p := ⟨w.heap.size, (k + 1) * 3 + 1, none⟩) ltb).trans cc1
        have d2 := (bA.cell (p := ⟨w.heap.size, (k + 1) * 3 + 2, none⟩) ltb).trans cc2
        clear hh hW1 bA
        go_upto_region 7 with fail
        rw [← HW1.out]
        clear cc0 cc1 cc2
        have IM := hideG (show Calls Tryz.prog 274 #[.agg #[.int .i64 1, .int .i64 ((k + 1 : Nat) : Int), .slice fa fn fc], .int .i64 ((k : Int) + 1)] W1 fun e w' => e = .returned (.agg #[.int .i64 (Cli.itemOf (Srv.its (G 0) (k + 1)) ((k + 1 : Nat) : Int)).1, .int .i64 (Cli.itemOf (Srv.its (G 0) (k + 1)) ((k + 1 : Nat) : Int)).2.1, .int .i64 (Cli.itemOf (Srv.its (G 0) (k + 1)) ((k + 1 : Nat) : Int)).2.2.1, .int .i64 (Cli.itemOf (Srv.its (G 0) (k + 1)) ((k + 1 : Nat) : Int)).2.2.2]) ∧ Below W1.heap.size W1 w' from HIM.out W1 (k + 1) _ BW1.out hit)
        clear hit
        obtain ⟨y0, y1, y2, y3, hy⟩ : ∃ y0 y1 y2 y3, Cli.itemOf (Srv.its (G 0) (k + 1)) ((k + 1 : Nat) : Int) = (y0, y1, y2, y3) := ⟨_, _, _, _, rfl⟩
        rw [hy] at IM
        have HYY := hideG (show Srv.helloI G (k + 1) = (((k + 1 : Nat) : Int), y1, y2, 0) by unfold Srv.helloI; rw [hy])
        have hy3 : y3 = 0 := by have := HCC.out (k + 1) hm; rwa [hy] at this
        subst hy3
        obtain ⟨q, hq⟩ : ∃ q : Int, q = ((k + 1 : Nat) : Int) := ⟨_, rfl⟩
        rw [← hq] at d1 IM HYY
        have hq' : (k : Int) + 1 = q := by omega
        have HQ := hideG hq'
        clear hy hq hq'
        go_wp2_with fail
        refine IM.out.mono ?_
        rintro e w2 ⟨rfl, hb2⟩
        have s2 := hb2.size
        have B2 := hideG (BA.out.trans (hb2.mono BA.out.size))
        have RY2 := hideG ((hb2.block _ szy).trans RY.out)
        clear hb2 d0 d1 d2
        obtain ⟨⟨p0, p1, p2, p3⟩, pf⟩ := cells_four RY2.out
        obtain ⟨W3, hW3⟩ : ∃ W3, W3 = (((w2.setCell ⟨wr.heap.size, 0, none⟩ (.int .i64 y0)).setCell ⟨wr.heap.size, 1, none⟩ (.int .i64 y1)).setCell ⟨wr.heap.size, 2, none⟩ (.int .i64 y2)).setCell ⟨wr.heap.size, 3, none⟩ (.int .i64 0) := ⟨_, rfl⟩
        have RY3 := hideG (show W3.heap[wr.heap.size]? = some (.cells #[.int .i64 y0, .int .i64 y1, .int .i64 y2, .int .i64 0] 147 (0, 0)) by rw [hW3]; exact row_four RY2.out _ _ _ _)
        have B3 := hideG (show Below wr.heap.size wr W3 by
          rw [hW3]
          exact (((B2.out.setCell (p := ⟨wr.heap.size, 0, none⟩) (Nat.le_refl _) _).setCell (p := ⟨wr.heap.size, 1, none⟩) (Nat.le_refl _) _).setCell (p := ⟨wr.heap.size, 2, none⟩) (Nat.le_refl _) _).setCell (p := ⟨wr.heap.size, 3, none⟩) (Nat.le_refl _) _)
        have HW3 := hideG hW3
        clear hW3
        go_upto_region 12 with fail
        rw [← HW3.out]
        clear p0 p1 p2 p3 pf
        obtain ⟨⟨p0, p1, p2, p3⟩, pf⟩ := cells_four RY3.out
        obtain ⟨W4, hW4⟩ : ∃ W4, W4 = W3.setCell ⟨wr.heap.size, 0, none⟩ (.int .i64 ((k : Int) + 1)) := ⟨_, rfl⟩
        have RY4 := hideG (show W4.heap[wr.heap.size]? = some (.cells #[.int .i64 ((k : Int) + 1), .int .i64 y1, .int .i64 y2, .int .i64 0] 147 (0, 0)) by rw [hW4]; exact heap_setCell_same W3 _ 0 _ _ _ RY3.out)
        have B4 := hideG (show Below wr.heap.size wr W4 by rw [hW4]; exact B3.out.setCell (p := ⟨wr.heap.size, 0, none⟩) (Nat.le_refl _) _)
        have HW4 := hideG hW4
        clear hW4
        go_upto_region 13 with fail
        rw [← HW4.out]
        clear p0 p1 p2 p3 pf
        obtain ⟨⟨p0, p1, p2, p3⟩, pf⟩ := cells_four RY4.out
        have s4 := B4.out.size
        have l2 : w.heap.size + 2 < wr.heap.size := by have := Z0.out; omega
        have F4 := hideG ((B4.out.block _ l2).trans HFF.out)
        have G4 := hideG ((B4.out.block _ (by omega)).trans HFR.out)
        have T4 := hideG (HFT.out.block (B4.out.block _ (by omega)))
        have O4 := hideG (ownsRow_chg (S := fun _ => False) HO.out (Chg.of_below B4.out) (fun _ _ h => h))
        have BB4 := hideG (HB.out.trans (B4.out.mono HB.out.size))
        have f2 : W4.cell? ⟨w.heap.size + 2, 2, none⟩ = some (.slice a3 (Srv.keysN G (k + 1)).length c3) := by rw [cell_of_row W4 (w.heap.size + 2) 2 _ _ (0, 0) F4.out]; rfl
        have ff : ∀ i, W4.frozen? ⟨w.heap.size + 2, i, none⟩ = false := fun i => frozen_of_row W4 (w.heap.size + 2) i _ _ F4.out
        have HS2 := hideG (show Srv.keysN G (k + 1 + 1) = Srv.keysN G (k + 1) ++ [Srv.helloI G (k + 1)] by rw [HSU.out]; rw [hm]; simp)
        clear hm
        go_wp2_with (at_builtin; refine wpList_append_own _ rfl _ _ 63 rfl W0.heap.size 147 i1 (.agg #[.int .i64 0, .int .i64 0, .int .i64 0, .int .i64 0]) 4 32 Tryz.underlying63 hi1 hy0 hy1 hy2 rfl (by decide) _ _ _ rfl (O4.out.alloc _) ⟨W4.heap.size, 0, none⟩ 1 1 [.int .i64 ((k : Int) + 1), .int .i64 y1, .int .i64 y2, .int .i64 0] rfl rfl ?c1 ?c2 ?c3 ?c4 ?c5 ?_)
        case c1 => exact cell_four_new _ _ _ _ _ _
        case c2 => intro x hx; simp at hx; rcases hx with rfl | rfl | rfl | rfl <;> rfl
        case c3 => unfold maxLen; omega
        case c4 => omega
        case c5 => simp; omega
        intro v' w5 hown' hgrow' _
        obtain ⟨a5, c5, hv5⟩ := owns_form hown'
        subst hv5
        have hlow := fun x (hx : (Value.slice a3 (Srv.keysN G (k + 1)).length c3).ownBlock = some x) => (O4.out.lt x hx).1
        have hal : Below W4.heap.size W4 (W4.alloc (.cells #[.int .i64 ((k : Int) + 1), .int .i64 y1, .int .i64 y2, .int .i64 0] 147)) := (Below.refl _ _).alloc (Nat.le_refl _) _
        have hbk : ∀ x, x ≤ w.heap.size + 2 → w5.heap[x]? = W4.heap[x]? := fun x hx => (hgrow'.block x (by simp; omega) (fun e => by have := hlow x e.symm; have := Z0.out; omega)).trans (hal.block x (by omega))
        have BB5 := hideG ((BB4.out.alloc (by omega) _).grown hgrow' (by simp; omega) (fun y hy => by have := hlow y hy; have := Z0.out; omega))
        have F5 := hideG ((hbk _ (Nat.le_refl _)).trans F4.out)
        have G5 := hideG ((hbk _ (by omega)).trans G4.out)
        have T5 := hideG (T4.out.block (hbk _ (by omega)))
        have O5 := hideG (show w5.ownsRow W0.heap.size 147 4 (.slice a5 ((Srv.keysN G (k + 1)).length + 1) c5) (Srv.keysN G (k + 1 + 1)).length (flat4 (Srv.keysN G (k + 1 + 1))) by
          rw [HS2.out, flat4_append, List.length_append, HYY.out, ← HQ.out]; exact hown')
        have s5 := hgrow'.size
        have l5 : W0.heap.size ≤ w5.heap.size := by simp at s5; omega
        clear hown' hgrow' hlow hal hbk f2 ff p0 p1 p2 p3 pf
        have f0 : (w5.cell? ⟨w.heap.size + 2, 2, none⟩) = some (.slice a3 (Srv.keysN G (k + 1)).length c3) := by rw [cell_of_row w5 (w.heap.size + 2) 2 _ _ (0, 0) F5.out]; rfl
        have ff : ∀ i, w5.frozen? ⟨w.heap.size + 2, i, none⟩ = false := fun i => frozen_of_row w5 (w.heap.size + 2) i _ _ F5.out
        have c6 : Chg (fun x => x = w.heap.size + 2) w5 (w5.setCell ⟨w.heap.size + 2, 2, none⟩ (.slice a5 ((Srv.keysN G (k + 1)).length + 1) c5)) := Chg.setCell w5 ⟨w.heap.size + 2, 2, none⟩ _
        have FIN := hideG (show (w5.setCell ⟨w.heap.size + 2, 2, none⟩ (.slice a5 ((Srv.keysN G (k + 1)).length + 1) c5)).heap[w.heap.size + 2]? = some (.cells #[.int .i64 2, .int .i64 0, .slice a5 ((Srv.keysN G (k + 1)).length + 1) c5] 65 (0, 0)) ∧ (w5.setCell ⟨w.heap.size + 2, 2, none⟩ (.slice a5 ((Srv.keysN G (k + 1)).length + 1) c5)).heap[w.heap.size + 1]? = some (.cells #[.int .i64 0, .int .i64 0, .slice none 0 0] 65 (0, 0)) ∧ FRow (w5.setCell ⟨w.heap.size + 2, 2, none⟩ (.slice a5 ((Srv.keysN G (k + 1)).length + 1) c5)) w.heap.size 238 156 (cellF H) ∧ (w5.setCell ⟨w.heap.size + 2, 2, none⟩ (.slice a5 ((Srv.keysN G (k + 1)).length + 1) c5)).ownsRow W0.heap.size 147 4 (.slice a5 ((Srv.keysN G (k + 1)).length + 1) c5) (Srv.keysN G (k + 1 + 1)).length (flat4 (Srv.keysN G (k + 1 + 1))) ∧ Below w.heap.size w (w5.setCell ⟨w.heap.size + 2, 2, none⟩ (.slice a5 ((Srv.keysN G (k + 1)).length + 1) c5)) from
          ⟨heap_setCell_same w5 _ 2 _ _ _ F5.out, (Below.heap_setCell _ _ _ _ (by simp)).trans G5.out, T5.out.block (Below.heap_setCell _ _ _ _ (by simp)), ownsRow_chg O5.out c6 (fun x hx e => by have := (O5.out.lt x hx).1; have := Z0.out; omega), BB5.out.setCell (p := ⟨w.heap.size + 2, 2, none⟩) (by show w.heap.size ≤ w.heap.size + 2; omega) _⟩)
        clear c6
        go_wp2_with fail
        go_roundw
        case rel => exact ⟨k + 1, _, by omega, by go_num, FIN.out.1, FIN.out.2.1, FIN.out.2.2.1, FIN.out.2.2.2.1, FIN.out.2.2.2.2, by simp; omega⟩
        case measure => simp [intOf]; omega
    · have ek : k = 12 := by omega
      subst ek
      clear hff hfr hft hown hbel
      have l2 : w.heap.size + 2 < wr.heap.size := by have := Z0.out; omega
      have g0 : wr.cell? ⟨w.heap.size + 2, 0, none⟩ = some (.int .i64 2) := by rw [cell_of_row wr (w.heap.size + 2) 0 _ _ (0, 0) HFF.out]; rfl
      have g1 : wr.cell? ⟨w.heap.size + 2, 1, none⟩ = some (.int .i64 0) := by rw [cell_of_row wr (w.heap.size + 2) 1 _ _ (0, 0) HFF.out]; rfl
      have g2 : wr.cell? ⟨w.heap.size + 2, 2, none⟩ = some (.slice a3 (Srv.keysN G (12 + 1)).length c3) := by rw [cell_of_row wr (w.heap.size + 2) 2 _ _ (0, 0) HFF.out]; rfl
      have r0 : wr.cell? ⟨w.heap.size + 1, 0, none⟩ = some (.int .i64 0) := by rw [cell_of_row wr (w.heap.size + 1) 0 _ _ (0, 0) HFR.out]; rfl
      have r1 : wr.cell? ⟨w.heap.size + 1, 1, none⟩ = some (.int .i64 0) := by rw [cell_of_row wr (w.heap.size + 1) 1 _ _ (0, 0) HFR.out]; rfl
      have r2 : wr.cell? ⟨w.heap.size + 1, 2, none⟩ = some (.slice none 0 0) := by rw [cell_of_row wr (w.heap.size + 1) 2 _ _ (0, 0) HFR.out]; rfl
      have rf : ∀ i, wr.frozen? ⟨w.heap.size + 1, i, none⟩ = false := fun i => frozen_of_row wr (w.heap.size + 1) i _ _ HFR.out
      have E1 := hideG (row_three HFR.out (.int .i64 2) (.int .i64 0) (.slice a3 (Srv.keysN G (12 + 1)).length c3))
      have E2 := hideG (below_three HB.out (Nat.le_succ w.heap.size) (.int .i64 2) (.int .i64 0) (.slice a3 (Srv.keysN G (12 + 1)).length c3))
      have E3 := hideG (ownsRow_base (ownsRow_chg HO.out (chg_three wr (w.heap.size + 1) (.int .i64 2) (.int .i64 0) (.slice a3 (Srv.keysN G (12 + 1)).length c3)) (fun x hx e => by have := (HO.out.lt x hx).1; have := Z0.out; omega)) (show w.heap.size ≤ W0.heap.size by have := Z0.out; omega))
      go_wp2_with fail
      refine bodyPost_ret (results_cell_row rfl _ _ (w.heap.size + 1) 65 #[.int .i64 2, .int .i64 0, _] (0, 0) _ rfl E1.out Tryz.underlying65 rfl size_frame3) rfl ?_
      exact ⟨_, rfl, E3.out, E2.out⟩

set_option maxHeartbeats 4000000 in
set_option maxRecDepth 100000 in
theorem rsends_1 (H : Nat → RF) (G : Srv.Tab) (u : Nat) (w : World) (hH : HTab w H G) (hz : ∀ r, G r 0 = none) :
    Calls Tryz.prog 243 #[.agg (tabL H).toArray, .int .i64 1, .int .i64 (u : Int)] w fun e w' => ∃ va, e = .returned (.agg #[.int .i64 4, .int .i64 0, va]) ∧ w'.ownsRow w.heap.size 147 4 va (Srv.boxN G u 13).length (flat4 (Srv.boxN G u 13)) ∧ Below w.heap.size w w' := by
  obtain ⟨i1, hi1, hy0, hy1, hy2⟩ := info_parts infoIt
  have HVW := hideG (fun x hx => hH.view (r := 1) (by omega) (u := x) hx)
  have HIM := hideG (fun (w1 : World) (x : Nat) (y : Value) (hb : Below w.heap.size w w1) (hx : ItemsAt w y (Srv.its (G 1) x)) => ritem_calls 3 (x : Int) y (Srv.its (G 1) x) (u : Int) w1 (hx.below hb))
  have H0 := hideG (show Srv.boxN G u 1 = [] by rw [Srv.boxN_succ]; unfold Srv.without Srv.mem; rw [hz 1]; rfl)
  have HLN := hideG (show ∀ n, (Srv.boxN G u n).length ≤ n from fun n => by unfold Srv.boxN; rw [List.length_map]; exact Srv.lstN_le _ _)
  have HS := hideG (Srv.boxN_succ G u)
  clear hH hz
  obtain ⟨X, hX⟩ : ∃ X, X = tabL H := ⟨_, rfl⟩
  obtain ⟨W0, hW0⟩ : ∃ W0, W0 = ((w.alloc (.cells X.toArray 238)).alloc (.cells #[.int .i64 0, .int .i64 0, .slice none 0 0] 65)).alloc (.cells #[.int .i64 4, .int .i64 0, .slice none 0 0] 65) := ⟨_, rfl⟩
  have z0 : W0.heap.size = w.heap.size + 3 := by rw [hW0]; simp
  have FT := hideG (show FRow W0 w.heap.size 238 156 (cellF H) by
    rw [hW0, hX]
    have k : Below (w.heap.size + 1) (w.alloc (.cells (tabL H).toArray 238)) (((w.alloc (.cells (tabL H).toArray 238)).alloc (.cells #[.int .i64 0, .int .i64 0, .slice none 0 0] 65)).alloc (.cells #[.int .i64 4, .int .i64 0, .slice none 0 0] 65)) := ((Below.refl _ _).alloc (by simp) _).alloc (by simp) _
    exact (tab_new w H).block (k.block _ (by omega)))
  have FR := hideG (show W0.heap[w.heap.size + 1]? = some (.cells #[.int .i64 0, .int .i64 0, .slice none 0 0] 65 (0, 0)) by
    rw [hW0]
    have := heap_alloc2_old (w.alloc (.cells X.toArray 238)) (.cells #[.int .i64 0, .int .i64 0, .slice none 0 0] 65) (.cells #[.int .i64 4, .int .i64 0, .slice none 0 0] 65)
    simp only [World.size_alloc] at this
    exact this)
  have FF := hideG (show W0.heap[w.heap.size + 2]? = some (.cells #[.int .i64 4, .int .i64 0, .slice none 0 0] 65 (0, 0)) by
    rw [hW0]
    have := heap_alloc2_new (w.alloc (.cells X.toArray 238)) (.cells #[.int .i64 0, .int .i64 0, .slice none 0 0] 65) (.cells #[.int .i64 4, .int .i64 0, .slice none 0 0] 65)
    simp only [World.size_alloc] at this
    exact this)
  have B0 := hideG (show Below w.heap.size w W0 by rw [hW0]; exact (((Below.refl _ _).alloc (Nat.le_refl _) _).alloc (by simp) _).alloc (by simp; omega) _)
  have HW0 := hideG hW0
  rw [← hX]
  clear hX hW0
  have Z0 := hideG z0
  clear z0
  go_enter Tryz.func243, Tryz.ntmps243
  go_wp2_with fail
  rw [← HW0.out]
  go_loopw [8] (fun i wr => ∃ (k : Nat) (ro : Value), k ≤ 12 ∧ i = .int .i64 ((k : Int) + 1) ∧ wr.heap[w.heap.size + 2]? = some (.cells #[.int .i64 4, .int .i64 0, ro] 65 (0, 0)) ∧ wr.heap[w.heap.size + 1]? = some (.cells #[.int .i64 0, .int .i64 0, .slice none 0 0] 65 (0, 0)) ∧ FRow wr w.heap.size 238 156 (cellF H) ∧ wr.ownsRow W0.heap.size 147 4 ro (Srv.boxN G u (k + 1)).length (flat4 (Srv.boxN G u (k + 1))) ∧ Below w.heap.size w wr ∧ W0.heap.size ≤ wr.heap.size) (fun i _ => 13 - (intOf i).toNat)
  case atStart => exact ⟨0, _, by omega, rfl, FF.out, FR.out, FT.out, by rw [H0.out]; exact World.ownsRow_nil _ _ _ _, B0.out, Nat.le_refl _⟩
  case round =>
    obtain ⟨k, ro, hk, rfl, hff, hfr, hft, hown, hbel, hsz⟩ := hrel
    have HFF := hideG hff
    have HFR := hideG hfr
    have HFT := hideG hft
    have HO := hideG hown
    have HB := hideG hbel
    obtain ⟨a3, c3, hv3⟩ := owns_form hown
    subst hv3
    have hl13 := HLN.out (k + 1)
    have HSU := hideG (HS.out (k + 1))
    by_cases hlt : k < 12
    · have hlt' : (k : Int) + 1 ≤ 12 := by omega
      have hk13 : (k : Int) + 1 < 13 := by omega
      obtain ⟨cc0, cc1, cc2⟩ := cells_frame hft (1 * 13 + (k + 1)) (39 + (k + 1) * 3) (by omega) (by omega)
      clear hff hfr hft hown hbel
      rcases HVW.out (k + 1) (by omega) with ⟨hm, hh⟩ | ⟨hm, fa, fn, fc, hh, hit⟩
      · rw [hh] at cc0 cc1 cc2
        have HS2 := hideG (show Srv.boxN G u (k + 1 + 1) = Srv.boxN G u (k + 1) by rw [HSU.out]; unfold Srv.without; rw [hm]; simp)
        change wr.cell? _ = some (.int .i64 0) at cc0
        clear hh hm cc1 cc2
        go_wp2_with fail
        go_roundw
        case rel => exact ⟨k + 1, _, by omega, by go_num, HFF.out, HFR.out, HFT.out, by rw [HS2.out]; exact HO.out, HB.out, hsz⟩
        case measure => simp [intOf]; omega
      · rw [hh] at cc0 cc1 cc2
        change wr.cell? _ = some (.int .i64 3) at cc0
        change wr.cell? _ = some (.int .i64 ((k + 1 : Nat) : Int)) at cc1
        change wr.cell? _ = some (.slice fa fn fc) at cc2
        obtain ⟨W1, hW1⟩ : ∃ W1, W1 = wr.alloc (.cells #[.int .i64 0, .int .i64 0, .int .i64 0, .int .i64 0] 147) := ⟨_, rfl⟩
        have bA : Below wr.heap.size wr W1 := by rw [hW1]; exact (Below.refl _ _).alloc (Nat.le_refl _) _
        have RY := hideG (show W1.heap[wr.heap.size]? = some (.cells #[.int .i64 0, .int .i64 0, .int .i64 0, .int .i64 0] 147 (0, 0)) by rw [hW1]; exact heap_alloc_new wr _)
        have szy : wr.heap.size < W1.heap.size := by rw [hW1]; simp
        have BA := hideG bA
        have HW1 := hideG hW1
        have BW1 := hideG (HB.out.trans (bA.mono HB.out.size))
        have ltb : w.heap.size < wr.heap.size := HFT.out.lt
        have d0 := (bA.cell (p := ⟨w.heap.size, 39 + (k + 1) * 3, none⟩) ltb).trans cc0
        have d1 := (bA.cell (p := ⟨w.heap.size, 39 + (k + 1) * 3 + 1, none⟩) ltb).trans cc1
        have d2 := (bA.cell (p := ⟨w.heap.size, 39 + (k + 1) * 3 + 2, none⟩) ltb).trans cc2
        clear hh hW1 bA
        go_upto_region 7 with fail
        rw [← HW1.out]
        clear cc0 cc1 cc2
        have IM := hideG (HIM.out W1 (k + 1) _ BW1.out hit)
        clear hit
        obtain ⟨y0, y1, y2, y3, hy⟩ : ∃ y0 y1 y2 y3, Cli.itemOf (Srv.its (G 1) (k + 1)) (u : Int) = (y0, y1, y2, y3) := ⟨_, _, _, _, rfl⟩
        rw [hy] at IM
        have HYY := hideG (show Srv.boxI G u (k + 1) = (((k + 1 : Nat) : Int), y1, y2, y3) by unfold Srv.boxI; rw [hy])
        obtain ⟨q, hq⟩ : ∃ q : Int, q = ((k + 1 : Nat) : Int) := ⟨_, rfl⟩
        rw [← hq] at d1 IM HYY
        have hq' : (k : Int) + 1 = q := by omega
        have HQ := hideG hq'
        clear hy hq hq'
        go_wp2_with fail
        refine IM.out.mono ?_
        rintro e w2 ⟨rfl, hb2⟩
        have s2 := hb2.size
        have B2 := hideG (BA.out.trans (hb2.mono BA.out.size))
        have RY2 := hideG ((hb2.block _ szy).trans RY.out)
        clear hb2 d0 d1 d2
        obtain ⟨⟨p0, p1, p2, p3⟩, pf⟩ := cells_four RY2.out
        obtain ⟨W3, hW3⟩ : ∃ W3, W3 = (((w2.setCell ⟨wr.heap.size, 0, none⟩ (.int .i64 y0)).setCell ⟨wr.heap.size, 1, none⟩ (.int .i64 y1)).setCell ⟨wr.heap.size, 2, none⟩ (.int .i64 y2)).setCell ⟨wr.heap.size, 3, none⟩ (.int .i64 y3) := ⟨_, rfl⟩
        have RY3 := hideG (show W3.heap[wr.heap.size]? = some (.cells #[.int .i64 y0, .int .i64 y1, .int .i64 y2, .int .i64 y3] 147 (0, 0)) by rw [hW3]; exact row_four RY2.out _ _ _ _)
        have B3 := hideG (show Below wr.heap.size wr W3 by
          rw [hW3]
          exact (((B2.out.setCell (p := ⟨wr.heap.size, 0, none⟩) (Nat.le_refl _) _).setCell (p := ⟨wr.heap.size, 1, none⟩) (Nat.le_refl _) _).setCell (p := ⟨wr.heap.size, 2, none⟩) (Nat.le_refl _) _).setCell (p := ⟨wr.heap.size, 3, none⟩) (Nat.le_refl _) _)
        have HW3 := hideG hW3
        clear hW3
        go_upto_region 12 with fail
        rw [← HW3.out]
        clear p0 p1 p2 p3 pf
        obtain ⟨⟨p0, p1, p2, p3⟩, pf⟩ := cells_four RY3.out
        obtain ⟨W4, hW4⟩ : ∃ W4, W4 = W3.setCell ⟨wr.heap.size, 0, none⟩ (.int .i64 ((k : Int) + 1)) := ⟨_, rfl⟩
        have RY4 := hideG (show W4.heap[wr.heap.size]? = some (.cells #[.int .i64 ((k : Int) + 1), .int .i64 y1, .int .i64 y2, .int .i64 y3] 147 (0, 0)) by rw [hW4]; exact heap_setCell_same W3 _ 0 _ _ _ RY3.out)
        have B4 := hideG (show Below wr.heap.size wr W4 by rw [hW4]; exact B3.out.setCell (p := ⟨wr.heap.size, 0, none⟩) (Nat.le_refl _) _)
        have HW4 := hideG hW4
        clear hW4
        go_upto_region 13 with fail
        rw [← HW4.out]
        clear p0 p1 p2 p3 pf
        obtain ⟨⟨p0, p1, p2, p3⟩, pf⟩ := cells_four RY4.out
        have s4 := B4.out.size
        have l2 : w.heap.size + 2 < wr.heap.size := by have := Z0.out; omega
        have F4 := hideG ((B4.out.block _ l2).trans HFF.out)
        have G4 := hideG ((B4.out.block _ (by omega)).trans HFR.out)
        have T4 := hideG (HFT.out.block (B4.out.block _ (by omega)))
        have O4 := hideG (ownsRow_chg (S := fun _ => False) HO.out (Chg.of_below B4.out) (fun _ _ h => h))
        have BB4 := hideG (HB.out.trans (B4.out.mono HB.out.size))
        by_cases q2 : (k : Int) + 1 = (u : Int)
        · have q2' : ((k : Int) + 1 != (u : Int)) = false := by simpa using q2
          have HS2 := hideG (show Srv.boxN G u (k + 1 + 1) = Srv.boxN G u (k + 1) by rw [HSU.out]; unfold Srv.without; rw [decide_eq_false (by omega), Bool.and_false]; simp)
          clear hm q2
          go_wp2_with fail
          go_roundw
          case rel => exact ⟨k + 1, _, by omega, by go_num, F4.out, G4.out, T4.out, by rw [HS2.out]; exact O4.out, BB4.out, by omega⟩
          case measure => simp [intOf]; omega
        · have q2' : ((k : Int) + 1 != (u : Int)) = true := by simpa using q2
          have f2 : W4.cell? ⟨w.heap.size + 2, 2, none⟩ = some (.slice a3 (Srv.boxN G u (k + 1)).length c3) := by rw [cell_of_row W4 (w.heap.size + 2) 2 _ _ (0, 0) F4.out]; rfl
          have ff : ∀ i, W4.frozen? ⟨w.heap.size + 2, i, none⟩ = false := fun i => frozen_of_row W4 (w.heap.size + 2) i _ _ F4.out
          have HS2 := hideG (show Srv.boxN G u (k + 1 + 1) = Srv.boxN G u (k + 1) ++ [Srv.boxI G u (k + 1)] by rw [HSU.out]; unfold Srv.without; rw [hm, decide_eq_true (by omega)]; simp)
          clear hm
          go_wp2_with (at_builtin; refine wpList_append_own _ rfl _ _ 63 rfl W0.heap.size 147 i1 (.agg #[.int .i64 0, .int .i64 0, .int .i64 0, .int .i64 0]) 4 32 Tryz.underlying63 hi1 hy0 hy1 hy2 rfl (by decide) _ _ _ rfl (O4.out.alloc _) ⟨W4.heap.size, 0, none⟩ 1 1 [.int .i64 ((k : Int) + 1), .int .i64 y1, .int .i64 y2, .int .i64 y3] rfl rfl ?c1 ?c2 ?c3 ?c4 ?c5 ?_)
          case c1 => exact cell_four_new _ _ _ _ _ _
          case c2 => intro x hx; simp at hx; rcases hx with rfl | rfl | rfl | rfl <;> rfl
          case c3 => unfold maxLen; omega
          case c4 => omega
          case c5 => simp; omega
          intro v' w5 hown' hgrow' _
          obtain ⟨a5, c5, hv5⟩ := owns_form hown'
          subst hv5
          have hlow := fun x (hx : (Value.slice a3 (Srv.boxN G u (k + 1)).length c3).ownBlock = some x) => (O4.out.lt x hx).1
          have hal : Below W4.heap.size W4 (W4.alloc (.cells #[.int .i64 ((k : Int) + 1), .int .i64 y1, .int .i64 y2, .int .i64 y3] 147)) := (Below.refl _ _).alloc (Nat.le_refl _) _
          have hbk : ∀ x, x ≤ w.heap.size + 2 → w5.heap[x]? = W4.heap[x]? := fun x hx => (hgrow'.block x (by simp; omega) (fun e => by have := hlow x e.symm; have := Z0.out; omega)).trans (hal.block x (by omega))
          have BB5 := hideG ((BB4.out.alloc (by omega) _).grown hgrow' (by simp; omega) (fun y hy => by have := hlow y hy; have := Z0.out; omega))
          have F5 := hideG ((hbk _ (Nat.le_refl _)).trans F4.out)
          have G5 := hideG ((hbk _ (by omega)).trans G4.out)
          have T5 := hideG (T4.out.block (hbk _ (by omega)))
          have O5 := hideG (show w5.ownsRow W0.heap.size 147 4 (.slice a5 ((Srv.boxN G u (k + 1)).length + 1) c5) (Srv.boxN G u (k + 1 + 1)).length (flat4 (Srv.boxN G u (k + 1 + 1))) by
            rw [HS2.out, flat4_append, List.length_append, HYY.out, ← HQ.out]; exact hown')
          have s5 := hgrow'.size
          have l5 : W0.heap.size ≤ w5.heap.size := by simp at s5; omega
          clear hown' hgrow' hlow hal hbk f2 ff p0 p1 p2 p3 pf
          have f0 : (w5.cell? ⟨w.heap.size + 2, 2, none⟩) = some (.slice a3 (Srv.boxN G u (k + 1)).length c3) := by rw [cell_of_row w5 (w.heap.size + 2) 2 _ _ (0, 0) F5.out]; rfl
          have ff : ∀ i, w5.frozen? ⟨w.heap.size + 2, i, none⟩ = false := fun i => frozen_of_row w5 (w.heap.size + 2) i _ _ F5.out
          have c6 : Chg (fun x => x = w.heap.size + 2) w5 (w5.setCell ⟨w.heap.size + 2, 2, none⟩ (.slice a5 ((Srv.boxN G u (k + 1)).length + 1) c5)) := Chg.setCell w5 ⟨w.heap.size + 2, 2, none⟩ _
          have FIN := hideG (show (w5.setCell ⟨w.heap.size + 2, 2, none⟩ (.slice a5 ((Srv.boxN G u (k + 1)).length + 1) c5)).heap[w.heap.size + 2]? = some (.cells #[.int .i64 4, .int .i64 0, .slice a5 ((Srv.boxN G u (k + 1)).length + 1) c5] 65 (0, 0)) ∧ (w5.setCell ⟨w.heap.size + 2, 2, none⟩ (.slice a5 ((Srv.boxN G u (k + 1)).length + 1) c5)).heap[w.heap.size + 1]? = some (.cells #[.int .i64 0, .int .i64 0, .slice none 0 0] 65 (0, 0)) ∧ FRow (w5.setCell ⟨w.heap.size + 2, 2, none⟩ (.slice a5 ((Srv.boxN G u (k + 1)).length + 1) c5)) w.heap.size 238 156 (cellF H) ∧ (w5.setCell ⟨w.heap.size + 2, 2, none⟩ (.slice a5 ((Srv.boxN G u (k + 1)).length + 1) c5)).ownsRow W0.heap.size 147 4 (.slice a5 ((Srv.boxN G u (k + 1)).length + 1) c5) (Srv.boxN G u (k + 1 + 1)).length (flat4 (Srv.boxN G u (k + 1 + 1))) ∧ Below w.heap.size w (w5.setCell ⟨w.heap.size + 2, 2, none⟩ (.slice a5 ((Srv.boxN G u (k + 1)).length + 1) c5)) from
            ⟨heap_setCell_same w5 _ 2 _ _ _ F5.out, (Below.heap_setCell _ _ _ _ (by simp)).trans G5.out, T5.out.block (Below.heap_setCell _ _ _ _ (by simp)), ownsRow_chg O5.out c6 (fun x hx e => by have := (O5.out.lt x hx).1; have := Z0.out; omega), BB5.out.setCell (p := ⟨w.heap.size + 2, 2, none⟩) (by show w.heap.size ≤ w.heap.size + 2; omega) _⟩)
          clear c6
          go_wp2_with fail
          go_roundw
          case rel => exact ⟨k + 1, _, by omega, by go_num, FIN.out.1, FIN.out.2.1, FIN.out.2.2.1, FIN.out.2.2.2.1, FIN.out.2.2.2.2, by simp; omega⟩
          case measure => simp [intOf]; omega
    · have ek : k = 12 := by omega
      subst ek
      clear hff hfr hft hown hbel
      have l2 : w.heap.size + 2 < wr.heap.size := by have := Z0.out; omega
      have g0 : wr.cell? ⟨w.heap.size + 2, 0, none⟩ = some (.int .i64 4) := by rw [cell_of_row wr (w.heap.size + 2) 0 _ _ (0, 0) HFF.out]; rfl
      have g1 : wr.cell? ⟨w.heap.size + 2, 1, none⟩ = some (.int .i64 0) := by rw [cell_of_row wr (w.heap.size + 2) 1 _ _ (0, 0) HFF.out]; rfl
      have g2 : wr.cell? ⟨w.heap.size + 2, 2, none⟩ = some (.slice a3 (Srv.boxN G u (12 + 1)).length c3) := by rw [cell_of_row wr (w.heap.size + 2) 2 _ _ (0, 0) HFF.out]; rfl
      have r0 : wr.cell? ⟨w.heap.size + 1, 0, none⟩ = some (.int .i64 0) := by rw [cell_of_row wr (w.heap.size + 1) 0 _ _ (0, 0) HFR.out]; rfl
      have r1 : wr.cell? ⟨w.heap.size + 1, 1, none⟩ = some (.int .i64 0) := by rw [cell_of_row wr (w.heap.size + 1) 1 _ _ (0, 0) HFR.out]; rfl
      have r2 : wr.cell? ⟨w.heap.size + 1, 2, none⟩ = some (.slice none 0 0) := by rw [cell_of_row wr (w.heap.size + 1) 2 _ _ (0, 0) HFR.out]; rfl
      have rf : ∀ i, wr.frozen? ⟨w.heap.size + 1, i, none⟩ = false := fun i => frozen_of_row wr (w.heap.size + 1) i _ _ HFR.out
      have E1 := hideG (row_three HFR.out (.int .i64 4) (.int .i64 0) (.slice a3 (Srv.boxN G u (12 + 1)).length c3))
      have E2 := hideG (below_three HB.out (Nat.le_succ w.heap.size) (.int .i64 4) (.int .i64 0) (.slice a3 (Srv.boxN G u (12 + 1)).length c3))
      have E3 := hideG (ownsRow_base (ownsRow_chg HO.out (chg_three wr (w.heap.size + 1) (.int .i64 4) (.int .i64 0) (.slice a3 (Srv.boxN G u (12 + 1)).length c3)) (fun x hx e => by have := (HO.out.lt x hx).1; have := Z0.out; omega)) (show w.heap.size ≤ W0.heap.size by have := Z0.out; omega))
      go_wp2_with fail
      refine bodyPost_ret (results_cell_row rfl _ _ (w.heap.size + 1) 65 #[.int .i64 4, .int .i64 0, _] (0, 0) _ rfl E1.out Tryz.underlying65 rfl size_frame3) rfl ?_
      exact ⟨_, rfl, E3.out, E2.out⟩

set_option maxHeartbeats 4000000 in
set_option maxRecDepth 100000 in
theorem rsends_2 (H : Nat → RF) (G : Srv.Tab) (u : Nat) (w : World) (hH : HTab w H G) (hz : ∀ r, G r 0 = none) :
    Calls Tryz.prog 243 #[.agg (tabL H).toArray, .int .i64 2, .int .i64 (u : Int)] w fun e w' => ∃ va, e = .returned (.agg #[.int .i64 6, .int .i64 0, va]) ∧ w'.ownsRow w.heap.size 147 4 va (Srv.askN G 13).length (flat4 (Srv.askN G 13)) ∧ Below w.heap.size w w' := by
  obtain ⟨i1, hi1, hy0, hy1, hy2⟩ := info_parts infoIt
  have HVW := hideG (fun x hx => hH.view (r := 2) (by omega) (u := x) hx)
  have H0 := hideG (show Srv.askN G 1 = [] by rw [Srv.askN_succ]; unfold Srv.mem; rw [hz 2]; rfl)
  have HLN := hideG (show ∀ n, (Srv.askN G n).length ≤ n from fun n => by unfold Srv.askN; rw [List.length_map]; exact Srv.lstN_le _ _)
  have HS := hideG (Srv.askN_succ G)
  clear hH hz
  obtain ⟨X, hX⟩ : ∃ X, X = tabL H := ⟨_, rfl⟩
  obtain ⟨W0, hW0⟩ : ∃ W0, W0 = ((w.alloc (.cells X.toArray 238)).alloc (.cells #[.int .i64 0, .int .i64 0, .slice none 0 0] 65)).alloc (.cells #[.int .i64 6, .int .i64 0, .slice none 0 0] 65) := ⟨_, rfl⟩
  have z0 : W0.heap.size = w.heap.size + 3 := by rw [hW0]; simp
  have FT := hideG (show FRow W0 w.heap.size 238 156 (cellF H) by
    rw [hW0, hX]
    have k : Below (w.heap.size + 1) (w.alloc (.cells (tabL H).toArray 238)) (((w.alloc (.cells (tabL H).toArray 238)).alloc (.cells #[.int .i64 0, .int .i64 0, .slice none 0 0] 65)).alloc (.cells #[.int .i64 6, .int .i64 0, .slice none 0 0] 65)) := ((Below.refl _ _).alloc (by simp) _).alloc (by simp) _
    exact (tab_new w H).block (k.block _ (by omega)))
  have FR := hideG (show W0.heap[w.heap.size + 1]? = some (.cells #[.int .i64 0, .int .i64 0, .slice none 0 0] 65 (0, 0)) by
    rw [hW0]
    have := heap_alloc2_old (w.alloc (.cells X.toArray 238)) (.cells #[.int .i64 0, .int .i64 0, .slice none 0 0] 65) (.cells #[.int .i64 6, .int .i64 0, .slice none 0 0] 65)
    simp only [World.size_alloc] at this
    exact this)
  have FF := hideG (show W0.heap[w.heap.size + 2]? = some (.cells #[.int .i64 6, .int .i64 0, .slice none 0 0] 65 (0, 0)) by
    rw [hW0]
    have := heap_alloc2_new (w.alloc (.cells X.toArray 238)) (.cells #[.int .i64 0, .int .i64 0, .slice none 0 0] 65) (.cells #[.int .i64 6, .int .i64 0, .slice none 0 0] 65)
    simp only [World.size_alloc] at this
    exact this)
  have B0 := hideG (show Below w.heap.size w W0 by rw [hW0]; exact (((Below.refl _ _).alloc (Nat.le_refl _) _).alloc (by simp) _).alloc (by simp; omega) _)
  have HW0 := hideG hW0
  rw [← hX]
  clear hX hW0
  have Z0 := hideG z0
  clear z0
  go_enter Tryz.func243, Tryz.ntmps243
  go_wp2_with fail
  rw [← HW0.out]
  go_loopw [8] (fun i wr => ∃ (k : Nat) (ro : Value), k ≤ 12 ∧ i = .int .i64 ((k : Int) + 1) ∧ wr.heap[w.heap.size + 2]? = some (.cells #[.int .i64 6, .int .i64 0, ro] 65 (0, 0)) ∧ wr.heap[w.heap.size + 1]? = some (.cells #[.int .i64 0, .int .i64 0, .slice none 0 0] 65 (0, 0)) ∧ FRow wr w.heap.size 238 156 (cellF H) ∧ wr.ownsRow W0.heap.size 147 4 ro (Srv.askN G (k + 1)).length (flat4 (Srv.askN G (k + 1))) ∧ Below w.heap.size w wr ∧ W0.heap.size ≤ wr.heap.size) (fun i _ => 13 - (intOf i).toNat)
  case atStart => exact ⟨0, _, by omega, rfl, FF.out, FR.out, FT.out, by rw [H0.out]; exact World.ownsRow_nil _ _ _ _, B0.out, Nat.le_refl _⟩
  case round =>
    obtain ⟨k, ro, hk, rfl, hff, hfr, hft, hown, hbel, hsz⟩ := hrel
    have HFF := hideG hff
    have HFR := hideG hfr
    have HFT := hideG hft
    have HO := hideG hown
    have HB := hideG hbel
    obtain ⟨a3, c3, hv3⟩ := owns_form hown
    subst hv3
    have hl13 := HLN.out (k + 1)
    have HSU := hideG (HS.out (k + 1))
    by_cases hlt : k < 12
    · have hlt' : (k : Int) + 1 ≤ 12 := by omega
      have hk13 : (k : Int) + 1 < 13 := by omega
      obtain ⟨cc0, cc1, cc2⟩ := cells_frame hft (2 * 13 + (k + 1)) (78 + (k + 1) * 3) (by omega) (by omega)
      clear hff hfr hft hown hbel
      rcases HVW.out (k + 1) (by omega) with ⟨hm, hh⟩ | ⟨hm, fa, fn, fc, hh, hit⟩
      · rw [hh] at cc0 cc1 cc2
        have HS2 := hideG (show Srv.askN G (k + 1 + 1) = Srv.askN G (k + 1) by rw [HSU.out]; rw [hm]; simp)
        change wr.cell? _ = some (.int .i64 0) at cc0
        clear hh hm cc1 cc2
        go_wp2_with fail
        go_roundw
        case rel => exact ⟨k + 1, _, by omega, by go_num, HFF.out, HFR.out, HFT.out, by rw [HS2.out]; exact HO.out, HB.out, hsz⟩
        case measure => simp [intOf]; omega
      · rw [hh] at cc0 cc1 cc2
        change wr.cell? _ = some (.int .i64 5) at cc0
        change wr.cell? _ = some (.int .i64 ((k + 1 : Nat) : Int)) at cc1
        change wr.cell? _ = some (.slice fa fn fc) at cc2
        obtain ⟨W1, hW1⟩ : ∃ W1, W1 = wr.alloc (.cells #[.int .i64 0, .int .i64 0, .int .i64 0, .int .i64 0] 147) := ⟨_, rfl⟩
        have bA : Below wr.heap.size wr W1 := by rw [hW1]; exact (Below.refl _ _).alloc (Nat.le_refl _) _
        have RY := hideG (show W1.heap[wr.heap.size]? = some (.cells #[.int .i64 0, .int .i64 0, .int .i64 0, .int .i64 0] 147 (0, 0)) by rw [hW1]; exact heap_alloc_new wr _)
        have szy : wr.heap.size < W1.heap.size := by rw [hW1]; simp
        have BA := hideG bA
        have HW1 := hideG hW1
        have BW1 := hideG (HB.out.trans (bA.mono HB.out.size))
        have ltb : w.heap.size < wr.heap.size := HFT.out.lt
        have d0 := (bA.cell (p := ⟨w.heap.size, 78 + (k + 1) * 3, none⟩) ltb).trans cc0
        have d1 := (bA.cell (p := ⟨w.heap.size, 78 + (k + 1) * 3 + 1, none⟩) ltb).trans cc1
        have d2 := (bA.cell (p := ⟨w.heap.size, 78 + (k + 1) * 3 + 2, none⟩) ltb).trans cc2
        clear hh hW1 bA
        go_upto_region 7 with fail
        rw [← HW1.out]
        clear cc0 cc1 cc2
        have HYY := hideG (show Srv.askI (k + 1) = (((k + 1 : Nat) : Int), 0, 0, 0) from rfl)
        obtain ⟨q, hq⟩ : ∃ q : Int, q = ((k + 1 : Nat) : Int) := ⟨_, rfl⟩
        rw [← hq] at d1 HYY
        have hq' : (k : Int) + 1 = q := by omega
        have HQ := hideG hq'
        clear hq hq'
        go_upto_region 12 with fail
        clear d0 d1 d2
        obtain ⟨⟨p0, p1, p2, p3⟩, pf⟩ := cells_four RY.out
        obtain ⟨W4, hW4⟩ : ∃ W4, W4 = W1.setCell ⟨wr.heap.size, 0, none⟩ (.int .i64 ((k : Int) + 1)) := ⟨_, rfl⟩
        have RY4 := hideG (show W4.heap[wr.heap.size]? = some (.cells #[.int .i64 ((k : Int) + 1), .int .i64 0, .int .i64 0, .int .i64 0] 147 (0, 0)) by rw [hW4]; exact heap_setCell_same W1 _ 0 _ _ _ RY.out)
        have B4 := hideG (show Below wr.heap.size wr W4 by rw [hW4]; exact BA.out.setCell (p := ⟨wr.heap.size, 0, none⟩) (Nat.le_refl _) _)
        have HW4 := hideG hW4
        clear hW4
        go_upto_region 13 with fail
        rw [← HW4.out]
        clear p0 p1 p2 p3 pf
        obtain ⟨⟨p0, p1, p2, p3⟩, pf⟩ := cells_four RY4.out
        have s4 := B4.out.size
        have l2 : w.heap.size + 2 < wr.heap.size := by have := Z0.out; omega
        have F4 := hideG ((B4.out.block _ l2).trans HFF.out)
        have G4 := hideG ((B4.out.block _ (by omega)).trans HFR.out)
        have T4 := hideG (HFT.out.block (B4.out.block _ (by omega)))
        have O4 := hideG (ownsRow_chg (S := fun _ => False) HO.out (Chg.of_below B4.out) (fun _ _ h => h))
        have BB4 := hideG (HB.out.trans (B4.out.mono HB.out.size))
        have f2 : W4.cell? ⟨w.heap.size + 2, 2, none⟩ = some (.slice a3 (Srv.askN G (k + 1)).length c3) := by rw [cell_of_row W4 (w.heap.size + 2) 2 _ _ (0, 0) F4.out]; rfl
        have ff : ∀ i, W4.frozen? ⟨w.heap.size + 2, i, none⟩ = false := fun i => frozen_of_row W4 (w.heap.size + 2) i _ _ F4.out
        have HS2 := hideG (show Srv.askN G (k + 1 + 1) = Srv.askN G (k + 1) ++ [Srv.askI (k + 1)] by rw [HSU.out]; rw [hm]; simp)
        clear hm
        go_wp2_with (at_builtin; refine wpList_append_own _ rfl _ _ 63 rfl W0.heap.size 147 i1 (.agg #[.int .i64 0, .int .i64 0, .int .i64 0, .int .i64 0]) 4 32 Tryz.underlying63 hi1 hy0 hy1 hy2 rfl (by decide) _ _ _ rfl (O4.out.alloc _) ⟨W4.heap.size, 0, none⟩ 1 1 [.int .i64 ((k : Int) + 1), .int .i64 0, .int .i64 0, .int .i64 0] rfl rfl ?c1 ?c2 ?c3 ?c4 ?c5 ?_)
        case c1 => exact cell_four_new _ _ _ _ _ _
        case c2 => intro x hx; simp at hx; rcases hx with rfl | rfl <;> rfl
        case c3 => unfold maxLen; omega
        case c4 => omega
        case c5 => simp; omega
        intro v' w5 hown' hgrow' _
        obtain ⟨a5, c5, hv5⟩ := owns_form hown'
        subst hv5
        have hlow := fun x (hx : (Value.slice a3 (Srv.askN G (k + 1)).length c3).ownBlock = some x) => (O4.out.lt x hx).1
        have hal : Below W4.heap.size W4 (W4.alloc (.cells #[.int .i64 ((k : Int) + 1), .int .i64 0, .int .i64 0, .int .i64 0] 147)) := (Below.refl _ _).alloc (Nat.le_refl _) _
        have hbk : ∀ x, x ≤ w.heap.size + 2 → w5.heap[x]? = W4.heap[x]? := fun x hx => (hgrow'.block x (by simp; omega) (fun e => by have := hlow x e.symm; have := Z0.out; omega)).trans (hal.block x (by omega))
        have BB5 := hideG ((BB4.out.alloc (by omega) _).grown hgrow' (by simp; omega) (fun y hy => by have := hlow y hy; have := Z0.out; omega))
        have F5 := hideG ((hbk _ (Nat.le_refl _)).trans F4.out)
        have G5 := hideG ((hbk _ (by omega)).trans G4.out)
        have T5 := hideG (T4.out.block (hbk _ (by omega)))
        have O5 := hideG (show w5.ownsRow W0.heap.size 147 4 (.slice a5 ((Srv.askN G (k + 1)).length + 1) c5) (Srv.askN G (k + 1 + 1)).length (flat4 (Srv.askN G (k + 1 + 1))) by
          rw [HS2.out, flat4_append, List.length_append, HYY.out, ← HQ.out]; exact hown')
        have s5 := hgrow'.size
        have l5 : W0.heap.size ≤ w5.heap.size := by simp at s5; omega
        clear hown' hgrow' hlow hal hbk f2 ff p0 p1 p2 p3 pf
        have f0 : (w5.cell? ⟨w.heap.size + 2, 2, none⟩) = some (.slice a3 (Srv.askN G (k + 1)).length c3) := by rw [cell_of_row w5 (w.heap.size + 2) 2 _ _ (0, 0) F5.out]; rfl
        have ff : ∀ i, w5.frozen? ⟨w.heap.size + 2, i, none⟩ = false := fun i => frozen_of_row w5 (w.heap.size + 2) i _ _ F5.out
        have c6 : Chg (fun x => x = w.heap.size + 2) w5 (w5.setCell ⟨w.heap.size + 2, 2, none⟩ (.slice a5 ((Srv.askN G (k + 1)).length + 1) c5)) := Chg.setCell w5 ⟨w.heap.size + 2, 2, none⟩ _
        have FIN := hideG (show (w5.setCell ⟨w.heap.size + 2, 2, none⟩ (.slice a5 ((Srv.askN G (k + 1)).length + 1) c5)).heap[w.heap.size + 2]? = some (.cells #[.int .i64 6, .int .i64 0, .slice a5 ((Srv.askN G (k + 1)).length + 1) c5] 65 (0, 0)) ∧ (w5.setCell ⟨w.heap.size + 2, 2, none⟩ (.slice a5 ((Srv.askN G (k + 1)).length + 1) c5)).heap[w.heap.size + 1]? = some (.cells #[.int .i64 0, .int .i64 0, .slice none 0 0] 65 (0, 0)) ∧ FRow (w5.setCell ⟨w.heap.size + 2, 2, none⟩ (.slice a5 ((Srv.askN G (k + 1)).length + 1) c5)) w.heap.size 238 156 (cellF H) ∧ (w5.setCell ⟨w.heap.size + 2, 2, none⟩ (.slice a5 ((Srv.askN G (k + 1)).length + 1) c5)).ownsRow W0.heap.size 147 4 (.slice a5 ((Srv.askN G (k + 1)).length + 1) c5) (Srv.askN G (k + 1 + 1)).length (flat4 (Srv.askN G (k + 1 + 1))) ∧ Below w.heap.size w (w5.setCell ⟨w.heap.size + 2, 2, none⟩ (.slice a5 ((Srv.askN G (k + 1)).length + 1) c5)) from
          ⟨heap_setCell_same w5 _ 2 _ _ _ F5.out, (Below.heap_setCell _ _ _ _ (by simp)).trans G5.out, T5.out.block (Below.heap_setCell _ _ _ _ (by simp)), ownsRow_chg O5.out c6 (fun x hx e => by have := (O5.out.lt x hx).1; have := Z0.out; omega), BB5.out.setCell (p := ⟨w.heap.size + 2, 2, none⟩) (by show w.heap.size ≤ w.heap.size + 2; omega) _⟩)
        clear c6
        go_wp2_with fail
        go_roundw
        case rel => exact ⟨k + 1, _, by omega, by go_num, FIN.out.1, FIN.out.2.1, FIN.out.2.2.1, FIN.out.2.2.2.1, FIN.out.2.2.2.2, by simp; omega⟩
        case measure => simp [intOf]; omega
    · have ek : k = 12 := by omega
      subst ek
      clear hff hfr hft hown hbel
      have l2 : w.heap.size + 2 < wr.heap.size := by have := Z0.out; omega
      have g0 : wr.cell? ⟨w.heap.size + 2, 0, none⟩ = some (.int .i64 6) := by rw [cell_of_row wr (w.heap.size + 2) 0 _ _ (0, 0) HFF.out]; rfl
      have g1 : wr.cell? ⟨w.heap.size + 2, 1, none⟩ = some (.int .i64 0) := by rw [cell_of_row wr (w.heap.size + 2) 1 _ _ (0, 0) HFF.out]; rfl
      have g2 : wr.cell? ⟨w.heap.size + 2, 2, none⟩ = some (.slice a3 (Srv.askN G (12 + 1)).length c3) := by rw [cell_of_row wr (w.heap.size + 2) 2 _ _ (0, 0) HFF.out]; rfl
      have r0 : wr.cell? ⟨w.heap.size + 1, 0, none⟩ = some (.int .i64 0) := by rw [cell_of_row wr (w.heap.size + 1) 0 _ _ (0, 0) HFR.out]; rfl
      have r1 : wr.cell? ⟨w.heap.size + 1, 1, none⟩ = some (.int .i64 0) := by rw [cell_of_row wr (w.heap.size + 1) 1 _ _ (0, 0) HFR.out]; rfl
      have r2 : wr.cell? ⟨w.heap.size + 1, 2, none⟩ = some (.slice none 0 0) := by rw [cell_of_row wr (w.heap.size + 1) 2 _ _ (0, 0) HFR.out]; rfl
      have rf : ∀ i, wr.frozen? ⟨w.heap.size + 1, i, none⟩ = false := fun i => frozen_of_row wr (w.heap.size + 1) i _ _ HFR.out
      have E1 := hideG (row_three HFR.out (.int .i64 6) (.int .i64 0) (.slice a3 (Srv.askN G (12 + 1)).length c3))
      have E2 := hideG (below_three HB.out (Nat.le_succ w.heap.size) (.int .i64 6) (.int .i64 0) (.slice a3 (Srv.askN G (12 + 1)).length c3))
      have E3 := hideG (ownsRow_base (ownsRow_chg HO.out (chg_three wr (w.heap.size + 1) (.int .i64 6) (.int .i64 0) (.slice a3 (Srv.askN G (12 + 1)).length c3)) (fun x hx e => by have := (HO.out.lt x hx).1; have := Z0.out; omega)) (show w.heap.size ≤ W0.heap.size by have := Z0.out; omega))
      go_wp2_with fail
      refine bodyPost_ret (results_cell_row rfl _ _ (w.heap.size + 1) 65 #[.int .i64 6, .int .i64 0, _] (0, 0) _ rfl E1.out Tryz.underlying65 rfl size_frame3) rfl ?_
      exact ⟨_, rfl, E3.out, E2.out⟩

end Go.Proofs.YtchideljndagjabGreat
