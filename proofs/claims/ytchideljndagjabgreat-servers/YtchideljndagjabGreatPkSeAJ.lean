/- Contract of veilref's Encode. -/
import Derived.Test.YtchideljndagjabGreatPkSeAC
import Derived.Test.YtchideljndagjabGreatPkSeAI
import Derived.Test.YtchideljndagjabGreatPkSeAH
import Derived.Test.YtchideljndagjabGreatPkSeAG
import Derived.Laws.MakeOwn
import Derived.Deep.CutRange
import Derived.Test.YtchideljndagjabGreatPkSeAF
import Derived.Deep.Upon
import Derived.WalkSpells
import Derived.RegionTactic
import Derived.BigRegion
import Derived.Test.YtchideljndagjabGreatPkSeAE
import Derived.Deep.RegionHeld3
import Derived.Test.YtchideljndagjabGreatPkSeAA
namespace Go.Proofs.YtchideljndagjabGreat
open Go.ChangeShapes Go.WideShapes Go.ChangeAt Go.RowKit
set_option linter.unusedVariables false

theorem rencode_no (k fr : Int) (v : Value) (l : List Frm.It) (w : World) (h : ItemsAt w v l) (ho : Frm.okF k fr l = false) :
    Calls Tryz.prog 92 #[.agg #[.int .i64 k, .int .i64 fr, v]] w fun e w' => e = .returned (.tuple #[.slice none 0 0, .int .i64 4]) ∧ Below w.heap.size w w' := by
  have HM := hideG (fun (w1 : World) (hb : Below w.heap.size w w1) => rframe_calls k fr v l w1 (h.below hb))
  have HO := hideG ho
  clear h ho
  go_enter Tryz.func92, Tryz.ntmps92
  go_wp2_with fail
  refine (HM.out _ (by go_grown)).mono ?_
  rintro e w1 ⟨rfl, hb1⟩
  rw [HO.out]
  have B1 := hideG hb1
  clear hb1
  go_wp2_with fail
  go_ret2
  exact ⟨rfl, ((Below.refl _ _).alloc (Nat.le_refl _) _).trans (B1.out.mono (by simp))⟩

set_option maxHeartbeats 1000000 in
set_option maxRecDepth 100000 in
theorem rencode_yes (k fr : Int) (v : Value) (l : List Frm.It) (w : World) (h : ItemsAt w v l) (ho : Frm.okF k fr l = true) :
    Calls Tryz.prog 92 #[.agg #[.int .i64 k, .int .i64 fr, v]] w fun e w' => ∃ va, e = .returned (.tuple #[va, .int .i64 0]) ∧ w'.ownsRow w.heap.size 5 1 va (Frm.encF k fr l).length ((Frm.encF k fr l).map (Value.int .u8)) ∧ Below w.heap.size w w' := by
  obtain ⟨i0, hi, hz0, hz1, hz2⟩ := info_parts infoU8
  have HM := hideG (fun (w1 : World) (hb : Below w.heap.size w w1) => rframe_calls k fr v l w1 (h.below hb))
  obtain ⟨o1, o2, o3, o4, o5, o6⟩ := Frm.okF_bounds ho
  have HO := hideG ho
  have HI := hideG o6
  obtain ⟨a, cap, rfl, l2, l3, _, hc⟩ := items_view h
  have HC := hideG hc
  clear h ho o6 hc
  obtain ⟨n, hn⟩ : ∃ n, n = l.length := ⟨_, rfl⟩
  rw [← hn] at l2 HM o1 HI HC ⊢
  have HN := hideG hn
  clear hn
  obtain ⟨bx, hbx⟩ : ∃ bx, bx = w.alloc (.cells #[.int .i64 k, .int .i64 fr, .slice a n cap] 65) := ⟨_, rfl⟩
  have sbx : bx.heap.size = w.heap.size + 1 := by rw [hbx]; simp
  have CB := hideG (show ∀ w1, Below bx.heap.size bx w1 → w1.cell? ⟨w.heap.size, 0, none⟩ = some (.int .i64 k) ∧ w1.cell? ⟨w.heap.size, 1, none⟩ = some (.int .i64 fr) ∧ w1.cell? ⟨w.heap.size, 2, none⟩ = some (.slice a n cap) from fun w1 hb => by
    have hlt : w.heap.size < bx.heap.size := by omega
    rw [hb.cell (p := ⟨w.heap.size, 0, none⟩) hlt, hb.cell (p := ⟨w.heap.size, 1, none⟩) hlt, hb.cell (p := ⟨w.heap.size, 2, none⟩) hlt, hbx]
    refine ⟨?_, ?_, ?_⟩ <;> simp [go_sem])
  have BX := hideG (show Below w.heap.size w bx by rw [hbx]; exact (Below.refl _ _).alloc (Nat.le_refl _) _)
  obtain ⟨e0, e1, e2⟩ := CB.out bx (Below.refl _ _)
  go_enter Tryz.func92, Tryz.ntmps92
  go_wp2_with fail
  rw [← hbx]
  clear hbx
  refine (HM.out _ BX.out).mono ?_
  rintro e wc ⟨rfl, hb1⟩
  rw [HO.out]
  have s2 := hb1.size
  obtain ⟨f0, f1, f2⟩ := CB.out wc hb1
  have hs := Frm.wid_le k
  have hS : (Frm.size k : Int) = 1 + 8 * (Frm.wid k : Int) := by unfold Frm.size; omega
  obtain ⟨S, hSS⟩ : ∃ S, S = Frm.size k := ⟨_, rfl⟩
  rw [← hSS] at hS
  have HSS := hideG hSS
  have s25 : S ≤ 25 := by omega
  clear hs hS hSS e0 e1 e2
  obtain ⟨B, hB⟩ : ∃ B, B = w.heap.size + 1 := ⟨_, rfl⟩
  have B2 := hideG (show Below B bx wc by rw [hB, ← sbx]; exact hb1)
  rw [← hB] at sbx
  have HBx : B ≤ bx.heap.size := by omega
  have hwB : w.heap.size < B := by omega
  have hwB2 : B ≤ w.heap.size + 1 := by omega
  clear hB hb1
  have W2 := hideG (show (wc.alloc (.cells #[.int .u8 k, .int .u8 fr, .int .u8 (n : Int)] 5)).ownsRow B 5 1 (.slice (some ⟨wc.heap.size, 0, none⟩) 3 3) (3 + 0 * S) ((preB k fr l 0).map (Value.int .u8)) by
    rw [Nat.zero_mul]
    unfold preB
    rw [← HN.out]
    exact ⟨rfl, .inr ⟨wc.heap.size, 3, #[.int .u8 k, .int .u8 fr, .int .u8 (n : Int)], rfl, by omega, heap_alloc_new wc _, by omega, by unfold maxLen; omega, rfl, rfl⟩⟩)
  have B3 := hideG (show Below B bx (wc.alloc (.cells #[.int .u8 k, .int .u8 fr, .int .u8 (n : Int)] 5)) from B2.out.alloc (by omega) _)
  go_wp2_with fail
  go_loopw [5, 6] (fun v i wr => ∃ j : Nat, j ≤ n ∧ i = .int .i64 j ∧ wr.ownsRow B 5 1 v (3 + j * S) ((preB k fr l j).map (Value.int .u8)) ∧ Below B bx wr) (fun _ i _ => n - (intOf i).toNat)
  case atStart => exact ⟨0, Nat.zero_le _, rfl, W2.out, B3.out⟩
  case round =>
    clear f0 f1 f2 W2 B3 s2 B2
    obtain ⟨j, hj, rfl, hown, hbel⟩ := hrel
    have s2 := hbel.size
    obtain ⟨f0, f1, f2⟩ := CB.out wr (by rw [sbx]; exact hbel)
    have OW := hideG hown
    have B2 := hideG hbel
    by_cases hlt : j < n
    · obtain ⟨b, off, rfl, hb, hit0⟩ := HC.out j hlt
      have hit := hit0.below hb (BX.out.trans (hbel.mono (by omega)))
      obtain ⟨c0, c1, c2, c3⟩ := hit
      have hid := HI.out j hlt
      obtain ⟨x, hx⟩ : ∃ x, x = Frm.it l j := ⟨_, rfl⟩
      have HX := hideG hx
      have HOK := hideG (show Frm.okI k x = true by rw [hx]; exact (Frm.okF_parts HO.out).2.2.2.2 j (by rw [← HN.out]; exact hlt))
      rw [← hx] at c0 c1 c2 c3 hid hit0
      have jS : j * S + S ≤ 300 := by
        have := Nat.mul_le_mul (show j + 1 ≤ 12 by omega) s25
        rw [Nat.add_mul] at this; omega
      clear hown hbel hx
      obtain ⟨J, hJ⟩ : ∃ J, J = 3 + j * S := ⟨_, rfl⟩
      rw [← hJ] at OW
      have HJ := hideG hJ
      have J1 : J ≤ 303 := by omega
      clear hJ jS
      obtain ⟨xi, xa, xb, xc⟩ := x
      simp only at c0 c1 c2 c3 hid
      have HIT0 := hideG hit0
      clear hit0
      go_wp2_with (at_builtin; refine wpList_append_one _ rfl _ _ 47 rfl B 5 i0 (.int .u8 0) 1 Tryz.underlying47 hi hz0 hz1 hz2 rfl _ _ _ rfl (OW.out.alloc _) ⟨wr.heap.size, 0, none⟩ 1 (.int .u8 xi) rfl (by simp [go_sem]) rfl (by unfold maxLen; omega) (by omega) (by simp; omega) ?_)
      intro gA capA wA hoA hgA hvA
      have hbA := (B2.out.alloc (by omega) _).grown hgA (by simp; omega) (fun y hy => (OW.out.lt y hy).1)
      have zA := hgA.size
      simp at zA
      obtain ⟨g0, g1, g2⟩ := CB.out wA (by rw [sbx]; exact hbA)
      have hitA := HIT0.out.below hb (BX.out.trans (hbA.mono (by omega)))
      obtain ⟨d0, d1, d2, d3⟩ := hitA
      simp only at d0 d1 d2 d3
      have hbA2 : b < wA.heap.size := by omega
      have hwA2 : w.heap.size < wA.heap.size := by omega
      have OA := hideG hoA
      have BA := hideG hbA
      clear hoA hgA hvA hbA f0 f1 f2 c0 c1 c2 c3
      go_wp2_with fail
      go_cut [7] from 42 to 49 (fun s wN => ∃ aN, s = .slice aN (Frm.wid k) (Frm.wid k) ∧ (0 < Frm.wid k → ∃ g, aN = some ⟨g, 0, none⟩ ∧ wA.heap.size ≤ g ∧ g < wN.heap.size ∧ ∀ i, i < Frm.wid k → wN.cell? ⟨g, i, none⟩ = some (.int .i64 ((Frm.nums k (xi, xa, xb, xc)).getD i 0))) ∧ Below wA.heap.size wA wN)
      case first =>
        go_region_with (go_at_call 168; refine (written_calls _ (xi, xa, xb, xc) _).mono ?_; rintro e wN ⟨aN, rfl, hcN, hbN⟩; have HCN := hideG hcN; have HBN := hideG hbN; clear hcN hbN)
        all_goals (go_wp2_with fail; go_meet; exact ⟨aN, rfl, HCN.out, (Below.refl _ _).drew.trans HBN.out⟩)
      case rest =>
        obtain ⟨aN, rfl, hcN, hbN⟩ := hcut
        have hN2 := hbN.size
        have OAN := hideG (ownsRow_chg (S := fun _ => False) OA.out (Chg.of_below hbN) (fun _ _ h => h))
        have BAN := hideG (BA.out.trans (hbN.mono (by omega)))
        have hvlt := hideG (fun y (hy : (Value.slice (some ⟨gA, 0, none⟩) (J + 1) capA).ownBlock = some y) => (OA.out.lt y hy).2)
        have hW := Frm.wid_le k
        have HCN := hideG hcN
        clear hcN hbN g0 g1 g2 d0 d1 d2 d3
        have HSW := hideG (show S = 1 + 8 * Frm.wid k by rw [HSS.out]; rfl)
        have HNB := hideG (fun m => nums_bd HOK.out m)
        have HMS := hideG (fun m hm => midB_succ k (xi, xa, xb, xc) m hm)
        have HM0 := hideG (show midB k (xi, xa, xb, xc) 0 = [] from rfl)
        have HMA := hideG (midB_all k (xi, xa, xb, xc))
        have HPS := hideG (preB_succ k fr l j (by rw [← HN.out]; exact hlt))
        rw [← HX.out] at HPS
        generalize midB k (xi, xa, xb, xc) = mB at *
        generalize Frm.encI k (xi, xa, xb, xc) = eI at *
        generalize Frm.nums k (xi, xa, xb, xc) = NL at *
        obtain ⟨W, hWW⟩ : ∃ W, W = Frm.wid k := ⟨_, rfl⟩
        rw [← hWW] at hW HCN HSW HMS HMA ⊢
        clear hWW
        by_cases hW0 : W = 0
        · subst hW0
          go_wp2_with fail
          refine wp_loop_rounds 1 ?_
          rw [rounds_succ]
          go_wp2_with fail
          go_roundw
          case rel =>
            refine ⟨j + 1, by omega, by go_num, ?_, BAN.out⟩
            have e1 : 3 + (j + 1) * S = J + 1 := by rw [HJ.out, HSW.out]; omega
            have e2 : preB k fr l (j + 1) = preB k fr l j ++ [xi] := by rw [HPS.out, ← HMA.out, HM0.out]
            rw [e1, e2, List.map_append]; exact OAN.out
          case measure => simp [intOf]; omega
        · obtain ⟨g, rfl, hg1, hg2, hcell⟩ := HCN.out (by omega)
          have HCL := hideG hcell
          clear hcell
          have R00 := hideG (show RowSt B g wc bx wc (.slice (some ⟨gA, 0, none⟩) (J + 1) capA) (J + 1 + 8 * 0) (preB k fr l j ++ [xi] ++ mB 0) by
            refine ⟨?_, fun e => ?_, hg2, rfl, BAN.out⟩
            · rw [HM0.out, List.append_nil, List.map_append]; exact OAN.out
            · have := hvlt.out g e; omega)
          clear OAN BAN hvlt OA BA
          go_wp2_with fail
          go_loopw [5, 8] (fun v i wq => ∃ m : Nat, m ≤ W ∧ i = .int .i64 m ∧ RowSt B g wc bx wq v (J + 1 + 8 * m) (preB k fr l j ++ [xi] ++ mB m)) (fun _ i _ => W - (intOf i).toNat)
          case atStart => exact ⟨0, Nat.zero_le _, rfl, R00.out⟩
          case round =>
            obtain ⟨m, hm, rfl, hR⟩ := hrel
            have RR := hideG hR
            by_cases hlm : m < W
            · have CM := hideG (fun (wz : World) (hz : wz.heap[g]? = wc.heap[g]?) => (cell_of_block hz m).trans (HCL.out m hlm))
              have cm := CM.out _ hR.2.2.2.1
              obtain ⟨z, hz⟩ : ∃ z, z = NL.getD m 0 := ⟨_, rfl⟩
              have hzb := HNB.out m
              rw [← hz] at cm hzb CM
              have HZ := hideG hz
              obtain ⟨bs, hbs⟩ : ∃ bs, bs = preB k fr l j ++ [xi] ++ mB m := ⟨_, rfl⟩
              rw [← hbs] at RR
              have HBS := hideG hbs
              obtain ⟨Q, hQ⟩ : ∃ Q, Q = J + 1 + 8 * m := ⟨_, rfl⟩
              rw [← hQ] at RR
              have HQ := hideG hQ
              have Q1 : Q ≤ 400 := by omega
              have hm0 : (m : Int) < (W : Int) := by omega
              clear hR hz hbs hQ
              obtain ⟨zb0, zb1⟩ := hzb
              have R0 := RR
              go_wp2_with fail
              refine wp_loop_rounds 9 ?_
              rw [rounds_succ]
              go_wp2_with (at_builtin; refine wpList_append_one _ rfl _ _ 47 rfl B 5 i0 (.int .u8 0) 1 Tryz.underlying47 hi hz0 hz1 hz2 rfl _ _ _ rfl (R0.out.1.alloc _) ⟨wr.heap.size, 0, none⟩ 1 (.int .u8 (z % 256)) rfl (by simp [go_sem]) rfl (by unfold maxLen; omega) (by omega) (by have := R0.out.size HBx; simp; omega) ?_)
              intro gE0 capE0 wE0 hoE hgE hvE
              have R1 := hideG (R0.out.step HBx hoE hgE hvE)
              obtain ⟨b1, hb1⟩ : ∃ b, b = bs ++ [z % 256] := ⟨_, rfl⟩
              rw [← hb1] at R1
              have HB1 := hideG hb1
              clear hb1 hoE hgE hvE cm
              have cm := CM.out _ R1.out.2.2.2.1
              go_wp2_with fail
              rw [rounds_succ]
              go_wp2_with (at_builtin; refine wpList_append_one _ rfl _ _ 47 rfl B 5 i0 (.int .u8 0) 1 Tryz.underlying47 hi hz0 hz1 hz2 rfl _ _ _ rfl (R1.out.1.alloc _) ⟨wE0.heap.size, 0, none⟩ 1 (.int .u8 (z / 256 % 256)) rfl (by simp [go_sem]) rfl (by unfold maxLen; omega) (by omega) (by have := R1.out.size HBx; simp; omega) ?_)
              intro gE1 capE1 wE1 hoE hgE hvE
              have R2 := hideG (R1.out.step HBx hoE hgE hvE)
              obtain ⟨b2, hb2⟩ : ∃ b, b = b1 ++ [z / 256 % 256] := ⟨_, rfl⟩
              rw [← hb2] at R2
              have HB2 := hideG hb2
              clear hb2 hoE hgE hvE cm
              have cm := CM.out _ R2.out.2.2.2.1
              go_wp2_with fail
              rw [rounds_succ]
              go_wp2_with (at_builtin; refine wpList_append_one _ rfl _ _ 47 rfl B 5 i0 (.int .u8 0) 1 Tryz.underlying47 hi hz0 hz1 hz2 rfl _ _ _ rfl (R2.out.1.alloc _) ⟨wE1.heap.size, 0, none⟩ 1 (.int .u8 (z / 65536 % 256)) rfl (by simp [go_sem]) rfl (by unfold maxLen; omega) (by omega) (by have := R2.out.size HBx; simp; omega) ?_)
              intro gE2 capE2 wE2 hoE hgE hvE
              have R3 := hideG (R2.out.step HBx hoE hgE hvE)
              obtain ⟨b3, hb3⟩ : ∃ b, b = b2 ++ [z / 65536 % 256] := ⟨_, rfl⟩
              rw [← hb3] at R3
              have HB3 := hideG hb3
              clear hb3 hoE hgE hvE cm
              have cm := CM.out _ R3.out.2.2.2.1
              go_wp2_with fail
              rw [rounds_succ]
              go_wp2_with (at_builtin; refine wpList_append_one _ rfl _ _ 47 rfl B 5 i0 (.int .u8 0) 1 Tryz.underlying47 hi hz0 hz1 hz2 rfl _ _ _ rfl (R3.out.1.alloc _) ⟨wE2.heap.size, 0, none⟩ 1 (.int .u8 (z / 16777216 % 256)) rfl (by simp [go_sem]) rfl (by unfold maxLen; omega) (by omega) (by have := R3.out.size HBx; simp; omega) ?_)
              intro gE3 capE3 wE3 hoE hgE hvE
              have R4 := hideG (R3.out.step HBx hoE hgE hvE)
              obtain ⟨b4, hb4⟩ : ∃ b, b = b3 ++ [z / 16777216 % 256] := ⟨_, rfl⟩
              rw [← hb4] at R4
              have HB4 := hideG hb4
              clear hb4 hoE hgE hvE cm
              have cm := CM.out _ R4.out.2.2.2.1
              go_wp2_with fail
              rw [rounds_succ]
              go_wp2_with (at_builtin; refine wpList_append_one _ rfl _ _ 47 rfl B 5 i0 (.int .u8 0) 1 Tryz.underlying47 hi hz0 hz1 hz2 rfl _ _ _ rfl (R4.out.1.alloc _) ⟨wE3.heap.size, 0, none⟩ 1 (.int .u8 (z / 4294967296 % 256)) rfl (by simp [go_sem]) rfl (by unfold maxLen; omega) (by omega) (by have := R4.out.size HBx; simp; omega) ?_)
              intro gE4 capE4 wE4 hoE hgE hvE
              have R5 := hideG (R4.out.step HBx hoE hgE hvE)
              obtain ⟨b5, hb5⟩ : ∃ b, b = b4 ++ [z / 4294967296 % 256] := ⟨_, rfl⟩
              rw [← hb5] at R5
              have HB5 := hideG hb5
              clear hb5 hoE hgE hvE cm
              have cm := CM.out _ R5.out.2.2.2.1
              go_wp2_with fail
              rw [rounds_succ]
              go_wp2_with (at_builtin; refine wpList_append_one _ rfl _ _ 47 rfl B 5 i0 (.int .u8 0) 1 Tryz.underlying47 hi hz0 hz1 hz2 rfl _ _ _ rfl (R5.out.1.alloc _) ⟨wE4.heap.size, 0, none⟩ 1 (.int .u8 (z / 1099511627776 % 256)) rfl (by simp [go_sem]) rfl (by unfold maxLen; omega) (by omega) (by have := R5.out.size HBx; simp; omega) ?_)
              intro gE5 capE5 wE5 hoE hgE hvE
              have R6 := hideG (R5.out.step HBx hoE hgE hvE)
              obtain ⟨b6, hb6⟩ : ∃ b, b = b5 ++ [z / 1099511627776 % 256] := ⟨_, rfl⟩
              rw [← hb6] at R6
              have HB6 := hideG hb6
              clear hb6 hoE hgE hvE cm
              have cm := CM.out _ R6.out.2.2.2.1
              go_wp2_with fail
              rw [rounds_succ]
              go_wp2_with (at_builtin; refine wpList_append_one _ rfl _ _ 47 rfl B 5 i0 (.int .u8 0) 1 Tryz.underlying47 hi hz0 hz1 hz2 rfl _ _ _ rfl (R6.out.1.alloc _) ⟨wE5.heap.size, 0, none⟩ 1 (.int .u8 (z / 281474976710656 % 256)) rfl (by simp [go_sem]) rfl (by unfold maxLen; omega) (by omega) (by have := R6.out.size HBx; simp; omega) ?_)
              intro gE6 capE6 wE6 hoE hgE hvE
              have R7 := hideG (R6.out.step HBx hoE hgE hvE)
              obtain ⟨b7, hb7⟩ : ∃ b, b = b6 ++ [z / 281474976710656 % 256] := ⟨_, rfl⟩
              rw [← hb7] at R7
              have HB7 := hideG hb7
              clear hb7 hoE hgE hvE cm
              have cm := CM.out _ R7.out.2.2.2.1
              go_wp2_with fail
              rw [rounds_succ]
              go_wp2_with (at_builtin; refine wpList_append_one _ rfl _ _ 47 rfl B 5 i0 (.int .u8 0) 1 Tryz.underlying47 hi hz0 hz1 hz2 rfl _ _ _ rfl (R7.out.1.alloc _) ⟨wE6.heap.size, 0, none⟩ 1 (.int .u8 (z / 72057594037927936)) rfl (by simp [go_sem]) rfl (by unfold maxLen; omega) (by omega) (by have := R7.out.size HBx; simp; omega) ?_)
              intro gE7 capE7 wE7 hoE hgE hvE
              have R8 := hideG (R7.out.step HBx hoE hgE hvE)
              obtain ⟨b8, hb8⟩ : ∃ b, b = b7 ++ [z / 72057594037927936] := ⟨_, rfl⟩
              rw [← hb8] at R8
              have HB8 := hideG hb8
              clear hb8 hoE hgE hvE cm
              have cm := CM.out _ R8.out.2.2.2.1
              go_wp2_with fail
              rw [rounds_succ]
              go_wp2_with fail
              go_roundw
              case rel =>
                refine ⟨m + 1, by omega, by go_num, ?_⟩
                have e := R8.out
                have e1 : J + 1 + 8 * (m + 1) = Q + 1 + 1 + 1 + 1 + 1 + 1 + 1 + 1 := by rw [HQ.out]; omega
                have e2 : preB k fr l j ++ [xi] ++ mB (m + 1) = b8 := by
                  rw [HB8.out, HB7.out, HB6.out, HB5.out, HB4.out, HB3.out, HB2.out, HB1.out, HMS.out m hlm, HBS.out, ← HZ.out]
                  unfold Frm.bytesN
                  rw [show z / 72057594037927936 % 256 = z / 72057594037927936 by omega]
                  simp only [List.append_assoc, List.cons_append, List.nil_append]
                rw [e1, e2]; exact e
              case measure => simp [intOf]; omega
            · have em : m = W := by omega
              subst em
              clear hR
              go_wp2_with fail
              go_roundw
              case rel =>
                refine ⟨j + 1, by omega, by go_num, ?_, RR.out.2.2.2.2⟩
                have e1 : 3 + (j + 1) * S = J + 1 + 8 * m := by rw [HJ.out, Nat.add_mul, HSW.out]; omega
                have e2 : preB k fr l (j + 1) = preB k fr l j ++ [xi] ++ mB m := by rw [HPS.out, ← HMA.out]; simp
                rw [e1, e2]; exact RR.out.1
              case measure => simp [intOf]; omega
    · have ej : j = n := by omega
      subst ej
      clear hown hbel
      go_wp2_with fail
      go_ret2
      refine ⟨_, rfl, ?_, BX.out.trans (B2.out.mono (by omega))⟩
      have e1 : (Frm.encF k fr l).length = 3 + j * S := by rw [Frm.encF_length, ← HN.out, HSS.out]
      have e2 : preB k fr l j = Frm.encF k fr l := by rw [HN.out]; exact preB_all k fr l
      rw [e1, ← e2]
      exact ownsRow_base OW.out (by omega)

end Go.Proofs.YtchideljndagjabGreat

namespace Go.Proofs.YtchideljndagjabGreat
open Go.ChangeShapes Go.WideShapes Go.ChangeAt Go.RowKit
set_option linter.unusedVariables false

theorem row3 {w : World} {g : Nat} {x y z : Value} {T : TypeId} (h : w.heap[g]? = some (.cells #[x, y, z] T (0, 0))) : w.cell? ⟨g, 0, none⟩ = some x ∧ w.cell? ⟨g, 1, none⟩ = some y ∧ w.cell? ⟨g, 2, none⟩ = some z ∧ w.frozen? ⟨g, 2, none⟩ = false := by
  refine ⟨?_, ?_, ?_, frozen_of_row w g 2 _ _ h⟩
  · have := cell_of_row w g 0 _ _ (0, 0) h; simpa using this
  · have := cell_of_row w g 1 _ _ (0, 0) h; simpa using this
  · have := cell_of_row w g 2 _ _ (0, 0) h; simpa using this

end Go.Proofs.YtchideljndagjabGreat

namespace Go.Proofs.YtchideljndagjabGreat
open Go.ChangeShapes Go.WideShapes Go.ChangeAt Go.RowKit
set_option linter.unusedVariables false

end Go.Proofs.YtchideljndagjabGreat

namespace Go.Proofs.YtchideljndagjabGreat
open Go.ChangeShapes Go.WideShapes Go.ChangeAt Go.RowKit
set_option linter.unusedVariables false

def IntsRow (w : World) (g n : Nat) (r : Nat → Int) : Prop := w.heap[g]? = some (.cells ((List.range n).map fun t => Value.int .i64 (r t)).toArray 3 (0, 0))
theorem rowF_get (n : Nat) (r : Nat → Int) (t : Nat) (ht : t < n) : ((List.range n).map fun t => Value.int .i64 (r t))[t]? = some (.int .i64 (r t)) := by
  rw [List.getElem?_map, List.getElem?_range ht]; rfl
theorem IntsRow.cell {w : World} {g n : Nat} {r : Nat → Int} (h : IntsRow w g n r) (t : Nat) (ht : t < n) : w.cell? ⟨g, t, none⟩ = some (.int .i64 (r t)) := by
  rw [cell_of_row w g t _ _ (0, 0) h, List.getElem?_toArray]; exact rowF_get n r t ht
theorem IntsRow.froz {w : World} {g n : Nat} {r : Nat → Int} (h : IntsRow w g n r) (t : Nat) : w.frozen? ⟨g, t, none⟩ = false := frozen_of_row w g t _ _ h
theorem IntsRow.lt {w : World} {g n : Nat} {r : Nat → Int} (h : IntsRow w g n r) : g < w.heap.size := by
  by_cases hb : g < w.heap.size
  · exact hb
  · unfold IntsRow at h; rw [Array.getElem?_eq_none (by omega)] at h; cases h
theorem IntsRow.block {w w' : World} {g n : Nat} {r : Nat → Int} (h : IntsRow w g n r) (e : w'.heap[g]? = w.heap[g]?) : IntsRow w' g n r := e.trans h
theorem IntsRow.ext {w : World} {g n : Nat} {r r' : Nat → Int} (h : IntsRow w g n r) (e : ∀ t, t < n → r t = r' t) : IntsRow w g n r' := by
  unfold IntsRow at h ⊢
  rw [h]
  congr 3
  apply List.map_congr_left
  intro t ht
  rw [e t (List.mem_range.1 ht)]
theorem IntsRow.set {w : World} {g n : Nat} {r r' : Nat → Int} (h : IntsRow w g n r) (t : Nat) (ht : t < n) (z : Int) (hz : r' t = z) (e : ∀ u, u < n → u ≠ t → r' u = r u) : IntsRow (w.setCell ⟨g, t, none⟩ (.int .i64 z)) g n r' := by
  have := heap_setCell_same w g t _ _ (.int .i64 z) h
  unfold IntsRow
  rw [this, List.setIfInBounds_toArray]
  congr 3
  apply List.ext_getElem?
  intro u
  rw [List.getElem?_set]
  by_cases hu : u < n
  · rw [rowF_get n r' u hu]
    by_cases ee : t = u
    · subst ee; rw [if_pos rfl, if_pos (by simpa using ht), hz]
    · rw [if_neg ee, rowF_get n r u hu, e u hu (fun x => ee x.symm)]
  · rw [List.getElem?_eq_none (by simp; omega)]
    by_cases ee : t = u
    · omega
    · rw [if_neg ee, List.getElem?_eq_none (by simp; omega)]

/-- The lists that come out of Stretch, as the walks meet them. -/
theorem str_view {w : World} {B : Nat} {v : Value} {seed : Int} {n : Nat} (h : w.ownsRow B 3 1 v n ((Num.strL seed n).map (Value.int .i64))) (hn : 1 ≤ n) : ∃ g cap, v = .slice (some ⟨g, 0, none⟩) n cap ∧ B ≤ g ∧ g < w.heap.size ∧ n ≤ cap ∧ cap ≤ 9223372036854775807 ∧ ∀ t, t < n → w.cell? ⟨g, t, none⟩ = some (.int .i64 (Num.strAt seed t)) := by
  have h0 := h
  rcases h.2 with ⟨rfl, hn0⟩ | ⟨g, cap, cur, rfl, hBg, hb, hnc, hcm, _⟩
  · omega
  · refine ⟨g, cap, rfl, hBg, (h0.lt g rfl).2, hnc, by unfold maxLen at hcm; omega, fun t ht => ?_⟩
    rw [h0.cellAt t (by omega), List.getElem?_map, show (Num.strL seed n)[t]? = some (Num.strAt seed t) by unfold Num.strL; rw [List.getElem?_map, List.getElem?_range ht]; rfl]
    rfl

end Go.Proofs.YtchideljndagjabGreat

namespace Go.Proofs.YtchideljndagjabGreat
open Go.ChangeShapes Go.WideShapes Go.ChangeAt Go.RowKit
set_option linter.unusedVariables false

theorem rrow_of_full {w : World} {B g n : Nat} {e : TypeId} {xs : List Value} (h : w.ownsRow B e 1 (.slice (some ⟨g, 0, none⟩) n n) n xs) : w.heap[g]? = some (.cells xs.toArray e (0, 0)) := by
  have hl := h.1
  rcases h.2 with ⟨e0, _⟩ | ⟨g', cap, cur, e0, _, hg, _, _, hcs, htake⟩
  · cases e0
  · cases e0
    rw [hg]
    congr 2
    have : cur.toList.take (n * 1) = cur.toList := List.take_of_length_le (by simp; omega)
    rw [this] at htake
    rw [← htake]
theorem rep_range (n : Nat) (x : Value) : List.replicate n x = (List.range n).map fun _ => x := by rw [List.map_const', List.length_range]
theorem chg_drew {S : Nat → Prop} {a b : World} (h : Chg S a b) : Chg S a b.drew := h.trans (S' := fun _ => False) ⟨rfl, rfl, rfl, Nat.le_refl _, fun _ _ _ => rfl⟩ (fun _ e _ => e.elim)
theorem IntsRow.drew {w : World} {g n : Nat} {r : Nat → Int} (h : IntsRow w g n r) : IntsRow w.drew g n r := h

end Go.Proofs.YtchideljndagjabGreat

namespace Go.Proofs.YtchideljndagjabGreat
open Go.ChangeShapes Go.WideShapes Go.ChangeAt Go.RowKit
set_option linter.unusedVariables false

/-- Nothing, or the bytes of a frame in a new block. -/
def RAns (w w' : World) (va : Value) : Option Cli.Fr → Prop
  | none => va = .slice none 0 0
  | some f => w'.ownsRow w.heap.size 5 1 va (Frm.encF f.1 f.2.1 f.2.2).length ((Frm.encF f.1 f.2.1 f.2.2).map (Value.int .u8))

section
variable {c : Cli.Cl} {h t t2 t3 : List Cli.Fr} {k b a : Cli.Fr}
end

end Go.Proofs.YtchideljndagjabGreat

namespace Go.Proofs.YtchideljndagjabGreat
open Go.ChangeShapes Go.WideShapes Go.ChangeAt Go.RowKit
set_option linter.unusedVariables false

/-- Nothing, and a list's elements behind it: a list of its own. -/
def Copied (P : Program) (w : World) (t e : TypeId) (size : Nat) (vx : Value) (n : Nat) (xs : List Value) : Prop :=
  ∀ ty, ∃ v' w', (Builtin.append_ #[t, t] ty #[.slice none 0 0, vx]).run P w = .ok v' w' ∧ w'.ownsRow w.heap.size e size v' n xs ∧ Below w.heap.size w w'

theorem copied_row {P : Program} (w : World) (t e : TypeId) (i : TypeInfo) (z : Value) (size bytes : Nat) (ht : P.underlying t = some (.slice e)) (hi : P.info? e = some i) (hz : i.zero = some z)
    (hsize : i.size = size) (hby : i.bytes = bytes) (hzs : z.cells.size = size) (hsz : 0 < size) (ad : Addr) (m c : Nat) (news : List Value) (hl : news.length = m * size) (hnews : ∀ j u, news[j]? = some u → w.cell? (ad.add j) = some u) (h1 : ∀ u ∈ news, u.oneCell' = true)
    (h63 : m ≤ maxLen) (hbytes : m * bytes ≤ 140737488355328) : Copied P w t e size (.slice (some ad) m c) m news := fun ty => by
  obtain ⟨v', w', hr, h2, h3, h4⟩ := run_append_own (P := P) w w.heap.size t ty e i z size bytes ht hi hz hsize hby hzs hsz (.slice none 0 0) 0 [] (World.ownsRow_nil _ _ _ _) ad m c news hl hnews h1 (by omega) (by rw [Nat.zero_add]; exact hbytes) (Nat.le_refl _)
  rw [Nat.zero_add, List.nil_append] at h2
  exact ⟨v', w', hr, h2, (Below.refl w.heap.size w).grown h3 (Nat.le_refl _) (fun y hy => by rw [nil_own] at hy; cases hy)⟩
theorem copied_nil {P : Program} (w : World) (t e : TypeId) (i : TypeInfo) (size c : Nat) (ht : P.underlying t = some (.slice e)) (hi : P.info? e = some i) : Copied P w t e size (.slice none 0 c) 0 [] := fun ty =>
  ⟨.slice none 0 0, w, run_append_nothing w t t ty e i ht hi none 0 0 (Nat.le_refl _) _ (Src.ofNil w ht c), World.ownsRow_nil _ _ _ _, Below.refl _ _⟩

theorem wpList_append_copy {P : Program} (w : World) {ops : Array Oper} {rest : List Oper} {o : Oper} {a : Act} {Q : Exit → Act → World → Prop} (hgd : o.guard = none) (s x : Operand) (t : TypeId)
    (ho : o.op = .call { callee := .builtin .append, args := #[s, x], argTypes := #[t, t] }) (hs : a.eval s = .slice none 0 0) (vx : Value) (hx : a.eval x = vx) (e : TypeId) (size n : Nat) (xs : List Value) (hc : Copied P w t e size vx n xs)
    (h : ∀ v' w', w'.ownsRow w.heap.size e size v' n xs → Below w.heap.size w w' → wpList P ops Q rest (a.put o.dst v') w') : wpList P ops Q (o :: rest) a w := by
  obtain ⟨v', w', hr, h2, h3⟩ := hc o.type
  refine wpList_plain hgd fun K hK => ?_
  unfold Oper.wp execOp
  simp only [ho, resolve, invoke, builtin, Sem.run_bind, Sem.run_pure, Result.andThen_ok, List.map_toArray, List.map_cons, List.map_nil, hs, hx, hr]
  exact hK _ _ (h v' w' h2 h3)

theorem copied_ints (w : World) (v : Value) (zs : List Int) (h : ListAt w v zs) (hl : zs.length ≤ 12) : Copied Tryz.prog w 33 3 1 v zs.length (zs.map (Value.int .i64)) := by
  obtain ⟨i1, hi1, hy0, hy1, hy2⟩ := info_parts infoInt
  obtain ⟨a, cap, rfl, h2, h3, h4, h5⟩ := h
  cases a with
  | none =>
    have : zs = [] := by
      rcases h5 with h5 | ⟨b, off, e, _⟩
      · exact h5
      · cases e
    subst this
    exact copied_nil w _ _ i1 1 cap Tryz.underlying33 hi1
  | some ad =>
    refine copied_row w _ _ i1 (.int .i64 0) 1 8 Tryz.underlying33 hi1 hy0 hy1 hy2 rfl (by decide) ad zs.length cap _ (by simp) ?_ ?_ (by unfold maxLen; omega) (by omega)
    · intro j u hj
      rcases h5 with h5 | ⟨b, off, e, hb, hc⟩
      · subst h5; simp at hj
      · cases e
        have hjl : j < zs.length := by have := (List.getElem?_eq_some_iff.1 hj).1; simpa using this
        rw [Addr.add_mid, hc j hjl]
        rw [List.getElem?_map, List.getElem?_eq_getElem hjl] at hj
        rw [List.getD_eq_getElem?_getD, List.getElem?_eq_getElem hjl]
        exact hj
    · intro u hu
      obtain ⟨_, _, rfl⟩ := List.mem_map.1 hu
      rfl

theorem cfg_no {N T M D : Int} (h : ¬ (1 ≤ N ∧ N ≤ 12 ∧ 1 ≤ T ∧ T ≤ N ∧ 1 ≤ M ∧ M ≤ 12 ∧ 1 ≤ D ∧ D ≤ 50)) : Cli.cfgB N T M D = false := by
  unfold Cli.cfgB
  cases e : (decide (1 ≤ N ∧ N ≤ 12) && (decide (1 ≤ T ∧ T ≤ N) && (decide (1 ≤ M ∧ M ≤ 12) && decide (1 ≤ D ∧ D ≤ 50))))
  · rfl
  · simp only [Bool.and_eq_true, decide_eq_true_iff] at e; omega
theorem cfg_yes {N T M D : Int} (h : 1 ≤ N ∧ N ≤ 12 ∧ 1 ≤ T ∧ T ≤ N ∧ 1 ≤ M ∧ M ≤ 12 ∧ 1 ≤ D ∧ D ≤ 50) : Cli.cfgB N T M D = true := by
  unfold Cli.cfgB
  simp only [Bool.and_eq_true, decide_eq_true_iff]; omega

set_option maxHeartbeats 1000000 in
theorem config_calls (N T M D : Int) (w : World) :
    Calls Tryz.prog 189 #[.agg #[.int .i64 N, .int .i64 T, .int .i64 M, .int .i64 D]] w fun e w' => e = .returned (.bool (Cli.cfgB N T M D)) ∧ Below w.heap.size w w' := by
  cases hc : Num.clB N
  · have H := hideG (cfg_no (N := N) (T := T) (M := M) (D := D) (fun h => by rw [Num.clB_yes h.1 h.2.1] at hc; cases hc))
    go_enter Tryz.func189, Tryz.ntmps189
    go_wp2_with (go_at_call 201; refine (client_calls _ _).mono ?_; rintro e w' ⟨rfl, rfl⟩)
    go_ret
    exact ⟨ret_bool H.out.symm, by go_grown⟩
  obtain ⟨n1, n2⟩ := Num.clB_iff.1 hc
  by_cases t1 : T < 1
  · have H := hideG (cfg_no (N := N) (T := T) (M := M) (D := D) (by omega))
    go_enter Tryz.func189, Tryz.ntmps189
    go_wp2_with (go_at_call 201; refine (client_calls _ _).mono ?_; rintro e w' ⟨rfl, rfl⟩)
    go_ret
    exact ⟨ret_bool H.out.symm, by go_grown⟩
  by_cases t2 : N < T
  · have H := hideG (cfg_no (N := N) (T := T) (M := M) (D := D) (by omega))
    go_enter Tryz.func189, Tryz.ntmps189
    go_wp2_with (go_at_call 201; refine (client_calls _ _).mono ?_; rintro e w' ⟨rfl, rfl⟩)
    go_ret
    exact ⟨ret_bool H.out.symm, by go_grown⟩
  by_cases m1 : 1 ≤ M
  · by_cases m2 : M ≤ 12
    · by_cases d1 : 1 ≤ D
      · by_cases d2 : D ≤ 50
        · have H := hideG (cfg_yes (N := N) (T := T) (M := M) (D := D) (by omega))
          go_enter Tryz.func189, Tryz.ntmps189
          go_wp2_with (go_at_call 201; refine (client_calls _ _).mono ?_; rintro e w' ⟨rfl, rfl⟩)
          go_ret
          exact ⟨ret_bool H.out.symm, by go_grown⟩
        · have H := hideG (cfg_no (N := N) (T := T) (M := M) (D := D) (by omega))
          go_enter Tryz.func189, Tryz.ntmps189
          go_wp2_with (go_at_call 201; refine (client_calls _ _).mono ?_; rintro e w' ⟨rfl, rfl⟩)
          go_ret
          exact ⟨ret_bool (by rw [H.out, decide_eq_false (show ¬ D ≤ 50 by omega)]), by go_grown⟩
      · have H := hideG (cfg_no (N := N) (T := T) (M := M) (D := D) (by omega))
        go_enter Tryz.func189, Tryz.ntmps189
        go_wp2_with (go_at_call 201; refine (client_calls _ _).mono ?_; rintro e w' ⟨rfl, rfl⟩)
        go_ret
        exact ⟨ret_bool H.out.symm, by go_grown⟩
    · have H := hideG (cfg_no (N := N) (T := T) (M := M) (D := D) (by omega))
      go_enter Tryz.func189, Tryz.ntmps189
      go_wp2_with (go_at_call 201; refine (client_calls _ _).mono ?_; rintro e w' ⟨rfl, rfl⟩)
      go_ret
      exact ⟨ret_bool H.out.symm, by go_grown⟩
  · have H := hideG (cfg_no (N := N) (T := T) (M := M) (D := D) (by omega))
    go_enter Tryz.func189, Tryz.ntmps189
    go_wp2_with (go_at_call 201; refine (client_calls _ _).mono ?_; rintro e w' ⟨rfl, rfl⟩)
    go_ret
    exact ⟨ret_bool H.out.symm, by go_grown⟩

end Go.Proofs.YtchideljndagjabGreat

namespace Go.Proofs.YtchideljndagjabGreat
open Go.ChangeShapes Go.WideShapes Go.ChangeAt Go.RowKit
set_option linter.unusedVariables false

end Go.Proofs.YtchideljndagjabGreat

namespace Go.Proofs.YtchideljndagjabGreat
open Go.ChangeShapes Go.WideShapes Go.ChangeAt Go.RowKit
set_option linter.unusedVariables false

/-- Six cells in a block of their own. -/
def SixAt (w : World) (b : Nat) (T : TypeId) (a0 a1 a2 a3 a4 a5 : Value) : Prop := w.heap[b]? = some (.cells #[a0, a1, a2, a3, a4, a5] T (0, 0))
theorem SixAt.cells {w : World} {b : Nat} {T : TypeId} {a0 a1 a2 a3 a4 a5 : Value} (h : SixAt w b T a0 a1 a2 a3 a4 a5) :
    (w.cell? ⟨b, 0, none⟩ = some a0 ∧ w.cell? ⟨b, 1, none⟩ = some a1 ∧ w.cell? ⟨b, 2, none⟩ = some a2 ∧ w.cell? ⟨b, 3, none⟩ = some a3 ∧ w.cell? ⟨b, 4, none⟩ = some a4 ∧ w.cell? ⟨b, 5, none⟩ = some a5) ∧ ∀ i, w.frozen? ⟨b, i, none⟩ = false := by
  refine ⟨⟨?_, ?_, ?_, ?_, ?_, ?_⟩, fun i => frozen_of_row w b i _ T h⟩
  all_goals (rw [cell_of_row w b _ _ T (0, 0) h]; rfl)
theorem SixAt.below {w w' : World} {b B : Nat} {T : TypeId} {a0 a1 a2 a3 a4 a5 : Value} (h : SixAt w b T a0 a1 a2 a3 a4 a5) (hb : Below B w w') (hB : b < B) : SixAt w' b T a0 a1 a2 a3 a4 a5 := (hb.block b hB).trans h
theorem SixAt.chg {P : Nat → Prop} {w w' : World} {b : Nat} {T : TypeId} {a0 a1 a2 a3 a4 a5 : Value} (h : SixAt w b T a0 a1 a2 a3 a4 a5) (hc : Chg P w w') (hl : b < w.heap.size) (hn : ¬ P b) : SixAt w' b T a0 a1 a2 a3 a4 a5 := (hc.block b hl hn).trans h
theorem SixAt.setAll {w : World} {b : Nat} {T : TypeId} {a0 a1 a2 a3 a4 a5 : Value} (h : SixAt w b T a0 a1 a2 a3 a4 a5) (x0 x1 x2 x3 x4 x5 : Value) : SixAt (((((((w.setCell ⟨b, 0, none⟩ x0).setCell ⟨b, 1, none⟩ x1).setCell ⟨b, 2, none⟩ x2).setCell ⟨b, 3, none⟩ x3).setCell ⟨b, 4, none⟩ x4).setCell ⟨b, 5, none⟩ x5)) b T x0 x1 x2 x3 x4 x5 :=
  heap_setCell_same _ b 5 #[x0, x1, x2, x3, x4, a5] T x5 (heap_setCell_same _ b 4 #[x0, x1, x2, x3, a4, a5] T x4 (heap_setCell_same _ b 3 #[x0, x1, x2, a3, a4, a5] T x3 (heap_setCell_same _ b 2 #[x0, x1, a2, a3, a4, a5] T x2 (heap_setCell_same _ b 1 #[x0, a1, a2, a3, a4, a5] T x1 (heap_setCell_same w b 0 #[a0, a1, a2, a3, a4, a5] T x0 h)))))

end Go.Proofs.YtchideljndagjabGreat

namespace Go.Proofs.YtchideljndagjabGreat
open Go.ChangeShapes Go.WideShapes Go.ChangeAt Go.RowKit
set_option linter.unusedVariables false

theorem PSAt.chg {P : Nat → Prop} {w w' : World} {b : Nat} {T : TypeId} {s : PS} (h : PSAt w b T s) (hc : Chg P w w') (hn : ¬ P b) : PSAt w' b T s := h.block (hc.block b h.lt hn)

end Go.Proofs.YtchideljndagjabGreat

namespace Go.Proofs.YtchideljndagjabGreat
open Go.ChangeShapes Go.WideShapes Go.ChangeAt Go.RowKit
set_option linter.unusedVariables false

end Go.Proofs.YtchideljndagjabGreat

namespace Go.Proofs.YtchideljndagjabGreat
open Go.ChangeShapes Go.WideShapes Go.ChangeAt Go.RowKit
set_option linter.unusedVariables false

end Go.Proofs.YtchideljndagjabGreat

namespace Go.Proofs.YtchideljndagjabGreat
open Go.ChangeShapes Go.WideShapes Go.ChangeAt Go.RowKit
set_option linter.unusedVariables false

end Go.Proofs.YtchideljndagjabGreat

namespace Go.Proofs.YtchideljndagjabGreat
open Go.ChangeShapes Go.WideShapes Go.ChangeAt Go.RowKit
set_option linter.unusedVariables false

end Go.Proofs.YtchideljndagjabGreat

namespace Go.Proofs.YtchideljndagjabGreat
open Go.ChangeShapes Go.WideShapes Go.ChangeAt Go.RowKit
set_option linter.unusedVariables false

end Go.Proofs.YtchideljndagjabGreat

namespace Go.Proofs.YtchideljndagjabGreat
open Go.ChangeShapes Go.WideShapes Go.ChangeAt Go.RowKit
set_option linter.unusedVariables false

end Go.Proofs.YtchideljndagjabGreat

namespace Go.Proofs.YtchideljndagjabGreat
open Go.ChangeShapes Go.WideShapes Go.ChangeAt Go.RowKit
set_option linter.unusedVariables false

end Go.Proofs.YtchideljndagjabGreat

namespace Go.Proofs.YtchideljndagjabGreat
open Go.ChangeShapes Go.WideShapes Go.ChangeAt Go.RowKit
set_option linter.unusedVariables false

end Go.Proofs.YtchideljndagjabGreat

namespace Go.Proofs.YtchideljndagjabGreat
open Go.ChangeShapes Go.WideShapes Go.ChangeAt Go.RowKit
set_option linter.unusedVariables false

end Go.Proofs.YtchideljndagjabGreat

namespace Go.Proofs.YtchideljndagjabGreat
open Go.ChangeShapes Go.WideShapes Go.ChangeAt Go.RowKit
set_option linter.unusedVariables false

theorem PSAt.drew {w : World} {b : Nat} {T : TypeId} {s : PS} (h : PSAt w b T s) : PSAt w.drew b T s := by unfold PSAt at *; exact h

end Go.Proofs.YtchideljndagjabGreat

namespace Go.Proofs.YtchideljndagjabGreat
open Go.ChangeShapes Go.WideShapes Go.ChangeAt Go.RowKit
set_option linter.unusedVariables false

end Go.Proofs.YtchideljndagjabGreat

namespace Go.Proofs.YtchideljndagjabGreat
open Go.ChangeShapes Go.WideShapes Go.ChangeAt Go.RowKit
set_option linter.unusedVariables false

end Go.Proofs.YtchideljndagjabGreat

namespace Go.Proofs.YtchideljndagjabGreat
open Go.ChangeShapes Go.WideShapes Go.ChangeAt Go.RowKit
set_option linter.unusedVariables false

/-- Memory was made first. -/
theorem Took.after {w w1 w' : World} {b : Nat} {c : Cli.Cl} {s' : Cli.St} {S S' : PS} (h : Took w1 w' b c s' S S') (hb : Below w.heap.size w w1) : Took w w' b c s' S S' :=
  ⟨h.cli, (Chg.of_below hb).also h.chg, fun x hx => (h.foot x hx).imp id (fun e => Nat.le_trans hb.size e)⟩
theorem Ans.after {w w1 w' : World} {b : Nat} {S' : PS} {va : Value} {o : Option Cli.Fr} (h : Ans w1 w' b S' va o) (hb : w.heap.size ≤ w1.heap.size) : Ans w w' b S' va o := by
  cases o with
  | none => exact h
  | some f => exact ⟨ownsRow_base h.1 hb, h.2⟩
end Go.Proofs.YtchideljndagjabGreat

namespace Go.Proofs.YtchideljndagjabGreat
open Go.ChangeShapes Go.WideShapes Go.ChangeAt Go.RowKit
set_option linter.unusedVariables false

def helloL (c : Cli.Cl) : List Frm.It := [(c.id, Cli.pubA c, Cli.pubB c, 0)]
def relL (c : Cli.Cl) (s : Cli.St) : List Frm.It := if s.1 = 4 then Cli.tells c s.2.1 s.2.2.1 s.2.2.2 else []
end Go.Proofs.YtchideljndagjabGreat

namespace Go.Proofs.YtchideljndagjabGreat
open Go.RowKit
set_option linter.unusedVariables false

/-- The cells of frames, with the values of their items. -/
def flat3 : List Cli.Fr → List Value → List Value
  | f :: h, v :: vs => .int .i64 f.1 :: .int .i64 f.2.1 :: v :: flat3 h vs
  | _, _ => []
theorem flat3_get (h : List Cli.Fr) (vs : List Value) (hl : h.length = vs.length) (j : Nat) (hj : j < h.length) :
    (flat3 h vs)[j * 3]? = some (.int .i64 (frH h j).1) ∧ (flat3 h vs)[j * 3 + 1]? = some (.int .i64 (frH h j).2.1) ∧ (flat3 h vs)[j * 3 + 2]? = vs[j]? := by
  induction h generalizing vs j with
  | nil => simp at hj
  | cons g h ih => cases vs with
    | nil => simp at hl
    | cons u vs => cases j with
      | zero => exact ⟨rfl, rfl, rfl⟩
      | succ j =>
        have h1 := ih vs (by simpa using hl) j (by simpa using hj)
        rw [show (j + 1) * 3 = j * 3 + 1 + 1 + 1 by omega]
        exact h1

structure HeardAt (w : World) (B : Nat) (v : Value) (hh : List Cli.Fr) (vs : List Value) : Prop where
  len : hh.length = vs.length
  own : w.ownsRow B 65 3 v hh.length (flat3 hh vs)
  its : ∀ j u, vs[j]? = some u → ItemsAt w u (frH hh j).2.2

theorem HeardAt.frames {w : World} {B : Nat} {v : Value} {hh : List Cli.Fr} {vs : List Value} (h : HeardAt w B v hh vs) : FramesAt w v hh := by
  have h0 := h.own
  rcases h.own.2 with ⟨rfl, hn⟩ | ⟨g, cap, cur, rfl, _, hb, hnc, hcm, _⟩
  · have hz : hh = [] := List.eq_nil_of_length_eq_zero hn
    subst hz
    exact ⟨none, 0, rfl, Nat.le_refl _, by decide, fun j hj => by simp at hj⟩
  · refine ⟨some ⟨g, 0, none⟩, cap, rfl, hnc, by unfold maxLen at hcm; omega, fun j hj => ?_⟩
    obtain ⟨f1, f2, f3⟩ := flat3_get hh vs h.len j hj
    have hjv : j < vs.length := by rw [← h.len]; exact hj
    rw [List.getElem?_eq_getElem hjv] at f3
    refine ⟨g, 0, vs[j], rfl, (h0.lt g rfl).2, ?_, ?_, ?_, h.its j _ (List.getElem?_eq_getElem hjv)⟩
    · rw [Nat.zero_add]; exact (h0.cellAt (j * 3) (by omega)).trans f1
    · rw [Nat.zero_add]; exact (h0.cellAt (j * 3 + 1) (by omega)).trans f2
    · rw [Nat.zero_add]; exact (h0.cellAt (j * 3 + 2) (by omega)).trans f3

theorem ownsRow_keep {w w' : World} {base : Nat} {e : TypeId} {size : Nat} {v : Value} {n : Nat} {xs : List Value} (h : w.ownsRow base e size v n xs) (hS : ∀ x, v.ownBlock = some x → w'.heap[x]? = w.heap[x]?) : w'.ownsRow base e size v n xs := by
  obtain ⟨h1, h2⟩ := h
  refine ⟨h1, ?_⟩
  rcases h2 with h2 | ⟨g, cap, cur, rfl, h3, h4, h5⟩
  · exact .inl h2
  · exact .inr ⟨g, cap, cur, rfl, h3, by rw [hS g rfl]; exact h4, h5⟩
theorem HeardAt.keep {w w' : World} {B : Nat} {v : Value} {hh : List Cli.Fr} {vs : List Value} (h : HeardAt w B v hh vs) (hs : w.heap.size ≤ w'.heap.size) (h1 : ∀ x, v.ownBlock = some x → w'.heap[x]? = w.heap[x]?)
    (h2 : ∀ u ∈ vs, ∀ x, u.ownBlock = some x → w'.heap[x]? = w.heap[x]?) : HeardAt w' B v hh vs :=
  ⟨h.len, ownsRow_keep h.own h1, fun j u hu => (h.its j u hu).keep hs (h2 u (List.mem_of_getElem? hu))⟩
theorem BytesAt.keep {w w' : World} {v : Value} {zs : List Int} (h : BytesAt w v zs) (hs : w.heap.size ≤ w'.heap.size) (hb : ∀ x, v.ownBlock = some x → w'.heap[x]? = w.heap[x]?) : BytesAt w' v zs := by
  obtain ⟨a, cap, h1, h2, h3, h4, h5⟩ := h
  refine ⟨a, cap, h1, h2, h3, h4, ?_⟩
  rcases h5 with h5 | ⟨b, off, e1, e2, e3⟩
  · exact .inl h5
  · refine .inr ⟨b, off, e1, Nat.lt_of_lt_of_le e2 hs, fun i hi => ?_⟩
    rw [← e3 i hi]
    exact World.cell?_of_block (w := w) (hb b (by rw [h1, e1]; rfl))

/-- A list with nothing in it may stand anywhere. -/
theorem ListAt.keep2 {w w' : World} {v : Value} {zs : List Int} (h : ListAt w v zs) (hs : w.heap.size ≤ w'.heap.size) (hb : ∀ x, (zs ≠ [] ∧ v.ownBlock = some x) → w'.heap[x]? = w.heap[x]?) : ListAt w' v zs := by
  by_cases e : zs = []
  · obtain ⟨a, cap, h1, h2, h3, h4, h5⟩ := h
    exact ⟨a, cap, h1, h2, h3, h4, .inl e⟩
  · exact h.keep hs (fun x hx => hb x ⟨e, hx⟩)

/-- Its blocks: its own, the row of what it heard, and those that are never written again. -/
def RStat (s : RS) (vs : List Value) (x : Nat) : Prop := s.hi.ownBlock = some x ∨ s.told.ownBlock = some x ∨ ∃ u ∈ vs, u.ownBlock = some x
def RFoot (b : Nat) (s : RS) (vs : List Value) (x : Nat) : Prop := (x = b ∨ s.hv.ownBlock = some x) ∨ RStat s vs x

structure RefW (w : World) (pw b : Nat) (s : RS) (hh : List Cli.Fr) (vs : List Value) : Prop where
  at_ : RAt w b s
  good : Cli.Good s.c
  vi : ListAt w s.vi s.c.inp
  vm : ListAt w s.vm s.c.sm
  vz : ListAt w s.vs s.c.ss
  low : ∀ x, ((s.c.inp ≠ [] ∧ s.vi.ownBlock = some x) ∨ (s.c.sm ≠ [] ∧ s.vm.ownBlock = some x) ∨ (s.c.ss ≠ [] ∧ s.vs.ownBlock = some x)) → x < pw
  hi : BytesAt w s.hi (Frm.encF 1 s.c.id (helloL s.c))
  heard : HeardAt w (pw + 1) s.hv hh vs
  told : ItemsAt w s.told (relL s.c (Cli.lk s.c hh))
  ph : s.ph = (Cli.lk s.c hh).1
  ok : ∀ f ∈ hh, Frm.okF f.1 f.2.1 f.2.2 = true
  foot : ∀ x, RFoot b s vs x → pw < x ∧ x < w.heap.size
  apart : ∀ x, RStat s vs x → x ≠ b ∧ s.hv.ownBlock ≠ some x
  apartb : s.hv.ownBlock ≠ some b

theorem RefW.keep {w w' : World} {pw b : Nat} {s : RS} {hh : List Cli.Fr} {vs : List Value} (h : RefW w pw b s hh vs) (hs : w.heap.size ≤ w'.heap.size) (hb : ∀ x, RFoot b s vs x → w'.heap[x]? = w.heap[x]?) (hp : ∀ x, x < pw → w'.heap[x]? = w.heap[x]?) : RefW w' pw b s hh vs where
  at_ := h.at_.block (hb b (.inl (.inl rfl)))
  good := h.good
  vi := h.vi.keep2 hs (fun x hx => hp x (h.low x (.inl hx)))
  vm := h.vm.keep2 hs (fun x hx => hp x (h.low x (.inr (.inl hx))))
  vz := h.vz.keep2 hs (fun x hx => hp x (h.low x (.inr (.inr hx))))
  low := h.low
  hi := h.hi.keep hs (fun x hx => hb x (.inr (.inl hx)))
  heard := h.heard.keep hs (fun x hx => hb x (.inl (.inr hx))) (fun u hu x hx => hb x (.inr (.inr (.inr ⟨u, hu, hx⟩))))
  told := h.told.keep hs (fun x hx => hb x (.inr (.inr (.inl hx))))
  ph := h.ph
  ok := h.ok
  foot := fun x hx => ⟨(h.foot x hx).1, Nat.lt_of_lt_of_le (h.foot x hx).2 hs⟩
  apart := h.apart
  apartb := h.apartb
theorem RefW.below {w w' : World} {pw b : Nat} {s : RS} {hh : List Cli.Fr} {vs : List Value} (h : RefW w pw b s hh vs) (hb : Below w.heap.size w w') : RefW w' pw b s hh vs :=
  h.keep hb.size (fun x hx => hb.block x (h.foot x hx).2) (fun x hx => hb.block x (by have := h.foot b (.inl (.inl rfl)); omega))

end Go.Proofs.YtchideljndagjabGreat
