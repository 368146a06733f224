/- Contracts of package veilkeep: a session that begins. -/
import Derived.Test.YtchideljndagjabGreatPkIdBG
import Derived.Test.YtchideljndagjabGreatPkIdBK
import Derived.Deep.DeepCutAuto
import Derived.Test.YtchideljndagjabGreatPkIdBH
namespace Go.Proofs.YtchideljndagjabGreat
open Go.ChangeShapes Go.WideShapes Go.ChangeAt Go.RowKit
set_option linter.unusedVariables false
set_option maxHeartbeats 2000000 in
set_option maxRecDepth 100000 in
theorem kmayBegin_calls (N T M D : Int) (a : Option Addr) (n c : Nat) (vi vm vs : Nat → Value) (Dd : Nat → DD) (w : World) (hD : DrawsAt w a n c vi vm vs Dd) :
    Calls Tryz.prog 29 #[.agg #[.int .i64 N, .int .i64 T, .int .i64 M, .int .i64 D], .slice a n c] w fun e w' => e = .returned (.int .i64 (begE N T M D n Dd)) ∧ Below w.heap.size w w' := by
  have HCF := hideG (fun (W : World) => kwellConfig_calls N T M D W)
  have HDR := hideG (fun (W : World) (hb : Below w.heap.size w W) (t1 : 1 ≤ T) (t2 : T ≤ 12) (j : Nat) (hj : j < n) => kwellDraw_calls N T M D (vi j) (vm j) (vs j) (Dd j).inp (Dd j).sm (Dd j).ss (Dd j).ch (Dd j).ms (Dd j).sd W ((hD.its j hj).1.below hb) ((hD.its j hj).2.1.below hb) ((hD.its j hj).2.2.1.below hb) t1 t2 (hD.its j hj).2.2.2.1 (hD.its j hj).2.2.2.2.1 (hD.its j hj).2.2.2.2.2)
  have HDD := hideG (fun (W : World) (hb : Below w.heap.size w W) => hD.below hb)
  have hle := hD.le
  have hmx := hD.mx
  clear hD
  obtain ⟨W0, hW0⟩ : ∃ W0, W0 = w.alloc (.cells #[.int .i64 N, .int .i64 T, .int .i64 M, .int .i64 D] 26) := ⟨_, rfl⟩
  have BB := hideG (show Below w.heap.size w W0 by rw [hW0]; exact (Below.refl _ _).alloc (Nat.le_refl _) _)
  have z0 : w.heap.size < W0.heap.size := by rw [hW0]; simp
  have HN := hideG (show W0.heap[w.heap.size]? = some (.cells #[.int .i64 N, .int .i64 T, .int .i64 M, .int .i64 D] 26 (0, 0)) by rw [hW0]; exact heap_alloc_new w _)
  have HW0 := hideG hW0
  clear hW0
  cases hcf : Cli.cfgB N T M D
  · have HEE := hideG (show begE N T M D n Dd = 5 by unfold begE; rw [if_pos hcf])
    rw [hcf] at HCF
    clear hcf
    go_enter Tryz.func29, Tryz.ntmps29
    go_wp2_with fail
    rw [← HW0.out]
    refine (HCF.out W0).mono ?_
    rintro e w1 ⟨rfl, hb1⟩
    have HB := hideG (BB.out.trans (hb1.mono (by omega)))
    clear hb1
    go_wp2_with fail
    go_ret
    exact ⟨ret_i64 HEE.out.symm, HB.out⟩
  obtain ⟨g1, g2, g3, g4⟩ : 1 ≤ N ∧ N ≤ 12 ∧ 1 ≤ T ∧ T ≤ 12 := by
    unfold Cli.cfgB at hcf; simp only [Bool.and_eq_true, decide_eq_true_iff] at hcf; omega
  rw [hcf] at HCF
  by_cases hn : (n : Int) = N
  rotate_left
  · have HEE := hideG (show begE N T M D n Dd = 6 by unfold begE; rw [if_neg (by rw [hcf]; simp), if_pos hn])
    have hnn : ((n : Int) != N) = true := by simpa using hn
    clear hcf
    go_enter Tryz.func29, Tryz.ntmps29
    go_wp2_with fail
    rw [← HW0.out]
    refine (HCF.out W0).mono ?_
    rintro e w1 ⟨rfl, hb1⟩
    have HB := hideG (BB.out.trans (hb1.mono (by omega)))
    obtain ⟨⟨x0, x1, x2, x3⟩, -⟩ := cells_four ((hb1.block w.heap.size z0).trans HN.out)
    have z1 := hb1.size
    clear hb1
    go_wp2_with fail
    go_ret
    exact ⟨ret_i64 HEE.out.symm, HB.out⟩
  have HEE := hideG (show begE N T M D n Dd = if ((List.range n).all fun j => Cli.drawB T M (Dd j).inp (Dd j).ch (Dd j).ms (Dd j).sd (Dd j).sm (Dd j).ss) = true then 0 else 6 by unfold begE; rw [if_neg (by rw [hcf]; simp), if_neg (by omega)])
  have hnn : ((n : Int) != N) = false := by simpa using hn
  have HBN := hideG hn
  clear hcf hn
  go_enter Tryz.func29, Tryz.ntmps29
  go_wp2_with fail
  rw [← HW0.out]
  refine (HCF.out W0).mono ?_
  rintro e w1 ⟨rfl, hb1⟩
  have HB := hideG (BB.out.trans (hb1.mono (by omega)))
  have z1 := hb1.size
  have HN1 := hideG ((hb1.block w.heap.size z0).trans HN.out)
  obtain ⟨⟨x0, x1, x2, x3⟩, -⟩ := cells_four HN1.out
  clear hb1
  go_wp2_with fail
  clear x0 x1 x2 x3
  go_loopw [5, 6] (fun q i wr => ∃ (j : Nat) (qb : Bool), q = .bool qb ∧ j ≤ n ∧ i = .int .i64 j ∧ Below w.heap.size w wr ∧ w.heap.size < wr.heap.size ∧ wr.heap[w.heap.size]? = some (.cells #[.int .i64 N, .int .i64 T, .int .i64 M, .int .i64 D] 26 (0, 0)) ∧ ∀ k, k < j → Cli.drawB T M (Dd k).inp (Dd k).ch (Dd k).ms (Dd k).sd (Dd k).sm (Dd k).ss = true) (fun _ i _ => n - (intOf i).toNat)
  case atStart => exact ⟨0, _, rfl, Nat.zero_le _, rfl, HB.out, by omega, HN1.out, fun k hk => absurd hk (Nat.not_lt_zero _)⟩
  case round =>
    obtain ⟨j, qb, rfl, hj, rfl, hbel, hzr, hcf, hall⟩ := hrel
    have HBL := hideG hbel
    have HAL := hideG hall
    have HCR := hideG hcf
    clear hbel hall
    by_cases hlt : j < n
    · obtain ⟨db, off, rfl, hdl, d0, d1, d2, d3, d4, d5⟩ := (HDD.out wr HBL.out).cells j hlt
      obtain ⟨l1, l2, l3, -⟩ := (HDD.out wr HBL.out).its j hlt
      obtain ⟨a1, k1, e1, -⟩ := l1
      obtain ⟨a2, k2, e2, -⟩ := l2
      obtain ⟨a3, k3, e3, -⟩ := l3
      have HK := hideG (fun (W : World) (hb : Below wr.heap.size wr W) => HDR.out W (HBL.out.trans (hb.mono HBL.out.size)) g3 g4 j hlt)
      rw [e1] at d0 HK
      rw [e2] at d4 HK
      rw [e3] at d5 HK
      obtain ⟨⟨x0, x1, x2, x3⟩, -⟩ := cells_four HCR.out
      have HST := hideG (fun (q : Cli.drawB T M (Dd j).inp (Dd j).ch (Dd j).ms (Dd j).sd (Dd j).sm (Dd j).ss = true) => (show ∀ k, k < j + 1 → Cli.drawB T M (Dd k).inp (Dd k).ch (Dd k).ms (Dd k).sd (Dd k).sm (Dd k).ss = true from fun k hk => by
        by_cases e : k = j
        · rw [e]; exact q
        · exact HAL.out k (by omega)))
      have HSF := hideG (fun (q : Cli.drawB T M (Dd j).inp (Dd j).ch (Dd j).ms (Dd j).sd (Dd j).sm (Dd j).ss = false) => (show ((List.range n).all fun j => Cli.drawB T M (Dd j).inp (Dd j).ch (Dd j).ms (Dd j).sd (Dd j).sm (Dd j).ss) = false from Bool.eq_false_iff.2 fun k => by
        have := List.all_eq_true.1 k j (List.mem_range.2 hlt)
        rw [q] at this; cases this))
      clear e1 e2 e3 hcf
      obtain ⟨bb, hbb⟩ : ∃ b, Cli.drawB T M (Dd j).inp (Dd j).ch (Dd j).ms (Dd j).sd (Dd j).sm (Dd j).ss = b := ⟨_, rfl⟩
      rw [hbb] at HK HST HSF
      clear hbb
      generalize (Dd j).inp.length = m1 at *
      generalize (Dd j).sm.length = m2 at *
      generalize (Dd j).ss.length = m3 at *
      generalize (Dd j).ch = ch at *
      generalize (Dd j).ms = ms at *
      generalize (Dd j).sd = sd at *
      have hjN : (j : Int) < N := by have := HBN.out; omega
      go_upto_region 9 with fail
      go_cut [5] (fun q wc => q = .bool bb ∧ Below wr.heap.size wr wc)
      case first =>
        go_region_with (go_at_call 63; refine (HK.out _ (Below.refl wr.heap.size wr).drew).mono ?_; rintro e w2 ⟨rfl, hb2⟩; have HFIN := hideG (show Below wr.heap.size wr w2 from (Below.refl wr.heap.size wr).drew.trans hb2); clear hb2)
        all_goals (go_wp2_with fail; go_meet; exact ⟨rfl, HFIN.out⟩)
      case rest =>
        obtain ⟨hq, hb2⟩ := hcut
        subst hq
        have z2 := hb2.size
        have B2 := hideG (HBL.out.trans (hb2.mono HBL.out.size))
        have HC2 := hideG ((hb2.block w.heap.size hzr).trans HCR.out)
        clear hb2 x0 x1 x2 x3 d0 d1 d2 d3 d4 d5
        cases bb
        · go_wp2_with fail
          go_ret
          refine ⟨?_, B2.out⟩
          rw [HEE.out, HSF.out (by simp)]; rfl
        · go_wp2_with fail
          go_roundw
          case rel => exact ⟨j + 1, true, rfl, by omega, by go_num, B2.out, by omega, HC2.out, HST.out (by simp)⟩
          case measure => simp [intOf]; omega
    · have ej : j = n := by omega
      subst ej
      go_wp2_with fail
      go_ret
      refine ⟨?_, HBL.out⟩
      rw [HEE.out, if_pos (List.all_eq_true.2 fun k hk => HAL.out k (List.mem_range.1 hk))]; rfl
theorem cast_of {N T M D : Int} {n : Nat} {Dd : Nat → DD} (h : begE N T M D n Dd = 0) : Cast ⟨N, T, M, D⟩ (clD N T M Dd) n := by
  unfold begE at h
  by_cases c1 : Cli.cfgB N T M D = false
  · rw [if_pos c1] at h; exact absurd h (by decide)
  rw [if_neg c1] at h
  by_cases c2 : (n : Int) ≠ N
  · rw [if_pos c2] at h; exact absurd h (by decide)
  rw [if_neg c2] at h
  have hn : (n : Int) = N := Decidable.byContradiction c2
  have c1' : Cli.cfgB N T M D = true := by cases q : Cli.cfgB N T M D with | true => rfl | false => exact absurd q c1
  by_cases c3 : ((List.range n).all fun j => Cli.drawB T M (Dd j).inp (Dd j).ch (Dd j).ms (Dd j).sd (Dd j).sm (Dd j).ss) = true
  · exact ⟨Srv.goodC_of c1', hn.symm, fun i hi => Cli.good_of c1' ⟨by omega, by omega⟩ (List.all_eq_true.1 c3 i (List.mem_range.2 hi)), fun _ _ => rfl, fun _ _ => rfl, fun _ _ => rfl, fun _ _ => rfl⟩
  · rw [if_neg c3] at h; exact absurd h (by decide)
set_option maxHeartbeats 2000000 in
set_option maxRecDepth 100000 in
theorem kbegun_no (N T M D : Int) (a : Option Addr) (n c : Nat) (vi vm vs : Nat → Value) (Dd : Nat → DD) (w : World) (hD : DrawsAt w a n c vi vm vs Dd) (hE : begE N T M D n Dd ≠ 0) :
    Calls Tryz.prog 11 #[.agg #[.int .i64 N, .int .i64 T, .int .i64 M, .int .i64 D], .slice a n c] w fun e w' => e = .returned (.tuple #[.pointer none, .bool true]) ∧ Below w.heap.size w w' := by
  have HN := hideG (fun (W : World) (hb : Below w.heap.size w W) => veilNewSes (N := N) (T := T) (M := M) (D := D) (hD.below hb))
  have HM := hideG (fun (W : World) (hb : Below w.heap.size w W) => kmayBegin_calls N T M D a n c vi vm vs Dd W (hD.below hb))
  obtain ⟨E, hEE⟩ : ∃ E, E = begE N T M D n Dd := ⟨_, rfl⟩
  rw [← hEE] at HN HM hE
  have e1 : (E != E) = false := by simp
  have e2 : (E != 0) = true := by simpa using hE
  have HNE := hideG hE
  clear hD hEE hE
  obtain ⟨W0, hW0⟩ : ∃ W0, W0 = w.alloc (.cells #[.int .i64 N, .int .i64 T, .int .i64 M, .int .i64 D] 26) := ⟨_, rfl⟩
  have BB := hideG (show Below w.heap.size w W0 by rw [hW0]; exact (Below.refl _ _).alloc (Nat.le_refl _) _)
  have z0 : w.heap.size < W0.heap.size := by rw [hW0]; simp
  have HR := hideG (show W0.heap[w.heap.size]? = some (.cells #[.int .i64 N, .int .i64 T, .int .i64 M, .int .i64 D] 26 (0, 0)) by rw [hW0]; exact heap_alloc_new w _)
  have HW0 := hideG hW0
  clear hW0
  obtain ⟨⟨x0, x1, x2, x3⟩, -⟩ := cells_four HR.out
  go_enter Tryz.func11, Tryz.ntmps11
  go_upto_region 1 with fail
  rw [← HW0.out]
  go_wp2_with fail
  refine (HN.out W0 BB.out).mono ?_
  rintro e w1 ⟨hb1, ⟨_, rfl⟩ | ⟨q, _⟩⟩
  rotate_left
  · exact absurd q HNE.out
  have B1 := hideG (BB.out.trans (hb1.mono (by omega)))
  have z1 := hb1.size
  clear x0 x1 x2 x3
  obtain ⟨⟨x0, x1, x2, x3⟩, -⟩ := cells_four ((hb1.block w.heap.size z0).trans HR.out)
  clear hb1
  go_wp2_with fail
  refine (HM.out w1 B1.out).mono ?_
  rintro e w2 ⟨rfl, hb2⟩
  have B2 := hideG (B1.out.trans (hb2.mono B1.out.size))
  clear hb2 x0 x1 x2 x3
  go_wp2_with fail
  go_ret2
  exact ⟨rfl, B2.out⟩
set_option maxHeartbeats 4000000 in
set_option maxRecDepth 100000 in
theorem kbegun_go (N T M D : Int) (a : Option Addr) (n c : Nat) (vi vm vs : Nat → Value) (Dd : Nat → DD) (w : World) (hD : DrawsAt w a n c vi vm vs Dd) (hE : begE N T M D n Dd = 0) :
    Calls Tryz.prog 11 #[.agg #[.int .i64 N, .int .i64 T, .int .i64 M, .int .i64 D], .slice a n c] w fun e w' => ∃ b, e = .returned (.tuple #[.pointer (some ⟨b, 0, none⟩), .bool true]) ∧ Below w.heap.size w w' ∧ ∃ m, SesAt w' b n ⟨N, T, M, D⟩ (clD N T M Dd) (beg (clD N T M Dd) n) m ∧ ∀ x, SesFoot b n m x → w.heap.size ≤ x := by
  have hC := cast_of hE
  have HN := hideG (fun (W : World) (hb : Below w.heap.size w W) => veilNewSes (N := N) (T := T) (M := M) (D := D) (hD.below hb))
  have HM := hideG (fun (W : World) (hb : Below w.heap.size w W) => kmayBegin_calls N T M D a n c vi vm vs Dd W (hD.below hb))
  rw [hE] at HN HM
  have hnN : ((n : Int) != N) = false := by have : N = (n : Int) := hC.num; rw [this]; simp
  have hn12 := hC.le.2
  obtain ⟨cl, hcl⟩ : ∃ cl, cl = clD N T M Dd := ⟨_, rfl⟩
  rw [← hcl] at HN hC ⊢
  have HOK := hideG (beg_ok hC)
  have HFB := hideG (beg_flB hC)
  have HGR := hideG (fun (i : Nat) (hi : i < n) (va : Value) (W : World) (hb : BytesAt W va (Frm.encF 1 (cl i).id (helloL (cl i)))) => kgreets_yes (cl i).id va (helloL (cl i)) W (helloL_ok (hC.good i hi)) hb)
  have HID := hideG hC.id
  clear hcl hD hE hC
  obtain ⟨W0, hW0⟩ : ∃ W0, W0 = w.alloc (.cells #[.int .i64 N, .int .i64 T, .int .i64 M, .int .i64 D] 26) := ⟨_, rfl⟩
  have BB := hideG (show Below w.heap.size w W0 by rw [hW0]; exact (Below.refl _ _).alloc (Nat.le_refl _) _)
  have z0 : w.heap.size < W0.heap.size := by rw [hW0]; simp
  have HR := hideG (show W0.heap[w.heap.size]? = some (.cells #[.int .i64 N, .int .i64 T, .int .i64 M, .int .i64 D] 26 (0, 0)) by rw [hW0]; exact heap_alloc_new w _)
  have HW0 := hideG hW0
  clear hW0
  obtain ⟨⟨x0, x1, x2, x3⟩, -⟩ := cells_four HR.out
  go_enter Tryz.func11, Tryz.ntmps11
  go_upto_region 1 with fail
  rw [← HW0.out]
  go_wp2_with fail
  refine (HN.out W0 BB.out).mono ?_
  rintro e w1 ⟨hb1, ⟨q, _⟩ | ⟨_, b, rfl, m, hses, hnew⟩⟩
  · exact absurd rfl q
  have B1 := hideG (BB.out.trans (hb1.mono (by omega)))
  have z1 := hb1.size
  clear x0 x1 x2 x3
  have HR1 := hideG ((hb1.block w.heap.size z0).trans HR.out)
  have HS1 := hideG hses
  have HNW := hideG (fun x (hx : SesFoot b n m x) => Nat.le_trans (Nat.le_of_lt z0) (hnew x hx))
  obtain ⟨⟨x0, x1, x2, x3⟩, -⟩ := cells_four HR1.out
  clear hb1 hses hnew
  go_wp2_with fail
  refine (HM.out w1 B1.out).mono ?_
  rintro e w2 ⟨rfl, hb2⟩
  have B2 := hideG (B1.out.trans (hb2.mono B1.out.size))
  have z2 := hb2.size
  have HS2 := hideG (HS1.out.below hb2)
  have HR2 := hideG ((hb2.block w.heap.size (by omega)).trans HR1.out)
  have HFL := hideG (vFlight HS2.out (by have := HOK.out.fl; omega) HOK.out.flb)
  clear hb2 x0 x1 x2 x3
  go_wp2_with fail
  refine HFL.out.mono ?_
  rintro e w3 ⟨v, ys, rfl, hpk, hb3⟩
  have B3 := hideG (B2.out.trans (hb3.mono B2.out.size))
  have z3 := hb3.size
  have HS3 := hideG (HS2.out.below hb3)
  have HR3 := hideG ((hb3.block w.heap.size (by omega)).trans HR2.out)
  obtain ⟨av, cv, rfl, hlc, hcm, hview⟩ := hpk.viewK
  have elen : (beg cl n).fl.length = n := hellosP_length cl n
  rw [elen] at hlc ⊢
  have HV := hideG (fun (W : World) (hW : Below w3.heap.size w3 W) (j : Nat) (hj : j < n) => (show ∃ g y, av = some ⟨g, 0, none⟩ ∧ g < W.heap.size ∧ W.cell? ⟨g, j * 3, none⟩ = some (.int .i64 ((j : Int) + 1)) ∧ W.cell? ⟨g, j * 3 + 1, none⟩ = some (.int .i64 0) ∧ W.cell? ⟨g, j * 3 + 2, none⟩ = some y ∧ BytesAt W y (Frm.encF 1 (cl j).id (helloL (cl j))) from by
    have hg := hellosP_get cl n j hj
    obtain ⟨g, y, f1, f2, f3, f4, f5, f6, f7⟩ := hview j _ hg
    exact ⟨g, y, f1, Nat.lt_of_lt_of_le f2 hW.size, (hW.cell (p := ⟨g, j * 3, none⟩) f2).trans f4, (hW.cell (p := ⟨g, j * 3 + 1, none⟩) f2).trans f5, (hW.cell (p := ⟨g, j * 3 + 2, none⟩) f2).trans f6, (bytesAt_of_owns f7 (HFB.out _ (List.mem_of_getElem? hg))).below hW⟩))
  obtain ⟨⟨x0, x1, x2, x3⟩, -⟩ := cells_four HR3.out
  clear hpk hview hb3 elen
  go_wp2_with fail
  clear x0 x1 x2 x3
  go_loopw [10] (fun i wr => ∃ j : Nat, j ≤ n ∧ i = .int .i64 j ∧ Below w3.heap.size w3 wr) (fun i _ => n - (intOf i).toNat)
  case atStart => exact ⟨0, Nat.zero_le _, rfl, Below.refl _ _⟩
  case round =>
    obtain ⟨j, hj, rfl, hbel⟩ := hrel
    have HBL := hideG hbel
    have zr := hbel.size
    clear hbel
    by_cases hlt : j < n
    · obtain ⟨g, y, rfl, gl, c0, c1, c2, hby⟩ := HV.out wr HBL.out j hlt
      have HG := hideG (HGR.out j hlt y wr hby)
      rw [HID.out j hlt] at HG
      obtain ⟨ay, cy, hy, -⟩ := bytes_view hby
      rw [hy] at c2 HG
      have HVW := hideG (fun (W : World) (hW : Below wr.heap.size wr W) => (show W.cell? ⟨g, j * 3, none⟩ = some (.int .i64 ((j : Int) + 1)) ∧ W.cell? ⟨g, j * 3 + 1, none⟩ = some (.int .i64 0) from ⟨(hW.cell (p := ⟨g, j * 3, none⟩) gl).trans c0, (hW.cell (p := ⟨g, j * 3 + 1, none⟩) gl).trans c1⟩))
      generalize (Frm.encF 1 (cl j).id (helloL (cl j))).length = le at *
      have jn : (j : Int) < (n : Int) := by omega
      have j0 : (0 : Int) ≤ (j : Int) := by omega
      have jj : ((j : Int) + 1 != (j : Int) + 1) = false := by simp
      clear hby hy c0 c1
      go_wp2_with fail
      refine HG.out.mono ?_
      rintro e w4 ⟨rfl, hb4⟩
      have B4 := hideG (HBL.out.trans (hb4.mono zr))
      have z4 := hb4.size
      obtain ⟨c0, c1⟩ := HVW.out w4 hb4
      have gl4 : g < w4.heap.size := by omega
      clear hb4 c2
      go_wp2_with fail
      go_roundw
      case rel => exact ⟨j + 1, by omega, by go_num, B4.out⟩
      case measure => simp [intOf]; omega
    · have ej : j = n := by omega
      subst ej
      go_wp2_with fail
      go_ret2
      exact ⟨b, rfl, B3.out.trans (HBL.out.mono B3.out.size), m, HS3.out.below HBL.out, HNW.out⟩
end Go.Proofs.YtchideljndagjabGreat
namespace Go.Proofs.YtchideljndagjabGreat
open Go.ChangeShapes Go.WideShapes Go.ChangeAt Go.RowKit
set_option linter.unusedVariables false
def ParAt (w : World) (B : Nat) (v : Value) : Option Pk → Prop
  | none => v = .slice none 0 0
  | some p => ∃ g o c y, v = .slice (some ⟨g, o, none⟩) 1 c ∧ 1 ≤ c ∧ c ≤ 9223372036854775807 ∧ B ≤ g ∧ g < w.heap.size ∧ w.cell? ⟨g, o, none⟩ = some (.int .i64 p.1) ∧ w.cell? ⟨g, o + 1, none⟩ = some (.int .i64 p.2.1) ∧ w.cell? ⟨g, o + 2, none⟩ = some y ∧ BytesAt w y p.2.2 ∧ ∀ x, y.ownBlock = some x → B ≤ x ∧ x < w.heap.size
structure Acted (w w' : World) (b n : Nat) (C : Srv.Cf) (cl : Nat → Cli.Cl) (s' : Sn) (m : SM) (v : Value) (op : Option Pk) : Prop where
  took : ∃ m', SesTook w w' b n C cl s' m m' ∧ ∀ g o k c, v = .slice (some ⟨g, o, none⟩) k c → ¬ SesOwn b m' g
  par : ∃ B, w.heap.size ≤ B ∧ ParAt w' B v op
theorem par_keep {w1 w2 : World} {b n : Nat} {C : Srv.Cf} {cl : Nat → Cli.Cl} {s' : Sn} {m m' : SM} {B : Nat} {v : Value} {vs : List Value} {ps : List Pk} (hp : Packs w1 B v vs ps) (hB : ∀ p ∈ ps, Frm.isB p.2.2) (ht : SesTook w1 w2 b n C cl s' m m') (hm : ∀ x, SesOwn b m x → x < B)
    {j : Nat} {p : Pk} (hj : ps[j]? = some p) : ∃ g c y, v = .slice (some ⟨g, 0, none⟩) ps.length c ∧ ps.length ≤ c ∧ c ≤ 9223372036854775807 ∧ B ≤ g ∧ g < w2.heap.size ∧ w2.cell? ⟨g, j * 3, none⟩ = some (.int .i64 p.1) ∧ w2.cell? ⟨g, j * 3 + 1, none⟩ = some (.int .i64 p.2.1) ∧ w2.cell? ⟨g, j * 3 + 2, none⟩ = some y ∧ BytesAt w2 y p.2.2 ∧ (∀ x, y.ownBlock = some x → B ≤ x ∧ x < w2.heap.size) ∧ ¬ SesOwn b m' g := by
  have z := ht.chg.size
  obtain ⟨a, c, e1, e2, e3, e4⟩ := hp.viewK
  obtain ⟨g, y, f1, f2, f3, f4, f5, f6, f7⟩ := e4 j p hj
  have hg := hp.low g (.inl (by rw [e1, f1]; rfl))
  have hbl : ∀ x, B ≤ x → x < w1.heap.size → w2.heap[x]? = w1.heap[x]? := fun x h1 h2 => ht.chg.block x h2 (fun e => by have := hm x e; omega)
  have hgb := hbl g hg.1 hg.2
  refine ⟨g, c, y, by rw [e1, f1], e2, e3, hg.1, by omega, (World.cell?_of_block (w := w1) (a := ⟨g, j * 3, none⟩) hgb).trans f4, (World.cell?_of_block (w := w1) (a := ⟨g, j * 3 + 1, none⟩) hgb).trans f5, (World.cell?_of_block (w := w1) (a := ⟨g, j * 3 + 2, none⟩) hgb).trans f6, (bytesAt_of_owns f7 (hB p (List.mem_of_getElem? hj))).keepS z (fun x hx => hbl x (f7.lt x hx).1 (f7.lt x hx).2), fun x hx => ⟨(f7.lt x hx).1, Nat.lt_of_lt_of_le (f7.lt x hx).2 z⟩, fun e => ?_⟩
  rcases ht.own g e with q | q
  · have := hm g q; omega
  · omega
def actW (w : World) (N T M D k x y : Int) (st : ByteArray) : World := (w.alloc (.cells #[.int .i64 N, .int .i64 T, .int .i64 M, .int .i64 D] 26)).alloc (.cells #[.int .i64 k, .int .i64 x, .int .i64 y, .string st] 45)
theorem actW_below (w : World) (N T M D k x y : Int) (st : ByteArray) : Below w.heap.size w (actW w N T M D k x y st) := ((Below.refl _ _).alloc (Nat.le_refl _) _).alloc (by simp) _
theorem actW_size (w : World) (N T M D k x y : Int) (st : ByteArray) : (actW w N T M D k x y st).heap.size = w.heap.size + 2 := by simp [actW]
theorem actW_rows {w W : World} {N T M D k x y : Int} {st : ByteArray} (hb : Below (actW w N T M D k x y st).heap.size (actW w N T M D k x y st) W) : (W.cell? ⟨w.heap.size, 0, none⟩ = some (.int .i64 N)) ∧ W.cell? ⟨w.heap.size + 1, 0, none⟩ = some (.int .i64 k) ∧ W.cell? ⟨w.heap.size + 1, 1, none⟩ = some (.int .i64 x) ∧ W.cell? ⟨w.heap.size + 1, 2, none⟩ = some (.int .i64 y) ∧ W.cell? ⟨w.heap.size + 1, 3, none⟩ = some (.string st) := by
  have z := actW_size w N T M D k x y st
  have k1 : ∀ o, W.cell? ⟨w.heap.size, o, none⟩ = (actW w N T M D k x y st).cell? ⟨w.heap.size, o, none⟩ := fun o => hb.cell (p := ⟨w.heap.size, o, none⟩) (by show w.heap.size < _; omega)
  have k2 : ∀ o, W.cell? ⟨w.heap.size + 1, o, none⟩ = (actW w N T M D k x y st).cell? ⟨w.heap.size + 1, o, none⟩ := fun o => hb.cell (p := ⟨w.heap.size + 1, o, none⟩) (by show w.heap.size + 1 < _; omega)
  simp only [k1, k2]
  unfold actW
  refine ⟨?_, ?_, ?_, ?_, ?_⟩ <;> simp

section
variable {w : World} {b n : Nat} {C : Srv.Cf} {cl : Nat → Cli.Cl} {s : Sn} {m : SM}
theorem flight_at (h : SesAt w b n C cl s m) (ok : SnOk C cl n s) {W : World} (hb : Below w.heap.size w W) : Calls Tryz.prog 30 #[.pointer (some ⟨b, 0, none⟩)] W fun e w' => ∃ v vs, e = .returned v ∧ Packs w' W.heap.size v vs s.fl ∧ Below W.heap.size W w' :=
  vFlight (h.below hb) (by have := ok.fl; omega) ok.flb
set_option maxHeartbeats 2000000 in
set_option maxRecDepth 100000 in
theorem act_deliver (h : SesAt w b n C cl s m) (ok : SnOk C cl n s) (hB : FlB s) (N T M D x y : Int) (hx : inI x) (st : ByteArray) (fg : Bool) (h0 : 0 < s.fl.length) :
    Calls Tryz.prog 12 #[.pointer (some ⟨b, 0, none⟩), .agg #[.int .i64 N, .int .i64 T, .int .i64 M, .int .i64 D], .agg #[.int .i64 1, .int .i64 x, .int .i64 y, .string st], .bool fg] w fun e w' => ∃ v, e = .returned (.tuple #[v, .bool true]) ∧ Acted w w' b n C cl (deliverN C cl n s (Num.pickN x s.fl.length)) m v (s.fl[(Num.pickN x s.fl.length).toNat]?) := by
  have HFL := hideG (fun (W : World) (hb : Below w.heap.size w W) => flight_at h ok hb)
  obtain ⟨a1, a2, a3⟩ := pick_in (c := x) h0
  obtain ⟨i, hi⟩ : ∃ i : Nat, (i : Int) = Num.pickN x s.fl.length := ⟨(Num.pickN x s.fl.length).toNat, by omega⟩
  have hil : i < s.fl.length := by omega
  have HDE := hideG (fun (W : World) (hb : Below w.heap.size w W) => vDeliver (h.below hb) ok (i : Int))
  have e0 : deliverE s (i : Int) = 0 := by unfold deliverE; rw [if_pos ⟨by omega, by omega⟩]
  rw [e0] at HDE
  have HPK := hideG (fun (W : World) => pick_calls x s.fl.length W hx.1 hx.2 (by omega) (by have := ok.fl; omega))
  rw [← hi] at HPK ⊢
  rw [show ((i : Int)).toNat = i by omega, List.getElem?_eq_getElem hil]
  have HG := hideG (List.getElem?_eq_getElem hil)
  have HLO := hideG (fun x (hx : SesOwn b m x) => h.low (.inl hx : SesFoot b n m x))
  have HFB := hideG hB
  have hlen : s.fl.length ≤ 300 := by have := ok.fl; omega
  obtain ⟨p, hp⟩ : ∃ p, p = s.fl[i] := ⟨_, rfl⟩
  rw [← hp] at HG ⊢
  have B0 := hideG (actW_below w N T M D 1 x y st)
  have z0 := actW_size w N T M D 1 x y st
  have HR := hideG (fun (W : World) hb => actW_rows (w := w) (W := W) (N := N) (T := T) (M := M) (D := D) (k := 1) (x := x) (y := y) (st := st) hb)
  obtain ⟨W0, hW0⟩ : ∃ W0, W0 = actW w N T M D 1 x y st := ⟨_, rfl⟩
  rw [← hW0] at B0 z0 HR
  unfold actW at hW0
  have HW0 := hideG hW0
  clear h ok hB hW0 a1 a2 a3 hi e0 hp h0
  obtain ⟨L, hL⟩ : ∃ L, L = s.fl.length := ⟨_, rfl⟩
  have HLL := hideG hL
  rw [← hL] at hil hlen HPK
  go_enter Tryz.func12, Tryz.ntmps12
  go_upto_region 1 with fail
  rw [← HW0.out]
  go_wp2_with fail
  refine (HFL.out W0 B0.out).mono ?_
  rintro e w1 ⟨v, vs, rfl, hpk, hb1⟩
  obtain ⟨q0, q1, q2, q3, q4⟩ := HR.out w1 hb1
  have z1 := hb1.size
  have B1 := hideG (B0.out.trans (hb1.mono (by omega)))
  have HDW := hideG (HDE.out w1 B1.out)
  have HPR := hideG hpk
  obtain ⟨av, cv, hv, hlc, hcm, -⟩ := hpk.viewK
  rw [← hL] at hv hlc
  have HV := hideG hv
  rw [hv]
  clear hpk hb1 hL hv
  have l0 : (0 : Int) < (L : Int) := by omega
  have hiL : (i : Int) < (L : Int) := by omega
  go_wp2_with fail
  refine (HPK.out w1).mono ?_
  rintro e w' ⟨rfl, rfl⟩
  go_wp2_with fail
  refine HDW.out.mono ?_
  rintro e w2 ⟨rfl, m', ht⟩
  have PK := hideG (par_keep HPR.out HFB.out ht (fun x hx => Nat.lt_of_lt_of_le (HLO.out x hx) (by omega)) HG.out)
  have HT := hideG (ht.after B1.out)
  clear ht
  obtain ⟨g, c, yv, f1, f2, f3, f4, f5, f6, f7, f8, f9, f10, f11⟩ := PK.out
  rw [HV.out, ← HLL.out] at f1
  obtain ⟨rfl, rfl⟩ : av = some ⟨g, 0, none⟩ ∧ cv = c := by injection f1 with q1 q2 q3; exact ⟨q1, q3⟩
  have HP2 := hideG (And.intro f4 (And.intro f5 (And.intro f6 (And.intro f7 (And.intro f8 (And.intro f9 (And.intro f10 f11)))))))
  clear f1 f4 f5 f6 f7 f8 f9 f10 f11 q0 q1 q2 q3 q4
  go_wp2_with fail
  go_ret2
  obtain ⟨f4, f5, f6, f7, f8, f9, f10, f11⟩ := HP2.out
  refine ⟨_, rfl, ⟨m', HT.out, fun g' o' k' c' e => ?_⟩, W0.heap.size, by omega, ?_⟩
  · injection e with e1 e2 e3
    injection e1 with e1
    injection e1 with e4 e5 e6
    rw [← e4]; exact f11
  · refine ⟨g, i * 3, cv - i, yv, ?_, by omega, by omega, f4, f5, f6, f7, f8, f9, f10⟩
    congr 1
    all_goals (first | rfl | omega | (congr 2; omega))
set_option maxHeartbeats 2000000 in
set_option maxRecDepth 100000 in
theorem act_drop (h : SesAt w b n C cl s m) (ok : SnOk C cl n s) (N T M D x y : Int) (st : ByteArray) (fg : Bool) (hx : inI x) (h0 : 0 < s.fl.length) :
    Calls Tryz.prog 12 #[.pointer (some ⟨b, 0, none⟩), .agg #[.int .i64 N, .int .i64 T, .int .i64 M, .int .i64 D], .agg #[.int .i64 2, .int .i64 x, .int .i64 y, .string st], .bool fg] w fun e w' => e = .returned (.tuple #[.slice none 0 0, .bool true]) ∧ ∃ m', SesTook w w' b n C cl (dropN s (Num.pickN x s.fl.length)) m m' := by
  have HFL := hideG (fun (W : World) (hb : Below w.heap.size w W) => flight_at h ok hb)
  obtain ⟨a1, a2, a3⟩ := pick_in (c := x) h0
  have HDE := hideG (fun (W : World) (hb : Below w.heap.size w W) => vDrop (h.below hb) ok (Num.pickN x s.fl.length))
  have e0 : deliverE s (Num.pickN x s.fl.length) = 0 := by unfold deliverE; rw [if_pos ⟨a1, a2⟩]
  rw [e0] at HDE
  have HPK := hideG (fun (W : World) => pick_calls x s.fl.length W hx.1 hx.2 (by omega) (by have := ok.fl; omega))
  have hlen : s.fl.length ≤ 300 := by have := ok.fl; omega
  obtain ⟨i, hi⟩ : ∃ i, i = Num.pickN x s.fl.length := ⟨_, rfl⟩
  rw [← hi] at HPK HDE ⊢
  have B0 := hideG (actW_below w N T M D 2 x y st)
  have z0 := actW_size w N T M D 2 x y st
  have HR := hideG (fun (W : World) hb => actW_rows (w := w) (W := W) (N := N) (T := T) (M := M) (D := D) (k := 2) (x := x) (y := y) (st := st) hb)
  obtain ⟨W0, hW0⟩ : ∃ W0, W0 = actW w N T M D 2 x y st := ⟨_, rfl⟩
  rw [← hW0] at B0 z0 HR
  unfold actW at hW0
  have HW0 := hideG hW0
  clear hW0
  clear h ok a1 a2 a3 hi e0
  obtain ⟨L, hL⟩ : ∃ L, L = s.fl.length := ⟨_, rfl⟩
  rw [← hL] at h0 hlen HPK
  go_enter Tryz.func12, Tryz.ntmps12
  go_upto_region 1 with fail
  rw [← HW0.out]
  go_wp2_with fail
  refine (HFL.out W0 B0.out).mono ?_
  rintro e w1 ⟨v, vs, rfl, hpk, hb1⟩
  obtain ⟨q0, q1, q2, q3, q4⟩ := HR.out w1 hb1
  have z1 := hb1.size
  have B1 := hideG (B0.out.trans (hb1.mono (by omega)))
  obtain ⟨av, cv, hv, -⟩ := hpk.viewK
  rw [← hL] at hv
  rw [hv]
  clear hpk hv hL
  have HDW := hideG (HDE.out w1 B1.out)
  clear hb1
  have l0 : (0 : Int) < (L : Int) := by omega
  go_wp2_with fail
  refine (HPK.out w1).mono ?_
  rintro e w' ⟨rfl, rfl⟩
  go_wp2_with fail
  refine HDW.out.mono ?_
  rintro e w2 ⟨rfl, m', ht⟩
  have HT := hideG (ht.after B1.out)
  clear ht q0 q1 q2 q3 q4
  go_wp2_with fail
  go_ret2
  exact ⟨rfl, m', HT.out⟩
set_option maxHeartbeats 2000000 in
set_option maxRecDepth 100000 in
theorem act_double (h : SesAt w b n C cl s m) (ok : SnOk C cl n s) (N T M D x y : Int) (st : ByteArray) (fg : Bool) (hx : inI x) (h0 : 0 < s.fl.length) :
    Calls Tryz.prog 12 #[.pointer (some ⟨b, 0, none⟩), .agg #[.int .i64 N, .int .i64 T, .int .i64 M, .int .i64 D], .agg #[.int .i64 3, .int .i64 x, .int .i64 y, .string st], .bool fg] w fun e w' => e = .returned (.tuple #[.slice none 0 0, .bool true]) ∧ ∃ m', SesTook w w' b n C cl (doubleN s (Num.pickN x s.fl.length)) m m' := by
  have HFL := hideG (fun (W : World) (hb : Below w.heap.size w W) => flight_at h ok hb)
  obtain ⟨a1, a2, a3⟩ := pick_in (c := x) h0
  have HDE := hideG (fun (W : World) (hb : Below w.heap.size w W) => vDouble (h.below hb) (Num.pickN x s.fl.length))
  have e0 : doubleE s (Num.pickN x s.fl.length) = if s.fl.length < 200 then 0 else 8 := by unfold doubleE; rw [if_pos ⟨a1, a2⟩]
  rw [e0] at HDE
  have HPK := hideG (fun (W : World) => pick_calls x s.fl.length W hx.1 hx.2 (by omega) (by have := ok.fl; omega))
  have hlen : s.fl.length ≤ 300 := by have := ok.fl; omega
  obtain ⟨i, hi⟩ : ∃ i, i = Num.pickN x s.fl.length := ⟨_, rfl⟩
  rw [← hi] at HPK HDE ⊢
  have B0 := hideG (actW_below w N T M D 3 x y st)
  have z0 := actW_size w N T M D 3 x y st
  have HR := hideG (fun (W : World) hb => actW_rows (w := w) (W := W) (N := N) (T := T) (M := M) (D := D) (k := 3) (x := x) (y := y) (st := st) hb)
  obtain ⟨W0, hW0⟩ : ∃ W0, W0 = actW w N T M D 3 x y st := ⟨_, rfl⟩
  rw [← hW0] at B0 z0 HR
  unfold actW at hW0
  have HW0 := hideG hW0
  clear hW0
  clear h ok a1 a2 a3 hi e0
  obtain ⟨L, hL⟩ : ∃ L, L = s.fl.length := ⟨_, rfl⟩
  rw [← hL] at h0 hlen HPK HDE
  by_cases hfull : L < 200
  · rw [if_pos hfull] at HDE
    go_enter Tryz.func12, Tryz.ntmps12
    go_upto_region 1 with fail
    rw [← HW0.out]
    go_wp2_with fail
    refine (HFL.out W0 B0.out).mono ?_
    rintro e w1 ⟨v, vs, rfl, hpk, hb1⟩
    obtain ⟨q0, q1, q2, q3, q4⟩ := HR.out w1 hb1
    have z1 := hb1.size
    have B1 := hideG (B0.out.trans (hb1.mono (by omega)))
    obtain ⟨av, cv, hv, -⟩ := hpk.viewK
    rw [← hL] at hv
    rw [hv]
    clear hpk hv hL
    have HDW := hideG (HDE.out w1 B1.out)
    clear hb1
    have l0 : (0 : Int) < (L : Int) := by omega
    have l2 : (L : Int) < 200 := by omega
    go_wp2_with fail
    refine (HPK.out w1).mono ?_
    rintro e w' ⟨rfl, rfl⟩
    go_wp2_with fail
    refine HDW.out.mono ?_
    rintro e w2 ⟨rfl, m', ht⟩
    have HT := hideG (ht.after B1.out)
    clear ht q0 q1 q2 q3 q4
    go_wp2_with fail
    go_ret2
    exact ⟨rfl, m', HT.out⟩
  · rw [if_neg hfull] at HDE
    go_enter Tryz.func12, Tryz.ntmps12
    go_upto_region 1 with fail
    rw [← HW0.out]
    go_wp2_with fail
    refine (HFL.out W0 B0.out).mono ?_
    rintro e w1 ⟨v, vs, rfl, hpk, hb1⟩
    obtain ⟨q0, q1, q2, q3, q4⟩ := HR.out w1 hb1
    have z1 := hb1.size
    have B1 := hideG (B0.out.trans (hb1.mono (by omega)))
    obtain ⟨av, cv, hv, -⟩ := hpk.viewK
    rw [← hL] at hv
    rw [hv]
    clear hpk hv hL
    have HDW := hideG (HDE.out w1 B1.out)
    clear hb1
    have l0 : (0 : Int) < (L : Int) := by omega
    have l2 : (200 : Int) ≤ (L : Int) := by omega
    go_wp2_with fail
    refine (HPK.out w1).mono ?_
    rintro e w' ⟨rfl, rfl⟩
    go_wp2_with fail
    refine HDW.out.mono ?_
    rintro e w2 ⟨rfl, m', ht⟩
    have HT := hideG (ht.after B1.out)
    clear ht q0 q1 q2 q3 q4
    go_wp2_with fail
    go_ret2
    exact ⟨rfl, m', HT.out⟩
set_option maxHeartbeats 2000000 in
set_option maxRecDepth 100000 in
theorem act_tick (h : SesAt w b n C cl s m) (ok : SnOk C cl n s) (N T M D x y : Int) (st : ByteArray) (fg : Bool)  :
    Calls Tryz.prog 12 #[.pointer (some ⟨b, 0, none⟩), .agg #[.int .i64 N, .int .i64 T, .int .i64 M, .int .i64 D], .agg #[.int .i64 5, .int .i64 x, .int .i64 y, .string st], .bool fg] w fun e w' => e = .returned (.tuple #[.slice none 0 0, .bool true]) ∧ ∃ m', SesTook w w' b n C cl (tickN C s) m m' := by
  have HFL := hideG (fun (W : World) (hb : Below w.heap.size w W) => flight_at h ok hb)
  have HDE := hideG (fun (W : World) (hb : Below w.heap.size w W) => vTick (h.below hb) ok)
  have B0 := hideG (actW_below w N T M D 5 x y st)
  have z0 := actW_size w N T M D 5 x y st
  have HR := hideG (fun (W : World) hb => actW_rows (w := w) (W := W) (N := N) (T := T) (M := M) (D := D) (k := 5) (x := x) (y := y) (st := st) hb)
  obtain ⟨W0, hW0⟩ : ∃ W0, W0 = actW w N T M D 5 x y st := ⟨_, rfl⟩
  rw [← hW0] at B0 z0 HR
  unfold actW at hW0
  have HW0 := hideG hW0
  clear hW0
  clear h ok
  obtain ⟨L, hL⟩ : ∃ L, L = s.fl.length := ⟨_, rfl⟩
  go_enter Tryz.func12, Tryz.ntmps12
  go_upto_region 1 with fail
  rw [← HW0.out]
  go_wp2_with fail
  refine (HFL.out W0 B0.out).mono ?_
  rintro e w1 ⟨v, vs, rfl, hpk, hb1⟩
  obtain ⟨q0, q1, q2, q3, q4⟩ := HR.out w1 hb1
  have z1 := hb1.size
  have B1 := hideG (B0.out.trans (hb1.mono (by omega)))
  obtain ⟨av, cv, hv, -⟩ := hpk.viewK
  rw [← hL] at hv
  rw [hv]
  clear hpk hv hL
  have HDW := hideG (HDE.out w1 B1.out)
  clear hb1
  go_wp2_with fail
  refine HDW.out.mono ?_
  rintro e w2 ⟨rfl, m', ht⟩
  have HT := hideG (ht.after B1.out)
  clear ht q0 q1 q2 q3 q4
  go_wp2_with fail
  go_ret2
  exact ⟨rfl, m', HT.out⟩
set_option maxHeartbeats 2000000 in
set_option maxRecDepth 100000 in
theorem act_crash (h : SesAt w b n C cl s m) (ok : SnOk C cl n s) (N T M D x y : Int) (st : ByteArray) (fg : Bool) (hx : inI x) (hN : N = (n : Int)) (hn : 1 ≤ n ∧ n ≤ 12) :
    Calls Tryz.prog 12 #[.pointer (some ⟨b, 0, none⟩), .agg #[.int .i64 N, .int .i64 T, .int .i64 M, .int .i64 D], .agg #[.int .i64 6, .int .i64 x, .int .i64 y, .string st], .bool fg] w fun e w' => e = .returned (.tuple #[.slice none 0 0, .bool true]) ∧ ∃ m', SesTook w w' b n C cl (crashU n s (1 + Num.pickN x N)) m m' := by
  have HFL := hideG (fun (W : World) (hb : Below w.heap.size w W) => flight_at h ok hb)
  have a1 := Num.pickN_lo x N (by omega)
  have a2 := Num.pickN_hi x N (by omega)
  have HDE := hideG (fun (W : World) (hb : Below w.heap.size w W) => vCrash (h.below hb) ok (1 + Num.pickN x N))
  have e0 : crashE n (1 + Num.pickN x N) = 0 := by unfold crashE; rw [if_pos ⟨by omega, by omega⟩]
  rw [e0] at HDE
  have HPK := hideG (fun (W : World) => pick_calls x N W hx.1 hx.2 (by omega) (by omega))
  have n12 : N ≤ 12 := by omega
  obtain ⟨i, hi⟩ : ∃ i, i = Num.pickN x N := ⟨_, rfl⟩
  rw [← hi] at HPK HDE a1 a2 ⊢
  have B0 := hideG (actW_below w N T M D 6 x y st)
  have z0 := actW_size w N T M D 6 x y st
  have HR := hideG (fun (W : World) hb => actW_rows (w := w) (W := W) (N := N) (T := T) (M := M) (D := D) (k := 6) (x := x) (y := y) (st := st) hb)
  obtain ⟨W0, hW0⟩ : ∃ W0, W0 = actW w N T M D 6 x y st := ⟨_, rfl⟩
  rw [← hW0] at B0 z0 HR
  unfold actW at hW0
  have HW0 := hideG hW0
  clear hW0
  clear h ok hi e0 hN
  obtain ⟨L, hL⟩ : ∃ L, L = s.fl.length := ⟨_, rfl⟩
  go_enter Tryz.func12, Tryz.ntmps12
  go_upto_region 1 with fail
  rw [← HW0.out]
  go_wp2_with fail
  refine (HFL.out W0 B0.out).mono ?_
  rintro e w1 ⟨v, vs, rfl, hpk, hb1⟩
  obtain ⟨q0, q1, q2, q3, q4⟩ := HR.out w1 hb1
  have z1 := hb1.size
  have B1 := hideG (B0.out.trans (hb1.mono (by omega)))
  obtain ⟨av, cv, hv, -⟩ := hpk.viewK
  rw [← hL] at hv
  rw [hv]
  clear hpk hv hL
  have HDW := hideG (HDE.out w1 B1.out)
  clear hb1
  go_wp2_with fail
  refine (HPK.out w1).mono ?_
  rintro e w' ⟨rfl, rfl⟩
  go_wp2_with fail
  refine HDW.out.mono ?_
  rintro e w2 ⟨rfl, m', ht⟩
  have HT := hideG (ht.after B1.out)
  clear ht q0 q1 q2 q3 q4
  go_wp2_with fail
  go_ret2
  exact ⟨rfl, m', HT.out⟩
set_option maxHeartbeats 2000000 in
set_option maxRecDepth 100000 in
theorem act_skip (h : SesAt w b n C cl s m) (ok : SnOk C cl n s) (N T M D k x y : Int) (st : ByteArray) (fg : Bool) (k1 : k ≠ 1) (k2 : k ≠ 2) (k3 : k ≠ 3) (k4 : k ≠ 4) (k5 : k ≠ 5) (k6 : k ≠ 6) :
    Calls Tryz.prog 12 #[.pointer (some ⟨b, 0, none⟩), .agg #[.int .i64 N, .int .i64 T, .int .i64 M, .int .i64 D], .agg #[.int .i64 k, .int .i64 x, .int .i64 y, .string st], .bool fg] w fun e w' => e = .returned (.tuple #[.slice none 0 0, .bool true]) ∧ ∃ m', SesTook w w' b n C cl (s) m m' := by
  have HFL := hideG (fun (W : World) (hb : Below w.heap.size w W) => flight_at h ok hb)
  have HSE := hideG h
  have f1 : (k == 1) = false := by simpa using k1
  have f2 : (k == 2) = false := by simpa using k2
  have f3 : (k == 3) = false := by simpa using k3
  have f4 : (k == 4) = false := by simpa using k4
  have f5 : (k == 5) = false := by simpa using k5
  have f6 : (k == 6) = false := by simpa using k6
  have B0 := hideG (actW_below w N T M D k x y st)
  have z0 := actW_size w N T M D k x y st
  have HR := hideG (fun (W : World) hb => actW_rows (w := w) (W := W) (N := N) (T := T) (M := M) (D := D) (k := k) (x := x) (y := y) (st := st) hb)
  obtain ⟨W0, hW0⟩ : ∃ W0, W0 = actW w N T M D k x y st := ⟨_, rfl⟩
  rw [← hW0] at B0 z0 HR
  unfold actW at hW0
  have HW0 := hideG hW0
  clear hW0
  clear h ok k1 k2 k3 k4 k5 k6
  obtain ⟨L, hL⟩ : ∃ L, L = s.fl.length := ⟨_, rfl⟩
  go_enter Tryz.func12, Tryz.ntmps12
  go_upto_region 1 with fail
  rw [← HW0.out]
  go_wp2_with fail
  refine (HFL.out W0 B0.out).mono ?_
  rintro e w1 ⟨v, vs, rfl, hpk, hb1⟩
  obtain ⟨q0, q1, q2, q3, q4⟩ := HR.out w1 hb1
  have z1 := hb1.size
  have B1 := hideG (B0.out.trans (hb1.mono (by omega)))
  obtain ⟨av, cv, hv, -⟩ := hpk.viewK
  rw [← hL] at hv
  rw [hv]
  clear hpk hv hL
  have HT := hideG (sesTook_same HSE.out B1.out)
  clear hb1
  go_wp2_with fail
  go_ret2
  exact ⟨rfl, m, HT.out⟩
set_option maxHeartbeats 2000000 in
set_option maxRecDepth 100000 in
theorem act_empty (h : SesAt w b n C cl s m) (ok : SnOk C cl n s) (N T M D k x y : Int) (st : ByteArray) (fg : Bool) (hk : k = 1 ∨ k = 2 ∨ k = 3) (h0 : s.fl.length = 0) :
    Calls Tryz.prog 12 #[.pointer (some ⟨b, 0, none⟩), .agg #[.int .i64 N, .int .i64 T, .int .i64 M, .int .i64 D], .agg #[.int .i64 k, .int .i64 x, .int .i64 y, .string st], .bool fg] w fun e w' => e = .returned (.tuple #[.slice none 0 0, .bool true]) ∧ ∃ m', SesTook w w' b n C cl (s) m m' := by
  have HFL := hideG (fun (W : World) (hb : Below w.heap.size w W) => flight_at h ok hb)
  have HSE := hideG h
  have B0 := hideG (actW_below w N T M D k x y st)
  have z0 := actW_size w N T M D k x y st
  have HR := hideG (fun (W : World) hb => actW_rows (w := w) (W := W) (N := N) (T := T) (M := M) (D := D) (k := k) (x := x) (y := y) (st := st) hb)
  obtain ⟨W0, hW0⟩ : ∃ W0, W0 = actW w N T M D k x y st := ⟨_, rfl⟩
  rw [← hW0] at B0 z0 HR
  unfold actW at hW0
  have HW0 := hideG hW0
  clear hW0
  clear h ok
  obtain ⟨L, hL⟩ : ∃ L, L = s.fl.length := ⟨_, rfl⟩
  rw [← hL] at h0
  rcases hk with rfl | rfl | rfl
  · go_enter Tryz.func12, Tryz.ntmps12
    go_upto_region 1 with fail
    rw [← HW0.out]
    go_wp2_with fail
    refine (HFL.out W0 B0.out).mono ?_
    rintro e w1 ⟨v, vs, rfl, hpk, hb1⟩
    obtain ⟨q0, q1, q2, q3, q4⟩ := HR.out w1 hb1
    have z1 := hb1.size
    have B1 := hideG (B0.out.trans (hb1.mono (by omega)))
    obtain ⟨av, cv, hv, -⟩ := hpk.viewK
    rw [← hL] at hv
    rw [hv]
    clear hpk hv hL
    have HT := hideG (sesTook_same HSE.out B1.out)
    clear hb1
    subst h0
    go_wp2_with fail
    go_ret2
    exact ⟨rfl, m, HT.out⟩
  · go_enter Tryz.func12, Tryz.ntmps12
    go_upto_region 1 with fail
    rw [← HW0.out]
    go_wp2_with fail
    refine (HFL.out W0 B0.out).mono ?_
    rintro e w1 ⟨v, vs, rfl, hpk, hb1⟩
    obtain ⟨q0, q1, q2, q3, q4⟩ := HR.out w1 hb1
    have z1 := hb1.size
    have B1 := hideG (B0.out.trans (hb1.mono (by omega)))
    obtain ⟨av, cv, hv, -⟩ := hpk.viewK
    rw [← hL] at hv
    rw [hv]
    clear hpk hv hL
    have HT := hideG (sesTook_same HSE.out B1.out)
    clear hb1
    subst h0
    go_wp2_with fail
    go_ret2
    exact ⟨rfl, m, HT.out⟩
  · go_enter Tryz.func12, Tryz.ntmps12
    go_upto_region 1 with fail
    rw [← HW0.out]
    go_wp2_with fail
    refine (HFL.out W0 B0.out).mono ?_
    rintro e w1 ⟨v, vs, rfl, hpk, hb1⟩
    obtain ⟨q0, q1, q2, q3, q4⟩ := HR.out w1 hb1
    have z1 := hb1.size
    have B1 := hideG (B0.out.trans (hb1.mono (by omega)))
    obtain ⟨av, cv, hv, -⟩ := hpk.viewK
    rw [← hL] at hv
    rw [hv]
    clear hpk hv hL
    have HT := hideG (sesTook_same HSE.out B1.out)
    clear hb1
    subst h0
    go_wp2_with fail
    go_ret2
    exact ⟨rfl, m, HT.out⟩
end
end Go.Proofs.YtchideljndagjabGreat
