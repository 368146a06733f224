/- Contracts of package veilkeep: a session that begins. -/
import Derived.Test.YtchideljndagjabGreatPkLiBF
import Derived.Test.YtchideljndagjabGreatPkLiBJ
import Derived.Deep.DeepCutAuto
import Derived.Test.YtchideljndagjabGreatPkLiBG
import Derived.Test.YtchideljndagjabGreatPkLiAB
import Derived.WalkSpells
import Derived.Test.YtchideljndagjabGreatPkLiAV
import Derived.BigQuiet
namespace Go.Proofs.YtchideljndagjabGreat
open Go.ChangeShapes Go.WideShapes Go.ChangeAt Go.RowKit
set_option linter.unusedVariables false

set_option maxHeartbeats 2000000 in
set_option maxRecDepth 100000 in
theorem kmayBegin_calls (N T M D : Int) (a : Option Addr) (n c : Nat) (vi vm vs : Nat → Value) (Dd : Nat → DD) (w : World) (hD : DrawsAt w a n c vi vm vs Dd) :
    Calls Tryz.prog 29 #[.agg #[.int .i64 N, .int .i64 T, .int .i64 M, .int .i64 D], .slice a n c] w fun e w' => e = .returned (.int .i64 (begE N T M D n Dd)) ∧ Below w.heap.size w w' := by
  have HCF := hideG (fun (W : World) => kwellConfig_calls N T M D W)
  have HDR := hideG (fun (W : World) (hb : Below w.heap.size w W) (t1 : 1 ≤ T) (t2 : T ≤ 12) (j : Nat) (hj : j < n) => kwellDraw_calls N T M D (vi j) (vm j) (vs j) (Dd j).inp (Dd j).sm (Dd j).ss (Dd j).ch (Dd j).ms (Dd j).sd W ((hD.its j hj).1.below hb) ((hD.its j hj).2.1.below hb) ((hD.its j hj).2.2.1.below hb) t1 t2 (hD.its j hj).2.2.2.1 (hD.its j hj).2.2.2.2.1 (hD.its j hj).2.2.2.2.2)
  have HDD := hideG (fun (W : World) (hb : Below w.heap.size w W) => hD.below hb)
  have hle := hD.le
  have hmx := hD.mx
  clear hD
  obtain ⟨W0, hW0⟩ : ∃ W0, W0 = w.alloc (.cells #[.int .i64 N, .int .i64 T, .int .i64 M, .int .i64 D] 26) := ⟨_, rfl⟩
  have BB := hideG (show Below w.heap.size w W0 by rw [hW0]; exact (Below.refl _ _).alloc (Nat.le_refl _) _)
  have z0 : w.heap.size < W0.heap.size := by rw [hW0]; simp
  have HN := hideG (show W0.heap[w.heap.size]? = some (.cells #[.int .i64 N, .int .i64 T, .int .i64 M, .int .i64 D] 26 (0, 0)) by rw [hW0]; exact heap_alloc_new w _)
  have HW0 := hideG hW0
  clear hW0
  cases hcf : Cli.cfgB N T M D
  · have HEE := hideG (show begE N T M D n Dd = 5 by unfold begE; rw [if_pos hcf])
    rw [hcf] at HCF
    clear hcf
    go_enter Tryz.func29, Tryz.ntmps29
    go_wp2_with fail
    rw [← HW0.out]
    refine (HCF.out W0).mono ?_
    rintro e w1 ⟨rfl, hb1⟩
    have HB := hideG (BB.out.trans (hb1.mono (by omega)))
    clear hb1
    go_wp2_with fail
    go_ret
    exact ⟨ret_i64 HEE.out.symm, HB.out⟩
  obtain ⟨g1, g2, g3, g4⟩ : 1 ≤ N ∧ N ≤ 12 ∧ 1 ≤ T ∧ T ≤ 12 := by
    unfold Cli.cfgB at hcf; simp only [Bool.and_eq_true, decide_eq_true_iff] at hcf; omega
  rw [hcf] at HCF
  by_cases hn : (n : Int) = N
  rotate_left
  · have HEE := hideG (show begE N T M D n Dd = 6 by unfold begE; rw [if_neg (by rw [hcf]; simp), if_pos hn])
    have hnn : ((n : Int) != N) = true := by simpa using hn
    clear hcf
    go_enter Tryz.func29, Tryz.ntmps29
    go_wp2_with fail
    rw [← HW0.out]
    refine (HCF.out W0).mono ?_
    rintro e w1 ⟨rfl, hb1⟩
    have HB := hideG (BB.out.trans (hb1.mono (by omega)))
    obtain ⟨⟨x0, x1, x2, x3⟩, -⟩ := cells_four ((hb1.block w.heap.size z0).trans HN.out)
    have z1 := hb1.size
    clear hb1
    go_wp2_with fail
    go_ret
    exact ⟨ret_i64 HEE.out.symm, HB.out⟩
  have HEE := hideG (show begE N T M D n Dd = if ((List.range n).all fun j => Cli.drawB T M (Dd j).inp (Dd j).ch (Dd j).ms (Dd j).sd (Dd j).sm (Dd j).ss) = true then 0 else 6 by unfold begE; rw [if_neg (by rw [hcf]; simp), if_neg (by omega)])
  have hnn : ((n : Int) != N) = false := by simpa using hn
  have HBN := hideG hn
  clear hcf hn
  go_enter Tryz.func29, Tryz.ntmps29
  go_wp2_with fail
  rw [← HW0.out]
  refine (HCF.out W0).mono ?_
  rintro e w1 ⟨rfl, hb1⟩
  have HB := hideG (BB.out.trans (hb1.mono (by omega)))
  have z1 := hb1.size
  have HN1 := hideG ((hb1.block w.heap.size z0).trans HN.out)
  obtain ⟨⟨x0, x1, x2, x3⟩, -⟩ := cells_four HN1.out
  clear hb1
  go_wp2_with fail
  clear x0 x1 x2 x3
  go_loopw [5, 6] (fun q i wr => ∃ (j : Nat) (qb : Bool), q = .bool qb ∧ j ≤ n ∧ i = .int .i64 j ∧ Below w.heap.size w wr ∧ w.heap.size < wr.heap.size ∧ wr.heap[w.heap.size]? = some (.cells #[.int .i64 N, .int .i64 T, .int .i64 M, .int .i64 D] 26 (0, 0)) ∧ ∀ k, k < j → Cli.drawB T M (Dd k).inp (Dd k).ch (Dd k).ms (Dd k).sd (Dd k).sm (Dd k).ss = true) (fun _ i _ => n - (intOf i).toNat)
  case atStart => exact ⟨0, _, rfl, Nat.zero_le _, rfl, HB.out, by omega, HN1.out, fun k hk => absurd hk (Nat.not_lt_zero _)⟩
  case round =>
    obtain ⟨j, qb, rfl, hj, rfl, hbel, hzr, hcf, hall⟩ := hrel
    have HBL := hideG hbel
    have HAL := hideG hall
    have HCR := hideG hcf
    clear hbel hall
    by_cases hlt : j < n
    · obtain ⟨db, off, rfl, hdl, d0, d1, d2, d3, d4, d5⟩ := (HDD.out wr HBL.out).cells j hlt
      obtain ⟨l1, l2, l3, -⟩ := (HDD.out wr HBL.out).its j hlt
      obtain ⟨a1, k1, e1, -⟩ := l1
      obtain ⟨a2, k2, e2, -⟩ := l2
      obtain ⟨a3, k3, e3, -⟩ := l3
      have HK := hideG (fun (W : World) (hb : Below wr.heap.size wr W) => HDR.out W (HBL.out.trans (hb.mono HBL.out.size)) g3 g4 j hlt)
      rw [e1] at d0 HK
      rw [e2] at d4 HK
      rw [e3] at d5 HK
      obtain ⟨⟨x0, x1, x2, x3⟩, -⟩ := cells_four HCR.out
      have HST := hideG (fun (q : Cli.drawB T M (Dd j).inp (Dd j).ch (Dd j).ms (Dd j).sd (Dd j).sm (Dd j).ss = true) => (show ∀ k, k < j + 1 → Cli.drawB T M (Dd k).inp (Dd k).ch (Dd k).ms (Dd k).sd (Dd k).sm (Dd k).ss = true from fun k hk => by
        by_cases e : k = j
        · rw [e]; exact q
        · exact HAL.out k (by omega)))
      have HSF := hideG (fun (q : Cli.drawB T M (Dd j).inp (Dd j).ch (Dd j).ms (Dd j).sd (Dd j).sm (Dd j).ss = false) => (show ((List.range n).all fun j => Cli.drawB T M (Dd j).inp (Dd j).ch (Dd j).ms (Dd j).sd (Dd j).sm (Dd j).ss) = false from Bool.eq_false_iff.2 fun k => by
        have := List.all_eq_true.1 k j (List.mem_range.2 hlt)
        rw [q] at this; cases this))
      clear e1 e2 e3 hcf
      obtain ⟨bb, hbb⟩ : ∃ b, Cli.drawB T M (Dd j).inp (Dd j).ch (Dd j).ms (Dd j).sd (Dd j).sm (Dd j).ss = b := ⟨_, rfl⟩
      rw [hbb] at HK HST HSF
      clear hbb
      generalize (Dd j).inp.length = m1 at *
      generalize (Dd j).sm.length = m2 at *
      generalize (Dd j).ss.length = m3 at *
      generalize (Dd j).ch = ch at *
      generalize (Dd j).ms = ms at *
      generalize (Dd j).sd = sd at *
      have hjN : (j : Int) < N := by have := HBN.out; omega
      go_upto_region 9 with fail
      go_cut [5] (fun q wc => q = .bool bb ∧ Below wr.heap.size wr wc)
      case first =>
        go_region_with (go_at_call 63; refine (HK.out _ (Below.refl wr.heap.size wr).drew).mono ?_; rintro e w2 ⟨rfl, hb2⟩; have HFIN := hideG (show Below wr.heap.size wr w2 from (Below.refl wr.heap.size wr).drew.trans hb2); clear hb2)
        all_goals (go_wp2_with fail; go_meet; exact ⟨rfl, HFIN.out⟩)
      case rest =>
        obtain ⟨hq, hb2⟩ := hcut
        subst hq
        have z2 := hb2.size
        have B2 := hideG (HBL.out.trans (hb2.mono HBL.out.size))
        have HC2 := hideG ((hb2.block w.heap.size hzr).trans HCR.out)
        clear hb2 x0 x1 x2 x3 d0 d1 d2 d3 d4 d5
        cases bb
        · go_wp2_with fail
          go_ret
          refine ⟨?_, B2.out⟩
          rw [HEE.out, HSF.out (by simp)]; rfl
        · go_wp2_with fail
          go_roundw
          case rel => exact ⟨j + 1, true, rfl, by omega, by go_num, B2.out, by omega, HC2.out, HST.out (by simp)⟩
          case measure => simp [intOf]; omega
    · have ej : j = n := by omega
      subst ej
      go_wp2_with fail
      go_ret
      refine ⟨?_, HBL.out⟩
      rw [HEE.out, if_pos (List.all_eq_true.2 fun k hk => HAL.out k (List.mem_range.1 hk))]; rfl

/-- Who takes part in a session that may begin. -/
theorem cast_of {N T M D : Int} {n : Nat} {Dd : Nat → DD} (h : begE N T M D n Dd = 0) : Cast ⟨N, T, M, D⟩ (clD N T M Dd) n := by
  unfold begE at h
  by_cases c1 : Cli.cfgB N T M D = false
  · rw [if_pos c1] at h; exact absurd h (by decide)
  rw [if_neg c1] at h
  by_cases c2 : (n : Int) ≠ N
  · rw [if_pos c2] at h; exact absurd h (by decide)
  rw [if_neg c2] at h
  have hn : (n : Int) = N := Decidable.byContradiction c2
  have c1' : Cli.cfgB N T M D = true := by cases q : Cli.cfgB N T M D with | true => rfl | false => exact absurd q c1
  by_cases c3 : ((List.range n).all fun j => Cli.drawB T M (Dd j).inp (Dd j).ch (Dd j).ms (Dd j).sd (Dd j).sm (Dd j).ss) = true
  · exact ⟨Srv.goodC_of c1', hn.symm, fun i hi => Cli.good_of c1' ⟨by omega, by omega⟩ (List.all_eq_true.1 c3 i (List.mem_range.2 hi)), fun _ _ => rfl, fun _ _ => rfl, fun _ _ => rfl, fun _ _ => rfl⟩
  · rw [if_neg c3] at h; exact absurd h (by decide)

set_option maxHeartbeats 2000000 in
set_option maxRecDepth 100000 in
theorem kbegun_no (N T M D : Int) (a : Option Addr) (n c : Nat) (vi vm vs : Nat → Value) (Dd : Nat → DD) (w : World) (hD : DrawsAt w a n c vi vm vs Dd) (hE : begE N T M D n Dd ≠ 0) :
    Calls Tryz.prog 11 #[.agg #[.int .i64 N, .int .i64 T, .int .i64 M, .int .i64 D], .slice a n c] w fun e w' => e = .returned (.tuple #[.pointer none, .bool true]) ∧ Below w.heap.size w w' := by
  have HN := hideG (fun (W : World) (hb : Below w.heap.size w W) => veilNewSes (N := N) (T := T) (M := M) (D := D) (hD.below hb))
  have HM := hideG (fun (W : World) (hb : Below w.heap.size w W) => kmayBegin_calls N T M D a n c vi vm vs Dd W (hD.below hb))
  obtain ⟨E, hEE⟩ : ∃ E, E = begE N T M D n Dd := ⟨_, rfl⟩
  rw [← hEE] at HN HM hE
  have e1 : (E != E) = false := by simp
  have e2 : (E != 0) = true := by simpa using hE
  have HNE := hideG hE
  clear hD hEE hE
  obtain ⟨W0, hW0⟩ : ∃ W0, W0 = w.alloc (.cells #[.int .i64 N, .int .i64 T, .int .i64 M, .int .i64 D] 26) := ⟨_, rfl⟩
  have BB := hideG (show Below w.heap.size w W0 by rw [hW0]; exact (Below.refl _ _).alloc (Nat.le_refl _) _)
  have z0 : w.heap.size < W0.heap.size := by rw [hW0]; simp
  have HR := hideG (show W0.heap[w.heap.size]? = some (.cells #[.int .i64 N, .int .i64 T, .int .i64 M, .int .i64 D] 26 (0, 0)) by rw [hW0]; exact heap_alloc_new w _)
  have HW0 := hideG hW0
  clear hW0
  obtain ⟨⟨x0, x1, x2, x3⟩, -⟩ := cells_four HR.out
  go_enter Tryz.func11, Tryz.ntmps11
  go_upto_region 1 with fail
  rw [← HW0.out]
  go_wp2_with fail
  refine (HN.out W0 BB.out).mono ?_
  rintro e w1 ⟨hb1, ⟨_, rfl⟩ | ⟨q, _⟩⟩
  rotate_left
  · exact absurd q HNE.out
  have B1 := hideG (BB.out.trans (hb1.mono (by omega)))
  have z1 := hb1.size
  clear x0 x1 x2 x3
  obtain ⟨⟨x0, x1, x2, x3⟩, -⟩ := cells_four ((hb1.block w.heap.size z0).trans HR.out)
  clear hb1
  go_wp2_with fail
  refine (HM.out w1 B1.out).mono ?_
  rintro e w2 ⟨rfl, hb2⟩
  have B2 := hideG (B1.out.trans (hb2.mono B1.out.size))
  clear hb2 x0 x1 x2 x3
  go_wp2_with fail
  go_ret2
  exact ⟨rfl, B2.out⟩

set_option maxHeartbeats 4000000 in
set_option maxRecDepth 100000 in
theorem kbegun_go (N T M D : Int) (a : Option Addr) (n c : Nat) (vi vm vs : Nat → Value) (Dd : Nat → DD) (w : World) (hD : DrawsAt w a n c vi vm vs Dd) (hE : begE N T M D n Dd = 0) :
    Calls Tryz.prog 11 #[.agg #[.int .i64 N, .int .i64 T, .int .i64 M, .int .i64 D], .slice a n c] w fun e w' => ∃ b, e = .returned (.tuple #[.pointer (some ⟨b, 0, none⟩), .bool true]) ∧ Below w.heap.size w w' ∧ ∃ m, SesAt w' b n ⟨N, T, M, D⟩ (clD N T M Dd) (beg (clD N T M Dd) n) m ∧ ∀ x, SesFoot b n m x → w.heap.size ≤ x := by
  have hC := cast_of hE
  have HN := hideG (fun (W : World) (hb : Below w.heap.size w W) => veilNewSes (N := N) (T := T) (M := M) (D := D) (hD.below hb))
  have HM := hideG (fun (W : World) (hb : Below w.heap.size w W) => kmayBegin_calls N T M D a n c vi vm vs Dd W (hD.below hb))
  rw [hE] at HN HM
  have hnN : ((n : Int) != N) = false := by have : N = (n : Int) := hC.num; rw [this]; simp
  have hn12 := hC.le.2
  obtain ⟨cl, hcl⟩ : ∃ cl, cl = clD N T M Dd := ⟨_, rfl⟩
  rw [← hcl] at HN hC ⊢
  have HOK := hideG (beg_ok hC)
  have HFB := hideG (beg_flB hC)
  have HGR := hideG (fun (i : Nat) (hi : i < n) (va : Value) (W : World) (hb : BytesAt W va (Frm.encF 1 (cl i).id (helloL (cl i)))) => kgreets_yes (cl i).id va (helloL (cl i)) W (helloL_ok (hC.good i hi)) hb)
  have HID := hideG hC.id
  clear hcl hD hE hC
  obtain ⟨W0, hW0⟩ : ∃ W0, W0 = w.alloc (.cells #[.int .i64 N, .int .i64 T, .int .i64 M, .int .i64 D] 26) := ⟨_, rfl⟩
  have BB := hideG (show Below w.heap.size w W0 by rw [hW0]; exact (Below.refl _ _).alloc (Nat.le_refl _) _)
  have z0 : w.heap.size < W0.heap.size := by rw [hW0]; simp
  have HR := hideG (show W0.heap[w.heap.size]? = some (.cells #[.int .i64 N, .int .i64 T, .int .i64 M, .int .i64 D] 26 (0, 0)) by rw [hW0]; exact heap_alloc_new w _)
  have HW0 := hideG hW0
  clear hW0
  obtain ⟨⟨x0, x1, x2, x3⟩, -⟩ := cells_four HR.out
  go_enter Tryz.func11, Tryz.ntmps11
  go_upto_region 1 with fail
  rw [← HW0.out]
  go_wp2_with fail
  refine (HN.out W0 BB.out).mono ?_
  rintro e w1 ⟨hb1, ⟨q, _⟩ | ⟨_, b, rfl, m, hses, hnew⟩⟩
  · exact absurd rfl q
  have B1 := hideG (BB.out.trans (hb1.mono (by omega)))
  have z1 := hb1.size
  clear x0 x1 x2 x3
  have HR1 := hideG ((hb1.block w.heap.size z0).trans HR.out)
  have HS1 := hideG hses
  have HNW := hideG (fun x (hx : SesFoot b n m x) => Nat.le_trans (Nat.le_of_lt z0) (hnew x hx))
  obtain ⟨⟨x0, x1, x2, x3⟩, -⟩ := cells_four HR1.out
  clear hb1 hses hnew
  go_wp2_with fail
  refine (HM.out w1 B1.out).mono ?_
  rintro e w2 ⟨rfl, hb2⟩
  have B2 := hideG (B1.out.trans (hb2.mono B1.out.size))
  have z2 := hb2.size
  have HS2 := hideG (HS1.out.below hb2)
  have HR2 := hideG ((hb2.block w.heap.size (by omega)).trans HR1.out)
  have HFL := hideG (vFlight HS2.out (by have := HOK.out.fl; omega) HOK.out.flb)
  clear hb2 x0 x1 x2 x3
  go_wp2_with fail
  refine HFL.out.mono ?_
  rintro e w3 ⟨v, ys, rfl, hpk, hb3⟩
  have B3 := hideG (B2.out.trans (hb3.mono B2.out.size))
  have z3 := hb3.size
  have HS3 := hideG (HS2.out.below hb3)
  have HR3 := hideG ((hb3.block w.heap.size (by omega)).trans HR2.out)
  obtain ⟨av, cv, rfl, hlc, hcm, hview⟩ := hpk.viewK
  have elen : (beg cl n).fl.length = n := hellosP_length cl n
  rw [elen] at hlc ⊢
  have HV := hideG (fun (W : World) (hW : Below w3.heap.size w3 W) (j : Nat) (hj : j < n) => (show ∃ g y, av = some ⟨g, 0, none⟩ ∧ g < W.heap.size ∧ W.cell? ⟨g, j * 3, none⟩ = some (.int .i64 ((j : Int) + 1)) ∧ W.cell? ⟨g, j * 3 + 1, none⟩ = some (.int .i64 0) ∧ W.cell? ⟨g, j * 3 + 2, none⟩ = some y ∧ BytesAt W y (Frm.encF 1 (cl j).id (helloL (cl j))) from by
    have hg := hellosP_get cl n j hj
    obtain ⟨g, y, f1, f2, f3, f4, f5, f6, f7⟩ := hview j _ hg
    exact ⟨g, y, f1, Nat.lt_of_lt_of_le f2 hW.size, (hW.cell (p := ⟨g, j * 3, none⟩) f2).trans f4, (hW.cell (p := ⟨g, j * 3 + 1, none⟩) f2).trans f5, (hW.cell (p := ⟨g, j * 3 + 2, none⟩) f2).trans f6, (bytesAt_of_owns f7 (HFB.out _ (List.mem_of_getElem? hg))).below hW⟩))
  obtain ⟨⟨x0, x1, x2, x3⟩, -⟩ := cells_four HR3.out
  clear hpk hview hb3 elen
  go_wp2_with fail
  clear x0 x1 x2 x3
  go_loopw [10] (fun i wr => ∃ j : Nat, j ≤ n ∧ i = .int .i64 j ∧ Below w3.heap.size w3 wr) (fun i _ => n - (intOf i).toNat)
  case atStart => exact ⟨0, Nat.zero_le _, rfl, Below.refl _ _⟩
  case round =>
    obtain ⟨j, hj, rfl, hbel⟩ := hrel
    have HBL := hideG hbel
    have zr := hbel.size
    clear hbel
    by_cases hlt : j < n
    · obtain ⟨g, y, rfl, gl, c0, c1, c2, hby⟩ := HV.out wr HBL.out j hlt
      have HG := hideG (HGR.out j hlt y wr hby)
      rw [HID.out j hlt] at HG
      obtain ⟨ay, cy, hy, -⟩ := bytes_view hby
      rw [hy] at c2 HG
      have HVW := hideG (fun (W : World) (hW : Below wr.heap.size wr W) => (show W.cell? ⟨g, j * 3, none⟩ = some (.int .i64 ((j : Int) + 1)) ∧ W.cell? ⟨g, j * 3 + 1, none⟩ = some (.int .i64 0) from ⟨(hW.cell (p := ⟨g, j * 3, none⟩) gl).trans c0, (hW.cell (p := ⟨g, j * 3 + 1, none⟩) gl).trans c1⟩))
      generalize (Frm.encF 1 (cl j).id (helloL (cl j))).length = le at *
      have jn : (j : Int) < (n : Int) := by omega
      have j0 : (0 : Int) ≤ (j : Int) := by omega
      have jj : ((j : Int) + 1 != (j : Int) + 1) = false := by simp
      clear hby hy c0 c1
      go_wp2_with fail
      refine HG.out.mono ?_
      rintro e w4 ⟨rfl, hb4⟩
      have B4 := hideG (HBL.out.trans (hb4.mono zr))
      have z4 := hb4.size
      obtain ⟨c0, c1⟩ := HVW.out w4 hb4
      have gl4 : g < w4.heap.size := by omega
      clear hb4 c2
      go_wp2_with fail
      go_roundw
      case rel => exact ⟨j + 1, by omega, by go_num, B4.out⟩
      case measure => simp [intOf]; omega
    · have ej : j = n := by omega
      subst ej
      go_wp2_with fail
      go_ret2
      exact ⟨b, rfl, B3.out.trans (HBL.out.mono B3.out.size), m, HS3.out.below HBL.out, HNW.out⟩
end Go.Proofs.YtchideljndagjabGreat

namespace Go.Proofs.YtchideljndagjabGreat
open Go.ChangeShapes Go.WideShapes Go.ChangeAt Go.RowKit
set_option linter.unusedVariables false

section
variable {w : World} {b n : Nat} {C : Srv.Cf} {cl : Nat → Cli.Cl} {s : Sn} {m : SM}
theorem flight_at (h : SesAt w b n C cl s m) (ok : SnOk C cl n s) {W : World} (hb : Below w.heap.size w W) : Calls Tryz.prog 30 #[.pointer (some ⟨b, 0, none⟩)] W fun e w' => ∃ v vs, e = .returned v ∧ Packs w' W.heap.size v vs s.fl ∧ Below W.heap.size W w' :=
  vFlight (h.below hb) (by have := ok.fl; omega) ok.flb
end

end Go.Proofs.YtchideljndagjabGreat

namespace Go.Proofs.YtchideljndagjabGreat
open Go.ChangeShapes Go.WideShapes Go.ChangeAt Go.RowKit
set_option linter.unusedVariables false

theorem infoBool : (Tryz.prog.info? 4).map (fun i => (i.zero, i.size, i.bytes)) = some (some (.bool false), 1, 1) := by kernel_rfl

/-- A row of bools that the call has made. -/
def BRow (w : World) (B : Nat) (g n : Nat) (bs : List Bool) : Prop :=
  bs.length = n ∧ w.ownsRow B 4 1 (.slice (some ⟨g, 0, none⟩) n n) n (bs.map Value.bool)

theorem BRow.cell {w : World} {B g n : Nat} {bs : List Bool} (h : BRow w B g n bs) (j : Nat) (hj : j < n) : w.cell? ⟨g, j, none⟩ = some (.bool (bs.getD j false)) ∧ w.frozen? ⟨g, j, none⟩ = false := by
  refine ⟨?_, h.2.frozenAt j⟩
  rw [h.2.cellAt j (by omega), List.getElem?_map, List.getD_eq_getElem?_getD, List.getElem?_eq_getElem (by rw [h.1]; exact hj)]; rfl

theorem BRow.set {w : World} {B g n : Nat} {bs : List Bool} (h : BRow w B g n bs) (j : Nat) : BRow (w.setCell ⟨g, j, none⟩ (.bool true)) B g n (bs.set j true) := by
  refine ⟨by rw [List.length_set]; exact h.1, ?_⟩
  have := (h.2.stored j (.bool true)).1
  rw [← List.map_set] at this
  exact this

theorem BRow.below {w w' : World} {B g n : Nat} {bs : List Bool} (h : BRow w B g n bs) (hb : Below w.heap.size w w') : BRow w' B g n bs := by
  refine ⟨h.1, ?_⟩
  obtain ⟨h1, h2⟩ := h.2
  refine ⟨h1, ?_⟩
  rcases h2 with ⟨h2, _⟩ | ⟨g', cap, cur, e, h3, h4, h5⟩
  · cases h2
  · refine .inr ⟨g', cap, cur, e, h3, ?_, h5⟩
    rw [hb.block g' ?_]; exact h4
    by_cases hx : g' < w.heap.size
    · exact hx
    · rw [Array.getElem?_eq_none (by omega)] at h4; cases h4

theorem BRow.lt {w : World} {B g n : Nat} {bs : List Bool} (h : BRow w B g n bs) : B ≤ g ∧ g < w.heap.size := h.2.lt g rfl

theorem count_on (bs : List Bool) (j : Nat) (hj : j < bs.length) (h : bs.getD j false = false) : (bs.set j true).count true = bs.count true + 1 := by
  rw [List.getD_eq_getElem?_getD, List.getElem?_eq_getElem hj, Option.getD_some] at h
  rw [List.count_set hj, h]
  simp

theorem get_set (bs : List Bool) (i j : Nat) (hi : i < bs.length) : (bs.set i true).getD j false = if i = j then true else bs.getD j false := by
  rw [List.getD_eq_getElem?_getD, List.getD_eq_getElem?_getD, List.getElem?_set]
  by_cases e : i = j
  · subst e; simp [hi]
  · simp [e]

/-- All but the first: then there are as many as they are. -/
theorem count_all (bs : List Bool) (h0 : bs.getD 0 false = false) (h : ∀ j, 1 ≤ j → j < bs.length → bs.getD j false = true) (hl : 0 < bs.length) : bs.count true = bs.length - 1 := by
  cases bs with
  | nil => simp at hl
  | cons b bs =>
    have hb : b = false := h0
    subst hb
    have : ∀ x ∈ bs, true = x := by
      intro x hx
      obtain ⟨i, hi, e⟩ := List.getElem_of_mem hx
      have := h (i + 1) (by omega) (by simp; omega)
      rw [List.getD_eq_getElem?_getD, List.getElem?_cons_succ, List.getElem?_eq_getElem hi, e] at this
      exact this.symm
    rw [List.count_cons, List.count_eq_length.2 this]; simp

end Go.Proofs.YtchideljndagjabGreat

namespace Go.Proofs.YtchideljndagjabGreat
open Go.ChangeShapes Go.WideShapes Go.ChangeAt Go.RowKit
set_option linter.unusedVariables false

theorem BRow.setv {w : World} {B g n : Nat} {bs : List Bool} (h : BRow w B g n bs) (j : Nat) (b : Bool) : BRow (w.setCell ⟨g, j, none⟩ (.bool b)) B g n (bs.set j b) := by
  refine ⟨by rw [List.length_set]; exact h.1, ?_⟩
  have := (h.2.stored j (.bool b)).1
  rw [← List.map_set] at this
  exact this

theorem count_le_n (bs : List Bool) (n : Nat) (hl : bs.length = n + 1) (h0 : bs.getD 0 false = false) : bs.count true ≤ n := by
  cases bs with
  | nil => simp at hl
  | cons b bs =>
    have : b = false := h0
    subst this
    have := List.count_le_length (a := true) (l := bs)
    simp at hl
    rw [List.count_cons]; simp; omega

theorem set_off (bs : List Bool) (j : Nat) (h : bs.getD j false = false) (hj : j < bs.length) : bs.set j false = bs := by
  apply List.ext_getElem?
  intro i
  rw [List.getElem?_set]
  by_cases e : j = i
  · subst e
    rw [if_pos rfl, if_pos hj]
    rw [List.getD_eq_getElem?_getD, List.getElem?_eq_getElem hj, Option.getD_some] at h
    rw [List.getElem?_eq_getElem hj, h]
  · rw [if_neg e]

set_option maxHeartbeats 1000000 in
set_option maxRecDepth 100000 in
theorem some_calls (n : Nat) (who : Int) (want : Nat) (w : World) (hn : n ≤ 12) (hw : want ≤ n) (hb : -9223372036854775808 ≤ who) (hb' : who ≤ 9223372036854775807) :
    Calls Tryz.prog 17 #[.int .i64 (n : Int), .int .i64 who, .int .i64 (want : Int)] w fun e w' => ∃ g, e = .returned (.slice (some ⟨g, 0, none⟩) (n + 1) (n + 1)) ∧ ∃ bs, BRow w' w.heap.size g (n + 1) bs ∧ bs.getD 0 false = false ∧
      want ≤ bs.count true ∧ Below w.heap.size w w' := by
  obtain ⟨i0, hi, hz0, hz1, hz2⟩ := info_parts infoBool
  go_enter Tryz.func17, Tryz.ntmps17
  go_wp2_with (at_make; refine wpList_make_full _ rfl _ _ 53 rfl w.heap.size 4 i0 (.bool false) 1 Tryz.underlying53 hi hz0 hz1 _ _ _ _ (n + 1) rfl rfl (by omega) (by omega) ?m1 ?m2 ?m3 ?_)
  case m1 => rw [hz2]; omega
  case m2 => unfold maxLen; omega
  case m3 => exact Nat.le_refl _
  intro w1 hown1 hgrow1
  have hb1 := (Below.refl w.heap.size w).grown hgrow1 (Nat.le_refl _) (by simp)
  have hr1 : BRow w1 w.heap.size w.heap.size (n + 1) (List.replicate (n + 1) false) := by
    refine ⟨by simp, ?_⟩
    rw [List.map_replicate, ← toList_madeCells_one]
    exact hown1
  have HB1 := hideG hb1
  have HR1 := hideG hr1
  clear hb1 hown1 hgrow1 hr1
  go_wp2_with fail
  go_loopw [8, 9] (fun c u wr => ∃ (bs : List Bool) (cc : Nat) (uu : Int), 1 ≤ uu ∧ uu ≤ (n : Int) + 1 ∧ cc ≤ n ∧ c = .int .i64 cc ∧ u = .int .i64 uu ∧ BRow wr w.heap.size w.heap.size (n + 1) bs ∧ bs.getD 0 false = false ∧
    bs.count true = cc ∧ (∀ j, uu.toNat ≤ j → bs.getD j false = false) ∧ Below w.heap.size w wr) (fun _ u _ => ((n : Int) + 1 - intOf u).toNat)
  case atStart => exact ⟨List.replicate (n + 1) false, 0, 1, by omega, by omega, by omega, rfl, rfl, HR1.out, by simp, by simp [List.count_replicate], fun j _ => by simp [List.getD_eq_getElem?_getD, List.getElem?_replicate]; split <;> rfl, HB1.out⟩
  case round =>
    obtain ⟨bs, cc, uu, u1, u2, c1, rfl, rfl, hr, hz, hcnt, hoff, hbl⟩ := hrel
    have HR := hideG hr
    have HZ := hideG hz
    have HC := hideG hcnt
    have HF := hideG hoff
    have HB := hideG hbl
    clear hz hcnt hoff hbl
    by_cases hu : uu ≤ (n : Int)
    · obtain ⟨x1, x2⟩ := hr.cell uu.toNat (by omega)
      clear hr
      go_wp2_with fail
      · go_roundw
        case rel =>
          have l1 := HR.out.1
          have hu0 : uu.toNat ≠ 0 := by omega
          have lc := count_le_n (bs.set uu.toNat true) n (by rw [List.length_set]; exact l1) (by rw [get_set _ _ _ (by omega), if_neg hu0]; exact HZ.out)
          rw [count_on _ _ (by omega) (HF.out _ (Nat.le_refl _)), HC.out] at lc
          refine ⟨bs.set uu.toNat true, cc + 1, uu + 1, by omega, by omega, by omega, by go_num, rfl, HR.out.set uu.toNat, ?_, ?_, fun j hj => ?_, HB.out.setCell (by simp) _⟩
          · rw [get_set _ _ _ (by omega), if_neg hu0]; exact HZ.out
          · rw [count_on _ _ (by omega) (HF.out _ (Nat.le_refl _)), HC.out]
          · rw [get_set _ _ _ (by omega), if_neg (by omega)]; exact HF.out j (by omega)
        case measure => simp [intOf]; omega
      · go_roundw
        case rel =>
          have l1 := HR.out.1
          have S := HR.out.setv uu.toNat false
          rw [set_off _ _ (HF.out _ (Nat.le_refl _)) (by omega)] at S
          exact ⟨bs, cc, uu + 1, by omega, by omega, by omega, rfl, rfl, S, HZ.out, HC.out, fun j hj => HF.out j (by omega), HB.out.setCell (by simp) _⟩
        case measure => simp [intOf]; omega
    · have ku : uu = (n : Int) + 1 := by omega
      subst ku
      clear hr
      go_wp2_with fail
      go_loopw [8, 10] (fun c u wr => ∃ (bs : List Bool) (cc : Nat) (uu : Int), 1 ≤ uu ∧ uu ≤ (n : Int) + 1 ∧ cc ≤ n ∧ c = .int .i64 cc ∧ u = .int .i64 uu ∧ BRow wr w.heap.size w.heap.size (n + 1) bs ∧ bs.getD 0 false = false ∧ bs.count true = cc ∧ (∀ j, 1 ≤ j → j < uu.toNat → bs.getD j false = true) ∧ Below w.heap.size w wr) (fun _ u _ => ((n : Int) + 1 - intOf u).toNat)
      case atStart => exact ⟨bs, cc, 1, by omega, by omega, by omega, rfl, rfl, HR.out, HZ.out, HC.out, fun j h1 h2 => by omega, HB.out⟩
      case round =>
        clear HR HZ HC HF HB
        obtain ⟨bs, cc, uu, u1, u2, c1, rfl, rfl, hr, hz, hcnt, hon, hbl⟩ := hrel
        have HR := hideG hr
        have HZ := hideG hz
        have HC := hideG hcnt
        have HF := hideG hon
        have HB := hideG hbl
        clear hz hcnt hon hbl
        by_cases hu : uu ≤ (n : Int)
        · by_cases hc : cc < want
          · obtain ⟨x1, x2⟩ := hr.cell uu.toNat (by omega)
            have hci : (cc : Int) < (want : Int) := by omega
            clear hr
            cases hv : bs.getD uu.toNat false
            · rw [hv] at x1
              have HV := hideG hv
              clear hv
              go_wp2_with fail
              go_roundw
              case rel =>
                have l1 := HR.out.1
                have hu0 : uu.toNat ≠ 0 := by omega
                have lc := count_le_n (bs.set uu.toNat true) n (by rw [List.length_set]; exact l1) (by rw [get_set _ _ _ (by omega), if_neg hu0]; exact HZ.out)
                rw [count_on _ _ (by omega) HV.out, HC.out] at lc
                refine ⟨bs.set uu.toNat true, cc + 1, uu + 1, by omega, by omega, by omega, by go_num, rfl, HR.out.set uu.toNat, ?_, ?_, fun j h1 h2 => ?_, HB.out.setCell (by simp) _⟩
                · rw [get_set _ _ _ (by omega), if_neg hu0]; exact HZ.out
                · rw [count_on _ _ (by omega) HV.out, HC.out]
                · rw [get_set _ _ _ (by omega)]
                  by_cases e : uu.toNat = j
                  · rw [if_pos e]
                  · rw [if_neg e]; exact HF.out j h1 (by omega)
              case measure => simp [intOf]; omega
            · rw [hv] at x1
              have HV := hideG hv
              clear hv
              go_wp2_with fail
              go_roundw
              case rel =>
                refine ⟨bs, cc, uu + 1, by omega, by omega, by omega, rfl, rfl, HR.out, HZ.out, HC.out, fun j h1 h2 => ?_, HB.out⟩
                by_cases e : uu.toNat = j
                · rw [← e]; exact HV.out
                · exact HF.out j h1 (by omega)
              case measure => simp [intOf]; omega
          · have hci : ¬ ((cc : Int) < (want : Int)) := by omega
            clear hr
            go_wp2_with fail
            go_ret
            exact ⟨_, rfl, bs, HR.out, HZ.out, by rw [HC.out]; omega, HB.out⟩
        · have ku : uu = (n : Int) + 1 := by omega
          subst ku
          clear hr
          go_wp2_with fail
          go_ret
          refine ⟨_, rfl, bs, HR.out, HZ.out, ?_, HB.out⟩
          have l1 := HR.out.1
          have := count_all bs HZ.out (fun j h1 h2 => HF.out j h1 (by omega)) (by omega)
          have := HC.out
          omega

theorem range_count (bs : List Bool) : ((List.range bs.length).filter fun u => bs.getD u false).length = bs.count true := by
  induction bs with
  | nil => rfl
  | cons b bs ih =>
    rw [List.length_cons, List.range_succ_eq_map, List.filter_cons]
    have e : ((List.map Nat.succ (List.range bs.length)).filter fun u => (b :: bs).getD u false).length = bs.count true := by
      rw [List.filter_map, List.length_map, ← ih]; rfl
    cases b
    · show ((List.map Nat.succ (List.range bs.length)).filter fun u => (false :: bs).getD u false).length = _
      rw [e, List.count_cons]; simp
    · show (0 :: ((List.map Nat.succ (List.range bs.length)).filter fun u => (true :: bs).getD u false)).length = _
      rw [List.length_cons, e, List.count_cons]; simp

end Go.Proofs.YtchideljndagjabGreat

namespace Go.Proofs.YtchideljndagjabGreat
open Go.ChangeShapes Go.WideShapes Go.ChangeAt Go.RowKit
set_option linter.unusedVariables false

/-- Raw numbers, one after the other. -/
def ChAt (w : World) (g : Nat) (v : Value) (z : Nat) : Prop := w.heap[g]? = some (.cells #[v, .int .i64 (z : Int)] 57 (0, 0))
section
variable {w w' : World} {g : Nat} {v : Value} {z : Nat}
theorem ChAt.lt (h : ChAt w g v z) : g < w.heap.size := by
  by_cases q : g < w.heap.size
  · exact q
  · unfold ChAt at h; rw [Array.getElem?_eq_none (by omega)] at h; cases h
theorem ChAt.block (h : ChAt w g v z) (e : w'.heap[g]? = w.heap[g]?) : ChAt w' g v z := e.trans h
theorem ChAt.below (h : ChAt w g v z) (hb : Below w.heap.size w w') : ChAt w' g v z := h.block (hb.block g h.lt)
theorem ChAt.cells (h : ChAt w g v z) : w.cell? ⟨g, 0, none⟩ = some v ∧ w.cell? ⟨g, 1, none⟩ = some (.int .i64 (z : Int)) ∧ ∀ i, w.frozen? ⟨g, i, none⟩ = false :=
  ⟨by rw [cell_of_row w g 0 _ _ (0, 0) h]; rfl, by rw [cell_of_row w g 1 _ _ (0, 0) h]; rfl, fun i => frozen_of_row w g i _ _ h⟩
theorem ChAt.set (h : ChAt w g v z) : ChAt (w.setCell ⟨g, 1, none⟩ (.int .i64 ((z : Int) + 1))) g v (z + 1) := by
  unfold ChAt
  rw [heap_setCell_same w g 1 _ _ _ h]
  rfl
end

set_option maxHeartbeats 2000000 in
set_option maxRecDepth 100000 in
theorem knext_calls {w : World} {g : Nat} {v : Value} {cs : List Int} {z : Nat} (h : ChAt w g v z) (hlist : ListAt w v cs) (hz : z ≤ 1000000) (q : Int) (hq : inI q) :
    Calls Tryz.prog 40 #[.pointer (some ⟨g, 0, none⟩), .int .i64 q] w fun e w' => ∃ x : Int, e = .returned (.int .i64 x) ∧ ∃ z', ChAt w' g v z' ∧ z' ≤ z + 1 ∧ (1 ≤ q → 0 ≤ x ∧ x < q) ∧ (q < 1 → x = 0) ∧ Chg (fun y => y = g) w w' := by
  have hgl := h.lt
  have H := hideG h
  obtain ⟨c0, c1, fz⟩ := h.cells
  have f1 := fz 1
  obtain ⟨a, cap, hv, l1, l2, l3, l4⟩ := hlist
  rw [hv] at c0
  have HV := hideG hv
  have L3 := hideG l3
  have L4 := hideG l4
  obtain ⟨q1, q2⟩ := hq
  clear h fz hv l3 l4
  obtain ⟨L, hL⟩ : ∃ L, L = cs.length := ⟨_, rfl⟩
  have HL := hideG hL
  rw [← hL] at c0 l1
  clear hL
  unfold maxLen at l2
  by_cases h0 : L = 0
  · subst h0
    go_enter Tryz.func40, Tryz.ntmps40
    go_wp2_with fail
    go_ret
    refine ⟨0, rfl, z, H.out, by omega, fun e => by omega, ?_, Chg.refl _ _⟩
    first | rfl | (intro _; rfl)
  · have hL0 : 0 < L := by omega
    have hL1 : (0 : Int) < (L : Int) := by omega
    have hLn : ¬ (L : Int) = 0 := by omega
    by_cases hq1 : q < 1
    · go_enter Tryz.func40, Tryz.ntmps40
      go_wp2_with fail
      go_ret
      refine ⟨0, rfl, z, H.out, by omega, fun e => by omega, ?_, Chg.refl _ _⟩
      first | rfl | (intro _; rfl)
    · obtain ⟨i, hi⟩ : ∃ i, i = z % L := ⟨_, rfl⟩
      have hil : i < L := by rw [hi]; exact Nat.mod_lt _ hL0
      have hmd : (z : Int).tmod (L : Int) = (i : Int) := by rw [Int.tmod_eq_emod_of_nonneg (by omega), hi]; rfl
      have hiL : (i : Int) < (L : Int) := by omega
      rcases L4.out with l4 | ⟨lb, lo, rfl, ll, lc⟩
      · exfalso; have := HL.out; rw [l4] at this; simp at this; omega
      have e0 := lc i (by have := HL.out; omega)
      obtain ⟨xv, hxv⟩ : ∃ xv, xv = cs.getD i 0 := ⟨_, rfl⟩
      have hxi : inI xv := by
        have hc : i < cs.length := by have := HL.out; omega
        rw [hxv, List.getD_eq_getElem?_getD, List.getElem?_eq_getElem hc]
        exact L3.out _ (List.getElem_mem hc)
      rw [← hxv] at e0
      have HPK := hideG (fun (W : World) => pick_calls xv q W hxi.1 hxi.2 (by omega) q2)
      have r1 := Num.pickN_lo xv q (by omega)
      have r2 := Num.pickN_hi xv q (by omega)
      obtain ⟨pv, hpv⟩ : ∃ pv, pv = Num.pickN xv q := ⟨_, rfl⟩
      rw [← hpv] at HPK r1 r2
      have FIN := hideG (fun (W : World) (hb : Below w.heap.size w W) => (show ∃ z', ChAt (W.setCell ⟨g, 1, none⟩ (.int .i64 ((z : Int) + 1))) g v z' ∧ z' ≤ z + 1 ∧ (1 ≤ q → 0 ≤ pv ∧ pv < q) ∧ (q < 1 → pv = 0) ∧ Chg (fun y => y = g) w (W.setCell ⟨g, 1, none⟩ (.int .i64 ((z : Int) + 1))) from ⟨z + 1, (H.out.below hb).set, Nat.le_refl _, fun _ => ⟨r1, r2⟩, fun e => absurd e hq1, (Chg.of_below (S := fun y => y = g) hb).also (Chg.setCell W ⟨g, 1, none⟩ _)⟩))
      clear hi hxv hpv lc hxi r1 r2 h0
      go_enter Tryz.func40, Tryz.ntmps40
      go_upto_region 3 with fail
      go_quiet ((go_at_call 21; exact Calls.quiet_of_same (HPK.out _)))
      go_wp2_with fail
      go_ret
      obtain ⟨z', r1, r2, r3, r4, r5⟩ := FIN.out _ (below_drewN _ _)
      refine ⟨_, rfl, z', r1, r2, ?_, r4, r5⟩
      first | exact r3 | exact r3 (by omega)

set_option maxHeartbeats 2000000 in
set_option maxRecDepth 100000 in
theorem kof_calls {w : World} {B g n : Nat} {bs : List Bool} (hn : n ≤ 12) (h : BRow w B g (n + 1) bs) (p0 pt : Int) (h0 : 0 ≤ p0 ∧ p0 ≤ 100) (ht : 0 ≤ pt ∧ pt ≤ 100) (ya : Option Addr) (yn yc : Nat) (E : List Int) :
    Calls Tryz.prog 71 #[.agg #[.int .i64 p0, .int .i64 pt, .slice ya yn yc], .slice (some ⟨g, 0, none⟩) (n + 1) (n + 1)] w fun e w' => e = .returned (.bool (ofB n (fun u => bs.getD u false) (p0, pt, E))) ∧ Below w.heap.size w w' := by
  obtain ⟨W0, hW0⟩ : ∃ W0, W0 = w.alloc (.cells #[.int .i64 p0, .int .i64 pt, .slice ya yn yc] 49) := ⟨_, rfl⟩
  have B0 := hideG (show Below w.heap.size w W0 by rw [hW0]; exact (Below.refl _ _).alloc (Nat.le_refl _) _)
  have HR := hideG (show W0.heap[w.heap.size]? = some (.cells #[.int .i64 p0, .int .i64 pt, .slice ya yn yc] 49 (0, 0)) by rw [hW0]; exact heap_alloc_new w _)
  have z0 : w.heap.size < W0.heap.size := by rw [hW0]; simp
  have HB := hideG (h.below B0.out)
  have HW0 := hideG hW0
  have g0 : W0.cell? ⟨w.heap.size, 0, none⟩ = some (.int .i64 p0) := (cell_of_row W0 _ 0 _ _ (0, 0) HR.out).trans rfl
  have g1 : W0.cell? ⟨w.heap.size, 1, none⟩ = some (.int .i64 pt) := (cell_of_row W0 _ 1 _ _ (0, 0) HR.out).trans rfl
  have hgl := HB.out.lt.2
  obtain ⟨u, hu⟩ : ∃ u : Nat, p0 + pt = (u : Int) := ⟨(p0 + pt).toNat, by omega⟩
  have HO := hideG (show ofB n (fun u => bs.getD u false) (p0, pt, E) = (decide (1 ≤ (u : Int) ∧ (u : Int) ≤ (n : Int)) && bs.getD u false) by
    unfold ofB
    dsimp only
    rw [hu, show ((u : Int)).toNat = u by omega])
  have hwr : IntKind.i64.wrap (p0 + pt) = (u : Int) := by rw [IntWalk.i64_left, IntWalk.wrap64_in _ (by omega), hu]
  clear hW0 h
  go_enter Tryz.func71, Tryz.ntmps71
  go_upto_region 1 with fail
  rw [← HW0.out]
  go_upto_region 2 with fail
  (try rw [hu])
  by_cases c1 : 1 ≤ (u : Int)
  · by_cases c2 : (u : Int) < (n : Int) + 1
    · obtain ⟨b0, -⟩ := HB.out.cell u (by omega)
      have FIN := hideG (show ofB n (fun u => bs.getD u false) (p0, pt, E) = bs.getD u false by rw [HO.out, decide_eq_true ⟨c1, by omega⟩, Bool.true_and])
      obtain ⟨bb, hbb⟩ : ∃ bb, bb = bs.getD u false := ⟨_, rfl⟩
      rw [← hbb] at b0 FIN
      clear hbb
      have c2' : (u : Int) < ((n + 1 : Nat) : Int) := by omega
      go_wp2_with fail
      go_ret
      exact ⟨ret_bool FIN.out.symm, B0.out⟩
    · have FIN := hideG (show ofB n (fun u => bs.getD u false) (p0, pt, E) = false by rw [HO.out, decide_eq_false (by omega), Bool.false_and])
      have c2' : ¬ (u : Int) < ((n + 1 : Nat) : Int) := by omega
      go_wp2_with fail
      go_ret
      exact ⟨ret_bool FIN.out.symm, B0.out⟩
  · have FIN := hideG (show ofB n (fun u => bs.getD u false) (p0, pt, E) = false by rw [HO.out, decide_eq_false (by omega), Bool.false_and])
    go_wp2_with fail
    go_ret
    exact ⟨ret_bool FIN.out.symm, B0.out⟩

/-- Where the places lie, round and round. -/
theorem round_all {L f : Nat} (hL : 0 < L) {P : Nat → Prop} (h : ∀ t, t < L → P ((f + t) % L)) : ∀ j, j < L → P j := fun j hj => by
  have hf := Nat.mod_lt f hL
  have key : ∀ t, ((f + t) % L) = ((f % L + t) % L) := fun t => by rw [Nat.add_mod f t L, Nat.add_mod (f % L) t L, Nat.mod_mod]
  by_cases c : f % L ≤ j
  · have := h (j - f % L) (by omega)
    rw [key, show f % L + (j - f % L) = j by omega, Nat.mod_eq_of_lt hj] at this
    exact this
  · have := h (L + j - f % L) (by omega)
    rw [key, show f % L + (L + j - f % L) = j + L by omega, Nat.add_mod_right, Nat.mod_eq_of_lt hj] at this
    exact this

set_option maxHeartbeats 2000000 in
set_option maxRecDepth 100000 in
theorem knextOf_calls {w : World} {B B' g n : Nat} {bs : List Bool} (hn : n ≤ 12) (h : BRow w B g (n + 1) bs) {v : Value} {vs : List Value} {ps : List Pk} (hp : Packs w B' v vs ps) (hl : ps.length ≤ 300) (hpb : ∀ p ∈ ps, (0 ≤ p.1 ∧ p.1 ≤ 100) ∧ (0 ≤ p.2.1 ∧ p.2.1 ≤ 100)) (yes : Bool) (fr : Int) (hf : 0 ≤ fr ∧ fr ≤ 300) :
    Calls Tryz.prog 42 #[v, .slice (some ⟨g, 0, none⟩) (n + 1) (n + 1), .bool yes, .int .i64 fr] w fun e w' => ∃ z : Int, e = .returned (.int .i64 z) ∧ ((z = -1 ∧ ∀ p ∈ ps, ofB n (fun u => bs.getD u false) p ≠ yes) ∨ ∃ (j : Nat) (p : Pk), z = (j : Int) ∧ ps[j]? = some p ∧ ofB n (fun u => bs.getD u false) p = yes) ∧ Below w.heap.size w w' := by
  obtain ⟨a, c, rfl, l1, l2, -⟩ := hp.viewK
  have HOF := hideG (fun (W : World) (hb : Below w.heap.size w W) => fun p0 pt h0 ht ya yn yc E => kof_calls hn (h.below hb) p0 pt h0 ht ya yn yc E)
  have HP := hideG (fun (W : World) (hb : Below w.heap.size w W) => (hp.below hb).viewK)
  have HPB := hideG hpb
  obtain ⟨f, hf'⟩ : ∃ f : Nat, fr = (f : Int) := ⟨fr.toNat, by omega⟩
  subst hf'
  clear hp h hpb
  obtain ⟨L, hL⟩ : ∃ L, L = ps.length := ⟨_, rfl⟩
  have HL := hideG hL
  rw [← hL] at hl l1 ⊢
  clear hL
  go_enter Tryz.func42, Tryz.ntmps42
  go_wp2_with fail
  go_loopw [9] (fun i wr => ∃ k : Nat, k ≤ L ∧ i = .int .i64 (k : Int) ∧ Below w.heap.size w wr ∧ ∀ t, t < k → ∀ p, ps[(f + t) % L]? = some p → ofB n (fun u => bs.getD u false) p ≠ yes) (fun i _ => L - (intOf i).toNat)
  case atStart => exact ⟨0, Nat.zero_le _, rfl, Below.refl _ _, fun t ht => absurd ht (Nat.not_lt_zero t)⟩
  case round =>
    obtain ⟨k, hk, rfl, hb, hall⟩ := hrel
    have HB := hideG hb
    have HA := hideG hall
    clear hb hall
    by_cases hlt : k < L
    · obtain ⟨i, hi⟩ : ∃ i, i = (f + k) % L := ⟨_, rfl⟩
      have hil : i < L := by rw [hi]; exact Nat.mod_lt _ (by omega)
      have hmd : ((f : Int) + (k : Int)).tmod (L : Int) = (i : Int) := by rw [Int.tmod_eq_emod_of_nonneg (by omega), hi]; rfl
      have hget : ps[i]? = some (ps[i]'(by have := HL.out; omega)) := List.getElem?_eq_getElem _
      obtain ⟨p, hpp⟩ : ∃ p, p = ps[i]'(by have := HL.out; omega) := ⟨_, rfl⟩
      rw [← hpp] at hget
      obtain ⟨a', c', hv, -, -, hview⟩ := HP.out wr HB.out
      obtain ⟨g1, y, e1, e2, e3, e4, e5, e6, e7⟩ := hview i p hget
      obtain ⟨rfl, rfl⟩ : a = a' ∧ c = c' := by injection hv with q1 q2 q3; exact ⟨q1, q3⟩
      subst e1
      obtain ⟨ya, yc, hyv⟩ := owns_form e7
      obtain ⟨b1, b2⟩ := HPB.out p (List.mem_of_getElem? hget)
      have HG := hideG hget
      obtain ⟨p0, pt, E⟩ := p
      dsimp only at e4 e5 e6 e7 b1 b2 hyv
      rw [hyv] at e6
      have HOW := hideG (HOF.out wr HB.out p0 pt b1 b2 ya E.length yc E)
      obtain ⟨ob, hob⟩ : ∃ ob, ob = ofB n (fun u => bs.getD u false) (p0, pt, E) := ⟨_, rfl⟩
      rw [← hob] at HOW
      have HOB := hideG hob
      have HI := hideG hi
      have hiL : (i : Int) < (L : Int) := by omega
      have hlt' : (k : Int) < (L : Int) := by omega
      have hLn : ¬ (L : Int) = 0 := by omega
      clear hview hv hpp hget e7 hyv hob hi b1 b2
      generalize E.length = nE at *
      go_wp2_with fail
      refine HOW.out.mono ?_
      rintro e w2 ⟨rfl, hb2⟩
      have B2 := hideG (HB.out.trans (hb2.mono HB.out.size))
      clear hb2 e4 e5 e6
      by_cases q : ob = yes
      · have FIN := hideG (show ∃ (j : Nat) (p : Pk), (i : Int) = (j : Int) ∧ ps[j]? = some p ∧ ofB n (fun u => bs.getD u false) p = yes from ⟨i, _, rfl, HG.out, by rw [← HOB.out]; exact q⟩)
        subst q
        go_wp2_with fail
        go_ret
        exact ⟨_, rfl, .inr FIN.out, B2.out⟩
      · have FA := hideG (show ∀ t, t < k + 1 → ∀ p, ps[(f + t) % L]? = some p → ofB n (fun u => bs.getD u false) p ≠ yes from fun t ht p hp => by
          by_cases c : t < k
          · exact HA.out t c p hp
          · have e : t = k := by omega
            rw [e, ← HI.out, HG.out] at hp
            rw [← Option.some.inj hp, ← HOB.out]; exact q)
        have q' : (ob == yes) = false := by simpa using q
        clear q
        go_wp2_with fail
        go_roundw
        case rel => exact ⟨k + 1, by omega, by go_num, B2.out, FA.out⟩
        case measure => simp [intOf]; omega
    · have ek : k = L := by omega
      have FIN := hideG (show ∀ p ∈ ps, ofB n (fun u => bs.getD u false) p ≠ yes from fun p hp => by
        obtain ⟨j, hj, e⟩ := List.getElem_of_mem hp
        have hL' := HL.out
        exact round_all (L := L) (f := f) (by omega) (P := fun j => ∀ p, ps[j]? = some p → ofB n (fun u => bs.getD u false) p ≠ yes) (fun t ht => HA.out t (by omega)) j (by omega) p (by rw [List.getElem?_eq_getElem hj, e]))
      have hlt' : ¬ (k : Int) < (L : Int) := by omega
      clear ek
      go_wp2_with fail
      go_ret
      exact ⟨_, rfl, .inl ⟨rfl, by first | exact FIN.out | exact fun _ _ _ hp => FIN.out _ hp⟩, HB.out⟩

end Go.Proofs.YtchideljndagjabGreat
