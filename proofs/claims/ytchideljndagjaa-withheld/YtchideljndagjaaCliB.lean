/- Contract of the program's client: the peers of SECOND. -/
import Derived.Test.YtchideljndagjaaCliB0
namespace Go.Proofs.Ytchideljndagjaa
open Go.ChangeShapes Go.WideShapes Go.ChangeAt Go.RowKit
set_option linter.unusedVariables false

set_option maxHeartbeats 3000000 in
set_option maxRecDepth 100000 in
theorem second_long (b : Nat) (T : TypeId) (S : PS) (c : Cli.Cl) (v : Value) (k l : List Frm.It) (w : World) (h : PSAt w b T S) (hl : ItemsAt w v l) (hr : Frm.riseB l = true) (hlen : l.length ≤ 12)
    (hel : ∀ x ∈ l, (0 ≤ x.2.1 ∧ x.2.1 < 2305843009213693951) ∧ (0 ≤ x.2.2.1 ∧ x.2.2.1 < 2305843009213693951) ∧ (0 ≤ x.2.2.2 ∧ x.2.2.2 < 2305843009213693951))
    (hc : Cli.Good c) (eid : S.id = c.id) (et : S.t = c.T) (hf : ∀ v, v < 13 → S.f v = Cli.firstP c k v) (hown : Cli.hasI k c.id = true) (ht : c.T ≤ (l.length : Int) + 1) :
    Calls Try.prog 107 #[.pointer (some ⟨b, 0, none⟩), v] w fun e w' =>
      ∃ g, e = .returned (.tuple #[.agg (circ g).toArray, .bool (Cli.boxAgree c k l)]) ∧ (Cli.boxAgree c k l = true → g = Cli.secondP c k l) ∧ Below w.heap.size w w' := by
  have hbl := h.lt
  have gi := hc.i
  have gn := hc.n
  have gt := hc.t
  obtain ⟨U, hU⟩ : ∃ U : Nat, c.id = (U : Int) := ⟨c.id.toNat, by omega⟩
  have HP := hideG (fun (w1 : World) (hb : Below w.heap.size w w1) => (show w1.cell? ⟨b, 0, none⟩ = some (.int .i64 c.id) ∧ ∀ u, u < 13 → PrAt w1 b (12 + u * 5) (Cli.firstP c k u) from
    ⟨by rw [← eid]; exact (h.below hb).c0, fun u hu => by rw [← hf u hu]; exact (h.below hb).peer u hu⟩))
  have c5 := h.c5
  rw [et] at c5
  obtain ⟨a, cap, rfl, l2, l3, _, hcl⟩ := items_view hl
  have HC := hideG hcl
  have HI := hideG (fun j (hj : j < l.length) => (Cli.rise_pair hr).2 (Frm.it l j) (by rw [Cli.it_get l j hj]; exact List.getElem_mem hj))
  have HE := hideG (fun j (hj : j < l.length) => hel (Frm.it l j) (by rw [Cli.it_get l j hj]; exact List.getElem_mem hj))
  have HOF := hideG (fun j (hj : j < l.length) => Cli.itemOf_it hr hj)
  have HOW := hideG hown
  have HBAD := hideG (fun j (hj : j < l.length) => box_bad (c := c) (k := k) hj)
  have HGOOD := hideG (fun (ht : c.T ≤ (l.length : Int) + 1) => box_good (k := k) ht)
  have HSH := hideG (show ¬ c.T ≤ (l.length : Int) + 1 → Cli.boxAgree c k l = false from fun e => by unfold Cli.boxAgree; rw [decide_eq_false e, Bool.false_and, Bool.and_false])
  have HEND := hideG (Cli.secondJ_end c k l)
  have HSUC := hideG (fun j (hj : j < l.length) u (hu : (Frm.it l j).1 = ((u : Nat) : Int)) => Cli.secondJ_succ c k l j hj u hu)
  have HZ := hideG zero_circ
  clear h hl hr hcl hel eid et hf hown
  obtain ⟨n, hn⟩ : ∃ n, n = l.length := ⟨_, rfl⟩
  rw [← hn] at l2 HC hlen HI HE HOF HBAD HGOOD HSH HEND HSUC ht ⊢
  have HN := hideG hn
  clear hn
  have HZS := hideG zero_size
  have HZO := hideG zero_one
  have HZL := hideG zero_list
  obtain ⟨W, hW⟩ : ∃ W, W = (w.alloc (.cells Try.zeroCells96 96)).alloc (.cells Try.zeroCells96 96) := ⟨_, rfl⟩
  have HCB := hideG (show CircAt W (w.heap.size + 1) (fun _ => Cli.Pr.z) by unfold CircAt; rw [hW, ← HZ.out]; exact heap_alloc2_new w _ _)
  have HCA := hideG (show CircAt W w.heap.size (fun _ => Cli.Pr.z) by unfold CircAt; rw [hW, ← HZ.out]; exact heap_alloc2_old w _ _)
  have HBW := hideG (show Below w.heap.size w W by rw [hW]; exact ((Below.refl w.heap.size w).alloc (Nat.le_refl _) _).alloc (by simp) _)
  have hWs : W.heap.size = w.heap.size + 2 := by rw [hW]; simp
  have al : (w.alloc (.cells Try.zeroCells96 96)).cell? ⟨b, 5, none⟩ = some (.int .i64 c.T) := by rw [((Below.refl w.heap.size w).alloc (Nat.le_refl _) _).cell (p := ⟨b, 5, none⟩) (by exact hbl)]; exact c5
  have HW := hideG hW
  clear hW
  have U13 : U < 13 := by omega
  have U13' : (U : Int) < 13 := by omega
  have UI := hideG hU
  go_enter Try.func107, Try.ntmps107
  go_wp2_with fail
  rw [← HW.out]
  obtain ⟨c0, cp⟩ := HP.out W HBW.out
  obtain ⟨q0, q1, q2, q3, q4⟩ := cp U U13
  rw [hU] at c0
  have hpr : Cli.firstP c k U = Cli.ownPr c := by unfold Cli.firstP; rw [← hU, if_pos HOW.out]; unfold Cli.pr1; rw [if_pos rfl]
  rw [hpr] at q0 q1 q2 q3 q4
  obtain ⟨z0, z1, z2, z3, z4⟩ := prAt_of_range HCB.out.range U U13
  rw [Nat.zero_add] at z0 z1 z2 z3 z4
  have zf := fun i => frozen_of_row W (w.heap.size + 1) i _ _ HCB.out
  clear cp hpr al
  have E0 := hideG (show Cli.ownPr c = ⟨true, 0, 0, 0, Pol.polyP c.sd c.ss c.id⟩ from rfl)
  obtain ⟨P0, hP0⟩ : ∃ P0, P0 = Cli.ownPr c := ⟨_, rfl⟩
  have HPO := hideG hP0.symm
  rw [← hP0] at q0 q1 q2 q3 q4
  clear hP0
  have hne : b ≠ w.heap.size + 1 := by omega
  have hne' : w.heap.size + 1 ≠ b := by omega
  go_region
  obtain ⟨W1, hW1⟩ : ∃ W1, W1 = (((((W.setCell ⟨w.heap.size + 1, U * 5, none⟩ (.bool P0.mem)).setCell ⟨w.heap.size + 1, U * 5 + 1, none⟩ (.int .i64 P0.ck)).setCell ⟨w.heap.size + 1, U * 5 + 2, none⟩ (.int .i64 P0.mq)).setCell ⟨w.heap.size + 1, U * 5 + 3, none⟩ (.int .i64 P0.ms)).setCell ⟨w.heap.size + 1, U * 5 + 4, none⟩ (.int .i64 P0.ss)).drew := ⟨_, rfl⟩
  rw [← hW1]
  have hW1' : W1 = (W.setCells (w.heap.size + 1) (U * 5) (prCells P0)).drew := hW1
  have HS0 := hideG (show CircAt W1 (w.heap.size + 1) (Cli.secondJ c k l 0) ∧ CircAt W1 w.heap.size (fun _ => Cli.Pr.z) ∧ Below w.heap.size w W1 by
    rw [hW1', Cli.secondJ_zero c k l U UI.out, HPO.out]
    exact ⟨HCB.out.set U U13 P0, HCA.out.block (heap_setCells_other _ _ (by omega) _ _ _), (below_setCells (by omega) _ _ _ HBW.out).drew⟩)
  clear hW1 hW1' q0 q1 q2 q3 q4 z0 z1 z2 z3 z4 zf c0 c5 hU
  go_wp2_with fail
  go_loopw [38] (fun i wr => ∃ j : Nat, j ≤ n ∧ i = .int .i64 j ∧ (∀ j', j' < j → (Frm.it l j').1 ≠ c.id ∧ Cli.hasI k (Frm.it l j').1 = true ∧ Cli.opensB c k l (Frm.it l j').1 = true) ∧ CircAt wr (w.heap.size + 1) (Cli.secondJ c k l j) ∧ CircAt wr w.heap.size (fun _ => Cli.Pr.z) ∧ Below w.heap.size w wr) (fun i _ => n - (intOf i).toNat)
  case atStart => exact ⟨0, Nat.zero_le _, rfl, fun j' hj => absurd hj (by omega), HS0.out.1, HS0.out.2.1, HS0.out.2.2⟩
  case round =>
    obtain ⟨j, hj, rfl, hall, hcc, hzz, hbel⟩ := hrel
    have HALL := hideG hall
    have HCC := hideG hcc
    have HZZ := hideG hzz
    have HB := hideG hbel
    have hsz := hbel.size
    have hs2 := hcc.lt
    clear hall hcc hzz hbel HS0 HW HBW HCB HCA hWs
    have HFAIL := hideG (fun (X : World) (hb : Below wr.heap.size wr X) => (show ∃ X2, (storeCells ⟨w.heap.size, 0, none⟩ Try.zeroCells96.toList).run Try.prog X = .ok () X2 ∧ X2.heap[w.heap.size]? = some (.cells (circ fun _ => Cli.Pr.z).toArray 96 (0, 0)) ∧ Below w.heap.size w X2 from by
      have hc' := HZZ.out.below hb (by omega)
      refine ⟨_, stc Try.prog w.heap.size 0 _ X ?_ (by rw [HZL.out]; exact circ_one _), by rw [HZL.out]; exact hc'.all _, below_setCells (Nat.le_refl _) _ _ _ (HB.out.trans (hb.mono hsz))⟩
      rw [HZL.out, circ_length]; exact hc'.there 0 65 (by omega)))
    have HSZ := hideG (show (Try.prog.info? 96).map (·.size) = some (circ fun _ => Cli.Pr.z).toArray.size by rw [size_circ, List.size_toArray, circ_length])
    obtain ⟨CZ, hCZ⟩ : ∃ CZ, CZ = (circ fun _ => Cli.Pr.z).toArray := ⟨_, rfl⟩
    rw [← hCZ] at HFAIL HSZ
    have HCZ := hideG hCZ
    clear hCZ
    by_cases hlt : j < n
    · obtain ⟨b', off, rfl, hb, hit⟩ := HC.out j hlt
      obtain ⟨d0, d1, d2, d3⟩ := hit.below hb HB.out
      obtain ⟨u, hu⟩ : ∃ u : Nat, (Frm.it l j).1 = (u : Int) := ⟨(Frm.it l j).1.toNat, by have := HI.out j hlt; omega⟩
      have hub := HI.out j hlt
      rw [hu] at hub d0
      have u13 : u < 13 := by omega
      have u13' : (u : Int) < 13 := by omega
      have u0' : (1 : Int) ≤ (u : Int) := by omega
      have u12' : (u : Int) ≤ 12 := by omega
      obtain ⟨c0, cp⟩ := HP.out _ HB.out
      obtain ⟨p0, p1, p2, p3, p4⟩ := cp u u13
      clear hit cp
      have HX := hideG hu
      have HS2 := hideG (HSUC.out j hlt u hu)
      obtain ⟨⟨x1, x2⟩, ⟨x3, x4⟩, x5, x6⟩ := HE.out j hlt
      obtain ⟨xa, hxa⟩ : ∃ x, x = (Frm.it l j).2.1 := ⟨_, rfl⟩
      obtain ⟨xb, hxb⟩ : ∃ x, x = (Frm.it l j).2.2.1 := ⟨_, rfl⟩
      obtain ⟨xc, hxc⟩ : ∃ x, x = (Frm.it l j).2.2.2 := ⟨_, rfl⟩
      rw [← hxa] at d1 x1 x2
      rw [← hxb] at d2 x3 x4
      rw [← hxc] at d3 x5 x6
      have HIT := hideG (show Cli.itemOf l (u : Int) = ((u : Int), xa, xb, xc) by rw [← hu, HOF.out j hlt, hxa, hxb, hxc])
      clear hu hxa hxb hxc
      have HFK := hideG (show Cli.firstP c k u = if Cli.hasI k (u : Int) = true then Cli.pr1 c k u else Cli.Pr.z from rfl)
      obtain ⟨F, hF⟩ : ∃ F, F = Cli.firstP c k u := ⟨_, rfl⟩
      rw [← hF] at p0 p1 p2 p3 p4 HFK
      clear hF
      obtain ⟨F0, F1, F2, F3, F4⟩ := F
      have al : ∀ (ob : Obj) (o : Nat), (wr.alloc ob).cell? ⟨b, o, none⟩ = wr.cell? ⟨b, o, none⟩ := fun ob o => ((Below.refl wr.heap.size wr).alloc (Nat.le_refl _) ob).cell (p := ⟨b, o, none⟩) (by show b < _; omega)
      have al2 : ∀ (o1 o2 : Obj) (o : Nat), ((wr.alloc o1).alloc o2).cell? ⟨b, o, none⟩ = wr.cell? ⟨b, o, none⟩ := fun o1 o2 o => (((Below.refl wr.heap.size wr).alloc (Nat.le_refl _) o1).alloc (by simp) o2).cell (p := ⟨b, o, none⟩) (by show b < _; omega)
      go_wp2_with fail
      go_region
      obtain ⟨X, hX⟩ : ∃ X, X = ((wr.alloc (.cells #[.int .i64 u, .int .i64 xa, .int .i64 xb, .int .i64 xc] 91)).alloc (.cells #[.bool F0, .int .i64 F1, .int .i64 F2, .int .i64 F3, .int .i64 F4] 94)).drew := ⟨_, rfl⟩
      rw [← hX]
      have hbX : Below wr.heap.size wr X := by rw [hX]; exact (((Below.refl wr.heap.size wr).alloc (Nat.le_refl _) _).alloc (by simp) _).drew
      have sX : X.heap.size = wr.heap.size + 2 := by rw [hX]; simp
      have BX := hideG hbX
      have HX8 := hideG (fun (Y : World) (hb : Below X.heap.size X Y) => (show (Y.cell? ⟨wr.heap.size, 0, none⟩ = some (.int .i64 u) ∧ Y.cell? ⟨wr.heap.size, 1, none⟩ = some (.int .i64 xa) ∧ Y.cell? ⟨wr.heap.size, 2, none⟩ = some (.int .i64 xb) ∧ Y.cell? ⟨wr.heap.size, 3, none⟩ = some (.int .i64 xc)) ∧ (Y.cell? ⟨wr.heap.size + 1, 0, none⟩ = some (.bool F0) ∧ Y.cell? ⟨wr.heap.size + 1, 1, none⟩ = some (.int .i64 F1) ∧ Y.cell? ⟨wr.heap.size + 1, 2, none⟩ = some (.int .i64 F2)) ∧ Y.cell? ⟨b, 0, none⟩ = some (.int .i64 c.id) ∧ Below wr.heap.size wr Y from by
        have e0 : ∀ o, Y.cell? ⟨wr.heap.size, o, none⟩ = X.cell? ⟨wr.heap.size, o, none⟩ := fun o => hb.cell (p := ⟨wr.heap.size, o, none⟩) (by show wr.heap.size < _; omega)
        have e1 : ∀ o, Y.cell? ⟨wr.heap.size + 1, o, none⟩ = X.cell? ⟨wr.heap.size + 1, o, none⟩ := fun o => hb.cell (p := ⟨wr.heap.size + 1, o, none⟩) (by show wr.heap.size + 1 < _; omega)
        have hY : Below wr.heap.size wr Y := hbX.trans (hb.mono (by omega))
        refine ⟨⟨?_, ?_, ?_, ?_⟩, ⟨?_, ?_, ?_⟩, (hY.cell (p := ⟨b, 0, none⟩) (by show b < _; omega)).trans c0, hY⟩
        · rw [e0, hX]; simp
        · rw [e0, hX]; simp
        · rw [e0, hX]; simp
        · rw [e0, hX]; simp
        · rw [e1, hX]; simp
        · rw [e1, hX]; simp
        · rw [e1, hX]; simp))
      clear hX hbX p0 p1 p2 p3 p4 c0 d0 d1 d2 d3 al al2
      obtain ⟨⟨y0, y1, y2, y3⟩, ⟨y4, y5, y6⟩, c0, _⟩ := HX8.out X (Below.refl _ _)
      by_cases q : (u : Int) = c.id
      · have q' : ((u : Int) == c.id) = true := by simpa using q
        have HBD := hideG (HBAD.out j hlt (.inl (by rw [HX.out, q])))
        have HQ := hideG q
        clear q
        go_wp2_with fail
        go_quiet (fail)
        obtain ⟨X2, hst, hrow, hbx⟩ := HFAIL.out (X.drewN nq) (BX.out.trans ((below_drewN X nq).mono (by omega)))
        have HROW := hideG hrow
        have HBX := hideG hbx
        clear hrow hbx
        go_wp2_with fail
        refine bodyPost_ret (results_row_tmp rfl _ _ w.heap.size 96 CZ (0, 0) _ rfl HROW.out Try.underlying96 rfl HSZ.out) rfl ?_
        exact ⟨fun _ => Cli.Pr.z, by rw [HBD.out, ← HCZ.out]; rfl, fun e => (by rw [HBD.out] at e; cases e), HBX.out⟩
      · have q' : ((u : Int) == c.id) = false := by simpa using q
        cases F0
        · have HBD := hideG (HBAD.out j hlt (.inr (.inl (by
            rw [HX.out]
            cases e : Cli.hasI k (u : Int)
            · rfl
            · have := HFK.out; rw [if_pos e] at this; unfold Cli.pr1 at this; rw [if_neg q] at this; cases this))))
          have HQ := hideG q
          clear q
          go_wp2_with fail
          go_quiet (fail)
          obtain ⟨X2, hst, hrow, hbx⟩ := HFAIL.out (X.drewN nq) (BX.out.trans ((below_drewN X nq).mono (by omega)))
          have HROW := hideG hrow
          have HBX := hideG hbx
          clear hrow hbx
          go_wp2_with fail
          refine bodyPost_ret (results_row_tmp rfl _ _ w.heap.size 96 CZ (0, 0) _ rfl HROW.out Try.underlying96 rfl HSZ.out) rfl ?_
          exact ⟨fun _ => Cli.Pr.z, by rw [HBD.out, ← HCZ.out]; rfl, fun e => (by rw [HBD.out] at e; cases e), HBX.out⟩
        · have hhas : Cli.hasI k (u : Int) = true := by
            cases e : Cli.hasI k (u : Int)
            · have := HFK.out; rw [if_neg (by rw [e]; simp)] at this; cases this
            · rfl
          have hpr := HFK.out
          rw [if_pos hhas] at hpr
          unfold Cli.pr1 at hpr
          rw [if_neg q] at hpr
          have hF1 : F1 = Cli.chKey c k u := by cases hpr; rfl
          have hF2 : F2 = Cli.mkKey c k u := by cases hpr; rfl
          have k1 : 0 ≤ F1 := by rw [hF1]; exact Num.powP_lo _ _
          have k2 : F1 < 2305843009213693951 := by rw [hF1]; exact Num.powP_hi _ _
          have HHAS := hideG hhas
          have HOP := hideG (show Cli.opensB c k l (u : Int) = decide (Num.tagN F1 (64 * u + 4 * c.id) xa xb = xc) by unfold Cli.opensB; rw [HIT.out, hF1])
          have HP2 := hideG (show Cli.pr2 c k l (Frm.it l j).1 = ⟨true, 0, F2, Num.subP xa (Num.padN F1 (64 * u + 4 * c.id)), Num.subP xb (Num.padN F1 (64 * u + 4 * c.id + 1))⟩ by
            rw [HX.out]; unfold Cli.pr2 Cli.mShare Cli.sShare; rw [if_neg q, if_neg q, HIT.out, hF1, hF2])
          have HQ := hideG q
          clear q hhas hpr hF1 hF2 HFK
          have i12 : c.id ≤ 12 := by omega
          go_wp2_with fail
          go_quiet (fail)
          have hb9 := below_drewN X nq
          generalize X.drewN nq = X9 at *
          clear y0 y1 y2 y3 y4 y5 y6 c0
          obtain ⟨⟨y0, y1, y2, y3⟩, ⟨y4, y5, y6⟩, c0, hbw9⟩ := HX8.out X9 hb9
          have HB9 := hideG hb9
          have HW9 := hideG hbw9
          have s9 := hb9.size
          clear hb9 hbw9
          cases q3 : (Num.tagN F1 (64 * u + 4 * c.id) xa xb != xc)
          · have HOK := hideG (show Cli.opensB c k l (Frm.it l j).1 = true by rw [HX.out, HOP.out]; simpa using q3)
            go_wp2_with fail
            go_quiet ((go_at_call 49; refine Calls.quiet_of_same (open_yes _ _ _ _ _ _ _ k1 k2 u0' u12' gi.1 i12 x1 x2 x3 x4 x5 x6 q3)))
            have hb11 := below_drewN X9 nq
            generalize X9.drewN nq = X11 at *
            clear y0 y1 y2 y3 y4 y5 y6 c0
            obtain ⟨⟨y0, y1, y2, y3⟩, ⟨y4, y5, y6⟩, c0, hbw11⟩ := HX8.out X11 (HB9.out.trans (hb11.mono s9))
            have HW11 := hideG hbw11
            have HTH := hideG ((HCC.out.below hbw11 hs2).there (u * 5) 5 (by omega))
            clear hb11 hbw11 q3
            obtain ⟨A1, hA1⟩ : ∃ A, A = Num.subP xa (Num.padN F1 (64 * u + 4 * c.id)) := ⟨_, rfl⟩
            obtain ⟨A2, hA2⟩ : ∃ A, A = Num.subP xb (Num.padN F1 (64 * u + 4 * c.id + 1)) := ⟨_, rfl⟩
            rw [← hA1, ← hA2] at HP2 ⊢
            clear hA1 hA2
            go_wp2_with (refine wpList_store_peer rfl _ _ rfl (w.heap.size + 1) (u * 5) true 0 F2 A1 A2 rfl rfl ?t ?_)
            case t => exact HTH.out
            go_wp2_with fail
            go_roundw
            case rel =>
              refine ⟨j + 1, by omega, by go_num, fun j' hj' => ?_, ?_, ?_, below_setCells (by omega) _ _ _ (HB.out.trans (HW11.out.mono hsz))⟩
              · by_cases e : j' = j
                · subst e; rw [HX.out]; exact ⟨HQ.out, HHAS.out, by rw [← HX.out]; exact HOK.out⟩
                · exact HALL.out j' (by omega)
              · rw [HS2.out, HP2.out]
                exact (HCC.out.below HW11.out hs2).set u u13 ⟨true, 0, F2, A1, A2⟩
              · exact (HZZ.out.below HW11.out (by omega)).block (heap_setCells_other _ _ (by omega) _ _ _)
            case measure => simp [intOf]; omega
          · have HBD := hideG (HBAD.out j hlt (.inr (.inr (by rw [HX.out, HOP.out]; simpa using q3))))
            go_wp2_with fail
            go_quiet ((go_at_call 49; refine Calls.quiet_of_same (open_tag _ _ _ _ _ _ _ k1 k2 u0' u12' gi.1 i12 x1 x2 x3 x4 x5 x6 q3)))
            obtain ⟨X2, hst, hrow, hbx⟩ := HFAIL.out (X9.drewN nq) (HW9.out.trans ((below_drewN X9 nq).mono (by omega)))
            have HROW := hideG hrow
            have HBX := hideG hbx
            clear hrow hbx
            go_wp2_with fail
            refine bodyPost_ret (results_row_tmp rfl _ _ w.heap.size 96 CZ (0, 0) _ rfl HROW.out Try.underlying96 rfl HSZ.out) rfl ?_
            exact ⟨fun _ => Cli.Pr.z, by rw [HBD.out, ← HCZ.out]; rfl, fun e => (by rw [HBD.out] at e; cases e), HBX.out⟩
    · have ek : j = n := by omega
      subst ek
      have HGD := hideG (HGOOD.out ht HALL.out)
      have HCR := hideG HCC.out.range
      have HZT := hideG (HZZ.out.there 0 65 (by omega))
      have HL65 := hideG (circ_length (Cli.secondJ c k l j))
      have HON := hideG (all_oneCell_toArray (circ_one (Cli.secondJ c k l j)))
      have HEN := hideG (show CircAt (wr.setCells w.heap.size 0 (circ (Cli.secondJ c k l j))) w.heap.size (Cli.secondJ c k l j) ∧ Below w.heap.size w (wr.setCells w.heap.size 0 (circ (Cli.secondJ c k l j))) from
        ⟨HZZ.out.all _, below_setCells (Nat.le_refl _) _ _ _ HB.out⟩)
      obtain ⟨g, hg⟩ : ∃ g, g = Cli.secondJ c k l j := ⟨_, rfl⟩
      have HG := hideG (hg.trans HEND.out)
      rw [← hg] at HCR HL65 HON HEN
      clear hg
      obtain ⟨CS, hCS⟩ : ∃ CS, CS = circ g := ⟨_, rfl⟩
      rw [← hCS] at HCR HL65 HON HEN
      have HCS := hideG hCS
      clear hCS
      have HROW := hideG (show (wr.setCells w.heap.size 0 CS).heap[w.heap.size]? = some (.cells CS.toArray 96 (0, 0)) by have := HEN.out.1; unfold CircAt at this; rw [← HCS.out] at this; exact this)
      have HSZ2 := hideG (show (Try.prog.info? 96).map (·.size) = some CS.toArray.size by rw [size_circ, List.size_toArray, HL65.out])
      have HSL := hideG (show (Try.prog.info? 96).map (·.size) = some CS.length by rw [size_circ, HL65.out])
      have e65 : CS.toArray.size = 65 := by rw [List.size_toArray]; exact HL65.out
      have HT1 := hideG (show wr.there w.heap.size 0 CS.toArray.size by rw [e65]; exact HZT.out)
      clear e65
      go_wp2_with (first | refine wpList_load_mid rfl 96 _ rfl (w.heap.size + 1) 0 rfl CS _ HCR.out Try.underlying96 rfl HSL.out ?_ | refine wpList_store_mid rfl 96 _ _ rfl w.heap.size 0 CS.toArray rfl rfl HT1.out HSZ2.out HON.out ?_)
      refine bodyPost_ret (results_row_tmp rfl _ _ w.heap.size 96 CS.toArray (0, 0) _ rfl HROW.out Try.underlying96 rfl HSZ2.out) rfl ?_
      exact ⟨g, by rw [HGD.out, HCS.out]; rfl, fun _ => HG.out, HEN.out.2⟩

theorem second_calls (b : Nat) (T : TypeId) (S : PS) (c : Cli.Cl) (v : Value) (k l : List Frm.It) (w : World) (h : PSAt w b T S) (hl : ItemsAt w v l) (hr : Frm.riseB l = true) (hlen : l.length ≤ 12)
    (hel : ∀ x ∈ l, (0 ≤ x.2.1 ∧ x.2.1 < 2305843009213693951) ∧ (0 ≤ x.2.2.1 ∧ x.2.2.1 < 2305843009213693951) ∧ (0 ≤ x.2.2.2 ∧ x.2.2.2 < 2305843009213693951))
    (hc : Cli.Good c) (eid : S.id = c.id) (et : S.t = c.T) (hf : ∀ v, v < 13 → S.f v = Cli.firstP c k v) (hown : Cli.hasI k c.id = true) :
    Calls Try.prog 107 #[.pointer (some ⟨b, 0, none⟩), v] w fun e w' =>
      ∃ g, e = .returned (.tuple #[.agg (circ g).toArray, .bool (Cli.boxAgree c k l)]) ∧ (Cli.boxAgree c k l = true → g = Cli.secondP c k l) ∧ Below w.heap.size w w' := by
  by_cases ht : c.T ≤ (l.length : Int) + 1
  · exact second_long b T S c v k l w h hl hr hlen hel hc eid et hf hown ht
  · have hb : Cli.boxAgree c k l = false := by unfold Cli.boxAgree; rw [decide_eq_false ht, Bool.false_and, Bool.and_false]
    refine (second_short b T S v l w h hl hlen (by rw [et]; omega)).mono ?_
    rintro e w' ⟨rfl, hw⟩
    exact ⟨fun _ => Cli.Pr.z, by rw [hb], fun e => (by rw [hb] at e; cases e), hw⟩

end Go.Proofs.Ytchideljndagjaa
