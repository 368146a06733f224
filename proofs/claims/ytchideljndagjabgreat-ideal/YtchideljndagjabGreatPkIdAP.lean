/- Contract of the program's client: the peers of SECOND. (the client somewhere in a block) -/
import Derived.Test.YtchideljndagjabGreatPkIdAK
import Derived.Test.YtchideljndagjabGreatPkIdAO
import Derived.Test.YtchideljndagjabGreatPkIdAM
namespace Go.Proofs.YtchideljndagjabGreat.Co
open Go.ChangeShapes Go.WideShapes Go.ChangeAt Go.RowKit
set_option linter.unusedVariables false
set_option maxHeartbeats 3000000 in
set_option maxRecDepth 100000 in
theorem second_long (b oo : Nat) (S : PS) (c : Cli.Cl) (v : Value) (k l : List Frm.It) (w : World) (h : PSAt w b oo S) (hl : ItemsAt w v l) (hr : Frm.riseB l = true) (hlen : l.length ≤ 12)
    (hel : ∀ x ∈ l, (0 ≤ x.2.1 ∧ x.2.1 < 2305843009213693951) ∧ (0 ≤ x.2.2.1 ∧ x.2.2.1 < 2305843009213693951) ∧ (0 ≤ x.2.2.2 ∧ x.2.2.2 < 2305843009213693951))
    (hc : Cli.Good c) (eid : S.id = c.id) (et : S.t = c.T) (hf : ∀ v, v < 13 → S.f v = Cli.firstP c k v) (hown : Cli.hasI k c.id = true) (ht : c.T ≤ (l.length : Int) + 1) :
    Calls Tryz.prog 261 #[.pointer (some ⟨b, oo, none⟩), v] w fun e w' =>
      ∃ g, e = .returned (.tuple #[.agg (circ g).toArray, .bool (Cli.boxAgree c k l)]) ∧ (Cli.boxAgree c k l = true → g = Cli.secondP c k l) ∧ Below w.heap.size w w' := by
  have hbl := h.lt
  have gi := hc.i
  have gn := hc.n
  have gt := hc.t
  obtain ⟨U, hU⟩ : ∃ U : Nat, c.id = (U : Int) := ⟨c.id.toNat, by omega⟩
  have HP := hideG (fun (w1 : World) (hb : Below w.heap.size w w1) => (show w1.cell? ⟨b, oo, none⟩ = some (.int .i64 c.id) ∧ ∀ u, u < 13 → PrAt w1 b (oo + 12 + u * 5) (Cli.firstP c k u) from
    ⟨by rw [← eid]; exact (h.below hb).c0, fun u hu => by rw [← hf u hu]; exact (h.below hb).peer u hu⟩))
  have c5 := h.c5
  rw [et] at c5
  obtain ⟨a, cap, rfl, l2, l3, _, hcl⟩ := items_view hl
  have HC := hideG hcl
  have HI := hideG (fun j (hj : j < l.length) => (Cli.rise_pair hr).2 (Frm.it l j) (by rw [Cli.it_get l j hj]; exact List.getElem_mem hj))
  have HE := hideG (fun j (hj : j < l.length) => hel (Frm.it l j) (by rw [Cli.it_get l j hj]; exact List.getElem_mem hj))
  have HOF := hideG (fun j (hj : j < l.length) => Cli.itemOf_it hr hj)
  have HOW := hideG hown
  have HBAD := hideG (fun j (hj : j < l.length) => box_bad (c := c) (k := k) hj)
  have HGOOD := hideG (fun (ht : c.T ≤ (l.length : Int) + 1) => box_good (k := k) ht)
  have HSH := hideG (show ¬ c.T ≤ (l.length : Int) + 1 → Cli.boxAgree c k l = false from fun e => by unfold Cli.boxAgree; rw [decide_eq_false e, Bool.false_and, Bool.and_false])
  have HEND := hideG (Cli.secondJ_end c k l)
  have HSUC := hideG (fun j (hj : j < l.length) u (hu : (Frm.it l j).1 = ((u : Nat) : Int)) => Cli.secondJ_succ c k l j hj u hu)
  have HZ := hideG zero_circ
  clear h hl hr hcl hel eid et hf hown
  obtain ⟨n, hn⟩ : ∃ n, n = l.length := ⟨_, rfl⟩
  rw [← hn] at l2 HC hlen HI HE HOF HBAD HGOOD HSH HEND HSUC ht ⊢
  have HN := hideG hn
  clear hn
  have HZS := hideG zero_size
  have HZO := hideG zero_one
  have HZL := hideG zero_list
  obtain ⟨W, hW⟩ : ∃ W, W = (w.alloc (.cells Tryz.zeroCells203 203)).alloc (.cells Tryz.zeroCells203 203) := ⟨_, rfl⟩
  have HCB := hideG (show CircAt W (w.heap.size + 1) (fun _ => Cli.Pr.z) by unfold CircAt; rw [hW, ← HZ.out]; exact heap_alloc2_new w _ _)
  have HCA := hideG (show CircAt W w.heap.size (fun _ => Cli.Pr.z) by unfold CircAt; rw [hW, ← HZ.out]; exact heap_alloc2_old w _ _)
  have HBW := hideG (show Below w.heap.size w W by rw [hW]; exact ((Below.refl w.heap.size w).alloc (Nat.le_refl _) _).alloc (by simp) _)
  have hWs : W.heap.size = w.heap.size + 2 := by rw [hW]; simp
  have al : (w.alloc (.cells Tryz.zeroCells203 203)).cell? ⟨b, oo + 5, none⟩ = some (.int .i64 c.T) := by rw [((Below.refl w.heap.size w).alloc (Nat.le_refl _) _).cell (p := ⟨b, oo + 5, none⟩) (by exact hbl)]; exact c5
  have HW := hideG hW
  clear hW
  have U13 : U < 13 := by omega
  have U13' : (U : Int) < 13 := by omega
  have UI := hideG hU
  go_enter Tryz.func261, Tryz.ntmps261
  go_wp2_with fail
  rw [← HW.out]
  obtain ⟨c0, cp⟩ := HP.out W HBW.out
  obtain ⟨q0, q1, q2, q3, q4⟩ := cp U U13
  rw [hU] at c0
  have hpr : Cli.firstP c k U = Cli.ownPr c := by unfold Cli.firstP; rw [← hU, if_pos HOW.out]; unfold Cli.pr1; rw [if_pos rfl]
  rw [hpr] at q0 q1 q2 q3 q4
  obtain ⟨z0, z1, z2, z3, z4⟩ := prAt_of_range HCB.out.range U U13
  rw [Nat.zero_add] at z0 z1 z2 z3 z4
  have zf := fun i => frozen_of_row W (w.heap.size + 1) i _ _ HCB.out
  clear cp hpr al
  have E0 := hideG (show Cli.ownPr c = ⟨true, 0, 0, 0, Pol.polyP c.sd c.ss c.id⟩ from rfl)
  obtain ⟨P0, hP0⟩ : ∃ P0, P0 = Cli.ownPr c := ⟨_, rfl⟩
  have HPO := hideG hP0.symm
  rw [← hP0] at q0 q1 q2 q3 q4
  clear hP0
  have hne : b ≠ w.heap.size + 1 := by omega
  have hne' : w.heap.size + 1 ≠ b := by omega
  go_region
  obtain ⟨W1, hW1⟩ : ∃ W1, W1 = (((((W.setCell ⟨w.heap.size + 1, U * 5, none⟩ (.bool P0.mem)).setCell ⟨w.heap.size + 1, U * 5 + 1, none⟩ (.int .i64 P0.ck)).setCell ⟨w.heap.size + 1, U * 5 + 2, none⟩ (.int .i64 P0.mq)).setCell ⟨w.heap.size + 1, U * 5 + 3, none⟩ (.int .i64 P0.ms)).setCell ⟨w.heap.size + 1, U * 5 + 4, none⟩ (.int .i64 P0.ss)).drew := ⟨_, rfl⟩
  rw [← hW1]
  have hW1' : W1 = (W.setCells (w.heap.size + 1) (U * 5) (prCells P0)).drew := hW1
  have HS0 := hideG (show CircAt W1 (w.heap.size + 1) (Cli.secondJ c k l 0) ∧ CircAt W1 w.heap.size (fun _ => Cli.Pr.z) ∧ Below w.heap.size w W1 by
    rw [hW1', Cli.secondJ_zero c k l U UI.out, HPO.out]
    exact ⟨HCB.out.set U U13 P0, HCA.out.block (heap_setCells_other _ _ (by omega) _ _ _), (below_setCells (by omega) _ _ _ HBW.out).drew⟩)
  clear hW1 hW1' q0 q1 q2 q3 q4 z0 z1 z2 z3 z4 zf c0 c5 hU
  go_wp2_with fail
  go_loopw [38] (fun i wr => ∃ j : Nat, j ≤ n ∧ i = .int .i64 j ∧ (∀ j', j' < j → (Frm.it l j').1 ≠ c.id ∧ Cli.hasI k (Frm.it l j').1 = true ∧ Cli.opensB c k l (Frm.it l j').1 = true) ∧ CircAt wr (w.heap.size + 1) (Cli.secondJ c k l j) ∧ CircAt wr w.heap.size (fun _ => Cli.Pr.z) ∧ Below w.heap.size w wr) (fun i _ => n - (intOf i).toNat)
  case atStart => exact ⟨0, Nat.zero_le _, rfl, fun j' hj => absurd hj (by omega), HS0.out.1, HS0.out.2.1, HS0.out.2.2⟩
  case round =>
    obtain ⟨j, hj, rfl, hall, hcc, hzz, hbel⟩ := hrel
    have HALL := hideG hall
    have HCC := hideG hcc
    have HZZ := hideG hzz
    have HB := hideG hbel
    have hsz := hbel.size
    have hs2 := hcc.lt
    clear hall hcc hzz hbel HS0 HW HBW HCB HCA hWs
    have HFAIL := hideG (fun (X : World) (hb : Below wr.heap.size wr X) => (show ∃ X2, (storeCells ⟨w.heap.size, 0, none⟩ Tryz.zeroCells203.toList).run Tryz.prog X = .ok () X2 ∧ X2.heap[w.heap.size]? = some (.cells (circ fun _ => Cli.Pr.z).toArray 203 (0, 0)) ∧ Below w.heap.size w X2 from by
      have hc' := HZZ.out.below hb (by omega)
      refine ⟨_, stc Tryz.prog w.heap.size 0 _ X ?_ (by rw [HZL.out]; exact circ_one _), by rw [HZL.out]; exact hc'.all _, below_setCells (Nat.le_refl _) _ _ _ (HB.out.trans (hb.mono hsz))⟩
      rw [HZL.out, circ_length]; exact hc'.there 0 65 (by omega)))
    have HSZ := hideG (show (Tryz.prog.info? 203).map (·.size) = some (circ fun _ => Cli.Pr.z).toArray.size by rw [size_circ, List.size_toArray, circ_length])
    obtain ⟨CZ, hCZ⟩ : ∃ CZ, CZ = (circ fun _ => Cli.Pr.z).toArray := ⟨_, rfl⟩
    rw [← hCZ] at HFAIL HSZ
    have HCZ := hideG hCZ
    clear hCZ
    by_cases hlt : j < n
    · obtain ⟨b', off, rfl, hb, hit⟩ := HC.out j hlt
      obtain ⟨d0, d1, d2, d3⟩ := hit.below hb HB.out
      obtain ⟨u, hu⟩ : ∃ u : Nat, (Frm.it l j).1 = (u : Int) := ⟨(Frm.it l j).1.toNat, by have := HI.out j hlt; omega⟩
      have hub := HI.out j hlt
      rw [hu] at hub d0
      have u13 : u < 13 := by omega
      have u13' : (u : Int) < 13 := by omega
      have u0' : (1 : Int) ≤ (u : Int) := by omega
      have u12' : (u : Int) ≤ 12 := by omega
      obtain ⟨c0, cp⟩ := HP.out _ HB.out
      obtain ⟨p0, p1, p2, p3, p4⟩ := cp u u13
      clear hit cp
      have HX := hideG hu
      have HS2 := hideG (HSUC.out j hlt u hu)
      obtain ⟨⟨x1, x2⟩, ⟨x3, x4⟩, x5, x6⟩ := HE.out j hlt
      obtain ⟨xa, hxa⟩ : ∃ x, x = (Frm.it l j).2.1 := ⟨_, rfl⟩
      obtain ⟨xb, hxb⟩ : ∃ x, x = (Frm.it l j).2.2.1 := ⟨_, rfl⟩
      obtain ⟨xc, hxc⟩ : ∃ x, x = (Frm.it l j).2.2.2 := ⟨_, rfl⟩
      rw [← hxa] at d1 x1 x2
      rw [← hxb] at d2 x3 x4
      rw [← hxc] at d3 x5 x6
      have HIT := hideG (show Cli.itemOf l (u : Int) = ((u : Int), xa, xb, xc) by rw [← hu, HOF.out j hlt, hxa, hxb, hxc])
      clear hu hxa hxb hxc
      have HFK := hideG (show Cli.firstP c k u = if Cli.hasI k (u : Int) = true then Cli.pr1 c k u else Cli.Pr.z from rfl)
      obtain ⟨F, hF⟩ : ∃ F, F = Cli.firstP c k u := ⟨_, rfl⟩
      rw [← hF] at p0 p1 p2 p3 p4 HFK
      clear hF
      obtain ⟨F0, F1, F2, F3, F4⟩ := F
      have al : ∀ (ob : Obj) (o : Nat), (wr.alloc ob).cell? ⟨b, o, none⟩ = wr.cell? ⟨b, o, none⟩ := fun ob o => ((Below.refl wr.heap.size wr).alloc (Nat.le_refl _) ob).cell (p := ⟨b, o, none⟩) (by show b < _; omega)
      have al2 : ∀ (o1 o2 : Obj) (o : Nat), ((wr.alloc o1).alloc o2).cell? ⟨b, o, none⟩ = wr.cell? ⟨b, o, none⟩ := fun o1 o2 o => (((Below.refl wr.heap.size wr).alloc (Nat.le_refl _) o1).alloc (by simp) o2).cell (p := ⟨b, o, none⟩) (by show b < _; omega)
      go_wp2_with fail
      go_region
      obtain ⟨X, hX⟩ : ∃ X, X = ((wr.alloc (.cells #[.int .i64 u, .int .i64 xa, .int .i64 xb, .int .i64 xc] 147)).alloc (.cells #[.bool F0, .int .i64 F1, .int .i64 F2, .int .i64 F3, .int .i64 F4] 201)).drew := ⟨_, rfl⟩
      rw [← hX]
      have hbX : Below wr.heap.size wr X := by rw [hX]; exact (((Below.refl wr.heap.size wr).alloc (Nat.le_refl _) _).alloc (by simp) _).drew
      have sX : X.heap.size = wr.heap.size + 2 := by rw [hX]; simp
      have BX := hideG hbX
      have HX8 := hideG (fun (Y : World) (hb : Below X.heap.size X Y) => (show (Y.cell? ⟨wr.heap.size, 0, none⟩ = some (.int .i64 u) ∧ Y.cell? ⟨wr.heap.size, 1, none⟩ = some (.int .i64 xa) ∧ Y.cell? ⟨wr.heap.size, 2, none⟩ = some (.int .i64 xb) ∧ Y.cell? ⟨wr.heap.size, 3, none⟩ = some (.int .i64 xc)) ∧ (Y.cell? ⟨wr.heap.size + 1, 0, none⟩ = some (.bool F0) ∧ Y.cell? ⟨wr.heap.size + 1, 1, none⟩ = some (.int .i64 F1) ∧ Y.cell? ⟨wr.heap.size + 1, 2, none⟩ = some (.int .i64 F2)) ∧ Y.cell? ⟨b, oo, none⟩ = some (.int .i64 c.id) ∧ Below wr.heap.size wr Y from by
        have e0 : ∀ o, Y.cell? ⟨wr.heap.size, o, none⟩ = X.cell? ⟨wr.heap.size, o, none⟩ := fun o => hb.cell (p := ⟨wr.heap.size, o, none⟩) (by show wr.heap.size < _; omega)
        have e1 : ∀ o, Y.cell? ⟨wr.heap.size + 1, o, none⟩ = X.cell? ⟨wr.heap.size + 1, o, none⟩ := fun o => hb.cell (p := ⟨wr.heap.size + 1, o, none⟩) (by show wr.heap.size + 1 < _; omega)
        have hY : Below wr.heap.size wr Y := hbX.trans (hb.mono (by omega))
        refine ⟨⟨?_, ?_, ?_, ?_⟩, ⟨?_, ?_, ?_⟩, (hY.cell (p := ⟨b, oo, none⟩) (by show b < _; omega)).trans c0, hY⟩
        · rw [e0, hX]; simp
        · rw [e0, hX]; simp
        · rw [e0, hX]; simp
        · rw [e0, hX]; simp
        · rw [e1, hX]; simp
        · rw [e1, hX]; simp
        · rw [e1, hX]; simp))
      clear hX hbX p0 p1 p2 p3 p4 c0 d0 d1 d2 d3 al al2
      obtain ⟨⟨y0, y1, y2, y3⟩, ⟨y4, y5, y6⟩, c0, _⟩ := HX8.out X (Below.refl _ _)
      by_cases q : (u : Int) = c.id
      · have q' : ((u : Int) == c.id) = true := by simpa using q
        have HBD := hideG (HBAD.out j hlt (.inl (by rw [HX.out, q])))
        have HQ := hideG q
        clear q
        go_wp2_with fail
        go_quiet (fail)
        obtain ⟨X2, hst, hrow, hbx⟩ := HFAIL.out (X.drewN nq) (BX.out.trans ((below_drewN X nq).mono (by omega)))
        have HROW := hideG hrow
        have HBX := hideG hbx
        clear hrow hbx
        go_wp2_with fail
        refine bodyPost_ret (results_row_tmp rfl _ _ w.heap.size 203 CZ (0, 0) _ rfl HROW.out Tryz.underlying203 rfl HSZ.out) rfl ?_
        exact ⟨fun _ => Cli.Pr.z, by rw [HBD.out, ← HCZ.out]; rfl, fun e => (by rw [HBD.out] at e; cases e), HBX.out⟩
      · have q' : ((u : Int) == c.id) = false := by simpa using q
        cases F0
        · have HBD := hideG (HBAD.out j hlt (.inr (.inl (by
            rw [HX.out]
            cases e : Cli.hasI k (u : Int)
            · rfl
            · have := HFK.out; rw [if_pos e] at this; unfold Cli.pr1 at this; rw [if_neg q] at this; cases this))))
          have HQ := hideG q
          clear q
          go_wp2_with fail
          go_quiet (fail)
          obtain ⟨X2, hst, hrow, hbx⟩ := HFAIL.out (X.drewN nq) (BX.out.trans ((below_drewN X nq).mono (by omega)))
          have HROW := hideG hrow
          have HBX := hideG hbx
          clear hrow hbx
          go_wp2_with fail
          refine bodyPost_ret (results_row_tmp rfl _ _ w.heap.size 203 CZ (0, 0) _ rfl HROW.out Tryz.underlying203 rfl HSZ.out) rfl ?_
          exact ⟨fun _ => Cli.Pr.z, by rw [HBD.out, ← HCZ.out]; rfl, fun e => (by rw [HBD.out] at e; cases e), HBX.out⟩
        · have hhas : Cli.hasI k (u : Int) = true := by
            cases e : Cli.hasI k (u : Int)
            · have := HFK.out; rw [if_neg (by rw [e]; simp)] at this; cases this
            · rfl
          have hpr := HFK.out
          rw [if_pos hhas] at hpr
          unfold Cli.pr1 at hpr
          rw [if_neg q] at hpr
          have hF1 : F1 = Cli.chKey c k u := by cases hpr; rfl
          have hF2 : F2 = Cli.mkKey c k u := by cases hpr; rfl
          have k1 : 0 ≤ F1 := by rw [hF1]; exact Num.powP_lo _ _
          have k2 : F1 < 2305843009213693951 := by rw [hF1]; exact Num.powP_hi _ _
          have HHAS := hideG hhas
          have HOP := hideG (show Cli.opensB c k l (u : Int) = decide (Num.tagN F1 (64 * u + 4 * c.id) xa xb = xc) by unfold Cli.opensB; rw [HIT.out, hF1])
          have HP2 := hideG (show Cli.pr2 c k l (Frm.it l j).1 = ⟨true, 0, F2, Num.subP xa (Num.padN F1 (64 * u + 4 * c.id)), Num.subP xb (Num.padN F1 (64 * u + 4 * c.id + 1))⟩ by
            rw [HX.out]; unfold Cli.pr2 Cli.mShare Cli.sShare; rw [if_neg q, if_neg q, HIT.out, hF1, hF2])
          have HQ := hideG q
          clear q hhas hpr hF1 hF2 HFK
          have i12 : c.id ≤ 12 := by omega
          go_wp2_with fail
          go_quiet (fail)
          have hb9 := below_drewN X nq
          generalize X.drewN nq = X9 at *
          clear y0 y1 y2 y3 y4 y5 y6 c0
          obtain ⟨⟨y0, y1, y2, y3⟩, ⟨y4, y5, y6⟩, c0, hbw9⟩ := HX8.out X9 hb9
          have HB9 := hideG hb9
          have HW9 := hideG hbw9
          have s9 := hb9.size
          clear hb9 hbw9
          cases q3 : (Num.tagN F1 (64 * u + 4 * c.id) xa xb != xc)
          · have HOK := hideG (show Cli.opensB c k l (Frm.it l j).1 = true by rw [HX.out, HOP.out]; simpa using q3)
            go_wp2_with fail
            go_quiet ((go_at_call 222; refine Calls.quiet_of_same (open_yes _ _ _ _ _ _ _ k1 k2 u0' u12' gi.1 i12 x1 x2 x3 x4 x5 x6 q3)))
            have hb11 := below_drewN X9 nq
            generalize X9.drewN nq = X11 at *
            clear y0 y1 y2 y3 y4 y5 y6 c0
            obtain ⟨⟨y0, y1, y2, y3⟩, ⟨y4, y5, y6⟩, c0, hbw11⟩ := HX8.out X11 (HB9.out.trans (hb11.mono s9))
            have HW11 := hideG hbw11
            have HTH := hideG ((HCC.out.below hbw11 hs2).there (u * 5) 5 (by omega))
            clear hb11 hbw11 q3
            obtain ⟨A1, hA1⟩ : ∃ A, A = Num.subP xa (Num.padN F1 (64 * u + 4 * c.id)) := ⟨_, rfl⟩
            obtain ⟨A2, hA2⟩ : ∃ A, A = Num.subP xb (Num.padN F1 (64 * u + 4 * c.id + 1)) := ⟨_, rfl⟩
            rw [← hA1, ← hA2] at HP2 ⊢
            clear hA1 hA2
            go_wp2_with (refine wpList_store_peer rfl _ _ rfl (w.heap.size + 1) (u * 5) true 0 F2 A1 A2 rfl rfl ?t ?_)
            case t => exact HTH.out
            go_wp2_with fail
            go_roundw
            case rel =>
              refine ⟨j + 1, by omega, by go_num, fun j' hj' => ?_, ?_, ?_, below_setCells (by omega) _ _ _ (HB.out.trans (HW11.out.mono hsz))⟩
              · by_cases e : j' = j
                · subst e; rw [HX.out]; exact ⟨HQ.out, HHAS.out, by rw [← HX.out]; exact HOK.out⟩
                · exact HALL.out j' (by omega)
              · rw [HS2.out, HP2.out]
                exact (HCC.out.below HW11.out hs2).set u u13 ⟨true, 0, F2, A1, A2⟩
              · exact (HZZ.out.below HW11.out (by omega)).block (heap_setCells_other _ _ (by omega) _ _ _)
            case measure => simp [intOf]; omega
          · have HBD := hideG (HBAD.out j hlt (.inr (.inr (by rw [HX.out, HOP.out]; simpa using q3))))
            go_wp2_with fail
            go_quiet ((go_at_call 222; refine Calls.quiet_of_same (open_tag _ _ _ _ _ _ _ k1 k2 u0' u12' gi.1 i12 x1 x2 x3 x4 x5 x6 q3)))
            obtain ⟨X2, hst, hrow, hbx⟩ := HFAIL.out (X9.drewN nq) (HW9.out.trans ((below_drewN X9 nq).mono (by omega)))
            have HROW := hideG hrow
            have HBX := hideG hbx
            clear hrow hbx
            go_wp2_with fail
            refine bodyPost_ret (results_row_tmp rfl _ _ w.heap.size 203 CZ (0, 0) _ rfl HROW.out Tryz.underlying203 rfl HSZ.out) rfl ?_
            exact ⟨fun _ => Cli.Pr.z, by rw [HBD.out, ← HCZ.out]; rfl, fun e => (by rw [HBD.out] at e; cases e), HBX.out⟩
    · have ek : j = n := by omega
      subst ek
      have HGD := hideG (HGOOD.out ht HALL.out)
      have HCR := hideG HCC.out.range
      have HZT := hideG (HZZ.out.there 0 65 (by omega))
      have HL65 := hideG (circ_length (Cli.secondJ c k l j))
      have HON := hideG (all_oneCell_toArray (circ_one (Cli.secondJ c k l j)))
      have HEN := hideG (show CircAt (wr.setCells w.heap.size 0 (circ (Cli.secondJ c k l j))) w.heap.size (Cli.secondJ c k l j) ∧ Below w.heap.size w (wr.setCells w.heap.size 0 (circ (Cli.secondJ c k l j))) from
        ⟨HZZ.out.all _, below_setCells (Nat.le_refl _) _ _ _ HB.out⟩)
      obtain ⟨g, hg⟩ : ∃ g, g = Cli.secondJ c k l j := ⟨_, rfl⟩
      have HG := hideG (hg.trans HEND.out)
      rw [← hg] at HCR HL65 HON HEN
      clear hg
      obtain ⟨CS, hCS⟩ : ∃ CS, CS = circ g := ⟨_, rfl⟩
      rw [← hCS] at HCR HL65 HON HEN
      have HCS := hideG hCS
      clear hCS
      have HROW := hideG (show (wr.setCells w.heap.size 0 CS).heap[w.heap.size]? = some (.cells CS.toArray 203 (0, 0)) by have := HEN.out.1; unfold CircAt at this; rw [← HCS.out] at this; exact this)
      have HSZ2 := hideG (show (Tryz.prog.info? 203).map (·.size) = some CS.toArray.size by rw [size_circ, List.size_toArray, HL65.out])
      have HSL := hideG (show (Tryz.prog.info? 203).map (·.size) = some CS.length by rw [size_circ, HL65.out])
      have e65 : CS.toArray.size = 65 := by rw [List.size_toArray]; exact HL65.out
      have HT1 := hideG (show wr.there w.heap.size 0 CS.toArray.size by rw [e65]; exact HZT.out)
      clear e65
      go_wp2_with (first | refine wpList_load_mid rfl 203 _ rfl (w.heap.size + 1) 0 rfl CS _ HCR.out Tryz.underlying203 rfl HSL.out ?_ | refine wpList_store_mid rfl 203 _ _ rfl w.heap.size 0 CS.toArray rfl rfl HT1.out HSZ2.out HON.out ?_)
      refine bodyPost_ret (results_row_tmp rfl _ _ w.heap.size 203 CS.toArray (0, 0) _ rfl HROW.out Tryz.underlying203 rfl HSZ2.out) rfl ?_
      exact ⟨g, by rw [HGD.out, HCS.out]; rfl, fun _ => HG.out, HEN.out.2⟩
theorem second_calls (b oo : Nat) (S : PS) (c : Cli.Cl) (v : Value) (k l : List Frm.It) (w : World) (h : PSAt w b oo S) (hl : ItemsAt w v l) (hr : Frm.riseB l = true) (hlen : l.length ≤ 12)
    (hel : ∀ x ∈ l, (0 ≤ x.2.1 ∧ x.2.1 < 2305843009213693951) ∧ (0 ≤ x.2.2.1 ∧ x.2.2.1 < 2305843009213693951) ∧ (0 ≤ x.2.2.2 ∧ x.2.2.2 < 2305843009213693951))
    (hc : Cli.Good c) (eid : S.id = c.id) (et : S.t = c.T) (hf : ∀ v, v < 13 → S.f v = Cli.firstP c k v) (hown : Cli.hasI k c.id = true) :
    Calls Tryz.prog 261 #[.pointer (some ⟨b, oo, none⟩), v] w fun e w' =>
      ∃ g, e = .returned (.tuple #[.agg (circ g).toArray, .bool (Cli.boxAgree c k l)]) ∧ (Cli.boxAgree c k l = true → g = Cli.secondP c k l) ∧ Below w.heap.size w w' := by
  by_cases ht : c.T ≤ (l.length : Int) + 1
  · exact second_long b oo S c v k l w h hl hr hlen hel hc eid et hf hown ht
  · have hb : Cli.boxAgree c k l = false := by unfold Cli.boxAgree; rw [decide_eq_false ht, Bool.false_and, Bool.and_false]
    refine (second_short b oo S v l w h hl hlen (by rw [et]; omega)).mono ?_
    rintro e w' ⟨rfl, hw⟩
    exact ⟨fun _ => Cli.Pr.z, by rw [hb], fun e => (by rw [hb] at e; cases e), hw⟩
end Go.Proofs.YtchideljndagjabGreat.Co
namespace Go.Proofs.YtchideljndagjabGreat.Co
open Go.ChangeShapes Go.WideShapes Go.ChangeAt Go.RowKit
set_option linter.unusedVariables false
set_option maxHeartbeats 2000000 in
set_option maxRecDepth 100000 in
theorem masks_calls (b oo : Nat) (S : PS) (c : Cli.Cl) (l m : List Frm.It) (i : Nat) (w : World) (h : PSAt w b oo S) (hi : i ≤ 12)
    (hc : Cli.Good c) (eid : S.id = c.id) (esd : S.sd = c.sd) (hf : ∀ v, v < 13 → S.f v = Cli.secondP c l m v) (hno : Cli.hasI m c.id = false) :
    Calls Tryz.prog 294 #[.pointer (some ⟨b, oo, none⟩), .int .i64 ((i : Int) + 1)] w fun e w' => e = .returned (.int .i64 (Cli.msum c l m i 13)) ∧ Below w.heap.size w w' := by
  have hbl := h.lt
  obtain ⟨g5, g6⟩ := hc.sd
  have gi := hc.i
  have gn := hc.n
  have HRG := hideG h.range
  have HRL := hideG (circ_length S.f)
  have HIX := hideG (run_index_circ S.f)
  have c9 := h.c9
  rw [esd] at c9
  have HP := hideG (fun (w1 : World) (hb : Below w.heap.size w w1) => (show w1.cell? ⟨b, oo, none⟩ = some (.int .i64 c.id) by rw [← eid]; exact (h.below hb).c0))
  have HF := hideG hf
  have HNO := hideG hno
  have HMB := hideG (Cli.msum_bd c l m i)
  have HM0 := hideG (show Cli.msum c l m i 0 = Num.strAt c.sd i from rfl)
  clear h hf hno eid esd
  generalize S.f = f at *
  obtain ⟨CS, hCS⟩ : ∃ CS, CS = circ f := ⟨_, rfl⟩
  rw [← hCS] at HRG HRL HIX
  clear hCS
  go_enter Tryz.func294, Tryz.ntmps294
  go_wp2_with fail
  refine (maskNumber_calls _ _ _ g5 g6 hi).mono ?_
  rintro e w0 ⟨rfl, hw0⟩
  rw [hw0, ← HM0.out]
  clear hw0
  go_wp2_with (refine wpList_load_mid rfl 203 _ rfl b (oo + 12) rfl CS _ HRG.out Tryz.underlying203 rfl ?z ?_)
  case z => rw [size_circ, HRL.out]
  go_wp2_with fail
  go_loopw [5, 19] (fun u i' wr => ∃ k : Nat, k ≤ 13 ∧ i' = .int .i64 k ∧ u = .int .i64 (Cli.msum c l m i k) ∧ Below w.heap.size w wr) (fun _ i' _ => 13 - (intOf i').toNat)
  case atStart => exact ⟨0, by omega, rfl, rfl, Below.refl _ _⟩
  case round =>
    obtain ⟨k, hk, rfl, rfl, hbel⟩ := hrel
    have HB := hideG hbel
    have hsz := hbel.size
    clear hbel
    by_cases hlt : k < 13
    · have hlt' : (k : Int) < 13 := by omega
      have hix := HIX.out k hlt
      have hfk := HF.out k hlt
      have c0 := HP.out _ HB.out
      have al : ∀ (ob : Obj) (o : Nat), (wr.alloc ob).cell? ⟨b, o, none⟩ = wr.cell? ⟨b, o, none⟩ := fun ob o => ((Below.refl wr.heap.size wr).alloc (Nat.le_refl _) ob).cell (p := ⟨b, o, none⟩) (by show b < _; omega)
      have hbd := HMB.out k
      have HSU := hideG (msum_succ c l m i k)
      obtain ⟨M, hM⟩ : ∃ M, M = Cli.msum c l m i k := ⟨_, rfl⟩
      rw [← hM] at hbd HSU ⊢
      clear hM c9
      obtain ⟨bd1, bd2⟩ := hbd
      have bd3 : M ≤ 60129542144 := by omega
      clear bd2
      cases q : Cli.hasI m k
      · rw [q] at HSU
        have HS2 := hideG (show Cli.msum c l m i (k + 1) = M by rw [HSU.out, if_neg (by simp)]; omega)
        by_cases q2 : (k : Int) = c.id
        · have hme : (f k).mem = true := by rw [hfk]; unfold Cli.secondP; rw [q, if_neg (by simp), if_pos q2]; rfl
          rw [hme] at hix
          have n1 : ¬ c.id < (k : Int) := by omega
          have n2 : ¬ (k : Int) < c.id := by omega
          have HQ := hideG q2
          clear q q2 hme hfk
          generalize (f k).ck = y1 at *
          generalize (f k).mq = y2 at *
          generalize (f k).ms = y3 at *
          generalize (f k).ss = y4 at *
          go_wp2_with fail
          go_roundw
          case rel => exact ⟨k + 1, by omega, by go_num, by rw [HS2.out], HB.out.alloc (by omega) _⟩
          case measure => simp [intOf]; omega
        · have hme : (f k).mem = false := by rw [hfk]; unfold Cli.secondP; rw [q, if_neg (by simp), if_neg q2]; rfl
          rw [hme] at hix
          clear q q2 hme hfk
          generalize (f k).ck = y1 at *
          generalize (f k).mq = y2 at *
          generalize (f k).ms = y3 at *
          generalize (f k).ss = y4 at *
          go_wp2_with fail
          go_roundw
          case rel => exact ⟨k + 1, by omega, by go_num, by rw [HS2.out], HB.out.alloc (by omega) _⟩
          case measure => simp [intOf]; omega
      · rw [q] at HSU
        have hpr : f k = Cli.pr2 c l m k := by rw [hfk]; unfold Cli.secondP; rw [if_pos q]
        have hme : (f k).mem = true := by rw [hpr]; rfl
        have hmq : (f k).mq = Cli.mkKey c l k := by rw [hpr]; rfl
        have k1 : 0 ≤ Cli.mkKey c l k := Num.powP_lo _ _
        have k2 : Cli.mkKey c l k < 2305843009213693951 := Num.powP_hi _ _
        rw [hme, hmq] at hix
        have hne : (k : Int) ≠ c.id := fun e => by rw [e, HNO.out] at q; cases q
        have st := Cli.strAt_range (Cli.mkKey c l k) i
        obtain ⟨K, hK⟩ : ∃ K, K = Cli.mkKey c l k := ⟨_, rfl⟩
        rw [← hK] at hix HSU k1 k2 st
        obtain ⟨st1, st2⟩ := st
        clear hme hmq hpr hfk q hK
        generalize (f k).ck = y1 at *
        generalize (f k).ms = y3 at *
        generalize (f k).ss = y4 at *
        by_cases q2 : c.id < (k : Int)
        · have n2 : ¬ (k : Int) < c.id := by omega
          have HS2 := hideG (show Cli.msum c l m i (k + 1) = M + Num.strAt K i by rw [HSU.out, if_pos rfl, if_pos q2])
          clear hne
          go_wp2_with fail
          refine (maskNumber_calls _ _ _ k1 k2 hi).mono ?_
          rintro e w1 ⟨rfl, hw1⟩
          rw [hw1]
          clear hw1
          obtain ⟨E, hE⟩ : ∃ E, E = Num.strAt K i := ⟨_, rfl⟩
          rw [← hE] at HS2 st1 st2 ⊢
          clear hE
          go_wp2_with fail
          go_roundw
          case rel => exact ⟨k + 1, by omega, by go_num, by rw [HS2.out], HB.out.alloc (by omega) _⟩
          case measure => simp [intOf]; omega
        · have n2 : (k : Int) < c.id := by omega
          have HS2 := hideG (show Cli.msum c l m i (k + 1) = M + 4294967296 - Num.strAt K i by rw [HSU.out, if_pos rfl, if_neg q2]; omega)
          clear hne
          go_wp2_with fail
          refine (maskNumber_calls _ _ _ k1 k2 hi).mono ?_
          rintro e w1 ⟨rfl, hw1⟩
          rw [hw1]
          clear hw1
          obtain ⟨E, hE⟩ : ∃ E, E = Num.strAt K i := ⟨_, rfl⟩
          rw [← hE] at HS2 st1 st2 ⊢
          clear hE
          go_wp2_with fail
          go_roundw
          case rel => exact ⟨k + 1, by omega, by go_num, by rw [HS2.out], HB.out.alloc (by omega) _⟩
          case measure => simp [intOf]; omega
    · have ek : k = 13 := by omega
      subst ek
      go_wp2_with fail
      go_ret
      exact ⟨rfl, HB.out⟩
set_option maxHeartbeats 2000000 in
set_option maxRecDepth 100000 in
theorem maskedList_calls (b oo : Nat) (S : PS) (c : Cli.Cl) (l m : List Frm.It) (w : World) (h : PSAt w b oo S) (hin : ListAt w S.inp c.inp) (hm : Frm.riseB m = true)
    (hc : Cli.Good c) (eid : S.id = c.id) (esd : S.sd = c.sd) (hf : ∀ v, v < 13 → S.f v = Cli.secondP c l m v) (hno : Cli.hasI m c.id = false) :
    Calls Tryz.prog 262 #[.pointer (some ⟨b, oo, none⟩)] w fun e w' =>
      ∃ va, e = .returned va ∧ w'.ownsRow w.heap.size 147 4 va (Cli.masking c l m).length (flat4 (Cli.masking c l m)) ∧ Below w.heap.size w w' := by
  obtain ⟨i1, hi1, hy0, hy1, hy2⟩ := info_parts infoIt
  have hbl := h.lt
  have gm := hc.m
  have c6 := h.c6
  have HM := hideG (fun (w1 : World) (k : Nat) (hk : k ≤ 12) (hb : Below w.heap.size w w1) => masks_calls b oo S c l m k w1 (h.below hb) hk hc eid esd hf hno)
  have HALL := hideG (fun k => Cli.msum_all c l hm k)
  have HBD := hideG (fun k => Cli.msum_bd c l m k 13)
  have HSU := hideG (masking_succ c l m)
  have hlen := hc.len
  have HW := hideG hc.inp
  obtain ⟨a, cap, hv, l2, l3, _, hcl⟩ := hin
  have hcl' : ∀ k, k < c.inp.length → ∃ b' off, a = some ⟨b', off, none⟩ ∧ b' < w.heap.size ∧ w.cell? ⟨b', off + k, none⟩ = some (.int .i64 (c.inp.getD k 0)) := by
    intro k hk
    rcases hcl with hcl | ⟨b', off, e, hb, hcc⟩
    · rw [hcl] at hk; simp at hk
    · exact ⟨b', off, e, hb, hcc k hk⟩
  have HC := hideG hcl'
  have HEND := hideG (show (Cli.masking c l m).take c.inp.length = Cli.masking c l m from List.take_of_length_le (by rw [Cli.masking_length]; omega))
  have HML := hideG (show (Cli.masking c l m).length = c.inp.length by rw [Cli.masking_length]; omega)
  rw [hv] at c6
  clear h hf hno eid esd hcl hcl' hv hm
  unfold maxLen at l3
  obtain ⟨n, hn⟩ : ∃ n, n = c.inp.length := ⟨_, rfl⟩
  rw [← hn] at c6 hlen l2 HC HEND HML
  have n12 : n ≤ 12 := by omega
  have HN := hideG hn
  have HMN := hideG (show n = c.M.toNat by omega)
  clear hn hlen
  go_enter Tryz.func262, Tryz.ntmps262
  go_wp2_with fail
  go_loopw [3, 13] (fun u i wr => ∃ k : Nat, k ≤ n ∧ i = .int .i64 k ∧ wr.ownsRow w.heap.size 147 4 u k (flat4 ((Cli.masking c l m).take k)) ∧ Below w.heap.size w wr) (fun _ i _ => n - (intOf i).toNat)
  case atStart => exact ⟨0, by omega, rfl, World.ownsRow_nil _ _ _ _, Below.refl _ _⟩
  case round =>
    obtain ⟨k, hk, rfl, hown, hbel⟩ := hrel
    have HO := hideG hown
    have HB := hideG hbel
    have hsz := hbel.size
    obtain ⟨a3, c3, hv3⟩ := owns_form hown
    subst hv3
    clear hown hbel c6
    by_cases hlt : k < n
    · obtain ⟨b', off, rfl, hb', hit⟩ := HC.out k hlt
      have d0 := (HB.out.cell (p := ⟨b', off + k, none⟩) hb').trans hit
      have hz := HW.out (c.inp.getD k 0) (by rw [List.getD_eq_getElem?_getD, List.getElem?_eq_getElem (by rw [← HN.out]; exact hlt)]; exact List.getElem_mem _)
      have HAL := hideG (HALL.out k)
      obtain ⟨z, hzz⟩ : ∃ z, z = c.inp.getD k 0 := ⟨_, rfl⟩
      rw [← hzz] at d0 hz HAL
      obtain ⟨z1, z2⟩ := hz
      clear hit hzz
      go_wp2_with fail
      refine (HM.out _ k (by omega) HB.out).mono ?_
      rintro e w1 ⟨rfl, hb1⟩
      have bd := HBD.out k
      obtain ⟨M, hM⟩ : ∃ M, M = Cli.msum c l m k 13 := ⟨_, rfl⟩
      rw [← hM] at bd HAL ⊢
      obtain ⟨bd1, bd2⟩ := bd
      have bd3 : M ≤ 60129542144 := by omega
      have s1 := hb1.size
      have B1 := hideG (HB.out.trans (hb1.mono hsz))
      have O1 := hideG (ownsRow_chg (S := fun _ => False) HO.out (Chg.of_below hb1) (fun _ _ h => h))
      clear hb1 hM bd2
      have HS2 := hideG (HSU.out k (by rw [← HMN.out]; exact hlt))
      obtain ⟨R, hR⟩ : ∃ R, R = (z + M) % 4294967296 := ⟨_, rfl⟩
      have hR' : (z + M) % 4294967296 = R := hR.symm
      have HRR := hideG (show Cli.maskSum c l m k % 4294967296 = R by rw [← HAL.out]; exact hR')
      clear hR
      go_wp2_with (at_builtin; refine wpList_append_own _ rfl _ _ 63 rfl w.heap.size 147 i1 (.agg #[.int .i64 0, .int .i64 0, .int .i64 0, .int .i64 0]) 4 32 Tryz.underlying63 hi1 hy0 hy1 hy2 rfl (by decide) _ _ _ rfl (O1.out.alloc _) ⟨w1.heap.size, 0, none⟩ 1 1 [.int .i64 ((k : Int) + 1), .int .i64 R, .int .i64 0, .int .i64 0] rfl rfl ?c1 ?c2 ?c3 ?c4 ?c5 ?_)
      case c1 => exact cell_four_new _ _ _ _ _ _
      case c2 => intro u hu; simp at hu; rcases hu with rfl | rfl | rfl <;> rfl
      case c3 => unfold maxLen; omega
      case c4 => omega
      case c5 => simp; omega
      intro v' w4 hown' hgrow' _
      have hb4 := (B1.out.alloc (by omega) _).grown hgrow' (by simp; omega) (fun y hy => (O1.out.lt y hy).1)
      have B4 := hideG hb4
      have O4 := hideG (show w4.ownsRow w.heap.size 147 4 v' (k + 1) (flat4 ((Cli.masking c l m).take (k + 1))) by
        rw [HS2.out, flat4_append, HRR.out]; exact hown')
      clear hown' hgrow' hb4
      go_wp2_with fail
      go_roundw
      case rel => exact ⟨k + 1, by omega, by go_num, O4.out, B4.out⟩
      case measure => simp [intOf]; omega
    · have ek : k = n := by omega
      subst ek
      go_wp2_with fail
      go_ret
      exact ⟨_, rfl, by rw [HML.out, ← HEND.out]; exact HO.out, HB.out⟩
end Go.Proofs.YtchideljndagjabGreat.Co
namespace Go.Proofs.YtchideljndagjabGreat.Co
open Go.ChangeShapes Go.WideShapes Go.ChangeAt Go.RowKit
set_option linter.unusedVariables false
set_option maxHeartbeats 2000000 in
set_option maxRecDepth 100000 in
theorem takeBox_calls (b oo : Nat) (c : Cli.Cl) (s : Cli.St) (S : PS) (v : Value) (fr : Int) (l : List Frm.It) (w : World) (hc : Cli.Good c) (hw : CliW w b oo c s S) (h2 : s.1 = 2) (hl : ItemsAt w v l) (ho : Frm.okF 4 fr l = true) :
    Calls Tryz.prog 207 #[.pointer (some ⟨b, oo, none⟩), v] w fun e w' => ∃ va, e = .returned va ∧ ∃ S', Took w w' b oo c (if Cli.boxAgree c s.2.1 l = true then (3, s.2.1, l, []) else (0, s.2.1, l, [])) S S' ∧ Ans w w' b S' va (if Cli.boxAgree c s.2.1 l = true then some (5, c.id, Cli.masking c s.2.1 l) else none) := by
  have h := hw.cli
  have HLOW := hideG hw.low
  clear hw
  obtain ⟨o1, o2, o3, o4, o5⟩ := Frm.okF_parts ho
  have et := h.et (by omega) (by omega)
  obtain ⟨n1, n2, n3, n4⟩ := h.two h2
  obtain ⟨m1, m2⟩ := h.mid (by omega) (by omega)
  obtain ⟨a1, a2, a3, a4⟩ := h.apart
  have hbl := h.at_.lt
  have hown := Cli.hasI_own hc n3
  obtain ⟨k, hk⟩ : ∃ k, k = s.2.1 := ⟨_, rfl⟩
  rw [← hk] at n1 n2 n3 n4 hown ⊢
  have HSE := hideG (second_calls b oo S c v k l w h.at_ hl o3 o1 (okF_box ho) hc h.eid et n1 hown)
  have HH := hideG (fun w1 hp => halt_calls b oo S w1 hp)
  have HPS := hideG (fun w1 (hb : Below w.heap.size w w1) => h.at_.below hb)
  have HE := hideG (And.intro h.eid (And.intro h.ecp h.emp))
  have HNA := hideG (h.nil (by omega))
  obtain ⟨a, cap, rfl, -⟩ := items_view hl
  have HZ := hideG zero_circ
  cases hag : Cli.boxAgree c k l
  · rw [hag] at HSE
    rw [if_neg (by simp), if_neg (by simp)]
    clear h hl ho o1 o2 o3 o4 o5 et n1 n2 n3 n4 m1 m2 a1 a2 a3 a4 hag hk
    go_enter Tryz.func207, Tryz.ntmps207
    go_wp2_with fail
    refine HSE.out.mono ?_
    rintro e w1 ⟨g, rfl, -, hb1⟩
    have s1 := hb1.size
    have B1 := hideG hb1
    clear hb1
    obtain ⟨CS, hCS⟩ : ∃ CS, CS = circ g := ⟨_, rfl⟩
    rw [← hCS]
    have L65 := hideG (show CS.length = 65 by rw [hCS]; exact circ_length g)
    have HON := hideG (show CS.toArray.all (·.oneCell') = true by rw [hCS]; exact all_oneCell_toArray (circ_one g))
    clear hCS
    have HSZ := hideG (show (Tryz.prog.info? 203).map (·.size) = some CS.toArray.size by rw [size_circ, List.size_toArray, L65.out])
    have HC0 := hideG (show CircAt (w1.alloc (.cells Tryz.zeroCells203 203)) w1.heap.size (fun _ => Cli.Pr.z) by unfold CircAt; rw [← HZ.out]; exact heap_alloc_new w1 _)
    have HTH := hideG (show (w1.alloc (.cells Tryz.zeroCells203 203)).there w1.heap.size 0 CS.toArray.size by rw [show CS.toArray.size = 65 by rw [List.size_toArray]; exact L65.out]; exact HC0.out.there 0 65 (by omega))
    have B2 := hideG (show Below w.heap.size w ((w1.alloc (.cells Tryz.zeroCells203 203)).setCells w1.heap.size 0 CS) from below_setCells s1 _ _ _ (B1.out.alloc s1 _))
    go_wp2_with (refine wpList_store_mid rfl 203 _ _ rfl w1.heap.size 0 CS.toArray rfl rfl HTH.out HSZ.out HON.out ?_)
    refine (HH.out _ (HPS.out _ B2.out)).mono ?_
    rintro e w2 ⟨rfl, hp, hch⟩
    have HP := hideG hp
    have HC := hideG hch
    clear hp hch
    go_wp2_with fail
    go_ret
    exact ⟨_, rfl, haltS S, took_halt rfl HP.out HE.out.1 HE.out.2.1 HE.out.2.2 (ChgC.of_below B2.out hbl) HC.out, rfl⟩
  · rw [hag] at HSE
    rw [if_pos rfl, if_pos rfl]
    have hno : Cli.hasI l c.id = false := by unfold Cli.boxAgree at hag; rw [Bool.and_eq_true] at hag; simpa using hag.1
    have HML := hideG (fun (w1 : World) (hch : ChgC b oo w w1) (hp : PSAt w1 b oo { S with f := Cli.secondP c k l }) => maskedList_calls b oo { S with f := Cli.secondP c k l } c k l w1 hp (m1.chg hch.chg (fun x e hx => a1 (by rw [e, hx]))) o3 hc h.eid m2 (fun v _ => rfl) hno)
    have HSO := hideG (Cli.masking_ok hc k l)
    have HCLI := hideG (fun (w1 : World) (hch : ChgC b oo w w1) (hp : PSAt w1 b oo (boxedS S (Cli.secondP c k l))) => (show CliAt w1 b oo c (3, k, l, []) (boxedS S (Cli.secondP c k l)) from
      { at_ := hp, ph := ⟨by show (0 : Int) ≤ 3; omega, by show (3 : Int) ≤ 4; omega⟩, eid := h.eid, eph := rfl, ecp := h.ecp, emp := h.emp, one := fun e => absurd e (by show ¬ (3 : Int) = 1; omega), mid := fun _ e => absurd e (by show ¬ (3 : Int) ≤ 2; omega), et := fun _ _ => et,
        two := fun e => absurd e (by show ¬ (3 : Int) = 2; omega), three := fun _ => ⟨fun _ _ => rfl, o3, hag⟩, nil := fun _ => h.nil (by omega), four := fun e => absurd e (by show ¬ (3 : Int) = 4; omega),
        apart := ⟨by show (Value.slice none 0 0).ownBlock ≠ _; rw [nil_own]; simp, by show (Value.slice none 0 0).ownBlock ≠ _; rw [nil_own]; simp, by show (Value.slice none 0 0).ownBlock ≠ _; rw [nil_own]; simp, a4⟩ }))
    clear h hl ho o1 o2 o3 o4 o5 et n1 n2 n3 n4 m1 m2 a1 a2 a3 a4 hag hk hno
    go_enter Tryz.func207, Tryz.ntmps207
    go_wp2_with fail
    refine HSE.out.mono ?_
    rintro e w1 ⟨g, rfl, hg, hb1⟩
    have hg' : g = Cli.secondP c k l := hg (by first | rfl | trivial)
    rw [← hg'] at HML HCLI
    have s1 := hb1.size
    have B1 := hideG hb1
    clear hb1 hg hg'
    obtain ⟨CS, hCS⟩ : ∃ CS, CS = circ g := ⟨_, rfl⟩
    rw [← hCS]
    have L65 := hideG (show CS.length = 65 by rw [hCS]; exact circ_length g)
    have HON := hideG (show CS.toArray.all (·.oneCell') = true by rw [hCS]; exact all_oneCell_toArray (circ_one g))
    have HSZ := hideG (show (Tryz.prog.info? 203).map (·.size) = some CS.toArray.size by rw [size_circ, List.size_toArray, L65.out])
    have HSL := hideG (show (Tryz.prog.info? 203).map (·.size) = some CS.length by rw [size_circ, L65.out])
    have HC0 := hideG (show CircAt (w1.alloc (.cells Tryz.zeroCells203 203)) w1.heap.size (fun _ => Cli.Pr.z) by unfold CircAt; rw [← HZ.out]; exact heap_alloc_new w1 _)
    have HTH := hideG (show (w1.alloc (.cells Tryz.zeroCells203 203)).there w1.heap.size 0 CS.toArray.size by rw [show CS.toArray.size = 65 by rw [List.size_toArray]; exact L65.out]; exact HC0.out.there 0 65 (by omega))
    obtain ⟨w2, hw2⟩ : ∃ w2, w2 = (w1.alloc (.cells Tryz.zeroCells203 203)).setCells w1.heap.size 0 CS := ⟨_, rfl⟩
    have B2 := hideG (show Below w.heap.size w w2 by rw [hw2]; exact below_setCells s1 _ _ _ (B1.out.alloc s1 _))
    have s2 := B2.out.size
    have RG := hideG (show w2.rangeAt w1.heap.size 0 CS by rw [hw2, hCS]; exact (HC0.out.all g).range)
    have PS2 := hideG (HPS.out w2 B2.out)
    have HT2 := hideG (show w2.there b (oo + 12) CS.toArray.size by rw [List.size_toArray, L65.out]; exact PS2.out.there 12 65 (by omega))
    have PS3 := hideG (show PSAt (w2.setCells b (oo + 12) CS) b oo { S with f := g } by rw [hCS]; exact PS2.out.setF g)
    have C3 := hideG (show ChgC b oo w (w2.setCells b (oo + 12) CS) from (ChgC.of_below B2.out hbl).also (ChgC.cells w2 CS 12 (by have := L65.out; omega)))
    clear hCS
    have HW2 := hideG hw2
    clear hw2
    go_upto_region 2 with (refine wpList_store_mid rfl 203 _ _ rfl w1.heap.size 0 CS.toArray rfl rfl HTH.out HSZ.out HON.out ?_)
    rw [← HW2.out]
    go_wp2_with (first | refine wpList_load_mid rfl 203 _ rfl w1.heap.size 0 rfl CS _ RG.out Tryz.underlying203 rfl HSL.out ?_ | refine wpList_store_mid rfl 203 _ _ rfl b (oo + 12) CS.toArray rfl rfl HT2.out HSZ.out HON.out ?_)
    obtain ⟨w3, hw3⟩ : ∃ w3, w3 = w2.setCells b (oo + 12) CS := ⟨_, rfl⟩
    rw [← hw3] at PS3 C3 ⊢
    clear hw3
    have s3 := C3.out.size
    refine (HML.out w3 C3.out PS3.out).mono ?_
    rintro e w4 ⟨va, rfl, hown, hb4⟩
    have s4 := hb4.size
    have C4 := hideG (C3.out.grow hb4 PS3.out.lt)
    have PS4 := hideG (PS3.out.below hb4)
    have O4 := hideG hown
    obtain ⟨a4, c4, hv4⟩ := owns_form hown
    subst hv4
    clear hown hb4
    have d1 := PS4.out.c1
    have e6 := PS4.out.c6
    have e7 := PS4.out.c7
    have e8 := PS4.out.c8
    have e9 := PS4.out.c9
    have e10 := PS4.out.c10
    have e11 := PS4.out.c11
    have ef1 := PS4.out.froz 1 (by decide); have ef6 := PS4.out.froz 6 (by decide); have ef7 := PS4.out.froz 7 (by decide); have ef8 := PS4.out.froz 8 (by decide); have ef9 := PS4.out.froz 9 (by decide); have ef10 := PS4.out.froz 10 (by decide); have ef11 := PS4.out.froz 11 (by decide)
    have HW6 := hideG (fun (W : World) (hW : W = ((w4.setCell ⟨b, oo + 1, none⟩ (.int .i64 3)).setCells b (oo + 6) [.slice none 0 0, .int .i64 0, .int .i64 0, .int .i64 0, .slice none 0 0, .slice none 0 0])) => (show PSAt W b oo (boxedS S g) ∧ ChgC b oo w W ∧ W.ownsRow w3.heap.size 147 4 (.slice a4 (Cli.masking c k l).length c4) (Cli.masking c k l).length (flat4 (Cli.masking c k l)) from by
      have c1 : ChgC b oo w4 ((w4.setCell ⟨b, oo + 1, none⟩ (.int .i64 3)).setCells b (oo + 6) [.slice none 0 0, .int .i64 0, .int .i64 0, .int .i64 0, .slice none 0 0, .slice none 0 0]) := (ChgC.cell w4 _ 1 (by decide)).also (ChgC.cells _ _ 6 (by show 6 + 6 ≤ 78; omega))
      rw [hW]
      exact ⟨(PS4.out.setPh 3).setDraw (.slice none 0 0) 0 0 0 (.slice none 0 0) (.slice none 0 0), C4.out.also c1, ownsRow_chg O4.out c1.chg (fun x e hx => by have := (O4.out.lt x e).1; omega)⟩))
    go_wp2_with fail
    obtain ⟨w6, hw6⟩ : ∃ w6, w6 = ((((((w4.setCell ⟨b, oo + 1, none⟩ (.int .i64 3)).setCell ⟨b, oo + 6, none⟩ (.slice none 0 0)).setCell ⟨b, oo + 7, none⟩ (.int .i64 0)).setCell ⟨b, oo + 8, none⟩ (.int .i64 0)).setCell ⟨b, oo + 9, none⟩ (.int .i64 0)).setCell ⟨b, oo + 10, none⟩ (.slice none 0 0)).setCell ⟨b, oo + 11, none⟩ (.slice none 0 0) := ⟨_, rfl⟩
    rw [← hw6]
    obtain ⟨p6, ch6, o6⟩ := HW6.out w6 hw6
    have PS6 := hideG p6
    have C6 := hideG ch6
    have I6 := hideG (itemsAt_of_owns o6 (okF_in HSO.out))
    have s6 := ch6.size
    have WR := hideG (written_calls_c b oo (boxedS S g) 5 _ (Cli.masking c k l) w6 p6 I6.out (by show Frm.okF 5 S.id _ = true; rw [HE.out.1]; exact HSO.out))
    clear hw6 p6 ch6 o6 d1 e6 e7 e8 e9 e10 e11 ef1 ef6 ef7 ef8 ef9 ef10 ef11
    refine WR.out.mono ?_
    rintro e w7 ⟨vb, rfl, hown7, hb7⟩
    have C7 := hideG (C6.out.grow hb7 PS6.out.lt)
    have PS7 := hideG (PS6.out.below hb7)
    have O7 := hideG hown7
    clear hown7 hb7
    go_wp2_with fail
    go_ret
    have hfoot : ∀ x, CFoot b (boxedS S g) x → CFoot b S x := fun x hx => by
      rcases hx with hx | hx | hx | hx | hx
      · exact .inl hx
      · change (Value.slice none 0 0).ownBlock = some x at hx; rw [nil_own] at hx; cases hx
      · change (Value.slice none 0 0).ownBlock = some x at hx; rw [nil_own] at hx; cases hx
      · change (Value.slice none 0 0).ownBlock = some x at hx; rw [nil_own] at hx; cases hx
      · exact .inr (.inr (.inr (.inr hx)))
    refine ⟨_, rfl, boxedS S g, ⟨⟨HCLI.out w7 C7.out PS7.out, fun x hx => Nat.lt_of_lt_of_le (HLOW.out x (hfoot x hx)) C7.out.size⟩, C7.out, fun x hx => .inl (hfoot x hx)⟩, ?_, fun x hx hf => ?_⟩
    · have e : (boxedS S g).id = c.id := HE.out.1
      have := O7.out
      rw [e] at this
      exact ownsRow_base this s6
    · have hl := (O7.out.lt x hx).1
      have := HLOW.out x (hfoot x hf)
      omega
end Go.Proofs.YtchideljndagjabGreat.Co
