/- Contract of the program's client: the peers of FIRST. -/
import Derived.Test.YtchideljndagjabGreatPkIdAC
import Derived.Test.YtchideljndagjabGreatPkIdAJ
import Derived.WalkSpells
import Derived.Deep.RegionHeld3
import Derived.Test.YtchideljndagjabGreatPkIdAH
namespace Go.Proofs.YtchideljndagjabGreat
open Go.ChangeShapes Go.WideShapes Go.ChangeAt Go.RowKit
set_option linter.unusedVariables false
set_option maxHeartbeats 800000 in
set_option maxRecDepth 100000 in
theorem first_calls (b : Nat) (T : TypeId) (S : PS) (c : Cli.Cl) (v : Value) (l : List Frm.It) (w : World) (h : PSAt w b T S) (hl : ItemsAt w v l) (hr : Frm.riseB l = true) (hlen : l.length ≤ 12)
    (hel : ∀ x ∈ l, 0 ≤ x.2.1 ∧ x.2.1 < 2305843009213693951 ∧ 0 ≤ x.2.2.1 ∧ x.2.2.1 < 2305843009213693951)
    (hc : Cli.Good c) (eid : S.id = c.id) (ech : S.ch = c.ch) (ems : S.ms = c.ms) (esd : S.sd = c.sd) (hss : ListAt w S.ss c.ss) :
    Calls Tryz.prog 259 #[.pointer (some ⟨b, 0, none⟩), v] w fun e w' =>
      e = .returned (.agg (circ (Cli.firstP c l)).toArray) ∧ Below w.heap.size w w' := by
  have hbl := h.lt
  obtain ⟨g1, g2⟩ := hc.ch
  obtain ⟨g3, g4⟩ := hc.ms
  obtain ⟨g5, g6⟩ := hc.sd
  have gi := hc.i
  have gn := hc.n
  have HP := hideG (fun (w1 : World) (hb : Below w.heap.size w w1) => (show w1.cell? ⟨b, 0, none⟩ = some (.int .i64 c.id) ∧ w1.cell? ⟨b, 7, none⟩ = some (.int .i64 c.ch) ∧ w1.cell? ⟨b, 8, none⟩ = some (.int .i64 c.ms) from
    ⟨by rw [← eid]; exact (h.below hb).c0, by rw [← ech]; exact (h.below hb).c7, by rw [← ems]; exact (h.below hb).c8⟩))
  have HSS := hideG (fun (w1 : World) (hb : Below w.heap.size w w1) => seedShareFor_calls b T S c.ss c.id w1 (h.below hb) (hss.below hb) hc.ss (by rw [esd]; exact g5) (by rw [esd]; exact g6) (by omega) (by omega))
  rw [esd] at HSS
  obtain ⟨a, cap, rfl, l2, l3, _, hcl⟩ := items_view hl
  have HC := hideG hcl
  have HI := hideG (fun j (hj : j < l.length) => (Cli.rise_pair hr).2 (Frm.it l j) (by rw [Cli.it_get l j hj]; exact List.getElem_mem hj))
  have HE := hideG (fun j (hj : j < l.length) => hel (Frm.it l j) (by rw [Cli.it_get l j hj]; exact List.getElem_mem hj))
  have HOF := hideG (fun j (hj : j < l.length) => Cli.itemOf_it hr hj)
  have HZ := hideG zero_circ
  clear h hl hr hcl hel eid ech ems esd hss hc
  obtain ⟨n, hn⟩ : ∃ n, n = l.length := ⟨_, rfl⟩
  rw [← hn] at l2 HC hlen HI HE HOF ⊢
  have HN := hideG hn
  clear hn
  have HF := hideG (show Cli.firstJ c l n = Cli.firstP c l by rw [HN.out]; exact Cli.firstJ_end c l)
  have HS := hideG (fun k (hk : k < n) u (hu : (Frm.it l k).1 = ((u : Nat) : Int)) => Cli.firstJ_succ c l k (by rw [← HN.out]; exact hk) u hu)
  go_enter Tryz.func259, Tryz.ntmps259
  go_wp2_with fail
  go_loopw [11] (fun i wr => ∃ k : Nat, k ≤ n ∧ i = .int .i64 k ∧ CircAt wr (w.heap.size + 1) (Cli.firstJ c l k) ∧ CircAt wr w.heap.size (fun _ => Cli.Pr.z) ∧ Below w.heap.size w wr) (fun i _ => n - (intOf i).toNat)
  case atStart =>
    refine ⟨0, Nat.zero_le _, rfl, ?_, ?_, ((Below.refl _ _).alloc (Nat.le_refl _) _).alloc (by simp) _⟩
    · rw [Cli.firstJ_zero]; unfold CircAt; rw [← HZ.out]; exact heap_alloc2_new w _ _
    · unfold CircAt; rw [← HZ.out]; exact heap_alloc2_old w _ _
  case round =>
    obtain ⟨k, hk, rfl, hcc, hzz, hbel⟩ := hrel
    have HCC := hideG hcc
    have HZZ := hideG hzz
    have HB := hideG hbel
    have hsz := hbel.size
    have hs2 := hcc.lt
    clear hcc hzz hbel
    by_cases hlt : k < n
    · obtain ⟨b', off, rfl, hb, hit⟩ := HC.out k hlt
      obtain ⟨d0, d1, d2, d3⟩ := hit.below hb HB.out
      obtain ⟨u, hu⟩ : ∃ u : Nat, (Frm.it l k).1 = (u : Int) := ⟨(Frm.it l k).1.toNat, by have := HI.out k hlt; omega⟩
      have hub := HI.out k hlt
      rw [hu] at hub d0
      have u13 : u < 13 := by omega
      have u13' : (u : Int) < 13 := by omega
      obtain ⟨c0, c7, c8⟩ := HP.out _ HB.out
      clear hit
      have HX := hideG hu
      have HS2 := hideG (HS.out k hlt u hu)
      have e1 := HE.out k hlt
      obtain ⟨xa, hxa⟩ : ∃ x, x = (Frm.it l k).2.1 := ⟨_, rfl⟩
      obtain ⟨xb, hxb⟩ : ∃ x, x = (Frm.it l k).2.2.1 := ⟨_, rfl⟩
      rw [← hxa, ← hxb] at e1
      rw [← hxa] at d1
      rw [← hxb] at d2
      obtain ⟨x1, x2, x3, x4⟩ := e1
      have HPR := hideG (show Cli.pr1 c l (Frm.it l k).1 = if (u : Int) = c.id then Cli.ownPr c else ⟨true, Num.powP xa c.ch, Num.powP xb c.ms, 0, 0⟩ by
        unfold Cli.pr1 Cli.chKey Cli.mkKey
        rw [HOF.out k hlt, hu, hxa, hxb])
      clear hu hxa hxb
      generalize (Frm.it l k).2.2.2 = xc at *
      have al : ∀ (o1 o2 : Obj) (o : Nat), ((wr.alloc o1).alloc o2).cell? ⟨b, o, none⟩ = wr.cell? ⟨b, o, none⟩ := fun o1 o2 o => (((Below.refl wr.heap.size wr).alloc (Nat.le_refl _) o1).alloc (by simp) o2).cell (p := ⟨b, o, none⟩) (by show b < _; omega)
      have HBW := hideG (fun (o1 o2 : Obj) (m : Nat) => (show Below wr.heap.size wr (((wr.alloc o1).alloc o2).drewN m) from (((Below.refl wr.heap.size wr).alloc (Nat.le_refl _) o1).alloc (by simp) o2).trans ((below_drewN _ _).mono (by simp; omega))))
      have HBW3 := hideG (fun (o1 o2 : Obj) (m : Nat) (x y : Value) => (show Below wr.heap.size wr (((((wr.alloc o1).alloc o2).drewN m).setCell ⟨wr.heap.size + 1, 1, none⟩ x).setCell ⟨wr.heap.size + 1, 2, none⟩ y).drew from
        (((HBW.out o1 o2 m).setCell (p := ⟨wr.heap.size + 1, 1, none⟩) (by show wr.heap.size ≤ wr.heap.size + 1; omega) x).setCell (p := ⟨wr.heap.size + 1, 2, none⟩) (by show wr.heap.size ≤ wr.heap.size + 1; omega) y).drew))
      have HTH := hideG (fun (W : World) (hb : Below wr.heap.size wr W) => (HCC.out.below hb hs2).there (u * 5) 5 (by omega))
      by_cases q : (u : Int) = c.id
      · have q' : ((u : Int) == c.id) = true := by simpa using q
        have HQ := hideG q
        clear q
        go_wp2_with fail
        go_quiet (fail)
        go_wp2_with fail
        refine (HSS.out _ ((HB.out.alloc (by omega) _).alloc (by simp; omega) _ |>.trans ((below_drewN _ _).mono (by simp; omega)))).mono ?_
        rintro e w1 ⟨rfl, hw1⟩
        have s1 := hw1.size
        have z0 := hw1.cell (p := ⟨wr.heap.size, 0, none⟩) (by simp <;> omega)
        have y0 := hw1.cell (p := ⟨wr.heap.size + 1, 0, none⟩) (by simp)
        have y1 := hw1.cell (p := ⟨wr.heap.size + 1, 1, none⟩) (by simp)
        have y2 := hw1.cell (p := ⟨wr.heap.size + 1, 2, none⟩) (by simp)
        have y3 := hw1.cell (p := ⟨wr.heap.size + 1, 3, none⟩) (by simp)
        have y4 := hw1.cell (p := ⟨wr.heap.size + 1, 4, none⟩) (by simp)
        have yf := hw1.frozen (p := ⟨wr.heap.size + 1, 4, none⟩) (by simp)
        simp [go_sem] at z0 y0 y1 y2 y3 y4 yf s1
        have HB1 := hideG (fun (x : Value) => (((HBW.out _ _ _).trans (hw1.mono (by simp; omega))).setCell (p := ⟨wr.heap.size + 1, 4, none⟩) (by show wr.heap.size ≤ wr.heap.size + 1; omega) x))
        have HPE := hideG (show Cli.pr1 c l (Frm.it l k).1 = ⟨true, 0, 0, 0, Pol.polyP c.sd c.ss c.id⟩ by rw [HPR.out, if_pos HQ.out]; rfl)
        clear hw1
        generalize Pol.polyP c.sd c.ss c.id = E at *
        go_wp2_with (refine wpList_store_peer rfl _ _ rfl (w.heap.size + 1) (u * 5) true 0 0 0 E rfl rfl ?t ?_)
        case t => exact HTH.out _ (HB1.out _)
        go_wp2_with fail
        go_roundw
        case rel =>
          have hb := HB1.out (.int .i64 E)
          refine ⟨k + 1, by omega, by go_num, ?_, ?_, below_setCells (by omega) _ _ _ (HB.out.trans (hb.mono hsz))⟩
          · rw [HS2.out, HPE.out]
            exact (HCC.out.below hb hs2).set u u13 ⟨true, 0, 0, 0, E⟩
          · exact (HZZ.out.below hb (by omega)).block (heap_setCells_other _ _ (by omega) _ _ _)
        case measure => simp [intOf]; omega
      · have q' : ((u : Int) == c.id) = false := by simpa using q
        have HQ := hideG q
        clear q
        go_wp2_with fail
        go_quiet (fail)
        go_wp2_with fail
        have hn1 : b ≠ wr.heap.size + 1 := by omega
        have hn2 : wr.heap.size + 1 ≠ b := by omega
        go_region_held3 (fun w' => w'.cell? ⟨wr.heap.size, 1, none⟩ = some (.int .i64 xa) ∧ w'.cell? ⟨b, 7, none⟩ = some (.int .i64 c.ch))
          (first | go_keep)
          ((go_at_call 147; refine (power_calls _ _ _ x1 x2 (by omega)).mono ?_; rintro e w1 ⟨rfl, rfl⟩))
        go_wp2_with fail
        go_region_held3 (fun w' => w'.cell? ⟨wr.heap.size, 2, none⟩ = some (.int .i64 xb) ∧ w'.cell? ⟨b, 8, none⟩ = some (.int .i64 c.ms))
          (first | go_keep)
          ((go_at_call 147; refine (power_calls _ _ _ x3 x4 (by omega)).mono ?_; rintro e w1 ⟨rfl, rfl⟩))
        have HPE := hideG (show Cli.pr1 c l (Frm.it l k).1 = ⟨true, Num.powP xa c.ch, Num.powP xb c.ms, 0, 0⟩ by rw [HPR.out, if_neg HQ.out])
        obtain ⟨K1, hK1⟩ : ∃ K, K = Num.powP xa c.ch := ⟨_, rfl⟩
        obtain ⟨K2, hK2⟩ : ∃ K, K = Num.powP xb c.ms := ⟨_, rfl⟩
        rw [← hK1, ← hK2] at HPE ⊢
        clear hK1 hK2
        go_wp2_with (refine wpList_store_peer rfl _ _ rfl (w.heap.size + 1) (u * 5) true K1 K2 0 0 rfl rfl ?t ?_)
        case t => exact HTH.out _ (HBW3.out _ _ _ _ _)
        go_wp2_with fail
        go_roundw
        case rel =>
          have hb := HBW3.out (Obj.cells #[.int .i64 u, .int .i64 xa, .int .i64 xb, .int .i64 xc] 147) (Obj.cells #[.bool true, .int .i64 0, .int .i64 0, .int .i64 0, .int .i64 0] 201) (nq + 1) (.int .i64 K1) (.int .i64 K2)
          refine ⟨k + 1, by omega, by go_num, ?_, ?_, below_setCells (by omega) _ _ _ (HB.out.trans (hb.mono hsz))⟩
          · rw [HS2.out, HPE.out]
            exact (HCC.out.below hb hs2).set u u13 ⟨true, K1, K2, 0, 0⟩
          · exact (HZZ.out.below hb (by omega)).block (heap_setCells_other _ _ (by omega) _ _ _)
        case measure => simp [intOf]; omega
    · have ek : k = n := by omega
      subst ek
      have FE := HF.out
      have HCR := hideG HCC.out.range
      have HZT := hideG (HZZ.out.there 0 65 (by omega))
      have HL65 := hideG (circ_length (Cli.firstJ c l k))
      have HON := hideG (all_oneCell_toArray (circ_one (Cli.firstJ c l k)))
      have HEN := hideG (show CircAt (wr.setCells w.heap.size 0 (circ (Cli.firstJ c l k))) w.heap.size (Cli.firstJ c l k) ∧ Below w.heap.size w (wr.setCells w.heap.size 0 (circ (Cli.firstJ c l k))) from
        ⟨HZZ.out.all _, below_setCells (Nat.le_refl _) _ _ _ HB.out⟩)
      have HG := hideG FE
      clear FE
      generalize Cli.firstJ c l k = g at *
      obtain ⟨CS, hCS⟩ : ∃ CS, CS = circ g := ⟨_, rfl⟩
      rw [← hCS] at HCR HL65 HON HEN
      have HCS := hideG hCS
      clear hCS
      have HROW := hideG (show (wr.setCells w.heap.size 0 CS).heap[w.heap.size]? = some (.cells CS.toArray 203 (0, 0)) by have := HEN.out.1; unfold CircAt at this; rw [← HCS.out] at this; exact this)
      have HSZ := hideG (show (Tryz.prog.info? 203).map (·.size) = some CS.toArray.size by rw [size_circ, List.size_toArray, HL65.out])
      have HSL := hideG (show (Tryz.prog.info? 203).map (·.size) = some CS.length by rw [size_circ, HL65.out])
      have e65 : CS.toArray.size = 65 := by rw [List.size_toArray]; exact HL65.out
      have HT1 := hideG (show wr.there w.heap.size 0 CS.toArray.size by rw [e65]; exact HZT.out)
      clear e65
      go_wp2_with (first | refine wpList_load_mid rfl 203 _ rfl (w.heap.size + 1) 0 rfl CS _ HCR.out Tryz.underlying203 rfl HSL.out ?_ | refine wpList_store_mid rfl 203 _ _ rfl w.heap.size 0 CS.toArray rfl rfl HT1.out HSZ.out HON.out ?_)
      refine bodyPost_ret (results_cell_row rfl _ _ w.heap.size 203 CS.toArray (0, 0) _ rfl HROW.out Tryz.underlying203 rfl HSZ.out) rfl ?_
      exact ⟨by rw [HCS.out, HG.out], HEN.out.2⟩
end Go.Proofs.YtchideljndagjabGreat
namespace Go.Proofs.YtchideljndagjabGreat
open Go.ChangeShapes Go.WideShapes Go.ChangeAt Go.RowKit
set_option linter.unusedVariables false
set_option maxHeartbeats 3000000 in
set_option maxRecDepth 100000 in
theorem second_long (b : Nat) (T : TypeId) (S : PS) (c : Cli.Cl) (v : Value) (k l : List Frm.It) (w : World) (h : PSAt w b T S) (hl : ItemsAt w v l) (hr : Frm.riseB l = true) (hlen : l.length ≤ 12)
    (hel : ∀ x ∈ l, (0 ≤ x.2.1 ∧ x.2.1 < 2305843009213693951) ∧ (0 ≤ x.2.2.1 ∧ x.2.2.1 < 2305843009213693951) ∧ (0 ≤ x.2.2.2 ∧ x.2.2.2 < 2305843009213693951))
    (hc : Cli.Good c) (eid : S.id = c.id) (et : S.t = c.T) (hf : ∀ v, v < 13 → S.f v = Cli.firstP c k v) (hown : Cli.hasI k c.id = true) (ht : c.T ≤ (l.length : Int) + 1) :
    Calls Tryz.prog 261 #[.pointer (some ⟨b, 0, none⟩), v] w fun e w' =>
      ∃ g, e = .returned (.tuple #[.agg (circ g).toArray, .bool (Cli.boxAgree c k l)]) ∧ (Cli.boxAgree c k l = true → g = Cli.secondP c k l) ∧ Below w.heap.size w w' := by
  have hbl := h.lt
  have gi := hc.i
  have gn := hc.n
  have gt := hc.t
  obtain ⟨U, hU⟩ : ∃ U : Nat, c.id = (U : Int) := ⟨c.id.toNat, by omega⟩
  have HP := hideG (fun (w1 : World) (hb : Below w.heap.size w w1) => (show w1.cell? ⟨b, 0, none⟩ = some (.int .i64 c.id) ∧ ∀ u, u < 13 → PrAt w1 b (12 + u * 5) (Cli.firstP c k u) from
    ⟨by rw [← eid]; exact (h.below hb).c0, fun u hu => by rw [← hf u hu]; exact (h.below hb).peer u hu⟩))
  have c5 := h.c5
  rw [et] at c5
  obtain ⟨a, cap, rfl, l2, l3, _, hcl⟩ := items_view hl
  have HC := hideG hcl
  have HI := hideG (fun j (hj : j < l.length) => (Cli.rise_pair hr).2 (Frm.it l j) (by rw [Cli.it_get l j hj]; exact List.getElem_mem hj))
  have HE := hideG (fun j (hj : j < l.length) => hel (Frm.it l j) (by rw [Cli.it_get l j hj]; exact List.getElem_mem hj))
  have HOF := hideG (fun j (hj : j < l.length) => Cli.itemOf_it hr hj)
  have HOW := hideG hown
  have HBAD := hideG (fun j (hj : j < l.length) => box_bad (c := c) (k := k) hj)
  have HGOOD := hideG (fun (ht : c.T ≤ (l.length : Int) + 1) => box_good (k := k) ht)
  have HSH := hideG (show ¬ c.T ≤ (l.length : Int) + 1 → Cli.boxAgree c k l = false from fun e => by unfold Cli.boxAgree; rw [decide_eq_false e, Bool.false_and, Bool.and_false])
  have HEND := hideG (Cli.secondJ_end c k l)
  have HSUC := hideG (fun j (hj : j < l.length) u (hu : (Frm.it l j).1 = ((u : Nat) : Int)) => Cli.secondJ_succ c k l j hj u hu)
  have HZ := hideG zero_circ
  clear h hl hr hcl hel eid et hf hown
  obtain ⟨n, hn⟩ : ∃ n, n = l.length := ⟨_, rfl⟩
  rw [← hn] at l2 HC hlen HI HE HOF HBAD HGOOD HSH HEND HSUC ht ⊢
  have HN := hideG hn
  clear hn
  have HZS := hideG zero_size
  have HZO := hideG zero_one
  have HZL := hideG zero_list
  obtain ⟨W, hW⟩ : ∃ W, W = (w.alloc (.cells Tryz.zeroCells203 203)).alloc (.cells Tryz.zeroCells203 203) := ⟨_, rfl⟩
  have HCB := hideG (show CircAt W (w.heap.size + 1) (fun _ => Cli.Pr.z) by unfold CircAt; rw [hW, ← HZ.out]; exact heap_alloc2_new w _ _)
  have HCA := hideG (show CircAt W w.heap.size (fun _ => Cli.Pr.z) by unfold CircAt; rw [hW, ← HZ.out]; exact heap_alloc2_old w _ _)
  have HBW := hideG (show Below w.heap.size w W by rw [hW]; exact ((Below.refl w.heap.size w).alloc (Nat.le_refl _) _).alloc (by simp) _)
  have hWs : W.heap.size = w.heap.size + 2 := by rw [hW]; simp
  have al : (w.alloc (.cells Tryz.zeroCells203 203)).cell? ⟨b, 5, none⟩ = some (.int .i64 c.T) := by rw [((Below.refl w.heap.size w).alloc (Nat.le_refl _) _).cell (p := ⟨b, 5, none⟩) (by exact hbl)]; exact c5
  have HW := hideG hW
  clear hW
  have U13 : U < 13 := by omega
  have U13' : (U : Int) < 13 := by omega
  have UI := hideG hU
  go_enter Tryz.func261, Tryz.ntmps261
  go_wp2_with fail
  rw [← HW.out]
  obtain ⟨c0, cp⟩ := HP.out W HBW.out
  obtain ⟨q0, q1, q2, q3, q4⟩ := cp U U13
  rw [hU] at c0
  have hpr : Cli.firstP c k U = Cli.ownPr c := by unfold Cli.firstP; rw [← hU, if_pos HOW.out]; unfold Cli.pr1; rw [if_pos rfl]
  rw [hpr] at q0 q1 q2 q3 q4
  obtain ⟨z0, z1, z2, z3, z4⟩ := prAt_of_range HCB.out.range U U13
  rw [Nat.zero_add] at z0 z1 z2 z3 z4
  have zf := fun i => frozen_of_row W (w.heap.size + 1) i _ _ HCB.out
  clear cp hpr al
  have E0 := hideG (show Cli.ownPr c = ⟨true, 0, 0, 0, Pol.polyP c.sd c.ss c.id⟩ from rfl)
  obtain ⟨P0, hP0⟩ : ∃ P0, P0 = Cli.ownPr c := ⟨_, rfl⟩
  have HPO := hideG hP0.symm
  rw [← hP0] at q0 q1 q2 q3 q4
  clear hP0
  have hne : b ≠ w.heap.size + 1 := by omega
  have hne' : w.heap.size + 1 ≠ b := by omega
  go_region
  obtain ⟨W1, hW1⟩ : ∃ W1, W1 = (((((W.setCell ⟨w.heap.size + 1, U * 5, none⟩ (.bool P0.mem)).setCell ⟨w.heap.size + 1, U * 5 + 1, none⟩ (.int .i64 P0.ck)).setCell ⟨w.heap.size + 1, U * 5 + 2, none⟩ (.int .i64 P0.mq)).setCell ⟨w.heap.size + 1, U * 5 + 3, none⟩ (.int .i64 P0.ms)).setCell ⟨w.heap.size + 1, U * 5 + 4, none⟩ (.int .i64 P0.ss)).drew := ⟨_, rfl⟩
  rw [← hW1]
  have hW1' : W1 = (W.setCells (w.heap.size + 1) (U * 5) (prCells P0)).drew := hW1
  have HS0 := hideG (show CircAt W1 (w.heap.size + 1) (Cli.secondJ c k l 0) ∧ CircAt W1 w.heap.size (fun _ => Cli.Pr.z) ∧ Below w.heap.size w W1 by
    rw [hW1', Cli.secondJ_zero c k l U UI.out, HPO.out]
    exact ⟨HCB.out.set U U13 P0, HCA.out.block (heap_setCells_other _ _ (by omega) _ _ _), (below_setCells (by omega) _ _ _ HBW.out).drew⟩)
  clear hW1 hW1' q0 q1 q2 q3 q4 z0 z1 z2 z3 z4 zf c0 c5 hU
  go_wp2_with fail
  go_loopw [38] (fun i wr => ∃ j : Nat, j ≤ n ∧ i = .int .i64 j ∧ (∀ j', j' < j → (Frm.it l j').1 ≠ c.id ∧ Cli.hasI k (Frm.it l j').1 = true ∧ Cli.opensB c k l (Frm.it l j').1 = true) ∧ CircAt wr (w.heap.size + 1) (Cli.secondJ c k l j) ∧ CircAt wr w.heap.size (fun _ => Cli.Pr.z) ∧ Below w.heap.size w wr) (fun i _ => n - (intOf i).toNat)
  case atStart => exact ⟨0, Nat.zero_le _, rfl, fun j' hj => absurd hj (by omega), HS0.out.1, HS0.out.2.1, HS0.out.2.2⟩
  case round =>
    obtain ⟨j, hj, rfl, hall, hcc, hzz, hbel⟩ := hrel
    have HALL := hideG hall
    have HCC := hideG hcc
    have HZZ := hideG hzz
    have HB := hideG hbel
    have hsz := hbel.size
    have hs2 := hcc.lt
    clear hall hcc hzz hbel HS0 HW HBW HCB HCA hWs
    have HFAIL := hideG (fun (X : World) (hb : Below wr.heap.size wr X) => (show ∃ X2, (storeCells ⟨w.heap.size, 0, none⟩ Tryz.zeroCells203.toList).run Tryz.prog X = .ok () X2 ∧ X2.heap[w.heap.size]? = some (.cells (circ fun _ => Cli.Pr.z).toArray 203 (0, 0)) ∧ Below w.heap.size w X2 from by
      have hc' := HZZ.out.below hb (by omega)
      refine ⟨_, stc Tryz.prog w.heap.size 0 _ X ?_ (by rw [HZL.out]; exact circ_one _), by rw [HZL.out]; exact hc'.all _, below_setCells (Nat.le_refl _) _ _ _ (HB.out.trans (hb.mono hsz))⟩
      rw [HZL.out, circ_length]; exact hc'.there 0 65 (by omega)))
    have HSZ := hideG (show (Tryz.prog.info? 203).map (·.size) = some (circ fun _ => Cli.Pr.z).toArray.size by rw [size_circ, List.size_toArray, circ_length])
    obtain ⟨CZ, hCZ⟩ : ∃ CZ, CZ = (circ fun _ => Cli.Pr.z).toArray := ⟨_, rfl⟩
    rw [← hCZ] at HFAIL HSZ
    have HCZ := hideG hCZ
    clear hCZ
    by_cases hlt : j < n
    · obtain ⟨b', off, rfl, hb, hit⟩ := HC.out j hlt
      obtain ⟨d0, d1, d2, d3⟩ := hit.below hb HB.out
      obtain ⟨u, hu⟩ : ∃ u : Nat, (Frm.it l j).1 = (u : Int) := ⟨(Frm.it l j).1.toNat, by have := HI.out j hlt; omega⟩
      have hub := HI.out j hlt
      rw [hu] at hub d0
      have u13 : u < 13 := by omega
      have u13' : (u : Int) < 13 := by omega
      have u0' : (1 : Int) ≤ (u : Int) := by omega
      have u12' : (u : Int) ≤ 12 := by omega
      obtain ⟨c0, cp⟩ := HP.out _ HB.out
      obtain ⟨p0, p1, p2, p3, p4⟩ := cp u u13
      clear hit cp
      have HX := hideG hu
      have HS2 := hideG (HSUC.out j hlt u hu)
      obtain ⟨⟨x1, x2⟩, ⟨x3, x4⟩, x5, x6⟩ := HE.out j hlt
      obtain ⟨xa, hxa⟩ : ∃ x, x = (Frm.it l j).2.1 := ⟨_, rfl⟩
      obtain ⟨xb, hxb⟩ : ∃ x, x = (Frm.it l j).2.2.1 := ⟨_, rfl⟩
      obtain ⟨xc, hxc⟩ : ∃ x, x = (Frm.it l j).2.2.2 := ⟨_, rfl⟩
      rw [← hxa] at d1 x1 x2
      rw [← hxb] at d2 x3 x4
      rw [← hxc] at d3 x5 x6
      have HIT := hideG (show Cli.itemOf l (u : Int) = ((u : Int), xa, xb, xc) by rw [← hu, HOF.out j hlt, hxa, hxb, hxc])
      clear hu hxa hxb hxc
      have HFK := hideG (show Cli.firstP c k u = if Cli.hasI k (u : Int) = true then Cli.pr1 c k u else Cli.Pr.z from rfl)
      obtain ⟨F, hF⟩ : ∃ F, F = Cli.firstP c k u := ⟨_, rfl⟩
      rw [← hF] at p0 p1 p2 p3 p4 HFK
      clear hF
      obtain ⟨F0, F1, F2, F3, F4⟩ := F
      have al : ∀ (ob : Obj) (o : Nat), (wr.alloc ob).cell? ⟨b, o, none⟩ = wr.cell? ⟨b, o, none⟩ := fun ob o => ((Below.refl wr.heap.size wr).alloc (Nat.le_refl _) ob).cell (p := ⟨b, o, none⟩) (by show b < _; omega)
      have al2 : ∀ (o1 o2 : Obj) (o : Nat), ((wr.alloc o1).alloc o2).cell? ⟨b, o, none⟩ = wr.cell? ⟨b, o, none⟩ := fun o1 o2 o => (((Below.refl wr.heap.size wr).alloc (Nat.le_refl _) o1).alloc (by simp) o2).cell (p := ⟨b, o, none⟩) (by show b < _; omega)
      go_wp2_with fail
      go_region
      obtain ⟨X, hX⟩ : ∃ X, X = ((wr.alloc (.cells #[.int .i64 u, .int .i64 xa, .int .i64 xb, .int .i64 xc] 147)).alloc (.cells #[.bool F0, .int .i64 F1, .int .i64 F2, .int .i64 F3, .int .i64 F4] 201)).drew := ⟨_, rfl⟩
      rw [← hX]
      have hbX : Below wr.heap.size wr X := by rw [hX]; exact (((Below.refl wr.heap.size wr).alloc (Nat.le_refl _) _).alloc (by simp) _).drew
      have sX : X.heap.size = wr.heap.size + 2 := by rw [hX]; simp
      have BX := hideG hbX
      have HX8 := hideG (fun (Y : World) (hb : Below X.heap.size X Y) => (show (Y.cell? ⟨wr.heap.size, 0, none⟩ = some (.int .i64 u) ∧ Y.cell? ⟨wr.heap.size, 1, none⟩ = some (.int .i64 xa) ∧ Y.cell? ⟨wr.heap.size, 2, none⟩ = some (.int .i64 xb) ∧ Y.cell? ⟨wr.heap.size, 3, none⟩ = some (.int .i64 xc)) ∧ (Y.cell? ⟨wr.heap.size + 1, 0, none⟩ = some (.bool F0) ∧ Y.cell? ⟨wr.heap.size + 1, 1, none⟩ = some (.int .i64 F1) ∧ Y.cell? ⟨wr.heap.size + 1, 2, none⟩ = some (.int .i64 F2)) ∧ Y.cell? ⟨b, 0, none⟩ = some (.int .i64 c.id) ∧ Below wr.heap.size wr Y from by
        have e0 : ∀ o, Y.cell? ⟨wr.heap.size, o, none⟩ = X.cell? ⟨wr.heap.size, o, none⟩ := fun o => hb.cell (p := ⟨wr.heap.size, o, none⟩) (by show wr.heap.size < _; omega)
        have e1 : ∀ o, Y.cell? ⟨wr.heap.size + 1, o, none⟩ = X.cell? ⟨wr.heap.size + 1, o, none⟩ := fun o => hb.cell (p := ⟨wr.heap.size + 1, o, none⟩) (by show wr.heap.size + 1 < _; omega)
        have hY : Below wr.heap.size wr Y := hbX.trans (hb.mono (by omega))
        refine ⟨⟨?_, ?_, ?_, ?_⟩, ⟨?_, ?_, ?_⟩, (hY.cell (p := ⟨b, 0, none⟩) (by show b < _; omega)).trans c0, hY⟩
        · rw [e0, hX]; simp
        · rw [e0, hX]; simp
        · rw [e0, hX]; simp
        · rw [e0, hX]; simp
        · rw [e1, hX]; simp
        · rw [e1, hX]; simp
        · rw [e1, hX]; simp))
      clear hX hbX p0 p1 p2 p3 p4 c0 d0 d1 d2 d3 al al2
      obtain ⟨⟨y0, y1, y2, y3⟩, ⟨y4, y5, y6⟩, c0, _⟩ := HX8.out X (Below.refl _ _)
      by_cases q : (u : Int) = c.id
      · have q' : ((u : Int) == c.id) = true := by simpa using q
        have HBD := hideG (HBAD.out j hlt (.inl (by rw [HX.out, q])))
        have HQ := hideG q
        clear q
        go_wp2_with fail
        go_quiet (fail)
        obtain ⟨X2, hst, hrow, hbx⟩ := HFAIL.out (X.drewN nq) (BX.out.trans ((below_drewN X nq).mono (by omega)))
        have HROW := hideG hrow
        have HBX := hideG hbx
        clear hrow hbx
        go_wp2_with fail
        refine bodyPost_ret (results_row_tmp rfl _ _ w.heap.size 203 CZ (0, 0) _ rfl HROW.out Tryz.underlying203 rfl HSZ.out) rfl ?_
        exact ⟨fun _ => Cli.Pr.z, by rw [HBD.out, ← HCZ.out]; rfl, fun e => (by rw [HBD.out] at e; cases e), HBX.out⟩
      · have q' : ((u : Int) == c.id) = false := by simpa using q
        cases F0
        · have HBD := hideG (HBAD.out j hlt (.inr (.inl (by
            rw [HX.out]
            cases e : Cli.hasI k (u : Int)
            · rfl
            · have := HFK.out; rw [if_pos e] at this; unfold Cli.pr1 at this; rw [if_neg q] at this; cases this))))
          have HQ := hideG q
          clear q
          go_wp2_with fail
          go_quiet (fail)
          obtain ⟨X2, hst, hrow, hbx⟩ := HFAIL.out (X.drewN nq) (BX.out.trans ((below_drewN X nq).mono (by omega)))
          have HROW := hideG hrow
          have HBX := hideG hbx
          clear hrow hbx
          go_wp2_with fail
          refine bodyPost_ret (results_row_tmp rfl _ _ w.heap.size 203 CZ (0, 0) _ rfl HROW.out Tryz.underlying203 rfl HSZ.out) rfl ?_
          exact ⟨fun _ => Cli.Pr.z, by rw [HBD.out, ← HCZ.out]; rfl, fun e => (by rw [HBD.out] at e; cases e), HBX.out⟩
        · have hhas : Cli.hasI k (u : Int) = true := by
            cases e : Cli.hasI k (u : Int)
            · have := HFK.out; rw [if_neg (by rw [e]; simp)] at this; cases this
            · rfl
          have hpr := HFK.out
          rw [if_pos hhas] at hpr
          unfold Cli.pr1 at hpr
          rw [if_neg q] at hpr
          have hF1 : F1 = Cli.chKey c k u := by cases hpr; rfl
          have hF2 : F2 = Cli.mkKey c k u := by cases hpr; rfl
          have k1 : 0 ≤ F1 := by rw [hF1]; exact Num.powP_lo _ _
          have k2 : F1 < 2305843009213693951 := by rw [hF1]; exact Num.powP_hi _ _
          have HHAS := hideG hhas
          have HOP := hideG (show Cli.opensB c k l (u : Int) = decide (Num.tagN F1 (64 * u + 4 * c.id) xa xb = xc) by unfold Cli.opensB; rw [HIT.out, hF1])
          have HP2 := hideG (show Cli.pr2 c k l (Frm.it l j).1 = ⟨true, 0, F2, Num.subP xa (Num.padN F1 (64 * u + 4 * c.id)), Num.subP xb (Num.padN F1 (64 * u + 4 * c.id + 1))⟩ by
            rw [HX.out]; unfold Cli.pr2 Cli.mShare Cli.sShare; rw [if_neg q, if_neg q, HIT.out, hF1, hF2])
          have HQ := hideG q
          clear q hhas hpr hF1 hF2 HFK
          have i12 : c.id ≤ 12 := by omega
          go_wp2_with fail
          go_quiet (fail)
          have hb9 := below_drewN X nq
          generalize X.drewN nq = X9 at *
          clear y0 y1 y2 y3 y4 y5 y6 c0
          obtain ⟨⟨y0, y1, y2, y3⟩, ⟨y4, y5, y6⟩, c0, hbw9⟩ := HX8.out X9 hb9
          have HB9 := hideG hb9
          have HW9 := hideG hbw9
          have s9 := hb9.size
          clear hb9 hbw9
          cases q3 : (Num.tagN F1 (64 * u + 4 * c.id) xa xb != xc)
          · have HOK := hideG (show Cli.opensB c k l (Frm.it l j).1 = true by rw [HX.out, HOP.out]; simpa using q3)
            go_wp2_with fail
            go_quiet ((go_at_call 222; refine Calls.quiet_of_same (open_yes _ _ _ _ _ _ _ k1 k2 u0' u12' gi.1 i12 x1 x2 x3 x4 x5 x6 q3)))
            have hb11 := below_drewN X9 nq
            generalize X9.drewN nq = X11 at *
            clear y0 y1 y2 y3 y4 y5 y6 c0
            obtain ⟨⟨y0, y1, y2, y3⟩, ⟨y4, y5, y6⟩, c0, hbw11⟩ := HX8.out X11 (HB9.out.trans (hb11.mono s9))
            have HW11 := hideG hbw11
            have HTH := hideG ((HCC.out.below hbw11 hs2).there (u * 5) 5 (by omega))
            clear hb11 hbw11 q3
            obtain ⟨A1, hA1⟩ : ∃ A, A = Num.subP xa (Num.padN F1 (64 * u + 4 * c.id)) := ⟨_, rfl⟩
            obtain ⟨A2, hA2⟩ : ∃ A, A = Num.subP xb (Num.padN F1 (64 * u + 4 * c.id + 1)) := ⟨_, rfl⟩
            rw [← hA1, ← hA2] at HP2 ⊢
            clear hA1 hA2
            go_wp2_with (refine wpList_store_peer rfl _ _ rfl (w.heap.size + 1) (u * 5) true 0 F2 A1 A2 rfl rfl ?t ?_)
            case t => exact HTH.out
            go_wp2_with fail
            go_roundw
            case rel =>
              refine ⟨j + 1, by omega, by go_num, fun j' hj' => ?_, ?_, ?_, below_setCells (by omega) _ _ _ (HB.out.trans (HW11.out.mono hsz))⟩
              · by_cases e : j' = j
                · subst e; rw [HX.out]; exact ⟨HQ.out, HHAS.out, by rw [← HX.out]; exact HOK.out⟩
                · exact HALL.out j' (by omega)
              · rw [HS2.out, HP2.out]
                exact (HCC.out.below HW11.out hs2).set u u13 ⟨true, 0, F2, A1, A2⟩
              · exact (HZZ.out.below HW11.out (by omega)).block (heap_setCells_other _ _ (by omega) _ _ _)
            case measure => simp [intOf]; omega
          · have HBD := hideG (HBAD.out j hlt (.inr (.inr (by rw [HX.out, HOP.out]; simpa using q3))))
            go_wp2_with fail
            go_quiet ((go_at_call 222; refine Calls.quiet_of_same (open_tag _ _ _ _ _ _ _ k1 k2 u0' u12' gi.1 i12 x1 x2 x3 x4 x5 x6 q3)))
            obtain ⟨X2, hst, hrow, hbx⟩ := HFAIL.out (X9.drewN nq) (HW9.out.trans ((below_drewN X9 nq).mono (by omega)))
            have HROW := hideG hrow
            have HBX := hideG hbx
            clear hrow hbx
            go_wp2_with fail
            refine bodyPost_ret (results_row_tmp rfl _ _ w.heap.size 203 CZ (0, 0) _ rfl HROW.out Tryz.underlying203 rfl HSZ.out) rfl ?_
            exact ⟨fun _ => Cli.Pr.z, by rw [HBD.out, ← HCZ.out]; rfl, fun e => (by rw [HBD.out] at e; cases e), HBX.out⟩
    · have ek : j = n := by omega
      subst ek
      have HGD := hideG (HGOOD.out ht HALL.out)
      have HCR := hideG HCC.out.range
      have HZT := hideG (HZZ.out.there 0 65 (by omega))
      have HL65 := hideG (circ_length (Cli.secondJ c k l j))
      have HON := hideG (all_oneCell_toArray (circ_one (Cli.secondJ c k l j)))
      have HEN := hideG (show CircAt (wr.setCells w.heap.size 0 (circ (Cli.secondJ c k l j))) w.heap.size (Cli.secondJ c k l j) ∧ Below w.heap.size w (wr.setCells w.heap.size 0 (circ (Cli.secondJ c k l j))) from
        ⟨HZZ.out.all _, below_setCells (Nat.le_refl _) _ _ _ HB.out⟩)
      obtain ⟨g, hg⟩ : ∃ g, g = Cli.secondJ c k l j := ⟨_, rfl⟩
      have HG := hideG (hg.trans HEND.out)
      rw [← hg] at HCR HL65 HON HEN
      clear hg
      obtain ⟨CS, hCS⟩ : ∃ CS, CS = circ g := ⟨_, rfl⟩
      rw [← hCS] at HCR HL65 HON HEN
      have HCS := hideG hCS
      clear hCS
      have HROW := hideG (show (wr.setCells w.heap.size 0 CS).heap[w.heap.size]? = some (.cells CS.toArray 203 (0, 0)) by have := HEN.out.1; unfold CircAt at this; rw [← HCS.out] at this; exact this)
      have HSZ2 := hideG (show (Tryz.prog.info? 203).map (·.size) = some CS.toArray.size by rw [size_circ, List.size_toArray, HL65.out])
      have HSL := hideG (show (Tryz.prog.info? 203).map (·.size) = some CS.length by rw [size_circ, HL65.out])
      have e65 : CS.toArray.size = 65 := by rw [List.size_toArray]; exact HL65.out
      have HT1 := hideG (show wr.there w.heap.size 0 CS.toArray.size by rw [e65]; exact HZT.out)
      clear e65
      go_wp2_with (first | refine wpList_load_mid rfl 203 _ rfl (w.heap.size + 1) 0 rfl CS _ HCR.out Tryz.underlying203 rfl HSL.out ?_ | refine wpList_store_mid rfl 203 _ _ rfl w.heap.size 0 CS.toArray rfl rfl HT1.out HSZ2.out HON.out ?_)
      refine bodyPost_ret (results_row_tmp rfl _ _ w.heap.size 203 CS.toArray (0, 0) _ rfl HROW.out Tryz.underlying203 rfl HSZ2.out) rfl ?_
      exact ⟨g, by rw [HGD.out, HCS.out]; rfl, fun _ => HG.out, HEN.out.2⟩
theorem second_calls (b : Nat) (T : TypeId) (S : PS) (c : Cli.Cl) (v : Value) (k l : List Frm.It) (w : World) (h : PSAt w b T S) (hl : ItemsAt w v l) (hr : Frm.riseB l = true) (hlen : l.length ≤ 12)
    (hel : ∀ x ∈ l, (0 ≤ x.2.1 ∧ x.2.1 < 2305843009213693951) ∧ (0 ≤ x.2.2.1 ∧ x.2.2.1 < 2305843009213693951) ∧ (0 ≤ x.2.2.2 ∧ x.2.2.2 < 2305843009213693951))
    (hc : Cli.Good c) (eid : S.id = c.id) (et : S.t = c.T) (hf : ∀ v, v < 13 → S.f v = Cli.firstP c k v) (hown : Cli.hasI k c.id = true) :
    Calls Tryz.prog 261 #[.pointer (some ⟨b, 0, none⟩), v] w fun e w' =>
      ∃ g, e = .returned (.tuple #[.agg (circ g).toArray, .bool (Cli.boxAgree c k l)]) ∧ (Cli.boxAgree c k l = true → g = Cli.secondP c k l) ∧ Below w.heap.size w w' := by
  by_cases ht : c.T ≤ (l.length : Int) + 1
  · exact second_long b T S c v k l w h hl hr hlen hel hc eid et hf hown ht
  · have hb : Cli.boxAgree c k l = false := by unfold Cli.boxAgree; rw [decide_eq_false ht, Bool.false_and, Bool.and_false]
    refine (second_short b T S v l w h hl hlen (by rw [et]; omega)).mono ?_
    rintro e w' ⟨rfl, hw⟩
    exact ⟨fun _ => Cli.Pr.z, by rw [hb], fun e => (by rw [hb] at e; cases e), hw⟩
end Go.Proofs.YtchideljndagjabGreat
namespace Go.Proofs.YtchideljndagjabGreat
open Go.ChangeShapes Go.WideShapes Go.ChangeAt Go.RowKit
set_option linter.unusedVariables false
theorem msum_succ (c : Cli.Cl) (l m : List Frm.It) (i n : Nat) : Cli.msum c l m i (n + 1) = Cli.msum c l m i n + (if Cli.hasI m n = true then (if c.id < (n : Int) then Num.strAt (Cli.mkKey c l n) i else 4294967296 - Num.strAt (Cli.mkKey c l n) i) else 0) := rfl
set_option maxHeartbeats 2000000 in
set_option maxRecDepth 100000 in
theorem masks_calls (b : Nat) (T : TypeId) (S : PS) (c : Cli.Cl) (l m : List Frm.It) (i : Nat) (w : World) (h : PSAt w b T S) (hi : i ≤ 12)
    (hc : Cli.Good c) (eid : S.id = c.id) (esd : S.sd = c.sd) (hf : ∀ v, v < 13 → S.f v = Cli.secondP c l m v) (hno : Cli.hasI m c.id = false) :
    Calls Tryz.prog 294 #[.pointer (some ⟨b, 0, none⟩), .int .i64 ((i : Int) + 1)] w fun e w' => e = .returned (.int .i64 (Cli.msum c l m i 13)) ∧ Below w.heap.size w w' := by
  have hbl := h.lt
  obtain ⟨g5, g6⟩ := hc.sd
  have gi := hc.i
  have gn := hc.n
  have HRG := hideG h.range
  have HRL := hideG (circ_length S.f)
  have HIX := hideG (run_index_circ S.f)
  have c9 := h.c9
  rw [esd] at c9
  have HP := hideG (fun (w1 : World) (hb : Below w.heap.size w w1) => (show w1.cell? ⟨b, 0, none⟩ = some (.int .i64 c.id) by rw [← eid]; exact (h.below hb).c0))
  have HF := hideG hf
  have HNO := hideG hno
  have HMB := hideG (Cli.msum_bd c l m i)
  have HM0 := hideG (show Cli.msum c l m i 0 = Num.strAt c.sd i from rfl)
  clear h hf hno eid esd
  generalize S.f = f at *
  obtain ⟨CS, hCS⟩ : ∃ CS, CS = circ f := ⟨_, rfl⟩
  rw [← hCS] at HRG HRL HIX
  clear hCS
  go_enter Tryz.func294, Tryz.ntmps294
  go_wp2_with fail
  refine (maskNumber_calls _ _ _ g5 g6 hi).mono ?_
  rintro e w0 ⟨rfl, hw0⟩
  rw [hw0, ← HM0.out]
  clear hw0
  go_wp2_with (refine wpList_load_mid rfl 203 _ rfl b 12 rfl CS _ HRG.out Tryz.underlying203 rfl ?z ?_)
  case z => rw [size_circ, HRL.out]
  go_wp2_with fail
  go_loopw [5, 19] (fun u i' wr => ∃ k : Nat, k ≤ 13 ∧ i' = .int .i64 k ∧ u = .int .i64 (Cli.msum c l m i k) ∧ Below w.heap.size w wr) (fun _ i' _ => 13 - (intOf i').toNat)
  case atStart => exact ⟨0, by omega, rfl, rfl, Below.refl _ _⟩
  case round =>
    obtain ⟨k, hk, rfl, rfl, hbel⟩ := hrel
    have HB := hideG hbel
    have hsz := hbel.size
    clear hbel
    by_cases hlt : k < 13
    · have hlt' : (k : Int) < 13 := by omega
      have hix := HIX.out k hlt
      have hfk := HF.out k hlt
      have c0 := HP.out _ HB.out
      have al : ∀ (ob : Obj) (o : Nat), (wr.alloc ob).cell? ⟨b, o, none⟩ = wr.cell? ⟨b, o, none⟩ := fun ob o => ((Below.refl wr.heap.size wr).alloc (Nat.le_refl _) ob).cell (p := ⟨b, o, none⟩) (by show b < _; omega)
      have hbd := HMB.out k
      have HSU := hideG (msum_succ c l m i k)
      obtain ⟨M, hM⟩ : ∃ M, M = Cli.msum c l m i k := ⟨_, rfl⟩
      rw [← hM] at hbd HSU ⊢
      clear hM c9
      obtain ⟨bd1, bd2⟩ := hbd
      have bd3 : M ≤ 60129542144 := by omega
      clear bd2
      cases q : Cli.hasI m k
      · rw [q] at HSU
        have HS2 := hideG (show Cli.msum c l m i (k + 1) = M by rw [HSU.out, if_neg (by simp)]; omega)
        by_cases q2 : (k : Int) = c.id
        · have hme : (f k).mem = true := by rw [hfk]; unfold Cli.secondP; rw [q, if_neg (by simp), if_pos q2]; rfl
          rw [hme] at hix
          have n1 : ¬ c.id < (k : Int) := by omega
          have n2 : ¬ (k : Int) < c.id := by omega
          have HQ := hideG q2
          clear q q2 hme hfk
          generalize (f k).ck = y1 at *
          generalize (f k).mq = y2 at *
          generalize (f k).ms = y3 at *
          generalize (f k).ss = y4 at *
          go_wp2_with fail
          go_roundw
          case rel => exact ⟨k + 1, by omega, by go_num, by rw [HS2.out], HB.out.alloc (by omega) _⟩
          case measure => simp [intOf]; omega
        · have hme : (f k).mem = false := by rw [hfk]; unfold Cli.secondP; rw [q, if_neg (by simp), if_neg q2]; rfl
          rw [hme] at hix
          clear q q2 hme hfk
          generalize (f k).ck = y1 at *
          generalize (f k).mq = y2 at *
          generalize (f k).ms = y3 at *
          generalize (f k).ss = y4 at *
          go_wp2_with fail
          go_roundw
          case rel => exact ⟨k + 1, by omega, by go_num, by rw [HS2.out], HB.out.alloc (by omega) _⟩
          case measure => simp [intOf]; omega
      · rw [q] at HSU
        have hpr : f k = Cli.pr2 c l m k := by rw [hfk]; unfold Cli.secondP; rw [if_pos q]
        have hme : (f k).mem = true := by rw [hpr]; rfl
        have hmq : (f k).mq = Cli.mkKey c l k := by rw [hpr]; rfl
        have k1 : 0 ≤ Cli.mkKey c l k := Num.powP_lo _ _
        have k2 : Cli.mkKey c l k < 2305843009213693951 := Num.powP_hi _ _
        rw [hme, hmq] at hix
        have hne : (k : Int) ≠ c.id := fun e => by rw [e, HNO.out] at q; cases q
        have st := Cli.strAt_range (Cli.mkKey c l k) i
        obtain ⟨K, hK⟩ : ∃ K, K = Cli.mkKey c l k := ⟨_, rfl⟩
        rw [← hK] at hix HSU k1 k2 st
        obtain ⟨st1, st2⟩ := st
        clear hme hmq hpr hfk q hK
        generalize (f k).ck = y1 at *
        generalize (f k).ms = y3 at *
        generalize (f k).ss = y4 at *
        by_cases q2 : c.id < (k : Int)
        · have n2 : ¬ (k : Int) < c.id := by omega
          have HS2 := hideG (show Cli.msum c l m i (k + 1) = M + Num.strAt K i by rw [HSU.out, if_pos rfl, if_pos q2])
          clear hne
          go_wp2_with fail
          refine (maskNumber_calls _ _ _ k1 k2 hi).mono ?_
          rintro e w1 ⟨rfl, hw1⟩
          rw [hw1]
          clear hw1
          obtain ⟨E, hE⟩ : ∃ E, E = Num.strAt K i := ⟨_, rfl⟩
          rw [← hE] at HS2 st1 st2 ⊢
          clear hE
          go_wp2_with fail
          go_roundw
          case rel => exact ⟨k + 1, by omega, by go_num, by rw [HS2.out], HB.out.alloc (by omega) _⟩
          case measure => simp [intOf]; omega
        · have n2 : (k : Int) < c.id := by omega
          have HS2 := hideG (show Cli.msum c l m i (k + 1) = M + 4294967296 - Num.strAt K i by rw [HSU.out, if_pos rfl, if_neg q2]; omega)
          clear hne
          go_wp2_with fail
          refine (maskNumber_calls _ _ _ k1 k2 hi).mono ?_
          rintro e w1 ⟨rfl, hw1⟩
          rw [hw1]
          clear hw1
          obtain ⟨E, hE⟩ : ∃ E, E = Num.strAt K i := ⟨_, rfl⟩
          rw [← hE] at HS2 st1 st2 ⊢
          clear hE
          go_wp2_with fail
          go_roundw
          case rel => exact ⟨k + 1, by omega, by go_num, by rw [HS2.out], HB.out.alloc (by omega) _⟩
          case measure => simp [intOf]; omega
    · have ek : k = 13 := by omega
      subst ek
      go_wp2_with fail
      go_ret
      exact ⟨rfl, HB.out⟩
theorem masking_succ (c : Cli.Cl) (l m : List Frm.It) (k : Nat) (hk : k < c.M.toNat) : (Cli.masking c l m).take (k + 1) = (Cli.masking c l m).take k ++ [((k : Int) + 1, Cli.maskSum c l m k % 4294967296, 0, 0)] := by
  have hl : k < (Cli.masking c l m).length := by rw [Cli.masking_length]; exact hk
  rw [List.take_succ_eq_append_getElem hl, ← Cli.it_get _ k hl, Cli.masking_it c l m k hk]
set_option maxHeartbeats 2000000 in
set_option maxRecDepth 100000 in
theorem maskedList_calls (b : Nat) (T : TypeId) (S : PS) (c : Cli.Cl) (l m : List Frm.It) (w : World) (h : PSAt w b T S) (hin : ListAt w S.inp c.inp) (hm : Frm.riseB m = true)
    (hc : Cli.Good c) (eid : S.id = c.id) (esd : S.sd = c.sd) (hf : ∀ v, v < 13 → S.f v = Cli.secondP c l m v) (hno : Cli.hasI m c.id = false) :
    Calls Tryz.prog 262 #[.pointer (some ⟨b, 0, none⟩)] w fun e w' =>
      ∃ va, e = .returned va ∧ w'.ownsRow w.heap.size 147 4 va (Cli.masking c l m).length (flat4 (Cli.masking c l m)) ∧ Below w.heap.size w w' := by
  obtain ⟨i1, hi1, hy0, hy1, hy2⟩ := info_parts infoIt
  have hbl := h.lt
  have gm := hc.m
  have c6 := h.c6
  have HM := hideG (fun (w1 : World) (k : Nat) (hk : k ≤ 12) (hb : Below w.heap.size w w1) => masks_calls b T S c l m k w1 (h.below hb) hk hc eid esd hf hno)
  have HALL := hideG (fun k => Cli.msum_all c l hm k)
  have HBD := hideG (fun k => Cli.msum_bd c l m k 13)
  have HSU := hideG (masking_succ c l m)
  have hlen := hc.len
  have HW := hideG hc.inp
  obtain ⟨a, cap, hv, l2, l3, _, hcl⟩ := hin
  have hcl' : ∀ k, k < c.inp.length → ∃ b' off, a = some ⟨b', off, none⟩ ∧ b' < w.heap.size ∧ w.cell? ⟨b', off + k, none⟩ = some (.int .i64 (c.inp.getD k 0)) := by
    intro k hk
    rcases hcl with hcl | ⟨b', off, e, hb, hcc⟩
    · rw [hcl] at hk; simp at hk
    · exact ⟨b', off, e, hb, hcc k hk⟩
  have HC := hideG hcl'
  have HEND := hideG (show (Cli.masking c l m).take c.inp.length = Cli.masking c l m from List.take_of_length_le (by rw [Cli.masking_length]; omega))
  have HML := hideG (show (Cli.masking c l m).length = c.inp.length by rw [Cli.masking_length]; omega)
  rw [hv] at c6
  clear h hf hno eid esd hcl hcl' hv hm
  unfold maxLen at l3
  obtain ⟨n, hn⟩ : ∃ n, n = c.inp.length := ⟨_, rfl⟩
  rw [← hn] at c6 hlen l2 HC HEND HML
  have n12 : n ≤ 12 := by omega
  have HN := hideG hn
  have HMN := hideG (show n = c.M.toNat by omega)
  clear hn hlen
  go_enter Tryz.func262, Tryz.ntmps262
  go_wp2_with fail
  go_loopw [3, 13] (fun u i wr => ∃ k : Nat, k ≤ n ∧ i = .int .i64 k ∧ wr.ownsRow w.heap.size 147 4 u k (flat4 ((Cli.masking c l m).take k)) ∧ Below w.heap.size w wr) (fun _ i _ => n - (intOf i).toNat)
  case atStart => exact ⟨0, by omega, rfl, World.ownsRow_nil _ _ _ _, Below.refl _ _⟩
  case round =>
    obtain ⟨k, hk, rfl, hown, hbel⟩ := hrel
    have HO := hideG hown
    have HB := hideG hbel
    have hsz := hbel.size
    obtain ⟨a3, c3, hv3⟩ := owns_form hown
    subst hv3
    clear hown hbel c6
    by_cases hlt : k < n
    · obtain ⟨b', off, rfl, hb', hit⟩ := HC.out k hlt
      have d0 := (HB.out.cell (p := ⟨b', off + k, none⟩) hb').trans hit
      have hz := HW.out (c.inp.getD k 0) (by rw [List.getD_eq_getElem?_getD, List.getElem?_eq_getElem (by rw [← HN.out]; exact hlt)]; exact List.getElem_mem _)
      have HAL := hideG (HALL.out k)
      obtain ⟨z, hzz⟩ : ∃ z, z = c.inp.getD k 0 := ⟨_, rfl⟩
      rw [← hzz] at d0 hz HAL
      obtain ⟨z1, z2⟩ := hz
      clear hit hzz
      go_wp2_with fail
      refine (HM.out _ k (by omega) HB.out).mono ?_
      rintro e w1 ⟨rfl, hb1⟩
      have bd := HBD.out k
      obtain ⟨M, hM⟩ : ∃ M, M = Cli.msum c l m k 13 := ⟨_, rfl⟩
      rw [← hM] at bd HAL ⊢
      obtain ⟨bd1, bd2⟩ := bd
      have bd3 : M ≤ 60129542144 := by omega
      have s1 := hb1.size
      have B1 := hideG (HB.out.trans (hb1.mono hsz))
      have O1 := hideG (ownsRow_chg (S := fun _ => False) HO.out (Chg.of_below hb1) (fun _ _ h => h))
      clear hb1 hM bd2
      have HS2 := hideG (HSU.out k (by rw [← HMN.out]; exact hlt))
      obtain ⟨R, hR⟩ : ∃ R, R = (z + M) % 4294967296 := ⟨_, rfl⟩
      have hR' : (z + M) % 4294967296 = R := hR.symm
      have HRR := hideG (show Cli.maskSum c l m k % 4294967296 = R by rw [← HAL.out]; exact hR')
      clear hR
      go_wp2_with (at_builtin; refine wpList_append_own _ rfl _ _ 63 rfl w.heap.size 147 i1 (.agg #[.int .i64 0, .int .i64 0, .int .i64 0, .int .i64 0]) 4 32 Tryz.underlying63 hi1 hy0 hy1 hy2 rfl (by decide) _ _ _ rfl (O1.out.alloc _) ⟨w1.heap.size, 0, none⟩ 1 1 [.int .i64 ((k : Int) + 1), .int .i64 R, .int .i64 0, .int .i64 0] rfl rfl ?c1 ?c2 ?c3 ?c4 ?c5 ?_)
      case c1 => exact cell_four_new _ _ _ _ _ _
      case c2 => intro u hu; simp at hu; rcases hu with rfl | rfl | rfl <;> rfl
      case c3 => unfold maxLen; omega
      case c4 => omega
      case c5 => simp; omega
      intro v' w4 hown' hgrow' _
      have hb4 := (B1.out.alloc (by omega) _).grown hgrow' (by simp; omega) (fun y hy => (O1.out.lt y hy).1)
      have B4 := hideG hb4
      have O4 := hideG (show w4.ownsRow w.heap.size 147 4 v' (k + 1) (flat4 ((Cli.masking c l m).take (k + 1))) by
        rw [HS2.out, flat4_append, HRR.out]; exact hown')
      clear hown' hgrow' hb4
      go_wp2_with fail
      go_roundw
      case rel => exact ⟨k + 1, by omega, by go_num, O4.out, B4.out⟩
      case measure => simp [intOf]; omega
    · have ek : k = n := by omega
      subst ek
      go_wp2_with fail
      go_ret
      exact ⟨_, rfl, by rw [HML.out, ← HEND.out]; exact HO.out, HB.out⟩
end Go.Proofs.YtchideljndagjabGreat
