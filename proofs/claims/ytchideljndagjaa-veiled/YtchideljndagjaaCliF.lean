/- Contract of the program's client: the peers of FIRST. -/
import Derived.Test.YtchideljndagjaaCliMemAll
import Derived.Test.YtchideljndagjaaCliA
import Derived.WalkSpells
import Derived.Deep.RegionHeld3
namespace Go.Proofs.Ytchideljndagjaa
open Go.ChangeShapes Go.WideShapes Go.ChangeAt Go.RowKit
set_option linter.unusedVariables false

set_option maxHeartbeats 800000 in
set_option maxRecDepth 100000 in
theorem first_calls (b : Nat) (T : TypeId) (S : PS) (c : Cli.Cl) (v : Value) (l : List Frm.It) (w : World) (h : PSAt w b T S) (hl : ItemsAt w v l) (hr : Frm.riseB l = true) (hlen : l.length ≤ 12)
    (hel : ∀ x ∈ l, 0 ≤ x.2.1 ∧ x.2.1 < 2305843009213693951 ∧ 0 ≤ x.2.2.1 ∧ x.2.2.1 < 2305843009213693951)
    (hc : Cli.Good c) (eid : S.id = c.id) (ech : S.ch = c.ch) (ems : S.ms = c.ms) (esd : S.sd = c.sd) (hss : ListAt w S.ss c.ss) :
    Calls Try.prog 105 #[.pointer (some ⟨b, 0, none⟩), v] w fun e w' =>
      e = .returned (.agg (circ (Cli.firstP c l)).toArray) ∧ Below w.heap.size w w' := by
  have hbl := h.lt
  obtain ⟨g1, g2⟩ := hc.ch
  obtain ⟨g3, g4⟩ := hc.ms
  obtain ⟨g5, g6⟩ := hc.sd
  have gi := hc.i
  have gn := hc.n
  have HP := hideG (fun (w1 : World) (hb : Below w.heap.size w w1) => (show w1.cell? ⟨b, 0, none⟩ = some (.int .i64 c.id) ∧ w1.cell? ⟨b, 7, none⟩ = some (.int .i64 c.ch) ∧ w1.cell? ⟨b, 8, none⟩ = some (.int .i64 c.ms) from
    ⟨by rw [← eid]; exact (h.below hb).c0, by rw [← ech]; exact (h.below hb).c7, by rw [← ems]; exact (h.below hb).c8⟩))
  have HSS := hideG (fun (w1 : World) (hb : Below w.heap.size w w1) => seedShareFor_calls b T S c.ss c.id w1 (h.below hb) (hss.below hb) hc.ss (by rw [esd]; exact g5) (by rw [esd]; exact g6) (by omega) (by omega))
  rw [esd] at HSS
  obtain ⟨a, cap, rfl, l2, l3, _, hcl⟩ := items_view hl
  have HC := hideG hcl
  have HI := hideG (fun j (hj : j < l.length) => (Cli.rise_pair hr).2 (Frm.it l j) (by rw [Cli.it_get l j hj]; exact List.getElem_mem hj))
  have HE := hideG (fun j (hj : j < l.length) => hel (Frm.it l j) (by rw [Cli.it_get l j hj]; exact List.getElem_mem hj))
  have HOF := hideG (fun j (hj : j < l.length) => Cli.itemOf_it hr hj)
  have HZ := hideG zero_circ
  clear h hl hr hcl hel eid ech ems esd hss hc
  obtain ⟨n, hn⟩ : ∃ n, n = l.length := ⟨_, rfl⟩
  rw [← hn] at l2 HC hlen HI HE HOF ⊢
  have HN := hideG hn
  clear hn
  have HF := hideG (show Cli.firstJ c l n = Cli.firstP c l by rw [HN.out]; exact Cli.firstJ_end c l)
  have HS := hideG (fun k (hk : k < n) u (hu : (Frm.it l k).1 = ((u : Nat) : Int)) => Cli.firstJ_succ c l k (by rw [← HN.out]; exact hk) u hu)
  go_enter Try.func105, Try.ntmps105
  go_wp2_with fail
  go_loopw [11] (fun i wr => ∃ k : Nat, k ≤ n ∧ i = .int .i64 k ∧ CircAt wr (w.heap.size + 1) (Cli.firstJ c l k) ∧ CircAt wr w.heap.size (fun _ => Cli.Pr.z) ∧ Below w.heap.size w wr) (fun i _ => n - (intOf i).toNat)
  case atStart =>
    refine ⟨0, Nat.zero_le _, rfl, ?_, ?_, ((Below.refl _ _).alloc (Nat.le_refl _) _).alloc (by simp) _⟩
    · rw [Cli.firstJ_zero]; unfold CircAt; rw [← HZ.out]; exact heap_alloc2_new w _ _
    · unfold CircAt; rw [← HZ.out]; exact heap_alloc2_old w _ _
  case round =>
    obtain ⟨k, hk, rfl, hcc, hzz, hbel⟩ := hrel
    have HCC := hideG hcc
    have HZZ := hideG hzz
    have HB := hideG hbel
    have hsz := hbel.size
    have hs2 := hcc.lt
    clear hcc hzz hbel
    by_cases hlt : k < n
    · obtain ⟨b', off, rfl, hb, hit⟩ := HC.out k hlt
      obtain ⟨d0, d1, d2, d3⟩ := hit.below hb HB.out
      obtain ⟨u, hu⟩ : ∃ u : Nat, (Frm.it l k).1 = (u : Int) := ⟨(Frm.it l k).1.toNat, by have := HI.out k hlt; omega⟩
      have hub := HI.out k hlt
      rw [hu] at hub d0
      have u13 : u < 13 := by omega
      have u13' : (u : Int) < 13 := by omega
      obtain ⟨c0, c7, c8⟩ := HP.out _ HB.out
      clear hit
      have HX := hideG hu
      have HS2 := hideG (HS.out k hlt u hu)
      have e1 := HE.out k hlt
      obtain ⟨xa, hxa⟩ : ∃ x, x = (Frm.it l k).2.1 := ⟨_, rfl⟩
      obtain ⟨xb, hxb⟩ : ∃ x, x = (Frm.it l k).2.2.1 := ⟨_, rfl⟩
      rw [← hxa, ← hxb] at e1
      rw [← hxa] at d1
      rw [← hxb] at d2
      obtain ⟨x1, x2, x3, x4⟩ := e1
      have HPR := hideG (show Cli.pr1 c l (Frm.it l k).1 = if (u : Int) = c.id then Cli.ownPr c else ⟨true, Num.powP xa c.ch, Num.powP xb c.ms, 0, 0⟩ by
        unfold Cli.pr1 Cli.chKey Cli.mkKey
        rw [HOF.out k hlt, hu, hxa, hxb])
      clear hu hxa hxb
      generalize (Frm.it l k).2.2.2 = xc at *
      have al : ∀ (o1 o2 : Obj) (o : Nat), ((wr.alloc o1).alloc o2).cell? ⟨b, o, none⟩ = wr.cell? ⟨b, o, none⟩ := fun o1 o2 o => (((Below.refl wr.heap.size wr).alloc (Nat.le_refl _) o1).alloc (by simp) o2).cell (p := ⟨b, o, none⟩) (by show b < _; omega)
      have HBW := hideG (fun (o1 o2 : Obj) (m : Nat) => (show Below wr.heap.size wr (((wr.alloc o1).alloc o2).drewN m) from (((Below.refl wr.heap.size wr).alloc (Nat.le_refl _) o1).alloc (by simp) o2).trans ((below_drewN _ _).mono (by simp; omega))))
      have HBW3 := hideG (fun (o1 o2 : Obj) (m : Nat) (x y : Value) => (show Below wr.heap.size wr (((((wr.alloc o1).alloc o2).drewN m).setCell ⟨wr.heap.size + 1, 1, none⟩ x).setCell ⟨wr.heap.size + 1, 2, none⟩ y).drew from
        (((HBW.out o1 o2 m).setCell (p := ⟨wr.heap.size + 1, 1, none⟩) (by show wr.heap.size ≤ wr.heap.size + 1; omega) x).setCell (p := ⟨wr.heap.size + 1, 2, none⟩) (by show wr.heap.size ≤ wr.heap.size + 1; omega) y).drew))
      have HTH := hideG (fun (W : World) (hb : Below wr.heap.size wr W) => (HCC.out.below hb hs2).there (u * 5) 5 (by omega))
      by_cases q : (u : Int) = c.id
      · have q' : ((u : Int) == c.id) = true := by simpa using q
        have HQ := hideG q
        clear q
        go_wp2_with fail
        go_quiet (fail)
        go_wp2_with fail
        refine (HSS.out _ ((HB.out.alloc (by omega) _).alloc (by simp; omega) _ |>.trans ((below_drewN _ _).mono (by simp; omega)))).mono ?_
        rintro e w1 ⟨rfl, hw1⟩
        have s1 := hw1.size
        have z0 := hw1.cell (p := ⟨wr.heap.size, 0, none⟩) (by simp <;> omega)
        have y0 := hw1.cell (p := ⟨wr.heap.size + 1, 0, none⟩) (by simp)
        have y1 := hw1.cell (p := ⟨wr.heap.size + 1, 1, none⟩) (by simp)
        have y2 := hw1.cell (p := ⟨wr.heap.size + 1, 2, none⟩) (by simp)
        have y3 := hw1.cell (p := ⟨wr.heap.size + 1, 3, none⟩) (by simp)
        have y4 := hw1.cell (p := ⟨wr.heap.size + 1, 4, none⟩) (by simp)
        have yf := hw1.frozen (p := ⟨wr.heap.size + 1, 4, none⟩) (by simp)
        simp [go_sem] at z0 y0 y1 y2 y3 y4 yf s1
        have HB1 := hideG (fun (x : Value) => (((HBW.out _ _ _).trans (hw1.mono (by simp; omega))).setCell (p := ⟨wr.heap.size + 1, 4, none⟩) (by show wr.heap.size ≤ wr.heap.size + 1; omega) x))
        have HPE := hideG (show Cli.pr1 c l (Frm.it l k).1 = ⟨true, 0, 0, 0, Pol.polyP c.sd c.ss c.id⟩ by rw [HPR.out, if_pos HQ.out]; rfl)
        clear hw1
        generalize Pol.polyP c.sd c.ss c.id = E at *
        go_wp2_with (refine wpList_store_peer rfl _ _ rfl (w.heap.size + 1) (u * 5) true 0 0 0 E rfl rfl ?t ?_)
        case t => exact HTH.out _ (HB1.out _)
        go_wp2_with fail
        go_roundw
        case rel =>
          have hb := HB1.out (.int .i64 E)
          refine ⟨k + 1, by omega, by go_num, ?_, ?_, below_setCells (by omega) _ _ _ (HB.out.trans (hb.mono hsz))⟩
          · rw [HS2.out, HPE.out]
            exact (HCC.out.below hb hs2).set u u13 ⟨true, 0, 0, 0, E⟩
          · exact (HZZ.out.below hb (by omega)).block (heap_setCells_other _ _ (by omega) _ _ _)
        case measure => simp [intOf]; omega
      · have q' : ((u : Int) == c.id) = false := by simpa using q
        have HQ := hideG q
        clear q
        go_wp2_with fail
        go_quiet (fail)
        go_wp2_with fail
        have hn1 : b ≠ wr.heap.size + 1 := by omega
        have hn2 : wr.heap.size + 1 ≠ b := by omega
        go_region_held3 (fun w' => w'.cell? ⟨wr.heap.size, 1, none⟩ = some (.int .i64 xa) ∧ w'.cell? ⟨b, 7, none⟩ = some (.int .i64 c.ch))
          (first | go_keep)
          ((go_at_call 65; refine (power_calls _ _ _ x1 x2 (by omega)).mono ?_; rintro e w1 ⟨rfl, rfl⟩))
        go_wp2_with fail
        go_region_held3 (fun w' => w'.cell? ⟨wr.heap.size, 2, none⟩ = some (.int .i64 xb) ∧ w'.cell? ⟨b, 8, none⟩ = some (.int .i64 c.ms))
          (first | go_keep)
          ((go_at_call 65; refine (power_calls _ _ _ x3 x4 (by omega)).mono ?_; rintro e w1 ⟨rfl, rfl⟩))
        have HPE := hideG (show Cli.pr1 c l (Frm.it l k).1 = ⟨true, Num.powP xa c.ch, Num.powP xb c.ms, 0, 0⟩ by rw [HPR.out, if_neg HQ.out])
        obtain ⟨K1, hK1⟩ : ∃ K, K = Num.powP xa c.ch := ⟨_, rfl⟩
        obtain ⟨K2, hK2⟩ : ∃ K, K = Num.powP xb c.ms := ⟨_, rfl⟩
        rw [← hK1, ← hK2] at HPE ⊢
        clear hK1 hK2
        go_wp2_with (refine wpList_store_peer rfl _ _ rfl (w.heap.size + 1) (u * 5) true K1 K2 0 0 rfl rfl ?t ?_)
        case t => exact HTH.out _ (HBW3.out _ _ _ _ _)
        go_wp2_with fail
        go_roundw
        case rel =>
          have hb := HBW3.out (Obj.cells #[.int .i64 u, .int .i64 xa, .int .i64 xb, .int .i64 xc] 91) (Obj.cells #[.bool true, .int .i64 0, .int .i64 0, .int .i64 0, .int .i64 0] 94) (nq + 1) (.int .i64 K1) (.int .i64 K2)
          refine ⟨k + 1, by omega, by go_num, ?_, ?_, below_setCells (by omega) _ _ _ (HB.out.trans (hb.mono hsz))⟩
          · rw [HS2.out, HPE.out]
            exact (HCC.out.below hb hs2).set u u13 ⟨true, K1, K2, 0, 0⟩
          · exact (HZZ.out.below hb (by omega)).block (heap_setCells_other _ _ (by omega) _ _ _)
        case measure => simp [intOf]; omega
    · have ek : k = n := by omega
      subst ek
      have FE := HF.out
      have HCR := hideG HCC.out.range
      have HZT := hideG (HZZ.out.there 0 65 (by omega))
      have HL65 := hideG (circ_length (Cli.firstJ c l k))
      have HON := hideG (all_oneCell_toArray (circ_one (Cli.firstJ c l k)))
      have HEN := hideG (show CircAt (wr.setCells w.heap.size 0 (circ (Cli.firstJ c l k))) w.heap.size (Cli.firstJ c l k) ∧ Below w.heap.size w (wr.setCells w.heap.size 0 (circ (Cli.firstJ c l k))) from
        ⟨HZZ.out.all _, below_setCells (Nat.le_refl _) _ _ _ HB.out⟩)
      have HG := hideG FE
      clear FE
      generalize Cli.firstJ c l k = g at *
      obtain ⟨CS, hCS⟩ : ∃ CS, CS = circ g := ⟨_, rfl⟩
      rw [← hCS] at HCR HL65 HON HEN
      have HCS := hideG hCS
      clear hCS
      have HROW := hideG (show (wr.setCells w.heap.size 0 CS).heap[w.heap.size]? = some (.cells CS.toArray 96 (0, 0)) by have := HEN.out.1; unfold CircAt at this; rw [← HCS.out] at this; exact this)
      have HSZ := hideG (show (Try.prog.info? 96).map (·.size) = some CS.toArray.size by rw [size_circ, List.size_toArray, HL65.out])
      have HSL := hideG (show (Try.prog.info? 96).map (·.size) = some CS.length by rw [size_circ, HL65.out])
      have e65 : CS.toArray.size = 65 := by rw [List.size_toArray]; exact HL65.out
      have HT1 := hideG (show wr.there w.heap.size 0 CS.toArray.size by rw [e65]; exact HZT.out)
      clear e65
      go_wp2_with (first | refine wpList_load_mid rfl 96 _ rfl (w.heap.size + 1) 0 rfl CS _ HCR.out Try.underlying96 rfl HSL.out ?_ | refine wpList_store_mid rfl 96 _ _ rfl w.heap.size 0 CS.toArray rfl rfl HT1.out HSZ.out HON.out ?_)
      refine bodyPost_ret (results_cell_row rfl _ _ w.heap.size 96 CS.toArray (0, 0) _ rfl HROW.out Try.underlying96 rfl HSZ.out) rfl ?_
      exact ⟨by rw [HCS.out, HG.out], HEN.out.2⟩

end Go.Proofs.Ytchideljndagjaa
