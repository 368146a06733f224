/- Contract of veilref's frame: what the document takes for one. -/
import Derived.Test.YtchideljndagjaaGreatRefFrameA
import Derived.Test.YtchideljndagjaaGreatRefFrameB
import Derived.Test.YtchideljndagjaaGreatRefFrameC
import Derived.Test.YtchideljndagjaaGreatMemAll
namespace Go.Proofs.YtchideljndagjaaGreat
open Go.ChangeShapes Go.WideShapes Go.ChangeAt Go.RowKit
set_option linter.unusedVariables false

set_option maxHeartbeats 2000000 in
set_option maxRecDepth 100000 in
theorem rframe_calls (k fr : Int) (v : Value) (l : List Frm.It) (w : World) (h : ItemsAt w v l) :
    Calls Tryz.prog 98 #[.agg #[.int .i64 k, .int .i64 fr, v]] w fun e w' => e = .returned (.bool (Frm.okF k fr l)) ∧ Below w.heap.size w w' := by
  have HEQ := hideG (Frm.refF_eq k fr l)
  have HM := hideG (fun (w1 : World) (hb : Below w.heap.size w w1) => h.below hb)
  obtain ⟨a, cap, rfl, l2, l3, _, hc⟩ := items_view h
  have HC := hideG hc
  clear h hc
  obtain ⟨n, hn⟩ : ∃ n, n = l.length := ⟨_, rfl⟩
  have HR := hideG (show Frm.refF k fr l = ((decide (l.length ≤ 12) && Frm.riseB l) && (if k = 1 then Num.clB fr && (decide (l.length = 1) && (decide ((Frm.it l 0).1 = fr) && Frm.pubB l)) else if k = 2 then Frm.zB fr && (decide (1 ≤ l.length) && Frm.pubB l)
    else if k = 3 then Num.clB fr && Frm.sealB l fr else if k = 4 then Frm.zB fr && Frm.sealB l 0 else if k = 5 then Num.clB fr && (decide (1 ≤ l.length) && Frm.placeB l)
    else if k = 6 then Frm.zB fr && (decide (1 ≤ l.length) && Frm.askB l) else if k = 7 then Num.clB fr && (decide (1 ≤ l.length) && Frm.toldB l) else false)) from rfl)
  have HNL := hideG hn
  rw [← hn] at l2 HM HC ⊢
  clear hn
  obtain ⟨bx, hbx⟩ : ∃ bx, bx = w.alloc (.cells #[.int .i64 k, .int .i64 fr, .slice a n cap] 40) := ⟨_, rfl⟩
  have sbx : bx.heap.size = w.heap.size + 1 := by rw [hbx]; simp
  have CB := hideG (show ∀ w1, Below bx.heap.size bx w1 → w1.cell? ⟨w.heap.size, 0, none⟩ = some (.int .i64 k) ∧ w1.cell? ⟨w.heap.size, 1, none⟩ = some (.int .i64 fr) ∧ w1.cell? ⟨w.heap.size, 2, none⟩ = some (.slice a n cap) from fun w1 hb => by
    have hlt : w.heap.size < bx.heap.size := by omega
    rw [hb.cell (p := ⟨w.heap.size, 0, none⟩) hlt, hb.cell (p := ⟨w.heap.size, 1, none⟩) hlt, hb.cell (p := ⟨w.heap.size, 2, none⟩) hlt, hbx]
    refine ⟨?_, ?_, ?_⟩ <;> simp [go_sem])
  have BX := hideG (show Below w.heap.size w bx by rw [hbx]; exact (Below.refl _ _).alloc (Nat.le_refl _) _)
  obtain ⟨e0, e1, e2⟩ := CB.out bx (Below.refl _ _)
  have RS := hideG (rising_calls _ l bx (HM.out _ BX.out))
  go_enter Tryz.func98, Tryz.ntmps98
  go_wp2_with fail
  rw [← hbx]
  clear hbx
  refine RS.out.mono ?_
  rintro e w1 ⟨rfl, hb1⟩
  have B1 := hideG hb1
  have s1 := hb1.size
  obtain ⟨f0, f1, f2⟩ := CB.out w1 hb1
  have BW := hideG (BX.out.trans (hb1.mono (by omega)))
  have IT := hideG (HM.out w1 BW.out)
  have zw : w.heap.size ≤ w1.heap.size := by omega
  clear hb1 e0 e1 e2 RS
  cases q0 : (decide (l.length ≤ 12) && Frm.riseB l)
  · have H := hideG (show Frm.okF k fr l = false by rw [← HEQ.out, HR.out, q0]; rfl)
    go_wp2_with fail
    go_ret
    exact ⟨ret_bool H.out.symm, BW.out⟩
  by_cases k1 : k = 1
  · subst k1
    have HRK := hideG (show Frm.refF 1 fr l = (Num.clB fr && (decide (l.length = 1) && (decide ((Frm.it l 0).1 = fr) && Frm.pubB l))) by rw [HR.out, q0]; rfl)
    clear HR q0
    by_cases b1 : 1 ≤ fr
    rotate_left
    · have d1 : decide (1 ≤ fr) = false := decide_eq_false b1
      have H := hideG (show Frm.okF 1 fr l = false by rw [← HEQ.out, HRK.out]; rw [Num.clB_no (fun x => b1 x.1)]; rfl)
      go_wp2_with fail
      go_quiet (fail)
      go_wp2_with fail
      go_ret
      exact ⟨ret_bool H.out.symm, BW.out.trans ((below_drewN _ _).mono zw)⟩
    have d1 : decide (1 ≤ fr) = true := decide_eq_true b1
    by_cases b2 : fr ≤ 12
    rotate_left
    · have d2 : decide (fr ≤ 12) = false := decide_eq_false b2
      have H := hideG (show Frm.okF 1 fr l = false by rw [← HEQ.out, HRK.out]; rw [Num.clB_no (fun x => b2 x.2)]; rfl)
      go_wp2_with fail
      go_quiet (fail)
      go_wp2_with fail
      go_ret
      exact ⟨ret_bool H.out.symm, BW.out.trans ((below_drewN _ _).mono zw)⟩
    have d2 : decide (fr ≤ 12) = true := decide_eq_true b2
    by_cases n1 : n = 1
    rotate_left
    · have H := hideG (show Frm.okF 1 fr l = false by rw [← HEQ.out, HRK.out, Num.clB_yes b1 b2, decide_eq_false (by rw [← HNL.out]; exact n1)]; rfl)
      have n1' : ((n : Int) == 1) = false := by simp; omega
      have n2' : decide ((n : Int) = 1) = false := decide_eq_false (by omega)
      have n3' : decide (n = 1) = false := decide_eq_false n1
      have n4' : (n == 1) = false := by simpa using n1
      go_wp2_with fail
      go_quiet (fail)
      go_wp2_with fail
      go_ret
      exact ⟨ret_bool H.out.symm, BW.out.trans ((below_drewN _ _).mono zw)⟩
    obtain ⟨b, off, rfl, hbl, hit⟩ := HC.out 0 (by omega)
    obtain ⟨c0, _, _, _⟩ := hit.below hbl BW.out
    have hbl1 : b < w1.heap.size := by omega
    rw [Nat.zero_mul, Nat.add_zero] at c0
    obtain ⟨x, hx⟩ : ∃ x, x = (Frm.it l 0).1 := ⟨_, rfl⟩
    rw [← hx] at c0
    have HX := hideG hx
    clear hx hit
    have n1' : ((n : Int) == 1) = true := by simp; omega
    have n2' : decide ((n : Int) = 1) = true := decide_eq_true (by omega)
    have n3' : decide (n = 1) = true := decide_eq_true n1
    have n4' : (n == 1) = true := by simpa using n1
    have n1'' : (0 : Int) < (n : Int) := by omega
    have HN1 := hideG n1
    by_cases xf : x = fr
    rotate_left
    · have H := hideG (show Frm.okF 1 fr l = false by rw [← HEQ.out, HRK.out, Num.clB_yes b1 b2, decide_eq_true (show l.length = 1 by rw [← HNL.out]; exact n1), decide_eq_false (by rw [← HX.out]; exact xf)]; rfl)
      have xf' : (x == fr) = false := by simpa using xf
      clear n1
      go_wp2_with fail
      go_quiet (fail)
      go_wp2_with fail
      go_ret
      exact ⟨ret_bool H.out.symm, BW.out.trans ((below_drewN _ _).mono zw)⟩
    have H := hideG (show Frm.okF 1 fr l = Frm.pubB l by rw [← HEQ.out, HRK.out, Num.clB_yes b1 b2, decide_eq_true (show l.length = 1 by rw [← HNL.out]; exact n1), decide_eq_true (show (Frm.it l 0).1 = fr by rw [← HX.out]; exact xf)]; rfl)
    have xf' : (x == fr) = true := by simpa using xf
    clear n1 xf
    go_wp2_with fail
    have zlt : w.heap.size < w1.heap.size := by omega
    refine wp_region_grow (by kernel_rfl) (by kernel_rfl) ?_
    intro I G hI hG hGc hGn
    repeat (go_big_quiet_step (first | (go_at_call 155; exact call_grow hG hGn (publics_calls _ l _ (IT.out.below (hG.out _))))))
    refine wpQuiet_nil ?_
    intro w2 hw'
    obtain ⟨u, hw''⟩ := hw'
    have hw1 := hG.out u
    rw [← hw''] at hw1
    have B2 := hideG hw1
    clear hw'' hGc hGn hG u hI G I hw1
    go_wp2_with fail
    go_ret
    exact ⟨ret_bool H.out.symm, BW.out.trans (B2.out.mono zw)⟩
  by_cases k2 : k = 2
  · subst k2
    have HRK := hideG (show Frm.refF 2 fr l = (Frm.zB fr && (decide (1 ≤ l.length) && Frm.pubB l)) by rw [HR.out, q0]; rfl)
    clear HR q0
    by_cases z : fr = 0
    rotate_left
    · have zz : (fr == 0) = false := by simpa using z
      have H := hideG (show Frm.okF 2 fr l = false by rw [← HEQ.out, HRK.out]; rw [show Frm.zB fr = false from decide_eq_false z]; rfl)
      go_wp2_with fail
      all_goals (go_ret; exact ⟨ret_bool H.out.symm, BW.out⟩)
    have HZ := hideG z
    have zz : (fr == 0) = true := by simpa using z
    have b1 : ¬ 1 ≤ fr := by omega
    have d1 : decide (1 ≤ fr) = false := decide_eq_false b1
    clear z
    by_cases n1 : 1 ≤ n
    rotate_left
    · have n1' : ¬ (1 : Int) ≤ (n : Int) := by omega
      have H := hideG (show Frm.okF 2 fr l = false by rw [← HEQ.out, HRK.out]; rw [(show Frm.zB fr = true from decide_eq_true HZ.out), decide_eq_false (by rw [← HNL.out]; exact n1)]; rfl)
      go_wp2_with fail
      all_goals (go_ret; exact ⟨ret_bool H.out.symm, BW.out⟩)
    have n1' : (1 : Int) ≤ (n : Int) := by omega
    have H := hideG (show Frm.okF 2 fr l = Frm.pubB l by rw [← HEQ.out, HRK.out, (show Frm.zB fr = true from decide_eq_true HZ.out), decide_eq_true (show 1 ≤ l.length by rw [← HNL.out]; exact n1)]; rfl)
    go_wp2_with fail
    refine (publics_calls _ l _ IT.out).mono ?_
    rintro e w2 ⟨rfl, hb2⟩
    have B2 := hideG hb2
    clear hb2
    go_wp2_with fail
    go_ret
    exact ⟨ret_bool H.out.symm, BW.out.trans (B2.out.mono zw)⟩
  by_cases k3 : k = 3
  · subst k3
    have HRK := hideG (show Frm.refF 3 fr l = (Num.clB fr && Frm.sealB l fr) by rw [HR.out, q0]; rfl)
    clear HR q0
    by_cases b1 : 1 ≤ fr
    rotate_left
    · have d1 : decide (1 ≤ fr) = false := decide_eq_false b1
      have H := hideG (show Frm.okF 3 fr l = false by rw [← HEQ.out, HRK.out]; rw [Num.clB_no (fun x => b1 x.1)]; rfl)
      go_wp2_with fail
      all_goals (go_ret; exact ⟨ret_bool H.out.symm, BW.out⟩)
    have d1 : decide (1 ≤ fr) = true := decide_eq_true b1
    by_cases b2 : fr ≤ 12
    rotate_left
    · have d2 : decide (fr ≤ 12) = false := decide_eq_false b2
      have H := hideG (show Frm.okF 3 fr l = false by rw [← HEQ.out, HRK.out]; rw [Num.clB_no (fun x => b2 x.2)]; rfl)
      go_wp2_with fail
      all_goals (go_ret; exact ⟨ret_bool H.out.symm, BW.out⟩)
    have d2 : decide (fr ≤ 12) = true := decide_eq_true b2
    have H := hideG (show Frm.okF 3 fr l = Frm.sealB l fr by rw [← HEQ.out, HRK.out, Num.clB_yes b1 b2]; rfl)
    go_wp2_with fail
    refine (sealed_calls _ l _ _ IT.out).mono ?_
    rintro e w2 ⟨rfl, hb2⟩
    have B2 := hideG hb2
    clear hb2
    go_wp2_with fail
    go_ret
    exact ⟨ret_bool H.out.symm, BW.out.trans (B2.out.mono zw)⟩
  by_cases k4 : k = 4
  · subst k4
    have HRK := hideG (show Frm.refF 4 fr l = (Frm.zB fr && Frm.sealB l 0) by rw [HR.out, q0]; rfl)
    clear HR q0
    by_cases z : fr = 0
    rotate_left
    · have zz : (fr == 0) = false := by simpa using z
      have H := hideG (show Frm.okF 4 fr l = false by rw [← HEQ.out, HRK.out]; rw [show Frm.zB fr = false from decide_eq_false z]; rfl)
      go_wp2_with fail
      all_goals (go_ret; exact ⟨ret_bool H.out.symm, BW.out⟩)
    have HZ := hideG z
    have zz : (fr == 0) = true := by simpa using z
    have b1 : ¬ 1 ≤ fr := by omega
    have d1 : decide (1 ≤ fr) = false := decide_eq_false b1
    clear z
    have H := hideG (show Frm.okF 4 fr l = Frm.sealB l 0 by rw [← HEQ.out, HRK.out, (show Frm.zB fr = true from decide_eq_true HZ.out)]; rfl)
    go_wp2_with fail
    refine (sealed_calls _ l _ _ IT.out).mono ?_
    rintro e w2 ⟨rfl, hb2⟩
    have B2 := hideG hb2
    clear hb2
    go_wp2_with fail
    go_ret
    exact ⟨ret_bool H.out.symm, BW.out.trans (B2.out.mono zw)⟩
  by_cases k5 : k = 5
  · subst k5
    have HRK := hideG (show Frm.refF 5 fr l = (Num.clB fr && (decide (1 ≤ l.length) && Frm.placeB l)) by rw [HR.out, q0]; rfl)
    clear HR q0
    by_cases b1 : 1 ≤ fr
    rotate_left
    · have d1 : decide (1 ≤ fr) = false := decide_eq_false b1
      have H := hideG (show Frm.okF 5 fr l = false by rw [← HEQ.out, HRK.out]; rw [Num.clB_no (fun x => b1 x.1)]; rfl)
      go_wp2_with fail
      all_goals (go_ret; exact ⟨ret_bool H.out.symm, BW.out⟩)
    have d1 : decide (1 ≤ fr) = true := decide_eq_true b1
    by_cases b2 : fr ≤ 12
    rotate_left
    · have d2 : decide (fr ≤ 12) = false := decide_eq_false b2
      have H := hideG (show Frm.okF 5 fr l = false by rw [← HEQ.out, HRK.out]; rw [Num.clB_no (fun x => b2 x.2)]; rfl)
      go_wp2_with fail
      all_goals (go_ret; exact ⟨ret_bool H.out.symm, BW.out⟩)
    have d2 : decide (fr ≤ 12) = true := decide_eq_true b2
    by_cases n1 : 1 ≤ n
    rotate_left
    · have n1' : ¬ (1 : Int) ≤ (n : Int) := by omega
      have H := hideG (show Frm.okF 5 fr l = false by rw [← HEQ.out, HRK.out]; rw [Num.clB_yes b1 b2, decide_eq_false (by rw [← HNL.out]; exact n1)]; rfl)
      go_wp2_with fail
      all_goals (go_ret; exact ⟨ret_bool H.out.symm, BW.out⟩)
    have n1' : (1 : Int) ≤ (n : Int) := by omega
    have H := hideG (show Frm.okF 5 fr l = Frm.placeB l by rw [← HEQ.out, HRK.out, Num.clB_yes b1 b2, decide_eq_true (show 1 ≤ l.length by rw [← HNL.out]; exact n1)]; rfl)
    go_wp2_with fail
    refine (places_calls _ l _ IT.out).mono ?_
    rintro e w2 ⟨rfl, hb2⟩
    have B2 := hideG hb2
    clear hb2
    go_wp2_with fail
    go_ret
    exact ⟨ret_bool H.out.symm, BW.out.trans (B2.out.mono zw)⟩
  by_cases k6 : k = 6
  · subst k6
    have HRK := hideG (show Frm.refF 6 fr l = (Frm.zB fr && (decide (1 ≤ l.length) && Frm.askB l)) by rw [HR.out, q0]; rfl)
    clear HR q0
    by_cases z : fr = 0
    rotate_left
    · have zz : (fr == 0) = false := by simpa using z
      have H := hideG (show Frm.okF 6 fr l = false by rw [← HEQ.out, HRK.out]; rw [show Frm.zB fr = false from decide_eq_false z]; rfl)
      go_wp2_with fail
      all_goals (go_ret; exact ⟨ret_bool H.out.symm, BW.out⟩)
    have HZ := hideG z
    have zz : (fr == 0) = true := by simpa using z
    have b1 : ¬ 1 ≤ fr := by omega
    have d1 : decide (1 ≤ fr) = false := decide_eq_false b1
    clear z
    by_cases n1 : 1 ≤ n
    rotate_left
    · have n1' : ¬ (1 : Int) ≤ (n : Int) := by omega
      have H := hideG (show Frm.okF 6 fr l = false by rw [← HEQ.out, HRK.out]; rw [(show Frm.zB fr = true from decide_eq_true HZ.out), decide_eq_false (by rw [← HNL.out]; exact n1)]; rfl)
      go_wp2_with fail
      all_goals (go_ret; exact ⟨ret_bool H.out.symm, BW.out⟩)
    have n1' : (1 : Int) ≤ (n : Int) := by omega
    have H := hideG (show Frm.okF 6 fr l = Frm.askB l by rw [← HEQ.out, HRK.out, (show Frm.zB fr = true from decide_eq_true HZ.out), decide_eq_true (show 1 ≤ l.length by rw [← HNL.out]; exact n1)]; rfl)
    go_wp2_with fail
    refine (asked_calls _ l _ IT.out).mono ?_
    rintro e w2 ⟨rfl, hb2⟩
    have B2 := hideG hb2
    clear hb2
    go_wp2_with fail
    go_ret
    exact ⟨ret_bool H.out.symm, BW.out.trans (B2.out.mono zw)⟩
  by_cases k7 : k = 7
  · subst k7
    have HRK := hideG (show Frm.refF 7 fr l = (Num.clB fr && (decide (1 ≤ l.length) && Frm.toldB l)) by rw [HR.out, q0]; rfl)
    clear HR q0
    by_cases b1 : 1 ≤ fr
    rotate_left
    · have d1 : decide (1 ≤ fr) = false := decide_eq_false b1
      have H := hideG (show Frm.okF 7 fr l = false by rw [← HEQ.out, HRK.out]; rw [Num.clB_no (fun x => b1 x.1)]; rfl)
      go_wp2_with fail
      all_goals (go_ret; exact ⟨ret_bool H.out.symm, BW.out⟩)
    have d1 : decide (1 ≤ fr) = true := decide_eq_true b1
    by_cases b2 : fr ≤ 12
    rotate_left
    · have d2 : decide (fr ≤ 12) = false := decide_eq_false b2
      have H := hideG (show Frm.okF 7 fr l = false by rw [← HEQ.out, HRK.out]; rw [Num.clB_no (fun x => b2 x.2)]; rfl)
      go_wp2_with fail
      all_goals (go_ret; exact ⟨ret_bool H.out.symm, BW.out⟩)
    have d2 : decide (fr ≤ 12) = true := decide_eq_true b2
    by_cases n1 : 1 ≤ n
    rotate_left
    · have n1' : ¬ (1 : Int) ≤ (n : Int) := by omega
      have H := hideG (show Frm.okF 7 fr l = false by rw [← HEQ.out, HRK.out]; rw [Num.clB_yes b1 b2, decide_eq_false (by rw [← HNL.out]; exact n1)]; rfl)
      go_wp2_with fail
      all_goals (go_ret; exact ⟨ret_bool H.out.symm, BW.out⟩)
    have n1' : (1 : Int) ≤ (n : Int) := by omega
    have H := hideG (show Frm.okF 7 fr l = Frm.toldB l by rw [← HEQ.out, HRK.out, Num.clB_yes b1 b2, decide_eq_true (show 1 ≤ l.length by rw [← HNL.out]; exact n1)]; rfl)
    go_wp2_with fail
    refine (told_calls _ l _ IT.out).mono ?_
    rintro e w2 ⟨rfl, hb2⟩
    have B2 := hideG hb2
    clear hb2
    go_wp2_with fail
    go_ret
    exact ⟨ret_bool H.out.symm, BW.out.trans (B2.out.mono zw)⟩
  have H := hideG (show Frm.okF k fr l = false by rw [← HEQ.out, HR.out, q0, if_neg k1, if_neg k2, if_neg k3, if_neg k4, if_neg k5, if_neg k6, if_neg k7]; rfl)
  have b0 : True := trivial
  by_cases b1 : 1 ≤ fr
  · by_cases b2 : fr ≤ 12
    · go_wp2_with fail
      go_ret
      exact ⟨ret_bool H.out.symm, BW.out⟩
    · go_wp2_with fail
      go_ret
      exact ⟨ret_bool H.out.symm, BW.out⟩
  · go_wp2_with fail
    go_ret
    exact ⟨ret_bool H.out.symm, BW.out⟩

end Go.Proofs.YtchideljndagjaaGreat
