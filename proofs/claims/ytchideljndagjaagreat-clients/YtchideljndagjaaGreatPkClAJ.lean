/- Contracts of package veilref: sealed items. -/
import Derived.Test.YtchideljndagjaaGreatPkClAE
import Derived.Test.YtchideljndagjaaGreatPkClAF
import Derived.Test.YtchideljndagjaaGreatPkClAG
import Derived.BigQuiet
import Derived.Test.YtchideljndagjaaGreatPkClAI
import Derived.Test.YtchideljndagjaaGreatPkClAB
namespace Go.Proofs.YtchideljndagjaaGreat
open Go.ChangeShapes Go.WideShapes Go.ChangeAt Go.RowKit
set_option linter.unusedVariables false

theorem listAt_three (w : World) (x y z : Int) (h : ∀ u ∈ [x, y, z], inI u) : ListAt (w.alloc (.cells #[.int .i64 x, .int .i64 y, .int .i64 z] 3)) (.slice (some ⟨w.heap.size, 0, none⟩) 3 3) [x, y, z] := by
  refine ⟨_, _, rfl, by simp, by unfold maxLen; omega, h, .inr ⟨w.heap.size, 0, rfl, by simp, fun i hi => ?_⟩⟩
  rcases (show i = 0 ∨ i = 1 ∨ i = 2 by simp at hi; omega) with rfl | rfl | rfl <;> simp

set_option maxHeartbeats 1000000 in
set_option maxRecDepth 100000 in
theorem sealed_calls (v : Value) (l : List Frm.It) (u : Int) (w : World) (h : ItemsAt w v l) :
    Calls Tryz.prog 156 #[v, .int .i64 u] w fun e w' => e = .returned (.bool (Frm.sealB l u)) ∧ Below w.heap.size w w' := by
  obtain ⟨a, cap, rfl, l2, l3, hin0, hc⟩ := items_view h
  have HIN := hideG (show ∀ k, k < l.length → ∀ xi xa xb xc, (xi, xa, xb, xc) = Frm.it l k → ∀ z ∈ [xa, xb, xc], inI z from fun k hk xi xa xb xc e z hz => by
    obtain ⟨_, h1, h2, h3⟩ := hin0 _ (it_mem hk)
    rw [← e] at h1 h2 h3
    simp only [List.mem_cons, List.not_mem_nil, or_false] at hz
    rcases hz with rfl | rfl | rfl
    · exact h1
    · exact h2
    · exact h3)
  clear hin0
  have HC := hideG hc
  clear hc h
  have HN := hideG (show Frm.sealB l u = Frm.allB l.length fun i => (Num.elB (Frm.it l i).2.1 && (Num.elB (Frm.it l i).2.2.1 && Num.elB (Frm.it l i).2.2.2)) && decide ((Frm.it l i).1 ≠ u) from rfl)
  generalize hn : l.length = n at *
  clear hn
  go_enter Tryz.func156, Tryz.ntmps156
  go_wp2_with fail
  go_loopw [5] (fun i wr => ∃ k : Nat, k ≤ n ∧ i = .int .i64 k ∧ (∀ j, j < k → ((Num.elB (Frm.it l j).2.1 && (Num.elB (Frm.it l j).2.2.1 && Num.elB (Frm.it l j).2.2.2)) && decide ((Frm.it l j).1 ≠ u)) = true) ∧ Below w.heap.size w wr) (fun i _ => n - (intOf i).toNat)
  case atStart => exact ⟨0, Nat.zero_le _, rfl, fun j hj => absurd hj (by omega), Below.refl _ _⟩
  case round =>
    obtain ⟨k, hk, rfl, hall, hbel⟩ := hrel
    have HA := hideG hall
    have HB := hideG hbel
    have hsz := hbel.size
    by_cases hlt : k < n
    · obtain ⟨b, off, rfl, hb, hit⟩ := HC.out k hlt
      have hit := hit.below hb hbel
      have hb2 : b < wr.heap.size := by omega
      obtain ⟨c0, c1, c2, c3⟩ := hit
      obtain ⟨x, hx⟩ : ∃ x, x = Frm.it l k := ⟨_, rfl⟩
      rw [← hx] at c0 c1 c2 c3
      have HX := hideG hx
      clear hx hall hbel
      obtain ⟨xi, xa, xb, xc⟩ := x
      simp only at c0 c1 c2 c3
      have HF := hideG (show ((Num.elB (xi, xa, xb, xc).2.1 && (Num.elB (xi, xa, xb, xc).2.2.1 && Num.elB (xi, xa, xb, xc).2.2.2)) && decide ((xi, xa, xb, xc).1 ≠ u)) = false → Frm.sealB l u = false from fun e => by rw [HN.out]; exact Frm.allB_no k hlt (by rw [← HX.out]; exact e))
      have HK := hideG (show ((Num.elB (xi, xa, xb, xc).2.1 && (Num.elB (xi, xa, xb, xc).2.2.1 && Num.elB (xi, xa, xb, xc).2.2.2)) && decide ((xi, xa, xb, xc).1 ≠ u)) = true → ∀ j, j < k + 1 → ((Num.elB (Frm.it l j).2.1 && (Num.elB (Frm.it l j).2.2.1 && Num.elB (Frm.it l j).2.2.2)) && decide ((Frm.it l j).1 ≠ u)) = true from fun e j hj => by
        by_cases ej : j = k
        · subst ej; rw [← HX.out]; exact e
        · exact HA.out j (by omega))
      have LT := hideG (show ListAt ((wr.alloc (.cells #[.int .i64 xi, .int .i64 xa, .int .i64 xb, .int .i64 xc] 142)).alloc (.cells #[.int .i64 xa, .int .i64 xb, .int .i64 xc] 3)) (.slice (some ⟨wr.heap.size + 1, 0, none⟩) 3 3) [xa, xb, xc] by
        have := listAt_three (wr.alloc (.cells #[.int .i64 xi, .int .i64 xa, .int .i64 xb, .int .i64 xc] 142)) xa xb xc (HIN.out k hlt _ _ _ _ HX.out)
        rw [World.size_alloc] at this
        exact this)
      cases q : (Num.elB xa && (Num.elB xb && Num.elB xc))
      · have H := hideG (HF.out (by show ((Num.elB xa && (Num.elB xb && Num.elB xc)) && decide (xi ≠ u)) = false; rw [q]; rfl))
        go_wp2_with fail
        refine (relements_list _ [xa, xb, xc] _ LT.out).mono ?_
        rintro e w1 ⟨rfl, hw1⟩
        rw [hw1, show ([xa, xb, xc].all Num.elB) = (Num.elB xa && (Num.elB xb && Num.elB xc)) by simp, q]
        clear hw1
        go_wp2_with fail
        go_ret
        exact ⟨ret_bool H.out.symm, ((HB.out.alloc (by omega) _).alloc (by simp; omega) _)⟩
      by_cases iu : xi = u
      · have H := hideG (HF.out (by show ((Num.elB xa && (Num.elB xb && Num.elB xc)) && decide (xi ≠ u)) = false; rw [decide_eq_false (show ¬ xi ≠ u from fun e => e iu), Bool.and_false]))
        have zz : (xi == u) = true := by simpa using iu
        clear iu
        go_wp2_with fail
        refine (relements_list _ [xa, xb, xc] _ LT.out).mono ?_
        rintro e w1 ⟨rfl, hw1⟩
        rw [hw1, show ([xa, xb, xc].all Num.elB) = (Num.elB xa && (Num.elB xb && Num.elB xc)) by simp, q]
        clear hw1
        go_wp2_with fail
        go_ret
        exact ⟨ret_bool H.out.symm, ((HB.out.alloc (by omega) _).alloc (by simp; omega) _)⟩
      have zz : (xi == u) = false := by simpa using iu
      have H := hideG (HK.out (by show ((Num.elB xa && (Num.elB xb && Num.elB xc)) && decide (xi ≠ u)) = true; rw [q, decide_eq_true iu]; rfl))
      go_wp2_with fail
      refine (relements_list _ [xa, xb, xc] _ LT.out).mono ?_
      rintro e w1 ⟨rfl, hw1⟩
      rw [hw1, show ([xa, xb, xc].all Num.elB) = (Num.elB xa && (Num.elB xb && Num.elB xc)) by simp, q]
      clear hw1
      go_wp2_with fail
      go_roundw
      case rel => exact ⟨k + 1, by omega, by go_num, H.out, ((HB.out.alloc (by omega) _).alloc (by simp; omega) _)⟩
      case measure => simp [intOf]; omega
    · have ek : k = n := by omega
      subst ek
      clear hall hbel
      go_wp2_with fail
      go_ret
      exact ⟨ret_bool (by rw [HN.out, Frm.allB_yes HA.out]), HB.out⟩

end Go.Proofs.YtchideljndagjaaGreat

namespace Go.Proofs.YtchideljndagjaaGreat
open Go.ChangeShapes Go.WideShapes Go.ChangeAt Go.RowKit
set_option linter.unusedVariables false

set_option maxHeartbeats 2000000 in
set_option maxRecDepth 100000 in
theorem rframe_calls (k fr : Int) (v : Value) (l : List Frm.It) (w : World) (h : ItemsAt w v l) :
    Calls Tryz.prog 98 #[.agg #[.int .i64 k, .int .i64 fr, v]] w fun e w' => e = .returned (.bool (Frm.okF k fr l)) ∧ Below w.heap.size w w' := by
  have HEQ := hideG (Frm.refF_eq k fr l)
  have HM := hideG (fun (w1 : World) (hb : Below w.heap.size w w1) => h.below hb)
  obtain ⟨a, cap, rfl, l2, l3, _, hc⟩ := items_view h
  have HC := hideG hc
  clear h hc
  obtain ⟨n, hn⟩ : ∃ n, n = l.length := ⟨_, rfl⟩
  have HR := hideG (show Frm.refF k fr l = ((decide (l.length ≤ 12) && Frm.riseB l) && (if k = 1 then Num.clB fr && (decide (l.length = 1) && (decide ((Frm.it l 0).1 = fr) && Frm.pubB l)) else if k = 2 then Frm.zB fr && (decide (1 ≤ l.length) && Frm.pubB l)
    else if k = 3 then Num.clB fr && Frm.sealB l fr else if k = 4 then Frm.zB fr && Frm.sealB l 0 else if k = 5 then Num.clB fr && (decide (1 ≤ l.length) && Frm.placeB l)
    else if k = 6 then Frm.zB fr && (decide (1 ≤ l.length) && Frm.askB l) else if k = 7 then Num.clB fr && (decide (1 ≤ l.length) && Frm.toldB l) else false)) from rfl)
  have HNL := hideG hn
  rw [← hn] at l2 HM HC ⊢
  clear hn
  obtain ⟨bx, hbx⟩ : ∃ bx, bx = w.alloc (.cells #[.int .i64 k, .int .i64 fr, .slice a n cap] 40) := ⟨_, rfl⟩
  have sbx : bx.heap.size = w.heap.size + 1 := by rw [hbx]; simp
  have CB := hideG (show ∀ w1, Below bx.heap.size bx w1 → w1.cell? ⟨w.heap.size, 0, none⟩ = some (.int .i64 k) ∧ w1.cell? ⟨w.heap.size, 1, none⟩ = some (.int .i64 fr) ∧ w1.cell? ⟨w.heap.size, 2, none⟩ = some (.slice a n cap) from fun w1 hb => by
    have hlt : w.heap.size < bx.heap.size := by omega
    rw [hb.cell (p := ⟨w.heap.size, 0, none⟩) hlt, hb.cell (p := ⟨w.heap.size, 1, none⟩) hlt, hb.cell (p := ⟨w.heap.size, 2, none⟩) hlt, hbx]
    refine ⟨?_, ?_, ?_⟩ <;> simp [go_sem])
  have BX := hideG (show Below w.heap.size w bx by rw [hbx]; exact (Below.refl _ _).alloc (Nat.le_refl _) _)
  obtain ⟨e0, e1, e2⟩ := CB.out bx (Below.refl _ _)
  have RS := hideG (rising_calls _ l bx (HM.out _ BX.out))
  go_enter Tryz.func98, Tryz.ntmps98
  go_wp2_with fail
  rw [← hbx]
  clear hbx
  refine RS.out.mono ?_
  rintro e w1 ⟨rfl, hb1⟩
  have B1 := hideG hb1
  have s1 := hb1.size
  obtain ⟨f0, f1, f2⟩ := CB.out w1 hb1
  have BW := hideG (BX.out.trans (hb1.mono (by omega)))
  have IT := hideG (HM.out w1 BW.out)
  have zw : w.heap.size ≤ w1.heap.size := by omega
  clear hb1 e0 e1 e2 RS
  cases q0 : (decide (l.length ≤ 12) && Frm.riseB l)
  · have H := hideG (show Frm.okF k fr l = false by rw [← HEQ.out, HR.out, q0]; rfl)
    go_wp2_with fail
    go_ret
    exact ⟨ret_bool H.out.symm, BW.out⟩
  by_cases k1 : k = 1
  · subst k1
    have HRK := hideG (show Frm.refF 1 fr l = (Num.clB fr && (decide (l.length = 1) && (decide ((Frm.it l 0).1 = fr) && Frm.pubB l))) by rw [HR.out, q0]; rfl)
    clear HR q0
    by_cases b1 : 1 ≤ fr
    rotate_left
    · have d1 : decide (1 ≤ fr) = false := decide_eq_false b1
      have H := hideG (show Frm.okF 1 fr l = false by rw [← HEQ.out, HRK.out]; rw [Num.clB_no (fun x => b1 x.1)]; rfl)
      go_wp2_with fail
      go_quiet (fail)
      go_wp2_with fail
      go_ret
      exact ⟨ret_bool H.out.symm, BW.out.trans ((below_drewN _ _).mono zw)⟩
    have d1 : decide (1 ≤ fr) = true := decide_eq_true b1
    by_cases b2 : fr ≤ 12
    rotate_left
    · have d2 : decide (fr ≤ 12) = false := decide_eq_false b2
      have H := hideG (show Frm.okF 1 fr l = false by rw [← HEQ.out, HRK.out]; rw [Num.clB_no (fun x => b2 x.2)]; rfl)
      go_wp2_with fail
      go_quiet (fail)
      go_wp2_with fail
      go_ret
      exact ⟨ret_bool H.out.symm, BW.out.trans ((below_drewN _ _).mono zw)⟩
    have d2 : decide (fr ≤ 12) = true := decide_eq_true b2
    by_cases n1 : n = 1
    rotate_left
    · have H := hideG (show Frm.okF 1 fr l = false by rw [← HEQ.out, HRK.out, Num.clB_yes b1 b2, decide_eq_false (by rw [← HNL.out]; exact n1)]; rfl)
      have n1' : ((n : Int) == 1) = false := by simp; omega
      have n2' : decide ((n : Int) = 1) = false := decide_eq_false (by omega)
      have n3' : decide (n = 1) = false := decide_eq_false n1
      have n4' : (n == 1) = false := by simpa using n1
      go_wp2_with fail
      go_quiet (fail)
      go_wp2_with fail
      go_ret
      exact ⟨ret_bool H.out.symm, BW.out.trans ((below_drewN _ _).mono zw)⟩
    obtain ⟨b, off, rfl, hbl, hit⟩ := HC.out 0 (by omega)
    obtain ⟨c0, _, _, _⟩ := hit.below hbl BW.out
    have hbl1 : b < w1.heap.size := by omega
    rw [Nat.zero_mul, Nat.add_zero] at c0
    obtain ⟨x, hx⟩ : ∃ x, x = (Frm.it l 0).1 := ⟨_, rfl⟩
    rw [← hx] at c0
    have HX := hideG hx
    clear hx hit
    have n1' : ((n : Int) == 1) = true := by simp; omega
    have n2' : decide ((n : Int) = 1) = true := decide_eq_true (by omega)
    have n3' : decide (n = 1) = true := decide_eq_true n1
    have n4' : (n == 1) = true := by simpa using n1
    have n1'' : (0 : Int) < (n : Int) := by omega
    have HN1 := hideG n1
    by_cases xf : x = fr
    rotate_left
    · have H := hideG (show Frm.okF 1 fr l = false by rw [← HEQ.out, HRK.out, Num.clB_yes b1 b2, decide_eq_true (show l.length = 1 by rw [← HNL.out]; exact n1), decide_eq_false (by rw [← HX.out]; exact xf)]; rfl)
      have xf' : (x == fr) = false := by simpa using xf
      clear n1
      go_wp2_with fail
      go_quiet (fail)
      go_wp2_with fail
      go_ret
      exact ⟨ret_bool H.out.symm, BW.out.trans ((below_drewN _ _).mono zw)⟩
    have H := hideG (show Frm.okF 1 fr l = Frm.pubB l by rw [← HEQ.out, HRK.out, Num.clB_yes b1 b2, decide_eq_true (show l.length = 1 by rw [← HNL.out]; exact n1), decide_eq_true (show (Frm.it l 0).1 = fr by rw [← HX.out]; exact xf)]; rfl)
    have xf' : (x == fr) = true := by simpa using xf
    clear n1 xf
    go_wp2_with fail
    have zlt : w.heap.size < w1.heap.size := by omega
    refine wp_region_grow (by kernel_rfl) (by kernel_rfl) ?_
    intro I G hI hG hGc hGn
    repeat (go_big_quiet_step (first | (go_at_call 155; exact call_grow hG hGn (publics_calls _ l _ (IT.out.below (hG.out _))))))
    refine wpQuiet_nil ?_
    intro w2 hw'
    obtain ⟨u, hw''⟩ := hw'
    have hw1 := hG.out u
    rw [← hw''] at hw1
    have B2 := hideG hw1
    clear hw'' hGc hGn hG u hI G I hw1
    go_wp2_with fail
    go_ret
    exact ⟨ret_bool H.out.symm, BW.out.trans (B2.out.mono zw)⟩
  by_cases k2 : k = 2
  · subst k2
    have HRK := hideG (show Frm.refF 2 fr l = (Frm.zB fr && (decide (1 ≤ l.length) && Frm.pubB l)) by rw [HR.out, q0]; rfl)
    clear HR q0
    by_cases z : fr = 0
    rotate_left
    · have zz : (fr == 0) = false := by simpa using z
      have H := hideG (show Frm.okF 2 fr l = false by rw [← HEQ.out, HRK.out]; rw [show Frm.zB fr = false from decide_eq_false z]; rfl)
      go_wp2_with fail
      all_goals (go_ret; exact ⟨ret_bool H.out.symm, BW.out⟩)
    have HZ := hideG z
    have zz : (fr == 0) = true := by simpa using z
    have b1 : ¬ 1 ≤ fr := by omega
    have d1 : decide (1 ≤ fr) = false := decide_eq_false b1
    clear z
    by_cases n1 : 1 ≤ n
    rotate_left
    · have n1' : ¬ (1 : Int) ≤ (n : Int) := by omega
      have H := hideG (show Frm.okF 2 fr l = false by rw [← HEQ.out, HRK.out]; rw [(show Frm.zB fr = true from decide_eq_true HZ.out), decide_eq_false (by rw [← HNL.out]; exact n1)]; rfl)
      go_wp2_with fail
      all_goals (go_ret; exact ⟨ret_bool H.out.symm, BW.out⟩)
    have n1' : (1 : Int) ≤ (n : Int) := by omega
    have H := hideG (show Frm.okF 2 fr l = Frm.pubB l by rw [← HEQ.out, HRK.out, (show Frm.zB fr = true from decide_eq_true HZ.out), decide_eq_true (show 1 ≤ l.length by rw [← HNL.out]; exact n1)]; rfl)
    go_wp2_with fail
    refine (publics_calls _ l _ IT.out).mono ?_
    rintro e w2 ⟨rfl, hb2⟩
    have B2 := hideG hb2
    clear hb2
    go_wp2_with fail
    go_ret
    exact ⟨ret_bool H.out.symm, BW.out.trans (B2.out.mono zw)⟩
  by_cases k3 : k = 3
  · subst k3
    have HRK := hideG (show Frm.refF 3 fr l = (Num.clB fr && Frm.sealB l fr) by rw [HR.out, q0]; rfl)
    clear HR q0
    by_cases b1 : 1 ≤ fr
    rotate_left
    · have d1 : decide (1 ≤ fr) = false := decide_eq_false b1
      have H := hideG (show Frm.okF 3 fr l = false by rw [← HEQ.out, HRK.out]; rw [Num.clB_no (fun x => b1 x.1)]; rfl)
      go_wp2_with fail
      all_goals (go_ret; exact ⟨ret_bool H.out.symm, BW.out⟩)
    have d1 : decide (1 ≤ fr) = true := decide_eq_true b1
    by_cases b2 : fr ≤ 12
    rotate_left
    · have d2 : decide (fr ≤ 12) = false := decide_eq_false b2
      have H := hideG (show Frm.okF 3 fr l = false by rw [← HEQ.out, HRK.out]; rw [Num.clB_no (fun x => b2 x.2)]; rfl)
      go_wp2_with fail
      all_goals (go_ret; exact ⟨ret_bool H.out.symm, BW.out⟩)
    have d2 : decide (fr ≤ 12) = true := decide_eq_true b2
    have H := hideG (show Frm.okF 3 fr l = Frm.sealB l fr by rw [← HEQ.out, HRK.out, Num.clB_yes b1 b2]; rfl)
    go_wp2_with fail
    refine (sealed_calls _ l _ _ IT.out).mono ?_
    rintro e w2 ⟨rfl, hb2⟩
    have B2 := hideG hb2
    clear hb2
    go_wp2_with fail
    go_ret
    exact ⟨ret_bool H.out.symm, BW.out.trans (B2.out.mono zw)⟩
  by_cases k4 : k = 4
  · subst k4
    have HRK := hideG (show Frm.refF 4 fr l = (Frm.zB fr && Frm.sealB l 0) by rw [HR.out, q0]; rfl)
    clear HR q0
    by_cases z : fr = 0
    rotate_left
    · have zz : (fr == 0) = false := by simpa using z
      have H := hideG (show Frm.okF 4 fr l = false by rw [← HEQ.out, HRK.out]; rw [show Frm.zB fr = false from decide_eq_false z]; rfl)
      go_wp2_with fail
      all_goals (go_ret; exact ⟨ret_bool H.out.symm, BW.out⟩)
    have HZ := hideG z
    have zz : (fr == 0) = true := by simpa using z
    have b1 : ¬ 1 ≤ fr := by omega
    have d1 : decide (1 ≤ fr) = false := decide_eq_false b1
    clear z
    have H := hideG (show Frm.okF 4 fr l = Frm.sealB l 0 by rw [← HEQ.out, HRK.out, (show Frm.zB fr = true from decide_eq_true HZ.out)]; rfl)
    go_wp2_with fail
    refine (sealed_calls _ l _ _ IT.out).mono ?_
    rintro e w2 ⟨rfl, hb2⟩
    have B2 := hideG hb2
    clear hb2
    go_wp2_with fail
    go_ret
    exact ⟨ret_bool H.out.symm, BW.out.trans (B2.out.mono zw)⟩
  by_cases k5 : k = 5
  · subst k5
    have HRK := hideG (show Frm.refF 5 fr l = (Num.clB fr && (decide (1 ≤ l.length) && Frm.placeB l)) by rw [HR.out, q0]; rfl)
    clear HR q0
    by_cases b1 : 1 ≤ fr
    rotate_left
    · have d1 : decide (1 ≤ fr) = false := decide_eq_false b1
      have H := hideG (show Frm.okF 5 fr l = false by rw [← HEQ.out, HRK.out]; rw [Num.clB_no (fun x => b1 x.1)]; rfl)
      go_wp2_with fail
      all_goals (go_ret; exact ⟨ret_bool H.out.symm, BW.out⟩)
    have d1 : decide (1 ≤ fr) = true := decide_eq_true b1
    by_cases b2 : fr ≤ 12
    rotate_left
    · have d2 : decide (fr ≤ 12) = false := decide_eq_false b2
      have H := hideG (show Frm.okF 5 fr l = false by rw [← HEQ.out, HRK.out]; rw [Num.clB_no (fun x => b2 x.2)]; rfl)
      go_wp2_with fail
      all_goals (go_ret; exact ⟨ret_bool H.out.symm, BW.out⟩)
    have d2 : decide (fr ≤ 12) = true := decide_eq_true b2
    by_cases n1 : 1 ≤ n
    rotate_left
    · have n1' : ¬ (1 : Int) ≤ (n : Int) := by omega
      have H := hideG (show Frm.okF 5 fr l = false by rw [← HEQ.out, HRK.out]; rw [Num.clB_yes b1 b2, decide_eq_false (by rw [← HNL.out]; exact n1)]; rfl)
      go_wp2_with fail
      all_goals (go_ret; exact ⟨ret_bool H.out.symm, BW.out⟩)
    have n1' : (1 : Int) ≤ (n : Int) := by omega
    have H := hideG (show Frm.okF 5 fr l = Frm.placeB l by rw [← HEQ.out, HRK.out, Num.clB_yes b1 b2, decide_eq_true (show 1 ≤ l.length by rw [← HNL.out]; exact n1)]; rfl)
    go_wp2_with fail
    refine (places_calls _ l _ IT.out).mono ?_
    rintro e w2 ⟨rfl, hb2⟩
    have B2 := hideG hb2
    clear hb2
    go_wp2_with fail
    go_ret
    exact ⟨ret_bool H.out.symm, BW.out.trans (B2.out.mono zw)⟩
  by_cases k6 : k = 6
  · subst k6
    have HRK := hideG (show Frm.refF 6 fr l = (Frm.zB fr && (decide (1 ≤ l.length) && Frm.askB l)) by rw [HR.out, q0]; rfl)
    clear HR q0
    by_cases z : fr = 0
    rotate_left
    · have zz : (fr == 0) = false := by simpa using z
      have H := hideG (show Frm.okF 6 fr l = false by rw [← HEQ.out, HRK.out]; rw [show Frm.zB fr = false from decide_eq_false z]; rfl)
      go_wp2_with fail
      all_goals (go_ret; exact ⟨ret_bool H.out.symm, BW.out⟩)
    have HZ := hideG z
    have zz : (fr == 0) = true := by simpa using z
    have b1 : ¬ 1 ≤ fr := by omega
    have d1 : decide (1 ≤ fr) = false := decide_eq_false b1
    clear z
    by_cases n1 : 1 ≤ n
    rotate_left
    · have n1' : ¬ (1 : Int) ≤ (n : Int) := by omega
      have H := hideG (show Frm.okF 6 fr l = false by rw [← HEQ.out, HRK.out]; rw [(show Frm.zB fr = true from decide_eq_true HZ.out), decide_eq_false (by rw [← HNL.out]; exact n1)]; rfl)
      go_wp2_with fail
      all_goals (go_ret; exact ⟨ret_bool H.out.symm, BW.out⟩)
    have n1' : (1 : Int) ≤ (n : Int) := by omega
    have H := hideG (show Frm.okF 6 fr l = Frm.askB l by rw [← HEQ.out, HRK.out, (show Frm.zB fr = true from decide_eq_true HZ.out), decide_eq_true (show 1 ≤ l.length by rw [← HNL.out]; exact n1)]; rfl)
    go_wp2_with fail
    refine (asked_calls _ l _ IT.out).mono ?_
    rintro e w2 ⟨rfl, hb2⟩
    have B2 := hideG hb2
    clear hb2
    go_wp2_with fail
    go_ret
    exact ⟨ret_bool H.out.symm, BW.out.trans (B2.out.mono zw)⟩
  by_cases k7 : k = 7
  · subst k7
    have HRK := hideG (show Frm.refF 7 fr l = (Num.clB fr && (decide (1 ≤ l.length) && Frm.toldB l)) by rw [HR.out, q0]; rfl)
    clear HR q0
    by_cases b1 : 1 ≤ fr
    rotate_left
    · have d1 : decide (1 ≤ fr) = false := decide_eq_false b1
      have H := hideG (show Frm.okF 7 fr l = false by rw [← HEQ.out, HRK.out]; rw [Num.clB_no (fun x => b1 x.1)]; rfl)
      go_wp2_with fail
      all_goals (go_ret; exact ⟨ret_bool H.out.symm, BW.out⟩)
    have d1 : decide (1 ≤ fr) = true := decide_eq_true b1
    by_cases b2 : fr ≤ 12
    rotate_left
    · have d2 : decide (fr ≤ 12) = false := decide_eq_false b2
      have H := hideG (show Frm.okF 7 fr l = false by rw [← HEQ.out, HRK.out]; rw [Num.clB_no (fun x => b2 x.2)]; rfl)
      go_wp2_with fail
      all_goals (go_ret; exact ⟨ret_bool H.out.symm, BW.out⟩)
    have d2 : decide (fr ≤ 12) = true := decide_eq_true b2
    by_cases n1 : 1 ≤ n
    rotate_left
    · have n1' : ¬ (1 : Int) ≤ (n : Int) := by omega
      have H := hideG (show Frm.okF 7 fr l = false by rw [← HEQ.out, HRK.out]; rw [Num.clB_yes b1 b2, decide_eq_false (by rw [← HNL.out]; exact n1)]; rfl)
      go_wp2_with fail
      all_goals (go_ret; exact ⟨ret_bool H.out.symm, BW.out⟩)
    have n1' : (1 : Int) ≤ (n : Int) := by omega
    have H := hideG (show Frm.okF 7 fr l = Frm.toldB l by rw [← HEQ.out, HRK.out, Num.clB_yes b1 b2, decide_eq_true (show 1 ≤ l.length by rw [← HNL.out]; exact n1)]; rfl)
    go_wp2_with fail
    refine (told_calls _ l _ IT.out).mono ?_
    rintro e w2 ⟨rfl, hb2⟩
    have B2 := hideG hb2
    clear hb2
    go_wp2_with fail
    go_ret
    exact ⟨ret_bool H.out.symm, BW.out.trans (B2.out.mono zw)⟩
  have H := hideG (show Frm.okF k fr l = false by rw [← HEQ.out, HR.out, q0, if_neg k1, if_neg k2, if_neg k3, if_neg k4, if_neg k5, if_neg k6, if_neg k7]; rfl)
  have b0 : True := trivial
  by_cases b1 : 1 ≤ fr
  · by_cases b2 : fr ≤ 12
    · go_wp2_with fail
      go_ret
      exact ⟨ret_bool H.out.symm, BW.out⟩
    · go_wp2_with fail
      go_ret
      exact ⟨ret_bool H.out.symm, BW.out⟩
  · go_wp2_with fail
    go_ret
    exact ⟨ret_bool H.out.symm, BW.out⟩

end Go.Proofs.YtchideljndagjaaGreat

namespace Go.Proofs.YtchideljndagjaaGreat
open Go.ChangeShapes Go.WideShapes Go.ChangeAt Go.RowKit
set_option linter.unusedVariables false

theorem rencode_no (k fr : Int) (v : Value) (l : List Frm.It) (w : World) (h : ItemsAt w v l) (ho : Frm.okF k fr l = false) :
    Calls Tryz.prog 37 #[.agg #[.int .i64 k, .int .i64 fr, v]] w fun e w' => e = .returned (.tuple #[.slice none 0 0, .int .i64 4]) ∧ Below w.heap.size w w' := by
  have HM := hideG (fun (w1 : World) (hb : Below w.heap.size w w1) => rframe_calls k fr v l w1 (h.below hb))
  have HO := hideG ho
  clear h ho
  go_enter Tryz.func37, Tryz.ntmps37
  go_wp2_with fail
  refine (HM.out _ (by go_grown)).mono ?_
  rintro e w1 ⟨rfl, hb1⟩
  rw [HO.out]
  have B1 := hideG hb1
  clear hb1
  go_wp2_with fail
  go_ret2
  exact ⟨rfl, ((Below.refl _ _).alloc (Nat.le_refl _) _).trans (B1.out.mono (by simp))⟩

set_option maxHeartbeats 1000000 in
set_option maxRecDepth 100000 in
theorem rencode_yes (k fr : Int) (v : Value) (l : List Frm.It) (w : World) (h : ItemsAt w v l) (ho : Frm.okF k fr l = true) :
    Calls Tryz.prog 37 #[.agg #[.int .i64 k, .int .i64 fr, v]] w fun e w' => ∃ va, e = .returned (.tuple #[va, .int .i64 0]) ∧ w'.ownsRow w.heap.size 5 1 va (Frm.encF k fr l).length ((Frm.encF k fr l).map (Value.int .u8)) ∧ Below w.heap.size w w' := by
  obtain ⟨i0, hi, hz0, hz1, hz2⟩ := info_parts infoU8
  have HM := hideG (fun (w1 : World) (hb : Below w.heap.size w w1) => rframe_calls k fr v l w1 (h.below hb))
  obtain ⟨o1, o2, o3, o4, o5, o6⟩ := Frm.okF_bounds ho
  have HO := hideG ho
  have HI := hideG o6
  obtain ⟨a, cap, rfl, l2, l3, _, hc⟩ := items_view h
  have HC := hideG hc
  clear h ho o6 hc
  obtain ⟨n, hn⟩ : ∃ n, n = l.length := ⟨_, rfl⟩
  rw [← hn] at l2 HM o1 HI HC ⊢
  have HN := hideG hn
  clear hn
  obtain ⟨bx, hbx⟩ : ∃ bx, bx = w.alloc (.cells #[.int .i64 k, .int .i64 fr, .slice a n cap] 40) := ⟨_, rfl⟩
  have sbx : bx.heap.size = w.heap.size + 1 := by rw [hbx]; simp
  have CB := hideG (show ∀ w1, Below bx.heap.size bx w1 → w1.cell? ⟨w.heap.size, 0, none⟩ = some (.int .i64 k) ∧ w1.cell? ⟨w.heap.size, 1, none⟩ = some (.int .i64 fr) ∧ w1.cell? ⟨w.heap.size, 2, none⟩ = some (.slice a n cap) from fun w1 hb => by
    have hlt : w.heap.size < bx.heap.size := by omega
    rw [hb.cell (p := ⟨w.heap.size, 0, none⟩) hlt, hb.cell (p := ⟨w.heap.size, 1, none⟩) hlt, hb.cell (p := ⟨w.heap.size, 2, none⟩) hlt, hbx]
    refine ⟨?_, ?_, ?_⟩ <;> simp [go_sem])
  have BX := hideG (show Below w.heap.size w bx by rw [hbx]; exact (Below.refl _ _).alloc (Nat.le_refl _) _)
  obtain ⟨e0, e1, e2⟩ := CB.out bx (Below.refl _ _)
  go_enter Tryz.func37, Tryz.ntmps37
  go_wp2_with fail
  rw [← hbx]
  clear hbx
  refine (HM.out _ BX.out).mono ?_
  rintro e wc ⟨rfl, hb1⟩
  rw [HO.out]
  have s2 := hb1.size
  obtain ⟨f0, f1, f2⟩ := CB.out wc hb1
  have hs := Frm.wid_le k
  have hS : (Frm.size k : Int) = 1 + 8 * (Frm.wid k : Int) := by unfold Frm.size; omega
  obtain ⟨S, hSS⟩ : ∃ S, S = Frm.size k := ⟨_, rfl⟩
  rw [← hSS] at hS
  have HSS := hideG hSS
  have s25 : S ≤ 25 := by omega
  clear hs hS hSS e0 e1 e2
  obtain ⟨B, hB⟩ : ∃ B, B = w.heap.size + 1 := ⟨_, rfl⟩
  have B2 := hideG (show Below B bx wc by rw [hB, ← sbx]; exact hb1)
  rw [← hB] at sbx
  have HBx : B ≤ bx.heap.size := by omega
  have hwB : w.heap.size < B := by omega
  have hwB2 : B ≤ w.heap.size + 1 := by omega
  clear hB hb1
  have W2 := hideG (show (wc.alloc (.cells #[.int .u8 k, .int .u8 fr, .int .u8 (n : Int)] 5)).ownsRow B 5 1 (.slice (some ⟨wc.heap.size, 0, none⟩) 3 3) (3 + 0 * S) ((preB k fr l 0).map (Value.int .u8)) by
    rw [Nat.zero_mul]
    unfold preB
    rw [← HN.out]
    exact ⟨rfl, .inr ⟨wc.heap.size, 3, #[.int .u8 k, .int .u8 fr, .int .u8 (n : Int)], rfl, by omega, heap_alloc_new wc _, by omega, by unfold maxLen; omega, rfl, rfl⟩⟩)
  have B3 := hideG (show Below B bx (wc.alloc (.cells #[.int .u8 k, .int .u8 fr, .int .u8 (n : Int)] 5)) from B2.out.alloc (by omega) _)
  go_wp2_with fail
  go_loopw [5, 6] (fun v i wr => ∃ j : Nat, j ≤ n ∧ i = .int .i64 j ∧ wr.ownsRow B 5 1 v (3 + j * S) ((preB k fr l j).map (Value.int .u8)) ∧ Below B bx wr) (fun _ i _ => n - (intOf i).toNat)
  case atStart => exact ⟨0, Nat.zero_le _, rfl, W2.out, B3.out⟩
  case round =>
    clear f0 f1 f2 W2 B3 s2 B2
    obtain ⟨j, hj, rfl, hown, hbel⟩ := hrel
    have s2 := hbel.size
    obtain ⟨f0, f1, f2⟩ := CB.out wr (by rw [sbx]; exact hbel)
    have OW := hideG hown
    have B2 := hideG hbel
    by_cases hlt : j < n
    · obtain ⟨b, off, rfl, hb, hit0⟩ := HC.out j hlt
      have hit := hit0.below hb (BX.out.trans (hbel.mono (by omega)))
      obtain ⟨c0, c1, c2, c3⟩ := hit
      have hid := HI.out j hlt
      obtain ⟨x, hx⟩ : ∃ x, x = Frm.it l j := ⟨_, rfl⟩
      have HX := hideG hx
      have HOK := hideG (show Frm.okI k x = true by rw [hx]; exact (Frm.okF_parts HO.out).2.2.2.2 j (by rw [← HN.out]; exact hlt))
      rw [← hx] at c0 c1 c2 c3 hid hit0
      have jS : j * S + S ≤ 300 := by
        have := Nat.mul_le_mul (show j + 1 ≤ 12 by omega) s25
        rw [Nat.add_mul] at this; omega
      clear hown hbel hx
      obtain ⟨J, hJ⟩ : ∃ J, J = 3 + j * S := ⟨_, rfl⟩
      rw [← hJ] at OW
      have HJ := hideG hJ
      have J1 : J ≤ 303 := by omega
      clear hJ jS
      obtain ⟨xi, xa, xb, xc⟩ := x
      simp only at c0 c1 c2 c3 hid
      have HIT0 := hideG hit0
      clear hit0
      go_wp2_with (at_builtin; refine wpList_append_one _ rfl _ _ 67 rfl B 5 i0 (.int .u8 0) 1 Tryz.underlying67 hi hz0 hz1 hz2 rfl _ _ _ rfl (OW.out.alloc _) ⟨wr.heap.size, 0, none⟩ 1 (.int .u8 xi) rfl (by simp [go_sem]) rfl (by unfold maxLen; omega) (by omega) (by simp; omega) ?_)
      intro gA capA wA hoA hgA hvA
      have hbA := (B2.out.alloc (by omega) _).grown hgA (by simp; omega) (fun y hy => (OW.out.lt y hy).1)
      have zA := hgA.size
      simp at zA
      obtain ⟨g0, g1, g2⟩ := CB.out wA (by rw [sbx]; exact hbA)
      have hitA := HIT0.out.below hb (BX.out.trans (hbA.mono (by omega)))
      obtain ⟨d0, d1, d2, d3⟩ := hitA
      simp only at d0 d1 d2 d3
      have hbA2 : b < wA.heap.size := by omega
      have hwA2 : w.heap.size < wA.heap.size := by omega
      have OA := hideG hoA
      have BA := hideG hbA
      clear hoA hgA hvA hbA f0 f1 f2 c0 c1 c2 c3
      go_wp2_with fail
      go_cut [7] from 42 to 49 (fun s wN => ∃ aN, s = .slice aN (Frm.wid k) (Frm.wid k) ∧ (0 < Frm.wid k → ∃ g, aN = some ⟨g, 0, none⟩ ∧ wA.heap.size ≤ g ∧ g < wN.heap.size ∧ ∀ i, i < Frm.wid k → wN.cell? ⟨g, i, none⟩ = some (.int .i64 ((Frm.nums k (xi, xa, xb, xc)).getD i 0))) ∧ Below wA.heap.size wA wN)
      case first =>
        go_region_with (go_at_call 99; refine (written_calls _ (xi, xa, xb, xc) _).mono ?_; rintro e wN ⟨aN, rfl, hcN, hbN⟩; have HCN := hideG hcN; have HBN := hideG hbN; clear hcN hbN)
        all_goals (go_wp2_with fail; go_meet; exact ⟨aN, rfl, HCN.out, (Below.refl _ _).drew.trans HBN.out⟩)
      case rest =>
        obtain ⟨aN, rfl, hcN, hbN⟩ := hcut
        have hN2 := hbN.size
        have OAN := hideG (ownsRow_chg (S := fun _ => False) OA.out (Chg.of_below hbN) (fun _ _ h => h))
        have BAN := hideG (BA.out.trans (hbN.mono (by omega)))
        have hvlt := hideG (fun y (hy : (Value.slice (some ⟨gA, 0, none⟩) (J + 1) capA).ownBlock = some y) => (OA.out.lt y hy).2)
        have hW := Frm.wid_le k
        have HCN := hideG hcN
        clear hcN hbN g0 g1 g2 d0 d1 d2 d3
        have HSW := hideG (show S = 1 + 8 * Frm.wid k by rw [HSS.out]; rfl)
        have HNB := hideG (fun m => nums_bd HOK.out m)
        have HMS := hideG (fun m hm => midB_succ k (xi, xa, xb, xc) m hm)
        have HM0 := hideG (show midB k (xi, xa, xb, xc) 0 = [] from rfl)
        have HMA := hideG (midB_all k (xi, xa, xb, xc))
        have HPS := hideG (preB_succ k fr l j (by rw [← HN.out]; exact hlt))
        rw [← HX.out] at HPS
        generalize midB k (xi, xa, xb, xc) = mB at *
        generalize Frm.encI k (xi, xa, xb, xc) = eI at *
        generalize Frm.nums k (xi, xa, xb, xc) = NL at *
        obtain ⟨W, hWW⟩ : ∃ W, W = Frm.wid k := ⟨_, rfl⟩
        rw [← hWW] at hW HCN HSW HMS HMA ⊢
        clear hWW
        by_cases hW0 : W = 0
        · subst hW0
          go_wp2_with fail
          refine wp_loop_rounds 1 ?_
          rw [rounds_succ]
          go_wp2_with fail
          go_roundw
          case rel =>
            refine ⟨j + 1, by omega, by go_num, ?_, BAN.out⟩
            have e1 : 3 + (j + 1) * S = J + 1 := by rw [HJ.out, HSW.out]; omega
            have e2 : preB k fr l (j + 1) = preB k fr l j ++ [xi] := by rw [HPS.out, ← HMA.out, HM0.out]
            rw [e1, e2, List.map_append]; exact OAN.out
          case measure => simp [intOf]; omega
        · obtain ⟨g, rfl, hg1, hg2, hcell⟩ := HCN.out (by omega)
          have HCL := hideG hcell
          clear hcell
          have R00 := hideG (show RowSt B g wc bx wc (.slice (some ⟨gA, 0, none⟩) (J + 1) capA) (J + 1 + 8 * 0) (preB k fr l j ++ [xi] ++ mB 0) by
            refine ⟨?_, fun e => ?_, hg2, rfl, BAN.out⟩
            · rw [HM0.out, List.append_nil, List.map_append]; exact OAN.out
            · have := hvlt.out g e; omega)
          clear OAN BAN hvlt OA BA
          go_wp2_with fail
          go_loopw [5, 8] (fun v i wq => ∃ m : Nat, m ≤ W ∧ i = .int .i64 m ∧ RowSt B g wc bx wq v (J + 1 + 8 * m) (preB k fr l j ++ [xi] ++ mB m)) (fun _ i _ => W - (intOf i).toNat)
          case atStart => exact ⟨0, Nat.zero_le _, rfl, R00.out⟩
          case round =>
            obtain ⟨m, hm, rfl, hR⟩ := hrel
            have RR := hideG hR
            by_cases hlm : m < W
            · have CM := hideG (fun (wz : World) (hz : wz.heap[g]? = wc.heap[g]?) => (cell_of_block hz m).trans (HCL.out m hlm))
              have cm := CM.out _ hR.2.2.2.1
              obtain ⟨z, hz⟩ : ∃ z, z = NL.getD m 0 := ⟨_, rfl⟩
              have hzb := HNB.out m
              rw [← hz] at cm hzb CM
              have HZ := hideG hz
              obtain ⟨bs, hbs⟩ : ∃ bs, bs = preB k fr l j ++ [xi] ++ mB m := ⟨_, rfl⟩
              rw [← hbs] at RR
              have HBS := hideG hbs
              obtain ⟨Q, hQ⟩ : ∃ Q, Q = J + 1 + 8 * m := ⟨_, rfl⟩
              rw [← hQ] at RR
              have HQ := hideG hQ
              have Q1 : Q ≤ 400 := by omega
              have hm0 : (m : Int) < (W : Int) := by omega
              clear hR hz hbs hQ
              obtain ⟨zb0, zb1⟩ := hzb
              have R0 := RR
              go_wp2_with fail
              refine wp_loop_rounds 9 ?_
              rw [rounds_succ]
              go_wp2_with (at_builtin; refine wpList_append_one _ rfl _ _ 67 rfl B 5 i0 (.int .u8 0) 1 Tryz.underlying67 hi hz0 hz1 hz2 rfl _ _ _ rfl (R0.out.1.alloc _) ⟨wr.heap.size, 0, none⟩ 1 (.int .u8 (z % 256)) rfl (by simp [go_sem]) rfl (by unfold maxLen; omega) (by omega) (by have := R0.out.size HBx; simp; omega) ?_)
              intro gE0 capE0 wE0 hoE hgE hvE
              have R1 := hideG (R0.out.step HBx hoE hgE hvE)
              obtain ⟨b1, hb1⟩ : ∃ b, b = bs ++ [z % 256] := ⟨_, rfl⟩
              rw [← hb1] at R1
              have HB1 := hideG hb1
              clear hb1 hoE hgE hvE cm
              have cm := CM.out _ R1.out.2.2.2.1
              go_wp2_with fail
              rw [rounds_succ]
              go_wp2_with (at_builtin; refine wpList_append_one _ rfl _ _ 67 rfl B 5 i0 (.int .u8 0) 1 Tryz.underlying67 hi hz0 hz1 hz2 rfl _ _ _ rfl (R1.out.1.alloc _) ⟨wE0.heap.size, 0, none⟩ 1 (.int .u8 (z / 256 % 256)) rfl (by simp [go_sem]) rfl (by unfold maxLen; omega) (by omega) (by have := R1.out.size HBx; simp; omega) ?_)
              intro gE1 capE1 wE1 hoE hgE hvE
              have R2 := hideG (R1.out.step HBx hoE hgE hvE)
              obtain ⟨b2, hb2⟩ : ∃ b, b = b1 ++ [z / 256 % 256] := ⟨_, rfl⟩
              rw [← hb2] at R2
              have HB2 := hideG hb2
              clear hb2 hoE hgE hvE cm
              have cm := CM.out _ R2.out.2.2.2.1
              go_wp2_with fail
              rw [rounds_succ]
              go_wp2_with (at_builtin; refine wpList_append_one _ rfl _ _ 67 rfl B 5 i0 (.int .u8 0) 1 Tryz.underlying67 hi hz0 hz1 hz2 rfl _ _ _ rfl (R2.out.1.alloc _) ⟨wE1.heap.size, 0, none⟩ 1 (.int .u8 (z / 65536 % 256)) rfl (by simp [go_sem]) rfl (by unfold maxLen; omega) (by omega) (by have := R2.out.size HBx; simp; omega) ?_)
              intro gE2 capE2 wE2 hoE hgE hvE
              have R3 := hideG (R2.out.step HBx hoE hgE hvE)
              obtain ⟨b3, hb3⟩ : ∃ b, b = b2 ++ [z / 65536 % 256] := ⟨_, rfl⟩
              rw [← hb3] at R3
              have HB3 := hideG hb3
              clear hb3 hoE hgE hvE cm
              have cm := CM.out _ R3.out.2.2.2.1
              go_wp2_with fail
              rw [rounds_succ]
              go_wp2_with (at_builtin; refine wpList_append_one _ rfl _ _ 67 rfl B 5 i0 (.int .u8 0) 1 Tryz.underlying67 hi hz0 hz1 hz2 rfl _ _ _ rfl (R3.out.1.alloc _) ⟨wE2.heap.size, 0, none⟩ 1 (.int .u8 (z / 16777216 % 256)) rfl (by simp [go_sem]) rfl (by unfold maxLen; omega) (by omega) (by have := R3.out.size HBx; simp; omega) ?_)
              intro gE3 capE3 wE3 hoE hgE hvE
              have R4 := hideG (R3.out.step HBx hoE hgE hvE)
              obtain ⟨b4, hb4⟩ : ∃ b, b = b3 ++ [z / 16777216 % 256] := ⟨_, rfl⟩
              rw [← hb4] at R4
              have HB4 := hideG hb4
              clear hb4 hoE hgE hvE cm
              have cm := CM.out _ R4.out.2.2.2.1
              go_wp2_with fail
              rw [rounds_succ]
              go_wp2_with (at_builtin; refine wpList_append_one _ rfl _ _ 67 rfl B 5 i0 (.int .u8 0) 1 Tryz.underlying67 hi hz0 hz1 hz2 rfl _ _ _ rfl (R4.out.1.alloc _) ⟨wE3.heap.size, 0, none⟩ 1 (.int .u8 (z / 4294967296 % 256)) rfl (by simp [go_sem]) rfl (by unfold maxLen; omega) (by omega) (by have := R4.out.size HBx; simp; omega) ?_)
              intro gE4 capE4 wE4 hoE hgE hvE
              have R5 := hideG (R4.out.step HBx hoE hgE hvE)
              obtain ⟨b5, hb5⟩ : ∃ b, b = b4 ++ [z / 4294967296 % 256] := ⟨_, rfl⟩
              rw [← hb5] at R5
              have HB5 := hideG hb5
              clear hb5 hoE hgE hvE cm
              have cm := CM.out _ R5.out.2.2.2.1
              go_wp2_with fail
              rw [rounds_succ]
              go_wp2_with (at_builtin; refine wpList_append_one _ rfl _ _ 67 rfl B 5 i0 (.int .u8 0) 1 Tryz.underlying67 hi hz0 hz1 hz2 rfl _ _ _ rfl (R5.out.1.alloc _) ⟨wE4.heap.size, 0, none⟩ 1 (.int .u8 (z / 1099511627776 % 256)) rfl (by simp [go_sem]) rfl (by unfold maxLen; omega) (by omega) (by have := R5.out.size HBx; simp; omega) ?_)
              intro gE5 capE5 wE5 hoE hgE hvE
              have R6 := hideG (R5.out.step HBx hoE hgE hvE)
              obtain ⟨b6, hb6⟩ : ∃ b, b = b5 ++ [z / 1099511627776 % 256] := ⟨_, rfl⟩
              rw [← hb6] at R6
              have HB6 := hideG hb6
              clear hb6 hoE hgE hvE cm
              have cm := CM.out _ R6.out.2.2.2.1
              go_wp2_with fail
              rw [rounds_succ]
              go_wp2_with (at_builtin; refine wpList_append_one _ rfl _ _ 67 rfl B 5 i0 (.int .u8 0) 1 Tryz.underlying67 hi hz0 hz1 hz2 rfl _ _ _ rfl (R6.out.1.alloc _) ⟨wE5.heap.size, 0, none⟩ 1 (.int .u8 (z / 281474976710656 % 256)) rfl (by simp [go_sem]) rfl (by unfold maxLen; omega) (by omega) (by have := R6.out.size HBx; simp; omega) ?_)
              intro gE6 capE6 wE6 hoE hgE hvE
              have R7 := hideG (R6.out.step HBx hoE hgE hvE)
              obtain ⟨b7, hb7⟩ : ∃ b, b = b6 ++ [z / 281474976710656 % 256] := ⟨_, rfl⟩
              rw [← hb7] at R7
              have HB7 := hideG hb7
              clear hb7 hoE hgE hvE cm
              have cm := CM.out _ R7.out.2.2.2.1
              go_wp2_with fail
              rw [rounds_succ]
              go_wp2_with (at_builtin; refine wpList_append_one _ rfl _ _ 67 rfl B 5 i0 (.int .u8 0) 1 Tryz.underlying67 hi hz0 hz1 hz2 rfl _ _ _ rfl (R7.out.1.alloc _) ⟨wE6.heap.size, 0, none⟩ 1 (.int .u8 (z / 72057594037927936)) rfl (by simp [go_sem]) rfl (by unfold maxLen; omega) (by omega) (by have := R7.out.size HBx; simp; omega) ?_)
              intro gE7 capE7 wE7 hoE hgE hvE
              have R8 := hideG (R7.out.step HBx hoE hgE hvE)
              obtain ⟨b8, hb8⟩ : ∃ b, b = b7 ++ [z / 72057594037927936] := ⟨_, rfl⟩
              rw [← hb8] at R8
              have HB8 := hideG hb8
              clear hb8 hoE hgE hvE cm
              have cm := CM.out _ R8.out.2.2.2.1
              go_wp2_with fail
              rw [rounds_succ]
              go_wp2_with fail
              go_roundw
              case rel =>
                refine ⟨m + 1, by omega, by go_num, ?_⟩
                have e := R8.out
                have e1 : J + 1 + 8 * (m + 1) = Q + 1 + 1 + 1 + 1 + 1 + 1 + 1 + 1 := by rw [HQ.out]; omega
                have e2 : preB k fr l j ++ [xi] ++ mB (m + 1) = b8 := by
                  rw [HB8.out, HB7.out, HB6.out, HB5.out, HB4.out, HB3.out, HB2.out, HB1.out, HMS.out m hlm, HBS.out, ← HZ.out]
                  unfold Frm.bytesN
                  rw [show z / 72057594037927936 % 256 = z / 72057594037927936 by omega]
                  simp only [List.append_assoc, List.cons_append, List.nil_append]
                rw [e1, e2]; exact e
              case measure => simp [intOf]; omega
            · have em : m = W := by omega
              subst em
              clear hR
              go_wp2_with fail
              go_roundw
              case rel =>
                refine ⟨j + 1, by omega, by go_num, ?_, RR.out.2.2.2.2⟩
                have e1 : 3 + (j + 1) * S = J + 1 + 8 * m := by rw [HJ.out, Nat.add_mul, HSW.out]; omega
                have e2 : preB k fr l (j + 1) = preB k fr l j ++ [xi] ++ mB m := by rw [HPS.out, ← HMA.out]; simp
                rw [e1, e2]; exact RR.out.1
              case measure => simp [intOf]; omega
    · have ej : j = n := by omega
      subst ej
      clear hown hbel
      go_wp2_with fail
      go_ret2
      refine ⟨_, rfl, ?_, BX.out.trans (B2.out.mono (by omega))⟩
      have e1 : (Frm.encF k fr l).length = 3 + j * S := by rw [Frm.encF_length, ← HN.out, HSS.out]
      have e2 : preB k fr l j = Frm.encF k fr l := by rw [HN.out]; exact preB_all k fr l
      rw [e1, ← e2]
      exact ownsRow_base OW.out (by omega)

end Go.Proofs.YtchideljndagjaaGreat
