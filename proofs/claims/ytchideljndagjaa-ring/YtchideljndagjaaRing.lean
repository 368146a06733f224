/- PROVED: veilkeep.Ring answers true at every five integers, and each argument reads afterwards as it read before: the rules of products and powers, one key of two, and one over x. No condition. -/
import Derived.Test.YtchideljndagjaaRows
import Derived.WalkKit
import Derived.ProofKit
import Derived.OpenShut
import Derived.Test.YtchideljndagjaaCalc
import Derived.Test.YtchideljndagjaaNumAll
namespace Go.Proofs.Ytchideljndagjaa.ring
open Go.ChangeShapes Go.WideShapes Go.ChangeAt Go.RowKit
set_option linter.unusedVariables false      -- a walk need not use every 'w<i>' (that an integer argument fits its kind)

theorem own : ownKnob Try.prog.godebug = none := by kernel_rfl

/-! ### STEP 1: THE WALK: the Go text returns true. 'Grown w w'': the world has at most new blocks (Derived/RowKit3.lean). Part the cases AHEAD of 'go_enter' where a test parts the walk; take each callee by a contract of your own. -/
set_option maxHeartbeats 1000000 in
theorem walk (a0 : Int) (a1 : Int) (a2 : Int) (a3 : Int) (a4 : Int) (w0 : (Lit.int .i64 a0).wf = true) (w1 : (Lit.int .i64 a1).wf = true) (w2 : (Lit.int .i64 a2).wf = true) (w3 : (Lit.int .i64 a3).wf = true) (w4 : (Lit.int .i64 a4).wf = true) (w : World) :
    Calls Try.prog 3 #[.int .i64 a0, .int .i64 a1, .int .i64 a2, .int .i64 a3, .int .i64 a4] w fun e w' => e = .returned (.bool true) ∧ Grown w w' := by
  have b0 := bounds_i64 w0
  have x1 := Num.pickN_lo a0 2305843009213693951 (by omega)
  have x2 := Num.pickN_hi a0 2305843009213693951 (by omega)
  have b1 := bounds_i64 w1
  have y1 := Num.pickN_lo a1 2305843009213693951 (by omega)
  have y2 := Num.pickN_hi a1 2305843009213693951 (by omega)
  have b2 := bounds_i64 w2
  have z1 := Num.pickN_lo a2 2305843009213693951 (by omega)
  have z2 := Num.pickN_hi a2 2305843009213693951 (by omega)
  have b3 := bounds_i64 w3
  have s1 := Num.pickN_lo a3 2305843009213693951 (by omega)
  have s2 := Num.pickN_hi a3 2305843009213693951 (by omega)
  have b4 := bounds_i64 w4
  have t1 := Num.pickN_lo a4 2305843009213693951 (by omega)
  have t2 := Num.pickN_hi a4 2305843009213693951 (by omega)
  have e1 : (Num.powP (Num.pickN a0 2305843009213693951) 0 != 1) = false := by rw [Num.pow_zero]; rfl
  have e2 : (Num.powP (Num.pickN a0 2305843009213693951) 1 != Num.pickN a0 2305843009213693951) = false := by rw [Num.pow_one _ x1 x2]; simp
  have e3 : (Num.powP (Num.pickN a0 2305843009213693951) (Num.pickN a3 2305843009213693951 + Num.pickN a4 2305843009213693951) != Num.mulP (Num.powP (Num.pickN a0 2305843009213693951) (Num.pickN a3 2305843009213693951)) (Num.powP (Num.pickN a0 2305843009213693951) (Num.pickN a4 2305843009213693951))) = false := by rw [Num.pow_add _ _ _ s1 t1]; simp
  have e4 : (Num.powP (Num.powP 37 (Num.pickN a3 2305843009213693951)) (Num.pickN a4 2305843009213693951) != Num.powP (Num.powP 37 (Num.pickN a4 2305843009213693951)) (Num.pickN a3 2305843009213693951)) = false := by rw [Num.pow_swap]; simp
  by_cases hx : Num.pickN a0 2305843009213693951 = 0
  · have e5 : (Num.pickN a0 2305843009213693951 == 0) = true := by rw [hx]; rfl
    clear hx
    go_enter Try.func3, Try.ntmps3
    go_wp2_with fail
    refine (pick_calls _ _ _ b0.1 b0.2 (by omega) (by omega)).mono ?_
    rintro e w' ⟨rfl, rfl⟩
    go_wp2_with fail
    refine (pick_calls _ _ _ b1.1 b1.2 (by omega) (by omega)).mono ?_
    rintro e w' ⟨rfl, rfl⟩
    go_wp2_with fail
    refine (pick_calls _ _ _ b2.1 b2.2 (by omega) (by omega)).mono ?_
    rintro e w' ⟨rfl, rfl⟩
    go_wp2_with fail
    refine (pick_calls _ _ _ b3.1 b3.2 (by omega) (by omega)).mono ?_
    rintro e w' ⟨rfl, rfl⟩
    go_wp2_with fail
    refine (pick_calls _ _ _ b4.1 b4.2 (by omega) (by omega)).mono ?_
    rintro e w' ⟨rfl, rfl⟩
    go_wp2_with fail
    refine (rows_calls _ _ _ _ _ x1 x2 y1 y2 z1 z2).mono ?_
    rintro e w' ⟨rfl, rfl⟩
    go_wp2_with fail
    refine (cpower_calls _ _ _ _ x1 x2 (by omega) (by omega)).mono ?_
    rintro e w' ⟨rfl, rfl⟩
    go_wp2_with fail
    refine (cpower_calls _ _ _ _ x1 x2 (by omega) (by omega)).mono ?_
    rintro e w' ⟨rfl, rfl⟩
    go_wp2_with fail
    refine (cpower_calls _ _ _ _ x1 x2 s1 (by omega)).mono ?_
    rintro e w' ⟨rfl, rfl⟩
    go_wp2_with fail
    refine (cpower_calls _ _ _ _ x1 x2 t1 (by omega)).mono ?_
    rintro e w' ⟨rfl, rfl⟩
    go_wp2_with fail
    refine (cpower_calls _ _ _ _ x1 x2 (by omega) (by omega)).mono ?_
    rintro e w' ⟨rfl, rfl⟩
    go_wp2_with fail
    refine (ctimes_calls _ _ _ _ (Num.powP_lo _ _) (Num.powP_hi _ _) (Num.powP_lo _ _) (Num.powP_hi _ _)).mono ?_
    rintro e w' ⟨rfl, rfl⟩
    go_wp2_with fail
    refine (cpower_calls _ _ _ _ (by omega) (by omega) s1 (by omega)).mono ?_
    rintro e w' ⟨rfl, rfl⟩
    go_wp2_with fail
    refine (cpower_calls _ _ _ _ (by omega) (by omega) t1 (by omega)).mono ?_
    rintro e w' ⟨rfl, rfl⟩
    go_wp2_with fail
    refine (cpower_calls _ _ _ _ (Num.powP_lo _ _) (Num.powP_hi _ _) t1 (by omega)).mono ?_
    rintro e w' ⟨rfl, rfl⟩
    go_wp2_with fail
    refine (cpower_calls _ _ _ _ (Num.powP_lo _ _) (Num.powP_hi _ _) s1 (by omega)).mono ?_
    rintro e w' ⟨rfl, rfl⟩
    go_wp2_with fail
    refine (cpower_calls _ _ _ _ x1 x2 (by omega) (by omega)).mono ?_
    rintro e w' ⟨rfl, rfl⟩
    go_wp2_with fail
    refine (ctimes_calls _ _ _ _ x1 x2 (Num.powP_lo _ _) (Num.powP_hi _ _)).mono ?_
    rintro e w' ⟨rfl, rfl⟩
    go_wp2_with fail
    go_ret
    exact ⟨rfl, by repeat (first | exact Grown.refl _ | apply Grown.drew | apply Grown.alloc)⟩
  · have e5 : (Num.pickN a0 2305843009213693951 == 0) = false := by simp [hx]
    have e6 : (Num.mulP (Num.pickN a0 2305843009213693951) (Num.powP (Num.pickN a0 2305843009213693951) 2305843009213693949) == 1) = true := by rw [Prm.unit _ (by omega) x2]; rfl
    clear hx
    go_enter Try.func3, Try.ntmps3
    go_wp2_with fail
    refine (pick_calls _ _ _ b0.1 b0.2 (by omega) (by omega)).mono ?_
    rintro e w' ⟨rfl, rfl⟩
    go_wp2_with fail
    refine (pick_calls _ _ _ b1.1 b1.2 (by omega) (by omega)).mono ?_
    rintro e w' ⟨rfl, rfl⟩
    go_wp2_with fail
    refine (pick_calls _ _ _ b2.1 b2.2 (by omega) (by omega)).mono ?_
    rintro e w' ⟨rfl, rfl⟩
    go_wp2_with fail
    refine (pick_calls _ _ _ b3.1 b3.2 (by omega) (by omega)).mono ?_
    rintro e w' ⟨rfl, rfl⟩
    go_wp2_with fail
    refine (pick_calls _ _ _ b4.1 b4.2 (by omega) (by omega)).mono ?_
    rintro e w' ⟨rfl, rfl⟩
    go_wp2_with fail
    refine (rows_calls _ _ _ _ _ x1 x2 y1 y2 z1 z2).mono ?_
    rintro e w' ⟨rfl, rfl⟩
    go_wp2_with fail
    refine (cpower_calls _ _ _ _ x1 x2 (by omega) (by omega)).mono ?_
    rintro e w' ⟨rfl, rfl⟩
    go_wp2_with fail
    refine (cpower_calls _ _ _ _ x1 x2 (by omega) (by omega)).mono ?_
    rintro e w' ⟨rfl, rfl⟩
    go_wp2_with fail
    refine (cpower_calls _ _ _ _ x1 x2 s1 (by omega)).mono ?_
    rintro e w' ⟨rfl, rfl⟩
    go_wp2_with fail
    refine (cpower_calls _ _ _ _ x1 x2 t1 (by omega)).mono ?_
    rintro e w' ⟨rfl, rfl⟩
    go_wp2_with fail
    refine (cpower_calls _ _ _ _ x1 x2 (by omega) (by omega)).mono ?_
    rintro e w' ⟨rfl, rfl⟩
    go_wp2_with fail
    refine (ctimes_calls _ _ _ _ (Num.powP_lo _ _) (Num.powP_hi _ _) (Num.powP_lo _ _) (Num.powP_hi _ _)).mono ?_
    rintro e w' ⟨rfl, rfl⟩
    go_wp2_with fail
    refine (cpower_calls _ _ _ _ (by omega) (by omega) s1 (by omega)).mono ?_
    rintro e w' ⟨rfl, rfl⟩
    go_wp2_with fail
    refine (cpower_calls _ _ _ _ (by omega) (by omega) t1 (by omega)).mono ?_
    rintro e w' ⟨rfl, rfl⟩
    go_wp2_with fail
    refine (cpower_calls _ _ _ _ (Num.powP_lo _ _) (Num.powP_hi _ _) t1 (by omega)).mono ?_
    rintro e w' ⟨rfl, rfl⟩
    go_wp2_with fail
    refine (cpower_calls _ _ _ _ (Num.powP_lo _ _) (Num.powP_hi _ _) s1 (by omega)).mono ?_
    rintro e w' ⟨rfl, rfl⟩
    go_wp2_with fail
    refine (cpower_calls _ _ _ _ x1 x2 (by omega) (by omega)).mono ?_
    rintro e w' ⟨rfl, rfl⟩
    go_wp2_with fail
    refine (ctimes_calls _ _ _ _ x1 x2 (Num.powP_lo _ _) (Num.powP_hi _ _)).mono ?_
    rintro e w' ⟨rfl, rfl⟩
    go_wp2_with fail
    go_ret
    exact ⟨rfl, by repeat (first | exact Grown.refl _ | apply Grown.drew | apply Grown.alloc)⟩

/-! ### THE ROW's STEP: WRITTEN OUT: LEAVE IT -/
set_option maxRecDepth 100000 in
theorem lifted (os : Os) (started : os.Started) (H : Type) (enc : TypeId × Value → H) :
    ReturnsInHanded {} Try.checked os 3 .any (Rows.ringSpec.pre6 enc Try.prog Try.f3 Rows.ringRow.domain false) (Rows.ringSpec.post enc Try.prog Try.f3 false true false false) := by
  refine returnsInHanded_of_change (C := Try.checked) own started (by kernel_rfl) Try.func3
    (ChangeSpec.witness6 (enc := enc) (C := Try.checked) false ⟨#[], #[.int .i64 0, .int .i64 0, .int .i64 0, .int .i64 0, .int .i64 0], []⟩ 8 (by kernel_rfl) (by kernel_rfl) (by kernel_rfl) (by kernel_rfl)) ?_
  intro W base args ds gs before hval0 hW hcnd _
  have hval : ∀ (j : Nat) t v, Try.f3.params[j]? = some t → args[j]? = some v → Value.okWide Try.prog W .any base t v := hval0
  have hW' := hW
  obtain ⟨p, q, hA0, hV, rfl, hfz, hnd⟩ := hW
  have hA : DataW.TrodAll enc Try.prog W 0 (fun _ => true) true Try.f3.params.toList args.toList ds p := hA0
  rw [Try.params3] at hA hval
  obtain ⟨v0, vs0, d0, ds0, p0, q0, hargs, rfl, rfl, h0, r0⟩ := trodAll_cons hA
  obtain ⟨v1, vs1, d1, ds1, p1, q1, rfl, rfl, rfl, h1, r1⟩ := trodAll_cons r0
  obtain ⟨v2, vs2, d2, ds2, p2, q2, rfl, rfl, rfl, h2, r2⟩ := trodAll_cons r1
  obtain ⟨v3, vs3, d3, ds3, p3, q3, rfl, rfl, rfl, h3, r3⟩ := trodAll_cons r2
  obtain ⟨v4, vs4, d4, ds4, p4, q4, rfl, rfl, rfl, h4, r4⟩ := trodAll_cons r3
  obtain ⟨rfl, rfl, rfl⟩ := trodAll_nil r4
  obtain rfl : args = #[v0, v1, v2, v3, v4] := by cases args; simp_all
  obtain ⟨rfl, rfl⟩ := trodVars_none hV
  obtain ⟨a0, rfl, rfl, rfl, w0⟩ := open_int Try.underlying3 (hval 0 3 v0 rfl rfl) h0
  obtain ⟨a1, rfl, rfl, rfl, w1⟩ := open_int Try.underlying3 (hval 1 3 v1 rfl rfl) h1
  obtain ⟨a2, rfl, rfl, rfl, w2⟩ := open_int Try.underlying3 (hval 2 3 v2 rfl rfl) h2
  obtain ⟨a3, rfl, rfl, rfl, w3⟩ := open_int Try.underlying3 (hval 3 3 v3 rfl rfl) h3
  obtain ⟨a4, rfl, rfl, rfl, w4⟩ := open_int Try.underlying3 (hval 4 3 v4 rfl rfl) h4
  clear hA0 hval0
  simp only [List.append_nil] at hW'
  refine (walk a0 a1 a2 a3 a4 w0 w1 w2 w3 w4 W).mono fun e W' ⟨he, hg⟩ => ?_
  subst he
  exact ⟨_, rfl, post_of_same (pa := []) (pv := []) hW' (fun _ _ _ => (trodAll_cons_mk (shut_bool Try.underlying4 _) trodAll_mk0)) (fun sp _ => (trodAll_cons_mk (shut_int Try.underlying3 w0) (trodAll_cons_mk (shut_int Try.underlying3 w1) (trodAll_cons_mk (shut_int Try.underlying3 w2) (trodAll_cons_mk (shut_int Try.underlying3 w3) (trodAll_cons_mk (shut_int Try.underlying3 w4) trodAll_mk0)))))) (fun _ _ => rfl) rfl
    (hg.frame _) hg.2.1 (ok_one (by kernel_rfl) rfl (okWide_bool_mk Try.underlying4 _))⟩

theorem over : Rows.ringRow.holds Try.pinned (OpenSpec.ofChange Rows.ringSpec) :=
  OpenClaim.holds_of_wide 3 Try.f3 rfl rfl rfl rfl rfl rfl rfl ⟨rfl, rfl, rfl, rfl, rfl⟩ rfl rfl rfl rfl rfl (by kernel_rfl) Try.func3 (by kernel_rfl)
    (of_decide_eq_true (by kernel_rfl)) (by unfold Func.isWrapper; first | (rw [if_pos (by decide +kernel)]; kernel_rfl) | (rw [if_neg (by decide +kernel)]; exact ⟨rfl, rfl⟩))
    (fun os started H enc _ => lifted os started H enc)

end Go.Proofs.Ytchideljndagjaa.ring
namespace Go.Proofs.Ytchideljndagjaa

/-- The statement. -/
theorem ring_holds : Rows.RingSaid := ring.over
#print axioms ring_holds
end Go.Proofs.Ytchideljndagjaa
