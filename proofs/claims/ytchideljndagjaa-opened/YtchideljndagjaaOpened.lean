/- PROVED: veilkeep.Opened answers true at every six integers, and each argument reads afterwards as it read before: what is sealed is opened by the same key on the same way, and with z turned it is refused. No condition. -/
import Derived.Test.YtchideljndagjaaRows
import Derived.WalkKit
import Derived.ProofKit
import Derived.OpenShut
import Derived.Test.YtchideljndagjaaPadAll
import Derived.Test.YtchideljndagjaaKeep
namespace Go.Proofs.Ytchideljndagjaa.opened
open Go.ChangeShapes Go.WideShapes Go.ChangeAt Go.RowKit
set_option linter.unusedVariables false      -- a walk need not use every 'w<i>' (that an integer argument fits its kind)

theorem own : ownKnob Try.prog.godebug = none := by kernel_rfl

/-! ### STEP 1: THE WALK: the Go text returns true. 'Grown w w'': the world has at most new blocks (Derived/RowKit3.lean). Part the cases AHEAD of 'go_enter' where a test parts the walk; take each callee by a contract of your own. -/
/-- Three integers laid as a new slice. -/
theorem row3 (x y z : Int) (w : World) : IRow (w.alloc (.cells #[.int .i64 x, .int .i64 y, .int .i64 z] 3)) w.heap.size 0 [x, y, z] := by
  intro i hi
  match i, hi with
  | 0, _ => simp [go_sem]
  | 1, _ => simp [go_sem]
  | 2, _ => simp [go_sem]

theorem no_of (k a b x y : Int) (h : [k, x, y].all Num.elB = false ∨ ¬ (1 ≤ a ∧ a ≤ 12) ∨ ¬ (1 ≤ b ∧ b ≤ 12)) :
    (Num.elB k && (Num.clB a && Num.clB b) && (Num.elB x && Num.elB y)) = false := by
  rcases h with h | h | h
  · simp only [List.all_cons, List.all_nil, Bool.and_true] at h
    cases h1 : Num.elB k <;> cases h2 : Num.elB x <;> cases h3 : Num.elB y <;> simp_all
  · rw [Num.clB_no h]; simp
  · rw [Num.clB_no h]; simp

set_option maxHeartbeats 400000 in
theorem walk_yes (a0 a1 a2 a3 a4 a5 : Int) (hm : [a0, a3, a4].all Num.elB = true) (c1 : 1 ≤ a1) (c2 : a1 ≤ 12) (c3 : 1 ≤ a2) (c4 : a2 ≤ 12)
    (t1 : -9223372036854775808 ≤ a5) (t2 : a5 ≤ 9223372036854775807) (w : World) :
    Calls Try.prog 6 #[.int .i64 a0, .int .i64 a1, .int .i64 a2, .int .i64 a3, .int .i64 a4, .int .i64 a5] w fun e w' => e = .returned (.bool true) ∧ Grown w w' := by
  have hm2 := hm
  simp only [List.all_cons, List.all_nil, Bool.and_true, Bool.and_eq_true, Num.elB_iff] at hm2
  obtain ⟨⟨k1, k2⟩, ⟨x1, x2⟩, ⟨y1, y2⟩⟩ := hm2
  have z1 := Num.tagN_lo a0 (64 * a1 + 4 * a2) (Num.addP a3 (Num.padN a0 (64 * a1 + 4 * a2))) (Num.addP a4 (Num.padN a0 (64 * a1 + 4 * a2 + 1)))
  have z2 := Num.tagN_hi a0 (64 * a1 + 4 * a2) (Num.addP a3 (Num.padN a0 (64 * a1 + 4 * a2))) (Num.addP a4 (Num.padN a0 (64 * a1 + 4 * a2 + 1)))
  have s1 : Hid (Num.subP (Num.addP a3 (Num.padN a0 (64 * a1 + 4 * a2))) (Num.padN a0 (64 * a1 + 4 * a2)) = a3) := Num.sub_add _ _ x1 x2
  have s2 : Hid (Num.subP (Num.addP a4 (Num.padN a0 (64 * a1 + 4 * a2 + 1))) (Num.padN a0 (64 * a1 + 4 * a2 + 1)) = a4) := Num.sub_add _ _ y1 y2
  have p1 := Num.pickN_lo a5 2305843009213693950 (by omega)
  have p2 := Num.pickN_hi a5 2305843009213693950 (by omega)
  have n1 : Hid (Num.addP (Num.tagN a0 (64 * a1 + 4 * a2) (Num.addP a3 (Num.padN a0 (64 * a1 + 4 * a2))) (Num.addP a4 (Num.padN a0 (64 * a1 + 4 * a2 + 1)))) (1 + Num.pickN a5 2305843009213693950)
    ≠ Num.tagN a0 (64 * a1 + 4 * a2) (Num.addP a3 (Num.padN a0 (64 * a1 + 4 * a2))) (Num.addP a4 (Num.padN a0 (64 * a1 + 4 * a2 + 1)))) := Num.turned _ _ z1 z2 p1 p2
  go_enter Try.func6, Try.ntmps6
  go_wp2_with fail
  refine (veilSeal _ _ _ _ _ _ _ _ _ _ (seal_yes _ _ _ _ _ _ k1 k2 c1 c2 c3 c4 x1 x2 y1 y2)).mono ?_
  rintro e w' ⟨rfl, rfl⟩
  go_wp2_with fail
  refine (kelements_calls _ 0 3 3 [a0, a3, a4] _ rfl (by unfold maxLen; omega) (row3 _ _ _ _)).mono ?_
  rintro e w' ⟨rfl, rfl⟩
  rw [hm]
  go_wp2_with fail
  refine (veilOpen _ _ _ _ _ _ _ _ _ _ (open_yes _ _ _ _ _ _ _ k1 k2 c1 c2 c3 c4 (Num.addP_lo _ _) (Num.addP_hi _ _) (Num.addP_lo _ _) (Num.addP_hi _ _) z1 z2 (by simp))).mono ?_
  rintro e w' ⟨rfl, rfl⟩
  rw [s1.out, s2.out]
  have q1 : (a3 != a3) = false := by simp
  have q2 : (a4 != a4) = false := by simp
  go_wp2_with fail
  refine (pick_calls _ _ _ t1 t2 (by omega) (by omega)).mono ?_
  rintro e w' ⟨rfl, rfl⟩
  go_wp2_with fail
  refine (kplus_calls _ _ _ z1 z2 (by omega) (by omega)).mono ?_
  rintro e w' ⟨rfl, rfl⟩
  go_wp2_with fail
  refine (veilOpen _ _ _ _ _ _ _ _ _ _ (open_tag _ _ _ _ _ _ _ k1 k2 c1 c2 c3 c4 (Num.addP_lo _ _) (Num.addP_hi _ _) (Num.addP_lo _ _) (Num.addP_hi _ _) (Num.addP_lo _ _) (Num.addP_hi _ _) (by rw [bne_iff_ne]; exact fun h => n1.out h.symm))).mono ?_
  rintro e w' ⟨rfl, rfl⟩
  go_wp2_with fail
  go_ret
  exact ⟨rfl, by repeat (first | exact Grown.refl _ | apply Grown.drew | apply Grown.alloc)⟩

theorem walk (a0 : Int) (a1 : Int) (a2 : Int) (a3 : Int) (a4 : Int) (a5 : Int) (w0 : (Lit.int .i64 a0).wf = true) (w1 : (Lit.int .i64 a1).wf = true) (w2 : (Lit.int .i64 a2).wf = true) (w3 : (Lit.int .i64 a3).wf = true) (w4 : (Lit.int .i64 a4).wf = true) (w5 : (Lit.int .i64 a5).wf = true) (w : World) :
    Calls Try.prog 6 #[.int .i64 a0, .int .i64 a1, .int .i64 a2, .int .i64 a3, .int .i64 a4, .int .i64 a5] w fun e w' => e = .returned (.bool true) ∧ Grown w w' := by
  have hb := bounds_i64 w5
  cases hm : [a0, a3, a4].all Num.elB
  · have hno := no_of a0 a1 a2 a3 a4 (.inl hm)
    go_enter Try.func6, Try.ntmps6
    go_wp2_with fail
    refine (veilSeal _ _ _ _ _ _ 0 0 0 1 (seal_no _ _ _ _ _ _ hno)).mono ?_
    rintro e w' ⟨rfl, rfl⟩
    go_wp2_with fail
    refine (kelements_calls _ 0 3 3 [a0, a3, a4] _ rfl (by unfold maxLen; omega) (row3 _ _ _ _)).mono ?_
    rintro e w' ⟨rfl, rfl⟩
    rw [hm]
    go_wp2_with fail
    go_ret
    exact ⟨rfl, by repeat (first | exact Grown.refl _ | apply Grown.drew | apply Grown.alloc)⟩
  · by_cases c1 : a1 < 1
    · have hno := no_of a0 a1 a2 a3 a4 (.inr (.inl (by omega)))
      go_enter Try.func6, Try.ntmps6
      go_wp2_with fail
      refine (veilSeal _ _ _ _ _ _ 0 0 0 1 (seal_no _ _ _ _ _ _ hno)).mono ?_
      rintro e w' ⟨rfl, rfl⟩
      go_wp2_with fail
      refine (kelements_calls _ 0 3 3 [a0, a3, a4] _ rfl (by unfold maxLen; omega) (row3 _ _ _ _)).mono ?_
      rintro e w' ⟨rfl, rfl⟩
      rw [hm]
      go_wp2_with fail
      go_ret
      exact ⟨rfl, by repeat (first | exact Grown.refl _ | apply Grown.drew | apply Grown.alloc)⟩
    · by_cases c2 : 12 < a1
      · have hno := no_of a0 a1 a2 a3 a4 (.inr (.inl (by omega)))
        go_enter Try.func6, Try.ntmps6
        go_wp2_with fail
        refine (veilSeal _ _ _ _ _ _ 0 0 0 1 (seal_no _ _ _ _ _ _ hno)).mono ?_
        rintro e w' ⟨rfl, rfl⟩
        go_wp2_with fail
        refine (kelements_calls _ 0 3 3 [a0, a3, a4] _ rfl (by unfold maxLen; omega) (row3 _ _ _ _)).mono ?_
        rintro e w' ⟨rfl, rfl⟩
        rw [hm]
        go_wp2_with fail
        go_ret
        exact ⟨rfl, by repeat (first | exact Grown.refl _ | apply Grown.drew | apply Grown.alloc)⟩
      · by_cases c3 : a2 < 1
        · have hno := no_of a0 a1 a2 a3 a4 (.inr (.inr (by omega)))
          go_enter Try.func6, Try.ntmps6
          go_wp2_with fail
          refine (veilSeal _ _ _ _ _ _ 0 0 0 1 (seal_no _ _ _ _ _ _ hno)).mono ?_
          rintro e w' ⟨rfl, rfl⟩
          go_wp2_with fail
          refine (kelements_calls _ 0 3 3 [a0, a3, a4] _ rfl (by unfold maxLen; omega) (row3 _ _ _ _)).mono ?_
          rintro e w' ⟨rfl, rfl⟩
          rw [hm]
          go_wp2_with fail
          go_ret
          exact ⟨rfl, by repeat (first | exact Grown.refl _ | apply Grown.drew | apply Grown.alloc)⟩
        · by_cases c4 : 12 < a2
          · have hno := no_of a0 a1 a2 a3 a4 (.inr (.inr (by omega)))
            go_enter Try.func6, Try.ntmps6
            go_wp2_with fail
            refine (veilSeal _ _ _ _ _ _ 0 0 0 1 (seal_no _ _ _ _ _ _ hno)).mono ?_
            rintro e w' ⟨rfl, rfl⟩
            go_wp2_with fail
            refine (kelements_calls _ 0 3 3 [a0, a3, a4] _ rfl (by unfold maxLen; omega) (row3 _ _ _ _)).mono ?_
            rintro e w' ⟨rfl, rfl⟩
            rw [hm]
            go_wp2_with fail
            go_ret
            exact ⟨rfl, by repeat (first | exact Grown.refl _ | apply Grown.drew | apply Grown.alloc)⟩
          · exact walk_yes a0 a1 a2 a3 a4 a5 hm (by omega) (by omega) (by omega) (by omega) hb.1 hb.2 w

/-! ### THE ROW's STEP: WRITTEN OUT: LEAVE IT -/
set_option maxRecDepth 100000 in
theorem lifted (os : Os) (started : os.Started) (H : Type) (enc : TypeId × Value → H) :
    ReturnsInHanded {} Try.checked os 6 .any (Rows.openedSpec.pre6 enc Try.prog Try.f6 Rows.openedRow.domain false) (Rows.openedSpec.post enc Try.prog Try.f6 false true false false) := by
  refine returnsInHanded_of_change (C := Try.checked) own started (by kernel_rfl) Try.func6
    (ChangeSpec.witness6 (enc := enc) (C := Try.checked) false ⟨#[], #[.int .i64 0, .int .i64 0, .int .i64 0, .int .i64 0, .int .i64 0, .int .i64 0], []⟩ 8 (by kernel_rfl) (by kernel_rfl) (by kernel_rfl) (by kernel_rfl)) ?_
  intro W base args ds gs before hval0 hW hcnd _
  have hval : ∀ (j : Nat) t v, Try.f6.params[j]? = some t → args[j]? = some v → Value.okWide Try.prog W .any base t v := hval0
  have hW' := hW
  obtain ⟨p, q, hA0, hV, rfl, hfz, hnd⟩ := hW
  have hA : DataW.TrodAll enc Try.prog W 0 (fun _ => true) true Try.f6.params.toList args.toList ds p := hA0
  rw [Try.params6] at hA hval
  obtain ⟨v0, vs0, d0, ds0, p0, q0, hargs, rfl, rfl, h0, r0⟩ := trodAll_cons hA
  obtain ⟨v1, vs1, d1, ds1, p1, q1, rfl, rfl, rfl, h1, r1⟩ := trodAll_cons r0
  obtain ⟨v2, vs2, d2, ds2, p2, q2, rfl, rfl, rfl, h2, r2⟩ := trodAll_cons r1
  obtain ⟨v3, vs3, d3, ds3, p3, q3, rfl, rfl, rfl, h3, r3⟩ := trodAll_cons r2
  obtain ⟨v4, vs4, d4, ds4, p4, q4, rfl, rfl, rfl, h4, r4⟩ := trodAll_cons r3
  obtain ⟨v5, vs5, d5, ds5, p5, q5, rfl, rfl, rfl, h5, r5⟩ := trodAll_cons r4
  obtain ⟨rfl, rfl, rfl⟩ := trodAll_nil r5
  obtain rfl : args = #[v0, v1, v2, v3, v4, v5] := by cases args; simp_all
  obtain ⟨rfl, rfl⟩ := trodVars_none hV
  obtain ⟨a0, rfl, rfl, rfl, w0⟩ := open_int Try.underlying3 (hval 0 3 v0 rfl rfl) h0
  obtain ⟨a1, rfl, rfl, rfl, w1⟩ := open_int Try.underlying3 (hval 1 3 v1 rfl rfl) h1
  obtain ⟨a2, rfl, rfl, rfl, w2⟩ := open_int Try.underlying3 (hval 2 3 v2 rfl rfl) h2
  obtain ⟨a3, rfl, rfl, rfl, w3⟩ := open_int Try.underlying3 (hval 3 3 v3 rfl rfl) h3
  obtain ⟨a4, rfl, rfl, rfl, w4⟩ := open_int Try.underlying3 (hval 4 3 v4 rfl rfl) h4
  obtain ⟨a5, rfl, rfl, rfl, w5⟩ := open_int Try.underlying3 (hval 5 3 v5 rfl rfl) h5
  clear hA0 hval0
  simp only [List.append_nil] at hW'
  refine (walk a0 a1 a2 a3 a4 a5 w0 w1 w2 w3 w4 w5 W).mono fun e W' ⟨he, hg⟩ => ?_
  subst he
  exact ⟨_, rfl, post_of_same (pa := []) (pv := []) hW' (fun _ _ _ => (trodAll_cons_mk (shut_bool Try.underlying4 _) trodAll_mk0)) (fun sp _ => (trodAll_cons_mk (shut_int Try.underlying3 w0) (trodAll_cons_mk (shut_int Try.underlying3 w1) (trodAll_cons_mk (shut_int Try.underlying3 w2) (trodAll_cons_mk (shut_int Try.underlying3 w3) (trodAll_cons_mk (shut_int Try.underlying3 w4) (trodAll_cons_mk (shut_int Try.underlying3 w5) trodAll_mk0))))))) (fun _ _ => rfl) rfl
    (hg.frame _) hg.2.1 (ok_one (by kernel_rfl) rfl (okWide_bool_mk Try.underlying4 _))⟩

theorem over : Rows.openedRow.holds Try.pinned (OpenSpec.ofChange Rows.openedSpec) :=
  OpenClaim.holds_of_wide 6 Try.f6 rfl rfl rfl rfl rfl rfl rfl ⟨rfl, rfl, rfl, rfl, rfl⟩ rfl rfl rfl rfl rfl (by kernel_rfl) Try.func6 (by kernel_rfl)
    (of_decide_eq_true (by kernel_rfl)) (by unfold Func.isWrapper; first | (rw [if_pos (by decide +kernel)]; kernel_rfl) | (rw [if_neg (by decide +kernel)]; exact ⟨rfl, rfl⟩))
    (fun os started H enc _ => lifted os started H enc)

end Go.Proofs.Ytchideljndagjaa.opened
namespace Go.Proofs.Ytchideljndagjaa

/-- The statement. -/
theorem opened_holds : Rows.OpenedSaid := opened.over
#print axioms opened_holds
end Go.Proofs.Ytchideljndagjaa
