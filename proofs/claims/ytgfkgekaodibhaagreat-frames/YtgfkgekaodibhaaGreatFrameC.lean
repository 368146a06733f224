/- Contracts of package frame: what is a frame. -/
import Derived.Test.YtgfkgekaodibhaaGreatFrameB
namespace Go.Proofs.YtgfkgekaodibhaaGreat
open Go.ChangeShapes Go.WideShapes Go.ChangeAt Go.RowKit
set_option linter.unusedVariables false

theorem fromFits_calls (k fr : Int) (v : Value) (w : World) :
    Calls Tryz.prog 188 #[.agg #[.int .i64 k, .int .i64 fr, v]] w fun e w' => e = .returned (.bool (Frm.fromB k fr)) ∧ Below w.heap.size w w' := by
  by_cases k1 : k = 1
  · subst k1
    have H := hideG (show Frm.fromB 1 fr = Num.clB fr from rfl)
    go_enter Tryz.func188, Tryz.ntmps188
    go_wp2_with fail
    refine (client_calls _ _).mono ?_
    rintro e w' ⟨rfl, rfl⟩
    go_wp2_with fail
    go_ret
    exact ⟨ret_bool H.out.symm, by go_grown⟩
  by_cases k3 : k = 3
  · subst k3
    have H := hideG (show Frm.fromB 3 fr = Num.clB fr from rfl)
    go_enter Tryz.func188, Tryz.ntmps188
    go_wp2_with fail
    refine (client_calls _ _).mono ?_
    rintro e w' ⟨rfl, rfl⟩
    go_wp2_with fail
    go_ret
    exact ⟨ret_bool H.out.symm, by go_grown⟩
  by_cases k5 : k = 5
  · subst k5
    have H := hideG (show Frm.fromB 5 fr = Num.clB fr from rfl)
    go_enter Tryz.func188, Tryz.ntmps188
    go_wp2_with fail
    refine (client_calls _ _).mono ?_
    rintro e w' ⟨rfl, rfl⟩
    go_wp2_with fail
    go_ret
    exact ⟨ret_bool H.out.symm, by go_grown⟩
  by_cases k7 : k = 7
  · subst k7
    have H := hideG (show Frm.fromB 7 fr = Num.clB fr from rfl)
    go_enter Tryz.func188, Tryz.ntmps188
    go_wp2_with fail
    refine (client_calls _ _).mono ?_
    rintro e w' ⟨rfl, rfl⟩
    go_wp2_with fail
    go_ret
    exact ⟨ret_bool H.out.symm, by go_grown⟩
  by_cases k2 : k = 2
  · subst k2
    by_cases hz : fr = 0
    · have H := hideG (show Frm.fromB 2 fr = true from decide_eq_true hz)
      subst hz
      go_enter Tryz.func188, Tryz.ntmps188
      go_wp2_with fail
      go_ret
      exact ⟨ret_bool H.out.symm, by go_grown⟩
    · have H := hideG (show Frm.fromB 2 fr = false from decide_eq_false hz)
      have hz' : (fr == 0) = false := by simpa using hz
      go_enter Tryz.func188, Tryz.ntmps188
      go_wp2_with fail
      go_ret
      exact ⟨ret_bool H.out.symm, by go_grown⟩
  by_cases k4 : k = 4
  · subst k4
    by_cases hz : fr = 0
    · have H := hideG (show Frm.fromB 4 fr = true from decide_eq_true hz)
      subst hz
      go_enter Tryz.func188, Tryz.ntmps188
      go_wp2_with fail
      go_ret
      exact ⟨ret_bool H.out.symm, by go_grown⟩
    · have H := hideG (show Frm.fromB 4 fr = false from decide_eq_false hz)
      have hz' : (fr == 0) = false := by simpa using hz
      go_enter Tryz.func188, Tryz.ntmps188
      go_wp2_with fail
      go_ret
      exact ⟨ret_bool H.out.symm, by go_grown⟩
  by_cases k6 : k = 6
  · subst k6
    by_cases hz : fr = 0
    · have H := hideG (show Frm.fromB 6 fr = true from decide_eq_true hz)
      subst hz
      go_enter Tryz.func188, Tryz.ntmps188
      go_wp2_with fail
      go_ret
      exact ⟨ret_bool H.out.symm, by go_grown⟩
    · have H := hideG (show Frm.fromB 6 fr = false from decide_eq_false hz)
      have hz' : (fr == 0) = false := by simpa using hz
      go_enter Tryz.func188, Tryz.ntmps188
      go_wp2_with fail
      go_ret
      exact ⟨ret_bool H.out.symm, by go_grown⟩
  have H := hideG (show Frm.fromB k fr = false by unfold Frm.fromB; rw [if_neg (by omega), if_neg (by omega)])
  go_enter Tryz.func188, Tryz.ntmps188
  go_wp2_with fail
  go_ret
  exact ⟨ret_bool H.out.symm, by go_grown⟩

set_option maxHeartbeats 1000000 in
set_option maxRecDepth 100000 in
theorem itemFits_calls (k i a b c : Int) (w : World) :
    Calls Tryz.prog 218 #[.int .i64 k, .agg #[.int .i64 i, .int .i64 a, .int .i64 b, .int .i64 c]] w fun e w' => e = .returned (.bool (Frm.okI k (i, a, b, c))) ∧ Below w.heap.size w w' := by
  by_cases k1 : k = 1
  · subst k1
    cases q0 : Frm.keyB a
    ·
      have H := hideG (show Frm.okI 1 (i, a, b, c) = false by show (Frm.keyB a && (Frm.keyB b && Frm.zB c)) = false; rw [q0]; rfl)
      go_enter Tryz.func218, Tryz.ntmps218
      go_wp2_with fail
      refine (key_calls _ _).mono ?_
      rintro e w' ⟨rfl, rfl⟩
      rw [q0]
      go_wp2_with fail
      go_ret
      exact ⟨ret_bool H.out.symm, by go_grown⟩
    ·
      cases q1 : Frm.keyB b
      ·
        have H := hideG (show Frm.okI 1 (i, a, b, c) = false by show (Frm.keyB a && (Frm.keyB b && Frm.zB c)) = false; rw [q0, q1]; rfl)
        go_enter Tryz.func218, Tryz.ntmps218
        go_wp2_with fail
        refine (key_calls _ _).mono ?_
        rintro e w' ⟨rfl, rfl⟩
        rw [q0]
        go_wp2_with fail
        refine (key_calls _ _).mono ?_
        rintro e w' ⟨rfl, rfl⟩
        rw [q1]
        go_wp2_with fail
        go_ret
        exact ⟨ret_bool H.out.symm, by go_grown⟩
      ·
        by_cases z2 : c = 0
        · have q2 : Frm.zB c = true := decide_eq_true z2
          have H := hideG (show Frm.okI 1 (i, a, b, c) = true by show (Frm.keyB a && (Frm.keyB b && Frm.zB c)) = true; rw [q0, q1, q2]; rfl)
          clear q2
          go_enter Tryz.func218, Tryz.ntmps218
          go_wp2_with fail
          refine (key_calls _ _).mono ?_
          rintro e w' ⟨rfl, rfl⟩
          rw [q0]
          go_wp2_with fail
          refine (key_calls _ _).mono ?_
          rintro e w' ⟨rfl, rfl⟩
          rw [q1]
          go_wp2_with fail
          go_ret
          exact ⟨ret_bool H.out.symm, by go_grown⟩
        · have q2 : Frm.zB c = false := decide_eq_false z2
          have y2 : (c == 0) = false := by simpa using z2
          have H := hideG (show Frm.okI 1 (i, a, b, c) = false by show (Frm.keyB a && (Frm.keyB b && Frm.zB c)) = false; rw [q0, q1, q2]; rfl)
          clear q2
          go_enter Tryz.func218, Tryz.ntmps218
          go_wp2_with fail
          refine (key_calls _ _).mono ?_
          rintro e w' ⟨rfl, rfl⟩
          rw [q0]
          go_wp2_with fail
          refine (key_calls _ _).mono ?_
          rintro e w' ⟨rfl, rfl⟩
          rw [q1]
          go_wp2_with fail
          go_ret
          exact ⟨ret_bool H.out.symm, by go_grown⟩
  by_cases k2 : k = 2
  · subst k2
    cases q0 : Frm.keyB a
    ·
      have H := hideG (show Frm.okI 2 (i, a, b, c) = false by show (Frm.keyB a && (Frm.keyB b && Frm.zB c)) = false; rw [q0]; rfl)
      go_enter Tryz.func218, Tryz.ntmps218
      go_wp2_with fail
      refine (key_calls _ _).mono ?_
      rintro e w' ⟨rfl, rfl⟩
      rw [q0]
      go_wp2_with fail
      go_ret
      exact ⟨ret_bool H.out.symm, by go_grown⟩
    ·
      cases q1 : Frm.keyB b
      ·
        have H := hideG (show Frm.okI 2 (i, a, b, c) = false by show (Frm.keyB a && (Frm.keyB b && Frm.zB c)) = false; rw [q0, q1]; rfl)
        go_enter Tryz.func218, Tryz.ntmps218
        go_wp2_with fail
        refine (key_calls _ _).mono ?_
        rintro e w' ⟨rfl, rfl⟩
        rw [q0]
        go_wp2_with fail
        refine (key_calls _ _).mono ?_
        rintro e w' ⟨rfl, rfl⟩
        rw [q1]
        go_wp2_with fail
        go_ret
        exact ⟨ret_bool H.out.symm, by go_grown⟩
      ·
        by_cases z2 : c = 0
        · have q2 : Frm.zB c = true := decide_eq_true z2
          have H := hideG (show Frm.okI 2 (i, a, b, c) = true by show (Frm.keyB a && (Frm.keyB b && Frm.zB c)) = true; rw [q0, q1, q2]; rfl)
          clear q2
          go_enter Tryz.func218, Tryz.ntmps218
          go_wp2_with fail
          refine (key_calls _ _).mono ?_
          rintro e w' ⟨rfl, rfl⟩
          rw [q0]
          go_wp2_with fail
          refine (key_calls _ _).mono ?_
          rintro e w' ⟨rfl, rfl⟩
          rw [q1]
          go_wp2_with fail
          go_ret
          exact ⟨ret_bool H.out.symm, by go_grown⟩
        · have q2 : Frm.zB c = false := decide_eq_false z2
          have y2 : (c == 0) = false := by simpa using z2
          have H := hideG (show Frm.okI 2 (i, a, b, c) = false by show (Frm.keyB a && (Frm.keyB b && Frm.zB c)) = false; rw [q0, q1, q2]; rfl)
          clear q2
          go_enter Tryz.func218, Tryz.ntmps218
          go_wp2_with fail
          refine (key_calls _ _).mono ?_
          rintro e w' ⟨rfl, rfl⟩
          rw [q0]
          go_wp2_with fail
          refine (key_calls _ _).mono ?_
          rintro e w' ⟨rfl, rfl⟩
          rw [q1]
          go_wp2_with fail
          go_ret
          exact ⟨ret_bool H.out.symm, by go_grown⟩
  by_cases k3 : k = 3
  · subst k3
    cases q0 : Num.elB a
    ·
      have H := hideG (show Frm.okI 3 (i, a, b, c) = false by show (Num.elB a && (Num.elB b && Num.elB c)) = false; rw [q0]; rfl)
      go_enter Tryz.func218, Tryz.ntmps218
      go_wp2_with fail
      refine (element_calls _ _).mono ?_
      rintro e w' ⟨rfl, rfl⟩
      rw [q0]
      go_wp2_with fail
      go_ret
      exact ⟨ret_bool H.out.symm, by go_grown⟩
    ·
      cases q1 : Num.elB b
      ·
        have H := hideG (show Frm.okI 3 (i, a, b, c) = false by show (Num.elB a && (Num.elB b && Num.elB c)) = false; rw [q0, q1]; rfl)
        go_enter Tryz.func218, Tryz.ntmps218
        go_wp2_with fail
        refine (element_calls _ _).mono ?_
        rintro e w' ⟨rfl, rfl⟩
        rw [q0]
        go_wp2_with fail
        refine (element_calls _ _).mono ?_
        rintro e w' ⟨rfl, rfl⟩
        rw [q1]
        go_wp2_with fail
        go_ret
        exact ⟨ret_bool H.out.symm, by go_grown⟩
      ·
        cases q2 : Num.elB c
        ·
          have H := hideG (show Frm.okI 3 (i, a, b, c) = false by show (Num.elB a && (Num.elB b && Num.elB c)) = false; rw [q0, q1, q2]; rfl)
          go_enter Tryz.func218, Tryz.ntmps218
          go_wp2_with fail
          refine (element_calls _ _).mono ?_
          rintro e w' ⟨rfl, rfl⟩
          rw [q0]
          go_wp2_with fail
          refine (element_calls _ _).mono ?_
          rintro e w' ⟨rfl, rfl⟩
          rw [q1]
          go_wp2_with fail
          refine (element_calls _ _).mono ?_
          rintro e w' ⟨rfl, rfl⟩
          rw [q2]
          go_wp2_with fail
          go_ret
          exact ⟨ret_bool H.out.symm, by go_grown⟩
        ·
          have H := hideG (show Frm.okI 3 (i, a, b, c) = true by show (Num.elB a && (Num.elB b && Num.elB c)) = true; rw [q0, q1, q2]; rfl)
          go_enter Tryz.func218, Tryz.ntmps218
          go_wp2_with fail
          refine (element_calls _ _).mono ?_
          rintro e w' ⟨rfl, rfl⟩
          rw [q0]
          go_wp2_with fail
          refine (element_calls _ _).mono ?_
          rintro e w' ⟨rfl, rfl⟩
          rw [q1]
          go_wp2_with fail
          refine (element_calls _ _).mono ?_
          rintro e w' ⟨rfl, rfl⟩
          rw [q2]
          go_wp2_with fail
          go_ret
          exact ⟨ret_bool H.out.symm, by go_grown⟩
  by_cases k4 : k = 4
  · subst k4
    cases q0 : Num.elB a
    ·
      have H := hideG (show Frm.okI 4 (i, a, b, c) = false by show (Num.elB a && (Num.elB b && Num.elB c)) = false; rw [q0]; rfl)
      go_enter Tryz.func218, Tryz.ntmps218
      go_wp2_with fail
      refine (element_calls _ _).mono ?_
      rintro e w' ⟨rfl, rfl⟩
      rw [q0]
      go_wp2_with fail
      go_ret
      exact ⟨ret_bool H.out.symm, by go_grown⟩
    ·
      cases q1 : Num.elB b
      ·
        have H := hideG (show Frm.okI 4 (i, a, b, c) = false by show (Num.elB a && (Num.elB b && Num.elB c)) = false; rw [q0, q1]; rfl)
        go_enter Tryz.func218, Tryz.ntmps218
        go_wp2_with fail
        refine (element_calls _ _).mono ?_
        rintro e w' ⟨rfl, rfl⟩
        rw [q0]
        go_wp2_with fail
        refine (element_calls _ _).mono ?_
        rintro e w' ⟨rfl, rfl⟩
        rw [q1]
        go_wp2_with fail
        go_ret
        exact ⟨ret_bool H.out.symm, by go_grown⟩
      ·
        cases q2 : Num.elB c
        ·
          have H := hideG (show Frm.okI 4 (i, a, b, c) = false by show (Num.elB a && (Num.elB b && Num.elB c)) = false; rw [q0, q1, q2]; rfl)
          go_enter Tryz.func218, Tryz.ntmps218
          go_wp2_with fail
          refine (element_calls _ _).mono ?_
          rintro e w' ⟨rfl, rfl⟩
          rw [q0]
          go_wp2_with fail
          refine (element_calls _ _).mono ?_
          rintro e w' ⟨rfl, rfl⟩
          rw [q1]
          go_wp2_with fail
          refine (element_calls _ _).mono ?_
          rintro e w' ⟨rfl, rfl⟩
          rw [q2]
          go_wp2_with fail
          go_ret
          exact ⟨ret_bool H.out.symm, by go_grown⟩
        ·
          have H := hideG (show Frm.okI 4 (i, a, b, c) = true by show (Num.elB a && (Num.elB b && Num.elB c)) = true; rw [q0, q1, q2]; rfl)
          go_enter Tryz.func218, Tryz.ntmps218
          go_wp2_with fail
          refine (element_calls _ _).mono ?_
          rintro e w' ⟨rfl, rfl⟩
          rw [q0]
          go_wp2_with fail
          refine (element_calls _ _).mono ?_
          rintro e w' ⟨rfl, rfl⟩
          rw [q1]
          go_wp2_with fail
          refine (element_calls _ _).mono ?_
          rintro e w' ⟨rfl, rfl⟩
          rw [q2]
          go_wp2_with fail
          go_ret
          exact ⟨ret_bool H.out.symm, by go_grown⟩
  by_cases k5 : k = 5
  · subst k5
    cases q0 : Frm.wdB a
    ·
      have H := hideG (show Frm.okI 5 (i, a, b, c) = false by show (Frm.wdB a && (Frm.zB b && Frm.zB c)) = false; rw [q0]; rfl)
      go_enter Tryz.func218, Tryz.ntmps218
      go_wp2_with fail
      refine (word_calls _ _).mono ?_
      rintro e w' ⟨rfl, rfl⟩
      rw [q0]
      go_wp2_with fail
      go_ret
      exact ⟨ret_bool H.out.symm, by go_grown⟩
    ·
      by_cases z1 : b = 0
      · have q1 : Frm.zB b = true := decide_eq_true z1
        by_cases z2 : c = 0
        · have q2 : Frm.zB c = true := decide_eq_true z2
          have H := hideG (show Frm.okI 5 (i, a, b, c) = true by show (Frm.wdB a && (Frm.zB b && Frm.zB c)) = true; rw [q0, q1, q2]; rfl)
          clear q1
          clear q2
          go_enter Tryz.func218, Tryz.ntmps218
          go_wp2_with fail
          refine (word_calls _ _).mono ?_
          rintro e w' ⟨rfl, rfl⟩
          rw [q0]
          go_wp2_with fail
          go_ret
          exact ⟨ret_bool H.out.symm, by go_grown⟩
        · have q2 : Frm.zB c = false := decide_eq_false z2
          have y2 : (c == 0) = false := by simpa using z2
          have H := hideG (show Frm.okI 5 (i, a, b, c) = false by show (Frm.wdB a && (Frm.zB b && Frm.zB c)) = false; rw [q0, q1, q2]; rfl)
          clear q1
          clear q2
          go_enter Tryz.func218, Tryz.ntmps218
          go_wp2_with fail
          refine (word_calls _ _).mono ?_
          rintro e w' ⟨rfl, rfl⟩
          rw [q0]
          go_wp2_with fail
          go_ret
          exact ⟨ret_bool H.out.symm, by go_grown⟩
      · have q1 : Frm.zB b = false := decide_eq_false z1
        have y1 : (b == 0) = false := by simpa using z1
        have H := hideG (show Frm.okI 5 (i, a, b, c) = false by show (Frm.wdB a && (Frm.zB b && Frm.zB c)) = false; rw [q0, q1]; rfl)
        clear q1
        go_enter Tryz.func218, Tryz.ntmps218
        go_wp2_with fail
        refine (word_calls _ _).mono ?_
        rintro e w' ⟨rfl, rfl⟩
        rw [q0]
        go_wp2_with fail
        go_ret
        exact ⟨ret_bool H.out.symm, by go_grown⟩
  by_cases k6 : k = 6
  · subst k6
    by_cases z0 : a = 0
    · have q0 : Frm.zB a = true := decide_eq_true z0
      by_cases z1 : b = 0
      · have q1 : Frm.zB b = true := decide_eq_true z1
        by_cases z2 : c = 0
        · have q2 : Frm.zB c = true := decide_eq_true z2
          have H := hideG (show Frm.okI 6 (i, a, b, c) = true by show (Frm.zB a && (Frm.zB b && Frm.zB c)) = true; rw [q0, q1, q2]; rfl)
          clear q0
          clear q1
          clear q2
          go_enter Tryz.func218, Tryz.ntmps218
          go_wp2_with fail
          go_ret
          exact ⟨ret_bool H.out.symm, by go_grown⟩
        · have q2 : Frm.zB c = false := decide_eq_false z2
          have y2 : (c == 0) = false := by simpa using z2
          have H := hideG (show Frm.okI 6 (i, a, b, c) = false by show (Frm.zB a && (Frm.zB b && Frm.zB c)) = false; rw [q0, q1, q2]; rfl)
          clear q0
          clear q1
          clear q2
          go_enter Tryz.func218, Tryz.ntmps218
          go_wp2_with fail
          go_ret
          exact ⟨ret_bool H.out.symm, by go_grown⟩
      · have q1 : Frm.zB b = false := decide_eq_false z1
        have y1 : (b == 0) = false := by simpa using z1
        have H := hideG (show Frm.okI 6 (i, a, b, c) = false by show (Frm.zB a && (Frm.zB b && Frm.zB c)) = false; rw [q0, q1]; rfl)
        clear q0
        clear q1
        go_enter Tryz.func218, Tryz.ntmps218
        go_wp2_with fail
        go_ret
        exact ⟨ret_bool H.out.symm, by go_grown⟩
    · have q0 : Frm.zB a = false := decide_eq_false z0
      have y0 : (a == 0) = false := by simpa using z0
      have H := hideG (show Frm.okI 6 (i, a, b, c) = false by show (Frm.zB a && (Frm.zB b && Frm.zB c)) = false; rw [q0]; rfl)
      clear q0
      go_enter Tryz.func218, Tryz.ntmps218
      go_wp2_with fail
      go_ret
      exact ⟨ret_bool H.out.symm, by go_grown⟩
  by_cases k7 : k = 7
  · subst k7
    cases q0 : Frm.tB a
    ·
      have H := hideG (show Frm.okI 7 (i, a, b, c) = false by show (Frm.tB a && (Num.elB b && Frm.zB c)) = false; rw [q0]; rfl)
      go_enter Tryz.func218, Tryz.ntmps218
      go_wp2_with fail
      refine (isShareKind_calls _ _).mono ?_
      rintro e w' ⟨rfl, rfl⟩
      rw [q0]
      go_wp2_with fail
      go_ret
      exact ⟨ret_bool H.out.symm, by go_grown⟩
    ·
      cases q1 : Num.elB b
      ·
        have H := hideG (show Frm.okI 7 (i, a, b, c) = false by show (Frm.tB a && (Num.elB b && Frm.zB c)) = false; rw [q0, q1]; rfl)
        go_enter Tryz.func218, Tryz.ntmps218
        go_wp2_with fail
        refine (isShareKind_calls _ _).mono ?_
        rintro e w' ⟨rfl, rfl⟩
        rw [q0]
        go_wp2_with fail
        refine (element_calls _ _).mono ?_
        rintro e w' ⟨rfl, rfl⟩
        rw [q1]
        go_wp2_with fail
        go_ret
        exact ⟨ret_bool H.out.symm, by go_grown⟩
      ·
        by_cases z2 : c = 0
        · have q2 : Frm.zB c = true := decide_eq_true z2
          have H := hideG (show Frm.okI 7 (i, a, b, c) = true by show (Frm.tB a && (Num.elB b && Frm.zB c)) = true; rw [q0, q1, q2]; rfl)
          clear q2
          go_enter Tryz.func218, Tryz.ntmps218
          go_wp2_with fail
          refine (isShareKind_calls _ _).mono ?_
          rintro e w' ⟨rfl, rfl⟩
          rw [q0]
          go_wp2_with fail
          refine (element_calls _ _).mono ?_
          rintro e w' ⟨rfl, rfl⟩
          rw [q1]
          go_wp2_with fail
          go_ret
          exact ⟨ret_bool H.out.symm, by go_grown⟩
        · have q2 : Frm.zB c = false := decide_eq_false z2
          have y2 : (c == 0) = false := by simpa using z2
          have H := hideG (show Frm.okI 7 (i, a, b, c) = false by show (Frm.tB a && (Num.elB b && Frm.zB c)) = false; rw [q0, q1, q2]; rfl)
          clear q2
          go_enter Tryz.func218, Tryz.ntmps218
          go_wp2_with fail
          refine (isShareKind_calls _ _).mono ?_
          rintro e w' ⟨rfl, rfl⟩
          rw [q0]
          go_wp2_with fail
          refine (element_calls _ _).mono ?_
          rintro e w' ⟨rfl, rfl⟩
          rw [q1]
          go_wp2_with fail
          go_ret
          exact ⟨ret_bool H.out.symm, by go_grown⟩
  have H := hideG (show Frm.okI k (i, a, b, c) = false by unfold Frm.okI; rw [if_neg (by omega), if_neg (by omega), if_neg (by omega), if_neg (by omega), if_neg (by omega)])
  go_enter Tryz.func218, Tryz.ntmps218
  go_wp2_with fail
  go_ret
  exact ⟨ret_bool H.out.symm, by go_grown⟩

end Go.Proofs.YtgfkgekaodibhaaGreat
