/- Contracts of package frame: what is a frame. -/
import Derived.Test.YtchideljndagjabGreatPkIdAD
namespace Go.Proofs.YtchideljndagjabGreat
open Go.ChangeShapes Go.WideShapes Go.ChangeAt Go.RowKit
set_option linter.unusedVariables false
theorem fromFits_calls (k fr : Int) (v : Value) (w : World) :
    Calls Tryz.prog 136 #[.agg #[.int .i64 k, .int .i64 fr, v]] w fun e w' => e = .returned (.bool (Frm.fromB k fr)) ∧ Below w.heap.size w w' := by
  by_cases k1 : k = 1
  · subst k1
    have H := hideG (show Frm.fromB 1 fr = Num.clB fr from rfl)
    go_enter Tryz.func136, Tryz.ntmps136
    go_wp2_with fail
    refine (client_calls _ _).mono ?_
    rintro e w' ⟨rfl, rfl⟩
    go_wp2_with fail
    go_ret
    exact ⟨ret_bool H.out.symm, by go_grown⟩
  by_cases k3 : k = 3
  · subst k3
    have H := hideG (show Frm.fromB 3 fr = Num.clB fr from rfl)
    go_enter Tryz.func136, Tryz.ntmps136
    go_wp2_with fail
    refine (client_calls _ _).mono ?_
    rintro e w' ⟨rfl, rfl⟩
    go_wp2_with fail
    go_ret
    exact ⟨ret_bool H.out.symm, by go_grown⟩
  by_cases k5 : k = 5
  · subst k5
    have H := hideG (show Frm.fromB 5 fr = Num.clB fr from rfl)
    go_enter Tryz.func136, Tryz.ntmps136
    go_wp2_with fail
    refine (client_calls _ _).mono ?_
    rintro e w' ⟨rfl, rfl⟩
    go_wp2_with fail
    go_ret
    exact ⟨ret_bool H.out.symm, by go_grown⟩
  by_cases k7 : k = 7
  · subst k7
    have H := hideG (show Frm.fromB 7 fr = Num.clB fr from rfl)
    go_enter Tryz.func136, Tryz.ntmps136
    go_wp2_with fail
    refine (client_calls _ _).mono ?_
    rintro e w' ⟨rfl, rfl⟩
    go_wp2_with fail
    go_ret
    exact ⟨ret_bool H.out.symm, by go_grown⟩
  by_cases k2 : k = 2
  · subst k2
    by_cases hz : fr = 0
    · have H := hideG (show Frm.fromB 2 fr = true from decide_eq_true hz)
      subst hz
      go_enter Tryz.func136, Tryz.ntmps136
      go_wp2_with fail
      go_ret
      exact ⟨ret_bool H.out.symm, by go_grown⟩
    · have H := hideG (show Frm.fromB 2 fr = false from decide_eq_false hz)
      have hz' : (fr == 0) = false := by simpa using hz
      go_enter Tryz.func136, Tryz.ntmps136
      go_wp2_with fail
      go_ret
      exact ⟨ret_bool H.out.symm, by go_grown⟩
  by_cases k4 : k = 4
  · subst k4
    by_cases hz : fr = 0
    · have H := hideG (show Frm.fromB 4 fr = true from decide_eq_true hz)
      subst hz
      go_enter Tryz.func136, Tryz.ntmps136
      go_wp2_with fail
      go_ret
      exact ⟨ret_bool H.out.symm, by go_grown⟩
    · have H := hideG (show Frm.fromB 4 fr = false from decide_eq_false hz)
      have hz' : (fr == 0) = false := by simpa using hz
      go_enter Tryz.func136, Tryz.ntmps136
      go_wp2_with fail
      go_ret
      exact ⟨ret_bool H.out.symm, by go_grown⟩
  by_cases k6 : k = 6
  · subst k6
    by_cases hz : fr = 0
    · have H := hideG (show Frm.fromB 6 fr = true from decide_eq_true hz)
      subst hz
      go_enter Tryz.func136, Tryz.ntmps136
      go_wp2_with fail
      go_ret
      exact ⟨ret_bool H.out.symm, by go_grown⟩
    · have H := hideG (show Frm.fromB 6 fr = false from decide_eq_false hz)
      have hz' : (fr == 0) = false := by simpa using hz
      go_enter Tryz.func136, Tryz.ntmps136
      go_wp2_with fail
      go_ret
      exact ⟨ret_bool H.out.symm, by go_grown⟩
  have H := hideG (show Frm.fromB k fr = false by unfold Frm.fromB; rw [if_neg (by omega), if_neg (by omega)])
  go_enter Tryz.func136, Tryz.ntmps136
  go_wp2_with fail
  go_ret
  exact ⟨ret_bool H.out.symm, by go_grown⟩
set_option maxHeartbeats 1000000 in
set_option maxRecDepth 100000 in
theorem itemFits_calls (k i a b c : Int) (w : World) :
    Calls Tryz.prog 204 #[.int .i64 k, .agg #[.int .i64 i, .int .i64 a, .int .i64 b, .int .i64 c]] w fun e w' => e = .returned (.bool (Frm.okI k (i, a, b, c))) ∧ Below w.heap.size w w' := by
  by_cases k1 : k = 1
  · subst k1
    cases q0 : Frm.keyB a
    ·
      have H := hideG (show Frm.okI 1 (i, a, b, c) = false by show (Frm.keyB a && (Frm.keyB b && Frm.zB c)) = false; rw [q0]; rfl)
      go_enter Tryz.func204, Tryz.ntmps204
      go_wp2_with fail
      refine (key_calls _ _).mono ?_
      rintro e w' ⟨rfl, rfl⟩
      rw [q0]
      go_wp2_with fail
      go_ret
      exact ⟨ret_bool H.out.symm, by go_grown⟩
    ·
      cases q1 : Frm.keyB b
      ·
        have H := hideG (show Frm.okI 1 (i, a, b, c) = false by show (Frm.keyB a && (Frm.keyB b && Frm.zB c)) = false; rw [q0, q1]; rfl)
        go_enter Tryz.func204, Tryz.ntmps204
        go_wp2_with fail
        refine (key_calls _ _).mono ?_
        rintro e w' ⟨rfl, rfl⟩
        rw [q0]
        go_wp2_with fail
        refine (key_calls _ _).mono ?_
        rintro e w' ⟨rfl, rfl⟩
        rw [q1]
        go_wp2_with fail
        go_ret
        exact ⟨ret_bool H.out.symm, by go_grown⟩
      ·
        by_cases z2 : c = 0
        · have q2 : Frm.zB c = true := decide_eq_true z2
          have H := hideG (show Frm.okI 1 (i, a, b, c) = true by show (Frm.keyB a && (Frm.keyB b && Frm.zB c)) = true; rw [q0, q1, q2]; rfl)
          clear q2
          go_enter Tryz.func204, Tryz.ntmps204
          go_wp2_with fail
          refine (key_calls _ _).mono ?_
          rintro e w' ⟨rfl, rfl⟩
          rw [q0]
          go_wp2_with fail
          refine (key_calls _ _).mono ?_
          rintro e w' ⟨rfl, rfl⟩
          rw [q1]
          go_wp2_with fail
          go_ret
          exact ⟨ret_bool H.out.symm, by go_grown⟩
        · have q2 : Frm.zB c = false := decide_eq_false z2
          have y2 : (c == 0) = false := by simpa using z2
          have H := hideG (show Frm.okI 1 (i, a, b, c) = false by show (Frm.keyB a && (Frm.keyB b && Frm.zB c)) = false; rw [q0, q1, q2]; rfl)
          clear q2
          go_enter Tryz.func204, Tryz.ntmps204
          go_wp2_with fail
          refine (key_calls _ _).mono ?_
          rintro e w' ⟨rfl, rfl⟩
          rw [q0]
          go_wp2_with fail
          refine (key_calls _ _).mono ?_
          rintro e w' ⟨rfl, rfl⟩
          rw [q1]
          go_wp2_with fail
          go_ret
          exact ⟨ret_bool H.out.symm, by go_grown⟩
  by_cases k2 : k = 2
  · subst k2
    cases q0 : Frm.keyB a
    ·
      have H := hideG (show Frm.okI 2 (i, a, b, c) = false by show (Frm.keyB a && (Frm.keyB b && Frm.zB c)) = false; rw [q0]; rfl)
      go_enter Tryz.func204, Tryz.ntmps204
      go_wp2_with fail
      refine (key_calls _ _).mono ?_
      rintro e w' ⟨rfl, rfl⟩
      rw [q0]
      go_wp2_with fail
      go_ret
      exact ⟨ret_bool H.out.symm, by go_grown⟩
    ·
      cases q1 : Frm.keyB b
      ·
        have H := hideG (show Frm.okI 2 (i, a, b, c) = false by show (Frm.keyB a && (Frm.keyB b && Frm.zB c)) = false; rw [q0, q1]; rfl)
        go_enter Tryz.func204, Tryz.ntmps204
        go_wp2_with fail
        refine (key_calls _ _).mono ?_
        rintro e w' ⟨rfl, rfl⟩
        rw [q0]
        go_wp2_with fail
        refine (key_calls _ _).mono ?_
        rintro e w' ⟨rfl, rfl⟩
        rw [q1]
        go_wp2_with fail
        go_ret
        exact ⟨ret_bool H.out.symm, by go_grown⟩
      ·
        by_cases z2 : c = 0
        · have q2 : Frm.zB c = true := decide_eq_true z2
          have H := hideG (show Frm.okI 2 (i, a, b, c) = true by show (Frm.keyB a && (Frm.keyB b && Frm.zB c)) = true; rw [q0, q1, q2]; rfl)
          clear q2
          go_enter Tryz.func204, Tryz.ntmps204
          go_wp2_with fail
          refine (key_calls _ _).mono ?_
          rintro e w' ⟨rfl, rfl⟩
          rw [q0]
          go_wp2_with fail
          refine (key_calls _ _).mono ?_
          rintro e w' ⟨rfl, rfl⟩
          rw [q1]
          go_wp2_with fail
          go_ret
          exact ⟨ret_bool H.out.symm, by go_grown⟩
        · have q2 : Frm.zB c = false := decide_eq_false z2
          have y2 : (c == 0) = false := by simpa using z2
          have H := hideG (show Frm.okI 2 (i, a, b, c) = false by show (Frm.keyB a && (Frm.keyB b && Frm.zB c)) = false; rw [q0, q1, q2]; rfl)
          clear q2
          go_enter Tryz.func204, Tryz.ntmps204
          go_wp2_with fail
          refine (key_calls _ _).mono ?_
          rintro e w' ⟨rfl, rfl⟩
          rw [q0]
          go_wp2_with fail
          refine (key_calls _ _).mono ?_
          rintro e w' ⟨rfl, rfl⟩
          rw [q1]
          go_wp2_with fail
          go_ret
          exact ⟨ret_bool H.out.symm, by go_grown⟩
  by_cases k3 : k = 3
  · subst k3
    cases q0 : Num.elB a
    ·
      have H := hideG (show Frm.okI 3 (i, a, b, c) = false by show (Num.elB a && (Num.elB b && Num.elB c)) = false; rw [q0]; rfl)
      go_enter Tryz.func204, Tryz.ntmps204
      go_wp2_with fail
      refine (element_calls _ _).mono ?_
      rintro e w' ⟨rfl, rfl⟩
      rw [q0]
      go_wp2_with fail
      go_ret
      exact ⟨ret_bool H.out.symm, by go_grown⟩
    ·
      cases q1 : Num.elB b
      ·
        have H := hideG (show Frm.okI 3 (i, a, b, c) = false by show (Num.elB a && (Num.elB b && Num.elB c)) = false; rw [q0, q1]; rfl)
        go_enter Tryz.func204, Tryz.ntmps204
        go_wp2_with fail
        refine (element_calls _ _).mono ?_
        rintro e w' ⟨rfl, rfl⟩
        rw [q0]
        go_wp2_with fail
        refine (element_calls _ _).mono ?_
        rintro e w' ⟨rfl, rfl⟩
        rw [q1]
        go_wp2_with fail
        go_ret
        exact ⟨ret_bool H.out.symm, by go_grown⟩
      ·
        cases q2 : Num.elB c
        ·
          have H := hideG (show Frm.okI 3 (i, a, b, c) = false by show (Num.elB a && (Num.elB b && Num.elB c)) = false; rw [q0, q1, q2]; rfl)
          go_enter Tryz.func204, Tryz.ntmps204
          go_wp2_with fail
          refine (element_calls _ _).mono ?_
          rintro e w' ⟨rfl, rfl⟩
          rw [q0]
          go_wp2_with fail
          refine (element_calls _ _).mono ?_
          rintro e w' ⟨rfl, rfl⟩
          rw [q1]
          go_wp2_with fail
          refine (element_calls _ _).mono ?_
          rintro e w' ⟨rfl, rfl⟩
          rw [q2]
          go_wp2_with fail
          go_ret
          exact ⟨ret_bool H.out.symm, by go_grown⟩
        ·
          have H := hideG (show Frm.okI 3 (i, a, b, c) = true by show (Num.elB a && (Num.elB b && Num.elB c)) = true; rw [q0, q1, q2]; rfl)
          go_enter Tryz.func204, Tryz.ntmps204
          go_wp2_with fail
          refine (element_calls _ _).mono ?_
          rintro e w' ⟨rfl, rfl⟩
          rw [q0]
          go_wp2_with fail
          refine (element_calls _ _).mono ?_
          rintro e w' ⟨rfl, rfl⟩
          rw [q1]
          go_wp2_with fail
          refine (element_calls _ _).mono ?_
          rintro e w' ⟨rfl, rfl⟩
          rw [q2]
          go_wp2_with fail
          go_ret
          exact ⟨ret_bool H.out.symm, by go_grown⟩
  by_cases k4 : k = 4
  · subst k4
    cases q0 : Num.elB a
    ·
      have H := hideG (show Frm.okI 4 (i, a, b, c) = false by show (Num.elB a && (Num.elB b && Num.elB c)) = false; rw [q0]; rfl)
      go_enter Tryz.func204, Tryz.ntmps204
      go_wp2_with fail
      refine (element_calls _ _).mono ?_
      rintro e w' ⟨rfl, rfl⟩
      rw [q0]
      go_wp2_with fail
      go_ret
      exact ⟨ret_bool H.out.symm, by go_grown⟩
    ·
      cases q1 : Num.elB b
      ·
        have H := hideG (show Frm.okI 4 (i, a, b, c) = false by show (Num.elB a && (Num.elB b && Num.elB c)) = false; rw [q0, q1]; rfl)
        go_enter Tryz.func204, Tryz.ntmps204
        go_wp2_with fail
        refine (element_calls _ _).mono ?_
        rintro e w' ⟨rfl, rfl⟩
        rw [q0]
        go_wp2_with fail
        refine (element_calls _ _).mono ?_
        rintro e w' ⟨rfl, rfl⟩
        rw [q1]
        go_wp2_with fail
        go_ret
        exact ⟨ret_bool H.out.symm, by go_grown⟩
      ·
        cases q2 : Num.elB c
        ·
          have H := hideG (show Frm.okI 4 (i, a, b, c) = false by show (Num.elB a && (Num.elB b && Num.elB c)) = false; rw [q0, q1, q2]; rfl)
          go_enter Tryz.func204, Tryz.ntmps204
          go_wp2_with fail
          refine (element_calls _ _).mono ?_
          rintro e w' ⟨rfl, rfl⟩
          rw [q0]
          go_wp2_with fail
          refine (element_calls _ _).mono ?_
          rintro e w' ⟨rfl, rfl⟩
          rw [q1]
          go_wp2_with fail
          refine (element_calls _ _).mono ?_
          rintro e w' ⟨rfl, rfl⟩
          rw [q2]
          go_wp2_with fail
          go_ret
          exact ⟨ret_bool H.out.symm, by go_grown⟩
        ·
          have H := hideG (show Frm.okI 4 (i, a, b, c) = true by show (Num.elB a && (Num.elB b && Num.elB c)) = true; rw [q0, q1, q2]; rfl)
          go_enter Tryz.func204, Tryz.ntmps204
          go_wp2_with fail
          refine (element_calls _ _).mono ?_
          rintro e w' ⟨rfl, rfl⟩
          rw [q0]
          go_wp2_with fail
          refine (element_calls _ _).mono ?_
          rintro e w' ⟨rfl, rfl⟩
          rw [q1]
          go_wp2_with fail
          refine (element_calls _ _).mono ?_
          rintro e w' ⟨rfl, rfl⟩
          rw [q2]
          go_wp2_with fail
          go_ret
          exact ⟨ret_bool H.out.symm, by go_grown⟩
  by_cases k5 : k = 5
  · subst k5
    cases q0 : Frm.wdB a
    ·
      have H := hideG (show Frm.okI 5 (i, a, b, c) = false by show (Frm.wdB a && (Frm.zB b && Frm.zB c)) = false; rw [q0]; rfl)
      go_enter Tryz.func204, Tryz.ntmps204
      go_wp2_with fail
      refine (word_calls _ _).mono ?_
      rintro e w' ⟨rfl, rfl⟩
      rw [q0]
      go_wp2_with fail
      go_ret
      exact ⟨ret_bool H.out.symm, by go_grown⟩
    ·
      by_cases z1 : b = 0
      · have q1 : Frm.zB b = true := decide_eq_true z1
        by_cases z2 : c = 0
        · have q2 : Frm.zB c = true := decide_eq_true z2
          have H := hideG (show Frm.okI 5 (i, a, b, c) = true by show (Frm.wdB a && (Frm.zB b && Frm.zB c)) = true; rw [q0, q1, q2]; rfl)
          clear q1
          clear q2
          go_enter Tryz.func204, Tryz.ntmps204
          go_wp2_with fail
          refine (word_calls _ _).mono ?_
          rintro e w' ⟨rfl, rfl⟩
          rw [q0]
          go_wp2_with fail
          go_ret
          exact ⟨ret_bool H.out.symm, by go_grown⟩
        · have q2 : Frm.zB c = false := decide_eq_false z2
          have y2 : (c == 0) = false := by simpa using z2
          have H := hideG (show Frm.okI 5 (i, a, b, c) = false by show (Frm.wdB a && (Frm.zB b && Frm.zB c)) = false; rw [q0, q1, q2]; rfl)
          clear q1
          clear q2
          go_enter Tryz.func204, Tryz.ntmps204
          go_wp2_with fail
          refine (word_calls _ _).mono ?_
          rintro e w' ⟨rfl, rfl⟩
          rw [q0]
          go_wp2_with fail
          go_ret
          exact ⟨ret_bool H.out.symm, by go_grown⟩
      · have q1 : Frm.zB b = false := decide_eq_false z1
        have y1 : (b == 0) = false := by simpa using z1
        have H := hideG (show Frm.okI 5 (i, a, b, c) = false by show (Frm.wdB a && (Frm.zB b && Frm.zB c)) = false; rw [q0, q1]; rfl)
        clear q1
        go_enter Tryz.func204, Tryz.ntmps204
        go_wp2_with fail
        refine (word_calls _ _).mono ?_
        rintro e w' ⟨rfl, rfl⟩
        rw [q0]
        go_wp2_with fail
        go_ret
        exact ⟨ret_bool H.out.symm, by go_grown⟩
  by_cases k6 : k = 6
  · subst k6
    by_cases z0 : a = 0
    · have q0 : Frm.zB a = true := decide_eq_true z0
      by_cases z1 : b = 0
      · have q1 : Frm.zB b = true := decide_eq_true z1
        by_cases z2 : c = 0
        · have q2 : Frm.zB c = true := decide_eq_true z2
          have H := hideG (show Frm.okI 6 (i, a, b, c) = true by show (Frm.zB a && (Frm.zB b && Frm.zB c)) = true; rw [q0, q1, q2]; rfl)
          clear q0
          clear q1
          clear q2
          go_enter Tryz.func204, Tryz.ntmps204
          go_wp2_with fail
          go_ret
          exact ⟨ret_bool H.out.symm, by go_grown⟩
        · have q2 : Frm.zB c = false := decide_eq_false z2
          have y2 : (c == 0) = false := by simpa using z2
          have H := hideG (show Frm.okI 6 (i, a, b, c) = false by show (Frm.zB a && (Frm.zB b && Frm.zB c)) = false; rw [q0, q1, q2]; rfl)
          clear q0
          clear q1
          clear q2
          go_enter Tryz.func204, Tryz.ntmps204
          go_wp2_with fail
          go_ret
          exact ⟨ret_bool H.out.symm, by go_grown⟩
      · have q1 : Frm.zB b = false := decide_eq_false z1
        have y1 : (b == 0) = false := by simpa using z1
        have H := hideG (show Frm.okI 6 (i, a, b, c) = false by show (Frm.zB a && (Frm.zB b && Frm.zB c)) = false; rw [q0, q1]; rfl)
        clear q0
        clear q1
        go_enter Tryz.func204, Tryz.ntmps204
        go_wp2_with fail
        go_ret
        exact ⟨ret_bool H.out.symm, by go_grown⟩
    · have q0 : Frm.zB a = false := decide_eq_false z0
      have y0 : (a == 0) = false := by simpa using z0
      have H := hideG (show Frm.okI 6 (i, a, b, c) = false by show (Frm.zB a && (Frm.zB b && Frm.zB c)) = false; rw [q0]; rfl)
      clear q0
      go_enter Tryz.func204, Tryz.ntmps204
      go_wp2_with fail
      go_ret
      exact ⟨ret_bool H.out.symm, by go_grown⟩
  by_cases k7 : k = 7
  · subst k7
    cases q0 : Frm.tB a
    ·
      have H := hideG (show Frm.okI 7 (i, a, b, c) = false by show (Frm.tB a && (Num.elB b && Frm.zB c)) = false; rw [q0]; rfl)
      go_enter Tryz.func204, Tryz.ntmps204
      go_wp2_with fail
      refine (isShareKind_calls _ _).mono ?_
      rintro e w' ⟨rfl, rfl⟩
      rw [q0]
      go_wp2_with fail
      go_ret
      exact ⟨ret_bool H.out.symm, by go_grown⟩
    ·
      cases q1 : Num.elB b
      ·
        have H := hideG (show Frm.okI 7 (i, a, b, c) = false by show (Frm.tB a && (Num.elB b && Frm.zB c)) = false; rw [q0, q1]; rfl)
        go_enter Tryz.func204, Tryz.ntmps204
        go_wp2_with fail
        refine (isShareKind_calls _ _).mono ?_
        rintro e w' ⟨rfl, rfl⟩
        rw [q0]
        go_wp2_with fail
        refine (element_calls _ _).mono ?_
        rintro e w' ⟨rfl, rfl⟩
        rw [q1]
        go_wp2_with fail
        go_ret
        exact ⟨ret_bool H.out.symm, by go_grown⟩
      ·
        by_cases z2 : c = 0
        · have q2 : Frm.zB c = true := decide_eq_true z2
          have H := hideG (show Frm.okI 7 (i, a, b, c) = true by show (Frm.tB a && (Num.elB b && Frm.zB c)) = true; rw [q0, q1, q2]; rfl)
          clear q2
          go_enter Tryz.func204, Tryz.ntmps204
          go_wp2_with fail
          refine (isShareKind_calls _ _).mono ?_
          rintro e w' ⟨rfl, rfl⟩
          rw [q0]
          go_wp2_with fail
          refine (element_calls _ _).mono ?_
          rintro e w' ⟨rfl, rfl⟩
          rw [q1]
          go_wp2_with fail
          go_ret
          exact ⟨ret_bool H.out.symm, by go_grown⟩
        · have q2 : Frm.zB c = false := decide_eq_false z2
          have y2 : (c == 0) = false := by simpa using z2
          have H := hideG (show Frm.okI 7 (i, a, b, c) = false by show (Frm.tB a && (Num.elB b && Frm.zB c)) = false; rw [q0, q1, q2]; rfl)
          clear q2
          go_enter Tryz.func204, Tryz.ntmps204
          go_wp2_with fail
          refine (isShareKind_calls _ _).mono ?_
          rintro e w' ⟨rfl, rfl⟩
          rw [q0]
          go_wp2_with fail
          refine (element_calls _ _).mono ?_
          rintro e w' ⟨rfl, rfl⟩
          rw [q1]
          go_wp2_with fail
          go_ret
          exact ⟨ret_bool H.out.symm, by go_grown⟩
  have H := hideG (show Frm.okI k (i, a, b, c) = false by unfold Frm.okI; rw [if_neg (by omega), if_neg (by omega), if_neg (by omega), if_neg (by omega), if_neg (by omega)])
  go_enter Tryz.func204, Tryz.ntmps204
  go_wp2_with fail
  go_ret
  exact ⟨ret_bool H.out.symm, by go_grown⟩
end Go.Proofs.YtchideljndagjabGreat
namespace Go.Proofs.YtchideljndagjabGreat
open Go.ChangeShapes Go.WideShapes Go.ChangeAt Go.RowKit
set_option linter.unusedVariables false
set_option maxHeartbeats 1000000 in
set_option maxRecDepth 100000 in
theorem hasId_calls (v : Value) (l : List Frm.It) (u : Int) (w : World) (h : ItemsAt w v l) :
    Calls Tryz.prog 202 #[v, .int .i64 u] w fun e w' => e = .returned (.bool (!Frm.noneB l u)) ∧ Below w.heap.size w w' := by
  obtain ⟨a, cap, rfl, l2, l3, _, hc⟩ := items_view h
  have HC := hideG hc
  clear hc h
  have HN := hideG (show Frm.noneB l u = Frm.allB l.length fun i => decide ((Frm.it l i).1 ≠ u) from rfl)
  generalize hn : l.length = n at *
  clear hn
  go_enter Tryz.func202, Tryz.ntmps202
  go_wp2_with fail
  go_loopw [9] (fun i wr => ∃ k : Nat, k ≤ n ∧ i = .int .i64 k ∧ (∀ j, j < k → decide ((Frm.it l j).1 ≠ u) = true) ∧ Below w.heap.size w wr) (fun i _ => n - (intOf i).toNat)
  case atStart => exact ⟨0, Nat.zero_le _, rfl, fun j hj => absurd hj (by omega), Below.refl _ _⟩
  case round =>
    obtain ⟨k, hk, rfl, hall, hbel⟩ := hrel
    have HA := hideG hall
    have HB := hideG hbel
    have hsz := hbel.size
    by_cases hlt : k < n
    · obtain ⟨b, off, rfl, hb, hit⟩ := HC.out k hlt
      have hit := hit.below hb hbel
      obtain ⟨c0, c1, c2, c3⟩ := hit
      obtain ⟨x, hx⟩ : ∃ x, x = (Frm.it l k).1 := ⟨_, rfl⟩
      rw [← hx] at c0
      generalize (Frm.it l k).2.1 = y1 at *
      generalize (Frm.it l k).2.2.1 = y2 at *
      generalize (Frm.it l k).2.2.2 = y3 at *
      have HX := hideG hx
      clear hx hall hbel
      by_cases q : x = u
      · have H := hideG (show Frm.noneB l u = false by rw [HN.out]; exact Frm.allB_no k hlt (decide_eq_false (by rw [← HX.out]; simpa using q)))
        subst q
        go_wp2_with fail
        go_ret
        exact ⟨ret_bool (by rw [H.out]; rfl), HB.out.alloc (by omega) _⟩
      · have q' : (x == u) = false := by simpa using q
        go_wp2_with fail
        go_roundw
        case rel =>
          refine ⟨k + 1, by omega, by go_num, fun j hj => ?_, HB.out.alloc (by omega) _⟩
          by_cases e : j = k
          · subst e; exact decide_eq_true (by rw [← HX.out]; exact q)
          · exact HA.out j (by omega)
        case measure => simp [intOf]; omega
    · have ek : k = n := by omega
      subst ek
      clear hall hbel
      go_wp2_with fail
      go_ret
      exact ⟨ret_bool (by rw [HN.out, Frm.allB_yes HA.out]; rfl), HB.out⟩
set_option maxHeartbeats 1000000 in
set_option maxRecDepth 100000 in
theorem areCounted_calls (v : Value) (l : List Frm.It) (w : World) (h : ItemsAt w v l) :
    Calls Tryz.prog 203 #[v] w fun e w' => e = .returned (.bool (Frm.countB l)) ∧ Below w.heap.size w w' := by
  obtain ⟨a, cap, rfl, l2, l3, _, hc⟩ := items_view h
  have HC := hideG hc
  clear hc h
  have HN := hideG (show Frm.countB l = Frm.allB l.length fun i => decide ((Frm.it l i).1 = (i : Int) + 1) from rfl)
  generalize hn : l.length = n at *
  clear hn
  go_enter Tryz.func203, Tryz.ntmps203
  go_wp2_with fail
  go_loopw [7] (fun i wr => ∃ k : Nat, k ≤ n ∧ i = .int .i64 k ∧ (∀ j, j < k → decide ((Frm.it l j).1 = (j : Int) + 1) = true) ∧ Below w.heap.size w wr) (fun i _ => n - (intOf i).toNat)
  case atStart => exact ⟨0, Nat.zero_le _, rfl, fun j hj => absurd hj (by omega), Below.refl _ _⟩
  case round =>
    obtain ⟨k, hk, rfl, hall, hbel⟩ := hrel
    have HA := hideG hall
    have HB := hideG hbel
    have hsz := hbel.size
    by_cases hlt : k < n
    · obtain ⟨b, off, rfl, hb, hit⟩ := HC.out k hlt
      have hit := hit.below hb hbel
      obtain ⟨c0, c1, c2, c3⟩ := hit
      obtain ⟨x, hx⟩ : ∃ x, x = (Frm.it l k).1 := ⟨_, rfl⟩
      rw [← hx] at c0
      generalize (Frm.it l k).2.1 = y1 at *
      generalize (Frm.it l k).2.2.1 = y2 at *
      generalize (Frm.it l k).2.2.2 = y3 at *
      have HX := hideG hx
      clear hx hall hbel
      by_cases q : x = (k : Int) + 1
      · have HQ := hideG q
        subst q
        go_wp2_with fail
        go_roundw
        case rel =>
          refine ⟨k + 1, by omega, by go_num, fun j hj => ?_, HB.out.alloc (by omega) _⟩
          by_cases e : j = k
          · subst e; exact decide_eq_true HX.out.symm
          · exact HA.out j (by omega)
        case measure => simp [intOf]; omega
      · have H := hideG (show Frm.countB l = false by rw [HN.out]; exact Frm.allB_no k hlt (decide_eq_false (by rw [← HX.out]; exact q)))
        have q' : (x != (k : Int) + 1) = true := by simpa using q
        go_wp2_with fail
        go_ret
        exact ⟨ret_bool H.out.symm, HB.out.alloc (by omega) _⟩
    · have ek : k = n := by omega
      subst ek
      clear hall hbel
      go_wp2_with fail
      go_ret
      exact ⟨ret_bool (by rw [HN.out, Frm.allB_yes HA.out]), HB.out⟩
def befN (l : List Frm.It) (k : Nat) : Int := if k = 0 then 0 else (Frm.it l (k - 1)).1
set_option maxHeartbeats 1000000 in
set_option maxRecDepth 100000 in
theorem idsRise_calls (v : Value) (l : List Frm.It) (w : World) (h : ItemsAt w v l) :
    Calls Tryz.prog 137 #[v] w fun e w' => e = .returned (.bool (Frm.riseB l)) ∧ Below w.heap.size w w' := by
  obtain ⟨a, cap, rfl, l2, l3, _, hc⟩ := items_view h
  have HC := hideG hc
  clear hc h
  have HN := hideG (show Frm.riseB l = Frm.allB l.length (Frm.riseAt l) from rfl)
  generalize hn : l.length = n at *
  clear hn
  go_enter Tryz.func137, Tryz.ntmps137
  go_wp2_with fail
  go_loopw [3, 8] (fun f i wr => ∃ k : Nat, k ≤ n ∧ i = .int .i64 k ∧ f = .int .i64 (befN l k) ∧ (∀ j, j < k → Frm.riseAt l j = true) ∧ Below w.heap.size w wr) (fun _ i _ => n - (intOf i).toNat)
  case atStart => exact ⟨0, Nat.zero_le _, rfl, rfl, fun j hj => absurd hj (by omega), Below.refl _ _⟩
  case round =>
    obtain ⟨k, hk, rfl, rfl, hall, hbel⟩ := hrel
    have HA := hideG hall
    have HB := hideG hbel
    have hsz := hbel.size
    by_cases hlt : k < n
    · obtain ⟨b, off, rfl, hb, hit⟩ := HC.out k hlt
      have hit := hit.below hb hbel
      obtain ⟨c0, c1, c2, c3⟩ := hit
      obtain ⟨x, hx⟩ : ∃ x, x = (Frm.it l k).1 := ⟨_, rfl⟩
      rw [← hx] at c0
      generalize (Frm.it l k).2.1 = y1 at *
      generalize (Frm.it l k).2.2.1 = y2 at *
      generalize (Frm.it l k).2.2.2 = y3 at *
      have HX := hideG hx
      clear hx hall hbel
      have HBF := hideG (show Frm.riseAt l k = (Num.clB x && (decide (k = 0) || decide (befN l k < x))) by
        unfold Frm.riseAt befN
        rw [← HX.out]
        by_cases hk0 : k = 0
        · simp [hk0]
        · simp [hk0])
      have HB0 := hideG (show k = 0 → befN l k = 0 from fun e => by rw [e]; rfl)
      have HNX := hideG (show befN l (k + 1) = x by unfold befN; rw [if_neg (by omega), Nat.add_sub_cancel]; exact HX.out.symm)
      generalize befN l k = f at *
      cases q : Num.clB x
      · have H := hideG (show Frm.riseB l = false by rw [HN.out]; exact Frm.allB_no k hlt (by rw [HBF.out, q]; rfl))
        by_cases hle : x ≤ f
        · go_wp2_with fail
          go_ret
          exact ⟨ret_bool H.out.symm, HB.out.alloc (by omega) _⟩
        · go_wp2_with fail
          refine (client_calls _ _).mono ?_
          rintro e w' ⟨rfl, rfl⟩
          rw [q]
          go_wp2_with fail
          go_ret
          exact ⟨ret_bool H.out.symm, HB.out.alloc (by omega) _⟩
      · have hcl := Num.clB_iff.1 q
        by_cases hle : x ≤ f
        · have H := hideG (show Frm.riseB l = false by
            rw [HN.out]
            refine Frm.allB_no k hlt ?_
            rw [HBF.out, q, decide_eq_false (show ¬ k = 0 from fun e => by have := HB0.out e; omega), decide_eq_false (show ¬ f < x by omega)]; rfl)
          go_wp2_with fail
          go_ret
          exact ⟨ret_bool H.out.symm, HB.out.alloc (by omega) _⟩
        · have HT := hideG (show Frm.riseAt l k = true by rw [HBF.out, q, decide_eq_true (show f < x by omega)]; simp)
          go_wp2_with fail
          refine (client_calls _ _).mono ?_
          rintro e w' ⟨rfl, rfl⟩
          rw [q]
          go_wp2_with fail
          go_roundw
          case rel =>
            refine ⟨k + 1, by omega, by go_num, by rw [HNX.out], fun j hj => ?_, HB.out.alloc (by omega) _⟩
            by_cases e : j = k
            · subst e; exact HT.out
            · exact HA.out j (by omega)
          case measure => simp [intOf]; omega
    · have ek : k = n := by omega
      subst ek
      clear hall hbel
      go_wp2_with fail
      go_ret
      exact ⟨ret_bool (by rw [HN.out, Frm.allB_yes HA.out]), HB.out⟩
set_option maxHeartbeats 1000000 in
set_option maxRecDepth 100000 in
theorem numbersFit_calls (k0 fr : Int) (v : Value) (l : List Frm.It) (w : World) (h : ItemsAt w v l) :
    Calls Tryz.prog 139 #[.agg #[.int .i64 k0, .int .i64 fr, v]] w fun e w' => e = .returned (.bool (Frm.numsB k0 l)) ∧ Below w.heap.size w w' := by
  obtain ⟨a, cap, rfl, l2, l3, _, hc⟩ := items_view h
  have HC := hideG hc
  clear hc h
  have HN := hideG (show Frm.numsB k0 l = Frm.allB l.length fun i => Frm.okI k0 (Frm.it l i) from rfl)
  generalize hn : l.length = n at *
  clear hn
  obtain ⟨bx, hbx⟩ : ∃ bx, bx = w.alloc (.cells #[.int .i64 k0, .int .i64 fr, .slice a n cap] 65) := ⟨_, rfl⟩
  have sbx : bx.heap.size = w.heap.size + 1 := by rw [hbx]; simp
  have cbx : bx.cell? ⟨w.heap.size, 0, none⟩ = some (.int .i64 k0) := by rw [hbx]; simp [go_sem]
  have BX := hideG (show Below w.heap.size w bx by rw [hbx]; exact (Below.refl _ _).alloc (Nat.le_refl _) _)
  go_enter Tryz.func139, Tryz.ntmps139
  go_wp2_with fail
  rw [← hbx]
  clear hbx
  go_loopw [8] (fun i wr => ∃ k : Nat, k ≤ n ∧ i = .int .i64 k ∧ (∀ j, j < k → Frm.okI k0 (Frm.it l j) = true) ∧ Below (w.heap.size + 1) bx wr) (fun i _ => n - (intOf i).toNat)
  case atStart => exact ⟨0, Nat.zero_le _, rfl, fun j hj => absurd hj (by omega), Below.refl _ _⟩
  case round =>
    obtain ⟨k, hk, rfl, hall, hbel⟩ := hrel
    have HA := hideG hall
    have HB := hideG hbel
    have hsz := hbel.size
    have d0 := hbel.cell (p := ⟨w.heap.size, 0, none⟩) (by simp)
    rw [cbx] at d0
    by_cases hlt : k < n
    · obtain ⟨b, off, rfl, hb, hit⟩ := HC.out k hlt
      have hit := hit.below hb (BX.out.trans (hbel.mono (by omega)))
      obtain ⟨c0, c1, c2, c3⟩ := hit
      have HX := hideG (show Frm.okI k0 (Frm.it l k) = Frm.okI k0 ((Frm.it l k).1, (Frm.it l k).2.1, (Frm.it l k).2.2.1, (Frm.it l k).2.2.2) from rfl)
      have HK := hideG (show Frm.okI k0 ((Frm.it l k).1, (Frm.it l k).2.1, (Frm.it l k).2.2.1, (Frm.it l k).2.2.2) = false → Frm.numsB k0 l = false from fun e => by rw [HN.out]; exact Frm.allB_no k hlt e)
      have al : ∀ (ob : Obj) (b o : Nat), b < wr.heap.size → (wr.alloc ob).cell? ⟨b, o, none⟩ = wr.cell? ⟨b, o, none⟩ := fun ob b o hb => ((Below.refl wr.heap.size wr).alloc (Nat.le_refl _) ob).cell (p := ⟨b, o, none⟩) hb
      have A0 : ∀ ob, (wr.alloc ob).cell? ⟨w.heap.size, 0, none⟩ = some (.int .i64 k0) := fun ob => by rw [al _ _ _ (by omega)]; exact d0
      clear hall hbel al
      obtain ⟨x, hx⟩ : ∃ x, x = (Frm.it l k).1 := ⟨_, rfl⟩
      obtain ⟨y1, hy1⟩ : ∃ x, x = (Frm.it l k).2.1 := ⟨_, rfl⟩
      obtain ⟨y2, hy2⟩ : ∃ x, x = (Frm.it l k).2.2.1 := ⟨_, rfl⟩
      obtain ⟨y3, hy3⟩ : ∃ x, x = (Frm.it l k).2.2.2 := ⟨_, rfl⟩
      rw [← hx] at c0 HX HK
      rw [← hy1] at c1 HX HK
      rw [← hy2] at c2 HX HK
      rw [← hy3] at c3 HX HK
      clear hx hy1 hy2 hy3
      cases q : Frm.okI k0 (x, y1, y2, y3)
      · have H := hideG (HK.out q)
        go_wp2_with fail
        refine (itemFits_calls _ _ _ _ _ _).mono ?_
        rintro e w1 ⟨rfl, hb1⟩
        rw [q]
        have B1 := hideG hb1
        clear hb1
        go_wp2_with fail
        go_ret
        exact ⟨ret_bool H.out.symm, (BX.out.trans (HB.out.mono (by omega))).trans (((Below.refl _ _).alloc (by omega) _).trans (B1.out.mono (by simp; omega)))⟩
      · go_wp2_with fail
        refine (itemFits_calls _ _ _ _ _ _).mono ?_
        rintro e w1 ⟨rfl, hb1⟩
        rw [q]
        have B1 := hideG hb1
        clear hb1
        go_wp2_with fail
        go_roundw
        case rel =>
          refine ⟨k + 1, by omega, by go_num, fun j hj => ?_, HB.out.trans (((Below.refl _ _).alloc (by omega) _).trans (B1.out.mono (by simp; omega)))⟩
          by_cases e : j = k
          · subst e; rw [HX.out]; exact q
          · exact HA.out j (by omega)
        case measure => simp [intOf]; omega
    · have ek : k = n := by omega
      subst ek
      clear hall hbel
      go_wp2_with fail
      go_ret
      exact ⟨ret_bool (by rw [HN.out, Frm.allB_yes HA.out]), BX.out.trans (HB.out.mono (by omega))⟩
end Go.Proofs.YtchideljndagjabGreat
namespace Go.Proofs.YtchideljndagjabGreat
open Go.ChangeShapes Go.WideShapes Go.ChangeAt Go.RowKit
set_option linter.unusedVariables false
set_option maxHeartbeats 1000000 in
set_option maxRecDepth 100000 in
theorem idsFit_calls (k fr : Int) (v : Value) (l : List Frm.It) (w : World) (h : ItemsAt w v l) :
    Calls Tryz.prog 138 #[.agg #[.int .i64 k, .int .i64 fr, v]] w fun e w' => e = .returned (.bool (Frm.idsB k fr l)) ∧ Below w.heap.size w w' := by
  have HM := hideG (fun (w1 : World) (hb : Below w.heap.size w w1) => h.below hb)
  obtain ⟨a, cap, rfl, l2, l3, _, _⟩ := items_view h
  clear h
  obtain ⟨n, hn⟩ : ∃ n, n = l.length := ⟨_, rfl⟩
  rw [← hn] at l2 HM ⊢
  have HN := hideG hn
  clear hn
  by_cases k1 : k = 1
  · subst k1
    by_cases hn1 : n = 1
    · have H := hideG (show Frm.idsB 1 fr l = !Frm.noneB l fr by show (decide (l.length = 1) && !Frm.noneB l fr) = _; rw [decide_eq_true (by rw [← HN.out]; exact hn1)]; rfl)
      subst hn1
      go_enter Tryz.func138, Tryz.ntmps138
      go_wp2_with fail
      refine (hasId_calls _ l _ _ (HM.out _ (by go_grown))).mono ?_
      rintro e w1 ⟨rfl, hb1⟩
      have B1 := hideG hb1
      clear hb1
      go_wp2_with fail
      go_ret
      exact ⟨ret_bool H.out.symm, ((Below.refl _ _).alloc (Nat.le_refl _) _).trans (B1.out.mono (by simp))⟩
    · have H := hideG (show Frm.idsB 1 fr l = false by show (decide (l.length = 1) && !Frm.noneB l fr) = _; rw [decide_eq_false (by rw [← HN.out]; exact hn1)]; rfl)
      have hn2 : ((n : Int) == 1) = false := by simp; omega
      go_enter Tryz.func138, Tryz.ntmps138
      go_wp2_with fail
      go_ret
      exact ⟨ret_bool H.out.symm, by go_grown⟩
  by_cases k2 : k = 2
  · subst k2
    by_cases hn1 : 1 ≤ n
    · have H := hideG (show Frm.idsB 2 fr l = true from decide_eq_true (by rw [← HN.out]; exact hn1))
      have hn2 : (1 : Int) ≤ (n : Int) := by omega
      go_enter Tryz.func138, Tryz.ntmps138
      go_wp2_with fail
      go_ret
      exact ⟨ret_bool H.out.symm, by go_grown⟩
    · have H := hideG (show Frm.idsB 2 fr l = false from decide_eq_false (by rw [← HN.out]; exact hn1))
      have hn2 : ¬ (1 : Int) ≤ (n : Int) := by omega
      go_enter Tryz.func138, Tryz.ntmps138
      go_wp2_with fail
      go_ret
      exact ⟨ret_bool H.out.symm, by go_grown⟩
  by_cases k6 : k = 6
  · subst k6
    by_cases hn1 : 1 ≤ n
    · have H := hideG (show Frm.idsB 6 fr l = true from decide_eq_true (by rw [← HN.out]; exact hn1))
      have hn2 : (1 : Int) ≤ (n : Int) := by omega
      go_enter Tryz.func138, Tryz.ntmps138
      go_wp2_with fail
      go_ret
      exact ⟨ret_bool H.out.symm, by go_grown⟩
    · have H := hideG (show Frm.idsB 6 fr l = false from decide_eq_false (by rw [← HN.out]; exact hn1))
      have hn2 : ¬ (1 : Int) ≤ (n : Int) := by omega
      go_enter Tryz.func138, Tryz.ntmps138
      go_wp2_with fail
      go_ret
      exact ⟨ret_bool H.out.symm, by go_grown⟩
  by_cases k7 : k = 7
  · subst k7
    by_cases hn1 : 1 ≤ n
    · have H := hideG (show Frm.idsB 7 fr l = true from decide_eq_true (by rw [← HN.out]; exact hn1))
      have hn2 : (1 : Int) ≤ (n : Int) := by omega
      go_enter Tryz.func138, Tryz.ntmps138
      go_wp2_with fail
      go_ret
      exact ⟨ret_bool H.out.symm, by go_grown⟩
    · have H := hideG (show Frm.idsB 7 fr l = false from decide_eq_false (by rw [← HN.out]; exact hn1))
      have hn2 : ¬ (1 : Int) ≤ (n : Int) := by omega
      go_enter Tryz.func138, Tryz.ntmps138
      go_wp2_with fail
      go_ret
      exact ⟨ret_bool H.out.symm, by go_grown⟩
  by_cases k3 : k = 3
  · subst k3
    have H := hideG (show Frm.idsB 3 fr l = Frm.noneB l fr from rfl)
    go_enter Tryz.func138, Tryz.ntmps138
    go_wp2_with fail
    refine (hasId_calls _ l _ _ (HM.out _ (by go_grown))).mono ?_
    rintro e w1 ⟨rfl, hb1⟩
    have B1 := hideG hb1
    clear hb1
    go_wp2_with fail
    go_ret
    exact ⟨ret_bool (by rw [H.out]), ((Below.refl _ _).alloc (Nat.le_refl _) _).trans (B1.out.mono (by simp))⟩
  by_cases k4 : k = 4
  · subst k4
    have H := hideG (show Frm.idsB 4 fr l = true from rfl)
    go_enter Tryz.func138, Tryz.ntmps138
    go_wp2_with fail
    go_ret
    exact ⟨ret_bool H.out.symm, by go_grown⟩
  by_cases k5 : k = 5
  · subst k5
    by_cases hn1 : 1 ≤ n
    · have H := hideG (show Frm.idsB 5 fr l = Frm.countB l by show (decide (1 ≤ l.length) && Frm.countB l) = _; rw [decide_eq_true (by rw [← HN.out]; exact hn1)]; rfl)
      have hn2 : (1 : Int) ≤ (n : Int) := by omega
      go_enter Tryz.func138, Tryz.ntmps138
      go_wp2_with fail
      refine (areCounted_calls _ l _ (HM.out _ (by go_grown))).mono ?_
      rintro e w1 ⟨rfl, hb1⟩
      have B1 := hideG hb1
      clear hb1
      go_wp2_with fail
      go_ret
      exact ⟨ret_bool H.out.symm, ((Below.refl _ _).alloc (Nat.le_refl _) _).trans (B1.out.mono (by simp))⟩
    · have H := hideG (show Frm.idsB 5 fr l = false by show (decide (1 ≤ l.length) && Frm.countB l) = _; rw [decide_eq_false (by rw [← HN.out]; exact hn1)]; rfl)
      have hn2 : ¬ (1 : Int) ≤ (n : Int) := by omega
      go_enter Tryz.func138, Tryz.ntmps138
      go_wp2_with fail
      go_ret
      exact ⟨ret_bool H.out.symm, by go_grown⟩
  have H := hideG (show Frm.idsB k fr l = false by unfold Frm.idsB; rw [if_neg (by omega), if_neg (by omega), if_neg (by omega), if_neg (by omega), if_neg (by omega)])
  go_enter Tryz.func138, Tryz.ntmps138
  go_wp2_with fail
  go_ret
  exact ⟨ret_bool H.out.symm, by go_grown⟩
set_option maxHeartbeats 1000000 in
set_option maxRecDepth 100000 in
theorem isFrame_calls (k fr : Int) (v : Value) (l : List Frm.It) (w : World) (h : ItemsAt w v l) :
    Calls Tryz.prog 74 #[.agg #[.int .i64 k, .int .i64 fr, v]] w fun e w' => e = .returned (.bool (Frm.okF k fr l)) ∧ Below w.heap.size w w' := by
  have HM := hideG (fun (w1 : World) (hb : Below w.heap.size w w1) => h.below hb)
  have HO := hideG (show Frm.okF k fr l = (decide (l.length ≤ 12) && (Frm.fromB k fr && (Frm.riseB l && (Frm.idsB k fr l && Frm.numsB k l)))) from rfl)
  obtain ⟨a, cap, rfl, l2, l3, _, _⟩ := items_view h
  clear h
  obtain ⟨n, hn⟩ : ∃ n, n = l.length := ⟨_, rfl⟩
  rw [← hn] at l2 HM HO ⊢
  clear hn
  by_cases t : 12 < (n : Int)
  · have H := hideG (show Frm.okF k fr l = false by rw [HO.out, decide_eq_false (by omega)]; rfl)
    go_enter Tryz.func74, Tryz.ntmps74
    go_wp2_with fail
    go_ret
    exact ⟨ret_bool H.out.symm, by go_grown⟩
  have HL := hideG (show Frm.okF k fr l = (Frm.fromB k fr && (Frm.riseB l && (Frm.idsB k fr l && Frm.numsB k l))) by rw [HO.out, decide_eq_true (by omega)]; rfl)
  clear HO
  obtain ⟨bx, hbx⟩ : ∃ bx, bx = w.alloc (.cells #[.int .i64 k, .int .i64 fr, .slice a n cap] 65) := ⟨_, rfl⟩
  have sbx : bx.heap.size = w.heap.size + 1 := by rw [hbx]; simp
  have CB := hideG (show ∀ w1, Below bx.heap.size bx w1 → w1.cell? ⟨w.heap.size, 0, none⟩ = some (.int .i64 k) ∧ w1.cell? ⟨w.heap.size, 1, none⟩ = some (.int .i64 fr) ∧ w1.cell? ⟨w.heap.size, 2, none⟩ = some (.slice a n cap) from fun w1 hb => by
    have hlt : w.heap.size < bx.heap.size := by omega
    rw [hb.cell (p := ⟨w.heap.size, 0, none⟩) hlt, hb.cell (p := ⟨w.heap.size, 1, none⟩) hlt, hb.cell (p := ⟨w.heap.size, 2, none⟩) hlt, hbx]
    refine ⟨?_, ?_, ?_⟩ <;> simp [go_sem])
  have BX := hideG (show Below w.heap.size w bx by rw [hbx]; exact (Below.refl _ _).alloc (Nat.le_refl _) _)
  obtain ⟨e0, e1, e2⟩ := CB.out bx (Below.refl _ _)
  go_enter Tryz.func74, Tryz.ntmps74
  go_wp2_with fail
  rw [← hbx]
  clear hbx
  refine (fromFits_calls _ _ _ _).mono ?_
  rintro e w1 ⟨rfl, hb1⟩
  have B1 := hideG hb1
  obtain ⟨f0, f1, f2⟩ := CB.out w1 hb1
  clear hb1 e0 e1 e2
  cases q1 : Frm.fromB k fr
  · rw [q1] at HL
    go_wp2_with fail
    go_ret
    exact ⟨ret_bool (by rw [HL.out]; rfl), BX.out.trans (B1.out.mono (by omega))⟩
  rw [q1] at HL
  go_wp2_with fail
  refine (idsRise_calls _ l _ (HM.out _ (BX.out.trans (B1.out.mono (by omega))))).mono ?_
  rintro e w2 ⟨rfl, hb2⟩
  have B2 := hideG (B1.out.trans (hb2.mono B1.out.size))
  clear hb2 f0 f1 f2
  obtain ⟨f0, f1, f2⟩ := CB.out w2 B2.out
  cases q2 : Frm.riseB l
  · rw [q2] at HL
    go_wp2_with fail
    go_ret
    exact ⟨ret_bool (by rw [HL.out]; rfl), BX.out.trans (B2.out.mono (by omega))⟩
  rw [q2] at HL
  go_wp2_with fail
  refine (idsFit_calls _ _ _ l _ (HM.out _ (BX.out.trans (B2.out.mono (by omega))))).mono ?_
  rintro e w3 ⟨rfl, hb3⟩
  have B3 := hideG (B2.out.trans (hb3.mono B2.out.size))
  clear hb3 f0 f1 f2
  obtain ⟨f0, f1, f2⟩ := CB.out w3 B3.out
  cases q3 : Frm.idsB k fr l
  · rw [q3] at HL
    go_wp2_with fail
    go_ret
    exact ⟨ret_bool (by rw [HL.out]; rfl), BX.out.trans (B3.out.mono (by omega))⟩
  rw [q3] at HL
  go_wp2_with fail
  refine (numbersFit_calls _ _ _ l _ (HM.out _ (BX.out.trans (B3.out.mono (by omega))))).mono ?_
  rintro e w4 ⟨rfl, hb4⟩
  have B4 := hideG (B3.out.trans (hb4.mono B3.out.size))
  clear hb4 f0 f1 f2
  go_wp2_with fail
  go_ret
  exact ⟨ret_bool (by rw [HL.out]; rfl), BX.out.trans (B4.out.mono (by omega))⟩
end Go.Proofs.YtchideljndagjabGreat
