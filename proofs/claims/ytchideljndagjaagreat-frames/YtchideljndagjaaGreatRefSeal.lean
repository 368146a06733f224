/- Contracts of the pads, of Seal and of Open of package veilref. -/
import Derived.Test.YtchideljndagjaaGreatRef
import Derived.Test.YtchideljndagjaaGreatMemAll
namespace Go.Proofs.YtchideljndagjaaGreat
open Go.ChangeShapes Go.WideShapes Go.ChangeAt Go.RowKit
set_option linter.unusedVariables false

theorem rpad_calls (k q : Int) (w : World) (hk : 0 ≤ k) (hk' : k < 2305843009213693951) (hq : 0 ≤ q) (hq' : q ≤ 1000) :
    Calls Tryz.prog 90 #[.int .i64 k, .int .i64 q] w fun e w' => e = .returned (.int .i64 (Num.padN k q)) ∧ w' = w := by
  go_enter Tryz.func90, Tryz.ntmps90
  go_wp2_with fail
  go_loop [5, 6] (fun v i => ∃ n : Int, 0 ≤ n ∧ n ≤ q ∧ i = .int .i64 n ∧ v = .int .i64 (Num.addP k (Num.mulP n 1099511627777))) (fun _ i => (q - intOf i).toNat)
  case atStart => exact ⟨0, by omega, hq, rfl, by rw [Num.stepped_zero k hk hk']⟩
  case round =>
    obtain ⟨n, n1, n2, rfl, rfl⟩ := hrel
    have l1 := Num.addP_lo k (Num.mulP n 1099511627777)
    have l2 := Num.addP_hi k (Num.mulP n 1099511627777)
    by_cases hlt : n < q
    · have H := hideH (Num.stepped k n)
      go_wp2_with fail
      refine (rplus_calls _ _ _ l1 l2 (by omega) (by omega)).mono ?_
      rintro e w' ⟨rfl, rfl⟩
      go_wp2_with fail
      go_round
      case rel => exact ⟨n + 1, by omega, by omega, rfl, by rw [H.out]⟩
      case measure => simp [intOf]; omega
    · have en : n = q := by omega
      subst en
      have H := hideH (Num.cube (Num.addP k (Num.mulP n 1099511627777)))
      go_wp2_with fail
      refine (raised_calls _ l1 l2 _ _ _ (Nat.le_refl _) (by omega)).mono ?_
      rintro e w' ⟨rfl, rfl⟩
      go_wp2_with fail
      go_ret
      exact ⟨congrArg (fun x => Ending.returned (.int .i64 x)) H.out, rfl⟩

/-- The four pads of a way, the first j of them laid. -/
def padArr (k q : Int) : Nat → Array Value
  | 0 => #[.int .i64 0, .int .i64 0, .int .i64 0, .int .i64 0]
  | 1 => #[.int .i64 (Num.padN k q), .int .i64 0, .int .i64 0, .int .i64 0]
  | 2 => #[.int .i64 (Num.padN k q), .int .i64 (Num.padN k (q + 1)), .int .i64 0, .int .i64 0]
  | 3 => #[.int .i64 (Num.padN k q), .int .i64 (Num.padN k (q + 1)), .int .i64 (Num.padN k (q + 2)), .int .i64 0]
  | _ => #[.int .i64 (Num.padN k q), .int .i64 (Num.padN k (q + 1)), .int .i64 (Num.padN k (q + 2)), .int .i64 (Num.padN k (q + 3))]

set_option maxHeartbeats 1000000 in
theorem rpads_calls (k a b : Int) (w : World) (hk : 0 ≤ k) (hk' : k < 2305843009213693951) (ha : 1 ≤ a) (ha' : a ≤ 12) (hb : 1 ≤ b) (hb' : b ≤ 12) :
    Calls Tryz.prog 147 #[.int .i64 k, .int .i64 a, .int .i64 b] w fun e w' => e = .returned (.agg (padArr k (64 * a + 4 * b) 4)) ∧ Below w.heap.size w w' := by
  go_enter Tryz.func147, Tryz.ntmps147
  go_wp2_with fail
  go_loopw [8] (fun i wr => ∃ j : Nat, j ≤ 4 ∧ i = .int .i64 j ∧ wr = (w.alloc (.cells #[.int .i64 0, .int .i64 0, .int .i64 0, .int .i64 0] 202)).alloc (.cells (padArr k (64 * a + 4 * b) j) 202)) (fun i _ => 4 - (intOf i).toNat)
  case atStart => exact ⟨0, by omega, rfl, rfl⟩
  case round =>
    obtain ⟨j, hj, rfl, rfl⟩ := hrel
    match j, hj with
    | 0, _ =>
      unfold padArr
      go_wp2_with fail
      refine (rpad_calls _ _ _ hk hk' (by omega) (by omega)).mono ?_
      rintro e w' ⟨rfl, rfl⟩
      go_wp2_with fail
      go_roundw
      case rel => exact ⟨1, by omega, rfl, rfl⟩
      case measure => simp [intOf]
    | 1, _ =>
      unfold padArr
      go_wp2_with fail
      refine (rpad_calls _ _ _ hk hk' (by omega) (by omega)).mono ?_
      rintro e w' ⟨rfl, rfl⟩
      go_wp2_with fail
      go_roundw
      case rel => exact ⟨2, by omega, rfl, rfl⟩
      case measure => simp [intOf]
    | 2, _ =>
      unfold padArr
      go_wp2_with fail
      refine (rpad_calls _ _ _ hk hk' (by omega) (by omega)).mono ?_
      rintro e w' ⟨rfl, rfl⟩
      go_wp2_with fail
      go_roundw
      case rel => exact ⟨3, by omega, rfl, rfl⟩
      case measure => simp [intOf]
    | 3, _ =>
      unfold padArr
      go_wp2_with fail
      refine (rpad_calls _ _ _ hk hk' (by omega) (by omega)).mono ?_
      rintro e w' ⟨rfl, rfl⟩
      go_wp2_with fail
      go_roundw
      case rel => exact ⟨4, by omega, rfl, rfl⟩
      case measure => simp [intOf]
    | 4, _ =>
      unfold padArr
      go_wp2_with fail
      exact bodyPost_ret (v := .agg (padArr k (64 * a + 4 * b) 4)) (by simp [results, Tryz.results147, go_sem, padArr]) rfl ⟨rfl, ((Below.refl _ _).alloc (Nat.le_refl _) _).alloc (by simp) _⟩

theorem rtag_calls (p0 p1 p2 p3 x y : Int) (w : World) (hp2 : 0 ≤ p2) (hp2' : p2 < 2305843009213693951) (hp3 : 0 ≤ p3) (hp3' : p3 < 2305843009213693951) (hx : 0 ≤ x) (hx' : x < 2305843009213693951) (hy : 0 ≤ y) (hy' : y < 2305843009213693951) :
    Calls Tryz.prog 148 #[.agg #[.int .i64 p0, .int .i64 p1, .int .i64 p2, .int .i64 p3], .int .i64 x, .int .i64 y] w fun e w' => e = .returned (.int .i64 (Num.addP (Num.addP (Num.mulP p2 x) (Num.mulP (Num.mulP p2 p2) y)) p3)) ∧ Below w.heap.size w w' := by
  go_enter Tryz.func148, Tryz.ntmps148
  go_wp2_with fail
  refine (product_calls _ _ _ hp2 hp2' hx hx').mono ?_
  rintro e w' ⟨rfl, rfl⟩
  go_wp2_with fail
  refine (product_calls _ _ _ hp2 hp2' hp2 hp2').mono ?_
  rintro e w' ⟨rfl, rfl⟩
  go_wp2_with fail
  refine (product_calls _ _ _ (Num.mulP_lo _ _) (Num.mulP_hi _ _) hy hy').mono ?_
  rintro e w' ⟨rfl, rfl⟩
  go_wp2_with fail
  refine (rplus_calls _ _ _ (Num.mulP_lo _ _) (Num.mulP_hi _ _) (Num.mulP_lo _ _) (Num.mulP_hi _ _)).mono ?_
  rintro e w' ⟨rfl, rfl⟩
  go_wp2_with fail
  refine (rplus_calls _ _ _ (Num.addP_lo _ _) (Num.addP_hi _ _) hp3 hp3').mono ?_
  rintro e w' ⟨rfl, rfl⟩
  go_wp2_with fail
  go_ret
  exact ⟨rfl, (Below.refl _ _).alloc (Nat.le_refl _) _⟩

theorem rSeal_no (k a b x y : Int) (w : World) (h : (Num.elB k && (Num.elB x && (Num.elB y && (Num.clB a && Num.clB b)))) = false) :
    Calls Tryz.prog 94 #[.int .i64 k, .int .i64 a, .int .i64 b, .int .i64 x, .int .i64 y] w fun e w' => e = .returned (.tuple #[.int .i64 0, .int .i64 0, .int .i64 0, .int .i64 1]) ∧ w' = w := by
  cases q0 : Num.elB k
  · clear h
    go_enter Tryz.func94, Tryz.ntmps94
    go_wp2_with fail
    refine (relement_calls _ _).mono ?_
    rintro e w' ⟨rfl, rfl⟩
    go_wp2_with fail
    exact bodyPost_ret (v := .tuple #[.int .i64 0, .int .i64 0, .int .i64 0, .int .i64 1]) (by simp [results, Tryz.results94, go_sem]) rfl ⟨rfl, rfl⟩
  · rw [q0, Bool.true_and] at h
    cases q1 : Num.elB x
    · clear h
      go_enter Tryz.func94, Tryz.ntmps94
      go_wp2_with fail
      refine (relement_calls _ _).mono ?_
      rintro e w' ⟨rfl, rfl⟩
      go_wp2_with fail
      refine (relement_calls _ _).mono ?_
      rintro e w' ⟨rfl, rfl⟩
      go_wp2_with fail
      exact bodyPost_ret (v := .tuple #[.int .i64 0, .int .i64 0, .int .i64 0, .int .i64 1]) (by simp [results, Tryz.results94, go_sem]) rfl ⟨rfl, rfl⟩
    · rw [q1, Bool.true_and] at h
      cases q2 : Num.elB y
      · clear h
        go_enter Tryz.func94, Tryz.ntmps94
        go_wp2_with fail
        refine (relement_calls _ _).mono ?_
        rintro e w' ⟨rfl, rfl⟩
        go_wp2_with fail
        refine (relement_calls _ _).mono ?_
        rintro e w' ⟨rfl, rfl⟩
        go_wp2_with fail
        refine (relement_calls _ _).mono ?_
        rintro e w' ⟨rfl, rfl⟩
        go_wp2_with fail
        exact bodyPost_ret (v := .tuple #[.int .i64 0, .int .i64 0, .int .i64 0, .int .i64 1]) (by simp [results, Tryz.results94, go_sem]) rfl ⟨rfl, rfl⟩
      · rw [q2, Bool.true_and] at h
        cases q3 : Num.clB a
        · clear h
          go_enter Tryz.func94, Tryz.ntmps94
          go_wp2_with fail
          refine (relement_calls _ _).mono ?_
          rintro e w' ⟨rfl, rfl⟩
          go_wp2_with fail
          refine (relement_calls _ _).mono ?_
          rintro e w' ⟨rfl, rfl⟩
          go_wp2_with fail
          refine (relement_calls _ _).mono ?_
          rintro e w' ⟨rfl, rfl⟩
          go_wp2_with fail
          refine (rparty_calls _ _).mono ?_
          rintro e w' ⟨rfl, rfl⟩
          go_wp2_with fail
          exact bodyPost_ret (v := .tuple #[.int .i64 0, .int .i64 0, .int .i64 0, .int .i64 1]) (by simp [results, Tryz.results94, go_sem]) rfl ⟨rfl, rfl⟩
        · rw [q3, Bool.true_and] at h
          go_enter Tryz.func94, Tryz.ntmps94
          go_wp2_with fail
          refine (relement_calls _ _).mono ?_
          rintro e w' ⟨rfl, rfl⟩
          go_wp2_with fail
          refine (relement_calls _ _).mono ?_
          rintro e w' ⟨rfl, rfl⟩
          go_wp2_with fail
          refine (relement_calls _ _).mono ?_
          rintro e w' ⟨rfl, rfl⟩
          go_wp2_with fail
          refine (rparty_calls _ _).mono ?_
          rintro e w' ⟨rfl, rfl⟩
          go_wp2_with fail
          refine (rparty_calls _ _).mono ?_
          rintro e w' ⟨rfl, rfl⟩
          go_wp2_with fail
          exact bodyPost_ret (v := .tuple #[.int .i64 0, .int .i64 0, .int .i64 0, .int .i64 1]) (by simp [results, Tryz.results94, go_sem]) rfl ⟨rfl, rfl⟩

set_option maxHeartbeats 1000000 in
theorem rSeal_yes (k a b x y : Int) (w : World) (hk : 0 ≤ k) (hk' : k < 2305843009213693951) (ha : 1 ≤ a) (ha' : a ≤ 12) (hb : 1 ≤ b) (hb' : b ≤ 12)
    (hx : 0 ≤ x) (hx' : x < 2305843009213693951) (hy : 0 ≤ y) (hy' : y < 2305843009213693951) :
    Calls Tryz.prog 94 #[.int .i64 k, .int .i64 a, .int .i64 b, .int .i64 x, .int .i64 y] w fun e w' => e = .returned (.tuple #[.int .i64 (Num.addP x (Num.padN k (64 * a + 4 * b))), .int .i64 (Num.addP y (Num.padN k (64 * a + 4 * b + 1))), .int .i64 (Num.tagN k (64 * a + 4 * b) (Num.addP x (Num.padN k (64 * a + 4 * b))) (Num.addP y (Num.padN k (64 * a + 4 * b + 1)))), .int .i64 0]) ∧ Below w.heap.size w w' := by
  have q1 := Num.elB_yes hk hk'
  have q2 := Num.elB_yes hx hx'
  have q3 := Num.elB_yes hy hy'
  have q4 := Num.clB_yes ha ha'
  have q5 := Num.clB_yes hb hb'
  go_enter Tryz.func94, Tryz.ntmps94
  go_wp2_with fail
  refine (relement_calls _ _).mono ?_
  rintro e w' ⟨rfl, rfl⟩
  go_wp2_with fail
  refine (relement_calls _ _).mono ?_
  rintro e w' ⟨rfl, rfl⟩
  go_wp2_with fail
  refine (relement_calls _ _).mono ?_
  rintro e w' ⟨rfl, rfl⟩
  go_wp2_with fail
  refine (rparty_calls _ _).mono ?_
  rintro e w' ⟨rfl, rfl⟩
  go_wp2_with fail
  refine (rparty_calls _ _).mono ?_
  rintro e w' ⟨rfl, rfl⟩
  go_wp2_with fail
  refine (rpads_calls _ _ _ _ hk hk' ha ha' hb hb').mono ?_
  rintro e w1 ⟨rfl, hb1⟩
  have HB1 := hideH hb1
  clear hb1 q1 q2 q3 q4 q5
  unfold padArr
  go_wp2_with fail
  refine (rplus_calls _ _ _ hx hx' (Num.padN_lo _ _) (Num.padN_hi _ _)).mono ?_
  rintro e w' ⟨rfl, rfl⟩
  go_wp2_with fail
  refine (rplus_calls _ _ _ hy hy' (Num.padN_lo _ _) (Num.padN_hi _ _)).mono ?_
  rintro e w' ⟨rfl, rfl⟩
  go_wp2_with fail
  refine (rtag_calls _ _ _ _ _ _ _ (Num.padN_lo _ _) (Num.padN_hi _ _) (Num.padN_lo _ _) (Num.padN_hi _ _) (Num.addP_lo _ _) (Num.addP_hi _ _) (Num.addP_lo _ _) (Num.addP_hi _ _)).mono ?_
  rintro e w2 ⟨rfl, hb2⟩
  have HB2 := hideH hb2
  clear hb2
  go_wp2_with fail
  exact bodyPost_ret (v := .tuple #[.int .i64 (Num.addP x (Num.padN k (64 * a + 4 * b))), .int .i64 (Num.addP y (Num.padN k (64 * a + 4 * b + 1))), .int .i64 (Num.tagN k (64 * a + 4 * b) (Num.addP x (Num.padN k (64 * a + 4 * b))) (Num.addP y (Num.padN k (64 * a + 4 * b + 1)))), .int .i64 0]) (by simp [results, Tryz.results94, go_sem, Num.tagN]) rfl ⟨rfl, (HB1.out.alloc HB1.out.size _).trans (HB2.out.mono (by have := HB1.out.size; simp; omega))⟩

theorem rOpen_no (k a b x y z : Int) (w : World) (h : (Num.elB k && (Num.elB x && (Num.elB y && (Num.elB z && (Num.clB a && Num.clB b))))) = false) :
    Calls Tryz.prog 96 #[.int .i64 k, .int .i64 a, .int .i64 b, .int .i64 x, .int .i64 y, .int .i64 z] w fun e w' => e = .returned (.tuple #[.int .i64 0, .int .i64 0, .int .i64 1]) ∧ w' = w := by
  cases q0 : Num.elB k
  · clear h
    go_enter Tryz.func96, Tryz.ntmps96
    go_wp2_with fail
    refine (relement_calls _ _).mono ?_
    rintro e w' ⟨rfl, rfl⟩
    go_wp2_with fail
    go_ret3
    exact ⟨rfl, rfl⟩
  · rw [q0, Bool.true_and] at h
    cases q1 : Num.elB x
    · clear h
      go_enter Tryz.func96, Tryz.ntmps96
      go_wp2_with fail
      refine (relement_calls _ _).mono ?_
      rintro e w' ⟨rfl, rfl⟩
      go_wp2_with fail
      refine (relement_calls _ _).mono ?_
      rintro e w' ⟨rfl, rfl⟩
      go_wp2_with fail
      go_ret3
      exact ⟨rfl, rfl⟩
    · rw [q1, Bool.true_and] at h
      cases q2 : Num.elB y
      · clear h
        go_enter Tryz.func96, Tryz.ntmps96
        go_wp2_with fail
        refine (relement_calls _ _).mono ?_
        rintro e w' ⟨rfl, rfl⟩
        go_wp2_with fail
        refine (relement_calls _ _).mono ?_
        rintro e w' ⟨rfl, rfl⟩
        go_wp2_with fail
        refine (relement_calls _ _).mono ?_
        rintro e w' ⟨rfl, rfl⟩
        go_wp2_with fail
        go_ret3
        exact ⟨rfl, rfl⟩
      · rw [q2, Bool.true_and] at h
        cases q3 : Num.elB z
        · clear h
          go_enter Tryz.func96, Tryz.ntmps96
          go_wp2_with fail
          refine (relement_calls _ _).mono ?_
          rintro e w' ⟨rfl, rfl⟩
          go_wp2_with fail
          refine (relement_calls _ _).mono ?_
          rintro e w' ⟨rfl, rfl⟩
          go_wp2_with fail
          refine (relement_calls _ _).mono ?_
          rintro e w' ⟨rfl, rfl⟩
          go_wp2_with fail
          refine (relement_calls _ _).mono ?_
          rintro e w' ⟨rfl, rfl⟩
          go_wp2_with fail
          go_ret3
          exact ⟨rfl, rfl⟩
        · rw [q3, Bool.true_and] at h
          cases q4 : Num.clB a
          · clear h
            go_enter Tryz.func96, Tryz.ntmps96
            go_wp2_with fail
            refine (relement_calls _ _).mono ?_
            rintro e w' ⟨rfl, rfl⟩
            go_wp2_with fail
            refine (relement_calls _ _).mono ?_
            rintro e w' ⟨rfl, rfl⟩
            go_wp2_with fail
            refine (relement_calls _ _).mono ?_
            rintro e w' ⟨rfl, rfl⟩
            go_wp2_with fail
            refine (relement_calls _ _).mono ?_
            rintro e w' ⟨rfl, rfl⟩
            go_wp2_with fail
            refine (rparty_calls _ _).mono ?_
            rintro e w' ⟨rfl, rfl⟩
            go_wp2_with fail
            go_ret3
            exact ⟨rfl, rfl⟩
          · rw [q4, Bool.true_and] at h
            go_enter Tryz.func96, Tryz.ntmps96
            go_wp2_with fail
            refine (relement_calls _ _).mono ?_
            rintro e w' ⟨rfl, rfl⟩
            go_wp2_with fail
            refine (relement_calls _ _).mono ?_
            rintro e w' ⟨rfl, rfl⟩
            go_wp2_with fail
            refine (relement_calls _ _).mono ?_
            rintro e w' ⟨rfl, rfl⟩
            go_wp2_with fail
            refine (relement_calls _ _).mono ?_
            rintro e w' ⟨rfl, rfl⟩
            go_wp2_with fail
            refine (rparty_calls _ _).mono ?_
            rintro e w' ⟨rfl, rfl⟩
            go_wp2_with fail
            refine (rparty_calls _ _).mono ?_
            rintro e w' ⟨rfl, rfl⟩
            go_wp2_with fail
            go_ret3
            exact ⟨rfl, rfl⟩

set_option maxHeartbeats 1000000 in
theorem rOpen_tag (k a b x y z : Int) (w : World) (hk : 0 ≤ k) (hk' : k < 2305843009213693951) (ha : 1 ≤ a) (ha' : a ≤ 12) (hb : 1 ≤ b) (hb' : b ≤ 12)
    (hx : 0 ≤ x) (hx' : x < 2305843009213693951) (hy : 0 ≤ y) (hy' : y < 2305843009213693951) (hz : 0 ≤ z) (hz' : z < 2305843009213693951)
    (ht : (Num.tagN k (64 * a + 4 * b) x y != z) = true) :
    Calls Tryz.prog 96 #[.int .i64 k, .int .i64 a, .int .i64 b, .int .i64 x, .int .i64 y, .int .i64 z] w fun e w' => e = .returned (.tuple #[.int .i64 0, .int .i64 0, .int .i64 3]) ∧ Below w.heap.size w w' := by
  have q1 := Num.elB_yes hk hk'
  have q2 := Num.elB_yes hx hx'
  have q3 := Num.elB_yes hy hy'
  have q6 := Num.elB_yes hz hz'
  have q4 := Num.clB_yes ha ha'
  have q5 := Num.clB_yes hb hb'
  unfold Num.tagN at ht
  go_enter Tryz.func96, Tryz.ntmps96
  go_wp2_with fail
  refine (relement_calls _ _).mono ?_
  rintro e w' ⟨rfl, rfl⟩
  go_wp2_with fail
  refine (relement_calls _ _).mono ?_
  rintro e w' ⟨rfl, rfl⟩
  go_wp2_with fail
  refine (relement_calls _ _).mono ?_
  rintro e w' ⟨rfl, rfl⟩
  go_wp2_with fail
  refine (relement_calls _ _).mono ?_
  rintro e w' ⟨rfl, rfl⟩
  go_wp2_with fail
  refine (rparty_calls _ _).mono ?_
  rintro e w' ⟨rfl, rfl⟩
  go_wp2_with fail
  refine (rparty_calls _ _).mono ?_
  rintro e w' ⟨rfl, rfl⟩
  go_wp2_with fail
  refine (rpads_calls _ _ _ _ hk hk' ha ha' hb hb').mono ?_
  rintro e w1 ⟨rfl, hb1⟩
  have HB1 := hideH hb1
  clear hb1 q1 q2 q3 q4 q5 q6
  unfold padArr
  go_wp2_with fail
  refine (rtag_calls _ _ _ _ _ _ _ (Num.padN_lo _ _) (Num.padN_hi _ _) (Num.padN_lo _ _) (Num.padN_hi _ _) hx hx' hy hy').mono ?_
  rintro e w2 ⟨rfl, hb2⟩
  have HB2 := hideH hb2
  clear hb2
  go_wp2_with fail
  go_ret3
  exact ⟨rfl, (HB1.out.alloc HB1.out.size _).trans (HB2.out.mono (by have := HB1.out.size; simp; omega))⟩

set_option maxHeartbeats 1000000 in
theorem rOpen_yes (k a b x y z : Int) (w : World) (hk : 0 ≤ k) (hk' : k < 2305843009213693951) (ha : 1 ≤ a) (ha' : a ≤ 12) (hb : 1 ≤ b) (hb' : b ≤ 12)
    (hx : 0 ≤ x) (hx' : x < 2305843009213693951) (hy : 0 ≤ y) (hy' : y < 2305843009213693951) (hz : 0 ≤ z) (hz' : z < 2305843009213693951)
    (ht : (Num.tagN k (64 * a + 4 * b) x y != z) = false) :
    Calls Tryz.prog 96 #[.int .i64 k, .int .i64 a, .int .i64 b, .int .i64 x, .int .i64 y, .int .i64 z] w fun e w' => e = .returned (.tuple #[.int .i64 (Num.subP x (Num.padN k (64 * a + 4 * b))), .int .i64 (Num.subP y (Num.padN k (64 * a + 4 * b + 1))), .int .i64 0]) ∧ Below w.heap.size w w' := by
  have q1 := Num.elB_yes hk hk'
  have q2 := Num.elB_yes hx hx'
  have q3 := Num.elB_yes hy hy'
  have q6 := Num.elB_yes hz hz'
  have q4 := Num.clB_yes ha ha'
  have q5 := Num.clB_yes hb hb'
  unfold Num.tagN at ht
  go_enter Tryz.func96, Tryz.ntmps96
  go_wp2_with fail
  refine (relement_calls _ _).mono ?_
  rintro e w' ⟨rfl, rfl⟩
  go_wp2_with fail
  refine (relement_calls _ _).mono ?_
  rintro e w' ⟨rfl, rfl⟩
  go_wp2_with fail
  refine (relement_calls _ _).mono ?_
  rintro e w' ⟨rfl, rfl⟩
  go_wp2_with fail
  refine (relement_calls _ _).mono ?_
  rintro e w' ⟨rfl, rfl⟩
  go_wp2_with fail
  refine (rparty_calls _ _).mono ?_
  rintro e w' ⟨rfl, rfl⟩
  go_wp2_with fail
  refine (rparty_calls _ _).mono ?_
  rintro e w' ⟨rfl, rfl⟩
  go_wp2_with fail
  refine (rpads_calls _ _ _ _ hk hk' ha ha' hb hb').mono ?_
  rintro e w1 ⟨rfl, hb1⟩
  have HB1 := hideH hb1
  clear hb1 q1 q2 q3 q4 q5 q6
  unfold padArr
  go_wp2_with fail
  refine (rtag_calls _ _ _ _ _ _ _ (Num.padN_lo _ _) (Num.padN_hi _ _) (Num.padN_lo _ _) (Num.padN_hi _ _) hx hx' hy hy').mono ?_
  rintro e w2 ⟨rfl, hb2⟩
  have HB2 := hideH hb2
  obtain ⟨hc, hf⟩ := bcell hb2
  clear hb2
  go_wp2_with fail
  refine (rless_calls _ _ _ hx hx' (Num.padN_lo _ _) (Num.padN_hi _ _)).mono ?_
  rintro e w' ⟨rfl, rfl⟩
  go_wp2_with fail
  refine (rless_calls _ _ _ hy hy' (Num.padN_lo _ _) (Num.padN_hi _ _)).mono ?_
  rintro e w' ⟨rfl, rfl⟩
  go_wp2_with fail
  go_ret3
  exact ⟨rfl, (HB1.out.alloc HB1.out.size _).trans (HB2.out.mono (by have := HB1.out.size; simp; omega))⟩

end Go.Proofs.YtchideljndagjaaGreat
