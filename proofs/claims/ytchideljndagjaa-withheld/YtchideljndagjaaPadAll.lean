/- Contracts of the pads of package pad. -/
import Derived.Test.YtchideljndagjaaField
import Derived.Test.YtchideljndagjaaMemAll
namespace Go.Proofs.Ytchideljndagjaa
open Go.ChangeShapes Go.WideShapes Go.ChangeAt Go.RowKit

theorem number_calls (k q : Int) (w : World) (ha : 0 ≤ k) (ha' : k < 2305843009213693951) (hb : 0 ≤ q) (hb' : q < 2305843009213693951) :
    Calls Try.prog 74 #[.int .i64 k, .int .i64 q] w fun e w' => e = .returned (.int .i64 (Num.padN k q)) ∧ w' = w := by
  go_enter Try.func74, Try.ntmps74
  go_wp2_with fail
  refine (times_calls _ _ _ hb hb' (by omega) (by omega)).mono ?_
  rintro e w' ⟨rfl, rfl⟩
  go_wp2_with fail
  refine (plus_calls _ _ _ ha ha' (Num.mulP_lo _ _) (Num.mulP_hi _ _)).mono ?_
  rintro e w' ⟨rfl, rfl⟩
  go_wp2_with fail
  refine (times_calls _ _ _ (Num.addP_lo _ _) (Num.addP_hi _ _) (Num.addP_lo _ _) (Num.addP_hi _ _)).mono ?_
  rintro e w' ⟨rfl, rfl⟩
  go_wp2_with fail
  refine (times_calls _ _ _ (Num.mulP_lo _ _) (Num.mulP_hi _ _) (Num.addP_lo _ _) (Num.addP_hi _ _)).mono ?_
  rintro e w' ⟨rfl, rfl⟩
  go_wp2_with fail
  go_ret
  exact ⟨rfl, rfl⟩

theorem firstPad_calls (a b : Int) (w : World) (ha : 1 ≤ a) (ha' : a ≤ 12) (hb : 1 ≤ b) (hb' : b ≤ 12) :
    Calls Try.prog 73 #[.int .i64 a, .int .i64 b] w fun e w' => e = .returned (.int .i64 (64 * a + 4 * b)) ∧ w' = w := by
  go_enter Try.func73, Try.ntmps73
  go_wp2
  go_ret
  exact ⟨rfl, rfl⟩

theorem tag_calls (k q x y : Int) (w : World) (hk : 0 ≤ k) (hk' : k < 2305843009213693951) (hq : 0 ≤ q) (hq' : q ≤ 1000) (hx : 0 ≤ x) (hx' : x < 2305843009213693951) (hy : 0 ≤ y) (hy' : y < 2305843009213693951) :
    Calls Try.prog 75 #[.int .i64 k, .int .i64 q, .int .i64 x, .int .i64 y] w fun e w' => e = .returned (.int .i64 (Num.tagN k q x y)) ∧ w' = w := by
  go_enter Try.func75, Try.ntmps75
  go_wp2_with fail
  refine (number_calls _ _ _ hk hk' (by omega) (by omega)).mono ?_
  rintro e w' ⟨rfl, rfl⟩
  have p1 := Num.padN_lo k (q + 2)
  have p2 := Num.padN_hi k (q + 2)
  go_wp2_with fail
  refine (times_calls _ _ _ p1 p2 hx hx').mono ?_
  rintro e w' ⟨rfl, rfl⟩
  go_wp2_with fail
  refine (times_calls _ _ _ p1 p2 p1 p2).mono ?_
  rintro e w' ⟨rfl, rfl⟩
  go_wp2_with fail
  refine (times_calls _ _ _ (Num.mulP_lo _ _) (Num.mulP_hi _ _) hy hy').mono ?_
  rintro e w' ⟨rfl, rfl⟩
  go_wp2_with fail
  refine (plus_calls _ _ _ (Num.mulP_lo _ _) (Num.mulP_hi _ _) (Num.mulP_lo _ _) (Num.mulP_hi _ _)).mono ?_
  rintro e w' ⟨rfl, rfl⟩
  go_wp2_with fail
  refine (number_calls _ _ _ hk hk' (by omega) (by omega)).mono ?_
  rintro e w' ⟨rfl, rfl⟩
  go_wp2_with fail
  refine (plus_calls _ _ _ (Num.addP_lo _ _) (Num.addP_hi _ _) (Num.padN_lo _ _) (Num.padN_hi _ _)).mono ?_
  rintro e w' ⟨rfl, rfl⟩
  go_wp2_with fail
  go_ret
  exact ⟨rfl, rfl⟩

theorem isWay_calls (k a b : Int) (w : World) :
    Calls Try.prog 72 #[.int .i64 k, .int .i64 a, .int .i64 b] w fun e w' => e = .returned (.bool (Num.elB k && (Num.clB a && Num.clB b))) ∧ w' = w := by
  cases h1 : Num.elB k
  · go_enter Try.func72, Try.ntmps72
    go_wp2_with (go_at_call 64; refine (element_calls _ _).mono ?_; rintro e w' ⟨rfl, rfl⟩)
    go_ret
    exact ⟨rfl, rfl⟩
  · cases h2 : Num.clB a
    · go_enter Try.func72, Try.ntmps72
      go_wp2_with (first | (go_at_call 64; refine (element_calls _ _).mono ?_; rintro e w' ⟨rfl, rfl⟩) | (go_at_call 94; refine (client_calls _ _).mono ?_; rintro e w' ⟨rfl, rfl⟩))
      go_ret
      exact ⟨rfl, rfl⟩
    · cases h3 : Num.clB b
      all_goals
        go_enter Try.func72, Try.ntmps72
        go_wp2_with (first | (go_at_call 64; refine (element_calls _ _).mono ?_; rintro e w' ⟨rfl, rfl⟩) | (go_at_call 94; refine (client_calls _ _).mono ?_; rintro e w' ⟨rfl, rfl⟩))
        go_ret
        exact ⟨rfl, rfl⟩

end Go.Proofs.Ytchideljndagjaa

/- Contracts of Seal. -/
namespace Go.Proofs.Ytchideljndagjaa
open Go.ChangeShapes Go.WideShapes Go.ChangeAt Go.RowKit

theorem seal_no (k a b x y : Int) (w : World) (h : (Num.elB k && (Num.clB a && Num.clB b) && (Num.elB x && Num.elB y)) = false) :
    Calls Try.prog 48 #[.int .i64 k, .int .i64 a, .int .i64 b, .int .i64 x, .int .i64 y] w fun e w' => e = .returned (.tuple #[.int .i64 0, .int .i64 0, .int .i64 0, .int .i64 1]) ∧ w' = w := by
  cases h1 : (Num.elB k && (Num.clB a && Num.clB b))
  · clear h
    go_enter Try.func48, Try.ntmps48
    go_wp2_with fail
    refine (isWay_calls _ _ _ _).mono ?_
    rintro e w' ⟨rfl, rfl⟩
    rw [h1]
    go_wp2_with fail
    exact bodyPost_ret (v := .tuple #[.int .i64 0, .int .i64 0, .int .i64 0, .int .i64 1]) (by simp [results, Try.results48, go_sem]) rfl ⟨rfl, rfl⟩
  · rw [h1, Bool.true_and] at h
    cases h2 : Num.elB x
    · clear h
      go_enter Try.func48, Try.ntmps48
      go_wp2_with fail
      refine (isWay_calls _ _ _ _).mono ?_
      rintro e w' ⟨rfl, rfl⟩
      rw [h1]
      go_wp2_with fail
      refine (element_calls _ _).mono ?_
      rintro e w' ⟨rfl, rfl⟩
      go_wp2_with fail
      exact bodyPost_ret (v := .tuple #[.int .i64 0, .int .i64 0, .int .i64 0, .int .i64 1]) (by simp [results, Try.results48, go_sem]) rfl ⟨rfl, rfl⟩
    · rw [h2, Bool.true_and] at h
      go_enter Try.func48, Try.ntmps48
      go_wp2_with fail
      refine (isWay_calls _ _ _ _).mono ?_
      rintro e w' ⟨rfl, rfl⟩
      rw [h1]
      go_wp2_with fail
      refine (element_calls _ _).mono ?_
      rintro e w' ⟨rfl, rfl⟩
      go_wp2_with fail
      refine (element_calls _ _).mono ?_
      rintro e w' ⟨rfl, rfl⟩
      go_wp2_with fail
      exact bodyPost_ret (v := .tuple #[.int .i64 0, .int .i64 0, .int .i64 0, .int .i64 1]) (by simp [results, Try.results48, go_sem]) rfl ⟨rfl, rfl⟩

theorem seal_yes (k a b x y : Int) (w : World) (hk : 0 ≤ k) (hk' : k < 2305843009213693951) (ha : 1 ≤ a) (ha' : a ≤ 12) (hb : 1 ≤ b) (hb' : b ≤ 12)
    (hx : 0 ≤ x) (hx' : x < 2305843009213693951) (hy : 0 ≤ y) (hy' : y < 2305843009213693951) :
    Calls Try.prog 48 #[.int .i64 k, .int .i64 a, .int .i64 b, .int .i64 x, .int .i64 y] w fun e w' => e = .returned (.tuple #[.int .i64 (Num.addP x (Num.padN k (64 * a + 4 * b))), .int .i64 (Num.addP y (Num.padN k (64 * a + 4 * b + 1))), .int .i64 (Num.tagN k (64 * a + 4 * b) (Num.addP x (Num.padN k (64 * a + 4 * b))) (Num.addP y (Num.padN k (64 * a + 4 * b + 1)))), .int .i64 0]) ∧ w' = w := by
  have h1 : (Num.elB k && (Num.clB a && Num.clB b)) = true := by rw [Num.elB_yes hk hk', Num.clB_yes ha ha', Num.clB_yes hb hb']; rfl
  have h2 := Num.elB_yes hx hx'
  have h3 := Num.elB_yes hy hy'
  go_enter Try.func48, Try.ntmps48
  go_wp2_with fail
  refine (isWay_calls _ _ _ _).mono ?_
  rintro e w' ⟨rfl, rfl⟩
  rw [h1]
  go_wp2_with fail
  refine (element_calls _ _).mono ?_
  rintro e w' ⟨rfl, rfl⟩
  go_wp2_with fail
  refine (element_calls _ _).mono ?_
  rintro e w' ⟨rfl, rfl⟩
  go_wp2_with fail
  refine (firstPad_calls _ _ _ ha ha' hb hb').mono ?_
  rintro e w' ⟨rfl, rfl⟩
  clear h1 h2 h3
  go_wp2_with fail
  refine (number_calls _ _ _ hk hk' (by omega) (by omega)).mono ?_
  rintro e w' ⟨rfl, rfl⟩
  go_wp2_with fail
  refine (plus_calls _ _ _ hx hx' (Num.padN_lo _ _) (Num.padN_hi _ _)).mono ?_
  rintro e w' ⟨rfl, rfl⟩
  go_wp2_with fail
  refine (number_calls _ _ _ hk hk' (by omega) (by omega)).mono ?_
  rintro e w' ⟨rfl, rfl⟩
  go_wp2_with fail
  refine (plus_calls _ _ _ hy hy' (Num.padN_lo _ _) (Num.padN_hi _ _)).mono ?_
  rintro e w' ⟨rfl, rfl⟩
  go_wp2_with fail
  refine (tag_calls _ _ _ _ _ hk hk' (by omega) (by omega) (Num.addP_lo _ _) (Num.addP_hi _ _) (Num.addP_lo _ _) (Num.addP_hi _ _)).mono ?_
  rintro e w' ⟨rfl, rfl⟩
  go_wp2_with fail
  exact bodyPost_ret (v := .tuple #[.int .i64 (Num.addP x (Num.padN k (64 * a + 4 * b))), .int .i64 (Num.addP y (Num.padN k (64 * a + 4 * b + 1))), .int .i64 (Num.tagN k (64 * a + 4 * b) (Num.addP x (Num.padN k (64 * a + 4 * b))) (Num.addP y (Num.padN k (64 * a + 4 * b + 1)))), .int .i64 0]) (by simp [results, Try.results48, go_sem]) rfl ⟨rfl, rfl⟩

/-- The call of package veil hands on what package pad answers: four results. -/
theorem veilSeal (k a b x y : Int) (w : World) (v0 v1 v2 v3 : Int)
    (h : Calls Try.prog 48 #[.int .i64 k, .int .i64 a, .int .i64 b, .int .i64 x, .int .i64 y] w fun e w' => e = .returned (.tuple #[.int .i64 v0, .int .i64 v1, .int .i64 v2, .int .i64 v3]) ∧ w' = w) :
    Calls Try.prog 24 #[.int .i64 k, .int .i64 a, .int .i64 b, .int .i64 x, .int .i64 y] w fun e w' => e = .returned (.tuple #[.int .i64 v0, .int .i64 v1, .int .i64 v2, .int .i64 v3]) ∧ w' = w := by
  have H : Hid (Calls Try.prog 48 #[.int .i64 k, .int .i64 a, .int .i64 b, .int .i64 x, .int .i64 y] w fun e w' => e = .returned (.tuple #[.int .i64 v0, .int .i64 v1, .int .i64 v2, .int .i64 v3]) ∧ w' = w) := h
  clear h
  go_enter Try.func24, Try.ntmps24
  go_wp2_with fail
  refine H.out.mono ?_
  rintro e w' ⟨rfl, rfl⟩
  go_wp2_with fail
  exact bodyPost_ret (v := .tuple #[.int .i64 v0, .int .i64 v1, .int .i64 v2, .int .i64 v3]) (by simp [results, Try.results24, go_sem]) rfl ⟨rfl, rfl⟩

end Go.Proofs.Ytchideljndagjaa

/- Contracts of Open. -/
namespace Go.Proofs.Ytchideljndagjaa
open Go.ChangeShapes Go.WideShapes Go.ChangeAt Go.RowKit

theorem open_no (k a b x y z : Int) (w : World) (h : (Num.elB k && (Num.clB a && Num.clB b) && (Num.elB x && (Num.elB y && Num.elB z))) = false) :
    Calls Try.prog 49 #[.int .i64 k, .int .i64 a, .int .i64 b, .int .i64 x, .int .i64 y, .int .i64 z] w fun e w' => e = .returned (.tuple #[.int .i64 0, .int .i64 0, .int .i64 1]) ∧ w' = w := by
  cases h1 : (Num.elB k && (Num.clB a && Num.clB b))
  · clear h
    go_enter Try.func49, Try.ntmps49
    go_wp2_with fail
    refine (isWay_calls _ _ _ _).mono ?_
    rintro e w' ⟨rfl, rfl⟩
    rw [h1]
    go_wp2_with fail
    go_ret3
    exact ⟨rfl, rfl⟩
  · rw [h1, Bool.true_and] at h
    cases h2 : Num.elB x
    · clear h
      go_enter Try.func49, Try.ntmps49
      go_wp2_with fail
      refine (isWay_calls _ _ _ _).mono ?_
      rintro e w' ⟨rfl, rfl⟩
      rw [h1]
      go_wp2_with fail
      refine (element_calls _ _).mono ?_
      rintro e w' ⟨rfl, rfl⟩
      go_wp2_with fail
      go_ret3
      exact ⟨rfl, rfl⟩
    · rw [h2, Bool.true_and] at h
      cases h3 : Num.elB y
      · clear h
        go_enter Try.func49, Try.ntmps49
        go_wp2_with fail
        refine (isWay_calls _ _ _ _).mono ?_
        rintro e w' ⟨rfl, rfl⟩
        rw [h1]
        go_wp2_with fail
        refine (element_calls _ _).mono ?_
        rintro e w' ⟨rfl, rfl⟩
        go_wp2_with fail
        refine (element_calls _ _).mono ?_
        rintro e w' ⟨rfl, rfl⟩
        go_wp2_with fail
        go_ret3
        exact ⟨rfl, rfl⟩
      · rw [h3, Bool.true_and] at h
        go_enter Try.func49, Try.ntmps49
        go_wp2_with fail
        refine (isWay_calls _ _ _ _).mono ?_
        rintro e w' ⟨rfl, rfl⟩
        rw [h1]
        go_wp2_with fail
        refine (element_calls _ _).mono ?_
        rintro e w' ⟨rfl, rfl⟩
        go_wp2_with fail
        refine (element_calls _ _).mono ?_
        rintro e w' ⟨rfl, rfl⟩
        go_wp2_with fail
        refine (element_calls _ _).mono ?_
        rintro e w' ⟨rfl, rfl⟩
        go_wp2_with fail
        go_ret3
        exact ⟨rfl, rfl⟩

theorem open_tag (k a b x y z : Int) (w : World) (hk : 0 ≤ k) (hk' : k < 2305843009213693951) (ha : 1 ≤ a) (ha' : a ≤ 12) (hb : 1 ≤ b) (hb' : b ≤ 12)
    (hx : 0 ≤ x) (hx' : x < 2305843009213693951) (hy : 0 ≤ y) (hy' : y < 2305843009213693951) (hz : 0 ≤ z) (hz' : z < 2305843009213693951)
    (ht : (Num.tagN k (64 * a + 4 * b) x y != z) = true) :
    Calls Try.prog 49 #[.int .i64 k, .int .i64 a, .int .i64 b, .int .i64 x, .int .i64 y, .int .i64 z] w fun e w' => e = .returned (.tuple #[.int .i64 0, .int .i64 0, .int .i64 3]) ∧ w' = w := by
  have h1 : (Num.elB k && (Num.clB a && Num.clB b)) = true := by rw [Num.elB_yes hk hk', Num.clB_yes ha ha', Num.clB_yes hb hb']; rfl
  have h2 := Num.elB_yes hx hx'
  have h3 := Num.elB_yes hy hy'
  have h4 := Num.elB_yes hz hz'
  go_enter Try.func49, Try.ntmps49
  go_wp2_with fail
  refine (isWay_calls _ _ _ _).mono ?_
  rintro e w' ⟨rfl, rfl⟩
  rw [h1]
  go_wp2_with fail
  refine (element_calls _ _).mono ?_
  rintro e w' ⟨rfl, rfl⟩
  go_wp2_with fail
  refine (element_calls _ _).mono ?_
  rintro e w' ⟨rfl, rfl⟩
  go_wp2_with fail
  refine (element_calls _ _).mono ?_
  rintro e w' ⟨rfl, rfl⟩
  go_wp2_with fail
  refine (firstPad_calls _ _ _ ha ha' hb hb').mono ?_
  rintro e w' ⟨rfl, rfl⟩
  clear h1 h2 h3 h4
  go_wp2_with fail
  refine (tag_calls _ _ _ _ _ hk hk' (by omega) (by omega) hx hx' hy hy').mono ?_
  rintro e w' ⟨rfl, rfl⟩
  go_wp2_with fail
  go_ret3
  exact ⟨rfl, rfl⟩

theorem open_yes (k a b x y z : Int) (w : World) (hk : 0 ≤ k) (hk' : k < 2305843009213693951) (ha : 1 ≤ a) (ha' : a ≤ 12) (hb : 1 ≤ b) (hb' : b ≤ 12)
    (hx : 0 ≤ x) (hx' : x < 2305843009213693951) (hy : 0 ≤ y) (hy' : y < 2305843009213693951) (hz : 0 ≤ z) (hz' : z < 2305843009213693951)
    (ht : (Num.tagN k (64 * a + 4 * b) x y != z) = false) :
    Calls Try.prog 49 #[.int .i64 k, .int .i64 a, .int .i64 b, .int .i64 x, .int .i64 y, .int .i64 z] w fun e w' => e = .returned (.tuple #[.int .i64 (Num.subP x (Num.padN k (64 * a + 4 * b))), .int .i64 (Num.subP y (Num.padN k (64 * a + 4 * b + 1))), .int .i64 0]) ∧ w' = w := by
  have h1 : (Num.elB k && (Num.clB a && Num.clB b)) = true := by rw [Num.elB_yes hk hk', Num.clB_yes ha ha', Num.clB_yes hb hb']; rfl
  have h2 := Num.elB_yes hx hx'
  have h3 := Num.elB_yes hy hy'
  have h4 := Num.elB_yes hz hz'
  go_enter Try.func49, Try.ntmps49
  go_wp2_with fail
  refine (isWay_calls _ _ _ _).mono ?_
  rintro e w' ⟨rfl, rfl⟩
  rw [h1]
  go_wp2_with fail
  refine (element_calls _ _).mono ?_
  rintro e w' ⟨rfl, rfl⟩
  go_wp2_with fail
  refine (element_calls _ _).mono ?_
  rintro e w' ⟨rfl, rfl⟩
  go_wp2_with fail
  refine (element_calls _ _).mono ?_
  rintro e w' ⟨rfl, rfl⟩
  go_wp2_with fail
  refine (firstPad_calls _ _ _ ha ha' hb hb').mono ?_
  rintro e w' ⟨rfl, rfl⟩
  clear h1 h2 h3 h4
  go_wp2_with fail
  refine (tag_calls _ _ _ _ _ hk hk' (by omega) (by omega) hx hx' hy hy').mono ?_
  rintro e w' ⟨rfl, rfl⟩
  go_wp2_with fail
  refine (number_calls _ _ _ hk hk' (by omega) (by omega)).mono ?_
  rintro e w' ⟨rfl, rfl⟩
  go_wp2_with fail
  refine (minus_calls _ _ _ hx hx' (Num.padN_lo _ _) (Num.padN_hi _ _)).mono ?_
  rintro e w' ⟨rfl, rfl⟩
  go_wp2_with fail
  refine (number_calls _ _ _ hk hk' (by omega) (by omega)).mono ?_
  rintro e w' ⟨rfl, rfl⟩
  go_wp2_with fail
  refine (minus_calls _ _ _ hy hy' (Num.padN_lo _ _) (Num.padN_hi _ _)).mono ?_
  rintro e w' ⟨rfl, rfl⟩
  go_wp2_with fail
  go_ret3
  exact ⟨rfl, rfl⟩

theorem veilOpen (k a b x y z : Int) (w : World) (v0 v1 v2 : Int)
    (h : Calls Try.prog 49 #[.int .i64 k, .int .i64 a, .int .i64 b, .int .i64 x, .int .i64 y, .int .i64 z] w fun e w' => e = .returned (.tuple #[.int .i64 v0, .int .i64 v1, .int .i64 v2]) ∧ w' = w) :
    Calls Try.prog 25 #[.int .i64 k, .int .i64 a, .int .i64 b, .int .i64 x, .int .i64 y, .int .i64 z] w fun e w' => e = .returned (.tuple #[.int .i64 v0, .int .i64 v1, .int .i64 v2]) ∧ w' = w := by
  have H : Hid (Calls Try.prog 49 #[.int .i64 k, .int .i64 a, .int .i64 b, .int .i64 x, .int .i64 y, .int .i64 z] w fun e w' => e = .returned (.tuple #[.int .i64 v0, .int .i64 v1, .int .i64 v2]) ∧ w' = w) := h
  clear h
  go_enter Try.func25, Try.ntmps25
  go_wp2_with fail
  refine H.out.mono ?_
  rintro e w' ⟨rfl, rfl⟩
  go_wp2_with fail
  go_ret3
  exact ⟨rfl, rfl⟩

end Go.Proofs.Ytchideljndagjaa

/- Contract of MaskNumber: the number i of a mask. -/
namespace Go.Proofs.Ytchideljndagjaa
open Go.ChangeShapes Go.WideShapes Go.ChangeAt Go.RowKit

theorem strAt_lo (s : Int) (i : Nat) : 0 ≤ Num.strAt s i := by unfold Num.strAt; omega
theorem strAt_hi (s : Int) (i : Nat) : Num.strAt s i < 4294967296 := by unfold Num.strAt; omega

theorem maskNumber_calls (k : Int) (i : Nat) (w : World) (ha : 0 ≤ k) (ha' : k < 2305843009213693951) (hi : i ≤ 12) :
    Calls Try.prog 120 #[.int .i64 k, .int .i64 ((i : Int) + 1)] w fun e w' => e = .returned (.int .i64 (Num.strAt k i)) ∧ w' = w := by
  go_enter Try.func120, Try.ntmps120
  go_wp2_with fail
  refine (number_calls _ _ _ ha ha' (by omega) (by omega)).mono ?_
  rintro e w' ⟨rfl, rfl⟩
  obtain ⟨p, hp⟩ : ∃ p, p = Num.padN k ((i : Int) + 1) := ⟨_, rfl⟩
  rw [← hp]
  have p1 : 0 ≤ p := by rw [hp]; exact Num.padN_lo _ _
  have p2 : p < 2305843009213693951 := by rw [hp]; exact Num.padN_hi _ _
  have HP := hideG hp
  clear hp
  have HQ := hideG (show Num.strAt k i = p / 1048576 % 4294967296 by rw [HP.out]; rfl)
  go_wp2_with fail
  go_ret
  rw [HQ.out]
  exact ⟨rfl, rfl⟩

end Go.Proofs.Ytchideljndagjaa
