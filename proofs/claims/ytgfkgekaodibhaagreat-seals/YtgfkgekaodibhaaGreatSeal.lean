/- Contracts of Seal. -/
import Derived.Test.YtgfkgekaodibhaaGreatPad
namespace Go.Proofs.YtgfkgekaodibhaaGreat
open Go.ChangeShapes Go.WideShapes Go.ChangeAt Go.RowKit

theorem seal_no (k a b x y : Int) (w : World) (h : (Num.elB k && (Num.clB a && Num.clB b) && (Num.elB x && Num.elB y)) = false) :
    Calls Tryz.prog 139 #[.int .i64 k, .int .i64 a, .int .i64 b, .int .i64 x, .int .i64 y] w fun e w' => e = .returned (.tuple #[.int .i64 0, .int .i64 0, .int .i64 0, .int .i64 1]) ∧ w' = w := by
  cases h1 : (Num.elB k && (Num.clB a && Num.clB b))
  · clear h
    go_enter Tryz.func139, Tryz.ntmps139
    go_wp2_with fail
    refine (isWay_calls _ _ _ _).mono ?_
    rintro e w' ⟨rfl, rfl⟩
    rw [h1]
    go_wp2_with fail
    exact bodyPost_ret (v := .tuple #[.int .i64 0, .int .i64 0, .int .i64 0, .int .i64 1]) (by simp [results, Tryz.results139, go_sem]) rfl ⟨rfl, rfl⟩
  · rw [h1, Bool.true_and] at h
    cases h2 : Num.elB x
    · clear h
      go_enter Tryz.func139, Tryz.ntmps139
      go_wp2_with fail
      refine (isWay_calls _ _ _ _).mono ?_
      rintro e w' ⟨rfl, rfl⟩
      rw [h1]
      go_wp2_with fail
      refine (element_calls _ _).mono ?_
      rintro e w' ⟨rfl, rfl⟩
      go_wp2_with fail
      exact bodyPost_ret (v := .tuple #[.int .i64 0, .int .i64 0, .int .i64 0, .int .i64 1]) (by simp [results, Tryz.results139, go_sem]) rfl ⟨rfl, rfl⟩
    · rw [h2, Bool.true_and] at h
      go_enter Tryz.func139, Tryz.ntmps139
      go_wp2_with fail
      refine (isWay_calls _ _ _ _).mono ?_
      rintro e w' ⟨rfl, rfl⟩
      rw [h1]
      go_wp2_with fail
      refine (element_calls _ _).mono ?_
      rintro e w' ⟨rfl, rfl⟩
      go_wp2_with fail
      refine (element_calls _ _).mono ?_
      rintro e w' ⟨rfl, rfl⟩
      go_wp2_with fail
      exact bodyPost_ret (v := .tuple #[.int .i64 0, .int .i64 0, .int .i64 0, .int .i64 1]) (by simp [results, Tryz.results139, go_sem]) rfl ⟨rfl, rfl⟩

theorem seal_yes (k a b x y : Int) (w : World) (hk : 0 ≤ k) (hk' : k < 2305843009213693951) (ha : 1 ≤ a) (ha' : a ≤ 12) (hb : 1 ≤ b) (hb' : b ≤ 12)
    (hx : 0 ≤ x) (hx' : x < 2305843009213693951) (hy : 0 ≤ y) (hy' : y < 2305843009213693951) :
    Calls Tryz.prog 139 #[.int .i64 k, .int .i64 a, .int .i64 b, .int .i64 x, .int .i64 y] w fun e w' => e = .returned (.tuple #[.int .i64 (Num.addP x (Num.padN k (64 * a + 4 * b))), .int .i64 (Num.addP y (Num.padN k (64 * a + 4 * b + 1))), .int .i64 (Num.tagN k (64 * a + 4 * b) (Num.addP x (Num.padN k (64 * a + 4 * b))) (Num.addP y (Num.padN k (64 * a + 4 * b + 1)))), .int .i64 0]) ∧ w' = w := by
  have h1 : (Num.elB k && (Num.clB a && Num.clB b)) = true := by rw [Num.elB_yes hk hk', Num.clB_yes ha ha', Num.clB_yes hb hb']; rfl
  have h2 := Num.elB_yes hx hx'
  have h3 := Num.elB_yes hy hy'
  go_enter Tryz.func139, Tryz.ntmps139
  go_wp2_with fail
  refine (isWay_calls _ _ _ _).mono ?_
  rintro e w' ⟨rfl, rfl⟩
  rw [h1]
  go_wp2_with fail
  refine (element_calls _ _).mono ?_
  rintro e w' ⟨rfl, rfl⟩
  go_wp2_with fail
  refine (element_calls _ _).mono ?_
  rintro e w' ⟨rfl, rfl⟩
  go_wp2_with fail
  refine (firstPad_calls _ _ _ ha ha' hb hb').mono ?_
  rintro e w' ⟨rfl, rfl⟩
  clear h1 h2 h3
  go_wp2_with fail
  refine (number_calls _ _ _ hk hk' (by omega) (by omega)).mono ?_
  rintro e w' ⟨rfl, rfl⟩
  go_wp2_with fail
  refine (plus_calls _ _ _ hx hx' (Num.padN_lo _ _) (Num.padN_hi _ _)).mono ?_
  rintro e w' ⟨rfl, rfl⟩
  go_wp2_with fail
  refine (number_calls _ _ _ hk hk' (by omega) (by omega)).mono ?_
  rintro e w' ⟨rfl, rfl⟩
  go_wp2_with fail
  refine (plus_calls _ _ _ hy hy' (Num.padN_lo _ _) (Num.padN_hi _ _)).mono ?_
  rintro e w' ⟨rfl, rfl⟩
  go_wp2_with fail
  refine (tag_calls _ _ _ _ _ hk hk' (by omega) (by omega) (Num.addP_lo _ _) (Num.addP_hi _ _) (Num.addP_lo _ _) (Num.addP_hi _ _)).mono ?_
  rintro e w' ⟨rfl, rfl⟩
  go_wp2_with fail
  exact bodyPost_ret (v := .tuple #[.int .i64 (Num.addP x (Num.padN k (64 * a + 4 * b))), .int .i64 (Num.addP y (Num.padN k (64 * a + 4 * b + 1))), .int .i64 (Num.tagN k (64 * a + 4 * b) (Num.addP x (Num.padN k (64 * a + 4 * b))) (Num.addP y (Num.padN k (64 * a + 4 * b + 1)))), .int .i64 0]) (by simp [results, Tryz.results139, go_sem]) rfl ⟨rfl, rfl⟩

/-- The call of package veil hands on what package pad answers: four results. -/
theorem veilSeal (k a b x y : Int) (w : World) (v0 v1 v2 v3 : Int)
    (h : Calls Tryz.prog 139 #[.int .i64 k, .int .i64 a, .int .i64 b, .int .i64 x, .int .i64 y] w fun e w' => e = .returned (.tuple #[.int .i64 v0, .int .i64 v1, .int .i64 v2, .int .i64 v3]) ∧ w' = w) :
    Calls Tryz.prog 91 #[.int .i64 k, .int .i64 a, .int .i64 b, .int .i64 x, .int .i64 y] w fun e w' => e = .returned (.tuple #[.int .i64 v0, .int .i64 v1, .int .i64 v2, .int .i64 v3]) ∧ w' = w := by
  have H : Hid (Calls Tryz.prog 139 #[.int .i64 k, .int .i64 a, .int .i64 b, .int .i64 x, .int .i64 y] w fun e w' => e = .returned (.tuple #[.int .i64 v0, .int .i64 v1, .int .i64 v2, .int .i64 v3]) ∧ w' = w) := h
  clear h
  go_enter Tryz.func91, Tryz.ntmps91
  go_wp2_with fail
  refine H.out.mono ?_
  rintro e w' ⟨rfl, rfl⟩
  go_wp2_with fail
  exact bodyPost_ret (v := .tuple #[.int .i64 v0, .int .i64 v1, .int .i64 v2, .int .i64 v3]) (by simp [results, Tryz.results91, go_sem]) rfl ⟨rfl, rfl⟩

end Go.Proofs.YtgfkgekaodibhaaGreat
