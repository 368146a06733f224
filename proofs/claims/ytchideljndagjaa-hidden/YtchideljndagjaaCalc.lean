/- Contracts of the calculator of package veilkeep. -/
import Derived.Test.YtchideljndagjaaKeep
import Derived.Test.YtchideljndagjaaVeil
namespace Go.Proofs.Ytchideljndagjaa
open Go.ChangeShapes Go.WideShapes Go.ChangeAt Go.RowKit

theorem ctimes_calls (m : Value) (a b : Int) (w : World) (ha : 0 ≤ a) (ha' : a < 2305843009213693951) (hb : 0 ≤ b) (hb' : b < 2305843009213693951) :
    Calls Try.prog 13 #[m, .int .i64 a, .int .i64 b] w fun e w' => e = .returned (.int .i64 (Num.mulP a b)) ∧ w' = w := by
  have q := Num.elB_yes (Num.mulP_lo a b) (Num.mulP_hi a b)
  go_enter Try.func13, Try.ntmps13
  go_wp2_with fail
  refine (veilTimes_yes _ _ _ ha ha' hb hb').mono ?_
  rintro e w' ⟨rfl, rfl⟩
  go_wp2_with fail
  refine (kelement_calls _ _).mono ?_
  rintro e w' ⟨rfl, rfl⟩
  go_wp2_with fail
  go_ret
  exact ⟨rfl, rfl⟩

theorem cpower_calls (m : Value) (a b : Int) (w : World) (ha : 0 ≤ a) (ha' : a < 2305843009213693951) (hb : 0 ≤ b) (hb' : b ≤ 9223372036854775807) :
    Calls Try.prog 12 #[m, .int .i64 a, .int .i64 b] w fun e w' => e = .returned (.int .i64 (Num.powP a b)) ∧ w' = w := by
  have q := Num.elB_yes (Num.powP_lo a b) (Num.powP_hi a b)
  go_enter Try.func12, Try.ntmps12
  go_wp2_with fail
  refine (veilPower_yes _ _ _ ha ha' hb hb').mono ?_
  rintro e w' ⟨rfl, rfl⟩
  go_wp2_with fail
  refine (kelement_calls _ _).mono ?_
  rintro e w' ⟨rfl, rfl⟩
  go_wp2_with fail
  go_ret
  exact ⟨rfl, rfl⟩

theorem rows_calls (m : Value) (x y z : Int) (w : World) (hx : 0 ≤ x) (hx' : x < 2305843009213693951) (hy : 0 ≤ y) (hy' : y < 2305843009213693951) (hz : 0 ≤ z) (hz' : z < 2305843009213693951) :
    Calls Try.prog 11 #[m, .int .i64 x, .int .i64 y, .int .i64 z] w fun e w' => e = .returned (.bool true) ∧ w' = w := by
  have l1 := Num.mulP_lo x y
  have l2 := Num.mulP_hi x y
  have l3 := Num.mulP_lo y z
  have l4 := Num.mulP_hi y z
  have l5 := Num.mulP_lo x z
  have l6 := Num.mulP_hi x z
  have l7 := Num.addP_lo y z
  have l8 := Num.addP_hi y z
  have e1 : (Num.mulP x y == Num.mulP y x) = true := beq_iff_eq.2 (Num.mul_comm x y)
  have e2 : (Num.mulP (Num.mulP x y) z == Num.mulP x (Num.mulP y z)) = true := beq_iff_eq.2 (Num.mul_assoc x y z)
  have e3 : (Num.mulP x (Num.addP y z) == Num.addP (Num.mulP x y) (Num.mulP x z)) = true := beq_iff_eq.2 (Num.mul_add x y z)
  have e4 : (Num.mulP x 1 == x) = true := beq_iff_eq.2 (Num.mul_one x hx hx')
  go_enter Try.func11, Try.ntmps11
  go_wp2_with fail
  refine (ctimes_calls _ _ _ _ hx hx' hy hy').mono ?_
  rintro e w' ⟨rfl, rfl⟩
  go_wp2_with fail
  refine (ctimes_calls _ _ _ _ hy hy' hx hx').mono ?_
  rintro e w' ⟨rfl, rfl⟩
  go_wp2_with fail
  refine (ctimes_calls _ _ _ _ hy hy' hz hz').mono ?_
  rintro e w' ⟨rfl, rfl⟩
  go_wp2_with fail
  refine (ctimes_calls _ _ _ _ hx hx' hz hz').mono ?_
  rintro e w' ⟨rfl, rfl⟩
  go_wp2_with fail
  refine (ctimes_calls _ _ _ _ l1 l2 hz hz').mono ?_
  rintro e w' ⟨rfl, rfl⟩
  go_wp2_with fail
  refine (ctimes_calls _ _ _ _ hx hx' l3 l4).mono ?_
  rintro e w' ⟨rfl, rfl⟩
  go_wp2_with fail
  refine (kplus_calls _ _ _ hy hy' hz hz').mono ?_
  rintro e w' ⟨rfl, rfl⟩
  go_wp2_with fail
  refine (ctimes_calls _ _ _ _ hx hx' l7 l8).mono ?_
  rintro e w' ⟨rfl, rfl⟩
  go_wp2_with fail
  refine (ctimes_calls _ _ _ _ hx hx' (by omega) (by omega)).mono ?_
  rintro e w' ⟨rfl, rfl⟩
  go_wp2_with fail
  refine (kplus_calls _ _ _ l1 l2 l5 l6).mono ?_
  rintro e w' ⟨rfl, rfl⟩
  go_wp2_with fail
  go_ret
  exact ⟨rfl, rfl⟩

end Go.Proofs.Ytchideljndagjaa
