/- Contracts of Times and Power of package veil. -/
import Derived.Test.YtchideljndagjaaField
namespace Go.Proofs.Ytchideljndagjaa
open Go.ChangeShapes Go.WideShapes Go.ChangeAt Go.RowKit

theorem veilTimes_yes (a b : Int) (w : World) (ha : 0 ≤ a) (ha' : a < 2305843009213693951) (hb : 0 ≤ b) (hb' : b < 2305843009213693951) :
    Calls Try.prog 45 #[.int .i64 a, .int .i64 b] w fun e w' => e = .returned (.tuple #[.int .i64 (Num.mulP a b), .int .i64 0]) ∧ w' = w := by
  have q1 := Num.elB_yes ha ha'
  have q2 := Num.elB_yes hb hb'
  go_enter Try.func45, Try.ntmps45
  go_wp2_with fail
  refine (element_calls _ _).mono ?_
  rintro e w' ⟨rfl, rfl⟩
  go_wp2_with fail
  refine (element_calls _ _).mono ?_
  rintro e w' ⟨rfl, rfl⟩
  go_wp2_with fail
  refine (times_calls _ _ _ ha ha' hb hb').mono ?_
  rintro e w' ⟨rfl, rfl⟩
  go_wp2_with fail
  go_ret2
  exact ⟨rfl, rfl⟩

theorem veilTimes_no (a b : Int) (w : World) (h : (Num.elB a && Num.elB b) = false) :
    Calls Try.prog 45 #[.int .i64 a, .int .i64 b] w fun e w' => e = .returned (.tuple #[.int .i64 0, .int .i64 1]) ∧ w' = w := by
  cases q1 : Num.elB a
  · clear h
    go_enter Try.func45, Try.ntmps45
    go_wp2_with fail
    refine (element_calls _ _).mono ?_
    rintro e w' ⟨rfl, rfl⟩
    go_wp2_with fail
    go_ret2
    exact ⟨rfl, rfl⟩
  · rw [q1, Bool.true_and] at h
    go_enter Try.func45, Try.ntmps45
    go_wp2_with fail
    refine (element_calls _ _).mono ?_
    rintro e w' ⟨rfl, rfl⟩
    go_wp2_with fail
    refine (element_calls _ _).mono ?_
    rintro e w' ⟨rfl, rfl⟩
    go_wp2_with fail
    go_ret2
    exact ⟨rfl, rfl⟩

theorem veilPower_yes (a k : Int) (w : World) (ha : 0 ≤ a) (ha' : a < 2305843009213693951) (hk : 0 ≤ k) (hk' : k ≤ 9223372036854775807) :
    Calls Try.prog 43 #[.int .i64 a, .int .i64 k] w fun e w' => e = .returned (.tuple #[.int .i64 (Num.powP a k), .int .i64 0]) ∧ w' = w := by
  have q1 := Num.elB_yes ha ha'
  go_enter Try.func43, Try.ntmps43
  go_wp2_with fail
  refine (element_calls _ _).mono ?_
  rintro e w' ⟨rfl, rfl⟩
  go_wp2_with fail
  refine (power_calls _ _ _ ha ha' hk').mono ?_
  rintro e w' ⟨rfl, rfl⟩
  go_wp2_with fail
  go_ret2
  exact ⟨rfl, rfl⟩

theorem veilPower_no (a k : Int) (w : World) (h : Num.elB a = false ∨ k < 0) :
    Calls Try.prog 43 #[.int .i64 a, .int .i64 k] w fun e w' => e = .returned (.tuple #[.int .i64 0, .int .i64 1]) ∧ w' = w := by
  cases q1 : Num.elB a
  · clear h
    go_enter Try.func43, Try.ntmps43
    go_wp2_with fail
    refine (element_calls _ _).mono ?_
    rintro e w' ⟨rfl, rfl⟩
    go_wp2_with fail
    go_ret2
    exact ⟨rfl, rfl⟩
  · rw [q1] at h
    have hn : k < 0 := by rcases h with h | h; (exact absurd h (by decide)); exact h
    clear h
    go_enter Try.func43, Try.ntmps43
    go_wp2_with fail
    refine (element_calls _ _).mono ?_
    rintro e w' ⟨rfl, rfl⟩
    go_wp2_with fail
    go_ret2
    exact ⟨rfl, rfl⟩

end Go.Proofs.Ytchideljndagjaa
