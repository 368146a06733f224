/- Contracts of package field, and of the bounds. -/
import Derived.Test.YtchideljndagjaaRows
import Derived.Test.YtchideljndagjaaNumAll
import Derived.WalkKit
import Derived.ProofKit
import Derived.OpenShut
namespace Go.Proofs.Ytchideljndagjaa
open Go.ChangeShapes Go.WideShapes Go.ChangeAt Go.RowKit

theorem plus_calls (a b : Int) (w : World) (ha : 0 ≤ a) (ha' : a < 2305843009213693951) (hb : 0 ≤ b) (hb' : b < 2305843009213693951) :
    Calls Try.prog 71 #[.int .i64 a, .int .i64 b] w fun e w' => e = .returned (.int .i64 (Num.addP a b)) ∧ w' = w := by
  go_enter Try.func71, Try.ntmps71
  go_wp2
  go_ret
  exact ⟨rfl, rfl⟩

theorem minus_calls (a b : Int) (w : World) (ha : 0 ≤ a) (ha' : a < 2305843009213693951) (hb : 0 ≤ b) (hb' : b < 2305843009213693951) :
    Calls Try.prog 76 #[.int .i64 a, .int .i64 b] w fun e w' => e = .returned (.int .i64 (Num.subP a b)) ∧ w' = w := by
  go_enter Try.func76, Try.ntmps76
  go_wp2
  go_ret
  exact ⟨rfl, rfl⟩

theorem times_calls (a b : Int) (w : World) (ha : 0 ≤ a) (ha' : a < 2305843009213693951) (hb : 0 ≤ b) (hb' : b < 2305843009213693951) :
    Calls Try.prog 66 #[.int .i64 a, .int .i64 b] w fun e w' => e = .returned (.int .i64 (Num.mulP a b)) ∧ w' = w := by
  go_enter Try.func66, Try.ntmps66
  go_wp2
  go_ret
  exact ⟨congrArg (fun x => Ending.returned (.int .i64 x)) (Num.times_form a b ha ha' hb hb'), rfl⟩

theorem element_calls (a : Int) (w : World) :
    Calls Try.prog 64 #[.int .i64 a] w fun e w' => e = .returned (.bool (Num.elB a)) ∧ w' = w := by
  by_cases h : 0 ≤ a
  · by_cases h' : a < 2305843009213693951
    · have H : Hid (Num.elB a = true) := Num.elB_yes h h'
      go_enter Try.func64, Try.ntmps64
      go_wp2
      go_ret
      exact ⟨congrArg (fun x => Ending.returned (.bool x)) H.out.symm, rfl⟩
    · have H : Hid (Num.elB a = false) := Num.elB_no (fun x => h' x.2)
      go_enter Try.func64, Try.ntmps64
      go_wp2
      go_ret
      exact ⟨congrArg (fun x => Ending.returned (.bool x)) H.out.symm, rfl⟩
  · have H : Hid (Num.elB a = false) := Num.elB_no (fun x => h x.1)
    go_enter Try.func64, Try.ntmps64
    go_wp2
    go_ret
    exact ⟨congrArg (fun x => Ending.returned (.bool x)) H.out.symm, rfl⟩

theorem client_calls (a : Int) (w : World) :
    Calls Try.prog 94 #[.int .i64 a] w fun e w' => e = .returned (.bool (Num.clB a)) ∧ w' = w := by
  by_cases h : 1 ≤ a
  · by_cases h' : a ≤ 12
    · have H : Hid (Num.clB a = true) := Num.clB_yes h h'
      go_enter Try.func94, Try.ntmps94
      go_wp2
      go_ret
      exact ⟨congrArg (fun x => Ending.returned (.bool x)) H.out.symm, rfl⟩
    · have H : Hid (Num.clB a = false) := Num.clB_no (fun x => h' x.2)
      go_enter Try.func94, Try.ntmps94
      go_wp2
      go_ret
      exact ⟨congrArg (fun x => Ending.returned (.bool x)) H.out.symm, rfl⟩
  · have H : Hid (Num.clB a = false) := Num.clB_no (fun x => h x.1)
    go_enter Try.func94, Try.ntmps94
    go_wp2
    go_ret
    exact ⟨congrArg (fun x => Ending.returned (.bool x)) H.out.symm, rfl⟩

theorem power_calls (a k : Int) (w : World) (ha : 0 ≤ a) (ha' : a < 2305843009213693951) (hk : k ≤ 9223372036854775807) :
    Calls Try.prog 65 #[.int .i64 a, .int .i64 k] w fun e w' => e = .returned (.int .i64 (Num.powP a k)) ∧ w' = w := by
  go_enter Try.func65, Try.ntmps65
  go_wp2
  go_loop [1, 5, 6] (fun k' p s => ∃ kk pp ss : Int, k' = .int .i64 kk ∧ p = .int .i64 pp ∧ s = .int .i64 ss ∧ Num.PowInv a k kk pp ss) (fun k' _ _ => (intOf k').toNat)
  case atStart => exact ⟨_, _, _, rfl, rfl, rfl, Num.powInv_start a k ha ha' hk⟩
  case round =>
    obtain ⟨kk, pp, ss, rfl, rfl, rfl, hi⟩ := hrel
    have q1 := hi.1
    have q2 := hi.2.1
    have q3 := hi.2.2.1
    have q4 := hi.2.2.2.1
    have q5 := hi.2.2.2.2.1
    have H : Hid (Num.PowInv a k kk pp ss) := hi
    clear hi
    by_cases hp : 0 < kk
    · by_cases ho : kk % 2 = 1
      · have ho' : (kk % 2 == 1) = true := by simp [ho]
        clear ho
        go_wp2_with (go_at_call 66; refine (times_calls _ _ _ (by assumption) (by assumption) (by assumption) (by assumption)).mono ?_; rintro e w' ⟨rfl, rfl⟩)
        go_round
        case rel => exact ⟨_, _, _, rfl, rfl, rfl, Num.powInv_odd H.out hp ho'⟩
        case measure => simp [intOf]; omega
      · have ho' : (kk % 2 == 1) = false := by simp [ho]
        clear ho
        go_wp2_with (go_at_call 66; refine (times_calls _ _ _ (by assumption) (by assumption) (by assumption) (by assumption)).mono ?_; rintro e w' ⟨rfl, rfl⟩)
        go_round
        case rel => exact ⟨_, _, _, rfl, rfl, rfl, Num.powInv_even H.out hp ho'⟩
        case measure => simp [intOf]; omega
    · go_wp2
      go_ret
      exact ⟨congrArg (fun x => Ending.returned (.int .i64 x)) (Num.powInv_end H.out hp), rfl⟩

end Go.Proofs.Ytchideljndagjaa
