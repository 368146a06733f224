/- Contracts of the plain functions of package veilref: the document's own products, powers, sums. -/
import Derived.Test.YtchideljndagjaaGreatRows
import Derived.Test.YtchideljndagjaaGreatNumAll
import Derived.WalkKit
import Derived.ProofKit
import Derived.OpenShut
namespace Go.Proofs.YtchideljndagjaaGreat
open Go.ChangeShapes Go.WideShapes Go.ChangeAt Go.RowKit

theorem hideH {p : Prop} (h : p) : Hid p := h

theorem rplus_calls (a b : Int) (w : World) (ha : 0 ≤ a) (ha' : a < 2305843009213693951) (hb : 0 ≤ b) (hb' : b < 2305843009213693951) :
    Calls Tryz.prog 136 #[.int .i64 a, .int .i64 b] w fun e w' => e = .returned (.int .i64 (Num.addP a b)) ∧ w' = w := by
  by_cases h : a + b < 2305843009213693951
  · have H : Hid (a + b = Num.addP a b) := by show _ = (a + b) % 2305843009213693951; omega
    go_enter Tryz.func136, Tryz.ntmps136
    go_wp2
    go_ret
    exact ⟨congrArg (fun x => Ending.returned (.int .i64 x)) H.out, rfl⟩
  · have H : Hid (a + b - 2305843009213693951 = Num.addP a b) := by show _ = (a + b) % 2305843009213693951; omega
    go_enter Tryz.func136, Tryz.ntmps136
    go_wp2
    go_ret
    exact ⟨congrArg (fun x => Ending.returned (.int .i64 x)) H.out, rfl⟩

theorem rless_calls (a b : Int) (w : World) (ha : 0 ≤ a) (ha' : a < 2305843009213693951) (hb : 0 ≤ b) (hb' : b < 2305843009213693951) :
    Calls Tryz.prog 142 #[.int .i64 a, .int .i64 b] w fun e w' => e = .returned (.int .i64 (Num.subP a b)) ∧ w' = w := by
  by_cases h : a < b
  · have H : Hid (a + 2305843009213693951 - b = Num.subP a b) := by show _ = (a - b + 2305843009213693951) % 2305843009213693951; omega
    go_enter Tryz.func142, Tryz.ntmps142
    go_wp2
    go_ret
    exact ⟨congrArg (fun x => Ending.returned (.int .i64 x)) H.out, rfl⟩
  · have H : Hid (a - b = Num.subP a b) := by show _ = (a - b + 2305843009213693951) % 2305843009213693951; omega
    go_enter Tryz.func142, Tryz.ntmps142
    go_wp2
    go_ret
    exact ⟨congrArg (fun x => Ending.returned (.int .i64 x)) H.out, rfl⟩

set_option maxHeartbeats 400000 in
theorem product_calls (a b : Int) (w : World) (ha : 0 ≤ a) (ha' : a < 2305843009213693951) (hb : 0 ≤ b) (hb' : b < 2305843009213693951) :
    Calls Tryz.prog 77 #[.int .i64 a, .int .i64 b] w fun e w' => e = .returned (.int .i64 (Num.mulP a b)) ∧ w' = w := by
  go_enter Tryz.func77, Tryz.ntmps77
  go_wp2
  go_loop [5, 6] (fun r i => ∃ ii rr : Int, -1 ≤ ii ∧ ii ≤ 60 ∧ i = .int .i64 ii ∧ r = .int .i64 rr ∧ rr = Num.mulP a (b / 2 ^ (ii + 1).toNat)) (fun _ i => (intOf i + 1).toNat)
  case atStart => exact ⟨60, 0, by omega, by omega, rfl, rfl, Num.bit_first a b 61 hb (by omega)⟩
  case round =>
    obtain ⟨ii, rr, hn, hn', rfl, rfl, hr⟩ := hrel
    have r1 : 0 ≤ rr := by rw [hr]; exact Num.mulP_lo _ _
    have r2 : rr < 2305843009213693951 := by rw [hr]; exact Num.mulP_hi _ _
    by_cases h : 0 ≤ ii
    · have HR : Hid (rr = Num.mulP a (b / 2 ^ (ii.toNat + 1))) := by rw [show ii.toNat + 1 = (ii + 1).toNat by omega]; exact hr
      clear hr
      have e1 : (ii - 1 + 1).toNat = ii.toNat := by omega
      have E1 : Hid ((ii - 1 + 1).toNat = ii.toNat) := e1
      clear e1
      go_wp2_with fail
      refine (rplus_calls _ _ _ r1 r2 r1 r2).mono ?_
      rintro e w' ⟨rfl, rfl⟩
      cases ht : ((b / 2 ^ ii.toNat).tmod 2 == 1)
      · go_wp2_with fail
        go_round
        case rel => exact ⟨ii - 1, _, by omega, by omega, rfl, rfl, by rw [E1.out]; exact Num.bit_even a b rr _ hb HR.out ht⟩
        case measure => simp [intOf]; omega
      · go_wp2_with fail
        refine (rplus_calls _ _ _ (Num.addP_lo _ _) (Num.addP_hi _ _) ha ha').mono ?_
        rintro e w' ⟨rfl, rfl⟩
        go_wp2_with fail
        go_round
        case rel => exact ⟨ii - 1, _, by omega, by omega, rfl, rfl, by rw [E1.out]; exact Num.bit_odd a b rr _ hb HR.out ht⟩
        case measure => simp [intOf]; omega
    · have HR : Hid (rr = Num.mulP a b) := by
        show rr = Num.mulP a b
        rw [hr, show (ii + 1).toNat = 0 by omega]; exact Num.bit_last a b
      clear hr
      go_wp2
      go_ret
      exact ⟨congrArg (fun x => Ending.returned (.int .i64 x)) HR.out, rfl⟩

theorem raised_calls (a : Int) (ha : 0 ≤ a) (ha' : a < 2305843009213693951) : ∀ (n : Nat) (k : Int) (w : World), k.toNat ≤ n → k ≤ 9223372036854775807 →
    Calls Tryz.prog 79 #[.int .i64 a, .int .i64 k] w fun e w' => e = .returned (.int .i64 (Num.powP a k)) ∧ w' = w := by
  intro n
  induction n with
  | zero =>
    intro k w hk hk'
    have hp : k ≤ 0 := by omega
    have H : Hid (1 = Num.powP a k) := by show 1 = Num.powP a k; exact (Num.pow_neg a k hp).symm
    go_enter Tryz.func79, Tryz.ntmps79
    go_wp2_with fail
    go_ret
    exact ⟨congrArg (fun x => Ending.returned (.int .i64 x)) H.out, rfl⟩
  | succ n ih =>
    intro k w hk hk'
    have IH : Hid _ := hideH ih
    clear ih
    by_cases hp : k ≤ 0
    · have H : Hid (1 = Num.powP a k) := by show 1 = Num.powP a k; exact (Num.pow_neg a k hp).symm
      go_enter Tryz.func79, Tryz.ntmps79
      go_wp2_with fail
      go_ret
      exact ⟨congrArg (fun x => Ending.returned (.int .i64 x)) H.out, rfl⟩
    · cases ho : (k % 2 == 1)
      · have H : Hid (Num.mulP (Num.powP a (k / 2)) (Num.powP a (k / 2)) = Num.powP a k) := Num.pow_even a k (by omega) ho
        go_enter Tryz.func79, Tryz.ntmps79
        go_wp2_with fail
        refine (IH.out _ _ (by omega) (by omega)).mono ?_
        rintro e w' ⟨rfl, rfl⟩
        go_wp2_with fail
        refine (product_calls _ _ _ (Num.powP_lo _ _) (Num.powP_hi _ _) (Num.powP_lo _ _) (Num.powP_hi _ _)).mono ?_
        rintro e w' ⟨rfl, rfl⟩
        go_wp2_with fail
        go_ret
        exact ⟨congrArg (fun x => Ending.returned (.int .i64 x)) H.out, rfl⟩
      · have H : Hid (Num.mulP (Num.mulP (Num.powP a (k / 2)) (Num.powP a (k / 2))) a = Num.powP a k) := Num.pow_odd a k (by omega) ho
        go_enter Tryz.func79, Tryz.ntmps79
        go_wp2_with fail
        refine (IH.out _ _ (by omega) (by omega)).mono ?_
        rintro e w' ⟨rfl, rfl⟩
        go_wp2_with fail
        refine (product_calls _ _ _ (Num.powP_lo _ _) (Num.powP_hi _ _) (Num.powP_lo _ _) (Num.powP_hi _ _)).mono ?_
        rintro e w' ⟨rfl, rfl⟩
        go_wp2_with fail
        refine (product_calls _ _ _ (Num.mulP_lo _ _) (Num.mulP_hi _ _) ha ha').mono ?_
        rintro e w' ⟨rfl, rfl⟩
        go_wp2_with fail
        go_ret
        exact ⟨congrArg (fun x => Ending.returned (.int .i64 x)) H.out, rfl⟩

theorem relement_calls (a : Int) (w : World) :
    Calls Tryz.prog 76 #[.int .i64 a] w fun e w' => e = .returned (.bool (Num.elB a)) ∧ w' = w := by
  by_cases h : 0 ≤ a
  · by_cases h' : a < 2305843009213693951
    · have H : Hid (Num.elB a = true) := Num.elB_yes h h'
      go_enter Tryz.func76, Tryz.ntmps76
      go_wp2
      go_ret
      exact ⟨congrArg (fun x => Ending.returned (.bool x)) H.out.symm, rfl⟩
    · have H : Hid (Num.elB a = false) := Num.elB_no (fun x => h' x.2)
      go_enter Tryz.func76, Tryz.ntmps76
      go_wp2
      go_ret
      exact ⟨congrArg (fun x => Ending.returned (.bool x)) H.out.symm, rfl⟩
  · have H : Hid (Num.elB a = false) := Num.elB_no (fun x => h x.1)
    go_enter Tryz.func76, Tryz.ntmps76
    go_wp2
    go_ret
    exact ⟨congrArg (fun x => Ending.returned (.bool x)) H.out.symm, rfl⟩

theorem rparty_calls (a : Int) (w : World) :
    Calls Tryz.prog 146 #[.int .i64 a] w fun e w' => e = .returned (.bool (Num.clB a)) ∧ w' = w := by
  by_cases h : 1 ≤ a
  · by_cases h' : a ≤ 12
    · have H : Hid (Num.clB a = true) := Num.clB_yes h h'
      go_enter Tryz.func146, Tryz.ntmps146
      go_wp2
      go_ret
      exact ⟨congrArg (fun x => Ending.returned (.bool x)) H.out.symm, rfl⟩
    · have H : Hid (Num.clB a = false) := Num.clB_no (fun x => h' x.2)
      go_enter Tryz.func146, Tryz.ntmps146
      go_wp2
      go_ret
      exact ⟨congrArg (fun x => Ending.returned (.bool x)) H.out.symm, rfl⟩
  · have H : Hid (Num.clB a = false) := Num.clB_no (fun x => h x.1)
    go_enter Tryz.func146, Tryz.ntmps146
    go_wp2
    go_ret
    exact ⟨congrArg (fun x => Ending.returned (.bool x)) H.out.symm, rfl⟩

theorem rTimes_yes (a b : Int) (w : World) (ha : 0 ≤ a) (ha' : a < 2305843009213693951) (hb : 0 ≤ b) (hb' : b < 2305843009213693951) :
    Calls Tryz.prog 24 #[.int .i64 a, .int .i64 b] w fun e w' => e = .returned (.tuple #[.int .i64 (Num.mulP a b), .int .i64 0]) ∧ w' = w := by
  have q1 := Num.elB_yes ha ha'
  have q2 := Num.elB_yes hb hb'
  go_enter Tryz.func24, Tryz.ntmps24
  go_wp2_with fail
  refine (relement_calls _ _).mono ?_
  rintro e w' ⟨rfl, rfl⟩
  go_wp2_with fail
  refine (relement_calls _ _).mono ?_
  rintro e w' ⟨rfl, rfl⟩
  go_wp2_with fail
  refine (product_calls _ _ _ ha ha' hb hb').mono ?_
  rintro e w' ⟨rfl, rfl⟩
  go_wp2_with fail
  go_ret2
  exact ⟨rfl, rfl⟩

theorem rTimes_no (a b : Int) (w : World) (h : (Num.elB a && Num.elB b) = false) :
    Calls Tryz.prog 24 #[.int .i64 a, .int .i64 b] w fun e w' => e = .returned (.tuple #[.int .i64 0, .int .i64 1]) ∧ w' = w := by
  cases q1 : Num.elB a
  · clear h
    go_enter Tryz.func24, Tryz.ntmps24
    go_wp2_with fail
    refine (relement_calls _ _).mono ?_
    rintro e w' ⟨rfl, rfl⟩
    go_wp2_with fail
    go_ret2
    exact ⟨rfl, rfl⟩
  · rw [q1, Bool.true_and] at h
    go_enter Tryz.func24, Tryz.ntmps24
    go_wp2_with fail
    refine (relement_calls _ _).mono ?_
    rintro e w' ⟨rfl, rfl⟩
    go_wp2_with fail
    refine (relement_calls _ _).mono ?_
    rintro e w' ⟨rfl, rfl⟩
    go_wp2_with fail
    go_ret2
    exact ⟨rfl, rfl⟩

theorem rPower_yes (a k : Int) (w : World) (ha : 0 ≤ a) (ha' : a < 2305843009213693951) (hk : 0 ≤ k) (hk' : k ≤ 9223372036854775807) :
    Calls Tryz.prog 27 #[.int .i64 a, .int .i64 k] w fun e w' => e = .returned (.tuple #[.int .i64 (Num.powP a k), .int .i64 0]) ∧ w' = w := by
  have q1 := Num.elB_yes ha ha'
  go_enter Tryz.func27, Tryz.ntmps27
  go_wp2_with fail
  refine (relement_calls _ _).mono ?_
  rintro e w' ⟨rfl, rfl⟩
  go_wp2_with fail
  refine (raised_calls _ ha ha' _ _ _ (Nat.le_refl _) hk').mono ?_
  rintro e w' ⟨rfl, rfl⟩
  go_wp2_with fail
  go_ret2
  exact ⟨rfl, rfl⟩

theorem rPower_no (a k : Int) (w : World) (h : Num.elB a = false ∨ k < 0) :
    Calls Tryz.prog 27 #[.int .i64 a, .int .i64 k] w fun e w' => e = .returned (.tuple #[.int .i64 0, .int .i64 1]) ∧ w' = w := by
  cases q1 : Num.elB a
  · clear h
    go_enter Tryz.func27, Tryz.ntmps27
    go_wp2_with fail
    refine (relement_calls _ _).mono ?_
    rintro e w' ⟨rfl, rfl⟩
    go_wp2_with fail
    go_ret2
    exact ⟨rfl, rfl⟩
  · rw [q1] at h
    have hn : k < 0 := by rcases h with h | h; (exact absurd h (by decide)); exact h
    clear h
    go_enter Tryz.func27, Tryz.ntmps27
    go_wp2_with fail
    refine (relement_calls _ _).mono ?_
    rintro e w' ⟨rfl, rfl⟩
    go_wp2_with fail
    go_ret2
    exact ⟨rfl, rfl⟩

end Go.Proofs.YtchideljndagjaaGreat
