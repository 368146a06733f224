/- Contracts of the small functions of package veilkeep. -/
import Derived.Test.YtchideljndagjaaField
namespace Go.Proofs.Ytchideljndagjaa
open Go.ChangeShapes Go.WideShapes Go.ChangeAt Go.RowKit

theorem kplus_calls (a b : Int) (w : World) (ha : 0 ≤ a) (ha' : a < 2305843009213693951) (hb : 0 ≤ b) (hb' : b < 2305843009213693951) :
    Calls Try.prog 20 #[.int .i64 a, .int .i64 b] w fun e w' => e = .returned (.int .i64 (Num.addP a b)) ∧ w' = w := by
  go_enter Try.func20, Try.ntmps20
  go_wp2
  go_ret
  exact ⟨rfl, rfl⟩

theorem kless_calls (a b : Int) (w : World) (ha : 0 ≤ a) (ha' : a < 2305843009213693951) (hb : 0 ≤ b) (hb' : b < 2305843009213693951) :
    Calls Try.prog 23 #[.int .i64 a, .int .i64 b] w fun e w' => e = .returned (.int .i64 (Num.subP a b)) ∧ w' = w := by
  have H : Hid ((a + 2305843009213693951 - b) % 2305843009213693951 = Num.subP a b) := by show _ = (a - b + 2305843009213693951) % 2305843009213693951; congr 1; omega
  go_enter Try.func23, Try.ntmps23
  go_wp2
  go_ret
  exact ⟨congrArg (fun x => Ending.returned (.int .i64 x)) H.out, rfl⟩

theorem kelement_calls (a : Int) (w : World) :
    Calls Try.prog 44 #[.int .i64 a] w fun e w' => e = .returned (.bool (Num.elB a)) ∧ w' = w := by
  by_cases h : 0 ≤ a
  · by_cases h' : a < 2305843009213693951
    · have H : Hid (Num.elB a = true) := Num.elB_yes h h'
      go_enter Try.func44, Try.ntmps44
      go_wp2
      go_ret
      exact ⟨congrArg (fun x => Ending.returned (.bool x)) H.out.symm, rfl⟩
    · have H : Hid (Num.elB a = false) := Num.elB_no (fun x => h' x.2)
      go_enter Try.func44, Try.ntmps44
      go_wp2
      go_ret
      exact ⟨congrArg (fun x => Ending.returned (.bool x)) H.out.symm, rfl⟩
  · have H : Hid (Num.elB a = false) := Num.elB_no (fun x => h x.1)
    go_enter Try.func44, Try.ntmps44
    go_wp2
    go_ret
    exact ⟨congrArg (fun x => Ending.returned (.bool x)) H.out.symm, rfl⟩

theorem pick_calls (c n : Int) (w : World) (hc : -9223372036854775808 ≤ c) (hc' : c ≤ 9223372036854775807) (hn : 0 < n) (hn' : n ≤ 9223372036854775807) :
    Calls Try.prog 10 #[.int .i64 c, .int .i64 n] w fun e w' => e = .returned (.int .i64 (Num.pickN c n)) ∧ w' = w := by
  by_cases h : c < 0
  · have H : Hid (-(c + 1) % n = Num.pickN c n) := by show _ = Num.pickN c n; unfold Num.pickN; rw [if_pos h]
    go_enter Try.func10, Try.ntmps10
    go_wp2
    go_ret
    exact ⟨congrArg (fun x => Ending.returned (.int .i64 x)) (by rw [← Int.neg_tmod, Num.tmod_nn _ _ (by omega)]; exact H.out), rfl⟩
  · have H : Hid (c % n = Num.pickN c n) := by show _ = Num.pickN c n; unfold Num.pickN; rw [if_neg h]
    go_enter Try.func10, Try.ntmps10
    go_wp2
    go_ret
    exact ⟨congrArg (fun x => Ending.returned (.int .i64 x)) H.out, rfl⟩

/-- The cells of a row of integers. -/
def IRow (w : World) (b off : Nat) (zs : List Int) : Prop :=
  ∀ i, i < zs.length → w.cell? ⟨b, off + i, none⟩ = some (.int .i64 (zs.getD i 0))

theorem kelements_calls (b off len cap : Nat) (zs : List Int) (w : World) (hz : zs.length = len) (hl : len ≤ maxLen) (hr : IRow w b off zs) :
    Calls Try.prog 16 #[.slice (some ⟨b, off, none⟩) len cap] w fun e w' => e = .returned (.bool (zs.all Num.elB)) ∧ w' = w := by
  unfold maxLen at hl
  go_enter Try.func16, Try.ntmps16
  go_wp2
  go_loop [3] (fun i => ∃ k : Nat, k ≤ len ∧ i = .int .i64 k ∧ (zs.take k).all Num.elB = true) (fun i => len - (intOf i).toNat)
  case atStart => exact ⟨0, Nat.zero_le _, rfl, rfl⟩
  case round =>
    obtain ⟨k, hk, rfl, hall⟩ := hrel
    have HA : Hid ((zs.take k).all Num.elB = true) := hall
    clear hall
    by_cases hlt : k < len
    · have hc := hr k (by omega)
      obtain ⟨v, hv⟩ : ∃ v, v = zs.getD k 0 := ⟨_, rfl⟩
      rw [← hv] at hc
      have HV : Hid (v = zs.getD k 0) := hv
      clear hv
      by_cases h1 : v < 0
      · go_wp2
        go_ret
        exact ⟨congrArg (fun x => Ending.returned (.bool x)) (Num.all_off zs k (by omega) (by rw [← HV.out]; omega)).symm, rfl⟩
      · by_cases h2 : v < 2305843009213693951
        · go_wp2
          go_round
          case rel => exact ⟨k + 1, by omega, by go_num, Num.all_on zs k (by omega) HA.out (by rw [← HV.out]; omega)⟩
          case measure => simp [intOf]; omega
        · go_wp2
          go_ret
          exact ⟨congrArg (fun x => Ending.returned (.bool x)) (Num.all_off zs k (by omega) (by rw [← HV.out]; omega)).symm, rfl⟩
    · go_wp2
      go_ret
      exact ⟨congrArg (fun x => Ending.returned (.bool x)) (Num.all_end zs k (by omega) HA.out).symm, rfl⟩

end Go.Proofs.Ytchideljndagjaa
