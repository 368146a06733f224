/- Contract of MaskNumber: the number i of a mask. -/
import Derived.Test.YtgfkgekaodibhaaGreatPad
import Derived.Test.YtgfkgekaodibhaaGreatGrow
namespace Go.Proofs.YtgfkgekaodibhaaGreat
open Go.ChangeShapes Go.WideShapes Go.ChangeAt Go.RowKit

theorem strAt_lo (s : Int) (i : Nat) : 0 ≤ Num.strAt s i := by unfold Num.strAt; omega
theorem strAt_hi (s : Int) (i : Nat) : Num.strAt s i < 4294967296 := by unfold Num.strAt; omega

theorem maskNumber_calls (k : Int) (i : Nat) (w : World) (ha : 0 ≤ k) (ha' : k < 2305843009213693951) (hi : i ≤ 12) :
    Calls Tryz.prog 138 #[.int .i64 k, .int .i64 ((i : Int) + 1)] w fun e w' => e = .returned (.int .i64 (Num.strAt k i)) ∧ w' = w := by
  go_enter Tryz.func138, Tryz.ntmps138
  go_wp2_with fail
  refine (number_calls _ _ _ ha ha' (by omega) (by omega)).mono ?_
  rintro e w' ⟨rfl, rfl⟩
  obtain ⟨p, hp⟩ : ∃ p, p = Num.padN k ((i : Int) + 1) := ⟨_, rfl⟩
  rw [← hp]
  have p1 : 0 ≤ p := by rw [hp]; exact Num.padN_lo _ _
  have p2 : p < 2305843009213693951 := by rw [hp]; exact Num.padN_hi _ _
  have HP := hideG hp
  clear hp
  have HQ := hideG (show Num.strAt k i = p / 1048576 % 4294967296 by rw [HP.out]; rfl)
  go_wp2_with fail
  go_ret
  rw [HQ.out]
  exact ⟨rfl, rfl⟩

end Go.Proofs.YtgfkgekaodibhaaGreat
