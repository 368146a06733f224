/- Contracts of veilref: a number out of eight bytes. -/
import Derived.Test.YtchideljndagjaaGreatFrameG
namespace Go.Proofs.YtchideljndagjaaGreat
open Go.ChangeShapes Go.WideShapes Go.ChangeAt Go.RowKit
set_option linter.unusedVariables false

/-- The first c bytes from m on, as a number. -/
def loN (b : List Int) (m : Nat) : Nat → Int
  | 0 => 0
  | c + 1 => loN b m c + 256 ^ c * Frm.bAt b (m + c)

theorem loN_num (b : List Int) (m : Nat) : loN b m 8 = Frm.numAt b m := by
  unfold Frm.numAt
  simp only [loN, Nat.add_zero]
  omega

theorem loN_bd {b : List Int} (hb : Frm.isB b) (m c : Nat) : 0 ≤ loN b m c ∧ loN b m c < 256 ^ c := by
  induction c with
  | zero => simp [loN]
  | succ c ih =>
    have h := Frm.isB_at hb (m + c)
    have hp : (0 : Int) < 256 ^ c := Int.pow_pos (by omega)
    unfold loN
    have e : (256 : Int) ^ (c + 1) = 256 ^ c * 256 := Int.pow_succ _ _
    rw [e]
    have h1 : (256 : Int) ^ c * Frm.bAt b (m + c) ≤ 256 ^ c * 255 := Int.mul_le_mul_of_nonneg_left h.2 (Int.le_of_lt hp)
    have h2 : 0 ≤ (256 : Int) ^ c * Frm.bAt b (m + c) := Int.mul_nonneg (Int.le_of_lt hp) h.1
    omega

theorem ofInt_nat (x : Int) (h : 0 ≤ x) (h' : x < 18446744073709551616) : (BitVec.ofInt 64 x).toNat = x.toNat := by
  rw [BitVec.toNat_ofInt]
  have : x % ((2 ^ 64 : Nat) : Int) = x := Int.emod_eq_of_lt h (by simpa using h')
  rw [this]

theorem ofInt_wrap (y : Int) (h : 0 ≤ y) (h' : y < 18446744073709551616) : (BitVec.ofInt 64 (wrap64 y)).toNat = y.toNat := by
  rw [BitVec.toNat_ofInt]
  have : wrap64 y % ((2 ^ 64 : Nat) : Int) = y := by
    show wrap64 y % 18446744073709551616 = y
    unfold wrap64; omega
  rw [this]

/-- An or of numbers whose bits lie apart is their sum. -/
theorem or_nat (i : Nat) (x z : Nat) (hx : x < 2 ^ i) : x ||| (z * 2 ^ i) = x + z * 2 ^ i := by
  have h := Nat.shiftLeft_add_eq_or_of_lt hx z
  rw [Nat.shiftLeft_eq] at h
  rw [Nat.or_comm, ← h, Nat.add_comm]

theorem or_sum (c : Nat) (hc : c ≤ 7) (x z : Int) (hx : 0 ≤ x) (hx' : x < 256 ^ c) (hz : 0 ≤ z) (hz' : z ≤ 255) :
    bits .or .i64 x (wrap64 (z * 2 ^ (8 * c))) = wrap64 (x + 256 ^ c * z) := by
  have e8 : (2 : Int) ^ (8 * c) = 256 ^ c := by rw [Int.pow_mul]; rfl
  have n8 : (2 : Nat) ^ (8 * c) = 256 ^ c := by rw [Nat.pow_mul]
  have hp : (0 : Int) < 256 ^ c := Int.pow_pos (by omega)
  have hcap : (256 : Int) ^ c ≤ 72057594037927936 := by
    rcases (show c = 0 ∨ c = 1 ∨ c = 2 ∨ c = 3 ∨ c = 4 ∨ c = 5 ∨ c = 6 ∨ c = 7 by omega) with rfl | rfl | rfl | rfl | rfl | rfl | rfl | rfl <;> decide
  have hm0 : 0 ≤ z * 256 ^ c := Int.mul_nonneg hz (Int.le_of_lt hp)
  have hm1 : z * 256 ^ c ≤ 255 * 72057594037927936 := Int.mul_le_mul hz' hcap (Int.le_of_lt hp) (by omega)
  unfold bits
  show IntKind.i64.wrap ((BitVec.ofInt 64 x ||| BitVec.ofInt 64 (wrap64 (z * 2 ^ (8 * c)))).toNat : Int) = _
  rw [BitVec.toNat_or, e8, ofInt_nat x hx (by omega), ofInt_wrap _ hm0 (by omega)]
  have key : x.toNat ||| (z * 256 ^ c).toNat = x.toNat + z.toNat * 2 ^ (8 * c) := by
    have e : (z * 256 ^ c).toNat = z.toNat * 2 ^ (8 * c) := by
      rw [n8, Int.toNat_mul hz (Int.le_of_lt hp), Int.toNat_pow_of_nonneg (by omega)]; rfl
    rw [e]
    refine or_nat _ _ _ ?_
    have : (x.toNat : Int) < ((2 ^ (8 * c) : Nat) : Int) := by
      rw [n8, Int.natCast_pow]; show _ < (256 : Int) ^ c; omega
    omega
  rw [key, IntWalk.i64_left]
  congr 1
  rw [Int.natCast_add, Int.natCast_mul, n8, Int.natCast_pow, Int.mul_comm ((256 : Int) ^ c)]
  show (x.toNat : Int) + (z.toNat : Int) * (256 : Int) ^ c = _
  rw [Int.toNat_of_nonneg hx, Int.toNat_of_nonneg hz]

def accN (b : List Int) (m i : Nat) : Int := if i = 8 then Frm.gN b m else loN b m i

theorem acc_next {b : List Int} (hb : Frm.isB b) (m c : Nat) (hc : c < 8) : wrap64 (loN b m c + 256 ^ c * Frm.bAt b (m + c)) = accN b m (c + 1) := by
  have e : loN b m c + 256 ^ c * Frm.bAt b (m + c) = loN b m (c + 1) := rfl
  rw [e]
  obtain ⟨h0, h1⟩ := loN_bd hb m (c + 1)
  unfold accN
  by_cases h7 : c = 7
  · subst h7
    rw [if_pos rfl]
    have e8 := loN_num b m
    rw [show loN b m (7 + 1) = Frm.numAt b m from e8] at h0 h1 ⊢
    have h1' : Frm.numAt b m < 18446744073709551616 := h1
    unfold Frm.gN wrap64
    split <;> omega
  · rw [if_neg (by omega)]
    have hcap : (256 : Int) ^ (c + 1) ≤ 72057594037927936 := by
      rcases (show c = 0 ∨ c = 1 ∨ c = 2 ∨ c = 3 ∨ c = 4 ∨ c = 5 ∨ c = 6 by omega) with rfl | rfl | rfl | rfl | rfl | rfl | rfl <;> decide
    exact IntWalk.wrap64_in _ (by omega)

theorem acc_skip {b : List Int} (hb : Frm.isB b) (m c : Nat) (hc : c < 8) (hz : Frm.bAt b (m + c) = 0) : loN b m c = accN b m (c + 1) := by
  rw [← acc_next hb m c hc, hz, Int.mul_zero, Int.add_zero]
  obtain ⟨h0, h1⟩ := loN_bd hb m c
  have hcap : (256 : Int) ^ c ≤ 72057594037927936 := by
    rcases (show c = 0 ∨ c = 1 ∨ c = 2 ∨ c = 3 ∨ c = 4 ∨ c = 5 ∨ c = 6 ∨ c = 7 by omega) with rfl | rfl | rfl | rfl | rfl | rfl | rfl | rfl <;> decide
  exact (IntWalk.wrap64_in _ (by omega)).symm

set_option maxHeartbeats 1000000 in
set_option maxRecDepth 100000 in
theorem rnumber_calls (v : Value) (zs : List Int) (x : Int) (n : Nat) (w : World) (h : BytesAt w v zs) (hx : x = (n : Int)) (hn : n ≤ 1000000) :
    Calls Tryz.prog 161 #[v, .int .i64 x] w fun e w' => e = .returned (.int .i64 (Frm.gN zs n)) ∧ w' = w := by
  subst hx
  obtain ⟨a, cap, rfl, l2, l3, hb, hc⟩ := bytes_view h
  have HB := hideG hb
  have HC := hideG hc
  clear hc h hb
  obtain ⟨L, hL⟩ : ∃ L, L = zs.length := ⟨_, rfl⟩
  rw [← hL] at l2 HC ⊢
  have HL := hideG hL
  clear hL
  go_enter Tryz.func161, Tryz.ntmps161
  go_wp2_with fail
  go_loop [5, 6] (fun u i => ∃ c : Nat, c ≤ 8 ∧ i = .int .i64 (c : Int) ∧ u = .int .i64 (accN zs n c)) (fun _ i => (8 - intOf i).toNat)
  case atStart => exact ⟨0, by omega, rfl, rfl⟩
  case round =>
    obtain ⟨c, hc8, rfl, rfl⟩ := hrel
    by_cases hlt : c < 8
    · have ev : accN zs n c = loN zs n c := by unfold accN; rw [if_neg (by omega)]
      rw [ev]
      clear ev
      obtain ⟨v0, v1⟩ := loN_bd HB.out n c
      have hlt' : (c : Int) < 8 := by omega
      by_cases hin : n + c < L
      · obtain ⟨b, off, rfl, hbl, c0⟩ := HC.out (n + c) hin
        have BJ := Frm.isB_at HB.out (n + c)
        have HNX := hideG (show bits .or .i64 (loN zs n c) (wrap64 (Frm.bAt zs (n + c) * 2 ^ (8 * c))) = accN zs n (c + 1) by
          rw [or_sum c (by omega) _ _ v0 v1 BJ.1 BJ.2]; exact acc_next HB.out n c hlt)
        obtain ⟨z, hz⟩ : ∃ z, z = Frm.bAt zs (n + c) := ⟨_, rfl⟩
        rw [← hz] at c0 BJ HNX
        clear hz
        have hin' : (n : Int) + (c : Int) < (L : Int) := by omega
        have etn : ((n : Int) + (c : Int)).toNat = n + c := by omega
        generalize loN zs n c = u at *
        clear v0 v1
        go_wp2_with fail
        go_round
        case rel => exact ⟨c + 1, by omega, by go_num, by rw [← HNX.out]⟩
        case measure => simp [intOf]; omega
      · have HNX := hideG (acc_skip HB.out n c hlt (by unfold Frm.bAt; rw [List.getD_eq_getElem?_getD, List.getElem?_eq_none (by rw [← HL.out]; omega)]; rfl))
        have hin' : ¬ (n : Int) + (c : Int) < (L : Int) := by omega
        generalize loN zs n c = u at *
        clear v0 v1
        go_wp2_with fail
        go_round
        case rel => exact ⟨c + 1, by omega, by go_num, by rw [← HNX.out]⟩
        case measure => simp [intOf]; omega
    · have ec : c = 8 := by omega
      subst ec
      have HE := hideG (show accN zs n 8 = Frm.gN zs n from rfl)
      go_wp2_with fail
      go_ret
      exact ⟨ret_i64 HE.out, rfl⟩

end Go.Proofs.YtchideljndagjaaGreat
