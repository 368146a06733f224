/- Plain arithmetic of the walks: what the Go text of a product of two elements reckons is the product modulo 2305843009213693951. -/
import Derived.RowKit
import Derived.IntWalk
namespace Go.Proofs.YtgfkgekaodibhaaGreat.Num
open Go.RowKit Go.IntWalk
set_option linter.unusedVariables false

/-- Is it an element? -/
def elB (a : Int) : Bool := decide (0 ≤ a ∧ a < 2305843009213693951)
/-- Is it a client's number? -/
def clB (a : Int) : Bool := decide (1 ≤ a ∧ a ≤ 12)
theorem elB_yes {a : Int} (h : 0 ≤ a) (h' : a < 2305843009213693951) : elB a = true := decide_eq_true ⟨h, h'⟩
theorem elB_no {a : Int} (h : ¬ (0 ≤ a ∧ a < 2305843009213693951)) : elB a = false := decide_eq_false h
theorem elB_iff {a : Int} : elB a = true ↔ 0 ≤ a ∧ a < 2305843009213693951 := by simp [elB]
theorem elB_off {a : Int} : elB a = false ↔ ¬ (0 ≤ a ∧ a < 2305843009213693951) := by rw [elB, decide_eq_false_iff_not]
theorem clB_yes {a : Int} (h : 1 ≤ a) (h' : a ≤ 12) : clB a = true := decide_eq_true ⟨h, h'⟩
theorem clB_no {a : Int} (h : ¬ (1 ≤ a ∧ a ≤ 12)) : clB a = false := decide_eq_false h
theorem clB_iff {a : Int} : clB a = true ↔ 1 ≤ a ∧ a ≤ 12 := by simp [clB]
theorem clB_off {a : Int} : clB a = false ↔ ¬ (1 ≤ a ∧ a ≤ 12) := by rw [clB, decide_eq_false_iff_not]

theorem mul_bd (x y X Y : Int) (hx : 0 ≤ x) (hX : x ≤ X) (hy : 0 ≤ y) (hY : y ≤ Y) : 0 ≤ x * y ∧ x * y ≤ X * Y :=
  ⟨Int.mul_nonneg hx hy, Int.mul_le_mul hX hY hy (Int.le_trans hx hX)⟩

theorem tmod_nn (x y : Int) (hx : 0 ≤ x) : x.tmod y = x % y := Int.tmod_eq_emod_of_nonneg hx
theorem tdiv_nn (x y : Int) (hx : 0 ≤ x) : x.tdiv y = x / y := Int.tdiv_eq_ediv_of_nonneg hx

theorem expand (A B C D : Int) : (A * 2147483648 + B) * (C * 2147483648 + D) = A * C * 4611686018427387904 + (A * D + B * C) * 2147483648 + B * D := by grind

theorem times_form (a b : Int) (ha : 0 ≤ a) (ha' : a < 2305843009213693951) (hb : 0 ≤ b) (hb' : b < 2305843009213693951) :
    (wrap64 (wrap64 (wrap64 (2 * (a / 2147483648) * (b / 2147483648)) +
      wrap64 (wrap64 ((wrap64 (wrap64 (a / 2147483648 * (b % 2147483648)) + wrap64 (a % 2147483648 * (b / 2147483648)))).tdiv 1073741824) +
        wrap64 ((wrap64 (wrap64 (a / 2147483648 * (b % 2147483648)) + wrap64 (a % 2147483648 * (b / 2147483648)))).tmod 1073741824 * 2147483648))) +
      (wrap64 (a % 2147483648 * (b % 2147483648))).tmod 2305843009213693951)).tmod 2305843009213693951 = a * b % 2305843009213693951 := by
  have eA : a = a / 2147483648 * 2147483648 + a % 2147483648 := by omega
  have eB : b = b / 2147483648 * 2147483648 + b % 2147483648 := by omega
  have a1 : 0 ≤ a / 2147483648 ∧ a / 2147483648 ≤ 1073741823 := by omega
  have a2 : 0 ≤ a % 2147483648 ∧ a % 2147483648 ≤ 2147483647 := by omega
  have b1 : 0 ≤ b / 2147483648 ∧ b / 2147483648 ≤ 1073741823 := by omega
  have b2 : 0 ≤ b % 2147483648 ∧ b % 2147483648 ≤ 2147483647 := by omega
  generalize hA : a / 2147483648 = A at *
  generalize hB : a % 2147483648 = B at *
  generalize hC : b / 2147483648 = C at *
  generalize hD : b % 2147483648 = D at *
  clear hA hB hC hD
  have x := mul_bd A C _ _ a1.1 a1.2 b1.1 b1.2
  have y := mul_bd A D _ _ a1.1 a1.2 b2.1 b2.2
  have z := mul_bd B C _ _ a2.1 a2.2 b1.1 b1.2
  have v := mul_bd B D _ _ a2.1 a2.2 b2.1 b2.2
  have e : a * b = A * C * 4611686018427387904 + (A * D + B * C) * 2147483648 + B * D := by
    rw [eA, eB]; exact expand A B C D
  have e2 : 2 * A * C = 2 * (A * C) := Int.mul_assoc _ _ _
  rw [e, e2]
  generalize A * C = X at *
  generalize A * D = Y at *
  generalize B * C = Z at *
  generalize B * D = V at *
  rw [wrap64_in (2 * X) (by omega), wrap64_in Y (by omega), wrap64_in Z (by omega), wrap64_in (Y + Z) (by omega), wrap64_in V (by omega)]
  rw [tdiv_nn _ _ (by omega), tmod_nn (Y + Z) _ (by omega), tmod_nn V _ (by omega)]
  rw [wrap64_in ((Y + Z) / 1073741824) (by omega), wrap64_in ((Y + Z) % 1073741824 * 2147483648) (by omega)]
  rw [wrap64_in ((Y + Z) / 1073741824 + (Y + Z) % 1073741824 * 2147483648) (by omega)]
  rw [wrap64_in (2 * X + ((Y + Z) / 1073741824 + (Y + Z) % 1073741824 * 2147483648)) (by omega)]
  rw [wrap64_in (2 * X + ((Y + Z) / 1073741824 + (Y + Z) % 1073741824 * 2147483648) + V % 2305843009213693951) (by omega)]
  rw [tmod_nn _ _ (by omega)]
  omega

/-- Sum, difference, product and power of elements. -/
def addP (a b : Int) : Int := (a + b) % 2305843009213693951
def subP (a b : Int) : Int := (a - b + 2305843009213693951) % 2305843009213693951
def mulP (a b : Int) : Int := a * b % 2305843009213693951
def powP (a k : Int) : Int := a ^ k.toNat % 2305843009213693951
theorem addP_lo (a b : Int) : 0 ≤ addP a b := by unfold addP; omega
theorem addP_hi (a b : Int) : addP a b < 2305843009213693951 := by unfold addP; omega
theorem subP_lo (a b : Int) : 0 ≤ subP a b := by unfold subP; omega
theorem subP_hi (a b : Int) : subP a b < 2305843009213693951 := by unfold subP; omega
theorem mulP_lo (a b : Int) : 0 ≤ mulP a b := by unfold mulP; omega
theorem mulP_hi (a b : Int) : mulP a b < 2305843009213693951 := by unfold mulP; omega
theorem powP_lo (a b : Int) : 0 ≤ powP a b := by unfold powP; omega
theorem powP_hi (a b : Int) : powP a b < 2305843009213693951 := by unfold powP; omega

/-- The pad number q of k. -/
def padN (k q : Int) : Int :=
  mulP (mulP (addP k (mulP q 1099511627777)) (addP k (mulP q 1099511627777))) (addP k (mulP q 1099511627777))
theorem padN_lo (k q : Int) : 0 ≤ padN k q := mulP_lo _ _
theorem padN_hi (k q : Int) : padN k q < 2305843009213693951 := mulP_hi _ _

/-- What binds x and y. -/
def tagN (k q x y : Int) : Int :=
  addP (addP (mulP (padN k (q + 2)) x) (mulP (mulP (padN k (q + 2)) (padN k (q + 2))) y)) (padN k (q + 3))
theorem tagN_lo (k q x y : Int) : 0 ≤ tagN k q x y := addP_lo _ _
theorem tagN_hi (k q x y : Int) : tagN k q x y < 2305843009213693951 := addP_hi _ _

/-- Which of n things the raw number c speaks of. -/
def pickN (c n : Int) : Int := (if c < 0 then -(c + 1) else c) % n
theorem pickN_lo (c n : Int) (h : 0 < n) : 0 ≤ pickN c n := Int.emod_nonneg _ (by omega)
theorem pickN_hi (c n : Int) (h : 0 < n) : pickN c n < n := Int.emod_lt_of_pos _ h

theorem all_off (zs : List Int) (k : Nat) (hk : k < zs.length) (h : ¬ (0 ≤ zs.getD k 0 ∧ zs.getD k 0 < 2305843009213693951)) : zs.all elB = false := by
  rw [List.all_eq_false]
  refine ⟨zs[k], List.getElem_mem hk, ?_⟩
  rw [List.getD_eq_getElem?_getD, List.getElem?_eq_getElem hk] at h
  simp only [Option.getD_some] at h
  rw [elB_no h]; exact Bool.false_ne_true
theorem all_on (zs : List Int) (k : Nat) (hk : k < zs.length) (ha : (zs.take k).all elB = true) (h : 0 ≤ zs.getD k 0 ∧ zs.getD k 0 < 2305843009213693951) :
    (zs.take (k + 1)).all elB = true := by
  rw [List.getD_eq_getElem?_getD, List.getElem?_eq_getElem hk] at h
  simp only [Option.getD_some] at h
  rw [List.take_succ_eq_append_getElem hk, List.all_append, ha]
  simp [elB_yes h.1 h.2]
theorem all_end (zs : List Int) (k : Nat) (hk : zs.length ≤ k) (ha : (zs.take k).all elB = true) : zs.all elB = true := by
  rw [List.take_of_length_le hk] at ha; exact ha

theorem sub_add (x d : Int) (hx : 0 ≤ x) (hx' : x < 2305843009213693951) : subP (addP x d) d = x := by unfold subP addP; omega
theorem turned (z t : Int) (hz : 0 ≤ z) (hz' : z < 2305843009213693951) (ht : 0 ≤ t) (ht' : t < 2305843009213693950) : addP z (1 + t) ≠ z := by unfold addP; omega

theorem emod_id {a : Int} (h : 0 ≤ a) (h' : a < 2305843009213693951) : a % 2305843009213693951 = a := Int.emod_eq_of_lt h h'
theorem mul_comm (x y : Int) : mulP x y = mulP y x := by unfold mulP; rw [Int.mul_comm]
theorem mul_assoc (x y z : Int) : mulP (mulP x y) z = mulP x (mulP y z) := by
  unfold mulP; rw [Int.mul_emod, Int.emod_emod, ← Int.mul_emod, Int.mul_emod x, Int.emod_emod, ← Int.mul_emod, Int.mul_assoc]
theorem mul_add (x y z : Int) : mulP x (addP y z) = addP (mulP x y) (mulP x z) := by
  unfold mulP addP; rw [Int.mul_emod, Int.emod_emod, ← Int.mul_emod, ← Int.add_emod, Int.mul_add]
theorem mul_one (x : Int) (h : 0 ≤ x) (h' : x < 2305843009213693951) : mulP x 1 = x := by unfold mulP; rw [Int.mul_one, emod_id h h']

/-- What holds ahead of each round of the loop of a power: bounds, and the product of what is reckoned and of what is left is the power. -/
def PowInv (a k kk pp ss : Int) : Prop :=
  kk ≤ 9223372036854775807 ∧ 0 ≤ pp ∧ pp < 2305843009213693951 ∧ 0 ≤ ss ∧ ss < 2305843009213693951 ∧
    pp * ss ^ kk.toNat % 2305843009213693951 = a ^ k.toNat % 2305843009213693951

theorem powInv_start (a k : Int) (ha : 0 ≤ a) (ha' : a < 2305843009213693951) (hk : k ≤ 9223372036854775807) : PowInv a k k 1 a :=
  ⟨hk, by omega, by omega, ha, ha', by rw [Int.one_mul]⟩

theorem emod_bd (x : Int) : 0 ≤ x % 2305843009213693951 ∧ x % 2305843009213693951 < 2305843009213693951 := by omega

theorem pow_emod (s m : Int) (n : Nat) : (s % m) ^ n % m = s ^ n % m := by
  induction n with
  | zero => rw [Int.pow_zero, Int.pow_zero]
  | succ n ih => rw [Int.pow_succ, Int.pow_succ, Int.mul_emod, ih, Int.emod_emod, ← Int.mul_emod]

theorem mul_pow_emod (p s m : Int) (n : Nat) : p * (s % m) ^ n % m = p * s ^ n % m := by
  rw [Int.mul_emod, pow_emod, ← Int.mul_emod]

theorem sq_pow (s : Int) (n : Nat) : (s * s) ^ n = s ^ (2 * n) := by
  rw [Int.pow_mul, Int.pow_succ, Int.pow_one]

theorem powInv_odd {a k kk pp ss : Int} (h : PowInv a k kk pp ss) (hp : 0 < kk) (ho : (kk % 2 == 1) = true) :
    PowInv a k (kk / 2) (mulP pp ss) (mulP ss ss) := by
  unfold mulP
  obtain ⟨h1, h2, h3, h4, h5, h6⟩ := h
  have e : kk.toNat = 2 * (kk / 2).toNat + 1 := by simp at ho; omega
  refine ⟨by omega, (emod_bd _).1, (emod_bd _).2, (emod_bd _).1, (emod_bd _).2, ?_⟩
  rw [mul_pow_emod, Int.mul_emod, Int.emod_emod, ← Int.mul_emod, sq_pow, ← h6, e, Int.pow_succ, Int.mul_assoc, Int.mul_comm ss]

theorem powInv_even {a k kk pp ss : Int} (h : PowInv a k kk pp ss) (hp : 0 < kk) (ho : (kk % 2 == 1) = false) :
    PowInv a k (kk / 2) pp (mulP ss ss) := by
  unfold mulP
  obtain ⟨h1, h2, h3, h4, h5, h6⟩ := h
  have e : kk.toNat = 2 * (kk / 2).toNat := by simp at ho; omega
  refine ⟨by omega, h2, h3, (emod_bd _).1, (emod_bd _).2, ?_⟩
  rw [mul_pow_emod, sq_pow, ← h6, e]

theorem powInv_end {a k kk pp ss : Int} (h : PowInv a k kk pp ss) (hp : kk ≤ 0) : pp = powP a k := by
  unfold powP
  obtain ⟨h1, h2, h3, h4, h5, h6⟩ := h
  have e : kk.toNat = 0 := by omega
  rw [← h6, e, Int.pow_zero, Int.mul_one, Int.emod_eq_of_lt h2 h3]

theorem pow_zero (x : Int) : powP x 0 = 1 := by unfold powP; rw [Int.toNat_zero, Int.pow_zero]; omega
theorem pow_one (x : Int) (h : 0 ≤ x) (h' : x < 2305843009213693951) : powP x 1 = x := by
  unfold powP; rw [show (1 : Int).toNat = 1 from rfl, Int.pow_one, emod_id h h']
theorem pow_add (x s t : Int) (hs : 0 ≤ s) (ht : 0 ≤ t) : powP x (s + t) = mulP (powP x s) (powP x t) := by
  unfold powP mulP; rw [Int.toNat_add hs ht, Int.pow_add, ← Int.mul_emod]
theorem pow_swap (x s t : Int) : powP (powP x s) t = powP (powP x t) s := by
  unfold powP; rw [pow_emod, pow_emod, ← Int.pow_mul, ← Int.pow_mul, Nat.mul_comm]

theorem pow_neg (a k : Int) (h : k ≤ 0) : powP a k = 1 := by unfold powP; rw [show k.toNat = 0 by omega, Int.pow_zero]; rfl
theorem pow_even (a k : Int) (h : 0 < k) (ho : (k % 2 == 1) = false) : mulP (powP a (k / 2)) (powP a (k / 2)) = powP a k := by
  rw [← pow_add _ _ _ (by omega) (by omega)]; congr 1; simp at ho; omega
theorem pow_odd (a k : Int) (h : 0 < k) (ho : (k % 2 == 1) = true) : mulP (mulP (powP a (k / 2)) (powP a (k / 2))) a = powP a k := by
  rw [← pow_add _ _ _ (by omega) (by omega)]
  have e : k = k / 2 + k / 2 + 1 := by simp at ho; omega
  unfold powP mulP
  conv => rhs; rw [e, Int.toNat_add (by omega) (by omega), show (1 : Int).toNat = 1 from rfl, Int.pow_succ]
  rw [Int.mul_emod, Int.emod_emod, ← Int.mul_emod]

theorem cube (w : Int) : powP w 3 = mulP (mulP w w) w := by
  unfold powP mulP
  rw [show (3 : Int).toNat = 3 from rfl, Int.pow_succ, Int.pow_succ, Int.pow_one, Int.mul_emod (w * w % _), Int.emod_emod, ← Int.mul_emod]
theorem stepped (k i : Int) : addP (addP k (mulP i 1099511627777)) 1099511627777 = addP k (mulP (i + 1) 1099511627777) := by unfold addP mulP; omega
theorem stepped_zero (k : Int) (h : 0 ≤ k) (h' : k < 2305843009213693951) : addP k (mulP 0 1099511627777) = k := by unfold addP mulP; omega

/-- A mask: the numbers of a seed. -/
def strAt (seed : Int) (i : Nat) : Int := padN seed ((i : Int) + 1) / 1048576 % 4294967296
def strL (seed : Int) (n : Nat) : List Int := (List.range n).map (strAt seed)
theorem strL_succ (seed : Int) (n : Nat) : strL seed (n + 1) = strL seed n ++ [strAt seed n] := by
  unfold strL; rw [List.range_succ, List.map_append]; rfl
theorem strL_length (seed : Int) (n : Nat) : (strL seed n).length = n := by unfold strL; simp

/-! ### Products by doubling -/
theorem half (b : Int) (n : Nat) : b / 2 ^ (n + 1) = b / 2 ^ n / 2 := by
  rw [Int.pow_succ, Int.ediv_ediv_of_nonneg (Int.pow_nonneg (by omega))]
theorem bit_even (a b rr : Int) (n : Nat) (hb : 0 ≤ b) (hr : rr = mulP a (b / 2 ^ (n + 1))) (ht : ((b / 2 ^ n).tmod 2 == 1) = false) : addP rr rr = mulP a (b / 2 ^ n) := by
  have hx : 0 ≤ b / 2 ^ n := Int.ediv_nonneg hb (Int.pow_nonneg (by omega))
  rw [half] at hr
  rw [tmod_nn _ _ hx] at ht
  generalize b / 2 ^ n = X at *
  have e : X = 2 * (X / 2) := by simp at ht; omega
  unfold mulP at *
  unfold addP
  rw [e, show a * (2 * (X / 2)) = 2 * (a * (X / 2)) by rw [Int.mul_left_comm]]
  generalize a * (X / 2) = Z at *
  omega
theorem bit_odd (a b rr : Int) (n : Nat) (hb : 0 ≤ b) (hr : rr = mulP a (b / 2 ^ (n + 1))) (ht : ((b / 2 ^ n).tmod 2 == 1) = true) : addP (addP rr rr) a = mulP a (b / 2 ^ n) := by
  have hx : 0 ≤ b / 2 ^ n := Int.ediv_nonneg hb (Int.pow_nonneg (by omega))
  rw [half] at hr
  rw [tmod_nn _ _ hx] at ht
  generalize b / 2 ^ n = X at *
  have e : X = 2 * (X / 2) + 1 := by simp at ht; omega
  unfold mulP at *
  unfold addP
  rw [e, show a * (2 * (X / 2) + 1) = 2 * (a * (X / 2)) + a by rw [Int.mul_add, Int.mul_left_comm, Int.mul_one]]
  generalize a * (X / 2) = Z at *
  omega
theorem bit_first (a b : Int) (n : Nat) (hb : 0 ≤ b) (hb' : b < 2 ^ n) : (0 : Int) = mulP a (b / 2 ^ n) := by
  rw [Int.ediv_eq_zero_of_lt hb hb']; unfold mulP; rw [Int.mul_zero]; rfl
theorem bit_last (a b : Int) : mulP a (b / 2 ^ 0) = mulP a b := by rw [Int.pow_zero, Int.ediv_one]

end Go.Proofs.YtgfkgekaodibhaaGreat.Num
