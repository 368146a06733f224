/- Plain arithmetic of the walks: what the Go text of a product of two elements reckons is the product modulo 2305843009213693951. -/
import Derived.RowKit
import Derived.IntWalk
namespace Go.Proofs.YtchideljndagjabGreat.Num
open Go.RowKit Go.IntWalk
set_option linter.unusedVariables false
def elB (a : Int) : Bool := decide (0 ≤ a ∧ a < 2305843009213693951)
def clB (a : Int) : Bool := decide (1 ≤ a ∧ a ≤ 12)
theorem elB_yes {a : Int} (h : 0 ≤ a) (h' : a < 2305843009213693951) : elB a = true := decide_eq_true ⟨h, h'⟩
theorem elB_no {a : Int} (h : ¬ (0 ≤ a ∧ a < 2305843009213693951)) : elB a = false := decide_eq_false h
theorem elB_iff {a : Int} : elB a = true ↔ 0 ≤ a ∧ a < 2305843009213693951 := by simp [elB]
theorem elB_off {a : Int} : elB a = false ↔ ¬ (0 ≤ a ∧ a < 2305843009213693951) := by rw [elB, decide_eq_false_iff_not]
theorem clB_yes {a : Int} (h : 1 ≤ a) (h' : a ≤ 12) : clB a = true := decide_eq_true ⟨h, h'⟩
theorem clB_no {a : Int} (h : ¬ (1 ≤ a ∧ a ≤ 12)) : clB a = false := decide_eq_false h
theorem clB_iff {a : Int} : clB a = true ↔ 1 ≤ a ∧ a ≤ 12 := by simp [clB]
theorem mul_bd (x y X Y : Int) (hx : 0 ≤ x) (hX : x ≤ X) (hy : 0 ≤ y) (hY : y ≤ Y) : 0 ≤ x * y ∧ x * y ≤ X * Y :=
  ⟨Int.mul_nonneg hx hy, Int.mul_le_mul hX hY hy (Int.le_trans hx hX)⟩
theorem tmod_nn (x y : Int) (hx : 0 ≤ x) : x.tmod y = x % y := Int.tmod_eq_emod_of_nonneg hx
theorem tdiv_nn (x y : Int) (hx : 0 ≤ x) : x.tdiv y = x / y := Int.tdiv_eq_ediv_of_nonneg hx
theorem expand (A B C D : Int) : (A * 2147483648 + B) * (C * 2147483648 + D) = A * C * 4611686018427387904 + (A * D + B * C) * 2147483648 + B * D := by grind
theorem times_form (a b : Int) (ha : 0 ≤ a) (ha' : a < 2305843009213693951) (hb : 0 ≤ b) (hb' : b < 2305843009213693951) :
    (wrap64 (wrap64 (wrap64 (2 * (a / 2147483648) * (b / 2147483648)) +
      wrap64 (wrap64 ((wrap64 (wrap64 (a / 2147483648 * (b % 2147483648)) + wrap64 (a % 2147483648 * (b / 2147483648)))).tdiv 1073741824) +
        wrap64 ((wrap64 (wrap64 (a / 2147483648 * (b % 2147483648)) + wrap64 (a % 2147483648 * (b / 2147483648)))).tmod 1073741824 * 2147483648))) +
      (wrap64 (a % 2147483648 * (b % 2147483648))).tmod 2305843009213693951)).tmod 2305843009213693951 = a * b % 2305843009213693951 := by
  have eA : a = a / 2147483648 * 2147483648 + a % 2147483648 := by omega
  have eB : b = b / 2147483648 * 2147483648 + b % 2147483648 := by omega
  have a1 : 0 ≤ a / 2147483648 ∧ a / 2147483648 ≤ 1073741823 := by omega
  have a2 : 0 ≤ a % 2147483648 ∧ a % 2147483648 ≤ 2147483647 := by omega
  have b1 : 0 ≤ b / 2147483648 ∧ b / 2147483648 ≤ 1073741823 := by omega
  have b2 : 0 ≤ b % 2147483648 ∧ b % 2147483648 ≤ 2147483647 := by omega
  generalize hA : a / 2147483648 = A at *
  generalize hB : a % 2147483648 = B at *
  generalize hC : b / 2147483648 = C at *
  generalize hD : b % 2147483648 = D at *
  clear hA hB hC hD
  have x := mul_bd A C _ _ a1.1 a1.2 b1.1 b1.2
  have y := mul_bd A D _ _ a1.1 a1.2 b2.1 b2.2
  have z := mul_bd B C _ _ a2.1 a2.2 b1.1 b1.2
  have v := mul_bd B D _ _ a2.1 a2.2 b2.1 b2.2
  have e : a * b = A * C * 4611686018427387904 + (A * D + B * C) * 2147483648 + B * D := by
    rw [eA, eB]; exact expand A B C D
  have e2 : 2 * A * C = 2 * (A * C) := Int.mul_assoc _ _ _
  rw [e, e2]
  generalize A * C = X at *
  generalize A * D = Y at *
  generalize B * C = Z at *
  generalize B * D = V at *
  rw [wrap64_in (2 * X) (by omega), wrap64_in Y (by omega), wrap64_in Z (by omega), wrap64_in (Y + Z) (by omega), wrap64_in V (by omega)]
  rw [tdiv_nn _ _ (by omega), tmod_nn (Y + Z) _ (by omega), tmod_nn V _ (by omega)]
  rw [wrap64_in ((Y + Z) / 1073741824) (by omega), wrap64_in ((Y + Z) % 1073741824 * 2147483648) (by omega)]
  rw [wrap64_in ((Y + Z) / 1073741824 + (Y + Z) % 1073741824 * 2147483648) (by omega)]
  rw [wrap64_in (2 * X + ((Y + Z) / 1073741824 + (Y + Z) % 1073741824 * 2147483648)) (by omega)]
  rw [wrap64_in (2 * X + ((Y + Z) / 1073741824 + (Y + Z) % 1073741824 * 2147483648) + V % 2305843009213693951) (by omega)]
  rw [tmod_nn _ _ (by omega)]
  omega
def addP (a b : Int) : Int := (a + b) % 2305843009213693951
def subP (a b : Int) : Int := (a - b + 2305843009213693951) % 2305843009213693951
def mulP (a b : Int) : Int := a * b % 2305843009213693951
def powP (a k : Int) : Int := a ^ k.toNat % 2305843009213693951
theorem addP_lo (a b : Int) : 0 ≤ addP a b := by unfold addP; omega
theorem addP_hi (a b : Int) : addP a b < 2305843009213693951 := by unfold addP; omega
theorem subP_lo (a b : Int) : 0 ≤ subP a b := by unfold subP; omega
theorem subP_hi (a b : Int) : subP a b < 2305843009213693951 := by unfold subP; omega
theorem mulP_lo (a b : Int) : 0 ≤ mulP a b := by unfold mulP; omega
theorem mulP_hi (a b : Int) : mulP a b < 2305843009213693951 := by unfold mulP; omega
theorem powP_lo (a b : Int) : 0 ≤ powP a b := by unfold powP; omega
theorem powP_hi (a b : Int) : powP a b < 2305843009213693951 := by unfold powP; omega
def padN (k q : Int) : Int :=
  mulP (mulP (addP k (mulP q 1099511627777)) (addP k (mulP q 1099511627777))) (addP k (mulP q 1099511627777))
theorem padN_lo (k q : Int) : 0 ≤ padN k q := mulP_lo _ _
theorem padN_hi (k q : Int) : padN k q < 2305843009213693951 := mulP_hi _ _
def tagN (k q x y : Int) : Int :=
  addP (addP (mulP (padN k (q + 2)) x) (mulP (mulP (padN k (q + 2)) (padN k (q + 2))) y)) (padN k (q + 3))
theorem tagN_lo (k q x y : Int) : 0 ≤ tagN k q x y := addP_lo _ _
theorem tagN_hi (k q x y : Int) : tagN k q x y < 2305843009213693951 := addP_hi _ _
def pickN (c n : Int) : Int := (if c < 0 then -(c + 1) else c) % n
theorem pickN_lo (c n : Int) (h : 0 < n) : 0 ≤ pickN c n := Int.emod_nonneg _ (by omega)
theorem pickN_hi (c n : Int) (h : 0 < n) : pickN c n < n := Int.emod_lt_of_pos _ h
theorem all_off (zs : List Int) (k : Nat) (hk : k < zs.length) (h : ¬ (0 ≤ zs.getD k 0 ∧ zs.getD k 0 < 2305843009213693951)) : zs.all elB = false := by
  rw [List.all_eq_false]
  refine ⟨zs[k], List.getElem_mem hk, ?_⟩
  rw [List.getD_eq_getElem?_getD, List.getElem?_eq_getElem hk] at h
  simp only [Option.getD_some] at h
  rw [elB_no h]; exact Bool.false_ne_true
theorem all_on (zs : List Int) (k : Nat) (hk : k < zs.length) (ha : (zs.take k).all elB = true) (h : 0 ≤ zs.getD k 0 ∧ zs.getD k 0 < 2305843009213693951) :
    (zs.take (k + 1)).all elB = true := by
  rw [List.getD_eq_getElem?_getD, List.getElem?_eq_getElem hk] at h
  simp only [Option.getD_some] at h
  rw [List.take_succ_eq_append_getElem hk, List.all_append, ha]
  simp [elB_yes h.1 h.2]
theorem all_end (zs : List Int) (k : Nat) (hk : zs.length ≤ k) (ha : (zs.take k).all elB = true) : zs.all elB = true := by
  rw [List.take_of_length_le hk] at ha; exact ha
theorem sub_add (x d : Int) (hx : 0 ≤ x) (hx' : x < 2305843009213693951) : subP (addP x d) d = x := by unfold subP addP; omega
theorem turned (z t : Int) (hz : 0 ≤ z) (hz' : z < 2305843009213693951) (ht : 0 ≤ t) (ht' : t < 2305843009213693950) : addP z (1 + t) ≠ z := by unfold addP; omega
theorem emod_id {a : Int} (h : 0 ≤ a) (h' : a < 2305843009213693951) : a % 2305843009213693951 = a := Int.emod_eq_of_lt h h'
theorem mul_comm (x y : Int) : mulP x y = mulP y x := by unfold mulP; rw [Int.mul_comm]
theorem mul_assoc (x y z : Int) : mulP (mulP x y) z = mulP x (mulP y z) := by
  unfold mulP; rw [Int.mul_emod, Int.emod_emod, ← Int.mul_emod, Int.mul_emod x, Int.emod_emod, ← Int.mul_emod, Int.mul_assoc]
theorem mul_one (x : Int) (h : 0 ≤ x) (h' : x < 2305843009213693951) : mulP x 1 = x := by unfold mulP; rw [Int.mul_one, emod_id h h']
def PowInv (a k kk pp ss : Int) : Prop :=
  kk ≤ 9223372036854775807 ∧ 0 ≤ pp ∧ pp < 2305843009213693951 ∧ 0 ≤ ss ∧ ss < 2305843009213693951 ∧
    pp * ss ^ kk.toNat % 2305843009213693951 = a ^ k.toNat % 2305843009213693951
theorem powInv_start (a k : Int) (ha : 0 ≤ a) (ha' : a < 2305843009213693951) (hk : k ≤ 9223372036854775807) : PowInv a k k 1 a :=
  ⟨hk, by omega, by omega, ha, ha', by rw [Int.one_mul]⟩
theorem emod_bd (x : Int) : 0 ≤ x % 2305843009213693951 ∧ x % 2305843009213693951 < 2305843009213693951 := by omega
theorem pow_emod (s m : Int) (n : Nat) : (s % m) ^ n % m = s ^ n % m := by
  induction n with
  | zero => rw [Int.pow_zero, Int.pow_zero]
  | succ n ih => rw [Int.pow_succ, Int.pow_succ, Int.mul_emod, ih, Int.emod_emod, ← Int.mul_emod]
theorem mul_pow_emod (p s m : Int) (n : Nat) : p * (s % m) ^ n % m = p * s ^ n % m := by
  rw [Int.mul_emod, pow_emod, ← Int.mul_emod]
theorem sq_pow (s : Int) (n : Nat) : (s * s) ^ n = s ^ (2 * n) := by
  rw [Int.pow_mul, Int.pow_succ, Int.pow_one]
theorem powInv_odd {a k kk pp ss : Int} (h : PowInv a k kk pp ss) (hp : 0 < kk) (ho : (kk % 2 == 1) = true) :
    PowInv a k (kk / 2) (mulP pp ss) (mulP ss ss) := by
  unfold mulP
  obtain ⟨h1, h2, h3, h4, h5, h6⟩ := h
  have e : kk.toNat = 2 * (kk / 2).toNat + 1 := by simp at ho; omega
  refine ⟨by omega, (emod_bd _).1, (emod_bd _).2, (emod_bd _).1, (emod_bd _).2, ?_⟩
  rw [mul_pow_emod, Int.mul_emod, Int.emod_emod, ← Int.mul_emod, sq_pow, ← h6, e, Int.pow_succ, Int.mul_assoc, Int.mul_comm ss]
theorem powInv_even {a k kk pp ss : Int} (h : PowInv a k kk pp ss) (hp : 0 < kk) (ho : (kk % 2 == 1) = false) :
    PowInv a k (kk / 2) pp (mulP ss ss) := by
  unfold mulP
  obtain ⟨h1, h2, h3, h4, h5, h6⟩ := h
  have e : kk.toNat = 2 * (kk / 2).toNat := by simp at ho; omega
  refine ⟨by omega, h2, h3, (emod_bd _).1, (emod_bd _).2, ?_⟩
  rw [mul_pow_emod, sq_pow, ← h6, e]
theorem powInv_end {a k kk pp ss : Int} (h : PowInv a k kk pp ss) (hp : kk ≤ 0) : pp = powP a k := by
  unfold powP
  obtain ⟨h1, h2, h3, h4, h5, h6⟩ := h
  have e : kk.toNat = 0 := by omega
  rw [← h6, e, Int.pow_zero, Int.mul_one, Int.emod_eq_of_lt h2 h3]
theorem pow_zero (x : Int) : powP x 0 = 1 := by unfold powP; rw [Int.toNat_zero, Int.pow_zero]; omega
theorem pow_one (x : Int) (h : 0 ≤ x) (h' : x < 2305843009213693951) : powP x 1 = x := by
  unfold powP; rw [show (1 : Int).toNat = 1 from rfl, Int.pow_one, emod_id h h']
theorem pow_add (x s t : Int) (hs : 0 ≤ s) (ht : 0 ≤ t) : powP x (s + t) = mulP (powP x s) (powP x t) := by
  unfold powP mulP; rw [Int.toNat_add hs ht, Int.pow_add, ← Int.mul_emod]
theorem pow_swap (x s t : Int) : powP (powP x s) t = powP (powP x t) s := by
  unfold powP; rw [pow_emod, pow_emod, ← Int.pow_mul, ← Int.pow_mul, Nat.mul_comm]
def strAt (seed : Int) (i : Nat) : Int := padN seed ((i : Int) + 1) / 1048576 % 4294967296
end Go.Proofs.YtchideljndagjabGreat.Num
namespace Go.Proofs.YtchideljndagjabGreat.Frm
set_option linter.unusedVariables false

abbrev It := Int × Int × Int × Int
abbrev It.id (x : It) : Int := x.1
def it (l : List It) (i : Nat) : It := l.getD i (0, 0, 0, 0)
def keyB (a : Int) : Bool := decide (1 ≤ a ∧ a < 2305843009213693951)
def wdB (a : Int) : Bool := decide (0 ≤ a ∧ a < 4294967296)
theorem keyB_iff {a : Int} : keyB a = true ↔ 1 ≤ a ∧ a < 2305843009213693951 := by simp [keyB]
theorem wdB_iff {a : Int} : wdB a = true ↔ 0 ≤ a ∧ a < 4294967296 := by simp [wdB]
def zB (a : Int) : Bool := decide (a = 0)
theorem zB_iff {a : Int} : zB a = true ↔ a = 0 := by simp [zB]
def tB (a : Int) : Bool := decide (a = 1 ∨ a = 2)
theorem tB_iff {a : Int} : tB a = true ↔ a = 1 ∨ a = 2 := by simp [tB]
def allB (n : Nat) (p : Nat → Bool) : Bool := (List.range n).all p
theorem allB_no {n : Nat} {p : Nat → Bool} (k : Nat) (hk : k < n) (h : p k = false) : allB n p = false := by
  unfold allB; rw [List.all_eq_false]; exact ⟨k, List.mem_range.2 hk, by rw [h]; exact Bool.false_ne_true⟩
theorem allB_yes {n : Nat} {p : Nat → Bool} (h : ∀ k, k < n → p k = true) : allB n p = true := by
  unfold allB; rw [List.all_eq_true]; exact fun k hk => h k (List.mem_range.1 hk)
theorem allB_iff {n : Nat} {p : Nat → Bool} : allB n p = true ↔ ∀ k, k < n → p k = true := by
  unfold allB; rw [List.all_eq_true]; exact ⟨fun h k hk => h k (List.mem_range.2 hk), fun h k hk => h k (List.mem_range.1 hk)⟩
theorem allB_off {n : Nat} {p : Nat → Bool} : allB n p = false ↔ ∃ k, k < n ∧ p k = false := by
  unfold allB; rw [List.all_eq_false]; exact ⟨fun ⟨k, h1, h2⟩ => ⟨k, List.mem_range.1 h1, by simpa using h2⟩, fun ⟨k, h1, h2⟩ => ⟨k, List.mem_range.2 h1, by simp [h2]⟩⟩
def fromB (k fr : Int) : Bool := if k = 1 ∨ k = 3 ∨ k = 5 ∨ k = 7 then Num.clB fr else if k = 2 ∨ k = 4 ∨ k = 6 then zB fr else false
def riseAt (l : List It) (i : Nat) : Bool := Num.clB (it l i).1 && (decide (i = 0) || decide ((it l (i - 1)).1 < (it l i).1))
def riseB (l : List It) : Bool := allB l.length (riseAt l)
def noneB (l : List It) (u : Int) : Bool := allB l.length fun i => decide ((it l i).1 ≠ u)
def countB (l : List It) : Bool := allB l.length fun i => decide ((it l i).1 = (i : Int) + 1)
def idsB (k fr : Int) (l : List It) : Bool :=
  if k = 1 then decide (l.length = 1) && !noneB l fr else if k = 2 ∨ k = 6 ∨ k = 7 then decide (1 ≤ l.length) else if k = 3 then noneB l fr else if k = 4 then true else if k = 5 then decide (1 ≤ l.length) && countB l else false
def okI (k : Int) (x : It) : Bool :=
  if k = 1 ∨ k = 2 then keyB x.2.1 && (keyB x.2.2.1 && zB x.2.2.2) else if k = 3 ∨ k = 4 then Num.elB x.2.1 && (Num.elB x.2.2.1 && Num.elB x.2.2.2)
  else if k = 5 then wdB x.2.1 && (zB x.2.2.1 && zB x.2.2.2) else if k = 6 then zB x.2.1 && (zB x.2.2.1 && zB x.2.2.2) else if k = 7 then tB x.2.1 && (Num.elB x.2.2.1 && zB x.2.2.2) else false
def numsB (k : Int) (l : List It) : Bool := allB l.length fun i => okI k (it l i)
def okF (k fr : Int) (l : List It) : Bool := decide (l.length ≤ 12) && (fromB k fr && (riseB l && (idsB k fr l && numsB k l)))
theorem fromB_kind {k fr : Int} (h : fromB k fr = true) : 1 ≤ k ∧ k ≤ 7 := by
  unfold fromB at h
  split at h
  · omega
  · split at h
    · omega
    · cases h
def wid (k : Int) : Nat := if k = 5 then 1 else if k = 1 ∨ k = 2 ∨ k = 7 then 2 else if k = 3 ∨ k = 4 then 3 else 0
def size (k : Int) : Nat := 1 + 8 * wid k
theorem wid_le (k : Int) : wid k ≤ 3 := by
  unfold wid
  (repeat' split) <;> omega
def bytesN (v : Int) : List Int := [v % 256, v / 256 % 256, v / 65536 % 256, v / 16777216 % 256, v / 4294967296 % 256, v / 1099511627776 % 256, v / 281474976710656 % 256, v / 72057594037927936 % 256]
def nums (k : Int) (x : It) : List Int := [x.2.1, x.2.2.1, x.2.2.2].take (wid k)
def encI (k : Int) (x : It) : List Int := x.1 :: ((nums k x).map bytesN).flatten
def encF (k fr : Int) (l : List It) : List Int := k :: fr :: (l.length : Int) :: (l.map (encI k)).flatten
theorem nums_length (k : Int) (x : It) : (nums k x).length = wid k := by
  have := wid_le k
  unfold nums; simp; omega
theorem flat_len8 (l : List Int) : ((l.map bytesN).flatten).length = 8 * l.length := by
  induction l with
  | nil => rfl
  | cons a l ih => rw [List.map_cons, List.flatten_cons, List.length_append, ih, List.length_cons]; simp [bytesN]; omega
theorem encI_length (k : Int) (x : It) : (encI k x).length = size k := by
  unfold encI; rw [List.length_cons, flat_len8, nums_length]; unfold size; omega
theorem flatten_length (s : Nat) (L : List (List Int)) (h : ∀ x ∈ L, x.length = s) : L.flatten.length = L.length * s := by
  induction L with
  | nil => simp
  | cons a L ih =>
    rw [List.flatten_cons, List.length_append, ih (fun x hx => h x (List.mem_cons_of_mem _ hx)), h a List.mem_cons_self, List.length_cons, Nat.add_mul]; omega
theorem body_length (k : Int) (l : List It) : ((l.map (encI k)).flatten).length = l.length * size k := by
  rw [flatten_length (size k) _ (fun x hx => by obtain ⟨y, _, rfl⟩ := List.mem_map.1 hx; exact encI_length k y)]; simp
theorem encF_length (k fr : Int) (l : List It) : (encF k fr l).length = 3 + l.length * size k := by
  unfold encF; simp only [List.length_cons, body_length]; omega
theorem flatten_get (s : Nat) (L : List (List Int)) (h : ∀ x ∈ L, x.length = s) (i j : Nat) (hj : j < s) : L.flatten.getD (i * s + j) 0 = (L.getD i []).getD j 0 := by
  induction L generalizing i with
  | nil => simp
  | cons a L ih =>
    have ha := h a List.mem_cons_self
    cases i with
    | zero => rw [List.flatten_cons, Nat.zero_mul, Nat.zero_add, List.getD_cons_zero, List.getD_eq_getElem?_getD, List.getElem?_append_left (by omega), ← List.getD_eq_getElem?_getD]
    | succ i =>
      rw [List.flatten_cons, List.getD_cons_succ, ← ih (fun x hx => h x (List.mem_cons_of_mem _ hx)) i, List.getD_eq_getElem?_getD, List.getElem?_append_right (by rw [ha, Nat.add_mul]; omega), ← List.getD_eq_getElem?_getD, ha]
      congr 1
      rw [Nat.add_mul]; omega
theorem encF_get (k fr : Int) (l : List It) (i j : Nat) (hi : i < l.length) (hj : j < size k) : (encF k fr l).getD (3 + i * size k + j) 0 = (encI k (it l i)).getD j 0 := by
  have e : 3 + i * size k + j = i * size k + j + 1 + 1 + 1 := by omega
  unfold encF
  rw [e, List.getD_cons_succ, List.getD_cons_succ, List.getD_cons_succ, flatten_get (size k) _ (fun x hx => by obtain ⟨y, _, rfl⟩ := List.mem_map.1 hx; exact encI_length k y) i j hj]
  congr 1
  rw [List.getD_eq_getElem?_getD, List.getElem?_map, List.getElem?_eq_getElem hi]
  unfold it
  rw [List.getD_eq_getElem?_getD, List.getElem?_eq_getElem hi]; rfl
def bAt (b : List Int) (i : Nat) : Int := b.getD i 0
def numAt (b : List Int) (a : Nat) : Int := bAt b a + 256 * bAt b (a + 1) + 65536 * bAt b (a + 2) + 16777216 * bAt b (a + 3) + 4294967296 * bAt b (a + 4) + 1099511627776 * bAt b (a + 5) + 281474976710656 * bAt b (a + 6) + 72057594037927936 * bAt b (a + 7)
def rdN (b : List Int) (a : Nat) : Int := if 128 ≤ bAt b (a + 7) then -1 else numAt b a
def rdI (k : Int) (b : List Int) (a : Nat) : It := (bAt b a, if 1 ≤ wid k then rdN b (a + 1) else 0, if 2 ≤ wid k then rdN b (a + 9) else 0, if 3 ≤ wid k then rdN b (a + 17) else 0)
def rdL (k : Int) (b : List Int) (n : Nat) : List It := (List.range n).map fun i => rdI k b (3 + i * size k)
def decF (b : List Int) : Option (Int × Int × List It) :=
  if b.length < 3 then none else if b.length = 3 + (bAt b 2).toNat * size (bAt b 0) then
    if okF (bAt b 0) (bAt b 1) (rdL (bAt b 0) b (bAt b 2).toNat) = true then some (bAt b 0, bAt b 1, rdL (bAt b 0) b (bAt b 2).toNat) else none
  else none
def isB (b : List Int) : Prop := ∀ x ∈ b, 0 ≤ x ∧ x ≤ 255
theorem isB_at {b : List Int} (h : isB b) (i : Nat) : 0 ≤ bAt b i ∧ bAt b i ≤ 255 := by
  unfold bAt
  by_cases hi : i < b.length
  · rw [List.getD_eq_getElem?_getD, List.getElem?_eq_getElem hi]; exact h _ (List.getElem_mem hi)
  · rw [List.getD_eq_getElem?_getD, List.getElem?_eq_none (by omega)]; simp
theorem getD_app (l m : List Int) (j : Nat) (h : j < l.length) : (l ++ m).getD j 0 = l.getD j 0 := by
  rw [List.getD_eq_getElem?_getD, List.getElem?_append_left h, ← List.getD_eq_getElem?_getD]
theorem bytesN_val (v : Int) (h : 0 ≤ v) (h' : v < 18446744073709551616) :
    v % 256 + 256 * (v / 256 % 256) + 65536 * (v / 65536 % 256) + 16777216 * (v / 16777216 % 256) + 4294967296 * (v / 4294967296 % 256) + 1099511627776 * (v / 1099511627776 % 256) + 281474976710656 * (v / 281474976710656 % 256) + 72057594037927936 * (v / 72057594037927936 % 256) = v := by omega
theorem num_of (b : List Int) (a : Nat) (v : Int) (h : 0 ≤ v) (h' : v < 9223372036854775808) (e : ∀ j, j < 8 → bAt b (a + j) = (bytesN v).getD j 0) : numAt b a = v ∧ rdN b a = v := by
  have e0 := e 0 (by omega)
  have e1 := e 1 (by omega)
  have e2 := e 2 (by omega)
  have e3 := e 3 (by omega)
  have e4 := e 4 (by omega)
  have e5 := e 5 (by omega)
  have e6 := e 6 (by omega)
  have e7 := e 7 (by omega)
  simp only [bytesN, List.getD_cons_zero, List.getD_cons_succ, Nat.add_zero] at e0 e1 e2 e3 e4 e5 e6 e7
  have hn : numAt b a = v := by
    unfold numAt; rw [e0, e1, e2, e3, e4, e5, e6, e7]; exact bytesN_val v h (by omega)
  refine ⟨hn, ?_⟩
  unfold rdN
  rw [e7, if_neg (by omega)]; exact hn
theorem okI_named {k : Int} {x : It} (h : okI k x = true) : (0 ≤ x.2.1 ∧ x.2.1 < 9223372036854775808 ∧ (¬ 1 ≤ wid k → x.2.1 = 0)) ∧ (0 ≤ x.2.2.1 ∧ x.2.2.1 < 9223372036854775808 ∧ (¬ 2 ≤ wid k → x.2.2.1 = 0)) ∧ (0 ≤ x.2.2.2 ∧ x.2.2.2 < 9223372036854775808 ∧ (¬ 3 ≤ wid k → x.2.2.2 = 0)) := by
  unfold okI at h
  by_cases k12 : k = 1 ∨ k = 2
  · rw [if_pos k12, Bool.and_eq_true, Bool.and_eq_true, keyB_iff, keyB_iff, zB_iff] at h
    have : wid k = 2 := by unfold wid; rw [if_neg (by omega), if_pos (by omega)]
    omega
  rw [if_neg k12] at h
  by_cases k34 : k = 3 ∨ k = 4
  · rw [if_pos k34, Bool.and_eq_true, Bool.and_eq_true, Num.elB_iff, Num.elB_iff, Num.elB_iff] at h
    have : wid k = 3 := by unfold wid; rw [if_neg (by omega), if_neg (by omega), if_pos (by omega)]
    omega
  rw [if_neg k34] at h
  by_cases k5 : k = 5
  · rw [if_pos k5, Bool.and_eq_true, Bool.and_eq_true, wdB_iff, zB_iff, zB_iff] at h
    have : wid k = 1 := by unfold wid; rw [if_pos k5]
    omega
  rw [if_neg k5] at h
  by_cases k6 : k = 6
  · rw [if_pos k6, Bool.and_eq_true, Bool.and_eq_true, zB_iff, zB_iff, zB_iff] at h
    omega
  rw [if_neg k6] at h
  by_cases k7 : k = 7
  · rw [if_pos k7, Bool.and_eq_true, Bool.and_eq_true, tB_iff, Num.elB_iff, zB_iff] at h
    have : wid k = 2 := by unfold wid; rw [if_neg (by omega), if_pos (by omega)]
    omega
  rw [if_neg k7] at h
  cases h
theorem okF_parts {k fr : Int} {l : List It} (h : okF k fr l = true) : l.length ≤ 12 ∧ fromB k fr = true ∧ riseB l = true ∧ idsB k fr l = true ∧ ∀ i, i < l.length → okI k (it l i) = true := by
  unfold okF at h
  simp only [Bool.and_eq_true, decide_eq_true_iff] at h
  obtain ⟨h1, h2, h3, h4, h5⟩ := h
  exact ⟨h1, h2, h3, h4, allB_iff.1 h5⟩
theorem okF_bounds {k fr : Int} {l : List It} (h : okF k fr l = true) : l.length ≤ 12 ∧ 1 ≤ k ∧ k ≤ 7 ∧ 0 ≤ fr ∧ fr ≤ 12 ∧ ∀ i, i < l.length → 1 ≤ (it l i).1 ∧ (it l i).1 ≤ 12 := by
  obtain ⟨h1, h2, h3, h4, h5⟩ := okF_parts h
  have hk := fromB_kind h2
  refine ⟨h1, hk.1, hk.2, ?_, ?_, fun i hi => ?_⟩
  · unfold fromB at h2
    split at h2
    · rw [Num.clB_iff] at h2; omega
    · split at h2
      · rw [zB_iff] at h2; omega
      · cases h2
  · unfold fromB at h2
    split at h2
    · rw [Num.clB_iff] at h2; omega
    · split at h2
      · rw [zB_iff] at h2; omega
      · cases h2
  · have := allB_iff.1 h3 i hi
    unfold riseAt at this
    rw [Bool.and_eq_true, Num.clB_iff] at this
    exact this.1
theorem it_list_eq {l m : List It} (hl : l.length = m.length) (h : ∀ i, i < l.length → it l i = it m i) : l = m := by
  apply List.ext_getElem hl
  intro i h1 h2
  have := h i h1
  unfold it at this
  rw [List.getD_eq_getElem?_getD, List.getD_eq_getElem?_getD, List.getElem?_eq_getElem h1, List.getElem?_eq_getElem h2] at this
  exact this
theorem encI_getA (k : Int) (x : It) (h : 1 ≤ wid k) (j : Nat) (hj : j < 8) : (encI k x).getD (1 + j) 0 = (bytesN x.2.1).getD j 0 := by
  unfold encI nums
  rw [Nat.add_comm 1 j, List.getD_cons_succ]
  have : wid k = 1 ∨ wid k = 2 ∨ wid k = 3 := by have := wid_le k; omega
  rcases this with e | e | e <;> rw [e] <;> exact getD_app (bytesN x.2.1) _ j hj
theorem encI_getB (k : Int) (x : It) (h : 2 ≤ wid k) (j : Nat) (hj : j < 8) : (encI k x).getD (9 + j) 0 = (bytesN x.2.2.1).getD j 0 := by
  unfold encI nums
  rw [show 9 + j = j + 8 + 1 by omega, List.getD_cons_succ]
  have : wid k = 2 ∨ wid k = 3 := by have := wid_le k; omega
  rcases this with e | e <;> rw [e] <;> exact getD_app (bytesN x.2.2.1) _ j hj
theorem encI_getC (k : Int) (x : It) (h : 3 ≤ wid k) (j : Nat) (hj : j < 8) : (encI k x).getD (17 + j) 0 = (bytesN x.2.2.2).getD j 0 := by
  unfold encI nums
  rw [show 17 + j = j + 16 + 1 by omega, List.getD_cons_succ]
  have e : wid k = 3 := by have := wid_le k; omega
  rw [e]; exact getD_app (bytesN x.2.2.2) _ j hj
theorem read_enc {k fr : Int} {l : List It} (h : okF k fr l = true) (i : Nat) (hi : i < l.length) (f : List Int → Nat → Int) (hf : ∀ b a v, 0 ≤ v → v < 9223372036854775808 → (∀ j, j < 8 → bAt b (a + j) = (bytesN v).getD j 0) → f b a = v) :
    ((bAt (encF k fr l) (3 + i * size k), if 1 ≤ wid k then f (encF k fr l) (3 + i * size k + 1) else 0, if 2 ≤ wid k then f (encF k fr l) (3 + i * size k + 9) else 0, if 3 ≤ wid k then f (encF k fr l) (3 + i * size k + 17) else 0) : It) = it l i := by
  obtain ⟨h1, h2, h3, h4, h5⟩ := okF_parts h
  obtain ⟨a1, a2, a3⟩ := okI_named (h5 i hi)
  have hs : size k = 1 + 8 * wid k := rfl
  have e0 : bAt (encF k fr l) (3 + i * size k) = (it l i).1 := by
    have := encF_get k fr l i 0 hi (by omega)
    rw [Nat.add_zero] at this
    exact this
  have eA : (if 1 ≤ wid k then f (encF k fr l) (3 + i * size k + 1) else 0) = (it l i).2.1 := by
    split
    · rename_i hw
      refine hf _ _ _ a1.1 a1.2.1 (fun j hj => ?_)
      rw [← encI_getA k (it l i) hw j hj, ← encF_get k fr l i (1 + j) hi (by omega), Nat.add_assoc (3 + i * size k)]; rfl
    · rename_i hw; exact (a1.2.2 hw).symm
  have eB : (if 2 ≤ wid k then f (encF k fr l) (3 + i * size k + 9) else 0) = (it l i).2.2.1 := by
    split
    · rename_i hw
      refine hf _ _ _ a2.1 a2.2.1 (fun j hj => ?_)
      rw [← encI_getB k (it l i) hw j hj, ← encF_get k fr l i (9 + j) hi (by omega), Nat.add_assoc (3 + i * size k)]; rfl
    · rename_i hw; exact (a2.2.2 hw).symm
  have eC : (if 3 ≤ wid k then f (encF k fr l) (3 + i * size k + 17) else 0) = (it l i).2.2.2 := by
    split
    · rename_i hw
      refine hf _ _ _ a3.1 a3.2.1 (fun j hj => ?_)
      rw [← encI_getC k (it l i) hw j hj, ← encF_get k fr l i (17 + j) hi (by omega), Nat.add_assoc (3 + i * size k)]; rfl
    · rename_i hw; exact (a3.2.2 hw).symm
  rw [e0, eA, eB, eC]
theorem it_range (n : Nat) (f : Nat → It) (i : Nat) (hi : i < n) : it ((List.range n).map f) i = f i := by
  unfold it; rw [List.getD_eq_getElem?_getD, List.getElem?_map, List.getElem?_range hi]; rfl
theorem rdL_enc {k fr : Int} {l : List It} (h : okF k fr l = true) : rdL k (encF k fr l) l.length = l := by
  refine it_list_eq (by simp [rdL]) (fun i hi => ?_)
  have hi' : i < l.length := by simpa [rdL] using hi
  unfold rdL
  rw [it_range _ _ _ hi']
  exact read_enc h i hi' rdN (fun b a v h h' e => (num_of b a v h h' e).2)
theorem dec_enc {k fr : Int} {l : List It} (h : okF k fr l = true) : decF (encF k fr l) = some (k, fr, l) := by
  have b0 : bAt (encF k fr l) 0 = k := rfl
  have b1 : bAt (encF k fr l) 1 = fr := rfl
  have b2 : bAt (encF k fr l) 2 = (l.length : Int) := rfl
  have hl := encF_length k fr l
  unfold decF
  rw [b0, b1, b2, hl, if_neg (by omega), Int.toNat_natCast, if_pos rfl, rdL_enc h, if_pos h]
def chunk (b : List Int) (m j : Nat) : List Int := (List.range j).map fun i => bAt b (m + i)
theorem take_chunk (b : List Int) (m j : Nat) (h : m + j ≤ b.length) : b.take (m + j) = b.take m ++ chunk b m j := by
  induction j with
  | zero => simp [chunk]
  | succ j ih =>
    unfold chunk at ih ⊢
    rw [← Nat.add_assoc, List.take_succ_eq_append_getElem (show m + j < b.length by omega), ih (by omega), List.range_succ, List.map_append, ← List.append_assoc]
    congr 1
    show [b[m + j]] = [bAt b (m + j)]
    unfold bAt
    rw [List.getD_eq_getElem?_getD, List.getElem?_eq_getElem (show m + j < b.length by omega)]; rfl
theorem bytes_num (b0 b1 b2 b3 b4 b5 b6 b7 : Int) (h0 : 0 ≤ b0 ∧ b0 ≤ 255) (h1 : 0 ≤ b1 ∧ b1 ≤ 255) (h2 : 0 ≤ b2 ∧ b2 ≤ 255) (h3 : 0 ≤ b3 ∧ b3 ≤ 255) (h4 : 0 ≤ b4 ∧ b4 ≤ 255) (h5 : 0 ≤ b5 ∧ b5 ≤ 255) (h6 : 0 ≤ b6 ∧ b6 ≤ 255) (h7 : 0 ≤ b7 ∧ b7 ≤ 255) :
    bytesN (b0 + 256 * b1 + 65536 * b2 + 16777216 * b3 + 4294967296 * b4 + 1099511627776 * b5 + 281474976710656 * b6 + 72057594037927936 * b7) = [b0, b1, b2, b3, b4, b5, b6, b7] := by
  unfold bytesN
  simp only [List.cons.injEq, and_true]
  refine ⟨by omega, by omega, by omega, by omega, by omega, by omega, by omega, by omega⟩
theorem chunk8 {b : List Int} (hb : isB b) (m : Nat) : bytesN (numAt b m) = chunk b m 8 := by
  unfold numAt
  rw [bytes_num _ _ _ _ _ _ _ _ (isB_at hb _) (isB_at hb _) (isB_at hb _) (isB_at hb _) (isB_at hb _) (isB_at hb _) (isB_at hb _) (isB_at hb _)]
  rfl
theorem rdN_nn {b : List Int} {a : Nat} (h : 0 ≤ rdN b a) : rdN b a = numAt b a := by
  unfold rdN at h ⊢
  split at h
  · omega
  · rename_i hc; rw [if_neg hc]
theorem chunk_add (b : List Int) (m i j : Nat) : chunk b m (i + j) = chunk b m i ++ chunk b (m + i) j := by
  unfold chunk
  rw [List.range_add, List.map_append, List.map_map]
  congr 1
  apply List.map_congr_left
  intro x _
  show bAt b (m + (i + x)) = bAt b (m + i + x)
  rw [Nat.add_assoc]
theorem enc_rdI {k : Int} {b : List Int} (hb : isB b) (m : Nat) (h : okI k (rdI k b m) = true) : encI k (rdI k b m) = chunk b m (size k) := by
  obtain ⟨a1, a2, a3⟩ := okI_named h
  unfold encI nums size
  rw [chunk_add]
  have ec : chunk b m 1 = [bAt b m] := rfl
  rw [ec]
  show bAt b m :: _ = [bAt b m] ++ _
  rw [List.singleton_append]
  congr 1
  have hw := wid_le k
  have eA : 1 ≤ wid k → bytesN (rdI k b m).2.1 = chunk b (m + 1) 8 := fun hk => by
    have e : (rdI k b m).2.1 = rdN b (m + 1) := if_pos hk
    rw [e] at a1 ⊢
    rw [rdN_nn a1.1, chunk8 hb]
  have eB : 2 ≤ wid k → bytesN (rdI k b m).2.2.1 = chunk b (m + 1 + 8) 8 := fun hk => by
    have e : (rdI k b m).2.2.1 = rdN b (m + 9) := if_pos hk
    rw [e] at a2 ⊢
    rw [rdN_nn a2.1, chunk8 hb]
  have eC : 3 ≤ wid k → bytesN (rdI k b m).2.2.2 = chunk b (m + 1 + 16) 8 := fun hk => by
    have e : (rdI k b m).2.2.2 = rdN b (m + 17) := if_pos hk
    rw [e] at a3 ⊢
    rw [rdN_nn a3.1, chunk8 hb]
  have : wid k = 0 ∨ wid k = 1 ∨ wid k = 2 ∨ wid k = 3 := by omega
  rcases this with e | e | e | e
  · rw [e]; rfl
  · rw [e]
    show bytesN (rdI k b m).2.1 ++ [] = _
    rw [eA (by omega), List.append_nil]
  · rw [e]
    show bytesN (rdI k b m).2.1 ++ (bytesN (rdI k b m).2.2.1 ++ []) = chunk b (m + 1) (8 + 8)
    rw [eA (by omega), eB (by omega), List.append_nil, chunk_add]
  · rw [e]
    show bytesN (rdI k b m).2.1 ++ (bytesN (rdI k b m).2.2.1 ++ (bytesN (rdI k b m).2.2.2 ++ [])) = chunk b (m + 1) (8 + 8 + 8)
    rw [eA (by omega), eB (by omega), eC (by omega), List.append_nil, chunk_add, chunk_add, List.append_assoc]
theorem body_take {k : Int} {b : List Int} (hb : isB b) (n : Nat) (hl : b.length = 3 + n * size k) (ho : ∀ i, i < n → okI k (rdI k b (3 + i * size k)) = true) (i : Nat) (hi : i ≤ n) :
    b.take (3 + i * size k) = b.take 3 ++ ((rdL k b i).map (encI k)).flatten := by
  induction i with
  | zero => simp [rdL]
  | succ i ih =>
    have hle : (i + 1) * size k ≤ n * size k := Nat.mul_le_mul_right _ hi
    have hs : (i + 1) * size k = i * size k + size k := by rw [Nat.add_mul]; omega
    rw [show 3 + (i + 1) * size k = 3 + i * size k + size k by omega, take_chunk b _ _ (by omega), ih (by omega), ← enc_rdI hb _ (ho i (by omega))]
    unfold rdL
    rw [List.range_succ, List.map_append, List.map_append, List.flatten_append, List.append_assoc]
    congr 2
    simp
theorem take3 (b : List Int) (h : 3 ≤ b.length) : b.take 3 = [bAt b 0, bAt b 1, bAt b 2] := by
  have := take_chunk b 0 3 (by omega)
  rw [this]; rfl
theorem enc_dec {b : List Int} (hb : isB b) {k fr : Int} {l : List It} (h : decF b = some (k, fr, l)) : okF k fr l = true ∧ encF k fr l = b ∧ 3 ≤ b.length := by
  unfold decF at h
  split at h
  · cases h
  · rename_i h3
    split at h
    · rename_i hl
      split at h
      · rename_i ho
        simp only [Option.some.injEq, Prod.mk.injEq] at h
        obtain ⟨rfl, rfl, rfl⟩ := h
        refine ⟨ho, ?_, by omega⟩
        have hb2 := isB_at hb 2
        have hll : (rdL (bAt b 0) b (bAt b 2).toNat).length = (bAt b 2).toNat := by simp [rdL]
        have ho' := (okF_parts ho).2.2.2.2
        rw [hll] at ho'
        have key := body_take hb (bAt b 2).toNat hl (fun i hi => by
          have := ho' i hi
          unfold rdL at this
          rw [it_range _ _ _ hi] at this
          exact this) (bAt b 2).toNat (Nat.le_refl _)
        rw [← hl, List.take_length, take3 b (by omega)] at key
        have e : encF (bAt b 0) (bAt b 1) (rdL (bAt b 0) b (bAt b 2).toNat) = [bAt b 0, bAt b 1, bAt b 2] ++ ((rdL (bAt b 0) b (bAt b 2).toNat).map (encI (bAt b 0))).flatten := by
          unfold encF
          rw [hll, show (((bAt b 2).toNat : Nat) : Int) = bAt b 2 by omega]
          rfl
        rw [e]
        exact key.symm
      · cases h
    · cases h
def pubB (l : List It) : Bool := allB l.length fun i => keyB (it l i).2.1 && (keyB (it l i).2.2.1 && zB (it l i).2.2.2)
end Go.Proofs.YtchideljndagjabGreat.Frm
namespace Go.Proofs.YtchideljndagjabGreat.Pol
open Go.Proofs.YtchideljndagjabGreat.Num
set_option linter.unusedVariables false
def ev : List Int → Int → Int
  | [], _ => 0
  | d :: ds, x => (ev ds x + d) * x
def hor : List Int → Int → Int
  | [], _ => 0
  | d :: ds, x => mulP (addP (hor ds x) d) x
def polyP (s : Int) (ds : List Int) (x : Int) : Int := (s + ev ds x) % 2305843009213693951
theorem polyP_lo (s : Int) (ds : List Int) (x : Int) : 0 ≤ polyP s ds x := by unfold polyP; omega
theorem polyP_hi (s : Int) (ds : List Int) (x : Int) : polyP s ds x < 2305843009213693951 := by unfold polyP; omega
theorem hor_lo (ds : List Int) (x : Int) : 0 ≤ hor ds x := by cases ds with
  | nil => exact Int.le_refl 0
  | cons d ds => exact mulP_lo _ _
theorem hor_hi (ds : List Int) (x : Int) : hor ds x < 2305843009213693951 := by cases ds with
  | nil => show (0 : Int) < _; omega
  | cons d ds => exact mulP_hi _ _
theorem hor_ev (ds : List Int) (x : Int) : hor ds x = ev ds x % 2305843009213693951 := by
  induction ds with
  | nil => rfl
  | cons d ds ih =>
    show mulP (addP (hor ds x) d) x = (ev ds x + d) * x % _
    unfold mulP addP
    rw [ih, Int.mul_emod, Int.emod_emod, Int.emod_add_emod, ← Int.mul_emod]
theorem hor_poly (s : Int) (ds : List Int) (x : Int) : addP (hor ds x) s = polyP s ds x := by
  unfold addP polyP; rw [hor_ev, Int.emod_add_emod, Int.add_comm]
theorem hor_drop (ds : List Int) (k : Nat) (hk : k < ds.length) (x : Int) : mulP (addP (hor (ds.drop (k + 1)) x) (ds.getD k 0)) x = hor (ds.drop k) x := by
  rw [List.drop_eq_getElem_cons hk, List.getD_eq_getElem?_getD, List.getElem?_eq_getElem hk]; rfl
end Go.Proofs.YtchideljndagjabGreat.Pol
namespace Go.Proofs.YtchideljndagjabGreat.Prm
set_option linter.unusedVariables false
def IsP (p : Nat) : Prop := 2 ≤ p ∧ ∀ d, d ∣ p → d = 1 ∨ d = p
theorem euclid {p a b : Nat} (hp : IsP p) (h : p ∣ a * b) : p ∣ a ∨ p ∣ b := by
  rcases hp.2 _ (Nat.gcd_dvd_left p a) with h1 | h1
  · exact .inr (Nat.Coprime.dvd_of_dvd_mul_left h1 h)
  · exact .inl (by rw [← h1]; exact Nat.gcd_dvd_right p a)
def ch : Nat → Nat → Nat
  | _, 0 => 1
  | 0, _ + 1 => 0
  | n + 1, k + 1 => ch n k + ch n (k + 1)
def bs (n a : Nat) : Nat → Nat
  | 0 => 0
  | m + 1 => bs n a m + ch n m * a ^ m
theorem ch_zero (n : Nat) : ch n 0 = 1 := by cases n <;> rfl
theorem ch_succ (n k : Nat) : ch (n + 1) (k + 1) = ch n k + ch n (k + 1) := rfl
theorem ch_big (n : Nat) : ∀ k, n < k → ch n k = 0 := by
  induction n with
  | zero => intro k hk; cases k with
    | zero => omega
    | succ k => rfl
  | succ n ih => intro k hk; cases k with
    | zero => omega
    | succ k => rw [ch_succ, ih k (by omega), ih (k + 1) (by omega)]
theorem ch_self (n : Nat) : ch n n = 1 := by
  induction n with
  | zero => rfl
  | succ n ih => rw [ch_succ, ih, ch_big n (n + 1) (by omega)]
theorem bs_pascal (n a : Nat) : ∀ m, bs (n + 1) a (m + 1) = bs n a (m + 1) + a * bs n a m := by
  intro m
  induction m with
  | zero => simp [bs, ch_zero]
  | succ m ih =>
    rw [bs, ih, ch_succ]
    conv => rhs; rw [bs]
    conv => rhs; rhs; rw [bs]
    rw [Nat.pow_succ]
    grind
theorem bs_pow (n a : Nat) : bs n a (n + 1) = (a + 1) ^ n := by
  induction n with
  | zero => simp [bs, ch]
  | succ n ih =>
    rw [bs_pascal]
    rw [show bs n a (n + 1 + 1) = bs n a (n + 1) + ch n (n + 1) * a ^ (n + 1) from rfl, ch_big n (n + 1) (by omega), ih, Nat.pow_succ]
    grind
theorem ch_absorb (n : Nat) : ∀ k, (k + 1) * ch (n + 1) (k + 1) = (n + 1) * ch n k := by
  induction n with
  | zero => intro k; cases k with
    | zero => rfl
    | succ k => rw [ch_succ, ch_big 0 (k + 1) (by omega), ch_big 0 (k + 1 + 1) (by omega), Nat.add_zero, Nat.mul_zero, Nat.mul_zero]
  | succ n ih => intro k; cases k with
    | zero =>
      have h := ih 0
      rw [ch_zero] at h
      rw [ch_succ, ch_zero]
      omega
    | succ j =>
      have h1 := ih j
      have h2 := ih (j + 1)
      rw [ch_succ (n + 1) (j + 1)]
      rw [ch_succ n j] at *
      grind
theorem ch_dvd {p : Nat} (hp : IsP p) (k : Nat) (h0 : 0 < k) (hk : k < p) : p ∣ ch p k := by
  obtain ⟨j, rfl⟩ : ∃ j, k = j + 1 := ⟨k - 1, by omega⟩
  obtain ⟨n, rfl⟩ : ∃ n, p = n + 1 := ⟨p - 1, by omega⟩
  have h := ch_absorb n j
  rcases euclid hp (a := j + 1) (b := ch (n + 1) (j + 1)) (by rw [h]; exact Nat.dvd_mul_right _ _) with h1 | h1
  · have := Nat.le_of_dvd (by omega) h1; omega
  · exact h1
theorem bs_mod {p : Nat} (hp : IsP p) (a : Nat) : ∀ m, m < p → bs p a (m + 1) % p = 1 % p := by
  intro m
  induction m with
  | zero => intro _; simp [bs, ch_zero]
  | succ m ih =>
    intro h
    rw [bs, Nat.add_mod, ih (by omega)]
    have h1 : ch p (m + 1) * a ^ (m + 1) % p = 0 := Nat.mod_eq_zero_of_dvd (Nat.dvd_trans (ch_dvd hp (m + 1) (by omega) h) (Nat.dvd_mul_right _ _))
    rw [h1]; simp
theorem frob {p : Nat} (hp : IsP p) (a : Nat) : (a + 1) ^ p % p = (a ^ p + 1) % p := by
  have h2 := hp.1
  rw [← bs_pow]
  rw [bs, ch_self, Nat.one_mul, Nat.add_mod]
  have := bs_mod hp a (p - 1) (by omega)
  rw [show p - 1 + 1 = p by omega] at this
  rw [this, ← Nat.add_mod, Nat.add_comm]
theorem fermat {p : Nat} (hp : IsP p) (a : Nat) : a ^ p % p = a % p := by
  have h2 := hp.1
  induction a with
  | zero => rw [Nat.zero_pow (by omega)]
  | succ a ih => rw [frob hp, Nat.add_mod, ih, ← Nat.add_mod]
theorem fermat_one {p : Nat} (hp : IsP p) (a : Nat) (ha : ¬ p ∣ a) : a ^ (p - 1) % p = 1 := by
  have h2 := hp.1
  have h := fermat hp a
  have e : a ^ p = a * a ^ (p - 1) := by rw [← Nat.pow_succ', Nat.succ_eq_add_one, show p - 1 + 1 = p by omega]
  have a0 : 0 < a := by
    rcases Nat.eq_zero_or_pos a with h | h
    · exact absurd (by rw [h]; exact Nat.dvd_zero p) ha
    · exact h
  have q0 : 0 < a ^ (p - 1) := Nat.pow_pos a0
  have hd : p ∣ a * (a ^ (p - 1) - 1) := by
    rw [Nat.mul_sub, Nat.mul_one, ← e]
    exact (Nat.dvd_iff_mod_eq_zero).2 (Nat.sub_mod_eq_zero_of_mod_eq h)
  rcases euclid hp hd with h1 | h1
  · exact absurd h1 ha
  · obtain ⟨c, hc⟩ := h1
    rw [show a ^ (p - 1) = 1 + p * c by omega, Nat.add_mul_mod_self_left, Nat.mod_eq_of_lt (by omega)]
theorem pow_gcd (c r : Nat) (hr : 1 < r) (m n : Nat) : c ^ m % r = 1 → c ^ n % r = 1 → c ^ (Nat.gcd m n) % r = 1 := by
  induction m, n using Nat.gcd.induction with
  | H0 n => intro _ h; rw [Nat.gcd_zero_left]; exact h
  | H1 m n h0 ih =>
    intro hm hn
    rw [Nat.gcd_rec]
    refine ih ?_ hm
    have e : c ^ n = (c ^ m) ^ (n / m) * c ^ (n % m) := by rw [← Nat.pow_mul, ← Nat.pow_add, Nat.div_add_mod]
    rw [e, Nat.mul_mod, Nat.pow_mod, hm, Nat.one_pow, Nat.mod_eq_of_lt hr, Nat.one_mul, Nat.mod_mod] at hn
    exact hn
theorem poc (P r q c : Nat) (hr : IsP r) (hd : r ∣ P) (hq : IsP q) (h1 : c ^ q % P = 1) (h0 : 1 ≤ c) (hg : Nat.gcd (c - 1) P = 1) : q ∣ r - 1 := by
  have r2 := hr.1
  have q2 := hq.1
  have e1 : c ^ q % r = 1 := by rw [← Nat.mod_mod_of_dvd _ hd, h1, Nat.mod_eq_of_lt (by omega)]
  have hc : ¬ r ∣ c := by
    intro h
    have e : c ^ q = c ^ (q - 1) * c := by rw [← Nat.pow_succ, Nat.succ_eq_add_one, show q - 1 + 1 = q by omega]
    have : c ^ q % r = 0 := Nat.mod_eq_zero_of_dvd (Nat.dvd_trans h (by rw [e]; exact Nat.dvd_mul_left _ _))
    omega
  have e2 := fermat_one hr c hc
  rcases hq.2 _ (Nat.gcd_dvd_left q (r - 1)) with h | h
  · have e3 := pow_gcd c r (by omega) q (r - 1) e1 e2
    rw [h, Nat.pow_one] at e3
    have d1 : r ∣ c - 1 := (Nat.dvd_iff_mod_eq_zero).2 (Nat.sub_mod_eq_zero_of_mod_eq (by rw [e3, Nat.mod_eq_of_lt (by omega)]))
    have d2 := Nat.dvd_gcd d1 hd
    rw [hg] at d2
    have := Nat.le_of_dvd (by omega) d2
    omega
  · rw [← h]; exact Nat.gcd_dvd_right _ _
def smallP (q : Nat) : Bool := decide (2 ≤ q) && (List.range (q + 1)).all fun d => decide (q % d ≠ 0) || d == 1 || d == q
theorem isP_of (q : Nat) (h : smallP q = true) : IsP q := by
  unfold smallP at h
  rw [Bool.and_eq_true, decide_eq_true_iff, List.all_eq_true] at h
  refine ⟨h.1, fun d hd => ?_⟩
  have := h.2 d (List.mem_range.2 (by have := Nat.le_of_dvd (by omega) hd; omega))
  simp only [Bool.or_eq_true, decide_eq_true_iff, beq_iff_eq] at this
  rcases this with (h1 | h1) | h1
  · exact absurd (Nat.mod_eq_zero_of_dvd hd) h1
  · exact .inl h1
  · exact .inr h1
theorem factor (n : Nat) : 2 ≤ n → ∃ r, IsP r ∧ r ∣ n := by
  induction n using Nat.strongRecOn with
  | ind n ih =>
    intro h
    by_cases hp : IsP n
    · exact ⟨n, hp, Nat.dvd_refl n⟩
    · obtain ⟨d, hd⟩ : ∃ d, ¬ (d ∣ n → d = 1 ∨ d = n) := by
        apply Classical.byContradiction
        intro hno
        exact hp ⟨h, fun d => Classical.byContradiction fun hc => hno ⟨d, hc⟩⟩
      have hd1 : d ∣ n := Classical.byContradiction fun hc => hd (fun x => absurd x hc)
      have hd2 : d ≠ 1 := fun x => hd (fun _ => .inl x)
      have hd3 : d ≠ n := fun x => hd (fun _ => .inr x)
      have hle := Nat.le_of_dvd (by omega) hd1
      have h0 : d ≠ 0 := by intro x; rw [x] at hd1; have := Nat.eq_zero_of_zero_dvd hd1; omega
      obtain ⟨r, hr, hrd⟩ := ih d (by omega) (by omega)
      exact ⟨r, hr, Nat.dvd_trans hrd hd1⟩
theorem isP_big (P F : Nat) (h2 : 2 ≤ P) (hF : ∀ r, IsP r → r ∣ P → F ∣ r - 1) (hFF : P < F * F) : IsP P := by
  refine ⟨h2, fun d hd => ?_⟩
  apply Classical.byContradiction
  intro hno
  have hno1 : d ≠ 1 := fun x => hno (.inl x)
  have hno2 : d ≠ P := fun x => hno (.inr x)
  obtain ⟨e, he⟩ := hd
  have hd0 : d ≠ 0 := by intro x; rw [x] at he; omega
  have he0 : e ≠ 0 := by intro x; rw [x] at he; omega
  have he1 : e ≠ 1 := by intro x; rw [x] at he; omega
  have small : ∀ x, x ∣ P → 2 ≤ x → F < x := by
    intro x hx hx2
    obtain ⟨r, hr, hrx⟩ := factor x hx2
    have := Nat.le_of_dvd (by have := hr.1; omega) (hF r hr (Nat.dvd_trans hrx hx))
    have := Nat.le_of_dvd (by omega) hrx
    have := hr.1
    omega
  have s1 := small d ⟨e, he⟩ (by omega)
  have s2 := small e ⟨d, by rw [he, Nat.mul_comm]⟩ (by omega)
  have : F * F ≤ d * e := Nat.mul_le_mul (by omega) (by omega)
  omega
theorem isP_prime : IsP 2305843009213693951 := by
  refine isP_big _ (61 * (151 * (331 * 1321))) (by omega) (fun r hr hd => ?_) (by decide +kernel)
  have d1 := poc _ r 61 2 hr hd (isP_of _ (by decide +kernel)) (by decide +kernel) (by decide +kernel) (by decide +kernel)
  have d2 := poc _ r 151 2211238755008147949 hr hd (isP_of _ (by decide +kernel)) (by decide +kernel) (by decide +kernel) (by decide +kernel)
  have d3 := poc _ r 331 1491285494954315879 hr hd (isP_of _ (by decide +kernel)) (by decide +kernel) (by decide +kernel) (by decide +kernel)
  have d4 := poc _ r 1321 234060095121088422 hr hd (isP_of _ (by decide +kernel)) (by decide +kernel) (by decide +kernel) (by decide +kernel)
  have c34 := Nat.Coprime.mul_dvd_of_dvd_of_dvd (by decide +kernel : Nat.Coprime 331 1321) d3 d4
  have c234 := Nat.Coprime.mul_dvd_of_dvd_of_dvd (by decide +kernel : Nat.Coprime 151 (331 * 1321)) d2 c34
  exact Nat.Coprime.mul_dvd_of_dvd_of_dvd (by decide +kernel : Nat.Coprime 61 (151 * (331 * 1321))) d1 c234
theorem one_over (x : Int) (n : Nat) (h0 : 0 < x) (h1 : x < 2305843009213693951) (hn : n + 1 = 2305843009213693951 - 1) : x * x ^ n % 2305843009213693951 = 1 := by
  obtain ⟨a, rfl⟩ := Int.eq_ofNat_of_zero_le (Int.le_of_lt h0)
  have hd : ¬ 2305843009213693951 ∣ a := by intro h; have := Nat.le_of_dvd (by omega) h; omega
  have h := fermat_one isP_prime a hd
  rw [← hn, Nat.pow_succ'] at h
  rw [← Int.natCast_pow, ← Int.natCast_mul]
  show ((a * a ^ n : Nat) : Int) % ((2305843009213693951 : Nat) : Int) = ((1 : Nat) : Int)
  rw [← Int.natCast_emod, h]
theorem mul_zero (x y : Int) (h : x * y % 2305843009213693951 = 0) : x % 2305843009213693951 = 0 ∨ y % 2305843009213693951 = 0 := by
  have h' : (2305843009213693951 : Int) ∣ x * y := Int.dvd_of_emod_eq_zero h
  have h2 : 2305843009213693951 ∣ x.natAbs * y.natAbs := by
    rw [← Int.natAbs_mul]; exact Int.ofNat_dvd_left.1 h'
  rcases euclid isP_prime h2 with k | k
  · exact .inl (Int.emod_eq_zero_of_dvd (Int.ofNat_dvd_left.2 k))
  · exact .inr (Int.emod_eq_zero_of_dvd (Int.ofNat_dvd_left.2 k))
theorem unit (x : Int) (h0 : 0 < x) (h1 : x < 2305843009213693951) : Num.mulP x (Num.powP x 2305843009213693949) = 1 := by
  unfold Num.mulP Num.powP
  obtain ⟨n, hn⟩ : ∃ n : Nat, n = (2305843009213693949 : Int).toNat := ⟨_, rfl⟩
  rw [← hn, Int.mul_emod, Int.emod_emod, ← Int.mul_emod]
  exact one_over x n h0 h1 (by omega)
end Go.Proofs.YtchideljndagjabGreat.Prm
namespace Go.Proofs.YtchideljndagjabGreat.Cli
open Frm
set_option linter.unusedVariables false
structure Cl where
  N : Int
  T : Int
  M : Int
  id : Int
  inp : List Int
  ch : Int
  ms : Int
  sd : Int
  sm : List Int
  ss : List Int
def cfgB (N T M D : Int) : Bool := decide (1 ≤ N ∧ N ≤ 12) && (decide (1 ≤ T ∧ T ≤ N) && (decide (1 ≤ M ∧ M ≤ 12) && decide (1 ≤ D ∧ D ≤ 50)))
def wordsB (l : List Int) : Bool := l.all wdB
def drawB (T M : Int) (inp : List Int) (ch mk sd : Int) (sm ss : List Int) : Bool :=
  wordsB inp && (decide ((inp.length : Int) = M) && (decide ((sm.length : Int) = T - 1) && (decide ((ss.length : Int) = T - 1) && (sm.all Num.elB && (ss.all Num.elB && (Num.elB ch && (Num.elB mk && Num.elB sd)))))))
structure Good (c : Cl) : Prop where
  n : 1 ≤ c.N ∧ c.N ≤ 12
  t : 1 ≤ c.T ∧ c.T ≤ c.N
  m : 1 ≤ c.M ∧ c.M ≤ 12
  i : 1 ≤ c.id ∧ c.id ≤ c.N
  inp : ∀ z ∈ c.inp, 0 ≤ z ∧ z < 4294967296
  len : (c.inp.length : Int) = c.M
  sml : (c.sm.length : Int) = c.T - 1
  ssl : (c.ss.length : Int) = c.T - 1
  sm : c.sm.all Num.elB = true
  ss : c.ss.all Num.elB = true
  ch : 0 ≤ c.ch ∧ c.ch < 2305843009213693951
  ms : 0 ≤ c.ms ∧ c.ms < 2305843009213693951
  sd : 0 ≤ c.sd ∧ c.sd < 2305843009213693951
theorem good_of {N T M D : Int} {id : Int} {inp : List Int} {ch mk sd : Int} {sm ss : List Int} (h1 : cfgB N T M D = true) (h2 : 1 ≤ id ∧ id ≤ N) (h3 : drawB T M inp ch mk sd sm ss = true) : Good ⟨N, T, M, id, inp, ch, mk, sd, sm, ss⟩ := by
  unfold cfgB at h1
  unfold drawB wordsB at h3
  simp only [Bool.and_eq_true, decide_eq_true_iff, Num.elB_iff] at h1 h3
  obtain ⟨a1, a2, a3, a4⟩ := h1
  obtain ⟨b1, b2, b3, b4, b5, b6, b7, b8, b9⟩ := h3
  exact ⟨a1, a2, a3, h2, fun z hz => wdB_iff.1 (List.all_eq_true.1 b1 z hz), b2, b3, b4, b5, b6, b7, b8, b9⟩
def itemOf (l : List It) (v : Int) : It := (l.find? fun x => decide (x.1 = v)).getD (0, 0, 0, 0)
def hasI (l : List It) (v : Int) : Bool := l.any fun x => decide (x.1 = v)
def pubA (c : Cl) : Int := Num.powP 37 c.ch
def pubB (c : Cl) : Int := Num.powP 37 c.ms
def keysAgree (c : Cl) (k : List It) : Bool :=
  (k.all fun x => decide (x.1 ≤ c.N)) && (decide (c.T ≤ (k.length : Int)) && (decide ((itemOf k c.id).1 = c.id) && (decide ((itemOf k c.id).2.1 = pubA c) && decide ((itemOf k c.id).2.2.1 = pubB c))))
def chKey (c : Cl) (k : List It) (v : Int) : Int := Num.powP (itemOf k v).2.1 c.ch
def mkKey (c : Cl) (k : List It) (v : Int) : Int := Num.powP (itemOf k v).2.2.1 c.ms
def opensB (c : Cl) (k b : List It) (v : Int) : Bool := decide (Num.tagN (chKey c k v) (64 * v + 4 * c.id) (itemOf b v).2.1 (itemOf b v).2.2.1 = (itemOf b v).2.2.2)
def mShare (c : Cl) (k b : List It) (v : Int) : Int := if v = c.id then Pol.polyP c.ms c.sm c.id else Num.subP (itemOf b v).2.1 (Num.padN (chKey c k v) (64 * v + 4 * c.id))
def sShare (c : Cl) (k b : List It) (v : Int) : Int := if v = c.id then Pol.polyP c.sd c.ss c.id else Num.subP (itemOf b v).2.2.1 (Num.padN (chKey c k v) (64 * v + 4 * c.id + 1))
def boxAgree (c : Cl) (k b : List It) : Bool :=
  !hasI b c.id && (decide (c.T ≤ (b.length : Int) + 1) && b.all fun x => hasI k x.1 && opensB c k b x.1)
def askAgree (c : Cl) (b a : List It) : Bool :=
  (a.all fun x => hasI b x.1 || decide (x.1 = c.id)) && (hasI a c.id && decide (c.T ≤ (a.length : Int)))

abbrev Fr := Int × Int × List It
abbrev St := Int × List It × List It × List It
def stepS (c : Cl) (s : St) (f : Fr) : St :=
  if s.1 = 1 ∧ f.1 = 2 then (if keysAgree c f.2.2 = true then (2, f.2.2, [], []) else (0, f.2.2, [], []))
  else if s.1 = 2 ∧ f.1 = 4 then (if boxAgree c s.2.1 f.2.2 = true then (3, s.2.1, f.2.2, []) else (0, s.2.1, f.2.2, []))
  else if s.1 = 3 ∧ f.1 = 6 then (if askAgree c s.2.2.1 f.2.2 = true then (4, s.2.1, s.2.2.1, f.2.2) else (0, s.2.1, s.2.2.1, f.2.2))
  else s
theorem stepS_rest (c : Cl) (s : St) (f : Fr) (h1 : ¬ (s.1 = 1 ∧ f.1 = 2)) (h2 : ¬ (s.1 = 2 ∧ f.1 = 4)) (h3 : ¬ (s.1 = 3 ∧ f.1 = 6)) : stepS c s f = s := by
  unfold stepS; rw [if_neg h1, if_neg h2, if_neg h3]
def sharing (c : Cl) (k : List It) : List It := (k.filter fun x => decide (x.1 ≠ c.id)).map fun x =>
  (x.1, Num.addP (Pol.polyP c.ms c.sm x.1) (Num.padN (chKey c k x.1) (64 * c.id + 4 * x.1)), Num.addP (Pol.polyP c.sd c.ss x.1) (Num.padN (chKey c k x.1) (64 * c.id + 4 * x.1 + 1)),
    Num.tagN (chKey c k x.1) (64 * c.id + 4 * x.1) (Num.addP (Pol.polyP c.ms c.sm x.1) (Num.padN (chKey c k x.1) (64 * c.id + 4 * x.1))) (Num.addP (Pol.polyP c.sd c.ss x.1) (Num.padN (chKey c k x.1) (64 * c.id + 4 * x.1 + 1))))
def maskSum (c : Cl) (k b : List It) (i : Nat) : Int := c.inp.getD i 0 + Num.strAt c.sd i + (b.map fun x => if c.id < x.1 then Num.strAt (mkKey c k x.1) i else - Num.strAt (mkKey c k x.1) i).sum
def masking (c : Cl) (k b : List It) : List It := (List.range c.M.toNat).map fun i : Nat => ((i : Int) + 1, maskSum c k b i % 4294967296, 0, 0)
def tells (c : Cl) (k b a : List It) : List It := ((List.range 12).filter fun v : Nat => hasI b ((v : Int) + 1) || decide (((v : Int) + 1) = c.id)).map fun v : Nat =>
  (((v : Int) + 1), if hasI a ((v : Int) + 1) = true then 1 else 2, if hasI a ((v : Int) + 1) = true then sShare c k b ((v : Int) + 1) else mShare c k b ((v : Int) + 1), 0)
def answer (c : Cl) (s : St) : Option Fr :=
  if s.1 = 2 then some (3, c.id, sharing c s.2.1) else if s.1 = 3 then some (5, c.id, masking c s.2.1 s.2.2.1) else if s.1 = 4 then some (7, c.id, tells c s.2.1 s.2.2.1 s.2.2.2) else none
theorem it_get (l : List It) (i : Nat) (hi : i < l.length) : it l i = l[i] := by
  unfold it; rw [List.getD_eq_getElem?_getD, List.getElem?_eq_getElem hi]; rfl
theorem rise_pair {l : List It} (h : riseB l = true) : l.Pairwise (fun x y => x.1 < y.1) ∧ ∀ x ∈ l, 1 ≤ x.1 ∧ x.1 ≤ 12 := by
  have h' := allB_iff.1 h
  have hc : ∀ i (hi : i < l.length), 1 ≤ (l[i]).1 ∧ (l[i]).1 ≤ 12 := fun i hi => by
    have := h' i hi
    unfold riseAt at this
    rw [Bool.and_eq_true, Num.clB_iff, it_get l i hi] at this
    exact this.1
  have hs : ∀ i (hi : i + 1 < l.length), (l[i]'(by omega)).1 < (l[i + 1]).1 := fun i hi => by
    have := h' (i + 1) hi
    unfold riseAt at this
    rw [Bool.and_eq_true, it_get l (i + 1) hi, Nat.add_sub_cancel, it_get l i (by omega)] at this
    have h2 := this.2
    rw [decide_eq_false (show ¬ i + 1 = 0 by omega), Bool.false_or, decide_eq_true_iff] at h2
    exact h2
  have key : ∀ d i (hi : i + d + 1 < l.length), (l[i]'(by omega)).1 < (l[i + d + 1]).1 := by
    intro d
    induction d with
    | zero => exact fun i hi => hs i hi
    | succ d ih =>
      intro i hi
      have h1 := ih i (by omega)
      have h2 := hs (i + d + 1) (by omega)
      exact Int.lt_trans h1 h2
  refine ⟨List.pairwise_iff_getElem.2 fun i j hi hj hij => ?_, fun x hx => ?_⟩
  · have := key (j - i - 1) i (by omega)
    have e : i + (j - i - 1) + 1 = j := by omega
    simp only [e] at this
    exact this
  · obtain ⟨i, hi, rfl⟩ := List.getElem_of_mem hx
    exact hc i hi
theorem pair_rise {l : List It} (h1 : l.Pairwise (fun x y => x.1 < y.1)) (h2 : ∀ x ∈ l, 1 ≤ x.1 ∧ x.1 ≤ 12) : riseB l = true := by
  refine allB_yes fun i hi => ?_
  unfold riseAt
  have hx := h2 _ (List.getElem_mem hi)
  rw [it_get l i hi, Num.clB_yes hx.1 hx.2, Bool.true_and]
  by_cases h0 : i = 0
  · rw [decide_eq_true h0]; rfl
  · have hp := List.pairwise_iff_getElem.1 h1 (i - 1) i (by omega) hi (by omega)
    rw [it_get l (i - 1) (by omega), decide_eq_true hp, Bool.or_true]
theorem all_it {l : List It} {p : It → Bool} (h : ∀ x ∈ l, p x = true) : allB l.length (fun i => p (it l i)) = true :=
  allB_yes fun i hi => by rw [it_get l i hi]; exact h _ (List.getElem_mem hi)
theorem pair_len {l : List It} (h1 : l.Pairwise (fun x y => x.1 < y.1)) (h2 : ∀ x ∈ l, 1 ≤ x.1 ∧ x.1 ≤ 12) : l.length ≤ 12 := by
  have key : ∀ i (hi : i < l.length), (i : Int) + 1 ≤ (l[i]).1 := by
    intro i
    induction i with
    | zero => intro hi; have := h2 _ (List.getElem_mem hi); omega
    | succ i ih =>
      intro hi
      have a := ih (by omega)
      have b := List.pairwise_iff_getElem.1 h1 i (i + 1) (by omega) hi (by omega)
      omega
  rcases Nat.eq_zero_or_pos l.length with h | h
  · omega
  · have a := key (l.length - 1) (by omega)
    have b := h2 _ (List.getElem_mem (show l.length - 1 < l.length by omega))
    omega
theorem el_addP (a b : Int) : Num.elB (Num.addP a b) = true := Num.elB_yes (Num.addP_lo a b) (Num.addP_hi a b)
theorem el_subP (a b : Int) : Num.elB (Num.subP a b) = true := Num.elB_yes (Num.subP_lo a b) (Num.subP_hi a b)
theorem el_polyP (s : Int) (ds : List Int) (x : Int) : Num.elB (Pol.polyP s ds x) = true := Num.elB_yes (by unfold Pol.polyP; omega) (by unfold Pol.polyP; omega)
theorem el_tagN (k q x y : Int) : Num.elB (Num.tagN k q x y) = true := Num.elB_yes (Num.tagN_lo k q x y) (Num.tagN_hi k q x y)
theorem sharing_ok {c : Cl} (hc : Good c) {k : List It} (hr : riseB k = true) : okF 3 c.id (sharing c k) = true := by
  obtain ⟨p1, p2⟩ := rise_pair hr
  have hid : ∀ x ∈ sharing c k, ∃ y ∈ k, y.1 ≠ c.id ∧ x.1 = y.1 ∧ okI 3 x = true := by
    intro x hx
    unfold sharing at hx
    obtain ⟨y, hy, rfl⟩ := List.mem_map.1 hx
    obtain ⟨hy1, hy2⟩ := List.mem_filter.1 hy
    refine ⟨y, hy1, by simpa using hy2, rfl, ?_⟩
    show (Num.elB _ && (Num.elB _ && Num.elB _)) = true
    rw [el_addP, el_addP, el_tagN]; rfl
  have q1 : (sharing c k).Pairwise (fun x y => x.1 < y.1) := by
    unfold sharing
    rw [List.pairwise_map]
    exact (p1.filter _).imp (fun h => h)
  have q2 : ∀ x ∈ sharing c k, 1 ≤ x.1 ∧ x.1 ≤ 12 := fun x hx => by
    obtain ⟨y, hy, _, e, _⟩ := hid x hx
    rw [e]; exact p2 y hy
  unfold okF
  have a1 := decide_eq_true (pair_len q1 q2)
  have a2 : fromB 3 c.id = true := Num.clB_yes hc.i.1 (by have := hc.i.2; have := hc.n.2; omega)
  have a3 := pair_rise q1 q2
  have a4 : idsB 3 c.id (sharing c k) = true := by
    show noneB _ _ = true
    exact all_it (p := fun x => decide (x.1 ≠ c.id)) (fun x hx => by
      obtain ⟨y, _, hy, e, _⟩ := hid x hx
      exact decide_eq_true (by rw [e]; exact hy))
  have a5 : numsB 3 (sharing c k) = true := all_it (p := okI 3) (fun x hx => by obtain ⟨_, _, _, _, h⟩ := hid x hx; exact h)
  rw [a1, a2, a3, a4, a5]; rfl
theorem masking_length (c : Cl) (k b : List It) : (masking c k b).length = c.M.toNat := by simp [masking]
theorem masking_it (c : Cl) (k b : List It) (i : Nat) (hi : i < c.M.toNat) : it (masking c k b) i = ((i : Int) + 1, maskSum c k b i % 4294967296, 0, 0) := by
  unfold masking; exact it_range _ _ i hi
theorem masking_ok {c : Cl} (hc : Good c) (k b : List It) : okF 5 c.id (masking c k b) = true := by
  have hm := hc.m
  unfold okF
  have a1 : decide ((masking c k b).length ≤ 12) = true := decide_eq_true (by rw [masking_length]; omega)
  have a2 : fromB 5 c.id = true := Num.clB_yes hc.i.1 (by have := hc.i.2; have := hc.n.2; omega)
  have a3 : riseB (masking c k b) = true := allB_yes fun i hi => by
    rw [masking_length] at hi
    unfold riseAt
    rw [masking_it c k b i hi, Num.clB_yes (by show 1 ≤ (i : Int) + 1; omega) (by show (i : Int) + 1 ≤ 12; omega), Bool.true_and]
    by_cases h0 : i = 0
    · rw [decide_eq_true h0]; rfl
    · rw [masking_it c k b (i - 1) (by omega), decide_eq_true (show (((i - 1 : Nat) : Int) + 1) < (i : Int) + 1 by omega), Bool.or_true]
  have a4 : idsB 5 c.id (masking c k b) = true := by
    show (decide (1 ≤ (masking c k b).length) && countB (masking c k b)) = true
    have : countB (masking c k b) = true := allB_yes fun i hi => by
      rw [masking_length] at hi
      rw [masking_it c k b i hi]; exact decide_eq_true rfl
    rw [this, decide_eq_true (by rw [masking_length]; omega)]; rfl
  have a5 : numsB 5 (masking c k b) = true := allB_yes fun i hi => by
    rw [masking_length] at hi
    rw [masking_it c k b i hi]
    show (wdB (maskSum c k b i % 4294967296) && (zB 0 && zB 0)) = true
    rw [wdB_iff.2 ⟨by omega, by omega⟩]; rfl
  rw [a1, a2, a3, a4, a5]; rfl
theorem tells_ok {c : Cl} (hc : Good c) (k b a : List It) : okF 7 c.id (tells c k b a) = true := by
  have hi := hc.i
  have hn := hc.n
  have hid : ∀ x ∈ tells c k b a, ∃ v : Nat, v < 12 ∧ x.1 = (v : Int) + 1 ∧ okI 7 x = true := by
    intro x hx
    unfold tells at hx
    obtain ⟨v, hv, rfl⟩ := List.mem_map.1 hx
    obtain ⟨hv1, hv2⟩ := List.mem_filter.1 hv
    refine ⟨v, List.mem_range.1 hv1, rfl, ?_⟩
    show (tB _ && (Num.elB _ && zB 0)) = true
    have e1 : ∀ q : Prop, [Decidable q] → tB (if q then 1 else 2) = true := fun q _ => by split <;> rfl
    have e2 : Num.elB (sShare c k b ((v : Int) + 1)) = true := by unfold sShare; split; exact el_polyP _ _ _; exact el_subP _ _
    have e3 : Num.elB (mShare c k b ((v : Int) + 1)) = true := by unfold mShare; split; exact el_polyP _ _ _; exact el_subP _ _
    have e4 : Num.elB (if hasI a ((v : Int) + 1) = true then sShare c k b ((v : Int) + 1) else mShare c k b ((v : Int) + 1)) = true := by split; exact e2; exact e3
    rw [e1, e4]; rfl
  have q1 : (tells c k b a).Pairwise (fun x y => x.1 < y.1) := by
    unfold tells
    rw [List.pairwise_map]
    exact (List.pairwise_lt_range.filter _).imp (fun h => by show ((_ : Nat) : Int) + 1 < ((_ : Nat) : Int) + 1; omega)
  have q2 : ∀ x ∈ tells c k b a, 1 ≤ x.1 ∧ x.1 ≤ 12 := fun x hx => by
    obtain ⟨v, hv, e, _⟩ := hid x hx
    rw [e]; omega
  have q3 : 1 ≤ (tells c k b a).length := by
    have hm : (c.id.toNat - 1) ∈ (List.range 12).filter fun v : Nat => hasI b ((v : Int) + 1) || decide (((v : Int) + 1) = c.id) := by
      rw [List.mem_filter]
      refine ⟨List.mem_range.2 (by omega), ?_⟩
      rw [decide_eq_true (show (((c.id.toNat - 1 : Nat) : Int) + 1) = c.id by omega), Bool.or_true]
    have := List.length_pos_of_mem hm
    unfold tells
    rw [List.length_map]; omega
  unfold okF
  have a1 := decide_eq_true (pair_len q1 q2)
  have a2 : fromB 7 c.id = true := Num.clB_yes hi.1 (by omega)
  have a3 := pair_rise q1 q2
  have a4 : idsB 7 c.id (tells c k b a) = true := decide_eq_true q3
  have a5 : numsB 7 (tells c k b a) = true := all_it (p := okI 7) (fun x hx => by obtain ⟨_, _, _, h⟩ := hid x hx; exact h)
  rw [a1, a2, a3, a4, a5]; rfl
end Go.Proofs.YtchideljndagjabGreat.Cli
namespace Go.Proofs.YtchideljndagjabGreat.Cli
open Frm
set_option linter.unusedVariables false
structure Pr where
  mem : Bool
  ck : Int
  mq : Int
  ms : Int
  ss : Int
def Pr.z : Pr := ⟨false, 0, 0, 0, 0⟩
def updP (f : Nat → Pr) (v : Nat) (p : Pr) : Nat → Pr := fun u => if u = v then p else f u
theorem updP_same (f : Nat → Pr) (v : Nat) (p : Pr) : updP f v p v = p := by simp [updP]
theorem updP_other (f : Nat → Pr) (v : Nat) (p : Pr) {u : Nat} (h : u ≠ v) : updP f v p u = f u := by simp [updP, h]
def ownPr (c : Cl) : Pr := ⟨true, 0, 0, 0, Pol.polyP c.sd c.ss c.id⟩
def pr1 (c : Cl) (k : List It) (v : Int) : Pr := if v = c.id then ownPr c else ⟨true, chKey c k v, mkKey c k v, 0, 0⟩
def pr2 (c : Cl) (k b : List It) (v : Int) : Pr := ⟨true, 0, mkKey c k v, mShare c k b v, sShare c k b v⟩
def firstP (c : Cl) (k : List It) (v : Nat) : Pr := if hasI k v = true then pr1 c k v else Pr.z
def firstJ (c : Cl) (k : List It) (j : Nat) (v : Nat) : Pr := if hasI (k.take j) v = true then pr1 c k v else Pr.z
def secondP (c : Cl) (k b : List It) (v : Nat) : Pr := if hasI b v = true then pr2 c k b v else if (v : Int) = c.id then ownPr c else Pr.z
def secondJ (c : Cl) (k b : List It) (j : Nat) (v : Nat) : Pr := if hasI (b.take j) v = true then pr2 c k b v else if (v : Int) = c.id then ownPr c else Pr.z
theorem hasI_iff {l : List It} {v : Int} : hasI l v = true ↔ ∃ x ∈ l, x.1 = v := by unfold hasI; simp
theorem hasI_off {l : List It} {v : Int} : hasI l v = false ↔ ∀ x ∈ l, x.1 ≠ v := by unfold hasI; simp
theorem hasI_take_succ (l : List It) (j : Nat) (hj : j < l.length) (v : Int) : hasI (l.take (j + 1)) v = (hasI (l.take j) v || decide ((it l j).1 = v)) := by
  unfold hasI
  rw [List.take_succ_eq_append_getElem hj, List.any_append, it_get l j hj]
  simp
theorem pair_ne {l : List It} (h : riseB l = true) {i j : Nat} (hi : i < l.length) (hj : j < l.length) (hij : i < j) : (it l i).1 < (it l j).1 := by
  have := List.pairwise_iff_getElem.1 (rise_pair h).1 i j hi hj hij
  rwa [it_get l i hi, it_get l j hj]
theorem itemOf_it {l : List It} (h : riseB l = true) {j : Nat} (hj : j < l.length) : itemOf l (it l j).1 = it l j := by
  unfold itemOf
  cases e : l.find? (fun x => decide (x.1 = (it l j).1)) with
  | none =>
    rw [List.find?_eq_none] at e
    have := e (it l j) (by rw [it_get l j hj]; exact List.getElem_mem hj)
    simp at this
  | some y =>
    have h1 := List.find?_some e
    have h2 := List.mem_of_find?_eq_some e
    obtain ⟨i, hi, rfl⟩ := List.getElem_of_mem h2
    rw [decide_eq_true_iff] at h1
    show l[i] = it l j
    rw [← it_get l i hi] at h1 ⊢
    rcases Nat.lt_trichotomy i j with q | q | q
    · have := pair_ne h hi hj q; omega
    · rw [q]
    · have := pair_ne h hj hi q; omega
theorem itemOf_has {l : List It} {v : Int} (h : hasI l v = true) : (itemOf l v).1 = v := by
  unfold itemOf
  cases e : l.find? (fun x => decide (x.1 = v)) with
  | none =>
    rw [List.find?_eq_none] at e
    obtain ⟨x, hx, hv⟩ := hasI_iff.1 h
    have := e x hx
    simp [hv] at this
  | some y => simpa using List.find?_some e
theorem itemOf_none {l : List It} {v : Int} (h : hasI l v = false) : itemOf l v = (0, 0, 0, 0) := by
  unfold itemOf
  cases e : l.find? (fun x => decide (x.1 = v)) with
  | none => rfl
  | some y =>
    have h1 := List.find?_some e
    have h2 := List.mem_of_find?_eq_some e
    rw [decide_eq_true_iff] at h1
    exact absurd h1 (hasI_off.1 h y h2)
theorem hasI_own {c : Cl} (hc : Good c) {k : List It} (h : keysAgree c k = true) : hasI k c.id = true := by
  cases e : hasI k c.id with
  | true => rfl
  | false =>
    unfold keysAgree at h
    rw [itemOf_none e] at h
    simp only [Bool.and_eq_true, decide_eq_true_iff] at h
    have := hc.i.1
    have := h.2.2.1
    omega
theorem firstJ_zero (c : Cl) (k : List It) : firstJ c k 0 = fun _ => Pr.z := by funext v; unfold firstJ; simp [hasI]
theorem firstJ_succ (c : Cl) (k : List It) (j : Nat) (hj : j < k.length) (u : Nat) (hu : (it k j).1 = (u : Int)) : firstJ c k (j + 1) = updP (firstJ c k j) u (pr1 c k (it k j).1) := by
  funext v
  unfold firstJ updP
  rw [hasI_take_succ k j hj]
  by_cases e : v = u
  · subst e
    rw [if_pos rfl, hu, decide_eq_true rfl, Bool.or_true, if_pos rfl]
  · rw [if_neg e, decide_eq_false (show ¬ (it k j).1 = (v : Int) by omega), Bool.or_false]
theorem firstJ_end (c : Cl) (k : List It) : firstJ c k k.length = firstP c k := by funext v; unfold firstJ firstP; rw [List.take_length]
theorem secondJ_zero (c : Cl) (k b : List It) (u : Nat) (hu : c.id = (u : Int)) : secondJ c k b 0 = updP (fun _ => Pr.z) u (ownPr c) := by
  funext v; unfold secondJ updP
  by_cases e : v = u
  · subst e; simp [hasI, hu]
  · simp [hasI, e, hu]; intro q; omega
theorem secondJ_succ (c : Cl) (k b : List It) (j : Nat) (hj : j < b.length) (u : Nat) (hu : (it b j).1 = (u : Int)) : secondJ c k b (j + 1) = updP (secondJ c k b j) u (pr2 c k b (it b j).1) := by
  funext v
  unfold secondJ updP
  rw [hasI_take_succ b j hj]
  by_cases e : v = u
  · subst e
    rw [if_pos rfl, hu, decide_eq_true rfl, Bool.or_true, if_pos rfl]
  · rw [if_neg e, decide_eq_false (show ¬ (it b j).1 = (v : Int) by omega), Bool.or_false]
theorem secondJ_end (c : Cl) (k b : List It) : secondJ c k b b.length = secondP c k b := by funext v; unfold secondJ secondP; rw [List.take_length]
theorem sorted_eq : ∀ (l m : List Int), l.Pairwise (· < ·) → m.Pairwise (· < ·) → (∀ x, x ∈ l ↔ x ∈ m) → l = m
  | [], [], _, _, _ => rfl
  | [], y :: m, _, _, h => absurd ((h y).2 (List.mem_cons_self)) (by simp)
  | x :: l, [], _, _, h => absurd ((h x).1 (List.mem_cons_self)) (by simp)
  | x :: l, y :: m, hl, hm, h => by
    rw [List.pairwise_cons] at hl hm
    have e : x = y := by
      have h1 := (h x).1 (List.mem_cons_self)
      have h2 := (h y).2 (List.mem_cons_self)
      rcases List.mem_cons.1 h1 with e | e
      · exact e
      · rcases List.mem_cons.1 h2 with e' | e'
        · exact e'.symm
        · have := hm.1 x e; have := hl.1 y e'; omega
    subst e
    rw [sorted_eq l m hl.2 hm.2 (fun z => by
      constructor
      · intro hz
        have := (h z).1 (List.mem_cons_of_mem _ hz)
        rcases List.mem_cons.1 this with e | e
        · subst e; exact absurd (hl.1 _ hz) (by omega)
        · exact e
      · intro hz
        have := (h z).2 (List.mem_cons_of_mem _ hz)
        rcases List.mem_cons.1 this with e | e
        · subst e; exact absurd (hm.1 _ hz) (by omega)
        · exact e)]
theorem ids_range {l : List It} (h : riseB l = true) : l.map (·.1) = ((List.range 13).filter fun v : Nat => hasI l v).map (fun v : Nat => (v : Int)) := by
  obtain ⟨p1, p2⟩ := rise_pair h
  apply sorted_eq
  · rw [List.pairwise_map]; exact p1
  · rw [List.pairwise_map]
    exact (List.pairwise_lt_range.filter _).imp (fun h => by show ((_ : Nat) : Int) < ((_ : Nat) : Int); omega)
  · intro x
    constructor
    · intro hx
      obtain ⟨y, hy, rfl⟩ := List.mem_map.1 hx
      have := p2 y hy
      refine List.mem_map.2 ⟨y.1.toNat, List.mem_filter.2 ⟨List.mem_range.2 (by omega), ?_⟩, by omega⟩
      exact hasI_iff.2 ⟨y, hy, by omega⟩
    · intro hx
      obtain ⟨v, hv, rfl⟩ := List.mem_map.1 hx
      obtain ⟨_, h2⟩ := List.mem_filter.1 hv
      obtain ⟨y, hy, e⟩ := hasI_iff.1 h2
      exact List.mem_map.2 ⟨y, hy, e⟩
theorem map_ids {α : Type} {l : List It} (h : riseB l = true) (f : Int → α) : l.map (fun x => f x.1) = ((List.range 13).filter fun v : Nat => hasI l v).map (fun v : Nat => f v) := by
  have := congrArg (List.map f) (ids_range h)
  rw [List.map_map, List.map_map] at this
  exact this
theorem filter_ids {α : Type} {l : List It} (h : riseB l = true) (p : Int → Bool) (f : Int → α) : (l.filter fun x => p x.1).map (fun x => f x.1) = ((List.range 13).filter fun v : Nat => hasI l v && p v).map (fun v : Nat => f v) := by
  have := congrArg (fun m => (List.filter p m).map f) (ids_range h)
  simp only [List.filter_map, List.map_map] at this
  have e : ((List.range 13).filter fun v : Nat => hasI l v && p v) = ((List.range 13).filter fun v : Nat => hasI l v).filter (p ∘ fun v : Nat => (v : Int)) := by
    rw [List.filter_filter]; congr 1; funext v; exact Bool.and_comm _ _
  rw [e]
  exact this
def sealI (c : Cl) (k : List It) (v : Int) : It :=
  (v, Num.addP (Pol.polyP c.ms c.sm v) (Num.padN (chKey c k v) (64 * c.id + 4 * v)), Num.addP (Pol.polyP c.sd c.ss v) (Num.padN (chKey c k v) (64 * c.id + 4 * v + 1)),
    Num.tagN (chKey c k v) (64 * c.id + 4 * v) (Num.addP (Pol.polyP c.ms c.sm v) (Num.padN (chKey c k v) (64 * c.id + 4 * v))) (Num.addP (Pol.polyP c.sd c.ss v) (Num.padN (chKey c k v) (64 * c.id + 4 * v + 1))))
def sealedN (c : Cl) (k : List It) (n : Nat) : List It := ((List.range n).filter fun v : Nat => hasI k v && decide ((v : Int) ≠ c.id)).map fun v : Nat => sealI c k v
theorem sealed_all (c : Cl) {k : List It} (h : riseB k = true) : sealedN c k 13 = sharing c k := by
  unfold sealedN sharing
  exact (filter_ids h (fun v => decide (v ≠ c.id)) (sealI c k)).symm
theorem sealedN_succ (c : Cl) (k : List It) (n : Nat) : sealedN c k (n + 1) = sealedN c k n ++ (if (hasI k n && decide ((n : Int) ≠ c.id)) = true then [sealI c k n] else []) := by
  unfold sealedN
  rw [List.range_succ, List.filter_append, List.map_append]
  congr 1
  by_cases e : (hasI k n && decide ((n : Int) ≠ c.id)) = true
  · rw [if_pos e, List.filter_cons, if_pos e]; rfl
  · rw [if_neg e, List.filter_cons, if_neg e]; rfl
def tellI (c : Cl) (k b a : List It) (v : Int) : It := (v, if hasI a v = true then 1 else 2, if hasI a v = true then sShare c k b v else mShare c k b v, 0)
def toldN (c : Cl) (k b a : List It) (n : Nat) : List It := ((List.range n).filter fun v : Nat => hasI b v || decide ((v : Int) = c.id)).map fun v : Nat => tellI c k b a v
theorem toldN_succ (c : Cl) (k b a : List It) (n : Nat) : toldN c k b a (n + 1) = toldN c k b a n ++ (if (hasI b n || decide ((n : Int) = c.id)) = true then [tellI c k b a n] else []) := by
  unfold toldN
  rw [List.range_succ, List.filter_append, List.map_append]
  congr 1
  by_cases e : (hasI b n || decide ((n : Int) = c.id)) = true
  · rw [if_pos e, List.filter_cons, if_pos e]; rfl
  · rw [if_neg e, List.filter_cons, if_neg e]; rfl
theorem told_all {c : Cl} (hc : Good c) {b : List It} (hb : riseB b = true) (k a : List It) : toldN c k b a 13 = tells c k b a := by
  unfold toldN tells
  have r : List.range 13 = 0 :: (List.range 12).map (· + 1) := by decide
  have h0 : ¬ (hasI b ((0 : Nat) : Int) || decide ((((0 : Nat) : Int)) = c.id)) = true := by
    have h1 : hasI b ((0 : Nat) : Int) = false := hasI_off.2 fun x hx => by have := (rise_pair hb).2 x hx; omega
    have := hc.i.1
    rw [h1, decide_eq_false (show ¬ (((0 : Nat) : Int)) = c.id by omega)]
    exact Bool.false_ne_true
  rw [r, List.filter_cons, if_neg h0, List.filter_map, List.map_map]
  rfl
def msum (c : Cl) (k b : List It) (i : Nat) : Nat → Int
  | 0 => Num.strAt c.sd i
  | n + 1 => msum c k b i n + (if hasI b n = true then (if c.id < (n : Int) then Num.strAt (mkKey c k n) i else 4294967296 - Num.strAt (mkKey c k n) i) else 0)
theorem strAt_range (s : Int) (i : Nat) : 0 ≤ Num.strAt s i ∧ Num.strAt s i < 4294967296 := by unfold Num.strAt; omega
theorem msum_bd (c : Cl) (k b : List It) (i n : Nat) : 0 ≤ msum c k b i n ∧ msum c k b i n ≤ 4294967296 * (1 + n) := by
  induction n with
  | zero => have := strAt_range c.sd i; unfold msum; omega
  | succ n ih =>
    unfold msum
    have := strAt_range (mkKey c k n) i
    split
    · split <;> omega
    · omega
theorem msum_mod (c : Cl) (k b : List It) (i n : Nat) : ∃ t : Int, msum c k b i n = Num.strAt c.sd i + ((((List.range n).filter fun v : Nat => hasI b v).map fun v : Nat => if c.id < (v : Int) then Num.strAt (mkKey c k v) i else - Num.strAt (mkKey c k v) i).sum) + 4294967296 * t := by
  induction n with
  | zero => exact ⟨0, by simp [msum]⟩
  | succ n ih =>
    obtain ⟨t, ht⟩ := ih
    rw [List.range_succ, List.filter_append, List.map_append, List.sum_append]
    unfold msum
    rw [ht]
    cases e : hasI b n with
    | true =>
      rw [if_pos rfl]
      by_cases q : c.id < (n : Int)
      · rw [if_pos q]; refine ⟨t, ?_⟩; simp [e, q]; omega
      · rw [if_neg q]; refine ⟨t + 1, ?_⟩; simp [e, q]; omega
    | false =>
      rw [if_neg (by simp)]
      exact ⟨t, by simp [e]⟩
theorem msum_all (c : Cl) (k : List It) {b : List It} (hb : riseB b = true) (i : Nat) : (c.inp.getD i 0 + msum c k b i 13) % 4294967296 = maskSum c k b i % 4294967296 := by
  obtain ⟨t, ht⟩ := msum_mod c k b i 13
  unfold maskSum
  rw [ht, map_ids hb (fun v => if c.id < v then Num.strAt (mkKey c k v) i else - Num.strAt (mkKey c k v) i)]
  omega
end Go.Proofs.YtchideljndagjabGreat.Cli
