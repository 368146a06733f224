/- Plain arithmetic: 2305843009213693951 is a prime number, so each element but 0 has one over it: its power to the number less two. -/
import Derived.Test.YtgfkgekaodibhaaGreatNum
namespace Go.Proofs.YtgfkgekaodibhaaGreat.Prm
set_option linter.unusedVariables false

def IsP (p : Nat) : Prop := 2 ≤ p ∧ ∀ d, d ∣ p → d = 1 ∨ d = p

theorem euclid {p a b : Nat} (hp : IsP p) (h : p ∣ a * b) : p ∣ a ∨ p ∣ b := by
  rcases hp.2 _ (Nat.gcd_dvd_left p a) with h1 | h1
  · exact .inr (Nat.Coprime.dvd_of_dvd_mul_left h1 h)
  · exact .inl (by rw [← h1]; exact Nat.gcd_dvd_right p a)

/-! ### Binomials -/
def ch : Nat → Nat → Nat
  | _, 0 => 1
  | 0, _ + 1 => 0
  | n + 1, k + 1 => ch n k + ch n (k + 1)

def bs (n a : Nat) : Nat → Nat
  | 0 => 0
  | m + 1 => bs n a m + ch n m * a ^ m

theorem ch_zero (n : Nat) : ch n 0 = 1 := by cases n <;> rfl
theorem ch_succ (n k : Nat) : ch (n + 1) (k + 1) = ch n k + ch n (k + 1) := rfl

theorem ch_big (n : Nat) : ∀ k, n < k → ch n k = 0 := by
  induction n with
  | zero => intro k hk; cases k with
    | zero => omega
    | succ k => rfl
  | succ n ih => intro k hk; cases k with
    | zero => omega
    | succ k => rw [ch_succ, ih k (by omega), ih (k + 1) (by omega)]

theorem ch_self (n : Nat) : ch n n = 1 := by
  induction n with
  | zero => rfl
  | succ n ih => rw [ch_succ, ih, ch_big n (n + 1) (by omega)]

theorem bs_pascal (n a : Nat) : ∀ m, bs (n + 1) a (m + 1) = bs n a (m + 1) + a * bs n a m := by
  intro m
  induction m with
  | zero => simp [bs, ch_zero]
  | succ m ih =>
    rw [bs, ih, ch_succ]
    conv => rhs; rw [bs]
    conv => rhs; rhs; rw [bs]
    rw [Nat.pow_succ]
    grind

theorem bs_pow (n a : Nat) : bs n a (n + 1) = (a + 1) ^ n := by
  induction n with
  | zero => simp [bs, ch]
  | succ n ih =>
    rw [bs_pascal]
    rw [show bs n a (n + 1 + 1) = bs n a (n + 1) + ch n (n + 1) * a ^ (n + 1) from rfl, ch_big n (n + 1) (by omega), ih, Nat.pow_succ]
    grind

theorem ch_absorb (n : Nat) : ∀ k, (k + 1) * ch (n + 1) (k + 1) = (n + 1) * ch n k := by
  induction n with
  | zero => intro k; cases k with
    | zero => rfl
    | succ k => rw [ch_succ, ch_big 0 (k + 1) (by omega), ch_big 0 (k + 1 + 1) (by omega), Nat.add_zero, Nat.mul_zero, Nat.mul_zero]
  | succ n ih => intro k; cases k with
    | zero =>
      have h := ih 0
      rw [ch_zero] at h
      rw [ch_succ, ch_zero]
      omega
    | succ j =>
      have h1 := ih j
      have h2 := ih (j + 1)
      rw [ch_succ (n + 1) (j + 1)]
      rw [ch_succ n j] at *
      grind

theorem ch_dvd {p : Nat} (hp : IsP p) (k : Nat) (h0 : 0 < k) (hk : k < p) : p ∣ ch p k := by
  obtain ⟨j, rfl⟩ : ∃ j, k = j + 1 := ⟨k - 1, by omega⟩
  obtain ⟨n, rfl⟩ : ∃ n, p = n + 1 := ⟨p - 1, by omega⟩
  have h := ch_absorb n j
  rcases euclid hp (a := j + 1) (b := ch (n + 1) (j + 1)) (by rw [h]; exact Nat.dvd_mul_right _ _) with h1 | h1
  · have := Nat.le_of_dvd (by omega) h1; omega
  · exact h1

theorem bs_mod {p : Nat} (hp : IsP p) (a : Nat) : ∀ m, m < p → bs p a (m + 1) % p = 1 % p := by
  intro m
  induction m with
  | zero => intro _; simp [bs, ch_zero]
  | succ m ih =>
    intro h
    rw [bs, Nat.add_mod, ih (by omega)]
    have h1 : ch p (m + 1) * a ^ (m + 1) % p = 0 := Nat.mod_eq_zero_of_dvd (Nat.dvd_trans (ch_dvd hp (m + 1) (by omega) h) (Nat.dvd_mul_right _ _))
    rw [h1]; simp

theorem frob {p : Nat} (hp : IsP p) (a : Nat) : (a + 1) ^ p % p = (a ^ p + 1) % p := by
  have h2 := hp.1
  rw [← bs_pow]
  rw [bs, ch_self, Nat.one_mul, Nat.add_mod]
  have := bs_mod hp a (p - 1) (by omega)
  rw [show p - 1 + 1 = p by omega] at this
  rw [this, ← Nat.add_mod, Nat.add_comm]

theorem fermat {p : Nat} (hp : IsP p) (a : Nat) : a ^ p % p = a % p := by
  have h2 := hp.1
  induction a with
  | zero => rw [Nat.zero_pow (by omega)]
  | succ a ih => rw [frob hp, Nat.add_mod, ih, ← Nat.add_mod]

theorem fermat_one {p : Nat} (hp : IsP p) (a : Nat) (ha : ¬ p ∣ a) : a ^ (p - 1) % p = 1 := by
  have h2 := hp.1
  have h := fermat hp a
  have e : a ^ p = a * a ^ (p - 1) := by rw [← Nat.pow_succ', Nat.succ_eq_add_one, show p - 1 + 1 = p by omega]
  have a0 : 0 < a := by
    rcases Nat.eq_zero_or_pos a with h | h
    · exact absurd (by rw [h]; exact Nat.dvd_zero p) ha
    · exact h
  have q0 : 0 < a ^ (p - 1) := Nat.pow_pos a0
  have hd : p ∣ a * (a ^ (p - 1) - 1) := by
    rw [Nat.mul_sub, Nat.mul_one, ← e]
    exact (Nat.dvd_iff_mod_eq_zero).2 (Nat.sub_mod_eq_zero_of_mod_eq h)
  rcases euclid hp hd with h1 | h1
  · exact absurd h1 ha
  · obtain ⟨c, hc⟩ := h1
    rw [show a ^ (p - 1) = 1 + p * c by omega, Nat.add_mul_mod_self_left, Nat.mod_eq_of_lt (by omega)]

/-! ### The number is prime -/
theorem pow_gcd (c r : Nat) (hr : 1 < r) (m n : Nat) : c ^ m % r = 1 → c ^ n % r = 1 → c ^ (Nat.gcd m n) % r = 1 := by
  induction m, n using Nat.gcd.induction with
  | H0 n => intro _ h; rw [Nat.gcd_zero_left]; exact h
  | H1 m n h0 ih =>
    intro hm hn
    rw [Nat.gcd_rec]
    refine ih ?_ hm
    have e : c ^ n = (c ^ m) ^ (n / m) * c ^ (n % m) := by rw [← Nat.pow_mul, ← Nat.pow_add, Nat.div_add_mod]
    rw [e, Nat.mul_mod, Nat.pow_mod, hm, Nat.one_pow, Nat.mod_eq_of_lt hr, Nat.one_mul, Nat.mod_mod] at hn
    exact hn

theorem poc (P r q c : Nat) (hr : IsP r) (hd : r ∣ P) (hq : IsP q) (h1 : c ^ q % P = 1) (h0 : 1 ≤ c) (hg : Nat.gcd (c - 1) P = 1) : q ∣ r - 1 := by
  have r2 := hr.1
  have q2 := hq.1
  have e1 : c ^ q % r = 1 := by rw [← Nat.mod_mod_of_dvd _ hd, h1, Nat.mod_eq_of_lt (by omega)]
  have hc : ¬ r ∣ c := by
    intro h
    have e : c ^ q = c ^ (q - 1) * c := by rw [← Nat.pow_succ, Nat.succ_eq_add_one, show q - 1 + 1 = q by omega]
    have : c ^ q % r = 0 := Nat.mod_eq_zero_of_dvd (Nat.dvd_trans h (by rw [e]; exact Nat.dvd_mul_left _ _))
    omega
  have e2 := fermat_one hr c hc
  rcases hq.2 _ (Nat.gcd_dvd_left q (r - 1)) with h | h
  · have e3 := pow_gcd c r (by omega) q (r - 1) e1 e2
    rw [h, Nat.pow_one] at e3
    have d1 : r ∣ c - 1 := (Nat.dvd_iff_mod_eq_zero).2 (Nat.sub_mod_eq_zero_of_mod_eq (by rw [e3, Nat.mod_eq_of_lt (by omega)]))
    have d2 := Nat.dvd_gcd d1 hd
    rw [hg] at d2
    have := Nat.le_of_dvd (by omega) d2
    omega
  · rw [← h]; exact Nat.gcd_dvd_right _ _

def smallP (q : Nat) : Bool := decide (2 ≤ q) && (List.range (q + 1)).all fun d => decide (q % d ≠ 0) || d == 1 || d == q

theorem isP_of (q : Nat) (h : smallP q = true) : IsP q := by
  unfold smallP at h
  rw [Bool.and_eq_true, decide_eq_true_iff, List.all_eq_true] at h
  refine ⟨h.1, fun d hd => ?_⟩
  have := h.2 d (List.mem_range.2 (by have := Nat.le_of_dvd (by omega) hd; omega))
  simp only [Bool.or_eq_true, decide_eq_true_iff, beq_iff_eq] at this
  rcases this with (h1 | h1) | h1
  · exact absurd (Nat.mod_eq_zero_of_dvd hd) h1
  · exact .inl h1
  · exact .inr h1

theorem factor (n : Nat) : 2 ≤ n → ∃ r, IsP r ∧ r ∣ n := by
  induction n using Nat.strongRecOn with
  | ind n ih =>
    intro h
    by_cases hp : IsP n
    · exact ⟨n, hp, Nat.dvd_refl n⟩
    · obtain ⟨d, hd⟩ : ∃ d, ¬ (d ∣ n → d = 1 ∨ d = n) := by
        apply Classical.byContradiction
        intro hno
        exact hp ⟨h, fun d => Classical.byContradiction fun hc => hno ⟨d, hc⟩⟩
      have hd1 : d ∣ n := Classical.byContradiction fun hc => hd (fun x => absurd x hc)
      have hd2 : d ≠ 1 := fun x => hd (fun _ => .inl x)
      have hd3 : d ≠ n := fun x => hd (fun _ => .inr x)
      have hle := Nat.le_of_dvd (by omega) hd1
      have h0 : d ≠ 0 := by intro x; rw [x] at hd1; have := Nat.eq_zero_of_zero_dvd hd1; omega
      obtain ⟨r, hr, hrd⟩ := ih d (by omega) (by omega)
      exact ⟨r, hr, Nat.dvd_trans hrd hd1⟩

theorem isP_big (P F : Nat) (h2 : 2 ≤ P) (hF : ∀ r, IsP r → r ∣ P → F ∣ r - 1) (hFF : P < F * F) : IsP P := by
  refine ⟨h2, fun d hd => ?_⟩
  apply Classical.byContradiction
  intro hno
  have hno1 : d ≠ 1 := fun x => hno (.inl x)
  have hno2 : d ≠ P := fun x => hno (.inr x)
  obtain ⟨e, he⟩ := hd
  have hd0 : d ≠ 0 := by intro x; rw [x] at he; omega
  have he0 : e ≠ 0 := by intro x; rw [x] at he; omega
  have he1 : e ≠ 1 := by intro x; rw [x] at he; omega
  have small : ∀ x, x ∣ P → 2 ≤ x → F < x := by
    intro x hx hx2
    obtain ⟨r, hr, hrx⟩ := factor x hx2
    have := Nat.le_of_dvd (by have := hr.1; omega) (hF r hr (Nat.dvd_trans hrx hx))
    have := Nat.le_of_dvd (by omega) hrx
    have := hr.1
    omega
  have s1 := small d ⟨e, he⟩ (by omega)
  have s2 := small e ⟨d, by rw [he, Nat.mul_comm]⟩ (by omega)
  have : F * F ≤ d * e := Nat.mul_le_mul (by omega) (by omega)
  omega

theorem isP_prime : IsP 2305843009213693951 := by
  refine isP_big _ (61 * (151 * (331 * 1321))) (by omega) (fun r hr hd => ?_) (by decide +kernel)
  have d1 := poc _ r 61 2 hr hd (isP_of _ (by decide +kernel)) (by decide +kernel) (by decide +kernel) (by decide +kernel)
  have d2 := poc _ r 151 2211238755008147949 hr hd (isP_of _ (by decide +kernel)) (by decide +kernel) (by decide +kernel) (by decide +kernel)
  have d3 := poc _ r 331 1491285494954315879 hr hd (isP_of _ (by decide +kernel)) (by decide +kernel) (by decide +kernel) (by decide +kernel)
  have d4 := poc _ r 1321 234060095121088422 hr hd (isP_of _ (by decide +kernel)) (by decide +kernel) (by decide +kernel) (by decide +kernel)
  have c34 := Nat.Coprime.mul_dvd_of_dvd_of_dvd (by decide +kernel : Nat.Coprime 331 1321) d3 d4
  have c234 := Nat.Coprime.mul_dvd_of_dvd_of_dvd (by decide +kernel : Nat.Coprime 151 (331 * 1321)) d2 c34
  exact Nat.Coprime.mul_dvd_of_dvd_of_dvd (by decide +kernel : Nat.Coprime 61 (151 * (331 * 1321))) d1 c234

/-! ### On integers -/
theorem one_over (x : Int) (n : Nat) (h0 : 0 < x) (h1 : x < 2305843009213693951) (hn : n + 1 = 2305843009213693951 - 1) : x * x ^ n % 2305843009213693951 = 1 := by
  obtain ⟨a, rfl⟩ := Int.eq_ofNat_of_zero_le (Int.le_of_lt h0)
  have hd : ¬ 2305843009213693951 ∣ a := by intro h; have := Nat.le_of_dvd (by omega) h; omega
  have h := fermat_one isP_prime a hd
  rw [← hn, Nat.pow_succ'] at h
  rw [← Int.natCast_pow, ← Int.natCast_mul]
  show ((a * a ^ n : Nat) : Int) % ((2305843009213693951 : Nat) : Int) = ((1 : Nat) : Int)
  rw [← Int.natCast_emod, h]

theorem mul_zero (x y : Int) (h : x * y % 2305843009213693951 = 0) : x % 2305843009213693951 = 0 ∨ y % 2305843009213693951 = 0 := by
  have h' : (2305843009213693951 : Int) ∣ x * y := Int.dvd_of_emod_eq_zero h
  have h2 : 2305843009213693951 ∣ x.natAbs * y.natAbs := by
    rw [← Int.natAbs_mul]; exact Int.ofNat_dvd_left.1 h'
  rcases euclid isP_prime h2 with k | k
  · exact .inl (Int.emod_eq_zero_of_dvd (Int.ofNat_dvd_left.2 k))
  · exact .inr (Int.emod_eq_zero_of_dvd (Int.ofNat_dvd_left.2 k))

theorem unit (x : Int) (h0 : 0 < x) (h1 : x < 2305843009213693951) : Num.mulP x (Num.powP x 2305843009213693949) = 1 := by
  unfold Num.mulP Num.powP
  obtain ⟨n, hn⟩ : ∃ n : Nat, n = (2305843009213693949 : Int).toNat := ⟨_, rfl⟩
  rw [← hn, Int.mul_emod, Int.emod_emod, ← Int.mul_emod]
  exact one_over x n h0 h1 (by omega)

end Go.Proofs.YtgfkgekaodibhaaGreat.Prm
