/- The value at 0 of the polynomial through points: Lagrange's sum; its value on a polynomial; its narrowing from point to point. -/
import Derived.Test.YtchideljndagjaaZer
namespace Go.Proofs.Ytchideljndagjaa.Lag
open Go.Proofs.Ytchideljndagjaa.Num Go.Proofs.Ytchideljndagjaa.Pol
set_option linter.unusedVariables false

/-- Alike modulo the prime. -/
def Cg (a b : Int) : Prop := (2305843009213693951 : Int) ∣ a - b

theorem cg_iff {a b : Int} : Cg a b ↔ a % 2305843009213693951 = b % 2305843009213693951 := by unfold Cg; omega
theorem cg_refl (a : Int) : Cg a a := ⟨0, by omega⟩
theorem cg_symm {a b : Int} (h : Cg a b) : Cg b a := by unfold Cg at *; omega
theorem cg_trans {a b c : Int} (h : Cg a b) (k : Cg b c) : Cg a c := by unfold Cg at *; omega
theorem cg_add {a b c d : Int} (h : Cg a b) (k : Cg c d) : Cg (a + c) (b + d) := by unfold Cg at *; omega
theorem cg_sub {a b c d : Int} (h : Cg a b) (k : Cg c d) : Cg (a - c) (b - d) := by unfold Cg at *; omega
theorem cg_mul {a b c d : Int} (h : Cg a b) (k : Cg c d) : Cg (a * c) (b * d) := by
  unfold Cg at *
  have e : a * c - b * d = (a - b) * c + b * (c - d) := by grind
  rw [e]; exact Int.dvd_add (Int.dvd_trans h (Int.dvd_mul_right _ _)) (Int.dvd_trans k (Int.dvd_mul_left _ _))
theorem cg_of_eq {a b : Int} (h : a = b) : Cg a b := by rw [h]; exact cg_refl _
theorem cg_emod (a : Int) : Cg (a % 2305843009213693951) a := by unfold Cg; omega
theorem cg_cancel {a b c : Int} (hc : ¬ Cg c 0) (h : Cg (a * c) (b * c)) : Cg a b := by
  have e : (a - b) * c % 2305843009213693951 = 0 := by
    have : (a - b) * c = a * c - b * c := by grind
    rw [this]; unfold Cg at h; omega
  rcases Prm.mul_zero _ _ e with k | k
  · unfold Cg; omega
  · exact absurd (by unfold Cg; omega) hc
theorem cg_prod {a b : Int} (ha : ¬ Cg a 0) (hb : ¬ Cg b 0) : ¬ Cg (a * b) 0 := by
  intro h
  rcases Prm.mul_zero a b (by unfold Cg at h; omega) with k | k
  · exact ha (by unfold Cg; omega)
  · exact hb (by unfold Cg; omega)

/-- The products that make a weight. -/
def ab : List Int → Int → Int
  | [], _ => 1
  | k :: l, x => (if k = x then 1 else k) * ab l x
def be : List Int → Int → Int
  | [], _ => 1
  | k :: l, x => (if k = x then 1 else k - x) * be l x

theorem ab_snoc (l : List Int) (b x : Int) : ab (l ++ [b]) x = ab l x * (if b = x then 1 else b) := by
  induction l with
  | nil => show (if b = x then 1 else b) * 1 = 1 * (if b = x then 1 else b); rw [Int.mul_one, Int.one_mul]
  | cons k l ih => show (if k = x then 1 else k) * ab (l ++ [b]) x = (if k = x then 1 else k) * ab l x * _; rw [ih, Int.mul_assoc]
theorem be_snoc (l : List Int) (b x : Int) : be (l ++ [b]) x = be l x * (if b = x then 1 else b - x) := by
  induction l with
  | nil => show (if b = x then 1 else b - x) * 1 = 1 * (if b = x then 1 else b - x); rw [Int.mul_one, Int.one_mul]
  | cons k l ih => show (if k = x then 1 else k - x) * be (l ++ [b]) x = (if k = x then 1 else k - x) * be l x * _; rw [ih, Int.mul_assoc]

def small (x : Int) : Prop := 1 ≤ x ∧ x ≤ 12

theorem ab_ne (l : List Int) (x : Int) (h : ∀ k ∈ l, small k) : ¬ Cg (ab l x) 0 := by
  induction l with
  | nil => show ¬ Cg 1 0; unfold Cg; omega
  | cons k l ih =>
    refine cg_prod ?_ (ih fun j hj => h j (List.mem_cons_of_mem _ hj))
    have := h k List.mem_cons_self
    unfold small at this
    unfold Cg
    split <;> omega
theorem be_ne (l : List Int) (x : Int) (h : ∀ k ∈ l, small k) (hx : small x) : ¬ Cg (be l x) 0 := by
  induction l with
  | nil => show ¬ Cg 1 0; unfold Cg; omega
  | cons k l ih =>
    refine cg_prod ?_ (ih fun j hj => h j (List.mem_cons_of_mem _ hj))
    have := h k List.mem_cons_self
    unfold small at this hx
    unfold Cg
    split <;> omega

/-- A weight, as the program reckons it. -/
def wt (l : List Int) (x : Int) : Int := mulP (ab l x % 2305843009213693951) (inv (be l x % 2305843009213693951))
theorem wt_lo (l : List Int) (x : Int) : 0 ≤ wt l x := mulP_lo _ _
theorem wt_hi (l : List Int) (x : Int) : wt l x < 2305843009213693951 := mulP_hi _ _

theorem wt_spec (l : List Int) (x : Int) (h : ∀ k ∈ l, small k) (hx : small x) : Cg (wt l x * be l x) (ab l x) := by
  have hb := be_ne l x h hx
  have h1 : 0 < be l x % 2305843009213693951 := by unfold Cg at hb; omega
  have h2 := inv_mul (be l x % 2305843009213693951) h1 (by omega)
  unfold wt mulP
  have e1 : Cg (ab l x % 2305843009213693951 * inv (be l x % 2305843009213693951) % 2305843009213693951 * be l x) (ab l x * inv (be l x % 2305843009213693951) * be l x) :=
    cg_mul (cg_trans (cg_emod _) (cg_mul (cg_emod _) (cg_refl _))) (cg_refl _)
  refine cg_trans e1 ?_
  have e2 : Cg (be l x * inv (be l x % 2305843009213693951)) 1 := by
    refine cg_trans (cg_mul (cg_symm (cg_emod (be l x))) (cg_refl _)) ?_
    rw [cg_iff, h2]; rfl
  have e3 : ab l x * inv (be l x % 2305843009213693951) * be l x = ab l x * (be l x * inv (be l x % 2305843009213693951)) := by grind
  rw [e3]
  refine cg_trans (cg_mul (cg_refl _) e2) ?_
  rw [Int.mul_one]; exact cg_refl _

theorem wt_ne (l : List Int) (x : Int) (h : ∀ k ∈ l, small k) (hx : small x) : ¬ Cg (wt l x) 0 := by
  intro hw
  have h1 := wt_spec l x h hx
  refine ab_ne l x h (cg_trans (cg_symm h1) ?_)
  refine cg_trans (cg_mul hw (cg_refl _)) ?_
  rw [Int.zero_mul]; exact cg_refl _

/-- One point more at the end, or at the head. -/
theorem wt_last (l : List Int) (b x : Int) (h : ∀ k ∈ l, small k) (hb : small b) (hx : small x) (hne : b ≠ x) : Cg (wt (l ++ [b]) x * (b - x)) (b * wt l x) := by
  have hall : ∀ k ∈ l ++ [b], small k := by intro k hk; rcases List.mem_append.1 hk with e | e; exact h k e; simp at e; rw [e]; exact hb
  have s1 := wt_spec (l ++ [b]) x hall hx
  have s2 := wt_spec l x h hx
  rw [be_snoc, ab_snoc, if_neg hne, if_neg hne] at s1
  apply cg_cancel (be_ne l x h hx)
  have e1 : wt (l ++ [b]) x * (b - x) * be l x = wt (l ++ [b]) x * (be l x * (b - x)) := by grind
  have e2 : b * wt l x * be l x = wt l x * be l x * b := by grind
  rw [e1, e2]
  exact cg_trans s1 (cg_symm (cg_mul s2 (cg_refl b)))
theorem wt_head (l : List Int) (a x : Int) (h : ∀ k ∈ l, small k) (ha : small a) (hx : small x) (hne : a ≠ x) : Cg (wt (a :: l) x * (a - x)) (a * wt l x) := by
  have hall : ∀ k ∈ a :: l, small k := by intro k hk; rcases List.mem_cons.1 hk with e | e; rw [e]; exact ha; exact h k e
  have s1 := wt_spec (a :: l) x hall hx
  have s2 := wt_spec l x h hx
  have b1 : be (a :: l) x = (a - x) * be l x := by show (if a = x then 1 else a - x) * be l x = _; rw [if_neg hne]
  have b2 : ab (a :: l) x = a * ab l x := by show (if a = x then 1 else a) * ab l x = _; rw [if_neg hne]
  rw [b1, b2] at s1
  apply cg_cancel (be_ne l x h hx)
  have e1 : wt (a :: l) x * (a - x) * be l x = wt (a :: l) x * ((a - x) * be l x) := by grind
  have e2 : a * wt l x * be l x = a * (wt l x * be l x) := by grind
  rw [e1, e2]
  exact cg_trans s1 (cg_symm (cg_mul (cg_refl a) s2))

/-- A weighted sum over points. -/
def sm (f : Int → Int) : List (Int × Int) → Int
  | [] => 0
  | p :: l => p.2 * f p.1 + sm f l
theorem sm_append (f : Int → Int) (l m : List (Int × Int)) : sm f (l ++ m) = sm f l + sm f m := by
  induction l with
  | nil => show _ = 0 + _; rw [Int.zero_add]; rfl
  | cons p l ih => show p.2 * f p.1 + sm f (l ++ m) = p.2 * f p.1 + sm f l + sm f m; rw [ih, Int.add_assoc]

def xs (ps : List (Int × Int)) : List Int := ps.map (·.1)
theorem xs_append (l m : List (Int × Int)) : xs (l ++ m) = xs l ++ xs m := by simp [xs]

/-- Points: small, and no X twice. -/
def good (ps : List (Int × Int)) : Prop := (∀ k ∈ xs ps, small k) ∧ (xs ps).Nodup

/-- The value at 0. -/
def lam (ps : List (Int × Int)) : Int := sm (wt (xs ps)) ps

theorem good_init {l : List (Int × Int)} {b : Int × Int} (h : good (l ++ [b])) : good l ∧ small b.1 ∧ ∀ p ∈ l, b.1 ≠ p.1 := by
  obtain ⟨h1, h2⟩ := h
  rw [xs_append] at h1 h2
  have h3 := List.nodup_append.1 h2
  refine ⟨⟨fun k hk => h1 k (List.mem_append.2 (.inl hk)), h3.1⟩, h1 _ (List.mem_append.2 (.inr (by simp [xs]))), fun p hp e => ?_⟩
  exact h3.2.2 p.1 (List.mem_map.2 ⟨p, hp, rfl⟩) b.1 (by simp [xs]) e.symm
theorem good_tail {l : List (Int × Int)} {a : Int × Int} (h : good (a :: l)) : good l ∧ small a.1 ∧ ∀ p ∈ l, a.1 ≠ p.1 := by
  obtain ⟨h1, h2⟩ := h
  have h3 : a.1 ∉ xs l ∧ (xs l).Nodup := List.nodup_cons.1 h2
  refine ⟨⟨fun k hk => h1 k (List.mem_cons_of_mem _ hk), h3.2⟩, h1 _ List.mem_cons_self, fun p hp e => ?_⟩
  exact h3.1 (by rw [e]; exact List.mem_map.2 ⟨p, hp, rfl⟩)

/-- Sums whose weights are alike up to factors. -/
theorem sm_two (f g h : Int → Int) (c d e : Int) (l : List (Int × Int)) (hl : ∀ p ∈ l, Cg (c * f p.1) (d * g p.1 - e * h p.1)) : Cg (c * sm f l) (d * sm g l - e * sm h l) := by
  induction l with
  | nil => show Cg (c * 0) (d * 0 - e * 0); simp only [Int.mul_zero]; exact cg_refl _
  | cons p l ih =>
    have i1 := ih fun q hq => hl q (List.mem_cons_of_mem _ hq)
    have i2 := hl p List.mem_cons_self
    show Cg (c * (p.2 * f p.1 + sm f l)) (d * (p.2 * g p.1 + sm g l) - e * (p.2 * h p.1 + sm h l))
    have e1 : c * (p.2 * f p.1 + sm f l) = p.2 * (c * f p.1) + c * sm f l := by grind
    have e2 : d * (p.2 * g p.1 + sm g l) - e * (p.2 * h p.1 + sm h l) = p.2 * (d * g p.1 - e * h p.1) + (d * sm g l - e * sm h l) := by grind
    rw [e1, e2]
    exact cg_add (cg_mul (cg_refl _) i2) i1

/-- THE NARROWING: the sum over all points out of the two without the last and without the first. -/
theorem neville (a b : Int × Int) (m : List (Int × Int)) (h : good (a :: m ++ [b])) :
    Cg ((b.1 - a.1) * lam (a :: m ++ [b])) (b.1 * lam (a :: m) - a.1 * lam (m ++ [b])) := by
  obtain ⟨g1, sb, nb⟩ := good_init h
  obtain ⟨g2, sa, na⟩ := good_tail (l := m ++ [b]) h
  have hab : a.1 ≠ b.1 := na b (List.mem_append.2 (.inr (by simp)))
  have hA : ∀ p ∈ a :: m, Cg ((b.1 - p.1) * wt (xs (a :: m ++ [b])) p.1) (b.1 * wt (xs (a :: m)) p.1) := by
    intro p hp
    have := wt_last (xs (a :: m)) b.1 p.1 g1.1 sb (g1.1 _ (List.mem_map.2 ⟨p, hp, rfl⟩)) (nb p hp)
    rw [xs_append, Int.mul_comm (b.1 - p.1)]; exact this
  have hB : ∀ p ∈ m ++ [b], Cg ((a.1 - p.1) * wt (xs (a :: m ++ [b])) p.1) (a.1 * wt (xs (m ++ [b])) p.1) := by
    intro p hp
    have := wt_head (xs (m ++ [b])) a.1 p.1 g2.1 sa (g2.1 _ (List.mem_map.2 ⟨p, hp, rfl⟩)) (na p hp)
    rw [Int.mul_comm (a.1 - p.1)]; exact this
  unfold lam
  have mid := sm_two (wt (xs (a :: m ++ [b]))) (wt (xs (a :: m))) (wt (xs (m ++ [b]))) (b.1 - a.1) b.1 a.1 m (fun p hp => by
    have h1 := hA p (List.mem_cons_of_mem _ hp)
    have h2 := hB p (List.mem_append.2 (.inl hp))
    have e : (b.1 - a.1) * wt (xs (a :: m ++ [b])) p.1 = (b.1 - p.1) * wt (xs (a :: m ++ [b])) p.1 - (a.1 - p.1) * wt (xs (a :: m ++ [b])) p.1 := by grind
    rw [e]; exact cg_sub h1 h2)
  have ha := hA a List.mem_cons_self
  have hb := hB b (List.mem_append.2 (.inr (by simp)))
  generalize wt (xs (a :: m ++ [b])) = W at *
  generalize wt (xs (a :: m)) = U at *
  generalize wt (xs (m ++ [b])) = V at *
  have e1 : sm W (a :: m ++ [b]) = a.2 * W a.1 + (sm W m + (b.2 * W b.1 + 0)) := by
    show a.2 * W a.1 + sm W (m ++ [b]) = _; rw [sm_append]; rfl
  have e2 : sm U (a :: m) = a.2 * U a.1 + sm U m := rfl
  have e3 : sm V (m ++ [b]) = sm V m + (b.2 * V b.1 + 0) := by rw [sm_append]; rfl
  rw [e1, e2, e3]
  have l1 : (b.1 - a.1) * (a.2 * W a.1 + (sm W m + (b.2 * W b.1 + 0))) = a.2 * ((b.1 - a.1) * W a.1) + ((b.1 - a.1) * sm W m - b.2 * ((a.1 - b.1) * W b.1)) := by grind
  have l2 : b.1 * (a.2 * U a.1 + sm U m) - a.1 * (sm V m + (b.2 * V b.1 + 0)) = a.2 * (b.1 * U a.1) + (b.1 * sm U m - a.1 * sm V m - b.2 * (a.1 * V b.1)) := by grind
  rw [l1, l2]
  exact cg_add (cg_mul (cg_refl _) ha) (cg_sub mid (cg_mul (cg_refl _) hb))

theorem lam_one (p : Int × Int) : Cg (lam [p]) p.2 := by
  show Cg (p.2 * wt [p.1] p.1 + 0) p.2
  have : wt [p.1] p.1 = 1 := by
    unfold wt
    have a1 : ab [p.1] p.1 = 1 := by show (if p.1 = p.1 then 1 else p.1) * 1 = 1; rw [if_pos rfl]; rfl
    have b1 : be [p.1] p.1 = 1 := by show (if p.1 = p.1 then 1 else p.1 - p.1) * 1 = 1; rw [if_pos rfl]; rfl
    rw [a1, b1]
    show mulP 1 (inv 1) = 1
    have h := inv_mul 1 (by omega) (by omega)
    unfold mulP; exact h
  rw [this]; exact cg_of_eq (by omega)

/-- The points of a function. -/
def pts (g : Int → Int) (X : List Int) : List (Int × Int) := X.map fun x => (x, g x)
theorem xs_pts (g : Int → Int) (X : List Int) : xs (pts g X) = X := by
  unfold xs pts; rw [List.map_map]; exact List.map_id _
theorem pts_append (g : Int → Int) (X Y : List Int) : pts g (X ++ Y) = pts g X ++ pts g Y := by simp [pts]
def goodX (X : List Int) : Prop := (∀ k ∈ X, small k) ∧ X.Nodup
theorem good_pts {g : Int → Int} {X : List Int} (h : goodX X) : good (pts g X) := by unfold good; rw [xs_pts]; exact h
theorem goodX_init {l : List Int} {b : Int} (h : goodX (l ++ [b])) : goodX l ∧ small b ∧ ∀ x ∈ l, b ≠ x := by
  have h3 := List.nodup_append.1 h.2
  exact ⟨⟨fun k hk => h.1 k (List.mem_append.2 (.inl hk)), h3.1⟩, h.1 b (List.mem_append.2 (.inr (by simp))), fun x hx e => h3.2.2 x hx b (by simp) e.symm⟩
theorem goodX_tail {l : List Int} {a : Int} (h : goodX (a :: l)) : goodX l ∧ small a ∧ ∀ x ∈ l, a ≠ x := by
  have h3 := List.nodup_cons.1 h.2
  exact ⟨⟨fun k hk => h.1 k (List.mem_cons_of_mem _ hk), h3.2⟩, h.1 a List.mem_cons_self, fun x hx e => h3.1 (by rw [e]; exact hx)⟩

theorem diff_ne {a b : Int} (ha : small a) (hb : small b) (h : a ≠ b) : ¬ Cg (b - a) 0 := by unfold small at *; unfold Cg; omega

theorem snoc_cases {α : Type} (l : List α) (h : l ≠ []) : ∃ m b, l = m ++ [b] := ⟨l.dropLast, l.getLast h, (List.dropLast_concat_getLast h).symm⟩

theorem lam_const (n : Nat) : ∀ X : List Int, X.length = n + 1 → goodX X → Cg (lam (pts (fun _ => 1) X)) 1 := by
  induction n with
  | zero =>
    intro X hl hg
    match X, hl with
    | [x], _ => exact lam_one (x, 1)
  | succ n ih =>
    intro X hl hg
    match X, hl with
    | a :: Y, hl =>
      have hY : Y ≠ [] := by intro e; subst e; simp at hl
      obtain ⟨m, b, rfl⟩ := snoc_cases Y hY
      have hlm : m.length = n := by simp at hl; omega
      obtain ⟨g1, sb, nb⟩ := goodX_init (l := a :: m) hg
      obtain ⟨g2, sa, na⟩ := goodX_tail hg
      have h1 := ih (a :: m) (by simp; omega) g1
      have h2 := ih (m ++ [b]) (by simp; omega) g2
      have h3 := neville (a, 1) (b, 1) (pts (fun _ => 1) m) (by
        have := good_pts (g := fun _ => 1) hg
        have e : pts (fun _ => 1) (a :: (m ++ [b])) = (a, 1) :: pts (fun _ => 1) m ++ [(b, 1)] := by simp [pts]
        rw [e] at this; exact this)
      have e : pts (fun _ => 1) (a :: (m ++ [b])) = (a, 1) :: pts (fun _ => 1) m ++ [(b, 1)] := by simp [pts]
      have e1 : pts (fun _ => 1) (a :: m) = (a, 1) :: pts (fun _ => 1) m := rfl
      have e2 : pts (fun _ => 1) (m ++ [b]) = pts (fun _ => 1) m ++ [(b, 1)] := by simp [pts]
      rw [e]
      rw [e1] at h1
      rw [e2] at h2
      apply cg_cancel (diff_ne sa sb (na b (by simp)))
      rw [Int.mul_comm]
      refine cg_trans h3 ?_
      refine cg_trans (cg_sub (cg_mul (cg_refl b) h1) (cg_mul (cg_refl a) h2)) (cg_of_eq (by show b * 1 - a * 1 = 1 * (b - a); omega))

theorem sm_shift (W U : Int → Int) (g : Int → Int) (b : Int) (l : List Int) (h : ∀ x ∈ l, Cg (W x * (b - x)) (b * U x)) :
    Cg (sm W (pts (fun x => x * g x) l)) (b * sm W (pts g l) - b * sm U (pts g l)) := by
  induction l with
  | nil => show Cg 0 (b * 0 - b * 0); exact cg_of_eq (by omega)
  | cons x l ih =>
    have i1 := ih fun y hy => h y (List.mem_cons_of_mem _ hy)
    have i2 := h x List.mem_cons_self
    show Cg (x * g x * W x + sm W (pts (fun x => x * g x) l)) (b * (g x * W x + sm W (pts g l)) - b * (g x * U x + sm U (pts g l)))
    have e1 : b * (g x * W x + sm W (pts g l)) - b * (g x * U x + sm U (pts g l)) = (g x * (W x * b) - g x * (b * U x)) + (b * sm W (pts g l) - b * sm U (pts g l)) := by grind
    have e2 : x * g x * W x = g x * (W x * b) - g x * (W x * (b - x)) := by grind
    rw [e1, e2]
    exact cg_add (cg_sub (cg_refl _) (cg_mul (cg_refl _) i2)) i1

theorem lam_x (g : Int → Int) (l : List Int) (b : Int) (hg : goodX (l ++ [b])) : Cg (lam (pts (fun x => x * g x) (l ++ [b]))) (b * (lam (pts g (l ++ [b])) - lam (pts g l))) := by
  obtain ⟨g1, sb, nb⟩ := goodX_init hg
  unfold lam
  rw [xs_pts, xs_pts, xs_pts, pts_append, pts_append, sm_append, sm_append]
  have h1 := sm_shift (wt (l ++ [b])) (wt l) g b l (fun x hx => wt_last l b x g1.1 sb (g1.1 x hx) (nb x hx))
  show Cg (sm (wt (l ++ [b])) (pts (fun x => x * g x) l) + (b * g b * wt (l ++ [b]) b + 0)) (b * (sm (wt (l ++ [b])) (pts g l) + (g b * wt (l ++ [b]) b + 0) - sm (wt l) (pts g l)))
  have e : b * (sm (wt (l ++ [b])) (pts g l) + (g b * wt (l ++ [b]) b + 0) - sm (wt l) (pts g l)) = (b * sm (wt (l ++ [b])) (pts g l) - b * sm (wt l) (pts g l)) + (b * g b * wt (l ++ [b]) b + 0) := by grind
  rw [e]
  exact cg_add h1 (cg_refl _)

theorem sm_plus (f g h : Int → Int) (c : Int) (X : List Int) : sm f (pts (fun x => g x + c * h x) X) = sm f (pts g X) + c * sm f (pts h X) := by
  induction X with
  | nil => show (0 : Int) = 0 + c * 0; omega
  | cons x X ih =>
    show (g x + c * h x) * f x + sm f (pts (fun x => g x + c * h x) X) = g x * f x + sm f (pts g X) + c * (h x * f x + sm f (pts h X))
    rw [ih]; grind

theorem lam_plus (g h : Int → Int) (c : Int) (X : List Int) : lam (pts (fun x => g x + c * h x) X) = lam (pts g X) + c * lam (pts h X) := by
  unfold lam; rw [xs_pts, xs_pts, xs_pts]; exact sm_plus _ _ _ _ _

/-- A polynomial without a constant, of a degree below the number of points: 0. -/
theorem lam_ev : ∀ (ds X : List Int), ds.length < X.length → goodX X → Cg (lam (pts (ev ds) X)) 0
  | [], X, _, _ => by
    have : ∀ (f : Int → Int) (Y : List Int), sm f (pts (ev []) Y) = 0 := by
      intro f Y
      induction Y with
      | nil => rfl
      | cons y Y ih => show 0 * f y + sm f (pts (ev []) Y) = 0; rw [ih]; omega
    unfold lam; rw [this]; exact cg_refl _
  | d :: ds, X, hl, hg => by
    have hX : X ≠ [] := by intro e; subst e; simp at hl
    obtain ⟨l, b, rfl⟩ := snoc_cases X hX
    have hll : ds.length < l.length := by simp at hl; omega
    obtain ⟨g1, sb, nb⟩ := goodX_init hg
    have i1 := lam_ev ds (l ++ [b]) (by simp; omega) hg
    have i2 := lam_ev ds l hll g1
    have c1 := lam_const l.length (l ++ [b]) (by simp) hg
    have c2 := lam_const (l.length - 1) l (by omega) g1
    have e : ev (d :: ds) = fun x => x * (ev ds x + d * 1) := by funext x; show (ev ds x + d) * x = _; rw [Int.mul_one, Int.mul_comm]
    rw [e]
    refine cg_trans (lam_x (fun x => ev ds x + d * 1) l b hg) ?_
    have p1 := lam_plus (ev ds) (fun _ => 1) d (l ++ [b])
    have p2 := lam_plus (ev ds) (fun _ => 1) d l
    rw [p1, p2]
    have q1 := cg_add i1 (cg_mul (cg_refl d) c1)
    have q2 := cg_add i2 (cg_mul (cg_refl d) c2)
    refine cg_trans (cg_mul (cg_refl b) (cg_sub q1 q2)) (cg_of_eq ?_)
    rw [Int.sub_self, Int.mul_zero]

theorem sm_cg (f g h : Int → Int) (X : List Int) (hc : ∀ x ∈ X, Cg (g x) (h x)) : Cg (sm f (pts g X)) (sm f (pts h X)) := by
  induction X with
  | nil => exact cg_refl _
  | cons x X ih =>
    exact cg_add (cg_mul (hc x List.mem_cons_self) (cg_refl _)) (ih fun y hy => hc y (List.mem_cons_of_mem _ hy))

/-- The shares of a polynomial give its value at 0. -/
theorem lam_poly (s : Int) (ds X : List Int) (hl : ds.length < X.length) (hg : goodX X) : Cg (lam (pts (polyP s ds) X)) s := by
  have h1 : Cg (lam (pts (polyP s ds) X)) (lam (pts (fun x => ev ds x + s * 1) X)) := by
    unfold lam; rw [xs_pts, xs_pts]
    exact sm_cg _ _ _ _ fun x _ => by unfold polyP; refine cg_trans (cg_emod _) (cg_of_eq (by omega))
  refine cg_trans h1 ?_
  have p := lam_plus (ev ds) (fun _ => 1) s X
  rw [p]
  refine cg_trans (cg_add (lam_ev ds X hl hg) (cg_mul (cg_refl s) (lam_const (X.length - 1) X (by omega) hg))) (cg_of_eq (by omega))

theorem sm_set (f : Int → Int) (ps : List (Int × Int)) (i : Nat) (hi : i < ps.length) (y : Int) : sm f (ps.set i ((ps[i]).1, y)) = sm f ps + (y - (ps[i]).2) * f (ps[i]).1 := by
  induction ps generalizing i with
  | nil => simp at hi
  | cons p ps ih =>
    cases i with
    | zero => show y * f p.1 + sm f ps = p.2 * f p.1 + sm f ps + (y - p.2) * f p.1; grind
    | succ i =>
      have := ih i (by simpa using hi)
      show p.2 * f p.1 + sm f (ps.set i ((ps[i]'(by simpa using hi)).1, y)) = p.2 * f p.1 + sm f ps + (y - (ps[i]'(by simpa using hi)).2) * f (ps[i]'(by simpa using hi)).1
      rw [this]; omega

theorem xs_set (ps : List (Int × Int)) (i : Nat) (hi : i < ps.length) (y : Int) : xs (ps.set i ((ps[i]).1, y)) = xs ps := by
  unfold xs
  rw [List.map_set]
  apply List.ext_getElem?
  intro j
  rw [List.getElem?_set]
  by_cases e : i = j
  · subst e; simp [hi]
  · rw [if_neg e]

/-- One share turned: another value. -/
theorem lam_set (ps : List (Int × Int)) (hg : good ps) (i : Nat) (hi : i < ps.length) (y : Int) (hy : ¬ Cg (y - (ps[i]).2) 0) : ¬ Cg (lam (ps.set i ((ps[i]).1, y))) (lam ps) := by
  unfold lam
  rw [xs_set ps i hi y, sm_set _ ps i hi y]
  intro h
  have hx : (ps[i]).1 ∈ xs ps := List.mem_map.2 ⟨ps[i], List.getElem_mem hi, rfl⟩
  refine cg_prod hy (wt_ne (xs ps) (ps[i]).1 hg.1 (hg.1 _ hx)) ?_
  unfold Cg at *; omega

/-- What Join answers. -/
def joinN (ps : List (Int × Int)) : Int := lam ps % 2305843009213693951
theorem joinN_lo (ps : List (Int × Int)) : 0 ≤ joinN ps := by unfold joinN; omega
theorem joinN_hi (ps : List (Int × Int)) : joinN ps < 2305843009213693951 := by unfold joinN; omega

end Go.Proofs.Ytchideljndagjaa.Lag
