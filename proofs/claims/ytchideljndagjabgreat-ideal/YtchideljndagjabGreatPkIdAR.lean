/- Polynomials by their coefficients: that with given zeros; what the shift of the draws does. -/
import Derived.Test.YtchideljndagjabGreatPkIdAA
namespace Go.Proofs.YtchideljndagjabGreat.Pol
open Go.Proofs.YtchideljndagjabGreat.Num
set_option linter.unusedVariables false
def inv (u : Int) : Int := powP u 2305843009213693949
theorem inv_lo (u : Int) : 0 ≤ inv u := powP_lo _ _
theorem inv_hi (u : Int) : inv u < 2305843009213693951 := powP_hi _ _
theorem inv_mul (u : Int) (h : 0 < u) (h' : u < 2305843009213693951) : u * inv u % 2305843009213693951 = 1 := Prm.unit u h h'
end Go.Proofs.YtchideljndagjabGreat.Pol
namespace Go.Proofs.YtchideljndagjabGreat.Lag
open Go.Proofs.YtchideljndagjabGreat.Num Go.Proofs.YtchideljndagjabGreat.Pol
set_option linter.unusedVariables false
def Cg (a b : Int) : Prop := (2305843009213693951 : Int) ∣ a - b
theorem cg_iff {a b : Int} : Cg a b ↔ a % 2305843009213693951 = b % 2305843009213693951 := by unfold Cg; omega
theorem cg_refl (a : Int) : Cg a a := ⟨0, by omega⟩
theorem cg_symm {a b : Int} (h : Cg a b) : Cg b a := by unfold Cg at *; omega
theorem cg_trans {a b c : Int} (h : Cg a b) (k : Cg b c) : Cg a c := by unfold Cg at *; omega
theorem cg_add {a b c d : Int} (h : Cg a b) (k : Cg c d) : Cg (a + c) (b + d) := by unfold Cg at *; omega
theorem cg_sub {a b c d : Int} (h : Cg a b) (k : Cg c d) : Cg (a - c) (b - d) := by unfold Cg at *; omega
theorem cg_mul {a b c d : Int} (h : Cg a b) (k : Cg c d) : Cg (a * c) (b * d) := by
  unfold Cg at *
  have e : a * c - b * d = (a - b) * c + b * (c - d) := by grind
  rw [e]; exact Int.dvd_add (Int.dvd_trans h (Int.dvd_mul_right _ _)) (Int.dvd_trans k (Int.dvd_mul_left _ _))
theorem cg_of_eq {a b : Int} (h : a = b) : Cg a b := by rw [h]; exact cg_refl _
theorem cg_emod (a : Int) : Cg (a % 2305843009213693951) a := by unfold Cg; omega
theorem cg_cancel {a b c : Int} (hc : ¬ Cg c 0) (h : Cg (a * c) (b * c)) : Cg a b := by
  have e : (a - b) * c % 2305843009213693951 = 0 := by
    have : (a - b) * c = a * c - b * c := by grind
    rw [this]; unfold Cg at h; omega
  rcases Prm.mul_zero _ _ e with k | k
  · unfold Cg; omega
  · exact absurd (by unfold Cg; omega) hc
theorem cg_prod {a b : Int} (ha : ¬ Cg a 0) (hb : ¬ Cg b 0) : ¬ Cg (a * b) 0 := by
  intro h
  rcases Prm.mul_zero a b (by unfold Cg at h; omega) with k | k
  · exact ha (by unfold Cg; omega)
  · exact hb (by unfold Cg; omega)
def ab : List Int → Int → Int
  | [], _ => 1
  | k :: l, x => (if k = x then 1 else k) * ab l x
def be : List Int → Int → Int
  | [], _ => 1
  | k :: l, x => (if k = x then 1 else k - x) * be l x
theorem ab_snoc (l : List Int) (b x : Int) : ab (l ++ [b]) x = ab l x * (if b = x then 1 else b) := by
  induction l with
  | nil => show (if b = x then 1 else b) * 1 = 1 * (if b = x then 1 else b); rw [Int.mul_one, Int.one_mul]
  | cons k l ih => show (if k = x then 1 else k) * ab (l ++ [b]) x = (if k = x then 1 else k) * ab l x * _; rw [ih, Int.mul_assoc]
theorem be_snoc (l : List Int) (b x : Int) : be (l ++ [b]) x = be l x * (if b = x then 1 else b - x) := by
  induction l with
  | nil => show (if b = x then 1 else b - x) * 1 = 1 * (if b = x then 1 else b - x); rw [Int.mul_one, Int.one_mul]
  | cons k l ih => show (if k = x then 1 else k - x) * be (l ++ [b]) x = (if k = x then 1 else k - x) * be l x * _; rw [ih, Int.mul_assoc]
def small (x : Int) : Prop := 1 ≤ x ∧ x ≤ 12
theorem be_ne (l : List Int) (x : Int) (h : ∀ k ∈ l, small k) (hx : small x) : ¬ Cg (be l x) 0 := by
  induction l with
  | nil => show ¬ Cg 1 0; unfold Cg; omega
  | cons k l ih =>
    refine cg_prod ?_ (ih fun j hj => h j (List.mem_cons_of_mem _ hj))
    have := h k List.mem_cons_self
    unfold small at this hx
    unfold Cg
    split <;> omega
def wt (l : List Int) (x : Int) : Int := mulP (ab l x % 2305843009213693951) (inv (be l x % 2305843009213693951))
theorem wt_lo (l : List Int) (x : Int) : 0 ≤ wt l x := mulP_lo _ _
theorem wt_hi (l : List Int) (x : Int) : wt l x < 2305843009213693951 := mulP_hi _ _
theorem wt_spec (l : List Int) (x : Int) (h : ∀ k ∈ l, small k) (hx : small x) : Cg (wt l x * be l x) (ab l x) := by
  have hb := be_ne l x h hx
  have h1 : 0 < be l x % 2305843009213693951 := by unfold Cg at hb; omega
  have h2 := inv_mul (be l x % 2305843009213693951) h1 (by omega)
  unfold wt mulP
  have e1 : Cg (ab l x % 2305843009213693951 * inv (be l x % 2305843009213693951) % 2305843009213693951 * be l x) (ab l x * inv (be l x % 2305843009213693951) * be l x) :=
    cg_mul (cg_trans (cg_emod _) (cg_mul (cg_emod _) (cg_refl _))) (cg_refl _)
  refine cg_trans e1 ?_
  have e2 : Cg (be l x * inv (be l x % 2305843009213693951)) 1 := by
    refine cg_trans (cg_mul (cg_symm (cg_emod (be l x))) (cg_refl _)) ?_
    rw [cg_iff, h2]; rfl
  have e3 : ab l x * inv (be l x % 2305843009213693951) * be l x = ab l x * (be l x * inv (be l x % 2305843009213693951)) := by grind
  rw [e3]
  refine cg_trans (cg_mul (cg_refl _) e2) ?_
  rw [Int.mul_one]; exact cg_refl _
theorem wt_last (l : List Int) (b x : Int) (h : ∀ k ∈ l, small k) (hb : small b) (hx : small x) (hne : b ≠ x) : Cg (wt (l ++ [b]) x * (b - x)) (b * wt l x) := by
  have hall : ∀ k ∈ l ++ [b], small k := by intro k hk; rcases List.mem_append.1 hk with e | e; exact h k e; simp at e; rw [e]; exact hb
  have s1 := wt_spec (l ++ [b]) x hall hx
  have s2 := wt_spec l x h hx
  rw [be_snoc, ab_snoc, if_neg hne, if_neg hne] at s1
  apply cg_cancel (be_ne l x h hx)
  have e1 : wt (l ++ [b]) x * (b - x) * be l x = wt (l ++ [b]) x * (be l x * (b - x)) := by grind
  have e2 : b * wt l x * be l x = wt l x * be l x * b := by grind
  rw [e1, e2]
  exact cg_trans s1 (cg_symm (cg_mul s2 (cg_refl b)))
theorem wt_head (l : List Int) (a x : Int) (h : ∀ k ∈ l, small k) (ha : small a) (hx : small x) (hne : a ≠ x) : Cg (wt (a :: l) x * (a - x)) (a * wt l x) := by
  have hall : ∀ k ∈ a :: l, small k := by intro k hk; rcases List.mem_cons.1 hk with e | e; rw [e]; exact ha; exact h k e
  have s1 := wt_spec (a :: l) x hall hx
  have s2 := wt_spec l x h hx
  have b1 : be (a :: l) x = (a - x) * be l x := by show (if a = x then 1 else a - x) * be l x = _; rw [if_neg hne]
  have b2 : ab (a :: l) x = a * ab l x := by show (if a = x then 1 else a) * ab l x = _; rw [if_neg hne]
  rw [b1, b2] at s1
  apply cg_cancel (be_ne l x h hx)
  have e1 : wt (a :: l) x * (a - x) * be l x = wt (a :: l) x * ((a - x) * be l x) := by grind
  have e2 : a * wt l x * be l x = a * (wt l x * be l x) := by grind
  rw [e1, e2]
  exact cg_trans s1 (cg_symm (cg_mul (cg_refl a) s2))
def sm (f : Int → Int) : List (Int × Int) → Int
  | [] => 0
  | p :: l => p.2 * f p.1 + sm f l
theorem sm_append (f : Int → Int) (l m : List (Int × Int)) : sm f (l ++ m) = sm f l + sm f m := by
  induction l with
  | nil => show _ = 0 + _; rw [Int.zero_add]; rfl
  | cons p l ih => show p.2 * f p.1 + sm f (l ++ m) = p.2 * f p.1 + sm f l + sm f m; rw [ih, Int.add_assoc]
def xs (ps : List (Int × Int)) : List Int := ps.map (·.1)
theorem xs_append (l m : List (Int × Int)) : xs (l ++ m) = xs l ++ xs m := by simp [xs]
def good (ps : List (Int × Int)) : Prop := (∀ k ∈ xs ps, small k) ∧ (xs ps).Nodup
def lam (ps : List (Int × Int)) : Int := sm (wt (xs ps)) ps
theorem good_init {l : List (Int × Int)} {b : Int × Int} (h : good (l ++ [b])) : good l ∧ small b.1 ∧ ∀ p ∈ l, b.1 ≠ p.1 := by
  obtain ⟨h1, h2⟩ := h
  rw [xs_append] at h1 h2
  have h3 := List.nodup_append.1 h2
  refine ⟨⟨fun k hk => h1 k (List.mem_append.2 (.inl hk)), h3.1⟩, h1 _ (List.mem_append.2 (.inr (by simp [xs]))), fun p hp e => ?_⟩
  exact h3.2.2 p.1 (List.mem_map.2 ⟨p, hp, rfl⟩) b.1 (by simp [xs]) e.symm
theorem good_tail {l : List (Int × Int)} {a : Int × Int} (h : good (a :: l)) : good l ∧ small a.1 ∧ ∀ p ∈ l, a.1 ≠ p.1 := by
  obtain ⟨h1, h2⟩ := h
  have h3 : a.1 ∉ xs l ∧ (xs l).Nodup := List.nodup_cons.1 h2
  refine ⟨⟨fun k hk => h1 k (List.mem_cons_of_mem _ hk), h3.2⟩, h1 _ List.mem_cons_self, fun p hp e => ?_⟩
  exact h3.1 (by rw [e]; exact List.mem_map.2 ⟨p, hp, rfl⟩)
theorem sm_two (f g h : Int → Int) (c d e : Int) (l : List (Int × Int)) (hl : ∀ p ∈ l, Cg (c * f p.1) (d * g p.1 - e * h p.1)) : Cg (c * sm f l) (d * sm g l - e * sm h l) := by
  induction l with
  | nil => show Cg (c * 0) (d * 0 - e * 0); simp only [Int.mul_zero]; exact cg_refl _
  | cons p l ih =>
    have i1 := ih fun q hq => hl q (List.mem_cons_of_mem _ hq)
    have i2 := hl p List.mem_cons_self
    show Cg (c * (p.2 * f p.1 + sm f l)) (d * (p.2 * g p.1 + sm g l) - e * (p.2 * h p.1 + sm h l))
    have e1 : c * (p.2 * f p.1 + sm f l) = p.2 * (c * f p.1) + c * sm f l := by grind
    have e2 : d * (p.2 * g p.1 + sm g l) - e * (p.2 * h p.1 + sm h l) = p.2 * (d * g p.1 - e * h p.1) + (d * sm g l - e * sm h l) := by grind
    rw [e1, e2]
    exact cg_add (cg_mul (cg_refl _) i2) i1
theorem neville (a b : Int × Int) (m : List (Int × Int)) (h : good (a :: m ++ [b])) :
    Cg ((b.1 - a.1) * lam (a :: m ++ [b])) (b.1 * lam (a :: m) - a.1 * lam (m ++ [b])) := by
  obtain ⟨g1, sb, nb⟩ := good_init h
  obtain ⟨g2, sa, na⟩ := good_tail (l := m ++ [b]) h
  have hab : a.1 ≠ b.1 := na b (List.mem_append.2 (.inr (by simp)))
  have hA : ∀ p ∈ a :: m, Cg ((b.1 - p.1) * wt (xs (a :: m ++ [b])) p.1) (b.1 * wt (xs (a :: m)) p.1) := by
    intro p hp
    have := wt_last (xs (a :: m)) b.1 p.1 g1.1 sb (g1.1 _ (List.mem_map.2 ⟨p, hp, rfl⟩)) (nb p hp)
    rw [xs_append, Int.mul_comm (b.1 - p.1)]; exact this
  have hB : ∀ p ∈ m ++ [b], Cg ((a.1 - p.1) * wt (xs (a :: m ++ [b])) p.1) (a.1 * wt (xs (m ++ [b])) p.1) := by
    intro p hp
    have := wt_head (xs (m ++ [b])) a.1 p.1 g2.1 sa (g2.1 _ (List.mem_map.2 ⟨p, hp, rfl⟩)) (na p hp)
    rw [Int.mul_comm (a.1 - p.1)]; exact this
  unfold lam
  have mid := sm_two (wt (xs (a :: m ++ [b]))) (wt (xs (a :: m))) (wt (xs (m ++ [b]))) (b.1 - a.1) b.1 a.1 m (fun p hp => by
    have h1 := hA p (List.mem_cons_of_mem _ hp)
    have h2 := hB p (List.mem_append.2 (.inl hp))
    have e : (b.1 - a.1) * wt (xs (a :: m ++ [b])) p.1 = (b.1 - p.1) * wt (xs (a :: m ++ [b])) p.1 - (a.1 - p.1) * wt (xs (a :: m ++ [b])) p.1 := by grind
    rw [e]; exact cg_sub h1 h2)
  have ha := hA a List.mem_cons_self
  have hb := hB b (List.mem_append.2 (.inr (by simp)))
  generalize wt (xs (a :: m ++ [b])) = W at *
  generalize wt (xs (a :: m)) = U at *
  generalize wt (xs (m ++ [b])) = V at *
  have e1 : sm W (a :: m ++ [b]) = a.2 * W a.1 + (sm W m + (b.2 * W b.1 + 0)) := by
    show a.2 * W a.1 + sm W (m ++ [b]) = _; rw [sm_append]; rfl
  have e2 : sm U (a :: m) = a.2 * U a.1 + sm U m := rfl
  have e3 : sm V (m ++ [b]) = sm V m + (b.2 * V b.1 + 0) := by rw [sm_append]; rfl
  rw [e1, e2, e3]
  have l1 : (b.1 - a.1) * (a.2 * W a.1 + (sm W m + (b.2 * W b.1 + 0))) = a.2 * ((b.1 - a.1) * W a.1) + ((b.1 - a.1) * sm W m - b.2 * ((a.1 - b.1) * W b.1)) := by grind
  have l2 : b.1 * (a.2 * U a.1 + sm U m) - a.1 * (sm V m + (b.2 * V b.1 + 0)) = a.2 * (b.1 * U a.1) + (b.1 * sm U m - a.1 * sm V m - b.2 * (a.1 * V b.1)) := by grind
  rw [l1, l2]
  exact cg_add (cg_mul (cg_refl _) ha) (cg_sub mid (cg_mul (cg_refl _) hb))
theorem lam_one (p : Int × Int) : Cg (lam [p]) p.2 := by
  show Cg (p.2 * wt [p.1] p.1 + 0) p.2
  have : wt [p.1] p.1 = 1 := by
    unfold wt
    have a1 : ab [p.1] p.1 = 1 := by show (if p.1 = p.1 then 1 else p.1) * 1 = 1; rw [if_pos rfl]; rfl
    have b1 : be [p.1] p.1 = 1 := by show (if p.1 = p.1 then 1 else p.1 - p.1) * 1 = 1; rw [if_pos rfl]; rfl
    rw [a1, b1]
    show mulP 1 (inv 1) = 1
    have h := inv_mul 1 (by omega) (by omega)
    unfold mulP; exact h
  rw [this]; exact cg_of_eq (by omega)
def pts (g : Int → Int) (X : List Int) : List (Int × Int) := X.map fun x => (x, g x)
theorem xs_pts (g : Int → Int) (X : List Int) : xs (pts g X) = X := by
  unfold xs pts; rw [List.map_map]; exact List.map_id _
theorem pts_append (g : Int → Int) (X Y : List Int) : pts g (X ++ Y) = pts g X ++ pts g Y := by simp [pts]
def goodX (X : List Int) : Prop := (∀ k ∈ X, small k) ∧ X.Nodup
theorem good_pts {g : Int → Int} {X : List Int} (h : goodX X) : good (pts g X) := by unfold good; rw [xs_pts]; exact h
theorem goodX_init {l : List Int} {b : Int} (h : goodX (l ++ [b])) : goodX l ∧ small b ∧ ∀ x ∈ l, b ≠ x := by
  have h3 := List.nodup_append.1 h.2
  exact ⟨⟨fun k hk => h.1 k (List.mem_append.2 (.inl hk)), h3.1⟩, h.1 b (List.mem_append.2 (.inr (by simp))), fun x hx e => h3.2.2 x hx b (by simp) e.symm⟩
theorem goodX_tail {l : List Int} {a : Int} (h : goodX (a :: l)) : goodX l ∧ small a ∧ ∀ x ∈ l, a ≠ x := by
  have h3 := List.nodup_cons.1 h.2
  exact ⟨⟨fun k hk => h.1 k (List.mem_cons_of_mem _ hk), h3.2⟩, h.1 a List.mem_cons_self, fun x hx e => h3.1 (by rw [e]; exact hx)⟩
theorem diff_ne {a b : Int} (ha : small a) (hb : small b) (h : a ≠ b) : ¬ Cg (b - a) 0 := by unfold small at *; unfold Cg; omega
theorem snoc_cases {α : Type} (l : List α) (h : l ≠ []) : ∃ m b, l = m ++ [b] := ⟨l.dropLast, l.getLast h, (List.dropLast_concat_getLast h).symm⟩
theorem lam_const (n : Nat) : ∀ X : List Int, X.length = n + 1 → goodX X → Cg (lam (pts (fun _ => 1) X)) 1 := by
  induction n with
  | zero =>
    intro X hl hg
    match X, hl with
    | [x], _ => exact lam_one (x, 1)
  | succ n ih =>
    intro X hl hg
    match X, hl with
    | a :: Y, hl =>
      have hY : Y ≠ [] := by intro e; subst e; simp at hl
      obtain ⟨m, b, rfl⟩ := snoc_cases Y hY
      have hlm : m.length = n := by simp at hl; omega
      obtain ⟨g1, sb, nb⟩ := goodX_init (l := a :: m) hg
      obtain ⟨g2, sa, na⟩ := goodX_tail hg
      have h1 := ih (a :: m) (by simp; omega) g1
      have h2 := ih (m ++ [b]) (by simp; omega) g2
      have h3 := neville (a, 1) (b, 1) (pts (fun _ => 1) m) (by
        have := good_pts (g := fun _ => 1) hg
        have e : pts (fun _ => 1) (a :: (m ++ [b])) = (a, 1) :: pts (fun _ => 1) m ++ [(b, 1)] := by simp [pts]
        rw [e] at this; exact this)
      have e : pts (fun _ => 1) (a :: (m ++ [b])) = (a, 1) :: pts (fun _ => 1) m ++ [(b, 1)] := by simp [pts]
      have e1 : pts (fun _ => 1) (a :: m) = (a, 1) :: pts (fun _ => 1) m := rfl
      have e2 : pts (fun _ => 1) (m ++ [b]) = pts (fun _ => 1) m ++ [(b, 1)] := by simp [pts]
      rw [e]
      rw [e1] at h1
      rw [e2] at h2
      apply cg_cancel (diff_ne sa sb (na b (by simp)))
      rw [Int.mul_comm]
      refine cg_trans h3 ?_
      refine cg_trans (cg_sub (cg_mul (cg_refl b) h1) (cg_mul (cg_refl a) h2)) (cg_of_eq (by show b * 1 - a * 1 = 1 * (b - a); omega))
theorem sm_shift (W U : Int → Int) (g : Int → Int) (b : Int) (l : List Int) (h : ∀ x ∈ l, Cg (W x * (b - x)) (b * U x)) :
    Cg (sm W (pts (fun x => x * g x) l)) (b * sm W (pts g l) - b * sm U (pts g l)) := by
  induction l with
  | nil => show Cg 0 (b * 0 - b * 0); exact cg_of_eq (by omega)
  | cons x l ih =>
    have i1 := ih fun y hy => h y (List.mem_cons_of_mem _ hy)
    have i2 := h x List.mem_cons_self
    show Cg (x * g x * W x + sm W (pts (fun x => x * g x) l)) (b * (g x * W x + sm W (pts g l)) - b * (g x * U x + sm U (pts g l)))
    have e1 : b * (g x * W x + sm W (pts g l)) - b * (g x * U x + sm U (pts g l)) = (g x * (W x * b) - g x * (b * U x)) + (b * sm W (pts g l) - b * sm U (pts g l)) := by grind
    have e2 : x * g x * W x = g x * (W x * b) - g x * (W x * (b - x)) := by grind
    rw [e1, e2]
    exact cg_add (cg_sub (cg_refl _) (cg_mul (cg_refl _) i2)) i1
theorem lam_x (g : Int → Int) (l : List Int) (b : Int) (hg : goodX (l ++ [b])) : Cg (lam (pts (fun x => x * g x) (l ++ [b]))) (b * (lam (pts g (l ++ [b])) - lam (pts g l))) := by
  obtain ⟨g1, sb, nb⟩ := goodX_init hg
  unfold lam
  rw [xs_pts, xs_pts, xs_pts, pts_append, pts_append, sm_append, sm_append]
  have h1 := sm_shift (wt (l ++ [b])) (wt l) g b l (fun x hx => wt_last l b x g1.1 sb (g1.1 x hx) (nb x hx))
  show Cg (sm (wt (l ++ [b])) (pts (fun x => x * g x) l) + (b * g b * wt (l ++ [b]) b + 0)) (b * (sm (wt (l ++ [b])) (pts g l) + (g b * wt (l ++ [b]) b + 0) - sm (wt l) (pts g l)))
  have e : b * (sm (wt (l ++ [b])) (pts g l) + (g b * wt (l ++ [b]) b + 0) - sm (wt l) (pts g l)) = (b * sm (wt (l ++ [b])) (pts g l) - b * sm (wt l) (pts g l)) + (b * g b * wt (l ++ [b]) b + 0) := by grind
  rw [e]
  exact cg_add h1 (cg_refl _)
theorem sm_plus (f g h : Int → Int) (c : Int) (X : List Int) : sm f (pts (fun x => g x + c * h x) X) = sm f (pts g X) + c * sm f (pts h X) := by
  induction X with
  | nil => show (0 : Int) = 0 + c * 0; omega
  | cons x X ih =>
    show (g x + c * h x) * f x + sm f (pts (fun x => g x + c * h x) X) = g x * f x + sm f (pts g X) + c * (h x * f x + sm f (pts h X))
    rw [ih]; grind
theorem lam_plus (g h : Int → Int) (c : Int) (X : List Int) : lam (pts (fun x => g x + c * h x) X) = lam (pts g X) + c * lam (pts h X) := by
  unfold lam; rw [xs_pts, xs_pts, xs_pts]; exact sm_plus _ _ _ _ _
theorem lam_ev : ∀ (ds X : List Int), ds.length < X.length → goodX X → Cg (lam (pts (ev ds) X)) 0
  | [], X, _, _ => by
    have : ∀ (f : Int → Int) (Y : List Int), sm f (pts (ev []) Y) = 0 := by
      intro f Y
      induction Y with
      | nil => rfl
      | cons y Y ih => show 0 * f y + sm f (pts (ev []) Y) = 0; rw [ih]; omega
    unfold lam; rw [this]; exact cg_refl _
  | d :: ds, X, hl, hg => by
    have hX : X ≠ [] := by intro e; subst e; simp at hl
    obtain ⟨l, b, rfl⟩ := snoc_cases X hX
    have hll : ds.length < l.length := by simp at hl; omega
    obtain ⟨g1, sb, nb⟩ := goodX_init hg
    have i1 := lam_ev ds (l ++ [b]) (by simp; omega) hg
    have i2 := lam_ev ds l hll g1
    have c1 := lam_const l.length (l ++ [b]) (by simp) hg
    have c2 := lam_const (l.length - 1) l (by omega) g1
    have e : ev (d :: ds) = fun x => x * (ev ds x + d * 1) := by funext x; show (ev ds x + d) * x = _; rw [Int.mul_one, Int.mul_comm]
    rw [e]
    refine cg_trans (lam_x (fun x => ev ds x + d * 1) l b hg) ?_
    have p1 := lam_plus (ev ds) (fun _ => 1) d (l ++ [b])
    have p2 := lam_plus (ev ds) (fun _ => 1) d l
    rw [p1, p2]
    have q1 := cg_add i1 (cg_mul (cg_refl d) c1)
    have q2 := cg_add i2 (cg_mul (cg_refl d) c2)
    refine cg_trans (cg_mul (cg_refl b) (cg_sub q1 q2)) (cg_of_eq ?_)
    rw [Int.sub_self, Int.mul_zero]
theorem sm_cg (f g h : Int → Int) (X : List Int) (hc : ∀ x ∈ X, Cg (g x) (h x)) : Cg (sm f (pts g X)) (sm f (pts h X)) := by
  induction X with
  | nil => exact cg_refl _
  | cons x X ih =>
    exact cg_add (cg_mul (hc x List.mem_cons_self) (cg_refl _)) (ih fun y hy => hc y (List.mem_cons_of_mem _ hy))
theorem lam_poly (s : Int) (ds X : List Int) (hl : ds.length < X.length) (hg : goodX X) : Cg (lam (pts (polyP s ds) X)) s := by
  have h1 : Cg (lam (pts (polyP s ds) X)) (lam (pts (fun x => ev ds x + s * 1) X)) := by
    unfold lam; rw [xs_pts, xs_pts]
    exact sm_cg _ _ _ _ fun x _ => by unfold polyP; refine cg_trans (cg_emod _) (cg_of_eq (by omega))
  refine cg_trans h1 ?_
  have p := lam_plus (ev ds) (fun _ => 1) s X
  rw [p]
  refine cg_trans (cg_add (lam_ev ds X hl hg) (cg_mul (cg_refl s) (lam_const (X.length - 1) X (by omega) hg))) (cg_of_eq (by omega))
def joinN (ps : List (Int × Int)) : Int := lam ps % 2305843009213693951
theorem joinN_lo (ps : List (Int × Int)) : 0 ≤ joinN ps := by unfold joinN; omega
theorem joinN_hi (ps : List (Int × Int)) : joinN ps < 2305843009213693951 := by unfold joinN; omega
end Go.Proofs.YtchideljndagjabGreat.Lag
namespace Go.Proofs.YtchideljndagjabGreat.Srv
open Frm Cli
set_option linter.unusedVariables false

abbrev Row := Nat → Option (List It)
abbrev Tab := Nat → Row
structure Cf where
  N : Int
  T : Int
  M : Int
  D : Int
def mem (S : Row) (u : Nat) : Bool := (S u).isSome
def its (S : Row) (u : Nat) : List It := (S u).getD []
def lstN (p : Nat → Bool) (n : Nat) : List Nat := (List.range n).filter p
def lst (p : Nat → Bool) : List Nat := lstN p 13
theorem lstN_succ (p : Nat → Bool) (n : Nat) : lstN p (n + 1) = lstN p n ++ (if p n = true then [n] else []) := by
  unfold lstN; rw [List.range_succ, List.filter_append]; by_cases h : p n = true <;> simp [h]
theorem lstN_le (p : Nat → Bool) (n : Nat) : (lstN p n).length ≤ n := by
  have := List.length_filter_le p (List.range n); unfold lstN; simpa using this
theorem mem_lst {p : Nat → Bool} {u : Nat} : u ∈ lst p ↔ u < 13 ∧ p u = true := by unfold lst lstN; simp
theorem lst_pair (p : Nat → Bool) : (lst p).Pairwise (· < ·) := List.Pairwise.filter _ List.pairwise_lt_range
theorem lst_ext {p q : Nat → Bool} (h : ∀ u, u < 13 → p u = q u) : lst p = lst q := by
  unfold lst lstN; apply List.filter_congr; intro u hu; exact h u (List.mem_range.1 hu)
def updT (G : Tab) (r u : Nat) (l : List It) : Tab := fun r' u' => if r' = r ∧ u' = u then some l else G r' u'
theorem updT_same (G : Tab) (r u : Nat) (l : List It) : updT G r u l r u = some l := by simp [updT]
theorem updT_row (G : Tab) (r u : Nat) (l : List It) {r' : Nat} (h : r' ≠ r) : updT G r u l r' = G r' := by funext v; simp [updT, h]
theorem updT_other (G : Tab) (r u : Nat) (l : List It) (r' : Nat) {v : Nat} (h : v ≠ u) : updT G r u l r' v = G r' v := by simp [updT, h]
def sameS (a b : Nat → Bool) : Bool := allB 13 fun u => a u == b u
theorem sameS_iff {a b : Nat → Bool} : sameS a b = true ↔ ∀ u, u < 13 → a u = b u := by unfold sameS; rw [allB_iff]; simp
def without (p : Nat → Bool) (u : Nat) : Nat → Bool := fun v => p v && decide (v ≠ u)
def shape (C : Cf) (G : Tab) (r fr : Nat) (l : List It) : Bool :=
  if r = 1 then sameS (fun u => hasI l u) (without (mem (G 0)) fr)
  else if r = 2 then decide ((l.length : Int) = C.M)
  else if r = 3 then (l.all fun x => decide (x.2.1 = 1) == mem (G 2) x.1.toNat) && sameS (fun u => hasI l u) (mem (G 1))
  else true
def fits (C : Cf) (G : Tab) (r : Nat) (f : Fr) : Bool :=
  decide (f.1 = 2 * (r : Int) + 1) && (decide (f.2.1 ≤ C.N) && (!mem (G r) f.2.1.toNat && ((decide (r = 0) || mem (G (r - 1)) f.2.1.toNat) && shape C G r f.2.1.toNat f.2.2)))
def addF (C : Cf) (r : Nat) (G : Tab) (f : Fr) : Tab := if fits C G r f = true then updT G r f.2.1.toNat f.2.2 else G
def now (C : Cf) (r : Nat) (t : Int) : Bool := decide ((r : Int) * C.D ≤ t ∧ t < ((r : Int) + 1) * C.D)
theorem now_iff {C : Cf} {r : Nat} {t : Int} : now C r t = true ↔ (r : Int) * C.D ≤ t ∧ t < ((r : Int) + 1) * C.D := by simp [now]

abbrev Log := List (Int × Fr)
def addE (C : Cf) (r : Nat) (G : Tab) (e : Int × Fr) : Tab := if now C r e.1 = true then addF C r G e.2 else G
def stage (C : Cf) (L : Log) (r : Nat) (G : Tab) : Tab := L.foldl (addE C r) G
def none4 : Tab := fun _ _ => none
def tabN (C : Cf) (L : Log) : Nat → Tab
  | 0 => none4
  | r + 1 => stage C L r (tabN C L r)
def tab (C : Cf) (L : Log) : Tab := tabN C L 4
theorem stage_app (C : Cf) (L : Log) (e : Int × Fr) (r : Nat) (G : Tab) : stage C (L ++ [e]) r G = addE C r (stage C L r G) e := by
  unfold stage; rw [List.foldl_append]; rfl
theorem stage_id (C : Cf) (r : Nat) : ∀ (L : Log) (G : Tab), (∀ e ∈ L, now C r e.1 = false) → stage C L r G = G
  | [], G, _ => rfl
  | e :: L, G, h => by
    show stage C L r (addE C r G e) = G
    have : addE C r G e = G := by unfold addE; rw [h e List.mem_cons_self]; rfl
    rw [this]
    exact stage_id C r L G (fun x hx => h x (List.mem_cons_of_mem _ hx))
theorem now_late {C : Cf} (hD : 0 < C.D) {rd r : Nat} {t x : Int} (hn : now C rd t = true) (hx : x ≤ t) (h : rd < r) : now C r x = false := by
  have h1 := (now_iff.1 hn).2
  have h2 : ((rd : Int) + 1) * C.D ≤ (r : Int) * C.D := Int.mul_le_mul_of_nonneg_right (by omega) (by omega)
  have : ¬ ((r : Int) * C.D ≤ x ∧ x < ((r : Int) + 1) * C.D) := by intro ⟨a, _⟩; omega
  simp only [now, decide_eq_false_iff_not]; exact this
theorem now_early {C : Cf} (hD : 0 < C.D) {rd r : Nat} {t : Int} (hn : now C rd t = true) (h : r < rd) : now C r t = false := by
  have h1 := (now_iff.1 hn).1
  have h2 : ((r : Int) + 1) * C.D ≤ (rd : Int) * C.D := Int.mul_le_mul_of_nonneg_right (by omega) (by omega)
  have : ¬ ((r : Int) * C.D ≤ t ∧ t < ((r : Int) + 1) * C.D) := by intro ⟨_, a⟩; omega
  simp only [now, decide_eq_false_iff_not]; exact this
theorem tabN_late {C : Cf} (hD : 0 < C.D) {rd : Nat} {t : Int} (hn : now C rd t = true) {L : Log} (hL : ∀ e ∈ L, e.1 ≤ t) : ∀ k, tabN C L (rd + 1 + k) = tabN C L (rd + 1)
  | 0 => rfl
  | k + 1 => by
    show stage C L (rd + 1 + k) (tabN C L (rd + 1 + k)) = _
    rw [stage_id C _ L _ (fun e he => now_late hD hn (hL e he) (by omega)), tabN_late hD hn hL k]
theorem tab_now {C : Cf} (hD : 0 < C.D) {rd : Nat} (hr : rd < 4) {t : Int} (hn : now C rd t = true) {L : Log} (hL : ∀ e ∈ L, e.1 ≤ t) : tab C L = tabN C L (rd + 1) := by
  have := tabN_late hD hn hL (3 - rd)
  rwa [show rd + 1 + (3 - rd) = 4 by omega] at this
theorem tabN_early {C : Cf} (hD : 0 < C.D) {rd : Nat} {t : Int} (hn : now C rd t = true) (L : Log) (f : Fr) : ∀ n, n ≤ rd → tabN C (L ++ [(t, f)]) n = tabN C L n
  | 0, _ => rfl
  | n + 1, h => by
    show stage C (L ++ [(t, f)]) n (tabN C (L ++ [(t, f)]) n) = stage C L n (tabN C L n)
    rw [tabN_early hD hn L f n (by omega), stage_app]
    unfold addE; rw [now_early hD hn (by omega)]; rfl
theorem tab_app {C : Cf} (hD : 0 < C.D) {rd : Nat} (hr : rd < 4) {t : Int} (hn : now C rd t = true) {L : Log} (hL : ∀ e ∈ L, e.1 ≤ t) (f : Fr) : tab C (L ++ [(t, f)]) = addF C rd (tab C L) f := by
  have hL' : ∀ e ∈ L ++ [(t, f)], e.1 ≤ t := fun e he => by
    rcases List.mem_append.1 he with h | h
    · exact hL e h
    · rw [List.mem_singleton.1 h]; exact Int.le_refl _
  rw [tab_now hD hr hn hL', tab_now hD hr hn hL]
  show stage C (L ++ [(t, f)]) rd (tabN C (L ++ [(t, f)]) rd) = addF C rd (stage C L rd (tabN C L rd)) f
  rw [tabN_early hD hn L f rd (Nat.le_refl _), stage_app]
  unfold addE; rw [if_pos hn]
def sizeR (S : Row) : Nat := (lst (mem S)).length
def many (G : Tab) : Nat := sizeR (G 0) + sizeR (G 1) + sizeR (G 2) + sizeR (G 3)
theorem lstN_upd (p q : Nat → Bool) (u : Nat) (hp : p u = false) (hq : q u = true) (he : ∀ v, v ≠ u → q v = p v) : ∀ n, (lstN q n).length = (lstN p n).length + (if u < n then 1 else 0)
  | 0 => by simp [lstN]
  | n + 1 => by
    rw [lstN_succ, lstN_succ, List.length_append, List.length_append, lstN_upd p q u hp hq he n]
    by_cases e : n = u
    · subst e; simp [hp, hq]
    · rw [he n e]
      have e1 : (if u < n + 1 then (1 : Nat) else 0) = if u < n then 1 else 0 := by
        by_cases h : u < n
        · rw [if_pos h, if_pos (by omega)]
        · rw [if_neg h, if_neg (by omega)]
      rw [e1]; omega
theorem size_upd (G : Tab) (r u : Nat) (l : List It) (hu : u < 13) (h : mem (G r) u = false) : sizeR (updT G r u l r) = sizeR (G r) + 1 := by
  unfold sizeR lst
  rw [lstN_upd (mem (G r)) (mem (updT G r u l r)) u h (by unfold mem; rw [updT_same]; rfl) (fun v hv => by unfold mem; rw [updT_other G r u l r hv]) 13, if_pos hu]
theorem many_upd (G : Tab) (r u : Nat) (l : List It) (hr : r < 4) (hu : u < 13) (h : mem (G r) u = false) : many (updT G r u l) = many G + 1 := by
  have hs := size_upd G r u l hu h
  have h4 : r = 0 ∨ r = 1 ∨ r = 2 ∨ r = 3 := by omega
  unfold many
  rcases h4 with rfl | rfl | rfl | rfl
  · rw [hs, updT_row G 0 u l (by omega : 1 ≠ 0), updT_row G 0 u l (by omega : 2 ≠ 0), updT_row G 0 u l (by omega : 3 ≠ 0)]; omega
  · rw [hs, updT_row G 1 u l (by omega : 0 ≠ 1), updT_row G 1 u l (by omega : 2 ≠ 1), updT_row G 1 u l (by omega : 3 ≠ 1)]; omega
  · rw [hs, updT_row G 2 u l (by omega : 0 ≠ 2), updT_row G 2 u l (by omega : 1 ≠ 2), updT_row G 2 u l (by omega : 3 ≠ 2)]; omega
  · rw [hs, updT_row G 3 u l (by omega : 0 ≠ 3), updT_row G 3 u l (by omega : 1 ≠ 3), updT_row G 3 u l (by omega : 2 ≠ 3)]; omega
theorem fits_new {C : Cf} {G : Tab} {r : Nat} {f : Fr} (h : fits C G r f = true) : f.1 = 2 * (r : Int) + 1 ∧ f.2.1 ≤ C.N ∧ mem (G r) f.2.1.toNat = false ∧ (r = 0 ∨ mem (G (r - 1)) f.2.1.toNat = true) ∧ shape C G r f.2.1.toNat f.2.2 = true := by
  unfold fits at h
  simp only [Bool.and_eq_true, Bool.or_eq_true, decide_eq_true_iff, Bool.not_eq_true'] at h
  exact ⟨h.1, h.2.1, h.2.2.1, h.2.2.2.1, h.2.2.2.2⟩
theorem many_more {C : Cf} {G : Tab} {r : Nat} (hr : r < 4) {f : Fr} (hf : f.2.1 ≤ 12) : decide (many G < many (addF C r G f)) = fits C G r f := by
  unfold addF
  by_cases h : fits C G r f = true
  · rw [if_pos h, h, many_upd G r _ _ hr (by omega) (fits_new h).2.2.1]; exact decide_eq_true (by omega)
  · rw [if_neg h, decide_eq_false (by omega)]; exact (Bool.eq_false_iff.2 h).symm
theorem all_cl {l : List It} (h : riseB l = true) : ∀ x ∈ l, Num.clB x.1 = true := fun x hx => Num.clB_yes ((rise_pair h).2 x hx).1 ((rise_pair h).2 x hx).2
def haveIds (l : List It) (p : Nat → Bool) : Bool := (l.all fun x => Num.clB x.1 && p x.1.toNat) && decide (l.length = (lst p).length)
theorem has_cast {l : List It} (h : riseB l = true) (x : It) (hx : x ∈ l) : x.1.toNat < 13 ∧ hasI l (x.1.toNat : Nat) = true := by
  have := (rise_pair h).2 x hx
  refine ⟨by omega, hasI_iff.2 ⟨x, hx, ?_⟩⟩
  omega
theorem haveIds_same {l : List It} (h : riseB l = true) (p : Nat → Bool) : haveIds l p = sameS (fun u => hasI l u) p := by
  have hlen : l.length = (lst fun u : Nat => hasI l u).length := by
    have := congrArg List.length (ids_range h)
    simpa [lst, lstN] using this
  rw [Bool.eq_iff_iff, sameS_iff]
  unfold haveIds
  rw [Bool.and_eq_true, decide_eq_true_iff, List.all_eq_true]
  constructor
  · intro ⟨h1, h2⟩
    have hsub : (lst fun u : Nat => hasI l u) = (lst p).filter fun u : Nat => hasI l u := by
      unfold lst lstN
      rw [List.filter_filter]
      apply List.filter_congr
      intro u hu
      by_cases q : hasI l u = true
      · obtain ⟨x, hx, e⟩ := hasI_iff.1 q
        have := h1 x hx
        rw [Bool.and_eq_true] at this
        rw [q, Bool.true_and]
        have e' : x.1.toNat = u := by omega
        rw [← e']; exact this.2.symm
      · rw [Bool.eq_false_iff.2 q]; rfl
    have hfe : ((lst p).filter fun u : Nat => hasI l u) = lst p := List.Sublist.eq_of_length List.filter_sublist (by rw [← hsub, ← hlen]; exact h2)
    intro u hu
    by_cases q : p u = true
    · rw [q]
      have hm : u ∈ ((lst p).filter fun u : Nat => hasI l u) := by rw [hfe]; exact mem_lst.2 ⟨hu, q⟩
      exact (List.mem_filter.1 hm).2
    · rw [Bool.eq_false_iff.2 q, hasI_off]
      intro x hx e
      have := h1 x hx
      rw [Bool.and_eq_true] at this
      have e' : x.1.toNat = u := by omega
      rw [e'] at this
      exact q this.2
  · intro hs
    refine ⟨fun x hx => ?_, ?_⟩
    · obtain ⟨h1, h2⟩ := has_cast h x hx
      rw [all_cl h x hx, Bool.true_and, ← hs _ h1]; exact h2
    · rw [hlen, lst_ext hs]
def tellOf (l : List It) (p : Nat → Bool) : Bool := l.all fun x => Num.clB x.1 && (p x.1.toNat == decide (x.2.1 = 1))
theorem tellOf_same {l : List It} (h : riseB l = true) (p : Nat → Bool) : tellOf l p = l.all fun x => decide (x.2.1 = 1) == p x.1.toNat := by
  unfold tellOf
  rw [Bool.eq_iff_iff, List.all_eq_true, List.all_eq_true]
  constructor
  · intro a x hx
    have := a x hx
    rw [all_cl h x hx, Bool.true_and] at this
    rw [← this]; cases decide (x.2.1 = 1) <;> cases p x.1.toNat <;> rfl
  · intro a x hx
    have := a x hx
    rw [all_cl h x hx, Bool.true_and, ← this]; cases decide (x.2.1 = 1) <;> cases p x.1.toNat <;> rfl
end Go.Proofs.YtchideljndagjabGreat.Srv
namespace Go.Proofs.YtchideljndagjabGreat.Srv
open Frm Cli
set_option linter.unusedVariables false
theorem in_itemOf {l : List It} {v : Int} : itemOf l v ∈ l ∨ itemOf l v = (0, 0, 0, 0) := by
  by_cases h : hasI l v = true
  · refine .inl ?_
    unfold itemOf
    cases e : l.find? (fun x => decide (x.1 = v)) with
    | none =>
      rw [List.find?_eq_none] at e
      obtain ⟨x, hx, hv⟩ := hasI_iff.1 h
      exact absurd (decide_eq_true hv) (e x hx)
    | some x => exact List.mem_of_find?_eq_some e
  · exact .inr (itemOf_none (Bool.eq_false_iff.2 h))
theorem mem_itemOf {l : List It} {v : Int} (h : hasI l v = true) : itemOf l v ∈ l := by
  rcases in_itemOf (l := l) (v := v) with h' | h'
  · exact h'
  · obtain ⟨x, hx, hv⟩ := hasI_iff.1 h
    unfold itemOf
    cases e : l.find? (fun x => decide (x.1 = v)) with
    | none =>
      rw [List.find?_eq_none] at e
      exact absurd (decide_eq_true hv) (e x hx)
    | some x => exact List.mem_of_find?_eq_some e
theorem okF_mem {k fr : Int} {l : List It} (h : okF k fr l = true) {x : It} (hx : x ∈ l) : okI k x = true := by
  obtain ⟨i, hi, rfl⟩ := List.getElem_of_mem hx
  have := (okF_parts h).2.2.2.2 i hi
  rwa [it_get l i hi] at this
structure GoodT (C : Cf) (G : Tab) : Prop where
  ok : ∀ (r u : Nat) (l : List It), G r u = some l → r < 4 ∧ 1 ≤ u ∧ (u : Int) ≤ C.N ∧ u ≤ 12 ∧ okF (2 * (r : Int) + 1) u l = true
  up : ∀ r u : Nat, mem (G (r + 1)) u = true → mem (G r) u = true
  one : ∀ (u : Nat) (l : List It), G 1 u = some l → ∀ v : Nat, v < 13 → hasI l v = (mem (G 0) v && decide (v ≠ u))
  two : ∀ (u : Nat) (l : List It), G 2 u = some l → (l.length : Int) = C.M
  three : ∀ (u : Nat) (l : List It), G 3 u = some l → (∀ x ∈ l, decide (x.2.1 = 1) = mem (G 2) x.1.toNat) ∧ ∀ v : Nat, v < 13 → hasI l v = mem (G 1) v
theorem goodT_none (C : Cf) : GoodT C none4 := by
  constructor <;> intros <;> simp_all [none4, mem]
theorem mem_some {S : Row} {u : Nat} (h : mem S u = true) : ∃ l, S u = some l := Option.isSome_iff_exists.1 h
theorem mem_off {S : Row} {u : Nat} (h : mem S u = false) : S u = none := by unfold mem at h; cases e : S u with | none => rfl | some l => rw [e] at h; cases h
theorem its_some {S : Row} {u : Nat} {l : List It} (h : S u = some l) : its S u = l := by unfold its; rw [h]; rfl
theorem its_none {S : Row} {u : Nat} (h : mem S u = false) : its S u = [] := by unfold its; rw [mem_off h]; rfl
theorem GoodT.mem {C : Cf} {G : Tab} (h : GoodT C G) {r u : Nat} (hm : Srv.mem (G r) u = true) : r < 4 ∧ 1 ≤ u ∧ (u : Int) ≤ C.N ∧ u ≤ 12 ∧ okF (2 * (r : Int) + 1) u (its (G r) u) = true := by
  obtain ⟨l, e⟩ := mem_some hm
  rw [its_some e]; exact h.ok r u l e
theorem GoodT.zero {C : Cf} {G : Tab} (h : GoodT C G) (r : Nat) : Srv.mem (G r) 0 = false := by
  refine Bool.eq_false_iff.2 fun hm => ?_
  have := (h.mem hm).2.1
  omega
theorem GoodT.add {C : Cf} {G : Tab} (h : GoodT C G) {rd : Nat} (hr : rd < 4) (hl : ∀ r, rd < r → G r = fun _ => none) {f : Fr} (hf : okF f.1 f.2.1 f.2.2 = true) (hfit : fits C G rd f = true) : GoodT C (updT G rd f.2.1.toNat f.2.2) := by
  obtain ⟨k1, k2, k3, k4, k5⟩ := fits_new hfit
  have hcl : 1 ≤ f.2.1 ∧ f.2.1 ≤ 12 := by
    have := (okF_parts hf).2.1
    unfold fromB at this
    rw [if_pos (by rw [k1]; omega), Num.clB_iff] at this
    exact this
  have hcast : ((f.2.1.toNat : Nat) : Int) = f.2.1 := by omega
  have hrow : ∀ r, r ≠ rd → updT G rd f.2.1.toNat f.2.2 r = G r := fun r h => updT_row G rd _ _ h
  have hset : ∀ r u l, updT G rd f.2.1.toNat f.2.2 r u = some l → (r = rd ∧ u = f.2.1.toNat ∧ l = f.2.2) ∨ G r u = some l := by
    intro r u l e
    unfold updT at e
    split at e
    · rename_i c; exact .inl ⟨c.1, c.2, (Option.some.inj e).symm⟩
    · exact .inr e
  have hmem : ∀ r u, Srv.mem (updT G rd f.2.1.toNat f.2.2 r) u = true ↔ (r = rd ∧ u = f.2.1.toNat) ∨ Srv.mem (G r) u = true := by
    intro r u
    unfold Srv.mem updT
    by_cases c : r = rd ∧ u = f.2.1.toNat
    · rw [if_pos c]; simp [c]
    · rw [if_neg c]; simp [c]
  constructor
  · intro r u l e
    rcases hset r u l e with ⟨rfl, rfl, rfl⟩ | e
    · refine ⟨hr, by omega, by rw [hcast]; exact k2, by omega, ?_⟩
      rw [hcast, ← k1]; exact hf
    · exact h.ok r u l e
  · intro r u e
    rw [hmem] at e ⊢
    rcases e with ⟨e1, rfl⟩ | e
    · rcases k4 with k4 | k4
      · omega
      · rw [← e1, Nat.add_sub_cancel] at k4; exact .inr k4
    · exact .inr (h.up r u e)
  · intro u l e v hv
    rcases hset 1 u l e with ⟨e1, rfl, rfl⟩ | e
    · have k5' := k5
      unfold shape at k5'
      rw [if_pos e1.symm, sameS_iff] at k5'
      rw [hrow 0 (by omega)]
      exact k5' v hv
    · rw [h.one u l e v hv]
      by_cases c : rd = 0
      · exfalso
        have := hl 1 (by omega)
        rw [this] at e; cases e
      · rw [hrow 0 (by omega)]
  · intro u l e
    rcases hset 2 u l e with ⟨e1, rfl, rfl⟩ | e
    · unfold shape at k5
      rw [if_neg (by omega), if_pos e1.symm, decide_eq_true_iff] at k5
      exact k5
    · exact h.two u l e
  · intro u l e
    rcases hset 3 u l e with ⟨e1, rfl, rfl⟩ | e
    · have k5' := k5
      unfold shape at k5'
      rw [if_neg (by omega), if_neg (by omega), if_pos e1.symm, Bool.and_eq_true, sameS_iff, List.all_eq_true] at k5'
      rw [hrow 2 (by omega), hrow 1 (by omega)]
      exact ⟨fun x hx => eq_of_beq (k5'.1 x hx), k5'.2⟩
    · have c : rd = 3 := by
        apply Decidable.byContradiction
        intro c
        have := hl 3 (by omega)
        rw [this] at e; cases e
      rw [hrow 2 (by omega), hrow 1 (by omega)]
      exact h.three u l e
def helloI (G : Tab) (v : Nat) : It := ((v : Int), (itemOf (its (G 0) v) v).2.1, (itemOf (its (G 0) v) v).2.2.1, 0)
def boxI (G : Tab) (u v : Nat) : It := ((v : Int), (itemOf (its (G 1) v) u).2.1, (itemOf (its (G 1) v) u).2.2.1, (itemOf (its (G 1) v) u).2.2.2)
def askI (v : Nat) : It := ((v : Int), 0, 0, 0)
def keysN (G : Tab) (n : Nat) : List It := (lstN (mem (G 0)) n).map (helloI G)
def boxN (G : Tab) (u n : Nat) : List It := (lstN (without (mem (G 1)) u) n).map (boxI G u)
def askN (G : Tab) (n : Nat) : List It := (lstN (mem (G 2)) n).map askI
def sendsL (G : Tab) (r u : Nat) : List It := if r = 0 then keysN G 13 else if r = 1 then boxN G u 13 else askN G 13
theorem frame_of (k : Int) (hk : k = 2 ∨ k = 4 ∨ k = 6) (p : Nat → Bool) (g : Nat → It) (hg : ∀ v, (g v).1 = (v : Int)) (hp : ∀ v, v < 13 → p v = true → 1 ≤ v ∧ okI k (g v) = true) (hn : k = 4 ∨ lst p ≠ []) : okF k 0 ((lst p).map g) = true := by
  have q1 : ((lst p).map g).Pairwise (fun x y => x.1 < y.1) := by
    rw [List.pairwise_map]
    exact (lst_pair p).imp (fun {a b} h => by rw [hg, hg]; omega)
  have q2 : ∀ x ∈ (lst p).map g, 1 ≤ x.1 ∧ x.1 ≤ 12 := fun x hx => by
    obtain ⟨v, hv, rfl⟩ := List.mem_map.1 hx
    obtain ⟨h1, h2⟩ := mem_lst.1 hv
    have := (hp v h1 h2).1
    rw [hg]; omega
  have a1 := decide_eq_true (pair_len q1 q2)
  have a2 : fromB k 0 = true := by
    unfold fromB
    rw [if_neg (by omega), if_pos hk]; rfl
  have a3 := pair_rise q1 q2
  have a5 : numsB k ((lst p).map g) = true := all_it (p := okI k) (fun x hx => by
    obtain ⟨v, hv, rfl⟩ := List.mem_map.1 hx
    obtain ⟨h1, h2⟩ := mem_lst.1 hv
    exact (hp v h1 h2).2)
  have a4 : idsB k 0 ((lst p).map g) = true := by
    have hl : k ≠ 4 → 1 ≤ ((lst p).map g).length := fun h4 => by
      rw [List.length_map]
      rcases hn with h | h
      · exact absurd h h4
      · exact List.length_pos_iff.2 h
    unfold idsB
    rw [if_neg (by omega)]
    rcases hk with rfl | rfl | rfl
    · rw [if_pos (by omega)]; exact decide_eq_true (hl (by omega))
    · rfl
    · rw [if_pos (by omega)]; exact decide_eq_true (hl (by omega))
  unfold okF
  rw [a1, a2, a3, a4, a5]; rfl
theorem hello_item {C : Cf} {G : Tab} (h : GoodT C G) {v : Nat} (hm : mem (G 0) v = true) : (itemOf (its (G 0) v) v).1 = (v : Int) ∧ keyB (itemOf (its (G 0) v) v).2.1 = true ∧ keyB (itemOf (its (G 0) v) v).2.2.1 = true ∧ (itemOf (its (G 0) v) v).2.2.2 = 0 := by
  obtain ⟨_, _, _, _, hok⟩ := h.mem hm
  have hh : hasI (its (G 0) v) v = true := by
    have h4 := (okF_parts hok).2.2.2.1
    have e : (decide ((its (G 0) v).length = 1) && !noneB (its (G 0) v) v) = true := h4
    rw [Bool.and_eq_true, Bool.not_eq_true'] at e
    obtain ⟨i, hi, hx⟩ := allB_off.1 e.2
    refine hasI_iff.2 ⟨it (its (G 0) v) i, ?_, ?_⟩
    · rw [it_get _ i hi]; exact List.getElem_mem hi
    · simpa using hx
  have hx := mem_itemOf hh
  have hi : (keyB (itemOf (its (G 0) v) v).2.1 && (keyB (itemOf (its (G 0) v) v).2.2.1 && zB (itemOf (its (G 0) v) v).2.2.2)) = true := okF_mem hok hx
  rw [Bool.and_eq_true, Bool.and_eq_true, zB_iff] at hi
  exact ⟨itemOf_has hh, hi.1, hi.2.1, hi.2.2⟩
theorem box_item {C : Cf} {G : Tab} (h : GoodT C G) (v u : Nat) : Num.elB (itemOf (its (G 1) v) u).2.1 = true ∧ Num.elB (itemOf (its (G 1) v) u).2.2.1 = true ∧ Num.elB (itemOf (its (G 1) v) u).2.2.2 = true := by
  rcases in_itemOf (l := its (G 1) v) (v := (u : Int)) with hx | hx
  · have hm : mem (G 1) v = true := by
      cases e : G 1 v with
      | none => unfold its at hx; rw [e] at hx; cases hx
      | some l => unfold mem; rw [e]; rfl
    obtain ⟨_, _, _, _, hok⟩ := h.mem hm
    have hi : (Num.elB (itemOf (its (G 1) v) u).2.1 && (Num.elB (itemOf (its (G 1) v) u).2.2.1 && Num.elB (itemOf (its (G 1) v) u).2.2.2)) = true := okF_mem hok hx
    rw [Bool.and_eq_true, Bool.and_eq_true] at hi
    exact hi
  · rw [hx]; decide
theorem sends_ok {C : Cf} {G : Tab} (h : GoodT C G) (r u : Nat) (hr : r < 3) (hn : 1 ≤ sizeR (G r)) : okF (2 * (r : Int) + 2) 0 (sendsL G r u) = true := by
  have hne : lst (mem (G r)) ≠ [] := by
    intro e; unfold sizeR at hn; rw [e] at hn; simp at hn
  have h3 : r = 0 ∨ r = 1 ∨ r = 2 := by omega
  rcases h3 with rfl | rfl | rfl
  · refine frame_of 2 (by omega) (mem (G 0)) (helloI G) (fun _ => rfl) (fun v hv hp => ⟨(h.mem hp).2.1, ?_⟩) (.inr hne)
    obtain ⟨_, h1, h2, _⟩ := hello_item h hp
    show (keyB (itemOf (its (G 0) v) v).2.1 && (keyB (itemOf (its (G 0) v) v).2.2.1 && zB 0)) = true
    rw [h1, h2]; rfl
  · refine frame_of 4 (by omega) (without (mem (G 1)) u) (boxI G u) (fun _ => rfl) (fun v hv hp => ⟨?_, ?_⟩) (.inl rfl)
    · unfold without at hp; rw [Bool.and_eq_true] at hp; exact (h.mem hp.1).2.1
    · obtain ⟨h1, h2, h3⟩ := box_item h v u
      show (Num.elB (itemOf (its (G 1) v) u).2.1 && (Num.elB (itemOf (its (G 1) v) u).2.2.1 && Num.elB (itemOf (its (G 1) v) u).2.2.2)) = true
      rw [h1, h2, h3]; rfl
  · refine frame_of 6 (by omega) (mem (G 2)) askI (fun _ => rfl) (fun v hv hp => ⟨(h.mem hp).2.1, rfl⟩) (.inr hne)
end Go.Proofs.YtchideljndagjabGreat.Srv
