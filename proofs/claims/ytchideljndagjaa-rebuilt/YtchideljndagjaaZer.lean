/- Polynomials by their coefficients: that with given zeros; what the shift of the draws does. -/
import Derived.Test.YtchideljndagjaaNumAll
namespace Go.Proofs.Ytchideljndagjaa.Pol
open Go.Proofs.Ytchideljndagjaa.Num
set_option linter.unusedVariables false

/-- The value of a polynomial, its coefficients from the constant on. -/
def evc : List Int → Int → Int
  | [], _ => 0
  | a :: l, x => a + x * evc l x

theorem ev_evc (ds : List Int) (x : Int) : ev ds x = x * evc ds x := by
  induction ds with
  | nil => show (0 : Int) = x * 0; rw [Int.mul_zero]
  | cons d ds ih => show (ev ds x + d) * x = x * (d + x * evc ds x); rw [ih]; grind

/-- Coefficient j ahead of its turn, and behind it: times one less o x. -/
def prv (q : List Int) (o : Int) (j : Nat) : Int := if j = 0 then 0 else subP 0 (mulP (q.getD (j - 1) 0) o)
def linAt (q : List Int) (o : Int) (j : Nat) : Int := if j < q.length then addP (prv q o j) (q.getD j 0) else prv q o j
def linL (q : List Int) (o : Int) : List Int := (List.range (q.length + 1)).map (linAt q o)

/-- The row in the middle of the round: i coefficients are done. -/
def midAt (q : List Int) (o : Int) (i j : Nat) : Int := if j < i then addP (prv q o j) (q.getD j 0) else if j = i then prv q o j else 0
def midL (q : List Int) (o : Int) (i : Nat) : List Int := (List.range (q.length + 1)).map (midAt q o i)

theorem midL_zero (q : List Int) (o : Int) : midL q o 0 = List.replicate (q.length + 1) 0 := by
  apply List.ext_getElem?
  intro j
  by_cases hj : j < q.length + 1
  · rw [midL, List.getElem?_map, List.getElem?_range hj, List.getElem?_replicate, if_pos hj]
    show some (midAt q o 0 j) = _
    unfold midAt prv
    rw [if_neg (by omega)]
    by_cases e : j = 0
    · rw [if_pos e, if_pos e]
    · rw [if_neg e]
  · rw [List.getElem?_eq_none (by simp [midL]; omega), List.getElem?_eq_none (by simp; omega)]

theorem midL_end (q : List Int) (o : Int) : midL q o q.length = linL q o := by
  unfold midL linL
  apply List.map_congr_left
  intro j hj
  have := List.mem_range.1 hj
  unfold midAt linAt
  by_cases e : j < q.length
  · rw [if_pos e, if_pos e]
  · rw [if_neg e, if_neg e, if_pos (by omega)]

theorem midL_length (q : List Int) (o : Int) (i : Nat) : (midL q o i).length = q.length + 1 := by simp [midL]
theorem midL_get (q : List Int) (o : Int) (i j : Nat) (h : j < q.length + 1) : (midL q o i).getD j 0 = midAt q o i j := by
  rw [midL, List.getD_eq_getElem?_getD, List.getElem?_map, List.getElem?_range h]; rfl

theorem midL_step (q : List Int) (o : Int) (i : Nat) (h : i < q.length) :
    ((midL q o i).set i (addP (prv q o i) (q.getD i 0))).set (i + 1) (subP 0 (mulP (q.getD i 0) o)) = midL q o (i + 1) := by
  apply List.ext_getElem?
  intro j
  rw [List.getElem?_set, List.getElem?_set]
  simp only [List.length_set, midL_length]
  by_cases hj : j < q.length + 1
  · rw [midL, midL, List.getElem?_map, List.getElem?_map, List.getElem?_range hj]
    by_cases e1 : i + 1 = j
    · subst e1
      rw [if_pos rfl, if_pos (by omega)]
      show _ = some (midAt q o (i + 1) (i + 1))
      unfold midAt prv
      rw [if_neg (by omega), if_pos rfl, if_neg (by omega), Nat.add_sub_cancel]
    · rw [if_neg e1]
      by_cases e2 : i = j
      · subst e2
        rw [if_pos rfl, if_pos (by omega)]
        show _ = some (midAt q o (i + 1) i)
        unfold midAt
        rw [if_pos (by omega)]
      · rw [if_neg e2]
        show some (midAt q o i j) = some (midAt q o (i + 1) j)
        unfold midAt
        by_cases e3 : j < i
        · rw [if_pos e3, if_pos (by omega)]
        · rw [if_neg e3, if_neg (by omega), if_neg (by omega), if_neg (by omega)]
  · rw [List.getElem?_eq_none (by simp [midL]; omega), List.getElem?_eq_none (by simp [midL]; omega), if_neg (by omega), if_neg (by omega)]

theorem prv_lo (q : List Int) (o : Int) (j : Nat) : 0 ≤ prv q o j := by unfold prv; split; omega; exact subP_lo _ _
theorem prv_hi (q : List Int) (o : Int) (j : Nat) : prv q o j < 2305843009213693951 := by unfold prv; split; omega; exact subP_hi _ _
theorem linL_length (q : List Int) (o : Int) : (linL q o).length = q.length + 1 := by simp [linL]
theorem linL_el (q : List Int) (o : Int) : (linL q o).all elB = true := by
  rw [List.all_eq_true]
  intro z hz
  unfold linL at hz
  obtain ⟨j, _, rfl⟩ := List.mem_map.1 hz
  unfold linAt
  split
  · exact elB_yes (addP_lo _ _) (addP_hi _ _)
  · exact elB_yes (prv_lo _ _ _) (prv_hi _ _ _)

theorem linL_zero (q : List Int) (o : Int) (h : q.getD 0 0 = 1) (hl : 0 < q.length) : (linL q o).getD 0 0 = 1 := by
  rw [linL, List.getD_eq_getElem?_getD, List.getElem?_map, List.getElem?_range (by omega)]
  show linAt q o 0 = 1
  unfold linAt prv
  rw [if_pos hl, if_pos rfl, h]; rfl

theorem prv_succ (q : List Int) (o : Int) (j : Nat) : prv q o (j + 1) = subP 0 (mulP (q.getD j 0) o) := by
  unfold prv; rw [if_neg (by omega), Nat.add_sub_cancel]

/-- A list as its first and the rest of linL. -/
theorem linL_cons (a : Int) (l : List Int) (o : Int) : ∃ t, linL (a :: l) o = addP 0 a :: t ∧ ∀ x, evc t x % 2305843009213693951 = (evc l x - o * evc (a :: l) x) % 2305843009213693951 := by
  induction l generalizing a with
  | nil =>
    refine ⟨[subP 0 (mulP a o)], rfl, fun x => ?_⟩
    show (subP 0 (mulP a o) + x * 0) % _ = (0 - o * (a + x * 0)) % _
    rw [Int.mul_zero, Int.add_zero, Int.add_zero, Int.mul_comm o a]
    unfold subP mulP
    generalize a * o = y
    omega
  | cons b l ih =>
    obtain ⟨t, ht, he⟩ := ih b
    refine ⟨addP (subP 0 (mulP a o)) b :: t, ?_, fun x => ?_⟩
    · have hb : linL (a :: b :: l) o = addP 0 a :: addP (subP 0 (mulP a o)) b :: (linL (b :: l) o).tail := by
        unfold linL
        rw [List.length_cons, List.range_succ_eq_map, List.map_cons, List.length_cons, List.range_succ_eq_map, List.map_cons, List.map_cons, List.map_map, List.map_map, List.map_cons, List.tail_cons]
        congr 1
        congr 1
        rw [List.map_map]
        apply List.map_congr_left
        intro j _
        show linAt (a :: b :: l) o (j + 1 + 1) = linAt (b :: l) o (j + 1)
        unfold linAt
        rw [prv_succ, prv_succ]
        simp only [List.length_cons, List.getD_cons_succ]
        by_cases e : j + 1 < l.length + 1
        · rw [if_pos (show j + 1 + 1 < l.length + 1 + 1 by omega), if_pos e]
        · rw [if_neg (show ¬ j + 1 + 1 < l.length + 1 + 1 by omega), if_neg e]
      rw [hb, ht]; rfl
    · show (addP (subP 0 (mulP a o)) b + x * evc t x) % _ = (b + x * evc l x - o * (a + x * (b + x * evc l x))) % _
      have h1 := he x
      have hx : x * evc t x % 2305843009213693951 = x * (evc l x - o * evc (b :: l) x) % 2305843009213693951 := by
        rw [Int.mul_emod, h1, ← Int.mul_emod]
      show (addP (subP 0 (mulP a o)) b + x * evc t x) % _ = _
      have hbl : evc (b :: l) x = b + x * evc l x := rfl
      rw [hbl] at hx
      generalize evc l x = E at *
      rw [Int.add_emod, hx, ← Int.add_emod]
      unfold addP subP mulP
      have key : b + x * E - o * (a + x * (b + x * E)) = (b - a * o) + x * (E - o * (b + x * E)) := by grind
      rw [key]
      generalize x * (E - o * (b + x * E)) = Y
      generalize a * o = Z
      omega

theorem evc_lin (q : List Int) (o x : Int) (hl : 0 < q.length) : evc (linL q o) x % 2305843009213693951 = evc q x * (1 - o * x) % 2305843009213693951 := by
  cases q with
  | nil => simp at hl
  | cons a l =>
    obtain ⟨t, ht, he⟩ := linL_cons a l o
    rw [ht]
    show (addP 0 a + x * evc t x) % _ = (a + x * evc l x) * (1 - o * x) % _
    have h1 := he x
    have hx : x * evc t x % 2305843009213693951 = x * (evc l x - o * evc (a :: l) x) % 2305843009213693951 := by
      rw [Int.mul_emod, h1, ← Int.mul_emod]
    have hbl : evc (a :: l) x = a + x * evc l x := rfl
    rw [hbl] at hx
    generalize evc l x = E at *
    rw [Int.add_emod, hx, ← Int.add_emod]
    unfold addP
    have key : (a + x * E) * (1 - o * x) = a + x * (E - o * (a + x * E)) := by grind
    rw [key]
    generalize x * (E - o * (a + x * E)) = Y
    omega

/-- One over u, as the program has it. -/
def inv (u : Int) : Int := powP u 2305843009213693949
theorem inv_lo (u : Int) : 0 ≤ inv u := powP_lo _ _
theorem inv_hi (u : Int) : inv u < 2305843009213693951 := powP_hi _ _
theorem inv_mul (u : Int) (h : 0 < u) (h' : u < 2305843009213693951) : u * inv u % 2305843009213693951 = 1 := Prm.unit u h h'

theorem lin_zero (u x : Int) (hu : 1 ≤ u) (hu' : u ≤ 12) (hx : 1 ≤ x) (hx' : x ≤ 12) : (1 - inv u * x) % 2305843009213693951 = 0 ↔ u = x := by
  have h1 := inv_mul u (by omega) (by omega)
  constructor
  · intro h
    have h2 : u * (1 - inv u * x) % 2305843009213693951 = 0 := by rw [Int.mul_emod, h, Int.mul_zero]; rfl
    have e : u * (1 - inv u * x) = u - u * inv u * x := by grind
    rw [e, Int.sub_emod, Int.mul_emod, h1, Int.one_mul, Int.emod_emod] at h2
    omega
  · rintro rfl
    rw [Int.mul_comm, Int.sub_emod, h1]; rfl

/-- What holds of the coefficients when the clients below u have been looked at. -/
def ZInv (bs : List Bool) (u : Nat) (q : List Int) : Prop :=
  q.length = (bs.take u).count true + 1 ∧ q.all elB = true ∧ q.getD 0 0 = 1 ∧
    ∀ x : Int, 1 ≤ x → x ≤ 12 → (evc q x % 2305843009213693951 = 0 ↔ ∃ v : Nat, v < u ∧ bs.getD v false = true ∧ (v : Int) = x)

theorem zinv_start (bs : List Bool) (h0 : bs.getD 0 false = false) : ZInv bs 1 [1] := by
  refine ⟨?_, rfl, rfl, fun x h1 h2 => ?_⟩
  · cases bs with
    | nil => rfl
    | cons b bs => have : b = false := h0; subst this; rfl
  · show (1 + x * 0) % _ = 0 ↔ _
    rw [Int.mul_zero]
    constructor
    · intro h; exact absurd h (by decide)
    · rintro ⟨v, hv, hb, _⟩
      have : v = 0 := by omega
      subst this; rw [h0] at hb; cases hb

theorem count_take (bs : List Bool) (u : Nat) (hu : u < bs.length) : (bs.take (u + 1)).count true = (bs.take u).count true + if bs.getD u false = true then 1 else 0 := by
  rw [List.take_succ_eq_append_getElem hu, List.count_append, List.getD_eq_getElem?_getD, List.getElem?_eq_getElem hu, Option.getD_some]
  cases bs[u] <;> simp

theorem zinv_skip {bs : List Bool} {u : Nat} {q : List Int} (h : ZInv bs u q) (hu : u < bs.length) (hb : bs.getD u false = false) : ZInv bs (u + 1) q := by
  obtain ⟨h1, h2, h3, h4⟩ := h
  refine ⟨by rw [count_take _ _ hu, hb]; simpa using h1, h2, h3, fun x x1 x2 => ?_⟩
  rw [h4 x x1 x2]
  constructor
  · rintro ⟨v, a, b, c⟩; exact ⟨v, by omega, b, c⟩
  · rintro ⟨v, a, b, c⟩
    by_cases e : v = u
    · subst e; rw [hb] at b; cases b
    · exact ⟨v, by omega, b, c⟩

theorem zinv_lin {bs : List Bool} {u : Nat} {q : List Int} (h : ZInv bs u q) (hu : u < bs.length) (hb : bs.getD u false = true) (h1u : 1 ≤ u) (hu12 : u ≤ 12) : ZInv bs (u + 1) (linL q (inv (u : Int))) := by
  obtain ⟨h1, h2, h3, h4⟩ := h
  refine ⟨by rw [linL_length, count_take _ _ hu, hb, h1]; simp, linL_el _ _, linL_zero _ _ h3 (by omega), fun x x1 x2 => ?_⟩
  rw [evc_lin _ _ _ (by omega)]
  constructor
  · intro h
    rcases Prm.mul_zero _ _ h with e | e
    · obtain ⟨v, a, b, c⟩ := (h4 x x1 x2).1 e
      exact ⟨v, by omega, b, c⟩
    · exact ⟨u, by omega, hb, (lin_zero _ _ (by omega) (by omega) x1 x2).1 e⟩
  · rintro ⟨v, a, b, c⟩
    by_cases e : v = u
    · subst e
      rw [Int.mul_emod, (lin_zero _ _ (by omega) (by omega) x1 x2).2 c, Int.mul_zero]; rfl
    · rw [Int.mul_emod, (h4 x x1 x2).2 ⟨v, by omega, b, c⟩]; simp

/-- The shifted draws. -/
def shiftAt (d : Int) (q ds : List Int) (i : Nat) : Int := addP (ds.getD i 0) (mulP d (q.getD (i + 1) 0))
def shiftL (d : Int) (q ds : List Int) (k : Nat) : List Int := (List.range k).map (shiftAt d q ds)
theorem shiftL_succ (d : Int) (q ds : List Int) (k : Nat) : shiftL d q ds (k + 1) = shiftL d q ds k ++ [shiftAt d q ds k] := by
  unfold shiftL; rw [List.range_succ, List.map_append]; rfl
theorem shiftL_length (d : Int) (q ds : List Int) (k : Nat) : (shiftL d q ds k).length = k := by simp [shiftL]
theorem shiftL_el (d : Int) (q ds : List Int) (k : Nat) : (shiftL d q ds k).all elB = true := by
  rw [List.all_eq_true]
  intro z hz
  unfold shiftL at hz
  obtain ⟨j, _, rfl⟩ := List.mem_map.1 hz
  exact elB_yes (addP_lo _ _) (addP_hi _ _)

theorem evc_shift (d : Int) : ∀ (ds q : List Int) (x : Int), q.length = ds.length →
    evc ((List.range ds.length).map fun i => addP (ds.getD i 0) (mulP d (q.getD i 0))) x % 2305843009213693951 = (evc ds x + d * evc q x) % 2305843009213693951
  | [], [], x, _ => by show (0 : Int) % _ = (0 + d * 0) % _; rw [Int.mul_zero]; rfl
  | a :: ds, b :: q, x, h => by
    have ih := evc_shift d ds q x (by simpa using h)
    rw [List.length_cons, List.range_succ_eq_map, List.map_cons, List.map_map]
    have e : ((fun i => addP ((a :: ds).getD i 0) (mulP d ((b :: q).getD i 0))) ∘ Nat.succ) = fun i => addP (ds.getD i 0) (mulP d (q.getD i 0)) := by
      funext i; rfl
    rw [e]
    show (addP a (mulP d b) + x * evc _ x) % _ = (a + x * evc ds x + d * (b + x * evc q x)) % _
    have hx : x * evc ((List.range ds.length).map fun i => addP (ds.getD i 0) (mulP d (q.getD i 0))) x % 2305843009213693951 = x * (evc ds x + d * evc q x) % 2305843009213693951 := by
      rw [Int.mul_emod, ih, ← Int.mul_emod]
    rw [Int.add_emod, hx, ← Int.add_emod]
    unfold addP mulP
    have key : a + x * evc ds x + d * (b + x * evc q x) = a + d * b + x * (evc ds x + d * evc q x) := by grind
    rw [key]
    generalize x * (evc ds x + d * evc q x) = Y
    generalize d * b = Z
    omega

/-- With the shifted draws the shares of the other secret are those of the first and d times the polynomial. -/
theorem poly_shift (s secret : Int) (q ds : List Int) (x : Int) (hl : q.length = ds.length + 1) (h0 : q.getD 0 0 = 1) :
    (polyP s (shiftL (subP s secret) q ds ds.length) x - polyP secret ds x) % 2305843009213693951 = subP s secret * evc q x % 2305843009213693951 := by
  cases q with
  | nil => simp at hl
  | cons a q =>
    have ha : a = 1 := h0
    subst ha
    have h1 := evc_shift (subP s secret) ds q x (by simpa using hl)
    have e : shiftL (subP s secret) (1 :: q) ds ds.length = (List.range ds.length).map fun i => addP (ds.getD i 0) (mulP (subP s secret) (q.getD i 0)) := rfl
    rw [e]
    unfold polyP
    rw [ev_evc, ev_evc]
    generalize evc ((List.range ds.length).map fun i => addP (ds.getD i 0) (mulP (subP s secret) (q.getD i 0))) x = A at *
    have hx : x * A % 2305843009213693951 = x * (evc ds x + subP s secret * evc q x) % 2305843009213693951 := by
      rw [Int.mul_emod, h1, ← Int.mul_emod]
    show _ = subP s secret * (1 + x * evc q x) % _
    have hd : subP s secret % 2305843009213693951 = (s - secret) % 2305843009213693951 := by unfold subP; omega
    have key : subP s secret * (1 + x * evc q x) = subP s secret + (x * (evc ds x + subP s secret * evc q x) - x * evc ds x) := by grind
    rw [key]
    generalize x * (evc ds x + subP s secret * evc q x) = Y at *
    generalize x * evc ds x = Z at *
    generalize subP s secret = D at *
    generalize x * A = B at *
    omega

theorem shares_alike (s secret : Int) (q ds : List Int) (bs : List Bool) (u : Nat) (hz : ZInv bs bs.length q) (hl : q.length = ds.length + 1) (hs : 0 ≤ s) (hs' : s < 2305843009213693951) (hc : 0 ≤ secret) (hc' : secret < 2305843009213693951)
    (h1 : 1 ≤ u) (hu : u < bs.length) (h12 : u ≤ 12) :
    (polyP secret ds (u : Int) == polyP s (shiftL (subP s secret) q ds ds.length) (u : Int)) = (bs.getD u false || s == secret) := by
  have hp := poly_shift s secret q ds (u : Int) hl hz.2.2.1
  have a1 := polyP_lo secret ds (u : Int)
  have a2 := polyP_hi secret ds (u : Int)
  have b1 := polyP_lo s (shiftL (subP s secret) q ds ds.length) (u : Int)
  have b2 := polyP_hi s (shiftL (subP s secret) q ds ds.length) (u : Int)
  have hzz := hz.2.2.2 (u : Int) (by omega) (by omega)
  rw [Bool.eq_iff_iff]
  simp only [beq_iff_eq, Bool.or_eq_true]
  constructor
  · intro h
    rw [h, Int.sub_self, Int.zero_emod] at hp
    rcases Prm.mul_zero _ _ hp.symm with e | e
    · right; unfold subP at e; omega
    · left
      obtain ⟨v, _, hv, e⟩ := hzz.1 e
      rw [show u = v by omega]; exact hv
  · intro h
    have e0 : subP s secret * evc q (u : Int) % 2305843009213693951 = 0 := by
      rcases h with h | h
      · rw [Int.mul_emod, hzz.2 ⟨u, hu, h, rfl⟩]; simp
      · have : subP s secret = 0 := by unfold subP; omega
        rw [this, Int.zero_mul]; rfl
    rw [e0] at hp
    omega

end Go.Proofs.Ytchideljndagjaa.Pol
