/- Polynomials over the elements: Horner's way and power by power are one. -/
import Derived.Test.YtgfkgekaodibhaaGreatNum
namespace Go.Proofs.YtgfkgekaodibhaaGreat.Pol
open Go.Proofs.YtgfkgekaodibhaaGreat.Num
set_option linter.unusedVariables false

/-- d0 x + d1 x x + .. of integers. -/
def ev : List Int → Int → Int
  | [], _ => 0
  | d :: ds, x => (ev ds x + d) * x

/-- The same by elements, as the program reckons it. -/
def hor : List Int → Int → Int
  | [], _ => 0
  | d :: ds, x => mulP (addP (hor ds x) d) x

/-- A share: the value at x. -/
def polyP (s : Int) (ds : List Int) (x : Int) : Int := (s + ev ds x) % 2305843009213693951
theorem polyP_lo (s : Int) (ds : List Int) (x : Int) : 0 ≤ polyP s ds x := by unfold polyP; omega
theorem polyP_hi (s : Int) (ds : List Int) (x : Int) : polyP s ds x < 2305843009213693951 := by unfold polyP; omega

theorem hor_lo (ds : List Int) (x : Int) : 0 ≤ hor ds x := by cases ds with
  | nil => exact Int.le_refl 0
  | cons d ds => exact mulP_lo _ _
theorem hor_hi (ds : List Int) (x : Int) : hor ds x < 2305843009213693951 := by cases ds with
  | nil => show (0 : Int) < _; omega
  | cons d ds => exact mulP_hi _ _

theorem hor_ev (ds : List Int) (x : Int) : hor ds x = ev ds x % 2305843009213693951 := by
  induction ds with
  | nil => rfl
  | cons d ds ih =>
    show mulP (addP (hor ds x) d) x = (ev ds x + d) * x % _
    unfold mulP addP
    rw [ih, Int.mul_emod, Int.emod_emod, Int.emod_add_emod, ← Int.mul_emod]

theorem hor_poly (s : Int) (ds : List Int) (x : Int) : addP (hor ds x) s = polyP s ds x := by
  unfold addP polyP; rw [hor_ev, Int.emod_add_emod, Int.add_comm]

theorem ev_append (ds : List Int) (d x : Int) : ev (ds ++ [d]) x = ev ds x + d * x ^ (ds.length + 1) := by
  induction ds with
  | nil => show (0 + d) * x = 0 + d * x ^ 1; rw [Int.pow_one, Int.zero_add, Int.zero_add]
  | cons e ds ih =>
    show (ev (ds ++ [d]) x + e) * x = (ev ds x + e) * x + d * x ^ (ds.length + 1 + 1)
    rw [ih, Int.pow_succ x (ds.length + 1)]
    generalize x ^ (ds.length + 1) = y
    grind

/-- One power more. -/
theorem poly_step (s : Int) (ds : List Int) (k : Nat) (x : Int) (hk : k < ds.length) :
    addP (polyP s (ds.take k) x) (mulP (ds.getD k 0) (powP x ((k : Int) + 1))) = polyP s (ds.take (k + 1)) x := by
  rw [List.take_succ_eq_append_getElem hk, List.getD_eq_getElem?_getD, List.getElem?_eq_getElem hk, Option.getD_some]
  unfold addP polyP mulP powP
  rw [ev_append, List.length_take, Nat.min_eq_left (by omega), show ((k : Int) + 1).toNat = k + 1 by omega]
  generalize x ^ (k + 1) = y
  rw [Int.mul_emod, Int.emod_emod, ← Int.mul_emod, ← Int.add_emod, Int.add_assoc]

theorem poly_nil (s x : Int) (h : 0 ≤ s) (h' : s < 2305843009213693951) : polyP s [] x = s := by
  show (s + 0) % _ = s; omega

/-- The shares. -/
def shAt (s : Int) (ds : List Int) (i : Nat) : Int := polyP s ds ((i : Int) + 1)
def shL (s : Int) (ds : List Int) (n : Nat) : List Int := (List.range n).map (shAt s ds)
theorem shL_succ (s : Int) (ds : List Int) (n : Nat) : shL s ds (n + 1) = shL s ds n ++ [shAt s ds n] := by
  unfold shL; rw [List.range_succ, List.map_append]; rfl
theorem shL_length (s : Int) (ds : List Int) (n : Nat) : (shL s ds n).length = n := by unfold shL; simp
theorem shL_get (s : Int) (ds : List Int) (n i : Nat) (h : i < n) : (shL s ds n).getD i 0 = shAt s ds i := by
  unfold shL; rw [List.getD_eq_getElem?_getD, List.getElem?_map, List.getElem?_range h]; rfl
theorem shL_el (s : Int) (ds : List Int) (n : Nat) : ∀ z ∈ shL s ds n, 0 ≤ z ∧ z < 2305843009213693951 := by
  intro z hz
  unfold shL at hz
  obtain ⟨i, _, rfl⟩ := List.mem_map.1 hz
  exact ⟨polyP_lo _ _ _, polyP_hi _ _ _⟩

theorem hor_drop (ds : List Int) (k : Nat) (hk : k < ds.length) (x : Int) : mulP (addP (hor (ds.drop (k + 1)) x) (ds.getD k 0)) x = hor (ds.drop k) x := by
  rw [List.drop_eq_getElem_cons hk, List.getD_eq_getElem?_getD, List.getElem?_eq_getElem hk]; rfl

end Go.Proofs.YtgfkgekaodibhaaGreat.Pol
