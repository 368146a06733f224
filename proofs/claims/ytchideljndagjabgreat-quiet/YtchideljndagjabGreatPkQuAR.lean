/- Contracts of the program's client: NewClient, Hello, Released. (the client somewhere in a block) -/
import Derived.Test.YtchideljndagjabGreatPkQuAN
import Derived.Test.YtchideljndagjabGreatPkQuAQ
import Derived.Test.YtchideljndagjabGreatPkQuAA
namespace Go.Proofs.YtchideljndagjabGreat.Co
open Go.ChangeShapes Go.WideShapes Go.ChangeAt Go.RowKit
set_option linter.unusedVariables false

set_option maxHeartbeats 1000000 in
set_option maxRecDepth 100000 in
theorem hello_calls (b oo : Nat) (S : PS) (w : World) (h : PSAt w b oo S) (ho : Frm.okF 1 S.id [(S.id, S.cp, S.mp, 0)] = true) :
    Calls Tryz.prog 127 #[.pointer (some ⟨b, oo, none⟩)] w fun e w' => ∃ va, e = .returned va ∧ w'.ownsRow w.heap.size 5 1 va (Frm.encF 1 S.id [(S.id, S.cp, S.mp, 0)]).length ((Frm.encF 1 S.id [(S.id, S.cp, S.mp, 0)]).map (Value.int .u8)) ∧ Below w.heap.size w w' := by
  have hbl := h.lt
  have c0 := h.c0
  have c2 := h.c2
  have c3 := h.c3
  have HIN := hideG (okF_in ho)
  have HW := hideG (fun (W : World) (v : Value) (hb : Below w.heap.size w W) (hl : ItemsAt W v [(S.id, S.cp, S.mp, 0)]) => written_calls_c b oo S 1 v [(S.id, S.cp, S.mp, 0)] W (h.below hb) hl ho)
  clear h ho
  have al : ∀ (ob : Obj) (o : Nat), (w.alloc ob).cell? ⟨b, o, none⟩ = w.cell? ⟨b, o, none⟩ := fun ob o => ((Below.refl w.heap.size w).alloc (Nat.le_refl _) ob).cell (p := ⟨b, o, none⟩) hbl
  generalize S.id = x0 at *
  generalize S.cp = x1 at *
  generalize S.mp = x2 at *
  go_enter Tryz.func127, Tryz.ntmps127
  go_wp2_with fail
  go_region
  go_wp2_with fail
  obtain ⟨W, hW⟩ : ∃ W, W = ((w.alloc (.cells #[.int .i64 x0, .int .i64 x1, .int .i64 x2, .int .i64 0] 147)).alloc (.cells #[.int .i64 x0, .int .i64 x1, .int .i64 x2, .int .i64 0] 147)).drew := ⟨_, rfl⟩
  rw [← hW]
  have HB := hideG (show Below w.heap.size w W by rw [hW]; exact (((Below.refl _ _).alloc (Nat.le_refl _) _).alloc (by simp) _).drew)
  have HI := hideG (show ItemsAt W (.slice (some ⟨w.heap.size + 1, 0, none⟩) 1 1) [(x0, x1, x2, 0)] by
    refine ⟨_, _, rfl, by simp, by unfold maxLen; omega, HIN.out, .inr ⟨w.heap.size + 1, 0, rfl, by rw [hW]; simp, fun i hi => ?_⟩⟩
    obtain rfl : i = 0 := by simpa using hi
    rw [hW]
    refine ⟨?_, ?_, ?_, ?_⟩ <;> simp [Frm.it])
  clear hW
  refine (HW.out W _ HB.out HI.out).mono ?_
  rintro e w1 ⟨va, rfl, hown, hb1⟩
  have s1 := HB.out.size
  have O1 := hideG (ownsRow_base hown s1)
  have B1 := hideG (HB.out.trans (hb1.mono s1))
  obtain ⟨a3, c3', hv3⟩ := owns_form hown
  subst hv3
  clear hown hb1
  go_wp2_with fail
  go_ret
  exact ⟨_, rfl, O1.out, B1.out⟩
theorem released_calls (b oo : Nat) (S : PS) (l : List Frm.It) (w : World) (h : PSAt w b oo S) (hl : ItemsAt w S.told l) (hlen : l.length ≤ 12) :
    Calls Tryz.prog 142 #[.pointer (some ⟨b, oo, none⟩)] w fun e w' => ∃ va, e = .returned va ∧ w'.ownsRow w.heap.size 147 4 va l.length (flat4 l) ∧ Below w.heap.size w w' := by
  have c77 := h.c77
  have HC := hideG (copied_items w S.told l hl hlen)
  obtain ⟨a, cap, hv, -⟩ := items_view hl
  rw [hv] at c77 HC
  clear h hl hv hlen
  generalize l.length = n at *
  generalize flat4 l = L at *
  go_enter Tryz.func142, Tryz.ntmps142
  go_wp2_with (at_builtin; refine wpList_append_copy _ rfl _ _ 63 rfl rfl (.slice a n cap) rfl 147 4 n L HC.out ?_)
  intro v' w' hown hb
  obtain ⟨a3, c3', hv3⟩ := owns_form hown
  subst hv3
  have O1 := hideG hown
  have B1 := hideG hb
  clear hown hb
  go_wp2_with fail
  go_ret
  exact ⟨_, rfl, O1.out, B1.out⟩
theorem relL_items {w : World} {b oo : Nat} {c : Cli.Cl} {s : Cli.St} {S : PS} (h : CliAt w b oo c s S) : ItemsAt w S.told (relL c s) := by
  unfold relL
  by_cases e : s.1 = 4
  · rw [if_pos e]; exact h.four e
  · rw [if_neg e, h.nil e]; exact ⟨none, 0, rfl, by simp, Nat.zero_le _, (fun x hx => by cases hx), .inl rfl⟩

/-- A client that was crashed: what it told stays. -/
def goneS (S : PS) : PS := { haltS S with told := S.told }

set_option maxHeartbeats 1000000 in
set_option maxRecDepth 100000 in
theorem crash_calls (b oo : Nat) (S : PS) (w : World) (h : PSAt w b oo S) (hv : ∃ a n c, S.told = .slice a n c) :
    Calls Tryz.prog 133 #[.pointer (some ⟨b, oo, none⟩)] w fun e w' => e = .returned (.tuple #[]) ∧ PSAt w' b oo (goneS S) ∧ ChgC b oo w w' := by
  obtain ⟨a, n, c, hv⟩ := hv
  have c77 := h.c77
  have HH := hideG (halt_calls b oo S w h)
  have HV := hideG hv
  rw [hv] at c77
  have hbl := h.lt
  clear h hv
  go_enter Tryz.func133, Tryz.ntmps133
  go_wp2_with fail
  refine HH.out.mono ?_
  rintro e w1 ⟨rfl, hp, hc⟩
  have d77 := hp.c77
  have f77 := hp.froz 77 (by decide)
  have s1 := hc.size
  have FIN := hideG (show PSAt (w1.setCell ⟨b, oo + 77, none⟩ (.slice a n c)) b oo (goneS S) ∧ ChgC b oo w (w1.setCell ⟨b, oo + 77, none⟩ (.slice a n c)) from ⟨by have := hp.setTold (.slice a n c); rw [← HV.out] at this ⊢; exact this, hc.also (ChgC.cell w1 _ 77 (by decide))⟩)
  clear hp hc c77
  go_wp2_with fail
  go_end0
  exact ⟨rfl, FIN.out⟩


end Go.Proofs.YtchideljndagjabGreat.Co

namespace Go.Proofs.YtchideljndagjabGreat.Pol
open Go.Proofs.YtchideljndagjabGreat.Num
set_option linter.unusedVariables false

/-- One over u, as the program has it. -/
def inv (u : Int) : Int := powP u 2305843009213693949
theorem inv_lo (u : Int) : 0 ≤ inv u := powP_lo _ _
theorem inv_hi (u : Int) : inv u < 2305843009213693951 := powP_hi _ _
end Go.Proofs.YtchideljndagjabGreat.Pol

namespace Go.Proofs.YtchideljndagjabGreat.Lag
open Go.Proofs.YtchideljndagjabGreat.Num Go.Proofs.YtchideljndagjabGreat.Pol
set_option linter.unusedVariables false

/-- The products that make a weight. -/
def ab : List Int → Int → Int
  | [], _ => 1
  | k :: l, x => (if k = x then 1 else k) * ab l x
def be : List Int → Int → Int
  | [], _ => 1
  | k :: l, x => (if k = x then 1 else k - x) * be l x

theorem ab_snoc (l : List Int) (b x : Int) : ab (l ++ [b]) x = ab l x * (if b = x then 1 else b) := by
  induction l with
  | nil => show (if b = x then 1 else b) * 1 = 1 * (if b = x then 1 else b); rw [Int.mul_one, Int.one_mul]
  | cons k l ih => show (if k = x then 1 else k) * ab (l ++ [b]) x = (if k = x then 1 else k) * ab l x * _; rw [ih, Int.mul_assoc]
theorem be_snoc (l : List Int) (b x : Int) : be (l ++ [b]) x = be l x * (if b = x then 1 else b - x) := by
  induction l with
  | nil => show (if b = x then 1 else b - x) * 1 = 1 * (if b = x then 1 else b - x); rw [Int.mul_one, Int.one_mul]
  | cons k l ih => show (if k = x then 1 else k - x) * be (l ++ [b]) x = (if k = x then 1 else k - x) * be l x * _; rw [ih, Int.mul_assoc]

def small (x : Int) : Prop := 1 ≤ x ∧ x ≤ 12

/-- A weight, as the program reckons it. -/
def wt (l : List Int) (x : Int) : Int := mulP (ab l x % 2305843009213693951) (inv (be l x % 2305843009213693951))
theorem wt_lo (l : List Int) (x : Int) : 0 ≤ wt l x := mulP_lo _ _
theorem wt_hi (l : List Int) (x : Int) : wt l x < 2305843009213693951 := mulP_hi _ _

/-- A weighted sum over points. -/
def sm (f : Int → Int) : List (Int × Int) → Int
  | [] => 0
  | p :: l => p.2 * f p.1 + sm f l
theorem sm_append (f : Int → Int) (l m : List (Int × Int)) : sm f (l ++ m) = sm f l + sm f m := by
  induction l with
  | nil => show _ = 0 + _; rw [Int.zero_add]; rfl
  | cons p l ih => show p.2 * f p.1 + sm f (l ++ m) = p.2 * f p.1 + sm f l + sm f m; rw [ih, Int.add_assoc]

def xs (ps : List (Int × Int)) : List Int := ps.map (·.1)
theorem xs_append (l m : List (Int × Int)) : xs (l ++ m) = xs l ++ xs m := by simp [xs]

/-- Points: small, and no X twice. -/
def good (ps : List (Int × Int)) : Prop := (∀ k ∈ xs ps, small k) ∧ (xs ps).Nodup

/-- The value at 0. -/
def lam (ps : List (Int × Int)) : Int := sm (wt (xs ps)) ps

/-- What Join answers. -/
def joinN (ps : List (Int × Int)) : Int := lam ps % 2305843009213693951
theorem joinN_lo (ps : List (Int × Int)) : 0 ≤ joinN ps := by unfold joinN; omega
theorem joinN_hi (ps : List (Int × Int)) : joinN ps < 2305843009213693951 := by unfold joinN; omega

end Go.Proofs.YtchideljndagjabGreat.Lag

namespace Go.Proofs.YtchideljndagjabGreat.Srv
open Frm Cli
set_option linter.unusedVariables false

/-- Of each round and each client the items of the frame that counts. -/
abbrev Row := Nat → Option (List It)
abbrev Tab := Nat → Row
structure Cf where
  N : Int
  T : Int
  M : Int
  D : Int

def mem (S : Row) (u : Nat) : Bool := (S u).isSome
def its (S : Row) (u : Nat) : List It := (S u).getD []
def lstN (p : Nat → Bool) (n : Nat) : List Nat := (List.range n).filter p
def lst (p : Nat → Bool) : List Nat := lstN p 13
theorem lstN_succ (p : Nat → Bool) (n : Nat) : lstN p (n + 1) = lstN p n ++ (if p n = true then [n] else []) := by
  unfold lstN; rw [List.range_succ, List.filter_append]; by_cases h : p n = true <;> simp [h]
theorem lstN_le (p : Nat → Bool) (n : Nat) : (lstN p n).length ≤ n := by
  have := List.length_filter_le p (List.range n); unfold lstN; simpa using this
theorem mem_lst {p : Nat → Bool} {u : Nat} : u ∈ lst p ↔ u < 13 ∧ p u = true := by unfold lst lstN; simp
theorem lst_pair (p : Nat → Bool) : (lst p).Pairwise (· < ·) := List.Pairwise.filter _ List.pairwise_lt_range
theorem lst_ext {p q : Nat → Bool} (h : ∀ u, u < 13 → p u = q u) : lst p = lst q := by
  unfold lst lstN; apply List.filter_congr; intro u hu; exact h u (List.mem_range.1 hu)

def updT (G : Tab) (r u : Nat) (l : List It) : Tab := fun r' u' => if r' = r ∧ u' = u then some l else G r' u'
theorem updT_same (G : Tab) (r u : Nat) (l : List It) : updT G r u l r u = some l := by simp [updT]
theorem updT_row (G : Tab) (r u : Nat) (l : List It) {r' : Nat} (h : r' ≠ r) : updT G r u l r' = G r' := by funext v; simp [updT, h]
theorem updT_other (G : Tab) (r u : Nat) (l : List It) (r' : Nat) {v : Nat} (h : v ≠ u) : updT G r u l r' v = G r' v := by simp [updT, h]

def sameS (a b : Nat → Bool) : Bool := allB 13 fun u => a u == b u
theorem sameS_iff {a b : Nat → Bool} : sameS a b = true ↔ ∀ u, u < 13 → a u = b u := by unfold sameS; rw [allB_iff]; simp
def without (p : Nat → Bool) (u : Nat) : Nat → Bool := fun v => p v && decide (v ≠ u)

def shape (C : Cf) (G : Tab) (r fr : Nat) (l : List It) : Bool :=
  if r = 1 then sameS (fun u => hasI l u) (without (mem (G 0)) fr)
  else if r = 2 then decide ((l.length : Int) = C.M)
  else if r = 3 then (l.all fun x => decide (x.2.1 = 1) == mem (G 2) x.1.toNat) && sameS (fun u => hasI l u) (mem (G 1))
  else true
def fits (C : Cf) (G : Tab) (r : Nat) (f : Fr) : Bool :=
  decide (f.1 = 2 * (r : Int) + 1) && (decide (f.2.1 ≤ C.N) && (!mem (G r) f.2.1.toNat && ((decide (r = 0) || mem (G (r - 1)) f.2.1.toNat) && shape C G r f.2.1.toNat f.2.2)))
def addF (C : Cf) (r : Nat) (G : Tab) (f : Fr) : Tab := if fits C G r f = true then updT G r f.2.1.toNat f.2.2 else G
def now (C : Cf) (r : Nat) (t : Int) : Bool := decide ((r : Int) * C.D ≤ t ∧ t < ((r : Int) + 1) * C.D)
theorem now_iff {C : Cf} {r : Nat} {t : Int} : now C r t = true ↔ (r : Int) * C.D ≤ t ∧ t < ((r : Int) + 1) * C.D := by simp [now]

abbrev Log := List (Int × Fr)
def addE (C : Cf) (r : Nat) (G : Tab) (e : Int × Fr) : Tab := if now C r e.1 = true then addF C r G e.2 else G
def stage (C : Cf) (L : Log) (r : Nat) (G : Tab) : Tab := L.foldl (addE C r) G
def none4 : Tab := fun _ _ => none
def tabN (C : Cf) (L : Log) : Nat → Tab
  | 0 => none4
  | r + 1 => stage C L r (tabN C L r)
def tab (C : Cf) (L : Log) : Tab := tabN C L 4

theorem stage_app (C : Cf) (L : Log) (e : Int × Fr) (r : Nat) (G : Tab) : stage C (L ++ [e]) r G = addE C r (stage C L r G) e := by
  unfold stage; rw [List.foldl_append]; rfl
theorem stage_id (C : Cf) (r : Nat) : ∀ (L : Log) (G : Tab), (∀ e ∈ L, now C r e.1 = false) → stage C L r G = G
  | [], G, _ => rfl
  | e :: L, G, h => by
    show stage C L r (addE C r G e) = G
    have : addE C r G e = G := by unfold addE; rw [h e List.mem_cons_self]; rfl
    rw [this]
    exact stage_id C r L G (fun x hx => h x (List.mem_cons_of_mem _ hx))
theorem now_late {C : Cf} (hD : 0 < C.D) {rd r : Nat} {t x : Int} (hn : now C rd t = true) (hx : x ≤ t) (h : rd < r) : now C r x = false := by
  have h1 := (now_iff.1 hn).2
  have h2 : ((rd : Int) + 1) * C.D ≤ (r : Int) * C.D := Int.mul_le_mul_of_nonneg_right (by omega) (by omega)
  have : ¬ ((r : Int) * C.D ≤ x ∧ x < ((r : Int) + 1) * C.D) := by intro ⟨a, _⟩; omega
  simp only [now, decide_eq_false_iff_not]; exact this
theorem now_early {C : Cf} (hD : 0 < C.D) {rd r : Nat} {t : Int} (hn : now C rd t = true) (h : r < rd) : now C r t = false := by
  have h1 := (now_iff.1 hn).1
  have h2 : ((r : Int) + 1) * C.D ≤ (rd : Int) * C.D := Int.mul_le_mul_of_nonneg_right (by omega) (by omega)
  have : ¬ ((r : Int) * C.D ≤ t ∧ t < ((r : Int) + 1) * C.D) := by intro ⟨_, a⟩; omega
  simp only [now, decide_eq_false_iff_not]; exact this

/-- Rounds that have not begun: nothing of them counts. -/
theorem tabN_late {C : Cf} (hD : 0 < C.D) {rd : Nat} {t : Int} (hn : now C rd t = true) {L : Log} (hL : ∀ e ∈ L, e.1 ≤ t) : ∀ k, tabN C L (rd + 1 + k) = tabN C L (rd + 1)
  | 0 => rfl
  | k + 1 => by
    show stage C L (rd + 1 + k) (tabN C L (rd + 1 + k)) = _
    rw [stage_id C _ L _ (fun e he => now_late hD hn (hL e he) (by omega)), tabN_late hD hn hL k]
theorem tab_now {C : Cf} (hD : 0 < C.D) {rd : Nat} (hr : rd < 4) {t : Int} (hn : now C rd t = true) {L : Log} (hL : ∀ e ∈ L, e.1 ≤ t) : tab C L = tabN C L (rd + 1) := by
  have := tabN_late hD hn hL (3 - rd)
  rwa [show rd + 1 + (3 - rd) = 4 by omega] at this
theorem tabN_early {C : Cf} (hD : 0 < C.D) {rd : Nat} {t : Int} (hn : now C rd t = true) (L : Log) (f : Fr) : ∀ n, n ≤ rd → tabN C (L ++ [(t, f)]) n = tabN C L n
  | 0, _ => rfl
  | n + 1, h => by
    show stage C (L ++ [(t, f)]) n (tabN C (L ++ [(t, f)]) n) = stage C L n (tabN C L n)
    rw [tabN_early hD hn L f n (by omega), stage_app]
    unfold addE; rw [now_early hD hn (by omega)]; rfl
/-- One frame more: what counts by all that was taken is what counted before and, if it fits, that frame. -/
theorem tab_app {C : Cf} (hD : 0 < C.D) {rd : Nat} (hr : rd < 4) {t : Int} (hn : now C rd t = true) {L : Log} (hL : ∀ e ∈ L, e.1 ≤ t) (f : Fr) : tab C (L ++ [(t, f)]) = addF C rd (tab C L) f := by
  have hL' : ∀ e ∈ L ++ [(t, f)], e.1 ≤ t := fun e he => by
    rcases List.mem_append.1 he with h | h
    · exact hL e h
    · rw [List.mem_singleton.1 h]; exact Int.le_refl _
  rw [tab_now hD hr hn hL', tab_now hD hr hn hL]
  show stage C (L ++ [(t, f)]) rd (tabN C (L ++ [(t, f)]) rd) = addF C rd (stage C L rd (tabN C L rd)) f
  rw [tabN_early hD hn L f rd (Nat.le_refl _), stage_app]
  unfold addE; rw [if_pos hn]

def sizeR (S : Row) : Nat := (lst (mem S)).length
def many (G : Tab) : Nat := sizeR (G 0) + sizeR (G 1) + sizeR (G 2) + sizeR (G 3)
theorem lstN_upd (p q : Nat → Bool) (u : Nat) (hp : p u = false) (hq : q u = true) (he : ∀ v, v ≠ u → q v = p v) : ∀ n, (lstN q n).length = (lstN p n).length + (if u < n then 1 else 0)
  | 0 => by simp [lstN]
  | n + 1 => by
    rw [lstN_succ, lstN_succ, List.length_append, List.length_append, lstN_upd p q u hp hq he n]
    by_cases e : n = u
    · subst e; simp [hp, hq]
    · rw [he n e]
      have e1 : (if u < n + 1 then (1 : Nat) else 0) = if u < n then 1 else 0 := by
        by_cases h : u < n
        · rw [if_pos h, if_pos (by omega)]
        · rw [if_neg h, if_neg (by omega)]
      rw [e1]; omega
theorem size_upd (G : Tab) (r u : Nat) (l : List It) (hu : u < 13) (h : mem (G r) u = false) : sizeR (updT G r u l r) = sizeR (G r) + 1 := by
  unfold sizeR lst
  rw [lstN_upd (mem (G r)) (mem (updT G r u l r)) u h (by unfold mem; rw [updT_same]; rfl) (fun v hv => by unfold mem; rw [updT_other G r u l r hv]) 13, if_pos hu]
theorem many_upd (G : Tab) (r u : Nat) (l : List It) (hr : r < 4) (hu : u < 13) (h : mem (G r) u = false) : many (updT G r u l) = many G + 1 := by
  have hs := size_upd G r u l hu h
  have h4 : r = 0 ∨ r = 1 ∨ r = 2 ∨ r = 3 := by omega
  unfold many
  rcases h4 with rfl | rfl | rfl | rfl
  · rw [hs, updT_row G 0 u l (by omega : 1 ≠ 0), updT_row G 0 u l (by omega : 2 ≠ 0), updT_row G 0 u l (by omega : 3 ≠ 0)]; omega
  · rw [hs, updT_row G 1 u l (by omega : 0 ≠ 1), updT_row G 1 u l (by omega : 2 ≠ 1), updT_row G 1 u l (by omega : 3 ≠ 1)]; omega
  · rw [hs, updT_row G 2 u l (by omega : 0 ≠ 2), updT_row G 2 u l (by omega : 1 ≠ 2), updT_row G 2 u l (by omega : 3 ≠ 2)]; omega
  · rw [hs, updT_row G 3 u l (by omega : 0 ≠ 3), updT_row G 3 u l (by omega : 1 ≠ 3), updT_row G 3 u l (by omega : 2 ≠ 3)]; omega
theorem fits_new {C : Cf} {G : Tab} {r : Nat} {f : Fr} (h : fits C G r f = true) : f.1 = 2 * (r : Int) + 1 ∧ f.2.1 ≤ C.N ∧ mem (G r) f.2.1.toNat = false ∧ (r = 0 ∨ mem (G (r - 1)) f.2.1.toNat = true) ∧ shape C G r f.2.1.toNat f.2.2 = true := by
  unfold fits at h
  simp only [Bool.and_eq_true, Bool.or_eq_true, decide_eq_true_iff, Bool.not_eq_true'] at h
  exact ⟨h.1, h.2.1, h.2.2.1, h.2.2.2.1, h.2.2.2.2⟩
/-- More count than before just where the frame counts. -/
theorem many_more {C : Cf} {G : Tab} {r : Nat} (hr : r < 4) {f : Fr} (hf : f.2.1 ≤ 12) : decide (many G < many (addF C r G f)) = fits C G r f := by
  unfold addF
  by_cases h : fits C G r f = true
  · rw [if_pos h, h, many_upd G r _ _ hr (by omega) (fits_new h).2.2.1]; exact decide_eq_true (by omega)
  · rw [if_neg h, decide_eq_false (by omega)]; exact (Bool.eq_false_iff.2 h).symm

theorem all_cl {l : List It} (h : riseB l = true) : ∀ x ∈ l, Num.clB x.1 = true := fun x hx => Num.clB_yes ((rise_pair h).2 x hx).1 ((rise_pair h).2 x hx).2
def haveIds (l : List It) (p : Nat → Bool) : Bool := (l.all fun x => Num.clB x.1 && p x.1.toNat) && decide (l.length = (lst p).length)
theorem has_cast {l : List It} (h : riseB l = true) (x : It) (hx : x ∈ l) : x.1.toNat < 13 ∧ hasI l (x.1.toNat : Nat) = true := by
  have := (rise_pair h).2 x hx
  refine ⟨by omega, hasI_iff.2 ⟨x, hx, ?_⟩⟩
  omega
theorem haveIds_same {l : List It} (h : riseB l = true) (p : Nat → Bool) : haveIds l p = sameS (fun u => hasI l u) p := by
  have hlen : l.length = (lst fun u : Nat => hasI l u).length := by
    have := congrArg List.length (ids_range h)
    simpa [lst, lstN] using this
  rw [Bool.eq_iff_iff, sameS_iff]
  unfold haveIds
  rw [Bool.and_eq_true, decide_eq_true_iff, List.all_eq_true]
  constructor
  · intro ⟨h1, h2⟩
    have hsub : (lst fun u : Nat => hasI l u) = (lst p).filter fun u : Nat => hasI l u := by
      unfold lst lstN
      rw [List.filter_filter]
      apply List.filter_congr
      intro u hu
      by_cases q : hasI l u = true
      · obtain ⟨x, hx, e⟩ := hasI_iff.1 q
        have := h1 x hx
        rw [Bool.and_eq_true] at this
        rw [q, Bool.true_and]
        have e' : x.1.toNat = u := by omega
        rw [← e']; exact this.2.symm
      · rw [Bool.eq_false_iff.2 q]; rfl
    have hfe : ((lst p).filter fun u : Nat => hasI l u) = lst p := List.Sublist.eq_of_length List.filter_sublist (by rw [← hsub, ← hlen]; exact h2)
    intro u hu
    by_cases q : p u = true
    · rw [q]
      have hm : u ∈ ((lst p).filter fun u : Nat => hasI l u) := by rw [hfe]; exact mem_lst.2 ⟨hu, q⟩
      exact (List.mem_filter.1 hm).2
    · rw [Bool.eq_false_iff.2 q, hasI_off]
      intro x hx e
      have := h1 x hx
      rw [Bool.and_eq_true] at this
      have e' : x.1.toNat = u := by omega
      rw [e'] at this
      exact q this.2
  · intro hs
    refine ⟨fun x hx => ?_, ?_⟩
    · obtain ⟨h1, h2⟩ := has_cast h x hx
      rw [all_cl h x hx, Bool.true_and, ← hs _ h1]; exact h2
    · rw [hlen, lst_ext hs]
def tellOf (l : List It) (p : Nat → Bool) : Bool := l.all fun x => Num.clB x.1 && (p x.1.toNat == decide (x.2.1 = 1))
theorem tellOf_same {l : List It} (h : riseB l = true) (p : Nat → Bool) : tellOf l p = l.all fun x => decide (x.2.1 = 1) == p x.1.toNat := by
  unfold tellOf
  rw [Bool.eq_iff_iff, List.all_eq_true, List.all_eq_true]
  constructor
  · intro a x hx
    have := a x hx
    rw [all_cl h x hx, Bool.true_and] at this
    rw [← this]; cases decide (x.2.1 = 1) <;> cases p x.1.toNat <;> rfl
  · intro a x hx
    have := a x hx
    rw [all_cl h x hx, Bool.true_and, ← this]; cases decide (x.2.1 = 1) <;> cases p x.1.toNat <;> rfl

end Go.Proofs.YtchideljndagjabGreat.Srv

namespace Go.Proofs.YtchideljndagjabGreat.Srv
open Frm Cli
set_option linter.unusedVariables false

theorem in_itemOf {l : List It} {v : Int} : itemOf l v ∈ l ∨ itemOf l v = (0, 0, 0, 0) := by
  by_cases h : hasI l v = true
  · refine .inl ?_
    unfold itemOf
    cases e : l.find? (fun x => decide (x.1 = v)) with
    | none =>
      rw [List.find?_eq_none] at e
      obtain ⟨x, hx, hv⟩ := hasI_iff.1 h
      exact absurd (decide_eq_true hv) (e x hx)
    | some x => exact List.mem_of_find?_eq_some e
  · exact .inr (itemOf_none (Bool.eq_false_iff.2 h))
theorem mem_itemOf {l : List It} {v : Int} (h : hasI l v = true) : itemOf l v ∈ l := by
  rcases in_itemOf (l := l) (v := v) with h' | h'
  · exact h'
  · obtain ⟨x, hx, hv⟩ := hasI_iff.1 h
    unfold itemOf
    cases e : l.find? (fun x => decide (x.1 = v)) with
    | none =>
      rw [List.find?_eq_none] at e
      exact absurd (decide_eq_true hv) (e x hx)
    | some x => exact List.mem_of_find?_eq_some e
theorem okF_mem {k fr : Int} {l : List It} (h : okF k fr l = true) {x : It} (hx : x ∈ l) : okI k x = true := by
  obtain ⟨i, hi, rfl⟩ := List.getElem_of_mem hx
  have := (okF_parts h).2.2.2.2 i hi
  rwa [it_get l i hi] at this

/-- What the rounds hold is sound. -/
structure GoodT (C : Cf) (G : Tab) : Prop where
  ok : ∀ (r u : Nat) (l : List It), G r u = some l → r < 4 ∧ 1 ≤ u ∧ (u : Int) ≤ C.N ∧ u ≤ 12 ∧ okF (2 * (r : Int) + 1) u l = true
  up : ∀ r u : Nat, mem (G (r + 1)) u = true → mem (G r) u = true
  one : ∀ (u : Nat) (l : List It), G 1 u = some l → ∀ v : Nat, v < 13 → hasI l v = (mem (G 0) v && decide (v ≠ u))
  two : ∀ (u : Nat) (l : List It), G 2 u = some l → (l.length : Int) = C.M
  three : ∀ (u : Nat) (l : List It), G 3 u = some l → (∀ x ∈ l, decide (x.2.1 = 1) = mem (G 2) x.1.toNat) ∧ ∀ v : Nat, v < 13 → hasI l v = mem (G 1) v
theorem goodT_none (C : Cf) : GoodT C none4 := by
  constructor <;> intros <;> simp_all [none4, mem]
theorem mem_some {S : Row} {u : Nat} (h : mem S u = true) : ∃ l, S u = some l := Option.isSome_iff_exists.1 h
theorem mem_off {S : Row} {u : Nat} (h : mem S u = false) : S u = none := by unfold mem at h; cases e : S u with | none => rfl | some l => rw [e] at h; cases h
theorem its_some {S : Row} {u : Nat} {l : List It} (h : S u = some l) : its S u = l := by unfold its; rw [h]; rfl
theorem its_none {S : Row} {u : Nat} (h : mem S u = false) : its S u = [] := by unfold its; rw [mem_off h]; rfl
theorem GoodT.mem {C : Cf} {G : Tab} (h : GoodT C G) {r u : Nat} (hm : Srv.mem (G r) u = true) : r < 4 ∧ 1 ≤ u ∧ (u : Int) ≤ C.N ∧ u ≤ 12 ∧ okF (2 * (r : Int) + 1) u (its (G r) u) = true := by
  obtain ⟨l, e⟩ := mem_some hm
  rw [its_some e]; exact h.ok r u l e
theorem GoodT.zero {C : Cf} {G : Tab} (h : GoodT C G) (r : Nat) : Srv.mem (G r) 0 = false := by
  refine Bool.eq_false_iff.2 fun hm => ?_
  have := (h.mem hm).2.1
  omega

theorem GoodT.add {C : Cf} {G : Tab} (h : GoodT C G) {rd : Nat} (hr : rd < 4) (hl : ∀ r, rd < r → G r = fun _ => none) {f : Fr} (hf : okF f.1 f.2.1 f.2.2 = true) (hfit : fits C G rd f = true) : GoodT C (updT G rd f.2.1.toNat f.2.2) := by
  obtain ⟨k1, k2, k3, k4, k5⟩ := fits_new hfit
  have hcl : 1 ≤ f.2.1 ∧ f.2.1 ≤ 12 := by
    have := (okF_parts hf).2.1
    unfold fromB at this
    rw [if_pos (by rw [k1]; omega), Num.clB_iff] at this
    exact this
  have hcast : ((f.2.1.toNat : Nat) : Int) = f.2.1 := by omega
  have hrow : ∀ r, r ≠ rd → updT G rd f.2.1.toNat f.2.2 r = G r := fun r h => updT_row G rd _ _ h
  have hset : ∀ r u l, updT G rd f.2.1.toNat f.2.2 r u = some l → (r = rd ∧ u = f.2.1.toNat ∧ l = f.2.2) ∨ G r u = some l := by
    intro r u l e
    unfold updT at e
    split at e
    · rename_i c; exact .inl ⟨c.1, c.2, (Option.some.inj e).symm⟩
    · exact .inr e
  have hmem : ∀ r u, Srv.mem (updT G rd f.2.1.toNat f.2.2 r) u = true ↔ (r = rd ∧ u = f.2.1.toNat) ∨ Srv.mem (G r) u = true := by
    intro r u
    unfold Srv.mem updT
    by_cases c : r = rd ∧ u = f.2.1.toNat
    · rw [if_pos c]; simp [c]
    · rw [if_neg c]; simp [c]
  constructor
  · intro r u l e
    rcases hset r u l e with ⟨rfl, rfl, rfl⟩ | e
    · refine ⟨hr, by omega, by rw [hcast]; exact k2, by omega, ?_⟩
      rw [hcast, ← k1]; exact hf
    · exact h.ok r u l e
  · intro r u e
    rw [hmem] at e ⊢
    rcases e with ⟨e1, rfl⟩ | e
    · rcases k4 with k4 | k4
      · omega
      · rw [← e1, Nat.add_sub_cancel] at k4; exact .inr k4
    · exact .inr (h.up r u e)
  · intro u l e v hv
    rcases hset 1 u l e with ⟨e1, rfl, rfl⟩ | e
    · have k5' := k5
      unfold shape at k5'
      rw [if_pos e1.symm, sameS_iff] at k5'
      rw [hrow 0 (by omega)]
      exact k5' v hv
    · rw [h.one u l e v hv]
      by_cases c : rd = 0
      · exfalso
        have := hl 1 (by omega)
        rw [this] at e; cases e
      · rw [hrow 0 (by omega)]
  · intro u l e
    rcases hset 2 u l e with ⟨e1, rfl, rfl⟩ | e
    · unfold shape at k5
      rw [if_neg (by omega), if_pos e1.symm, decide_eq_true_iff] at k5
      exact k5
    · exact h.two u l e
  · intro u l e
    rcases hset 3 u l e with ⟨e1, rfl, rfl⟩ | e
    · have k5' := k5
      unfold shape at k5'
      rw [if_neg (by omega), if_neg (by omega), if_pos e1.symm, Bool.and_eq_true, sameS_iff, List.all_eq_true] at k5'
      rw [hrow 2 (by omega), hrow 1 (by omega)]
      exact ⟨fun x hx => eq_of_beq (k5'.1 x hx), k5'.2⟩
    · have c : rd = 3 := by
        apply Decidable.byContradiction
        intro c
        have := hl 3 (by omega)
        rw [this] at e; cases e
      rw [hrow 2 (by omega), hrow 1 (by omega)]
      exact h.three u l e

def helloI (G : Tab) (v : Nat) : It := ((v : Int), (itemOf (its (G 0) v) v).2.1, (itemOf (its (G 0) v) v).2.2.1, 0)
def boxI (G : Tab) (u v : Nat) : It := ((v : Int), (itemOf (its (G 1) v) u).2.1, (itemOf (its (G 1) v) u).2.2.1, (itemOf (its (G 1) v) u).2.2.2)
def askI (v : Nat) : It := ((v : Int), 0, 0, 0)
def keysN (G : Tab) (n : Nat) : List It := (lstN (mem (G 0)) n).map (helloI G)
def boxN (G : Tab) (u n : Nat) : List It := (lstN (without (mem (G 1)) u) n).map (boxI G u)
def askN (G : Tab) (n : Nat) : List It := (lstN (mem (G 2)) n).map askI
def sendsL (G : Tab) (r u : Nat) : List It := if r = 0 then keysN G 13 else if r = 1 then boxN G u 13 else askN G 13
theorem frame_of (k : Int) (hk : k = 2 ∨ k = 4 ∨ k = 6) (p : Nat → Bool) (g : Nat → It) (hg : ∀ v, (g v).1 = (v : Int)) (hp : ∀ v, v < 13 → p v = true → 1 ≤ v ∧ okI k (g v) = true) (hn : k = 4 ∨ lst p ≠ []) : okF k 0 ((lst p).map g) = true := by
  have q1 : ((lst p).map g).Pairwise (fun x y => x.1 < y.1) := by
    rw [List.pairwise_map]
    exact (lst_pair p).imp (fun {a b} h => by rw [hg, hg]; omega)
  have q2 : ∀ x ∈ (lst p).map g, 1 ≤ x.1 ∧ x.1 ≤ 12 := fun x hx => by
    obtain ⟨v, hv, rfl⟩ := List.mem_map.1 hx
    obtain ⟨h1, h2⟩ := mem_lst.1 hv
    have := (hp v h1 h2).1
    rw [hg]; omega
  have a1 := decide_eq_true (pair_len q1 q2)
  have a2 : fromB k 0 = true := by
    unfold fromB
    rw [if_neg (by omega), if_pos hk]; rfl
  have a3 := pair_rise q1 q2
  have a5 : numsB k ((lst p).map g) = true := all_it (p := okI k) (fun x hx => by
    obtain ⟨v, hv, rfl⟩ := List.mem_map.1 hx
    obtain ⟨h1, h2⟩ := mem_lst.1 hv
    exact (hp v h1 h2).2)
  have a4 : idsB k 0 ((lst p).map g) = true := by
    have hl : k ≠ 4 → 1 ≤ ((lst p).map g).length := fun h4 => by
      rw [List.length_map]
      rcases hn with h | h
      · exact absurd h h4
      · exact List.length_pos_iff.2 h
    unfold idsB
    rw [if_neg (by omega)]
    rcases hk with rfl | rfl | rfl
    · rw [if_pos (by omega)]; exact decide_eq_true (hl (by omega))
    · rfl
    · rw [if_pos (by omega)]; exact decide_eq_true (hl (by omega))
  unfold okF
  rw [a1, a2, a3, a4, a5]; rfl

theorem hello_item {C : Cf} {G : Tab} (h : GoodT C G) {v : Nat} (hm : mem (G 0) v = true) : (itemOf (its (G 0) v) v).1 = (v : Int) ∧ keyB (itemOf (its (G 0) v) v).2.1 = true ∧ keyB (itemOf (its (G 0) v) v).2.2.1 = true ∧ (itemOf (its (G 0) v) v).2.2.2 = 0 := by
  obtain ⟨_, _, _, _, hok⟩ := h.mem hm
  have hh : hasI (its (G 0) v) v = true := by
    have h4 := (okF_parts hok).2.2.2.1
    have e : (decide ((its (G 0) v).length = 1) && !noneB (its (G 0) v) v) = true := h4
    rw [Bool.and_eq_true, Bool.not_eq_true'] at e
    obtain ⟨i, hi, hx⟩ := allB_off.1 e.2
    refine hasI_iff.2 ⟨it (its (G 0) v) i, ?_, ?_⟩
    · rw [it_get _ i hi]; exact List.getElem_mem hi
    · simpa using hx
  have hx := mem_itemOf hh
  have hi : (keyB (itemOf (its (G 0) v) v).2.1 && (keyB (itemOf (its (G 0) v) v).2.2.1 && zB (itemOf (its (G 0) v) v).2.2.2)) = true := okF_mem hok hx
  rw [Bool.and_eq_true, Bool.and_eq_true, zB_iff] at hi
  exact ⟨itemOf_has hh, hi.1, hi.2.1, hi.2.2⟩
theorem box_item {C : Cf} {G : Tab} (h : GoodT C G) (v u : Nat) : Num.elB (itemOf (its (G 1) v) u).2.1 = true ∧ Num.elB (itemOf (its (G 1) v) u).2.2.1 = true ∧ Num.elB (itemOf (its (G 1) v) u).2.2.2 = true := by
  rcases in_itemOf (l := its (G 1) v) (v := (u : Int)) with hx | hx
  · have hm : mem (G 1) v = true := by
      cases e : G 1 v with
      | none => unfold its at hx; rw [e] at hx; cases hx
      | some l => unfold mem; rw [e]; rfl
    obtain ⟨_, _, _, _, hok⟩ := h.mem hm
    have hi : (Num.elB (itemOf (its (G 1) v) u).2.1 && (Num.elB (itemOf (its (G 1) v) u).2.2.1 && Num.elB (itemOf (its (G 1) v) u).2.2.2)) = true := okF_mem hok hx
    rw [Bool.and_eq_true, Bool.and_eq_true] at hi
    exact hi
  · rw [hx]; decide

theorem sends_ok {C : Cf} {G : Tab} (h : GoodT C G) (r u : Nat) (hr : r < 3) (hn : 1 ≤ sizeR (G r)) : okF (2 * (r : Int) + 2) 0 (sendsL G r u) = true := by
  have hne : lst (mem (G r)) ≠ [] := by
    intro e; unfold sizeR at hn; rw [e] at hn; simp at hn
  have h3 : r = 0 ∨ r = 1 ∨ r = 2 := by omega
  rcases h3 with rfl | rfl | rfl
  · refine frame_of 2 (by omega) (mem (G 0)) (helloI G) (fun _ => rfl) (fun v hv hp => ⟨(h.mem hp).2.1, ?_⟩) (.inr hne)
    obtain ⟨_, h1, h2, _⟩ := hello_item h hp
    show (keyB (itemOf (its (G 0) v) v).2.1 && (keyB (itemOf (its (G 0) v) v).2.2.1 && zB 0)) = true
    rw [h1, h2]; rfl
  · refine frame_of 4 (by omega) (without (mem (G 1)) u) (boxI G u) (fun _ => rfl) (fun v hv hp => ⟨?_, ?_⟩) (.inl rfl)
    · unfold without at hp; rw [Bool.and_eq_true] at hp; exact (h.mem hp.1).2.1
    · obtain ⟨h1, h2, h3⟩ := box_item h v u
      show (Num.elB (itemOf (its (G 1) v) u).2.1 && (Num.elB (itemOf (its (G 1) v) u).2.2.1 && Num.elB (itemOf (its (G 1) v) u).2.2.2)) = true
      rw [h1, h2, h3]; rfl
  · refine frame_of 6 (by omega) (mem (G 2)) askI (fun _ => rfl) (fun v hv hp => ⟨(h.mem hp).2.1, rfl⟩) (.inr hne)

end Go.Proofs.YtchideljndagjabGreat.Srv

namespace Go.Proofs.YtchideljndagjabGreat.Srv
open Frm Cli
set_option linter.unusedVariables false

def pub (G : Tab) (u : Nat) : Int := (itemOf (its (G 0) u) u).2.2.1
def tellN (G : Tab) (v n : Nat) : List (Int × Int) := (lstN (mem (G 3)) n).map fun w : Nat => ((w : Int), (itemOf (its (G 3) w) v).2.2.1)
def tellPts (G : Tab) (v : Nat) : List (Int × Int) := tellN G v 13
/-- What the shares that were told of v join to. -/
def secret (G : Tab) (v : Nat) : Int := Lag.joinN (tellPts G v)
theorem sum_app (l m : List Int) : (l ++ m).sum = l.sum + m.sum := List.sum_append
theorem sum_cons (a : Int) (l : List Int) : (a :: l).sum = a + l.sum := List.sum_cons
/-- The number i of the masked lists, added up. -/
def mskN (G : Tab) (i n : Nat) : Int := ((List.range n).map fun v => (itemOf (its (G 2) v) ((i : Int) + 1)).2.1).sum
def msk (G : Tab) (i : Nat) : Int := mskN G i 13
/-- The masks that are left: what each was made of, and whether it was added. -/
def masksOf (G : Tab) (v : Nat) : List (Int × Bool) := if mem (G 2) v = true then [(secret G v, true)] else (lst (mem (G 2))).map fun u : Nat => (Num.powP (pub G u) (secret G v), decide (u < v))
def masksN (G : Tab) (n : Nat) : List (Int × Bool) := ((lstN (mem (G 1)) n).map (masksOf G)).flatten
def masksL (G : Tab) : List (Int × Bool) := masksN G 13
def offI (i : Nat) (m : Int × Bool) : Int := if m.2 = true then 4294967296 - Num.strAt m.1 i else Num.strAt m.1 i
def offN (ms : List (Int × Bool)) (i : Nat) : Int := (ms.map (offI i)).sum
theorem offI_bd (i : Nat) (m : Int × Bool) : 0 ≤ offI i m ∧ offI i m ≤ 4294967296 := by
  have := strAt_range m.1 i
  unfold offI; split <;> omega
theorem offN_bd (i : Nat) : ∀ ms : List (Int × Bool), 0 ≤ offN ms i ∧ offN ms i ≤ 4294967296 * ms.length
  | [] => by simp [offN]
  | m :: ms => by
    have h1 := offN_bd i ms
    have h2 := offI_bd i m
    unfold offN at h1 ⊢
    rw [List.map_cons, sum_cons, List.length_cons]
    omega
/-- The program's sum. -/
def totP (G : Tab) (i : Nat) : Int := (msk G i % 4294967296 + offN (masksL G) i) % 4294967296

theorem offN_app (l m : List (Int × Bool)) (i : Nat) : offN (l ++ m) i = offN l i + offN m i := by unfold offN; rw [List.map_append, sum_app]

def sumL (C : Cf) (G : Tab) : List Int := (List.range C.M.toNat).map (totP G)

theorem item_word {C : Cf} {G : Tab} (h : GoodT C G) (v : Nat) (x : Int) : 0 ≤ (itemOf (its (G 2) v) x).2.1 ∧ (itemOf (its (G 2) v) x).2.1 < 4294967296 := by
  rcases in_itemOf (l := its (G 2) v) (v := x) with hx | hx
  · have hm : mem (G 2) v = true := by
      cases e : G 2 v with
      | none => unfold its at hx; rw [e] at hx; cases hx
      | some l => unfold mem; rw [e]; rfl
    obtain ⟨_, _, _, _, hok⟩ := h.mem hm
    have hi : (wdB (itemOf (its (G 2) v) x).2.1 && (zB (itemOf (its (G 2) v) x).2.2.1 && zB (itemOf (its (G 2) v) x).2.2.2)) = true := okF_mem hok hx
    rw [Bool.and_eq_true, wdB_iff] at hi
    exact hi.1
  · rw [hx]; decide
theorem tell_el {C : Cf} {G : Tab} (h : GoodT C G) (w : Nat) (v : Int) : 0 ≤ (itemOf (its (G 3) w) v).2.2.1 ∧ (itemOf (its (G 3) w) v).2.2.1 < 2305843009213693951 := by
  rcases in_itemOf (l := its (G 3) w) (v := v) with hx | hx
  · have hm : mem (G 3) w = true := by
      cases e : G 3 w with
      | none => unfold its at hx; rw [e] at hx; cases hx
      | some l => unfold mem; rw [e]; rfl
    obtain ⟨_, _, _, _, hok⟩ := h.mem hm
    have hi : (tB (itemOf (its (G 3) w) v).2.1 && (Num.elB (itemOf (its (G 3) w) v).2.2.1 && zB (itemOf (its (G 3) w) v).2.2.2)) = true := okF_mem hok hx
    rw [Bool.and_eq_true, Bool.and_eq_true, Num.elB_iff] at hi
    exact hi.2.1
  · rw [hx]; decide
theorem pub_el {C : Cf} {G : Tab} (h : GoodT C G) (u : Nat) : 0 ≤ pub G u ∧ pub G u < 2305843009213693951 := by
  unfold pub
  by_cases hm : mem (G 0) u = true
  · obtain ⟨_, _, h2, _⟩ := hello_item h hm
    rw [keyB_iff] at h2; omega
  · rw [its_none (Bool.eq_false_iff.2 hm), itemOf_none (by rfl)]; exact ⟨by decide, by decide⟩

end Go.Proofs.YtchideljndagjabGreat.Srv

namespace Go.Proofs.YtchideljndagjabGreat.Srv
open Frm Cli
set_option linter.unusedVariables false

/-- The time, the round, what counts; the outcome: State, Round, Set, Sum. -/
structure Sv where
  tm : Int
  rd : Nat
  G : Tab
  out : Int × Int × List Int × List Int

def start : Sv := ⟨0, 0, none4, (0, 0, [], [])⟩
def pend (s : Sv) : Bool := decide (s.out.1 = 0)
theorem pend_iff {s : Sv} : pend s = true ↔ s.out.1 = 0 := by simp [pend]
def counts (C : Cf) (s : Sv) (f : Fr) : Bool := pend s && fits C s.G s.rd f
def takeS (C : Cf) (s : Sv) (f : Fr) : Sv := if counts C s f = true then { s with G := updT s.G s.rd f.2.1.toNat f.2.2 } else s
/-- Is the round over with the next tick? -/
def due (C : Cf) (s : Sv) : Bool := decide (s.tm + 1 = C.D * ((s.rd : Int) + 1))
def few (C : Cf) (s : Sv) : Bool := decide ((sizeR (s.G s.rd) : Int) < C.T)
def setL (G : Tab) : List Int := (lst (mem (G 2))).map fun u : Nat => (u : Int)
def tickS (C : Cf) (s : Sv) : Sv :=
  if pend s = true then
    if due C s = true then
      if few C s = true then { s with tm := s.tm + 1, out := (2, (s.rd : Int), [], []) }
      else if s.rd = 3 then { s with tm := s.tm + 1, out := (1, 0, setL s.G, sumL C s.G) }
      else { s with tm := s.tm + 1, rd := s.rd + 1 }
    else { s with tm := s.tm + 1 }
  else s
/-- What a tick sends: to whom, and the bytes. -/
def tickP (C : Cf) (s : Sv) : List (Int × List Int) :=
  if (pend s && (due C s && (!few C s && decide (s.rd ≠ 3)))) = true then (lst (mem (s.G s.rd))).map fun u : Nat => ((u : Int), encF (2 * (s.rd : Int) + 2) 0 (sendsL s.G s.rd u)) else []

structure GoodC (C : Cf) : Prop where
  n : 1 ≤ C.N ∧ C.N ≤ 12
  t : 1 ≤ C.T ∧ C.T ≤ C.N
  m : 1 ≤ C.M ∧ C.M ≤ 12
  d : 1 ≤ C.D ∧ C.D ≤ 50
theorem goodC_of {N T M D : Int} (h : cfgB N T M D = true) : GoodC ⟨N, T, M, D⟩ := by
  unfold cfgB at h
  simp only [Bool.and_eq_true, decide_eq_true_iff] at h
  exact ⟨h.1, h.2.1, h.2.2.1, h.2.2.2⟩

/-- While the outcome is pending: the round is the time's, nothing counts of later rounds, what counts is sound. -/
structure SOk (C : Cf) (s : Sv) : Prop where
  rd : s.rd < 4
  now : Srv.now C s.rd s.tm = true
  good : GoodT C s.G
  late : ∀ r, s.rd < r → s.G r = fun _ => none
theorem now_bd {C : Cf} (hc : GoodC C) {r : Nat} (hr : r < 4) {t : Int} (h : now C r t = true) : 0 ≤ t ∧ t < 200 := by
  obtain ⟨h1, h2⟩ := now_iff.1 h
  have := hc.d
  have h3 : 0 ≤ (r : Int) * C.D := Int.mul_nonneg (by omega) (by omega)
  have h4 : ((r : Int) + 1) * C.D ≤ 4 * 50 := Int.mul_le_mul (by omega) (by omega) (by omega) (by omega)
  omega
theorem sok_start {C : Cf} (hc : GoodC C) : SOk C start := by
  have := hc.d
  refine ⟨by decide, now_iff.2 ⟨?_, ?_⟩, goodT_none C, fun _ _ => rfl⟩
  · show ((0 : Nat) : Int) * C.D ≤ 0; simp
  · show 0 < (((0 : Nat) : Int) + 1) * C.D; simp; omega

theorem SOk.take {C : Cf} {s : Sv} (h : SOk C s) {f : Fr} (hf : okF f.1 f.2.1 f.2.2 = true) : SOk C (takeS C s f) := by
  unfold takeS
  by_cases c : counts C s f = true
  · rw [if_pos c]
    unfold counts at c
    rw [Bool.and_eq_true] at c
    exact ⟨h.rd, h.now, h.good.add h.rd h.late hf c.2, fun r hr => by
      have hr' : s.rd < r := hr
      show updT _ _ _ _ r = _
      rw [updT_row _ _ _ _ (by omega)]; exact h.late r hr'⟩
  · rw [if_neg c]; exact h
theorem take_tm (C : Cf) (s : Sv) (f : Fr) : (takeS C s f).tm = s.tm := by unfold takeS; split <;> rfl
theorem SOk.tick {C : Cf} (hc : GoodC C) {s : Sv} (h : SOk C s) (hp : (tickS C s).out.1 = 0) : SOk C (tickS C s) := by
  have hd := hc.d
  obtain ⟨h1, h2⟩ := now_iff.1 h.now
  have hr := h.rd
  unfold tickS at hp ⊢
  by_cases p : pend s = true
  · rw [if_pos p] at hp ⊢
    by_cases d : due C s = true
    · rw [if_pos d] at hp ⊢
      by_cases fw : few C s = true
      · rw [if_pos fw] at hp; simp at hp
      · rw [if_neg fw] at hp ⊢
        by_cases r3 : s.rd = 3
        · rw [if_pos r3] at hp; simp at hp
        · rw [if_neg r3]
          have e : s.tm + 1 = C.D * ((s.rd : Int) + 1) := by unfold due at d; simpa using d
          rw [Int.mul_comm] at e
          refine ⟨by show s.rd + 1 < 4; omega, now_iff.2 ⟨?_, ?_⟩, h.good, fun r hr => h.late r (by have : s.rd + 1 < r := hr; omega)⟩
          · show ((s.rd + 1 : Nat) : Int) * C.D ≤ s.tm + 1
            rw [e, Int.natCast_add]; exact Int.le_refl _
          · show s.tm + 1 < (((s.rd + 1 : Nat) : Int) + 1) * C.D
            have h4 : (((s.rd + 1 : Nat) : Int) + 1) * C.D = ((s.rd : Int) + 1) * C.D + C.D := by rw [Int.natCast_add, Int.add_mul ((s.rd : Int) + ((1 : Nat) : Int)), Int.one_mul]; rfl
            rw [h4]; omega
    · rw [if_neg d]
      have e : ¬ s.tm + 1 = ((s.rd : Int) + 1) * C.D := by unfold due at d; rw [Int.mul_comm]; simpa using d
      exact ⟨h.rd, now_iff.2 ⟨by show (s.rd : Int) * C.D ≤ s.tm + 1; omega, by show s.tm + 1 < ((s.rd : Int) + 1) * C.D; omega⟩, h.good, h.late⟩
  · rw [if_neg p]; exact h

structure LOk (C : Cf) (s : Sv) (L : Log) : Prop where
  tab : Srv.tab C L = s.G
  at_ : ∀ e ∈ L, e.1 ≤ s.tm
  ok : ∀ e ∈ L, okF e.2.1 e.2.2.1 e.2.2.2 = true
theorem LOk.take {C : Cf} (hc : GoodC C) {s : Sv} {L : Log} (hs : SOk C s) (hp : pend s = true) (h : LOk C s L) {f : Fr} (hf : okF f.1 f.2.1 f.2.2 = true) : LOk C (takeS C s f) (L ++ [(s.tm, f)]) := by
  have hd := hc.d
  refine ⟨?_, ?_, ?_⟩
  · rw [tab_app (by omega) hs.rd hs.now h.at_ f, h.tab]
    unfold addF takeS counts
    rw [hp, Bool.true_and]
    split <;> rfl
  · intro e he
    rw [take_tm]
    rcases List.mem_append.1 he with g | g
    · exact h.at_ e g
    · rw [List.mem_singleton.1 g]; exact Int.le_refl _
  · intro e he
    rcases List.mem_append.1 he with g | g
    · exact h.ok e g
    · rw [List.mem_singleton.1 g]; exact hf
theorem LOk.more {C : Cf} (hc : GoodC C) {s : Sv} {L : Log} (hs : SOk C s) (hp : pend s = true) (h : LOk C s L) {f : Fr} (hf : okF f.1 f.2.1 f.2.2 = true) : decide (many (Srv.tab C L) < many (Srv.tab C (L ++ [(s.tm, f)]))) = counts C s f := by
  have hd := hc.d
  rw [tab_app (by omega) hs.rd hs.now h.at_ f, h.tab]
  unfold counts
  rw [hp, Bool.true_and]
  exact many_more hs.rd (okF_bounds hf).2.2.2.2.1
theorem tick_G (C : Cf) (s : Sv) : (tickS C s).G = s.G := by unfold tickS; (repeat' split) <;> rfl
theorem tick_tm (C : Cf) (s : Sv) (hp : pend s = true) : (tickS C s).tm = s.tm + 1 := by unfold tickS; rw [if_pos hp]; (repeat' split) <;> rfl
theorem LOk.tick {C : Cf} {s : Sv} {L : Log} (hp : pend s = true) (h : LOk C s L) : LOk C (tickS C s) L := by
  refine ⟨by rw [tick_G]; exact h.tab, fun e he => ?_, h.ok⟩
  rw [tick_tm C s hp]
  have := h.at_ e he
  omega

end Go.Proofs.YtchideljndagjabGreat.Srv
