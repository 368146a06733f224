/- An honest session, plainly, in which all that is sent from and to some clients is delivered in its round. -/
import Derived.Test.YtchideljndagjabGreatPkLiBI
import Derived.Test.YtchideljndagjabGreatPkLiAB
import Derived.Test.YtchideljndagjabGreatPkLiAG
import Derived.Test.YtchideljndagjabGreatPkLiAI
import Derived.Test.YtchideljndagjabGreatPkLiAC
import Derived.Test.YtchideljndagjabGreatPkLiAW
import Derived.Test.YtchideljndagjabGreatPkLiAZ
import Derived.BigQuiet
namespace Go.Proofs.YtchideljndagjabGreat
open Go.RowKit Cli Frm
set_option linter.unusedVariables false

/-- Is a parcel from or to one of those who are in? -/
def ofB (n : Nat) (f : Nat → Bool) (p : Pk) : Bool := decide (1 ≤ p.1 + p.2.1 ∧ p.1 + p.2.1 ≤ (n : Int)) && f (p.1 + p.2.1).toNat
def wgt (n : Nat) (f : Nat → Bool) (p : Pk) : Nat := if ofB n f p = true then (if p.2.1 = 0 then 1 else 2) else 0
def Phi (n : Nat) (f : Nat → Bool) (l : List Pk) : Nat := (l.map (wgt n f)).sum
theorem Phi_app (n : Nat) (f : Nat → Bool) (l m : List Pk) : Phi n f (l ++ m) = Phi n f l + Phi n f m := by unfold Phi; rw [List.map_append, List.sum_append]
theorem Phi_erase (n : Nat) (f : Nat → Bool) : ∀ (l : List Pk) (j : Nat) (p : Pk), l[j]? = some p → Phi n f (l.eraseIdx j) + wgt n f p = Phi n f l
  | [], j, p, h => by simp at h
  | x :: l, 0, p, h => by
    simp at h; subst h
    show Phi n f l + wgt n f x = wgt n f x + Phi n f l
    omega
  | x :: l, j + 1, p, h => by
    have ih := Phi_erase n f l j p (by simpa using h)
    show wgt n f x + Phi n f (l.eraseIdx j) + wgt n f p = wgt n f x + Phi n f l
    omega
theorem Phi_zero {n : Nat} {f : Nat → Bool} {l : List Pk} (h : Phi n f l = 0) : ∀ p ∈ l, ofB n f p = false := by
  intro p hp
  cases q : ofB n f p with
  | false => rfl
  | true =>
    obtain ⟨j, hj, e⟩ := List.getElem_of_mem hp
    have := Phi_erase n f l j p (by rw [List.getElem?_eq_getElem hj, e])
    have hw : 1 ≤ wgt n f p := by unfold wgt; rw [if_pos q]; split <;> omega
    omega
theorem Phi_none {n : Nat} {f : Nat → Bool} : ∀ {l : List Pk}, (∀ p ∈ l, ofB n f p = false) → Phi n f l = 0
  | [], _ => rfl
  | x :: l, h => by
    show wgt n f x + Phi n f l = 0
    have e : wgt n f x = 0 := by unfold wgt; rw [if_neg (by rw [h x List.mem_cons_self]; exact Bool.false_ne_true)]
    rw [e, Phi_none (fun p hp => h p (List.mem_cons_of_mem _ hp))]
theorem Phi_le (n : Nat) (f : Nat → Bool) : ∀ l : List Pk, Phi n f l ≤ 2 * l.length
  | [] => Nat.le_refl _
  | x :: l => by
    show wgt n f x + Phi n f l ≤ 2 * (l.length + 1)
    have := Phi_le n f l
    have : wgt n f x ≤ 2 := by unfold wgt; split <;> (try split) <;> omega
    omega
theorem mem_erase {l : List Pk} {j : Nat} {p x : Pk} (hj : l[j]? = some p) (hx : x ∈ l) (hne : x ≠ p) : x ∈ l.eraseIdx j := by
  obtain ⟨i, hi, e⟩ := List.getElem_of_mem hx
  have hij : i ≠ j := fun q => by
    subst q
    rw [List.getElem?_eq_getElem hi] at hj
    exact hne (e.symm.trans (Option.some.inj hj))
  rw [List.mem_eraseIdx_iff_getElem?]
  exact ⟨i, hij, by rw [List.getElem?_eq_getElem hi, e]⟩

section
variable {C : Srv.Cf} {cl : Nat → Cl} {n : Nat} {s s' : Sn} {ph ph' : Nat → Nat} {f : Nat → Bool} {k : Nat}
/-- A client's way through a round: counted, or on its way. -/
def CH (cl : Nat → Cl) (s : Sn) (ph : Nat → Nat) (k i : Nat) : Prop := Srv.mem (s.q.G k) (i + 1) = true ∨ (k ≤ ph i ∧ pC cl s.q.G i k ∈ s.fl) ∨ (1 ≤ k ∧ ph i = k - 1 ∧ Srv.mem (s.q.G (k - 1)) (i + 1) = true ∧ pS s.q.G i (k - 1) ∈ s.fl)
structure LI (C : Srv.Cf) (cl : Nat → Cl) (n : Nat) (f : Nat → Bool) (k : Nat) (s : Sn) (ph : Nat → Nat) : Prop where
  hi : HI C cl n s ph
  pend : s.q.out.1 = 0
  rd : s.q.rd = k
  live : ∀ i, i < n → f (i + 1) = true → s.gone i = false
  ch : ∀ i, i < n → f (i + 1) = true → CH cl s ph k i
theorem pC_ne {G : Srv.Tab} {i i' r r' : Nat} (h : pC cl G i r = pC cl G i' r') : i = i' ∧ r = r' := by
  have h1 := congrArg (fun p : Pk => p.1) h
  have h2 := congrArg (fun p : Pk => p.2.2.getD 0 0) h
  have h1' : (i : Int) + 1 = (i' : Int) + 1 := h1
  have h2' : 2 * (r : Int) + 1 = 2 * (r' : Int) + 1 := h2
  omega
theorem pS_ne {G : Srv.Tab} {i i' r r' : Nat} (h : pS G i r = pS G i' r') : i = i' ∧ r = r' := by
  have h1 := congrArg (fun p : Pk => p.2.1) h
  have h2 := congrArg (fun p : Pk => p.2.2.getD 0 0) h
  have h1' : (i : Int) + 1 = (i' : Int) + 1 := h1
  have h2' : 2 * (r : Int) + 2 = 2 * (r' : Int) + 2 := h2
  omega
theorem pCS_ne {G : Srv.Tab} {i i' r r' : Nat} : pC cl G i r ≠ pS G i' r' := fun h => by
  have h1 : (i : Int) + 1 = 0 := congrArg (fun p : Pk => p.1) h
  omega
theorem of_pC {G : Srv.Tab} {i r : Nat} (hi : i < n) : ofB n f (pC cl G i r) = f (i + 1) := by
  unfold ofB
  show (decide (1 ≤ (i : Int) + 1 + 0 ∧ (i : Int) + 1 + 0 ≤ (n : Int)) && f ((i : Int) + 1 + 0).toNat) = _
  rw [decide_eq_true (by omega), Bool.true_and, show ((i : Int) + 1 + 0).toNat = i + 1 by omega]
theorem of_pS {G : Srv.Tab} {i r : Nat} (hi : i < n) : ofB n f (pS G i r) = f (i + 1) := by
  unfold ofB
  show (decide (1 ≤ 0 + ((i : Int) + 1) ∧ 0 + ((i : Int) + 1) ≤ (n : Int)) && f (0 + ((i : Int) + 1)).toNat) = _
  rw [decide_eq_true (by omega), Bool.true_and, show (0 + ((i : Int) + 1)).toNat = i + 1 by omega]

/-- A parcel is delivered. -/
theorem LI.deliver (hC : Cast C cl n) (h : LI C cl n f k s ph) {j : Nat} {p : Pk} (hj : s.fl[j]? = some p) :
    ∃ ph', LI C cl n f k (rcv C cl n { s with fl := s.fl.eraseIdx j } p.2.1 p.2.2) ph' ∧ (rcv C cl n { s with fl := s.fl.eraseIdx j } p.2.1 p.2.2).q.tm = s.q.tm ∧ Phi n f (rcv C cl n { s with fl := s.fl.eraseIdx j } p.2.1 p.2.2).fl + (if ofB n f p = true then 1 else 0) ≤ Phi n f s.fl := by
  have hpm := List.mem_of_getElem? hj
  have hphi := Phi_erase n f s.fl j p hj
  have hl := h.hi.less j
  obtain ⟨z1, z2, z3⟩ := rcv_q C cl n { s with fl := s.fl.eraseIdx j } p.2.1 p.2.2
  rcases h.hi.fl p hpm with ⟨i, r, hi, hr, rfl⟩ | ⟨i, r, hi, hr, hm, rfl⟩
  · obtain ⟨a, b, c1, c2, c3, c4, _⟩ := hl.toServer hC hi hr
    have hw : wgt n f (pC cl s.q.G i r) = if f (i + 1) = true then 1 else 0 := by
      unfold wgt; rw [of_pC hi]; split
      · exact if_pos rfl
      · rfl
    refine ⟨ph, ⟨a, by show (rcv C cl n _ 0 _).q.out.1 = 0; rw [show (rcv C cl n { s with fl := s.fl.eraseIdx j } 0 (pC cl s.q.G i r).2.2).q.out = s.q.out from z1]; exact h.pend, Eq.trans z2 h.rd, fun i' hi' f' => ?_, fun i' hi' f' => ?_⟩, z3, ?_⟩
    · show (rcv C cl n _ 0 _).gone i' = false
      rw [show (rcv C cl n { s with fl := s.fl.eraseIdx j } 0 (pC cl s.q.G i r).2.2).gone = s.gone from c1]; exact h.live i' hi' f'
    · have h4 := h.hi.ht.rd4
      have h3 := h.hi.ht.ph3 i' hi'
      have hk := h.rd
      rcases h.ch i' hi' f' with q | ⟨q1, q2⟩ | ⟨q1, q2, q3, q4⟩
      · exact .inl (b.mem _ _ q)
      · by_cases e : pC cl s.q.G i' k = pC cl s.q.G i r
        · obtain ⟨rfl, rfl⟩ := pC_ne e
          refine .inl ?_
          show Srv.mem ((rcv C cl n { s with fl := s.fl.eraseIdx j } 0 (pC cl s.q.G i' k).2.2).q.G k) (i' + 1) = true
          rw [show Srv.mem ((rcv C cl n { s with fl := s.fl.eraseIdx j } 0 (pC cl s.q.G i' k).2.2).q.G k) (i' + 1) = _ from c4 k (i' + 1)]
          rw [decide_eq_true (show ({ s with fl := s.fl.eraseIdx j } : Sn).q.out.1 = 0 from h.pend), decide_eq_true (show k = ({ s with fl := s.fl.eraseIdx j } : Sn).q.rd ∧ k = k ∧ i' + 1 = i' + 1 from ⟨hk.symm, rfl, rfl⟩)]
          simp
        · refine .inr (.inl ⟨q1, ?_⟩)
          have e5 : pC cl (rcv C cl n { s with fl := s.fl.eraseIdx j } (pC cl s.q.G i r).2.1 (pC cl s.q.G i r).2.2).q.G i' k = pC cl s.q.G i' k := pC_row (fun r' h' => b.row r' (by show r' < s.q.rd; omega)) (by omega)
          rw [show (rcv C cl n { s with fl := s.fl.eraseIdx j } (pC cl s.q.G i r).2.1 (pC cl s.q.G i r).2.2).fl = s.fl.eraseIdx j from c3, e5]
          exact mem_erase hj q2 e
      · refine .inr (.inr ⟨q1, q2, b.mem _ _ q3, ?_⟩)
        have e5 : pS (rcv C cl n { s with fl := s.fl.eraseIdx j } (pC cl s.q.G i r).2.1 (pC cl s.q.G i r).2.2).q.G i' (k - 1) = pS s.q.G i' (k - 1) := pS_row (b.row _ (by show k - 1 < s.q.rd; omega)) (by omega)
        rw [show (rcv C cl n { s with fl := s.fl.eraseIdx j } (pC cl s.q.G i r).2.1 (pC cl s.q.G i r).2.2).fl = s.fl.eraseIdx j from c3, e5]
        exact mem_erase hj q4 (fun e => pCS_ne e.symm)
    · rw [show (rcv C cl n { s with fl := s.fl.eraseIdx j } (pC cl s.q.G i r).2.1 (pC cl s.q.G i r).2.2).fl = s.fl.eraseIdx j from c3, of_pC hi]
      rw [hw] at hphi
      omega
  · obtain ⟨ph', a, b, c1, c2, c3, c4, c5, c6⟩ := hl.toClient hC hi hr hm
    have h4 := h.hi.ht.rd4
    have hk := h.rd
    have hw : wgt n f (pS s.q.G i r) = if f (i + 1) = true then 2 else 0 := by
      unfold wgt; rw [of_pS hi]; split
      · exact if_neg (by show ¬ (i : Int) + 1 = 0; omega)
      · rfl
    have eq1 : (rcv C cl n { s with fl := s.fl.eraseIdx j } (pS s.q.G i r).2.1 (pS s.q.G i r).2.2).q = s.q := c1
    have eg : (rcv C cl n { s with fl := s.fl.eraseIdx j } (pS s.q.G i r).2.1 (pS s.q.G i r).2.2).gone = s.gone := c2
    have ef : (rcv C cl n { s with fl := s.fl.eraseIdx j } (pS s.q.G i r).2.1 (pS s.q.G i r).2.2).fl = s.fl.eraseIdx j ++ (if s.gone i = true ∨ ph i ≠ r then [] else [pC cl s.q.G i (r + 1)]) := c5
    refine ⟨ph', ⟨a, by rw [eq1]; exact h.pend, by rw [eq1]; exact hk, fun i' hi' f' => by rw [eg]; exact h.live i' hi' f', fun i' hi' f' => ?_⟩, by rw [eq1], ?_⟩
    · have hmono := b.ph i' hi'
      rcases h.ch i' hi' f' with q | ⟨q1, q2⟩ | ⟨q1, q2, q3, q4⟩
      · exact .inl (by rw [eq1]; exact q)
      · refine .inr (.inl ⟨Nat.le_trans q1 hmono, ?_⟩)
        rw [eq1, ef]
        exact List.mem_append_left _ (mem_erase hj q2 pCS_ne)
      · by_cases e : pS s.q.G i' (k - 1) = pS s.q.G i r
        · obtain ⟨rfl, er⟩ := pS_ne e
          have g0 := h.live i' hi' f'
          have hlt : k ≤ ph' i' := by
            rcases c3 with c3 | c3
            · have c3' : s.gone i' = true := c3
              rw [g0] at c3'; cases c3'
            · omega
          refine .inr (.inl ⟨hlt, ?_⟩)
          rw [eq1, ef, if_neg (by rw [g0]; simp; omega), show r + 1 = k by omega]
          exact List.mem_append_right _ List.mem_cons_self
        · by_cases e2 : ph' i' = k - 1
          · refine .inr (.inr ⟨q1, e2, by rw [eq1]; exact q3, ?_⟩)
            rw [eq1, ef]
            exact List.mem_append_left _ (mem_erase hj q4 e)
          · exfalso
            rw [c6] at e2
            split at e2
            · exact e2 q2
            · rename_i c
              by_cases z : i' = i
              · subst z
                exact e (by rw [show r = k - 1 from Decidable.byContradiction fun x => c (.inr (by show ph i' ≠ r; omega))])
              · rw [updA_other _ _ _ z] at e2; exact e2 q2
    · rw [ef, Phi_app, of_pS hi]
      rw [hw] at hphi
      have hP : Phi n f (if s.gone i = true ∨ ph i ≠ r then [] else [pC cl s.q.G i (r + 1)]) ≤ if f (i + 1) = true then 1 else 0 := by
        split
        · exact Nat.zero_le _
        · show wgt n f (pC cl s.q.G i (r + 1)) + 0 ≤ _
          unfold wgt; rw [of_pC hi]
          by_cases c : f (i + 1) = true
          · rw [if_pos c, if_pos c, if_pos (show (pC cl s.q.G i (r + 1)).2.1 = 0 from rfl)]; exact Nat.le_refl _
          · rw [if_neg c, if_neg c]; exact Nat.le_refl _
      by_cases c : f (i + 1) = true
      · rw [if_pos c] at hphi hP ⊢; omega
      · rw [if_neg c] at hphi hP ⊢; omega
/-- A parcel of the others is lost. -/
theorem LI.drop (h : LI C cl n f k s ph) {j : Nat} {p : Pk} (hj : s.fl[j]? = some p) (ho : ofB n f p = false) : LI C cl n f k { s with fl := s.fl.eraseIdx j } ph ∧ Phi n f (s.fl.eraseIdx j) ≤ Phi n f s.fl := by
  have hphi := Phi_erase n f s.fl j p hj
  refine ⟨⟨h.hi.less j, h.pend, h.rd, h.live, fun i hi fi => ?_⟩, by omega⟩
  rcases h.ch i hi fi with q | ⟨q1, q2⟩ | ⟨q1, q2, q3, q4⟩
  · exact .inl q
  · exact .inr (.inl ⟨q1, mem_erase hj q2 (fun e => by rw [← e, of_pC hi, fi] at ho; cases ho)⟩)
  · exact .inr (.inr ⟨q1, q2, q3, mem_erase hj q4 (fun e => by rw [← e, of_pS hi, fi] at ho; cases ho)⟩)
/-- One of the others crashes. -/
theorem LI.crash (h : LI C cl n f k s ph) (j : Nat) (hf : f (j + 1) = false) : LI C cl n f k (crashN s j) ph := by
  refine ⟨⟨{ h.hi.ok with }, h.hi.flb, h.hi.ht, h.hi.st, h.hi.fl⟩, h.pend, h.rd, fun i hi fi => ?_, h.ch⟩
  show updA s.gone j true i = false
  rw [updA_other _ _ _ (fun e => by rw [e, hf] at fi; cases fi)]
  exact h.live i hi fi
/-- Time goes by within the round. -/
theorem LI.tick (hC : Cast C cl n) (h : LI C cl n f k s ph) (ht : s.q.tm + 1 < C.D * ((k : Int) + 1)) : LI C cl n f k (tickN C s) ph ∧ (tickN C s).q.tm = s.q.tm + 1 ∧ (tickN C s).fl = s.fl := by
  have hpd := Srv.pend_iff.2 h.pend
  have hd : Srv.due C s.q = false := by unfold Srv.due; rw [h.rd]; exact decide_eq_false (by omega)
  have eK : tickK C s.q = [] := tickK_none (by rw [hd]; simp)
  have eS : Srv.tickS C s.q = { s.q with tm := s.q.tm + 1 } := by unfold Srv.tickS; rw [if_pos hpd, if_neg (by rw [hd]; exact Bool.false_ne_true)]
  have efl : (tickN C s).fl = s.fl := by show s.fl ++ tickK C s.q = s.fl; rw [eK, List.append_nil]
  have eq1 : (tickN C s).q = { s.q with tm := s.q.tm + 1 } := eS
  obtain ⟨a, b, _⟩ := h.hi.tick hC
  refine ⟨⟨a, by rw [eq1]; exact h.pend, by rw [eq1]; exact h.rd, h.live, fun i hi fi => ?_⟩, by rw [eq1], efl⟩
  unfold CH
  rw [efl, eq1]
  exact h.ch i hi fi
/-- All that was theirs has been delivered: they are counted. -/
theorem LI.all (h : LI C cl n f k s ph) (h0 : Phi n f s.fl = 0) : ∀ i, i < n → f (i + 1) = true → Srv.mem (s.q.G k) (i + 1) = true := fun i hi fi => by
  have hz := Phi_zero h0
  rcases h.ch i hi fi with q | ⟨_, q⟩ | ⟨_, _, _, q⟩
  · exact q
  · have := hz _ q; rw [of_pC hi, fi] at this; cases this
  · have := hz _ q; rw [of_pS hi, fi] at this; cases this
theorem szN_le {p q : Nat → Bool} : ∀ m, (∀ u, 1 ≤ u → u ≤ m → p u = true → q u = true) → szN p m ≤ szN q m
  | 0, _ => Nat.le_refl _
  | m + 1, h => by
    have ih := szN_le m (fun u h1 h2 => h u h1 (by omega))
    show szN p m + (if p (m + 1) = true then 1 else 0) ≤ szN q m + (if q (m + 1) = true then 1 else 0)
    by_cases c : p (m + 1) = true
    · rw [if_pos c, if_pos (h (m + 1) (by omega) (Nat.le_refl _) c)]; omega
    · rw [if_neg c]; omega
theorem szN_mono (p : Nat → Bool) {m : Nat} : ∀ d, szN p m ≤ szN p (m + d)
  | 0 => Nat.le_refl _
  | d + 1 => by have := szN_mono p (m := m) d; show _ ≤ szN p (m + d) + _; omega
theorem LI.enough (hC : Cast C cl n) (h : LI C cl n f k s ph) (h0 : Phi n f s.fl = 0) (hT : C.T ≤ (szN f n : Int)) : C.T ≤ (Srv.sizeR (s.q.G k) : Int) := by
  have hn := hC.le.2
  have h1 : szN f n ≤ szN (Srv.mem (s.q.G k)) n := szN_le n (fun u h1 h2 h3 => by
    have := h.all h0 (u - 1) (by omega) (by rw [show u - 1 + 1 = u by omega]; exact h3)
    rwa [show u - 1 + 1 = u by omega] at this)
  have h2 := szN_mono (Srv.mem (s.q.G k)) (m := n) (12 - n)
  rw [show n + (12 - n) = 12 by omega] at h2
  have h3 : (Srv.lstN (Srv.mem (s.q.G k)) 13).length = szN (Srv.mem (s.q.G k)) 12 := szN_lst (h.hi.ht.good.zero k) 12
  unfold Srv.sizeR Srv.lst
  omega
/-- The round ends. -/
theorem LI.next (hC : Cast C cl n) (h : LI C cl n f k s ph) (h0 : Phi n f s.fl = 0) (hT : C.T ≤ (szN f n : Int)) (ht : s.q.tm + 1 = C.D * ((k : Int) + 1)) (hk : k < 3) : LI C cl n f (k + 1) (tickN C s) ph ∧ (tickN C s).q.tm = s.q.tm + 1 ∧ Phi n f (tickN C s).fl ≤ 2 * n := by
  have hpd := Srv.pend_iff.2 h.pend
  have hrd := h.rd
  have hbig := h.enough hC h0 hT
  have hall := h.all h0
  have hd : Srv.due C s.q = true := by unfold Srv.due; rw [hrd]; exact decide_eq_true ht
  have hf : Srv.few C s.q = false := by unfold Srv.few; rw [hrd]; exact decide_eq_false (by omega)
  have eS : Srv.tickS C s.q = { s.q with tm := s.q.tm + 1, rd := s.q.rd + 1 } := by
    unfold Srv.tickS; rw [if_pos hpd, if_pos hd, if_neg (by rw [hf]; exact Bool.false_ne_true), if_neg (by omega)]
  have eq1 : (tickN C s).q = { s.q with tm := s.q.tm + 1, rd := s.q.rd + 1 } := eS
  obtain ⟨a, b, _⟩ := h.hi.tick hC
  refine ⟨⟨a, by rw [eq1]; exact h.pend, by rw [eq1]; show s.q.rd + 1 = k + 1; omega, h.live, fun i hi fi => ?_⟩, by rw [eq1], ?_⟩
  · have hm := hall i hi fi
    have h3 := h.hi.ht.ph3 i hi
    have hr := (h.hi.ht.its hm).2.2
    refine .inr (.inr ⟨by omega, by omega, ?_, ?_⟩)
    · rw [eq1]; exact hm
    · rw [eq1]
      show pS s.q.G i k ∈ s.fl ++ tickK C s.q
      refine List.mem_append_right _ ?_
      unfold tickK Srv.tickP
      rw [if_pos (by rw [hpd, hd, hf, decide_eq_true (show s.q.rd ≠ 3 by omega)]; rfl)]
      refine List.mem_map.2 ⟨_, List.mem_map.2 ⟨i + 1, Srv.mem_lst.2 ⟨?_, by rw [hrd]; exact hm⟩, rfl⟩, ?_⟩
      · have := hC.le; omega
      · show (0, ((i + 1 : Nat) : Int), encF (2 * (s.q.rd : Int) + 2) 0 (Srv.sendsL s.q.G s.q.rd (i + 1))) = pS s.q.G i k
        rw [hrd]; rfl
  · show Phi n f (s.fl ++ tickK C s.q) ≤ 2 * n
    rw [Phi_app, h0]
    have h1 := Phi_le n f (tickK C s.q)
    have h2 := (tickK_ok (s := s) hC h.hi.ok.sok).2.1
    have := hC.num
    omega
/-- The last round ends. -/
theorem LI.last (hC : Cast C cl n) (h : LI C cl n f 3 s ph) (h0 : Phi n f s.fl = 0) (hT : C.T ≤ (szN f n : Int)) (ht : s.q.tm + 1 = C.D * ((3 : Int) + 1)) : (tickN C s).q.out = doneO C cl n (Srv.mem (s.q.G 2)) ∧ ∀ i, i < n → f (i + 1) = true → Srv.mem (s.q.G 2) (i + 1) = true := by
  have hpd := Srv.pend_iff.2 h.pend
  have hrd := h.rd
  have hbig := h.enough hC h0 hT
  have hd : Srv.due C s.q = true := by unfold Srv.due; rw [hrd]; exact decide_eq_true ht
  have hf : Srv.few C s.q = false := by unfold Srv.few; rw [hrd]; exact decide_eq_false (by omega)
  have hht := h.hi.ht
  rw [hrd] at hht
  refine ⟨?_, fun i hi fi => hht.down (by omega : 2 ≤ 3) (h.all h0 i hi fi)⟩
  show (Srv.tickS C s.q).out = _
  unfold Srv.tickS
  rw [if_pos hpd, if_pos hd, if_neg (by rw [hf]; exact Bool.false_ne_true), if_pos hrd]
  exact hht.done hC hbig
theorem li_beg (hC : Cast C cl n) (f : Nat → Bool) : LI C cl n f 0 (beg cl n) (fun _ => 0) ∧ Phi n f (beg cl n).fl ≤ 2 * n := by
  refine ⟨⟨hi_beg hC, rfl, rfl, fun _ _ _ => rfl, fun i hi fi => .inr (.inl ⟨Nat.le_refl _, ?_⟩)⟩, ?_⟩
  · exact List.mem_of_getElem? (hellosP_get cl n i hi)
  · have := Phi_le n f (hellosP cl n)
    rw [hellosP_length] at this
    exact this
end

end Go.Proofs.YtchideljndagjabGreat

namespace Go.Proofs.YtchideljndagjabGreat
open Go.ChangeShapes Go.WideShapes Go.ChangeAt Go.RowKit

theorem pick_calls (c n : Int) (w : World) (hc : -9223372036854775808 ≤ c) (hc' : c ≤ 9223372036854775807) (hn : 0 < n) (hn' : n ≤ 9223372036854775807) :
    Calls Tryz.prog 21 #[.int .i64 c, .int .i64 n] w fun e w' => e = .returned (.int .i64 (Num.pickN c n)) ∧ w' = w := by
  by_cases h : c < 0
  · have H : Hid (-(c + 1) % n = Num.pickN c n) := by show _ = Num.pickN c n; unfold Num.pickN; rw [if_pos h]
    go_enter Tryz.func21, Tryz.ntmps21
    go_wp2
    go_ret
    exact ⟨congrArg (fun x => Ending.returned (.int .i64 x)) (by rw [← Int.neg_tmod, Num.tmod_nn _ _ (by omega)]; exact H.out), rfl⟩
  · have H : Hid (c % n = Num.pickN c n) := by show _ = Num.pickN c n; unfold Num.pickN; rw [if_neg h]
    go_enter Tryz.func21, Tryz.ntmps21
    go_wp2
    go_ret
    exact ⟨congrArg (fun x => Ending.returned (.int .i64 x)) H.out, rfl⟩

end Go.Proofs.YtchideljndagjabGreat

namespace Go.Proofs.YtchideljndagjabGreat
open Go.ChangeShapes Go.WideShapes Go.ChangeAt Go.RowKit
set_option linter.unusedVariables false

set_option maxHeartbeats 400000 in
theorem kelements_list (v : Value) (zs : List Int) (w : World) (h : ListAt w v zs) :
    Calls Tryz.prog 129 #[v] w fun e w' => e = .returned (.bool (zs.all Num.elB)) ∧ w' = w := by
  obtain ⟨a, cap, rfl, h2, h3, hc⟩ := list_view h
  have HC := hideG hc
  clear hc h
  generalize hn : zs.length = n at *
  have HN := hideG hn
  clear hn
  go_enter Tryz.func129, Tryz.ntmps129
  go_wp2_with fail
  go_loop [3] (fun i => ∃ k : Nat, k ≤ n ∧ i = .int .i64 k ∧ (zs.take k).all Num.elB = true) (fun i => n - (intOf i).toNat)
  case atStart => exact ⟨0, Nat.zero_le _, rfl, rfl⟩
  case round =>
    obtain ⟨k, hk, rfl, hall⟩ := hrel
    have HA := hideG hall
    clear hall
    by_cases hlt : k < n
    · obtain ⟨b, off, rfl, c0⟩ := HC.out k hlt
      obtain ⟨z, hz⟩ : ∃ z, z = zs.getD k 0 := ⟨_, rfl⟩
      rw [← hz] at c0
      have HZ := hideG hz
      clear hz
      by_cases h1 : z < 0
      · go_wp2_with fail
        go_ret
        exact ⟨congrArg (fun x => Ending.returned (.bool x)) (Num.all_off zs k (by rw [HN.out]; exact hlt) (by rw [← HZ.out]; omega)).symm, rfl⟩
      · by_cases h2 : z < 2305843009213693951
        · go_wp2_with fail
          go_round
          case rel => exact ⟨k + 1, by omega, by go_num, Num.all_on zs k (by rw [HN.out]; exact hlt) HA.out (by rw [← HZ.out]; omega)⟩
          case measure => simp [intOf]; omega
        · go_wp2_with fail
          go_ret
          exact ⟨congrArg (fun x => Ending.returned (.bool x)) (Num.all_off zs k (by rw [HN.out]; exact hlt) (by rw [← HZ.out]; omega)).symm, rfl⟩
    · go_wp2_with fail
      go_ret
      exact ⟨congrArg (fun x => Ending.returned (.bool x)) (Num.all_end zs k (by rw [HN.out]; omega) HA.out).symm, rfl⟩

end Go.Proofs.YtchideljndagjabGreat

namespace Go.Proofs.YtchideljndagjabGreat
open Go.ChangeShapes Go.WideShapes Go.ChangeAt Go.RowKit
set_option linter.unusedVariables false

set_option maxHeartbeats 1000000 in
theorem kwellConfig_calls (N T M D : Int) (w : World) :
    Calls Tryz.prog 62 #[.agg #[.int .i64 N, .int .i64 T, .int .i64 M, .int .i64 D]] w fun e w' => e = .returned (.bool (Cli.cfgB N T M D)) ∧ Below w.heap.size w w' := by
  by_cases c0 : 1 ≤ N
  rotate_left
  · have H := hideG (cfg_no (N := N) (T := T) (M := M) (D := D) (by omega))
    go_enter Tryz.func62, Tryz.ntmps62
    go_wp2_with fail
    go_ret
    exact ⟨ret_bool (by rw [H.out]; try simp; try omega), by go_grown⟩
  by_cases c1 : N ≤ 12
  rotate_left
  · have H := hideG (cfg_no (N := N) (T := T) (M := M) (D := D) (by omega))
    go_enter Tryz.func62, Tryz.ntmps62
    go_wp2_with fail
    go_ret
    exact ⟨ret_bool (by rw [H.out]; try simp; try omega), by go_grown⟩
  by_cases c2 : 1 ≤ T
  rotate_left
  · have H := hideG (cfg_no (N := N) (T := T) (M := M) (D := D) (by omega))
    go_enter Tryz.func62, Tryz.ntmps62
    go_wp2_with fail
    go_ret
    exact ⟨ret_bool (by rw [H.out]; try simp; try omega), by go_grown⟩
  by_cases c3 : T ≤ N
  rotate_left
  · have H := hideG (cfg_no (N := N) (T := T) (M := M) (D := D) (by omega))
    go_enter Tryz.func62, Tryz.ntmps62
    go_wp2_with fail
    go_ret
    exact ⟨ret_bool (by rw [H.out]; try simp; try omega), by go_grown⟩
  by_cases c4 : 1 ≤ M
  rotate_left
  · have H := hideG (cfg_no (N := N) (T := T) (M := M) (D := D) (by omega))
    go_enter Tryz.func62, Tryz.ntmps62
    go_wp2_with fail
    go_ret
    exact ⟨ret_bool (by rw [H.out]; try simp; try omega), by go_grown⟩
  by_cases c5 : M ≤ 12
  rotate_left
  · have H := hideG (cfg_no (N := N) (T := T) (M := M) (D := D) (by omega))
    go_enter Tryz.func62, Tryz.ntmps62
    go_wp2_with fail
    go_ret
    exact ⟨ret_bool (by rw [H.out]; try simp; try omega), by go_grown⟩
  by_cases c6 : 1 ≤ D
  rotate_left
  · have H := hideG (cfg_no (N := N) (T := T) (M := M) (D := D) (by omega))
    go_enter Tryz.func62, Tryz.ntmps62
    go_wp2_with fail
    go_ret
    exact ⟨ret_bool (by rw [H.out]; try simp; try omega), by go_grown⟩
  by_cases c7 : D ≤ 50
  rotate_left
  · have H := hideG (cfg_no (N := N) (T := T) (M := M) (D := D) (by omega))
    go_enter Tryz.func62, Tryz.ntmps62
    go_wp2_with fail
    go_ret
    exact ⟨ret_bool (by rw [H.out]; try simp; try omega), by go_grown⟩
  have H := hideG (cfg_yes (N := N) (T := T) (M := M) (D := D) (by omega))
  go_enter Tryz.func62, Tryz.ntmps62
  go_wp2_with fail
  go_ret
  exact ⟨ret_bool (by rw [H.out]; try simp; try omega), by go_grown⟩

theorem list3 (w : World) (a b c : Int) (ha : inI a) (hb : inI b) (hc : inI c) : ListAt (w.alloc (.cells #[.int .i64 a, .int .i64 b, .int .i64 c] 3)) (.slice (some ⟨w.heap.size, 0, none⟩) 3 3) [a, b, c] := by
  refine ⟨_, _, rfl, by simp, by unfold maxLen; omega, fun z hz => ?_, .inr ⟨w.heap.size, 0, rfl, by simp, fun i hi => ?_⟩⟩
  · simp at hz; rcases hz with rfl | rfl | rfl <;> assumption
  · match i, hi with
    | 0, _ => simp
    | 1, _ => simp
    | 2, _ => simp

set_option maxHeartbeats 2000000 in
set_option maxRecDepth 100000 in
theorem kwellDraw_calls (N T M D : Int) (vi vm vs : Value) (inp sm ss : List Int) (ch mk sd : Int) (w : World) (hi : ListAt w vi inp) (hm : ListAt w vm sm) (hs : ListAt w vs ss) (hT : 1 ≤ T) (hT' : T ≤ 12) (h1 : inI ch) (h2 : inI mk) (h3 : inI sd) :
    Calls Tryz.prog 63 #[.agg #[.int .i64 N, .int .i64 T, .int .i64 M, .int .i64 D], .agg #[vi, .int .i64 ch, .int .i64 mk, .int .i64 sd, vm, vs]] w fun e w' => e = .returned (.bool (Cli.drawB T M inp ch mk sd sm ss)) ∧ Below w.heap.size w w' := by
  have HE1 := hideG (fun (W : World) (hb : Below w.heap.size w W) => kelements_list vm sm W (hm.below hb))
  have HE2 := hideG (fun (W : World) (hb : Below w.heap.size w W) => kelements_list vs ss W (hs.below hb))
  have HE0 := hideG (fun (W : World) => kelements_list _ [ch, mk, sd] _ (list3 W ch mk sd h1 h2 h3))
  obtain ⟨b1, hb1⟩ : ∃ b1, b1 = [ch, mk, sd].all Num.elB := ⟨_, rfl⟩
  obtain ⟨b2, hb2⟩ : ∃ b2, b2 = sm.all Num.elB := ⟨_, rfl⟩
  obtain ⟨b3, hb3⟩ : ∃ b3, b3 = ss.all Num.elB := ⟨_, rfl⟩
  rw [← hb1] at HE0
  rw [← hb2] at HE1
  rw [← hb3] at HE2
  have HBS := hideG (And.intro hb1 (And.intro hb2 hb3))
  clear hb1 hb2 hb3
  obtain ⟨a1, c1, rfl, i2, i3, hcl⟩ := list_view hi
  obtain ⟨a2, c2, rfl, m2, m3, _⟩ := hm
  obtain ⟨a3, c3, rfl, s2, s3, _⟩ := hs
  have HC := hideG hcl
  clear hcl hi
  obtain ⟨W0, hW0⟩ : ∃ W0, W0 = (w.alloc (.cells #[.int .i64 N, .int .i64 T, .int .i64 M, .int .i64 D] 26)).alloc (.cells #[.slice a1 inp.length c1, .int .i64 ch, .int .i64 mk, .int .i64 sd, .slice a2 sm.length c2, .slice a3 ss.length c3] 117) := ⟨_, rfl⟩
  have BB := hideG (show Below w.heap.size w W0 by rw [hW0]; exact ((Below.refl _ _).alloc (Nat.le_refl _) _).alloc (by simp) _)
  have z0 : w.heap.size + 1 < W0.heap.size := by rw [hW0]; simp
  have HX := hideG (show SixAt W0 (w.heap.size + 1) 117 (.slice a1 inp.length c1) (.int .i64 ch) (.int .i64 mk) (.int .i64 sd) (.slice a2 sm.length c2) (.slice a3 ss.length c3) by rw [hW0]; exact heap_alloc2_new w _ _)
  by_cases q1 : (inp.length : Int) = M
  · by_cases q2 : (sm.length : Int) = T - 1
    · by_cases q3 : (ss.length : Int) = T - 1
      · have HR := hideG (draw_rest (ch := ch) (mk := mk) (sd := sd) q1 q2 q3)
        have p1 : ((inp.length : Int) != M) = false := by simpa using q1
        have p2 : ((sm.length : Int) != T - 1) = false := by simpa using q2
        have p3 : ((ss.length : Int) != T - 1) = false := by simpa using q3
        have HG := hideG (fun k (hk : k < inp.length) => (show inp.getD k 0 ∈ inp by rw [List.getD_eq_getElem?_getD, List.getElem?_eq_getElem hk]; exact List.getElem_mem hk))
        have HS := hideG (fun k (hk : k < inp.length) => (show (inp.take (k + 1)).all Frm.wdB = ((inp.take k).all Frm.wdB && Frm.wdB (inp.getD k 0)) by
          rw [List.take_succ_eq_append_getElem hk, List.all_append, List.getD_eq_getElem?_getD, List.getElem?_eq_getElem hk]; simp))
        have HT := hideG (show inp.take inp.length = inp from List.take_length)
        have HFA := hideG (show Cli.wordsB inp = false → Cli.drawB T M inp ch mk sd sm ss = false from fun e => by rw [HR.out, e, Bool.false_and, Bool.and_false])
        have HW0 := hideG hW0
        clear hW0 q1 q2 q3
        generalize inp.length = n1 at *
        generalize sm.length = n2 at *
        generalize ss.length = n3 at *
        go_enter Tryz.func63, Tryz.ntmps63
        go_wp2_with fail
        rw [← HW0.out]
        obtain ⟨⟨x0, x1, x2, x3, x4, x5⟩, xf⟩ := HX.out.cells
        go_loop [5] (fun i => ∃ k : Nat, k ≤ n1 ∧ i = .int .i64 k ∧ (inp.take k).all Frm.wdB = true) (fun i => n1 - (intOf i).toNat)
        case atStart => exact ⟨0, Nat.zero_le _, rfl, rfl⟩
        case round =>
          obtain ⟨k, hk, rfl, hall⟩ := hrel
          have HA := hideG hall
          clear hall
          by_cases hlt : k < n1
          · obtain ⟨b, off, rfl, c0⟩ := HC.out k hlt
            have hbl : b < w.heap.size := cell_in c0
            have HM := hideG (HG.out k hlt)
            have HU := hideG (HS.out k hlt)
            replace c0 := (BB.out.cell (p := ⟨b, off + k, none⟩) hbl).trans c0
            obtain ⟨z, hz⟩ : ∃ z, z = inp.getD k 0 := ⟨_, rfl⟩
            rw [← hz] at c0 HM HU
            clear hz
            by_cases y1 : z < 0
            · have H := hideG (HFA.out (List.all_eq_false.2 ⟨z, HM.out, by rw [show Frm.wdB z = false from decide_eq_false (by omega)]; exact Bool.false_ne_true⟩))
              go_wp2_with fail
              go_ret
              exact ⟨ret_bool H.out.symm, BB.out⟩
            by_cases y2 : z < 4294967296
            · rw [show Frm.wdB z = true from Frm.wdB_iff.2 (by omega), HA.out] at HU
              go_wp2_with fail
              go_round
              case rel => exact ⟨k + 1, by omega, by go_num, HU.out⟩
              case measure => simp [intOf]; omega
            · have H := hideG (HFA.out (List.all_eq_false.2 ⟨z, HM.out, by rw [show Frm.wdB z = false from decide_eq_false (by omega)]; exact Bool.false_ne_true⟩))
              go_wp2_with fail
              go_ret
              exact ⟨ret_bool H.out.symm, BB.out⟩
          · have ek : k = n1 := by omega
            subst ek
            have HWB := hideG (show Cli.wordsB inp = true by have := HA.out; rwa [HT.out] at this)
            have HR2 := hideG (show Cli.drawB T M inp ch mk sd sm ss = (b1 && (b2 && b3)) by rw [HR.out, HWB.out, HBS.out.1, HBS.out.2.1, HBS.out.2.2]; simp [Bool.and_assoc])
            have B1 := hideG (fun (o : Obj) => BB.out.alloc (Nat.le_of_lt (by omega)) o)
            go_wp2_with fail
            refine (HE0.out W0).mono ?_
            rintro e w' ⟨rfl, hw'⟩
            rw [hw']
            clear hw'
            obtain ⟨⟨u0, u1, u2, u3, u4, u5⟩, uf⟩ := (HX.out.below ((Below.refl W0.heap.size W0).alloc (Nat.le_refl _) (.cells #[.int .i64 ch, .int .i64 mk, .int .i64 sd] 3)) z0).cells
            obtain ⟨W1, hW1⟩ : ∃ W1, W1 = W0.alloc (.cells #[.int .i64 ch, .int .i64 mk, .int .i64 sd] 3) := ⟨_, rfl⟩
            have BW1 := hideG (show Below w.heap.size w W1 by rw [hW1]; exact B1.out _)
            rw [← hW1] at u4 u5 ⊢
            clear hW1 u0 u1 u2 u3 uf
            go_wp2_with fail
            refine (HE1.out _ BW1.out).mono ?_
            rintro e w' ⟨rfl, hw'⟩
            rw [hw']
            clear hw'
            go_wp2_with fail
            refine (HE2.out _ BW1.out).mono ?_
            rintro e w' ⟨rfl, hw'⟩
            rw [hw']
            clear hw'
            cases b1 <;> cases b2 <;> cases b3 <;> (go_wp2_with fail; go_ret; exact ⟨ret_bool (by rw [HR2.out]; rfl), BW1.out⟩)
      · have H := hideG (draw_len (M := M) (T := T) (inp := inp) (ch := ch) (mk := mk) (sd := sd) (sm := sm) (ss := ss) (fun h => q3 h.2.2))
        have p1 : ((inp.length : Int) != M) = false := by simpa using q1
        have p2 : ((sm.length : Int) != T - 1) = false := by simpa using q2
        have p3 : ((ss.length : Int) != T - 1) = true := by simpa using q3
        clear q1 q2 q3 hW0
        go_enter Tryz.func63, Tryz.ntmps63
        go_wp2_with fail
        go_ret
        exact ⟨ret_bool H.out.symm, by go_grown⟩
    · have H := hideG (draw_len (M := M) (T := T) (inp := inp) (ch := ch) (mk := mk) (sd := sd) (sm := sm) (ss := ss) (fun h => q2 h.2.1))
      have p1 : ((inp.length : Int) != M) = false := by simpa using q1
      have p2 : ((sm.length : Int) != T - 1) = true := by simpa using q2
      clear q1 q2 hW0
      go_enter Tryz.func63, Tryz.ntmps63
      go_wp2_with fail
      go_ret
      exact ⟨ret_bool H.out.symm, by go_grown⟩
  · have H := hideG (draw_len (M := M) (T := T) (inp := inp) (ch := ch) (mk := mk) (sd := sd) (sm := sm) (ss := ss) (fun h => q1 h.1))
    have p1 : ((inp.length : Int) != M) = true := by simpa using q1
    clear q1 hW0
    go_enter Tryz.func63, Tryz.ntmps63
    go_wp2_with fail
    go_ret
    exact ⟨ret_bool H.out.symm, by go_grown⟩

end Go.Proofs.YtchideljndagjabGreat

namespace Go.Proofs.YtchideljndagjabGreat
open Go.ChangeShapes Go.WideShapes Go.ChangeAt Go.RowKit
set_option linter.unusedVariables false

theorem kgreets_yes (id : Int) (va : Value) (l : List Frm.It) (w : World) (ok : Frm.okF 1 id l = true) (h : BytesAt w va (Frm.encF 1 id l)) :
    Calls Tryz.prog 31 #[va, .int .i64 id] w fun e w' => e = .returned (.bool true) ∧ Below w.heap.size w w' := by
  have HV := hideG (veilDecode va _ w h)
  obtain ⟨x1, x2, x3, x4⟩ := d_some (Frm.dec_enc ok)
  rw [x1, x2, x3, x4] at HV
  obtain ⟨aa, ca, rfl, -⟩ := bytes_view h
  have eii : (id == id) = true := by simp
  clear x1 x2 x3 x4 h ok
  generalize (Frm.encF 1 id l).length = L at *
  go_enter Tryz.func31, Tryz.ntmps31
  go_wp2_with fail
  refine HV.out.mono ?_
  rintro e w1 ⟨vo, rfl, hown, hb⟩
  obtain ⟨p2, q2, hv2⟩ := owns_form hown
  subst hv2
  have HB := hideG hb
  clear hown hb
  go_wp2_with fail
  go_ret
  exact ⟨rfl, HB.out.alloc HB.out.size _⟩

end Go.Proofs.YtchideljndagjabGreat

namespace Go.Proofs.YtchideljndagjabGreat
open Go.ChangeShapes Go.WideShapes Go.ChangeAt Go.RowKit
set_option linter.unusedVariables false

/-- A parcel, read. -/
theorem Packs.viewK {w : World} {B : Nat} {v : Value} {vs : List Value} {ps : List Pk} (h : Packs w B v vs ps) : ∃ a c, v = .slice a ps.length c ∧ ps.length ≤ c ∧ c ≤ 9223372036854775807 ∧ ∀ j p, ps[j]? = some p → ∃ g y, a = some ⟨g, 0, none⟩ ∧ g < w.heap.size ∧ vs[j]? = some y ∧ w.cell? ⟨g, j * 3, none⟩ = some (.int .i64 p.1) ∧ w.cell? ⟨g, j * 3 + 1, none⟩ = some (.int .i64 p.2.1) ∧ w.cell? ⟨g, j * 3 + 2, none⟩ = some y ∧ w.ownsRow B 5 1 y p.2.2.length (bytesV p.2.2) := by
  have h0 := h.row
  rcases h0.2 with ⟨rfl, hn⟩ | ⟨g, cap, cur, rfl, _, hb, hnc, hcm, _⟩
  · refine ⟨none, 0, by rw [hn], by omega, by omega, fun j p hp => ?_⟩
    have := (List.getElem?_eq_some_iff.1 hp).1
    omega
  · refine ⟨_, cap, rfl, hnc, by unfold maxLen at hcm; omega, fun j p hp => ?_⟩
    have hj := (List.getElem?_eq_some_iff.1 hp).1
    have hjv : j < vs.length := by rw [h.len]; exact hj
    obtain ⟨q0, q1, q2⟩ := packV_get ps vs j p _ hp (List.getElem?_eq_getElem hjv)
    exact ⟨g, vs[j], rfl, (h0.lt g rfl).2, List.getElem?_eq_getElem hjv, (h0.cellAt (j * 3) (by omega)).trans q0, (h0.cellAt (j * 3 + 1) (by omega)).trans q1, (h0.cellAt (j * 3 + 2) (by omega)).trans q2, h.each j _ p (List.getElem?_eq_getElem hjv) hp⟩

set_option maxHeartbeats 1000000 in
theorem ksameInts_same (va vb : Value) (zs : List Int) (w : World) (ha : ListAt w va zs) (hb : ListAt w vb zs) :
    Calls Tryz.prog 39 #[va, vb] w fun e w' => e = .returned (.bool true) ∧ ∃ nq, w' = w.drewN nq := by
  obtain ⟨a, ca, rfl, a2, a3, a4, a5⟩ := ha
  obtain ⟨b, cb, rfl, b2, b3, b4, b5⟩ := hb
  unfold maxLen at a3 b3
  have hA : Hid (zs = [] ∨ ∃ g off, a = some ⟨g, off, none⟩ ∧ ∀ i, i < zs.length → w.cell? ⟨g, off + i, none⟩ = some (.int .i64 (zs.getD i 0))) := by
    rcases a5 with h | ⟨g, off, h1, _, h2⟩
    · exact .inl h
    · exact .inr ⟨g, off, h1, h2⟩
  have hB : Hid (zs = [] ∨ ∃ g off, b = some ⟨g, off, none⟩ ∧ ∀ i, i < zs.length → w.cell? ⟨g, off + i, none⟩ = some (.int .i64 (zs.getD i 0))) := by
    rcases b5 with h | ⟨g, off, h1, _, h2⟩
    · exact .inl h
    · exact .inr ⟨g, off, h1, h2⟩
  clear a4 a5 b4 b5
  have el : ((zs.length : Int) != (zs.length : Int)) = false := by simp
  generalize hn : zs.length = n at *
  have HN := hideG hn
  clear hn
  go_enter Tryz.func39, Tryz.ntmps39
  go_wp2_with fail
  go_loopw [5] (fun i wr => ∃ k nq : Nat, k ≤ n ∧ i = .int .i64 k ∧ wr = w.drewN nq) (fun i _ => n - (intOf i).toNat)
  case atStart => exact ⟨0, 0, by omega, rfl, rfl⟩
  case round =>
    obtain ⟨k, nq, hk, rfl, rfl⟩ := hrel
    by_cases hlt : k < n
    · obtain ⟨g1, o1, rfl, q1⟩ : ∃ g off, a = some ⟨g, off, none⟩ ∧ w.cell? ⟨g, off + k, none⟩ = some (.int .i64 (zs.getD k 0)) := by
        rcases hA.out with h | ⟨g, off, h1, h2⟩
        · have := HN.out; rw [h] at this; simp at this; omega
        · exact ⟨g, off, h1, h2 k hlt⟩
      obtain ⟨g2, o2, rfl, q2⟩ : ∃ g off, b = some ⟨g, off, none⟩ ∧ w.cell? ⟨g, off + k, none⟩ = some (.int .i64 (zs.getD k 0)) := by
        rcases hB.out with h | ⟨g, off, h1, h2⟩
        · have := HN.out; rw [h] at this; simp at this; omega
        · exact ⟨g, off, h1, h2 k hlt⟩
      generalize zs.getD k 0 = z at *
      have ez : (z != z) = false := by simp
      go_wp2_with fail
      go_quiet (fail)
      go_wp2_with fail
      go_roundw
      case rel => exact ⟨k + 1, _, by omega, by go_num, rfl⟩
      case measure => simp [intOf]; omega
    · go_wp2_with fail
      go_ret
      exact ⟨rfl, nq, rfl⟩

theorem klist_form {w : World} {v : Value} {zs : List Int} (h : ListAt w v zs) : ∃ a c, v = .slice a zs.length c := by obtain ⟨a, c, e, _⟩ := h; exact ⟨a, c, e⟩

set_option maxHeartbeats 1000000 in
set_option maxRecDepth 100000 in
theorem ksameOutcome_same (st ro : Int) (va vb ua ub : Value) (zs us : List Int) (w : World) (h1 : ListAt w va zs) (h2 : ListAt w vb us) (h3 : ListAt w ua zs) (h4 : ListAt w ub us) :
    Calls Tryz.prog 16 #[.agg #[.int .i64 st, .int .i64 ro, va, vb], .agg #[.int .i64 st, .int .i64 ro, ua, ub]] w fun e w' => e = .returned (.bool true) ∧ Below w.heap.size w w' := by
  have H1 := hideG (fun (W : World) (hb : Below w.heap.size w W) => ksameInts_same va ua zs W (h1.below hb) (h3.below hb))
  have H2 := hideG (fun (W : World) (hb : Below w.heap.size w W) => ksameInts_same vb ub us W (h2.below hb) (h4.below hb))
  obtain ⟨a1, c1, rfl⟩ := klist_form h1
  obtain ⟨a2, c2, rfl⟩ := klist_form h2
  obtain ⟨a3, c3, rfl⟩ := klist_form h3
  obtain ⟨a4, c4, rfl⟩ := klist_form h4
  clear h1 h2 h3 h4
  generalize zs.length = nz at *
  generalize us.length = nu at *
  obtain ⟨W0, hW0⟩ : ∃ W0, W0 = (w.alloc (.cells #[.int .i64 st, .int .i64 ro, .slice a1 nz c1, .slice a2 nu c2] 35)).alloc (.cells #[.int .i64 st, .int .i64 ro, .slice a3 nz c3, .slice a4 nu c4] 35) := ⟨_, rfl⟩
  have B0 := hideG (show Below w.heap.size w W0 by rw [hW0]; exact ((Below.refl _ _).alloc (Nat.le_refl _) _).alloc (by simp) _)
  have z0 : W0.heap.size = w.heap.size + 2 := by rw [hW0]; simp
  have X := hideG (fun (W : World) (hb : Below W0.heap.size W0 W) => (show (W.cell? ⟨w.heap.size, 0, none⟩ = some (.int .i64 st) ∧ W.cell? ⟨w.heap.size, 1, none⟩ = some (.int .i64 ro) ∧ W.cell? ⟨w.heap.size, 2, none⟩ = some (.slice a1 nz c1) ∧ W.cell? ⟨w.heap.size, 3, none⟩ = some (.slice a2 nu c2)) ∧ (W.cell? ⟨w.heap.size + 1, 0, none⟩ = some (.int .i64 st) ∧ W.cell? ⟨w.heap.size + 1, 1, none⟩ = some (.int .i64 ro) ∧ W.cell? ⟨w.heap.size + 1, 2, none⟩ = some (.slice a3 nz c3) ∧ W.cell? ⟨w.heap.size + 1, 3, none⟩ = some (.slice a4 nu c4)) from by
    have k1 : ∀ o, W.cell? ⟨w.heap.size, o, none⟩ = W0.cell? ⟨w.heap.size, o, none⟩ := fun o => hb.cell (p := ⟨w.heap.size, o, none⟩) (by show w.heap.size < _; omega)
    have k2 : ∀ o, W.cell? ⟨w.heap.size + 1, o, none⟩ = W0.cell? ⟨w.heap.size + 1, o, none⟩ := fun o => hb.cell (p := ⟨w.heap.size + 1, o, none⟩) (by show w.heap.size + 1 < _; omega)
    simp only [k1, k2]
    rw [hW0]
    refine ⟨⟨?_, ?_, ?_, ?_⟩, ?_, ?_, ?_, ?_⟩ <;> simp))
  have HW0 := hideG hW0
  clear hW0
  obtain ⟨⟨x0, x1, x2, x3⟩, y0, y1, y2, y3⟩ := X.out W0 (Below.refl _ _)
  have es : (st == st) = true := by simp
  have er : (ro == ro) = true := by simp
  go_enter Tryz.func16, Tryz.ntmps16
  go_upto_region 1 with fail
  rw [← HW0.out]
  go_wp2_with fail
  refine (H1.out W0 B0.out).mono ?_
  rintro e w1 ⟨rfl, n1, hw1⟩
  have hb1 : Below W0.heap.size W0 w1 := by rw [hw1]; exact below_drewN W0 n1
  have B1 := hideG (B0.out.trans (hb1.mono B0.out.size))
  have s1 := hb1.size
  clear x0 x1 x2 x3 y0 y1 y2 y3
  obtain ⟨⟨x0, x1, x2, x3⟩, y0, y1, y2, y3⟩ := X.out w1 hb1
  have HB1 := hideG hb1
  clear hb1 hw1
  go_wp2_with fail
  refine (H2.out w1 B1.out).mono ?_
  rintro e w2 ⟨rfl, n2, hw2⟩
  have hb2 : Below w1.heap.size w1 w2 := by rw [hw2]; exact below_drewN w1 n2
  have B2 := hideG (B1.out.trans (hb2.mono B1.out.size))
  have s2 := hb2.size
  clear x0 x1 x2 x3 y0 y1 y2 y3
  obtain ⟨⟨x0, x1, x2, x3⟩, y0, y1, y2, y3⟩ := X.out w2 (HB1.out.trans (hb2.mono s1))
  clear hb2 hw2
  go_wp2_with fail
  go_ret
  exact ⟨rfl, B2.out⟩

end Go.Proofs.YtchideljndagjabGreat
