/- An honest session, plainly, step by step; what was delivered once and comes again does nothing. -/
import Derived.Test.YtchideljndagjabGreatPkQuBH
import Derived.Test.YtchideljndagjabGreatPkQuBG
import Derived.Test.YtchideljndagjabGreatPkQuAB
import Derived.Test.YtchideljndagjabGreatPkQuAG
import Derived.Test.YtchideljndagjabGreatPkQuAI
import Derived.Test.YtchideljndagjabGreatPkQuAC
namespace Go.Proofs.YtchideljndagjabGreat
open Go.RowKit Cli Frm
set_option linter.unusedVariables false

/-- A parcel of an honest session. -/
def FP (cl : Nat → Cl) (n : Nat) (q : Srv.Sv) (ph : Nat → Nat) (p : Pk) : Prop :=
  (∃ i r, i < n ∧ r ≤ ph i ∧ p = pC cl q.G i r) ∨ ∃ i r, i < n ∧ r + 1 ≤ q.rd ∧ Srv.mem (q.G r) (i + 1) = true ∧ p = pS q.G i r
structure HI (C : Srv.Cf) (cl : Nat → Cl) (n : Nat) (s : Sn) (ph : Nat → Nat) : Prop where
  ok : SnOk C cl n s
  flb : FlB s
  ht : HT C cl n s.q.G s.q.rd ph
  st : ∀ i, i < n → s.cs i = stN s.q.G i (ph i)
  fl : ∀ p ∈ s.fl, FP cl n s.q ph p
/-- How a session goes on. -/
structure Ev (n : Nat) (s s' : Sn) (ph ph' : Nat → Nat) : Prop where
  rd : s.q.rd ≤ s'.q.rd
  row : ∀ r, r < s.q.rd → s'.q.G r = s.q.G r
  mem : ∀ r u, Srv.mem (s.q.G r) u = true → Srv.mem (s'.q.G r) u = true
  ph : ∀ i, i < n → ph i ≤ ph' i
  gone : ∀ i, s.gone i = true → s'.gone i = true
  out : s.q.out.1 ≠ 0 → s'.q.out.1 ≠ 0
theorem Ev.refl (n : Nat) (s : Sn) (ph : Nat → Nat) : Ev n s s ph ph := ⟨Nat.le_refl _, fun _ _ => rfl, fun _ _ h => h, fun _ _ => Nat.le_refl _, fun _ h => h, fun h => h⟩
theorem Ev.fl {n : Nat} {s s' : Sn} {ph ph' : Nat → Nat} (h : Ev n s s' ph ph') (f : List Pk) : Ev n { s with fl := f } s' ph ph' := ⟨h.rd, h.row, h.mem, h.ph, h.gone, h.out⟩
theorem Ev.fl2 {n : Nat} {s s' : Sn} {ph ph' : Nat → Nat} {f : List Pk} (h : Ev n { s with fl := f } s' ph ph') : Ev n s s' ph ph' := ⟨h.rd, h.row, h.mem, h.ph, h.gone, h.out⟩

section
variable {C : Srv.Cf} {cl : Nat → Cl} {n : Nat} {s s' : Sn} {ph ph' : Nat → Nat}
theorem pC_row {G G' : Srv.Tab} {i r : Nat} (h : ∀ r', r' < r → G' r' = G r') (hr : r < 4) : pC cl G' i r = pC cl G i r := by unfold pC; rw [ansL_row cl h hr]
theorem pS_row {G G' : Srv.Tab} {i r : Nat} (h : G' r = G r) (hr : r < 3) : pS G' i r = pS G i r := by unfold pS; rw [sendsL_row hr h]
theorem FP.ev (ht : HT C cl n s.q.G s.q.rd ph) (e : Ev n s s' ph ph') {p : Pk} (h : FP cl n s.q ph p) : FP cl n s'.q ph' p := by
  have h4 := ht.rd4
  rcases h with ⟨i, r, hi, hr, rfl⟩ | ⟨i, r, hi, hr, hm, rfl⟩
  · have h3 := ht.ph3 i hi
    exact .inl ⟨i, r, hi, Nat.le_trans hr (e.ph i hi), (pC_row (fun r' h' => e.row r' (by omega)) (by omega)).symm⟩
  · exact .inr ⟨i, r, hi, Nat.le_trans hr e.rd, e.mem r _ hm, (pS_row (e.row r (by omega)) (by omega)).symm⟩

theorem hi_beg (hC : Cast C cl n) : HI C cl n (beg cl n) (fun _ => 0) := by
  refine ⟨beg_ok hC, beg_flB hC, ⟨Srv.goodT_none C, by show 0 < 4; omega, fun _ _ => rfl, fun r hr => absurd hr (Nat.not_lt_zero _), fun r u l h => (by cases h), fun i _ => ⟨Nat.zero_le _, Nat.zero_le _⟩, fun i _ h => absurd h (by show ¬ 1 ≤ 0; omega)⟩, fun i _ => rfl, fun p hp => ?_⟩
  obtain ⟨i, hi, rfl⟩ := hellosP_mem hp
  exact .inl ⟨i, 0, hi, Nat.le_refl _, rfl⟩

theorem updA_id {α : Type} (f : Nat → α) (i : Nat) : updA f i (f i) = f := by
  funext j
  by_cases e : j = i
  · rw [e, updA_same]
  · rw [updA_other _ _ _ e]
theorem rcv_none (C : Srv.Cf) (cl : Nat → Cl) (n : Nat) (s : Sn) (d : Int) {zs : List Int} (h : decF zs = none) : rcv C cl n s d zs = s := by
  unfold rcv rcvC rcv0
  split
  · split
    · rfl
    · rw [(stepD_none h).1, (stepD_none h).2, updA_id]
      show (⟨s.q, s.cs, s.gone, s.fl ++ []⟩ : Sn) = s
      rw [List.append_nil]
  · show (⟨sstepD C s.q zs, s.cs, s.gone, s.fl⟩ : Sn) = s
    have : sstepD C s.q zs = s.q := by unfold sstepD; rw [h]
    rw [this]

theorem HT.fits (h : HT C cl n s.q.G s.q.rd ph) (hC : Cast C cl n) {i r : Nat} (hi : i < n) (hr : r ≤ ph i) : Srv.fits C s.q.G s.q.rd (2 * (r : Int) + 1, (cl i).id, ansL cl s.q.G i r) = (decide (r = s.q.rd) && !Srv.mem (s.q.G s.q.rd) (i + 1)) := by
  have hid := hC.id i hi
  have hnum := hC.num
  have h3 := h.ph3 i hi
  unfold Srv.fits
  show (decide (2 * (r : Int) + 1 = 2 * (s.q.rd : Int) + 1) && (decide ((cl i).id ≤ C.N) && (!Srv.mem (s.q.G s.q.rd) (cl i).id.toNat && ((decide (s.q.rd = 0) || Srv.mem (s.q.G (s.q.rd - 1)) (cl i).id.toNat) && Srv.shape C s.q.G s.q.rd (cl i).id.toNat (ansL cl s.q.G i r))))) = _
  rw [show (cl i).id.toNat = i + 1 by omega, decide_eq_true (show (cl i).id ≤ C.N by omega), Bool.true_and]
  by_cases e : r = s.q.rd
  · have hs := h.shape hC hi (by omega)
    have hm : (decide (s.q.rd = 0) || Srv.mem (s.q.G (s.q.rd - 1)) (i + 1)) = true := by
      by_cases z : s.q.rd = 0
      · rw [decide_eq_true z]; rfl
      · have := h.phm i hi (by omega)
        rw [show ph i = s.q.rd by omega] at this
        rw [this, Bool.or_true]
    rw [e, decide_eq_true (show 2 * (s.q.rd : Int) + 1 = 2 * (s.q.rd : Int) + 1 from rfl), decide_eq_true (rfl : s.q.rd = s.q.rd), hs, hm]
    simp
  · rw [decide_eq_false (show ¬ 2 * (r : Int) + 1 = 2 * (s.q.rd : Int) + 1 by omega), decide_eq_false e]; rfl
theorem HT.take (h : HT C cl n s.q.G s.q.rd ph) (hC : Cast C cl n) {i : Nat} (hi : i < n) (hr : s.q.rd ≤ ph i) (hm : Srv.mem (s.q.G s.q.rd) (i + 1) = false) : HT C cl n (Srv.updT s.q.G s.q.rd (i + 1) (ansL cl s.q.G i s.q.rd)) s.q.rd ph := by
  have hid := hC.id i hi
  have h4 := h.rd4
  have hrow : ∀ r, r ≠ s.q.rd → Srv.updT s.q.G s.q.rd (i + 1) (ansL cl s.q.G i s.q.rd) r = s.q.G r := fun r hr => Srv.updT_row _ _ _ _ hr
  have hl : ∀ j r, r ≤ s.q.rd → ansL cl (Srv.updT s.q.G s.q.rd (i + 1) (ansL cl s.q.G i s.q.rd)) j r = ansL cl s.q.G j r := fun j r hr => ansL_row cl (fun r' h' => hrow r' (by omega)) (by omega) j
  refine ⟨?_, h4, fun r hr => by rw [hrow r (by omega)]; exact h.late r hr, fun r hr => by rw [hrow r (by omega)]; exact h.big r hr, fun r u l e => ?_, h.ph3, fun j hj hp => ?_⟩
  · have hf := h.fits hC (s := s) hi hr
    rw [decide_eq_true (rfl : s.q.rd = s.q.rd), hm] at hf
    have := h.good.add h4 h.late (f := (2 * (s.q.rd : Int) + 1, (cl i).id, ansL cl s.q.G i s.q.rd)) (ans_okF hC h hi (Nat.le_refl _)) hf
    rw [show ((2 * (s.q.rd : Int) + 1, (cl i).id, ansL cl s.q.G i s.q.rd) : Fr).2.1.toNat = i + 1 by show (cl i).id.toNat = i + 1; omega] at this
    exact this
  · unfold Srv.updT at e
    split at e
    · rename_i c
      obtain ⟨rfl, rfl⟩ := c
      cases e
      exact ⟨i, rfl, hi, (hl i s.q.rd (Nat.le_refl _)).symm, hr⟩
    · obtain ⟨j, e1, e2, e3, e4⟩ := h.tab r u l e
      have := (h.ph3 j e2).2
      exact ⟨j, e1, e2, by rw [hl j r (by omega)]; exact e3, e4⟩
  · rw [hrow _ (by have := (h.ph3 j hj).2; omega)]; exact h.phm j hj hp
/-- A client's frame comes to the server. -/
theorem HI.toServer (hC : Cast C cl n) (h : HI C cl n s ph) {i r : Nat} (hi : i < n) (hr : r ≤ ph i) :
    HI C cl n (rcv C cl n s 0 (pC cl s.q.G i r).2.2) ph ∧ Ev n s (rcv C cl n s 0 (pC cl s.q.G i r).2.2) ph ph ∧ (rcv C cl n s 0 (pC cl s.q.G i r).2.2).gone = s.gone ∧ (rcv C cl n s 0 (pC cl s.q.G i r).2.2).cs = s.cs ∧ (rcv C cl n s 0 (pC cl s.q.G i r).2.2).fl = s.fl ∧
    (∀ r' u, Srv.mem ((rcv C cl n s 0 (pC cl s.q.G i r).2.2).q.G r') u = (Srv.mem (s.q.G r') u || (decide (s.q.out.1 = 0) && (decide (r = s.q.rd ∧ r' = r ∧ u = i + 1))))) ∧ ((Srv.mem (s.q.G r) (i + 1) = true ∨ r ≠ s.q.rd ∨ s.q.out.1 ≠ 0) → rcv C cl n s 0 (pC cl s.q.G i r).2.2 = s) := by
  have h3 := h.ht.ph3 i hi
  have hid := hC.id i hi
  have hdec : decF (pC cl s.q.G i r).2.2 = some (2 * (r : Int) + 1, (cl i).id, ansL cl s.q.G i r) := dec_enc (ans_okF hC h.ht hi (by omega))
  have e0 : rcv C cl n s 0 (pC cl s.q.G i r).2.2 = { s with q := Srv.takeS C s.q (2 * (r : Int) + 1, (cl i).id, ansL cl s.q.G i r) } := by
    unfold rcv rcv0 sstepD
    rw [if_neg (by omega), hdec]
  have hisB : isB (pC cl s.q.G i r).2.2 := encF_isB (ans_okF hC h.ht hi (by omega))
  have hok := h.ok.rcv 0 hisB
  have hflb := h.flb.rcv h.ok 0 hisB
  have hfit := h.ht.fits hC (s := s) hi hr
  have ecnt : Srv.counts C s.q (2 * (r : Int) + 1, (cl i).id, ansL cl s.q.G i r) = (decide (s.q.out.1 = 0) && (decide (r = s.q.rd) && !Srv.mem (s.q.G s.q.rd) (i + 1))) := by unfold Srv.counts Srv.pend; rw [hfit]
  by_cases c : (decide (s.q.out.1 = 0) && (decide (r = s.q.rd) && !Srv.mem (s.q.G s.q.rd) (i + 1))) = true
  · have c' := c
    rw [Bool.and_eq_true, Bool.and_eq_true, Bool.not_eq_true', decide_eq_true_iff, decide_eq_true_iff] at c'
    obtain ⟨c1, c2, c3⟩ := c'
    subst c2
    have e1 : Srv.takeS C s.q (2 * (s.q.rd : Int) + 1, (cl i).id, ansL cl s.q.G i s.q.rd) = { s.q with G := Srv.updT s.q.G s.q.rd (i + 1) (ansL cl s.q.G i s.q.rd) } := by
      unfold Srv.takeS; rw [ecnt, if_pos c]
      show ({ s.q with G := Srv.updT s.q.G s.q.rd (cl i).id.toNat (ansL cl s.q.G i s.q.rd) } : Srv.Sv) = _
      rw [show (cl i).id.toNat = i + 1 by omega]
    rw [e0, e1] at hok hflb ⊢
    have hrow : ∀ r', r' < s.q.rd → Srv.updT s.q.G s.q.rd (i + 1) (ansL cl s.q.G i s.q.rd) r' = s.q.G r' := fun r' h' => Srv.updT_row _ _ _ _ (by omega)
    have hmem : ∀ r' u, Srv.mem (Srv.updT s.q.G s.q.rd (i + 1) (ansL cl s.q.G i s.q.rd) r') u = (Srv.mem (s.q.G r') u || (decide (s.q.out.1 = 0) && (decide (s.q.rd = s.q.rd ∧ r' = s.q.rd ∧ u = i + 1)))) := fun r' u => by
      rw [decide_eq_true c1, Bool.true_and]
      by_cases q : r' = s.q.rd ∧ u = i + 1
      · rw [decide_eq_true ⟨rfl, q⟩, Bool.or_true, q.1, q.2]; unfold Srv.mem; rw [Srv.updT_same]; rfl
      · rw [decide_eq_false (fun k => q k.2), Bool.or_false]; unfold Srv.mem Srv.updT; rw [if_neg q]
    have ev : Ev n s { s with q := { s.q with G := Srv.updT s.q.G s.q.rd (i + 1) (ansL cl s.q.G i s.q.rd) } } ph ph := ⟨Nat.le_refl _, hrow, fun r' u e => by show Srv.mem (Srv.updT _ _ _ _ r') u = true; rw [hmem, e]; rfl, fun _ _ => Nat.le_refl _, fun _ e => e, fun e => e⟩
    refine ⟨⟨hok, hflb, h.ht.take hC hi hr c3, fun j hj => ?_, fun p hp => (h.fl p hp).ev h.ht ev⟩, ev, rfl, rfl, rfl, hmem, fun q => ?_⟩
    · show s.cs j = stN (Srv.updT s.q.G s.q.rd (i + 1) (ansL cl s.q.G i s.q.rd)) j (ph j)
      rw [h.st j hj]
      exact stN_row (fun r' h' => (hrow r' (by have := (h.ht.ph3 j hj).2; omega)).symm) j
    · exfalso
      rcases q with q | q | q
      · rw [c3] at q; cases q
      · exact q rfl
      · exact q c1
  · have e1 : Srv.takeS C s.q (2 * (r : Int) + 1, (cl i).id, ansL cl s.q.G i r) = s.q := by unfold Srv.takeS; rw [ecnt, if_neg c]
    have e2 : rcv C cl n s 0 (pC cl s.q.G i r).2.2 = s := by rw [e0, e1]
    rw [e2]
    refine ⟨h, Ev.refl n s ph, rfl, rfl, rfl, fun r' u => ?_, fun _ => rfl⟩
    by_cases q : s.q.out.1 = 0 ∧ r = s.q.rd ∧ r' = r ∧ u = i + 1
    · obtain ⟨q1, q2, q3, q4⟩ := q
      have : Srv.mem (s.q.G s.q.rd) (i + 1) = true := by
        cases k : Srv.mem (s.q.G s.q.rd) (i + 1) with
        | true => rfl
        | false => rw [k, decide_eq_true q1, decide_eq_true q2] at c; exact absurd rfl c
      rw [q3, q4, q2, this]; rfl
    · have : (decide (s.q.out.1 = 0) && decide (r = s.q.rd ∧ r' = r ∧ u = i + 1)) = false := by
        rw [Bool.and_eq_false_iff, decide_eq_false_iff_not, decide_eq_false_iff_not]
        by_cases o : s.q.out.1 = 0
        · exact .inr (fun k => q ⟨o, k⟩)
        · exact .inl o
      rw [this, Bool.or_false]

theorem HT.client (h : HT C cl n s.q.G s.q.rd ph) (hC : Cast C cl n) {i r : Nat} (hi : i < n) (hr : r + 1 ≤ s.q.rd) (hm : Srv.mem (s.q.G r) (i + 1) = true) :
    (ph i = r → stepD (cl i) (stN s.q.G i (ph i)) (pS s.q.G i r).2.2 = stN s.q.G i (r + 1) ∧ ansD (cl i) (stN s.q.G i (ph i)) (pS s.q.G i r).2.2 = some (2 * ((r + 1 : Nat) : Int) + 1, (cl i).id, ansL cl s.q.G i (r + 1))) ∧
    (ph i ≠ r → stepD (cl i) (stN s.q.G i (ph i)) (pS s.q.G i r).2.2 = stN s.q.G i (ph i) ∧ ansD (cl i) (stN s.q.G i (ph i)) (pS s.q.G i r).2.2 = none) := by
  have h4 := h.rd4
  have hp := (h.its hm).2.2
  have h3 := h.ph3 i hi
  have hdec : decF (pS s.q.G i r).2.2 = some (2 * (r : Int) + 2, 0, Srv.sendsL s.q.G r (i + 1)) := dec_enc (h.sok hC (by omega) (i + 1))
  have hph := stN_ph s.q.G i h3.1
  constructor
  · intro e
    have q : r = 0 ∨ r = 1 ∨ r = 2 := by omega
    rw [e] at hph ⊢
    rcases q with rfl | rfl | rfl
    · obtain ⟨a1, a2⟩ := stepD_keys (c := cl i) hdec (by rw [hph]; rfl)
      rw [a1, a2, if_pos (h.keysAgree hC (by omega) hm), if_pos (h.keysAgree hC (by omega) hm)]
      exact ⟨rfl, rfl⟩
    · obtain ⟨a1, a2⟩ := stepD_box (c := cl i) hdec (by rw [hph]; rfl)
      have ag := h.boxAgree hC (by omega) hm
      have e1 : (stN s.q.G i 1).2.1 = Srv.sendsL s.q.G 0 (i + 1) := rfl
      rw [a1, a2, e1, if_pos ag, if_pos ag]
      exact ⟨rfl, rfl⟩
    · obtain ⟨a1, a2⟩ := stepD_ask (c := cl i) hdec (by rw [hph]; rfl)
      have ag := h.askAgree hC (by omega) hm
      have e1 : (stN s.q.G i 2).2.2.1 = Srv.sendsL s.q.G 1 (i + 1) := rfl
      have e2 : (stN s.q.G i 2).2.1 = Srv.sendsL s.q.G 0 (i + 1) := rfl
      rw [a1, a2, e1, e2, if_pos ag, if_pos ag]
      exact ⟨rfl, rfl⟩
  · intro e
    exact stepD_rest hdec (by rw [hph]; omega) (by rw [hph]; omega) (by rw [hph]; omega)
theorem HI.toClient (hC : Cast C cl n) (h : HI C cl n s ph) {i r : Nat} (hi : i < n) (hr : r + 1 ≤ s.q.rd) (hm : Srv.mem (s.q.G r) (i + 1) = true) :
    ∃ ph', HI C cl n (rcv C cl n s ((i : Int) + 1) (pS s.q.G i r).2.2) ph' ∧ Ev n s (rcv C cl n s ((i : Int) + 1) (pS s.q.G i r).2.2) ph ph' ∧ (rcv C cl n s ((i : Int) + 1) (pS s.q.G i r).2.2).q = s.q ∧ (rcv C cl n s ((i : Int) + 1) (pS s.q.G i r).2.2).gone = s.gone ∧ (s.gone i = true ∨ r < ph' i) ∧
      ((s.gone i = true ∨ ph i ≠ r) → rcv C cl n s ((i : Int) + 1) (pS s.q.G i r).2.2 = s) ∧ (rcv C cl n s ((i : Int) + 1) (pS s.q.G i r).2.2).fl = s.fl ++ (if s.gone i = true ∨ ph i ≠ r then [] else [pC cl s.q.G i (r + 1)]) ∧ ph' = (if s.gone i = true ∨ ph i ≠ r then ph else updA ph i (r + 1)) := by
  have hp := (h.ht.its hm).2.2
  have h3 := h.ht.ph3 i hi
  have h4 := h.ht.rd4
  have hisB : isB (pS s.q.G i r).2.2 := encF_isB (h.ht.sok hC (by omega) (i + 1))
  obtain ⟨k1, k2⟩ := h.ht.client hC hi hr hm
  have e0 : rcv C cl n s ((i : Int) + 1) (pS s.q.G i r).2.2 = rcvC cl s i (pS s.q.G i r).2.2 := by
    unfold rcv; rw [if_pos (by omega), show ((i : Int) + 1).toNat - 1 = i by omega]
  have same : (s.gone i = true ∨ ph i ≠ r) → rcv C cl n s ((i : Int) + 1) (pS s.q.G i r).2.2 = s := fun q => by
    rw [e0]; unfold rcvC
    by_cases g : s.gone i = true
    · rw [if_pos g]
    · rw [if_neg g]
      have q' : ph i ≠ r := q.resolve_left g
      rw [h.st i hi, (k2 q').1, (k2 q').2, ← h.st i hi, updA_id]
      show (⟨s.q, s.cs, s.gone, s.fl ++ []⟩ : Sn) = s
      rw [List.append_nil]
  by_cases q : s.gone i = true ∨ ph i ≠ r
  · have e := same q
    rw [e, if_pos q, List.append_nil]
    refine ⟨ph, h, Ev.refl n s ph, rfl, rfl, ?_, fun _ => rfl, rfl, by rw [if_pos q]⟩
    rcases q with q | q
    · exact .inl q
    · exact .inr (by omega)
  · have g : ¬ s.gone i = true := fun k => q (.inl k)
    have er : ph i = r := Decidable.byContradiction fun k => q (.inr k)
    obtain ⟨a1, a2⟩ := k1 er
    rw [← h.st i hi] at a1 a2
    have hok := h.ok.rcv ((i : Int) + 1) hisB
    have hflb := h.flb.rcv h.ok ((i : Int) + 1) hisB
    have e1 : rcv C cl n s ((i : Int) + 1) (pS s.q.G i r).2.2 = { s with cs := updA s.cs i (stN s.q.G i (r + 1)), fl := s.fl ++ [pC cl s.q.G i (r + 1)] } := by
      rw [e0]; unfold rcvC; rw [if_neg g, a1, a2]; rfl
    rw [if_neg q]
    have ev : Ev n s (rcv C cl n s ((i : Int) + 1) (pS s.q.G i r).2.2) ph (updA ph i (r + 1)) := by
      rw [e1]
      refine ⟨Nat.le_refl _, fun _ _ => rfl, fun _ _ k => k, fun j hj => ?_, fun _ k => k, fun k => k⟩
      by_cases c : j = i
      · rw [c, updA_same]; omega
      · rw [updA_other _ _ _ c]; exact Nat.le_refl _
    have ht' : HT C cl n s.q.G s.q.rd (updA ph i (r + 1)) := by
      refine ⟨h.ht.good, h4, h.ht.late, h.ht.big, fun r' u l e => ?_, fun j hj => ?_, fun j hj hj1 => ?_⟩
      · obtain ⟨j, x1, x2, x3, x4⟩ := h.ht.tab r' u l e
        exact ⟨j, x1, x2, x3, Nat.le_trans x4 (ev.ph j x2)⟩
      · by_cases c : j = i
        · rw [c, updA_same]; omega
        · rw [updA_other _ _ _ c]; exact h.ht.ph3 j hj
      · by_cases c : j = i
        · rw [c, updA_same]; exact hm
        · rw [updA_other _ _ _ c] at hj1 ⊢; exact h.ht.phm j hj hj1
    refine ⟨updA ph i (r + 1), ⟨hok, hflb, ?_, fun j hj => ?_, fun p hp => ?_⟩, ev, by rw [e1], by rw [e1], .inr (by rw [updA_same]; omega), same, by rw [e1], by rw [if_neg q]⟩
    · rw [e1]; exact ht'
    · rw [e1]
      show updA s.cs i (stN s.q.G i (r + 1)) j = stN s.q.G j (updA ph i (r + 1) j)
      by_cases c : j = i
      · rw [c, updA_same, updA_same]
      · rw [updA_other _ _ _ c, updA_other _ _ _ c]; exact h.st j hj
    · rw [e1] at hp
      rcases List.mem_append.1 hp with hp | hp
      · exact (h.fl p hp).ev h.ht ev
      · rw [List.mem_singleton.1 hp, e1]
        exact .inl ⟨i, r + 1, hi, by rw [updA_same]; exact Nat.le_refl _, rfl⟩

theorem HI.tick (hC : Cast C cl n) (h : HI C cl n s ph) : HI C cl n (tickN C s) ph ∧ Ev n s (tickN C s) ph ph ∧ ∀ p ∈ tickK C s.q, ∃ i, i < n ∧ Srv.mem (s.q.G s.q.rd) (i + 1) = true ∧ p = pS s.q.G i s.q.rd ∧ (tickN C s).q.rd = s.q.rd + 1 := by
  have hok := h.ok.tick
  have hflb := h.flb.tick h.ok
  have hG : (Srv.tickS C s.q).G = s.q.G := Srv.tick_G C s.q
  have hrd : (Srv.tickS C s.q).rd = s.q.rd ∨ ((Srv.tickS C s.q).rd = s.q.rd + 1 ∧ s.q.rd ≠ 3 ∧ C.T ≤ (Srv.sizeR (s.q.G s.q.rd) : Int)) := by
    unfold Srv.tickS
    split
    · split
      · split
        · exact .inl rfl
        · rename_i hf
          split
          · exact .inl rfl
          · rename_i h3
            exact .inr ⟨rfl, h3, by unfold Srv.few at hf; simpa using hf⟩
      · exact .inl rfl
    · exact .inl rfl
  have h4 := h.ht.rd4
  have hout : s.q.out.1 ≠ 0 → (Srv.tickS C s.q).out.1 ≠ 0 := fun e => by
    unfold Srv.tickS; rw [if_neg (fun k => e (Srv.pend_iff.1 k))]; exact e
  have ev : Ev n s (tickN C s) ph ph := by
    refine ⟨?_, fun r _ => by show (Srv.tickS C s.q).G r = _; rw [hG], fun r u e => by show Srv.mem ((Srv.tickS C s.q).G r) u = true; rw [hG]; exact e, fun _ _ => Nat.le_refl _, fun _ e => e, hout⟩
    show s.q.rd ≤ (Srv.tickS C s.q).rd
    rcases hrd with e | e
    · rw [e]; exact Nat.le_refl _
    · rw [e.1]; exact Nat.le_succ _
  have hnew : ∀ p ∈ tickK C s.q, ∃ i, i < n ∧ Srv.mem (s.q.G s.q.rd) (i + 1) = true ∧ p = pS s.q.G i s.q.rd ∧ (tickN C s).q.rd = s.q.rd + 1 := fun p hp => by
    rcases (tickK_ok (s := s) hC h.ok.sok).2.2 with e | ⟨e1, e2, e3⟩
    · rw [e] at hp; cases hp
    · unfold tickK Srv.tickP at hp
      split at hp
      · obtain ⟨x, hx, rfl⟩ := List.mem_map.1 hp
        obtain ⟨u, hu, rfl⟩ := List.mem_map.1 hx
        have hm := (Srv.mem_lst.1 hu).2
        obtain ⟨i, rfl, hi, _⟩ := h.ht.row hm
        exact ⟨i, hi, hm, rfl, e3⟩
      · cases hp
  refine ⟨⟨hok, hflb, ?_, fun i hi => ?_, fun p hp => ?_⟩, ev, hnew⟩
  · show HT C cl n (Srv.tickS C s.q).G (Srv.tickS C s.q).rd ph
    rw [hG]
    rcases hrd with e | ⟨e, e3, et⟩
    · rw [e]; exact h.ht
    · rw [e]
      refine ⟨h.ht.good, by omega, fun r hr => h.ht.late r (by omega), fun r hr => ?_, h.ht.tab, fun i hi => ?_, h.ht.phm⟩
      · by_cases c : r = s.q.rd
        · rw [c]; exact et
        · exact h.ht.big r (by omega)
      · have := h.ht.ph3 i hi; omega
  · show s.cs i = stN (Srv.tickS C s.q).G i (ph i)
    rw [hG]; exact h.st i hi
  · rcases List.mem_append.1 hp with hp | hp
    · exact (h.fl p hp).ev h.ht ev
    · obtain ⟨i, hi, hm, rfl, e⟩ := hnew p hp
      refine .inr ⟨i, s.q.rd, hi, by rw [e]; exact Nat.le_refl _, ?_, ?_⟩
      · show Srv.mem ((Srv.tickS C s.q).G s.q.rd) (i + 1) = true; rw [hG]; exact hm
      · show _ = pS (Srv.tickS C s.q).G i s.q.rd; rw [hG]

theorem HI.less (h : HI C cl n s ph) (i : Nat) : HI C cl n { s with fl := s.fl.eraseIdx i } ph := ⟨h.ok.less i, h.flb.less i, h.ht, h.st, fun p hp => h.fl p (List.mem_of_mem_eraseIdx hp)⟩
/-- A parcel that may be in flight comes to whom it is for. -/
theorem HI.rcv (hC : Cast C cl n) (h : HI C cl n s ph) {p : Pk} (hp : FP cl n s.q ph p) : ∃ ph', HI C cl n (rcv C cl n s p.2.1 p.2.2) ph' ∧ Ev n s (Go.Proofs.YtchideljndagjabGreat.rcv C cl n s p.2.1 p.2.2) ph ph' := by
  rcases hp with ⟨i, r, hi, hr, rfl⟩ | ⟨i, r, hi, hr, hm, rfl⟩
  · obtain ⟨a, b, _⟩ := h.toServer hC hi hr
    exact ⟨ph, a, b⟩
  · obtain ⟨ph', a, b, _⟩ := h.toClient hC hi hr hm
    exact ⟨ph', a, b⟩
theorem HI.act (hC : Cast C cl n) (h : HI C cl n s ph) {o : Stp} (ho : isB o.s) : ∃ ph', HI C cl n (actN C cl n false s o) ph' ∧ Ev n s (actN C cl n false s o) ph ph' := by
  have nothing : actN C cl n false s o = s → ∃ ph', HI C cl n (actN C cl n false s o) ph' ∧ Ev n s (actN C cl n false s o) ph ph' := fun e => by rw [e]; exact ⟨ph, h, Ev.refl n s ph⟩
  by_cases k1 : o.k = 1
  · by_cases h0 : 0 < s.fl.length
    · obtain ⟨p, hp, hm, _, e⟩ := deliver_some (C := C) (cl := cl) (n := n) k1 h0
      rw [e]
      obtain ⟨ph', a, b⟩ := (h.less (Num.pickN o.n s.fl.length).toNat).rcv hC (h.fl p hm)
      exact ⟨ph', a, b.fl2⟩
    · refine nothing ?_
      unfold actN; rw [if_pos k1, if_pos (by omega)]
  have hok := h.ok.act h.flb ho false
  have hflb := h.flb.act h.ok ho false
  by_cases k2 : o.k = 2
  · unfold actN at hok hflb ⊢
    rw [if_neg k1, if_pos k2] at hok hflb ⊢
    split
    · exact ⟨ph, h, Ev.refl n s ph⟩
    · unfold dropN; split
      · exact ⟨ph, h.less _, ⟨Nat.le_refl _, fun _ _ => rfl, fun _ _ k => k, fun _ _ => Nat.le_refl _, fun _ k => k, fun k => k⟩⟩
      · exact ⟨ph, h, Ev.refl n s ph⟩
  by_cases k3 : o.k = 3
  · unfold actN at hok hflb ⊢
    rw [if_neg k1, if_neg k2, if_pos k3] at hok hflb ⊢
    split
    · exact ⟨ph, h, Ev.refl n s ph⟩
    · rename_i c0
      rw [if_neg c0] at hok hflb
      unfold doubleN at hok hflb ⊢
      split
      · rename_i c1
        rw [if_pos c1] at hok hflb
        split
        · rename_i c2
          rw [if_pos c2] at hok hflb
          split
          · exact ⟨ph, h, Ev.refl n s ph⟩
          · rename_i p hp
            rw [hp] at hok hflb
            refine ⟨ph, ⟨hok, hflb, h.ht, h.st, fun x hx => ?_⟩, ⟨Nat.le_refl _, fun _ _ => rfl, fun _ _ k => k, fun _ _ => Nat.le_refl _, fun _ k => k, fun k => k⟩⟩
            rcases List.mem_append.1 hx with hx | hx
            · exact h.fl x hx
            · rw [List.mem_singleton.1 hx]; exact h.fl p (List.mem_of_getElem? hp)
        · exact ⟨ph, h, Ev.refl n s ph⟩
      · exact ⟨ph, h, Ev.refl n s ph⟩
  by_cases k4 : o.k = 4
  · refine nothing ?_
    unfold actN
    rw [if_neg k1, if_neg k2, if_neg k3, if_pos k4]
    split
    · rename_i c
      have hd : decF o.s = none := by
        rcases c with c | c
        · cases c
        · exact c
      unfold injectN
      split
      · exact rcv_none C cl n s _ hd
      · rfl
    · rfl
  by_cases k5 : o.k = 5
  · unfold actN
    rw [if_neg k1, if_neg k2, if_neg k3, if_neg k4, if_pos k5]
    obtain ⟨a, b, _⟩ := h.tick hC
    exact ⟨ph, a, b⟩
  unfold actN at hok hflb ⊢
  rw [if_neg k1, if_neg k2, if_neg k3, if_neg k4, if_neg k5] at hok hflb ⊢
  split
  · rename_i c
    rw [if_pos c] at hok hflb
    unfold crashU at hok hflb ⊢
    split
    · rename_i c'
      rw [if_pos c'] at hok hflb
      refine ⟨ph, ⟨hok, hflb, h.ht, h.st, h.fl⟩, ⟨Nat.le_refl _, fun _ _ => rfl, fun _ _ k => k, fun _ _ => Nat.le_refl _, fun j k => ?_, fun k => k⟩⟩
      show updA s.gone _ true j = true
      by_cases q : j = (1 + Num.pickN o.n C.N).toNat - 1
      · rw [q, updA_same]
      · rw [updA_other _ _ _ q]; exact k
    · exact ⟨ph, h, Ev.refl n s ph⟩
  · exact ⟨ph, h, Ev.refl n s ph⟩

def Spent (cl : Nat → Cl) (n : Nat) (s : Sn) (ph : Nat → Nat) (p : Pk) : Prop :=
  (∃ i r, i < n ∧ r ≤ ph i ∧ p = pC cl s.q.G i r ∧ (r < s.q.rd ∨ Srv.mem (s.q.G r) (i + 1) = true ∨ s.q.out.1 ≠ 0)) ∨
  ∃ i r, i < n ∧ r + 1 ≤ s.q.rd ∧ Srv.mem (s.q.G r) (i + 1) = true ∧ p = pS s.q.G i r ∧ (s.gone i = true ∨ r < ph i)
theorem Spent.ev (ht : HT C cl n s.q.G s.q.rd ph) (e : Ev n s s' ph ph') {p : Pk} (h : Spent cl n s ph p) : Spent cl n s' ph' p := by
  have h4 := ht.rd4
  rcases h with ⟨i, r, hi, hr, rfl, q⟩ | ⟨i, r, hi, hr, hm, rfl, q⟩
  · have h3 := ht.ph3 i hi
    refine .inl ⟨i, r, hi, Nat.le_trans hr (e.ph i hi), (pC_row (fun r' h' => e.row r' (by omega)) (by omega)).symm, ?_⟩
    rcases q with q | q | q
    · exact .inl (Nat.lt_of_lt_of_le q e.rd)
    · exact .inr (.inl (e.mem _ _ q))
    · exact .inr (.inr (e.out q))
  · refine .inr ⟨i, r, hi, Nat.le_trans hr e.rd, e.mem r _ hm, (pS_row (e.row r (by omega)) (by omega)).symm, ?_⟩
    rcases q with q | q
    · exact .inl (e.gone _ q)
    · exact .inr (Nat.lt_of_lt_of_le q (e.ph i hi))
theorem Spent.same (hC : Cast C cl n) (h : HI C cl n s ph) {p : Pk} (k : Spent cl n s ph p) : Go.Proofs.YtchideljndagjabGreat.rcv C cl n s p.2.1 p.2.2 = s ∧ 0 ≤ p.2.1 ∧ p.2.1 ≤ (n : Int) := by
  rcases k with ⟨i, r, hi, hr, rfl, q⟩ | ⟨i, r, hi, hr, hm, rfl, q⟩
  · obtain ⟨_, _, _, _, _, _, a⟩ := h.toServer hC hi hr
    refine ⟨a ?_, Int.le_refl _, by show (0 : Int) ≤ (n : Int); omega⟩
    rcases q with q | q | q
    · exact .inr (.inl (by omega))
    · exact .inl q
    · exact .inr (.inr q)
  · obtain ⟨ph', _, _, _, _, _, a, _⟩ := h.toClient hC hi hr hm
    refine ⟨a ?_, by show (0 : Int) ≤ (i : Int) + 1; omega, by show (i : Int) + 1 ≤ (n : Int); omega⟩
    rcases q with q | q
    · exact .inl q
    · exact .inr (by omega)
/-- Delivered: it is spent. -/
theorem HI.spends (hC : Cast C cl n) (h : HI C cl n s ph) {p : Pk} (hp : FP cl n s.q ph p) : ∃ ph', HI C cl n (Go.Proofs.YtchideljndagjabGreat.rcv C cl n s p.2.1 p.2.2) ph' ∧ Ev n s (Go.Proofs.YtchideljndagjabGreat.rcv C cl n s p.2.1 p.2.2) ph ph' ∧ Spent cl n (Go.Proofs.YtchideljndagjabGreat.rcv C cl n s p.2.1 p.2.2) ph' p := by
  have h4 := h.ht.rd4
  rcases hp with ⟨i, r, hi, hr, rfl⟩ | ⟨i, r, hi, hr, hm, rfl⟩
  · obtain ⟨a, b, _, _, _, c, _⟩ := h.toServer hC hi hr
    have h3 := h.ht.ph3 i hi
    refine ⟨ph, a, b, .inl ⟨i, r, hi, hr, (pC_row (fun r' h' => b.row r' (by omega)) (by omega)).symm, ?_⟩⟩
    by_cases q : r < s.q.rd
    · exact .inl (Nat.lt_of_lt_of_le q b.rd)
    · by_cases o : s.q.out.1 = 0
      · refine .inr (.inl ?_)
        show Srv.mem ((Go.Proofs.YtchideljndagjabGreat.rcv C cl n s 0 (pC cl s.q.G i r).2.2).q.G r) (i + 1) = true
        rw [c, decide_eq_true o, decide_eq_true ⟨by omega, rfl, rfl⟩]; simp
      · exact .inr (.inr (b.out o))
  · obtain ⟨ph', a, b, c1, c2, d, _⟩ := h.toClient hC hi hr hm
    refine ⟨ph', a, b, .inr ⟨i, r, hi, Nat.le_trans hr b.rd, b.mem _ _ hm, (pS_row (b.row r (by omega)) (by omega)).symm, ?_⟩⟩
    rcases d with d | d
    · exact .inl (b.gone _ d)
    · exact .inr d
theorem HI.delivered (hC : Cast C cl n) (h : HI C cl n s ph) {o : Stp} (ho : isB o.s) : ∃ ph', HI C cl n (actN C cl n false s o) ph' ∧ Ev n s (actN C cl n false s o) ph ph' ∧ ∀ p, actD s o = some p → FP cl n s.q ph p ∧ Spent cl n (actN C cl n false s o) ph' p := by
  by_cases k1 : o.k = 1
  · by_cases h0 : 0 < s.fl.length
    · obtain ⟨p, hp, hm, _, e⟩ := deliver_some (C := C) (cl := cl) (n := n) k1 h0
      rw [e]
      obtain ⟨ph', a, b, c⟩ := (h.less (Num.pickN o.n s.fl.length).toNat).spends hC (h.fl p hm)
      refine ⟨ph', a, b.fl2, fun p' hp' => ?_⟩
      rw [hp] at hp'
      cases hp'
      exact ⟨h.fl p hm, c⟩
    · obtain ⟨ph', a, b⟩ := h.act hC ho
      refine ⟨ph', a, b, fun p hp => ?_⟩
      have e : s.fl = [] := List.length_eq_zero_iff.1 (by omega)
      unfold actD at hp; rw [if_pos k1, e] at hp; cases hp
  · obtain ⟨ph', a, b⟩ := h.act hC ho
    refine ⟨ph', a, b, fun p hp => ?_⟩
    unfold actD at hp; rw [if_neg k1] at hp; cases hp
end

end Go.Proofs.YtchideljndagjabGreat

namespace Go.Proofs.YtchideljndagjabGreat
open Go.RowKit
set_option linter.unusedVariables false

theorem act_q {C : Srv.Cf} {cl : Nat → Cli.Cl} {n : Nat} {s : Sn} (f : Bool) {o : Stp} (h5 : o.k ≠ 5) : (actN C cl n f s o).q.out = s.q.out := by
  unfold actN
  rw [if_neg h5]
  split
  · split
    · rfl
    · unfold deliverN; split
      · split
        · rfl
        · exact (rcv_q C cl n _ _ _).1
      · rfl
  · split
    · split
      · rfl
      · unfold dropN; split <;> rfl
    · split
      · split
        · rfl
        · unfold doubleN; split
          · split
            · split <;> rfl
            · rfl
          · rfl
      · split
        · split
          · unfold injectN; split
            · exact (rcv_q C cl n _ _ _).1
            · rfl
          · rfl
        · split
          · unfold crashU; split <;> rfl
          · rfl
theorem OutOk.act {C : Srv.Cf} {cl : Nat → Cli.Cl} {n : Nat} {s : Sn} (ok : SnOk C cl n s) (h : OutOk C s.q.out) (f : Bool) (o : Stp) : OutOk C (actN C cl n f s o).q.out := by
  by_cases h5 : o.k = 5
  · have e : actN C cl n f s o = tickN C s := by unfold actN; rw [if_neg (by omega), if_neg (by omega), if_neg (by omega), if_neg (by omega), if_pos h5]
    rw [e]; exact OutOk.tick ok.gc ok.sok h
  · rw [act_q f h5]; exact h
theorem OutOk.ints {C : Srv.Cf} (hc : Srv.GoodC C) {o : Int × Int × List Int × List Int} (h : OutOk C o) : (∀ z ∈ o.2.2.1, 0 ≤ z ∧ z ≤ 4294967296) ∧ ∀ z ∈ o.2.2.2, 0 ≤ z ∧ z ≤ 4294967296 := by
  have hn := hc.n
  rcases h with ⟨_, _, e3, e4⟩ | ⟨_, _, _, e3, e4⟩ | ⟨_, _, _, _, e5, _, e7⟩
  · rw [e3, e4]; exact ⟨fun z hz => (by cases hz), fun z hz => (by cases hz)⟩
  · rw [e3, e4]; exact ⟨fun z hz => (by cases hz), fun z hz => (by cases hz)⟩
  · exact ⟨fun z hz => by have := e5 z hz; omega, fun z hz => by have := e7 z hz; omega⟩
theorem outOk_beg (C : Srv.Cf) (cl : Nat → Cli.Cl) (n : Nat) : OutOk C (beg cl n).q.out := .inl ⟨rfl, rfl, rfl, rfl⟩

end Go.Proofs.YtchideljndagjabGreat

namespace Go.Proofs.YtchideljndagjabGreat
open Go.ChangeShapes Go.WideShapes Go.ChangeAt Go.RowKit

theorem pick_calls (c n : Int) (w : World) (hc : -9223372036854775808 ≤ c) (hc' : c ≤ 9223372036854775807) (hn : 0 < n) (hn' : n ≤ 9223372036854775807) :
    Calls Tryz.prog 21 #[.int .i64 c, .int .i64 n] w fun e w' => e = .returned (.int .i64 (Num.pickN c n)) ∧ w' = w := by
  by_cases h : c < 0
  · have H : Hid (-(c + 1) % n = Num.pickN c n) := by show _ = Num.pickN c n; unfold Num.pickN; rw [if_pos h]
    go_enter Tryz.func21, Tryz.ntmps21
    go_wp2
    go_ret
    exact ⟨congrArg (fun x => Ending.returned (.int .i64 x)) (by rw [← Int.neg_tmod, Num.tmod_nn _ _ (by omega)]; exact H.out), rfl⟩
  · have H : Hid (c % n = Num.pickN c n) := by show _ = Num.pickN c n; unfold Num.pickN; rw [if_neg h]
    go_enter Tryz.func21, Tryz.ntmps21
    go_wp2
    go_ret
    exact ⟨congrArg (fun x => Ending.returned (.int .i64 x)) H.out, rfl⟩

end Go.Proofs.YtchideljndagjabGreat

namespace Go.Proofs.YtchideljndagjabGreat
open Go.ChangeShapes Go.WideShapes Go.ChangeAt Go.RowKit
set_option linter.unusedVariables false

set_option maxHeartbeats 400000 in
theorem kelements_list (v : Value) (zs : List Int) (w : World) (h : ListAt w v zs) :
    Calls Tryz.prog 129 #[v] w fun e w' => e = .returned (.bool (zs.all Num.elB)) ∧ w' = w := by
  obtain ⟨a, cap, rfl, h2, h3, hc⟩ := list_view h
  have HC := hideG hc
  clear hc h
  generalize hn : zs.length = n at *
  have HN := hideG hn
  clear hn
  go_enter Tryz.func129, Tryz.ntmps129
  go_wp2_with fail
  go_loop [3] (fun i => ∃ k : Nat, k ≤ n ∧ i = .int .i64 k ∧ (zs.take k).all Num.elB = true) (fun i => n - (intOf i).toNat)
  case atStart => exact ⟨0, Nat.zero_le _, rfl, rfl⟩
  case round =>
    obtain ⟨k, hk, rfl, hall⟩ := hrel
    have HA := hideG hall
    clear hall
    by_cases hlt : k < n
    · obtain ⟨b, off, rfl, c0⟩ := HC.out k hlt
      obtain ⟨z, hz⟩ : ∃ z, z = zs.getD k 0 := ⟨_, rfl⟩
      rw [← hz] at c0
      have HZ := hideG hz
      clear hz
      by_cases h1 : z < 0
      · go_wp2_with fail
        go_ret
        exact ⟨congrArg (fun x => Ending.returned (.bool x)) (Num.all_off zs k (by rw [HN.out]; exact hlt) (by rw [← HZ.out]; omega)).symm, rfl⟩
      · by_cases h2 : z < 2305843009213693951
        · go_wp2_with fail
          go_round
          case rel => exact ⟨k + 1, by omega, by go_num, Num.all_on zs k (by rw [HN.out]; exact hlt) HA.out (by rw [← HZ.out]; omega)⟩
          case measure => simp [intOf]; omega
        · go_wp2_with fail
          go_ret
          exact ⟨congrArg (fun x => Ending.returned (.bool x)) (Num.all_off zs k (by rw [HN.out]; exact hlt) (by rw [← HZ.out]; omega)).symm, rfl⟩
    · go_wp2_with fail
      go_ret
      exact ⟨congrArg (fun x => Ending.returned (.bool x)) (Num.all_end zs k (by rw [HN.out]; omega) HA.out).symm, rfl⟩

end Go.Proofs.YtchideljndagjabGreat

namespace Go.Proofs.YtchideljndagjabGreat
open Go.ChangeShapes Go.WideShapes Go.ChangeAt Go.RowKit
set_option linter.unusedVariables false

set_option maxHeartbeats 1000000 in
theorem kwellConfig_calls (N T M D : Int) (w : World) :
    Calls Tryz.prog 62 #[.agg #[.int .i64 N, .int .i64 T, .int .i64 M, .int .i64 D]] w fun e w' => e = .returned (.bool (Cli.cfgB N T M D)) ∧ Below w.heap.size w w' := by
  by_cases c0 : 1 ≤ N
  rotate_left
  · have H := hideG (cfg_no (N := N) (T := T) (M := M) (D := D) (by omega))
    go_enter Tryz.func62, Tryz.ntmps62
    go_wp2_with fail
    go_ret
    exact ⟨ret_bool (by rw [H.out]; try simp; try omega), by go_grown⟩
  by_cases c1 : N ≤ 12
  rotate_left
  · have H := hideG (cfg_no (N := N) (T := T) (M := M) (D := D) (by omega))
    go_enter Tryz.func62, Tryz.ntmps62
    go_wp2_with fail
    go_ret
    exact ⟨ret_bool (by rw [H.out]; try simp; try omega), by go_grown⟩
  by_cases c2 : 1 ≤ T
  rotate_left
  · have H := hideG (cfg_no (N := N) (T := T) (M := M) (D := D) (by omega))
    go_enter Tryz.func62, Tryz.ntmps62
    go_wp2_with fail
    go_ret
    exact ⟨ret_bool (by rw [H.out]; try simp; try omega), by go_grown⟩
  by_cases c3 : T ≤ N
  rotate_left
  · have H := hideG (cfg_no (N := N) (T := T) (M := M) (D := D) (by omega))
    go_enter Tryz.func62, Tryz.ntmps62
    go_wp2_with fail
    go_ret
    exact ⟨ret_bool (by rw [H.out]; try simp; try omega), by go_grown⟩
  by_cases c4 : 1 ≤ M
  rotate_left
  · have H := hideG (cfg_no (N := N) (T := T) (M := M) (D := D) (by omega))
    go_enter Tryz.func62, Tryz.ntmps62
    go_wp2_with fail
    go_ret
    exact ⟨ret_bool (by rw [H.out]; try simp; try omega), by go_grown⟩
  by_cases c5 : M ≤ 12
  rotate_left
  · have H := hideG (cfg_no (N := N) (T := T) (M := M) (D := D) (by omega))
    go_enter Tryz.func62, Tryz.ntmps62
    go_wp2_with fail
    go_ret
    exact ⟨ret_bool (by rw [H.out]; try simp; try omega), by go_grown⟩
  by_cases c6 : 1 ≤ D
  rotate_left
  · have H := hideG (cfg_no (N := N) (T := T) (M := M) (D := D) (by omega))
    go_enter Tryz.func62, Tryz.ntmps62
    go_wp2_with fail
    go_ret
    exact ⟨ret_bool (by rw [H.out]; try simp; try omega), by go_grown⟩
  by_cases c7 : D ≤ 50
  rotate_left
  · have H := hideG (cfg_no (N := N) (T := T) (M := M) (D := D) (by omega))
    go_enter Tryz.func62, Tryz.ntmps62
    go_wp2_with fail
    go_ret
    exact ⟨ret_bool (by rw [H.out]; try simp; try omega), by go_grown⟩
  have H := hideG (cfg_yes (N := N) (T := T) (M := M) (D := D) (by omega))
  go_enter Tryz.func62, Tryz.ntmps62
  go_wp2_with fail
  go_ret
  exact ⟨ret_bool (by rw [H.out]; try simp; try omega), by go_grown⟩

theorem list3 (w : World) (a b c : Int) (ha : inI a) (hb : inI b) (hc : inI c) : ListAt (w.alloc (.cells #[.int .i64 a, .int .i64 b, .int .i64 c] 3)) (.slice (some ⟨w.heap.size, 0, none⟩) 3 3) [a, b, c] := by
  refine ⟨_, _, rfl, by simp, by unfold maxLen; omega, fun z hz => ?_, .inr ⟨w.heap.size, 0, rfl, by simp, fun i hi => ?_⟩⟩
  · simp at hz; rcases hz with rfl | rfl | rfl <;> assumption
  · match i, hi with
    | 0, _ => simp
    | 1, _ => simp
    | 2, _ => simp

set_option maxHeartbeats 2000000 in
set_option maxRecDepth 100000 in
theorem kwellDraw_calls (N T M D : Int) (vi vm vs : Value) (inp sm ss : List Int) (ch mk sd : Int) (w : World) (hi : ListAt w vi inp) (hm : ListAt w vm sm) (hs : ListAt w vs ss) (hT : 1 ≤ T) (hT' : T ≤ 12) (h1 : inI ch) (h2 : inI mk) (h3 : inI sd) :
    Calls Tryz.prog 63 #[.agg #[.int .i64 N, .int .i64 T, .int .i64 M, .int .i64 D], .agg #[vi, .int .i64 ch, .int .i64 mk, .int .i64 sd, vm, vs]] w fun e w' => e = .returned (.bool (Cli.drawB T M inp ch mk sd sm ss)) ∧ Below w.heap.size w w' := by
  have HE1 := hideG (fun (W : World) (hb : Below w.heap.size w W) => kelements_list vm sm W (hm.below hb))
  have HE2 := hideG (fun (W : World) (hb : Below w.heap.size w W) => kelements_list vs ss W (hs.below hb))
  have HE0 := hideG (fun (W : World) => kelements_list _ [ch, mk, sd] _ (list3 W ch mk sd h1 h2 h3))
  obtain ⟨b1, hb1⟩ : ∃ b1, b1 = [ch, mk, sd].all Num.elB := ⟨_, rfl⟩
  obtain ⟨b2, hb2⟩ : ∃ b2, b2 = sm.all Num.elB := ⟨_, rfl⟩
  obtain ⟨b3, hb3⟩ : ∃ b3, b3 = ss.all Num.elB := ⟨_, rfl⟩
  rw [← hb1] at HE0
  rw [← hb2] at HE1
  rw [← hb3] at HE2
  have HBS := hideG (And.intro hb1 (And.intro hb2 hb3))
  clear hb1 hb2 hb3
  obtain ⟨a1, c1, rfl, i2, i3, hcl⟩ := list_view hi
  obtain ⟨a2, c2, rfl, m2, m3, _⟩ := hm
  obtain ⟨a3, c3, rfl, s2, s3, _⟩ := hs
  have HC := hideG hcl
  clear hcl hi
  obtain ⟨W0, hW0⟩ : ∃ W0, W0 = (w.alloc (.cells #[.int .i64 N, .int .i64 T, .int .i64 M, .int .i64 D] 26)).alloc (.cells #[.slice a1 inp.length c1, .int .i64 ch, .int .i64 mk, .int .i64 sd, .slice a2 sm.length c2, .slice a3 ss.length c3] 117) := ⟨_, rfl⟩
  have BB := hideG (show Below w.heap.size w W0 by rw [hW0]; exact ((Below.refl _ _).alloc (Nat.le_refl _) _).alloc (by simp) _)
  have z0 : w.heap.size + 1 < W0.heap.size := by rw [hW0]; simp
  have HX := hideG (show SixAt W0 (w.heap.size + 1) 117 (.slice a1 inp.length c1) (.int .i64 ch) (.int .i64 mk) (.int .i64 sd) (.slice a2 sm.length c2) (.slice a3 ss.length c3) by rw [hW0]; exact heap_alloc2_new w _ _)
  by_cases q1 : (inp.length : Int) = M
  · by_cases q2 : (sm.length : Int) = T - 1
    · by_cases q3 : (ss.length : Int) = T - 1
      · have HR := hideG (draw_rest (ch := ch) (mk := mk) (sd := sd) q1 q2 q3)
        have p1 : ((inp.length : Int) != M) = false := by simpa using q1
        have p2 : ((sm.length : Int) != T - 1) = false := by simpa using q2
        have p3 : ((ss.length : Int) != T - 1) = false := by simpa using q3
        have HG := hideG (fun k (hk : k < inp.length) => (show inp.getD k 0 ∈ inp by rw [List.getD_eq_getElem?_getD, List.getElem?_eq_getElem hk]; exact List.getElem_mem hk))
        have HS := hideG (fun k (hk : k < inp.length) => (show (inp.take (k + 1)).all Frm.wdB = ((inp.take k).all Frm.wdB && Frm.wdB (inp.getD k 0)) by
          rw [List.take_succ_eq_append_getElem hk, List.all_append, List.getD_eq_getElem?_getD, List.getElem?_eq_getElem hk]; simp))
        have HT := hideG (show inp.take inp.length = inp from List.take_length)
        have HFA := hideG (show Cli.wordsB inp = false → Cli.drawB T M inp ch mk sd sm ss = false from fun e => by rw [HR.out, e, Bool.false_and, Bool.and_false])
        have HW0 := hideG hW0
        clear hW0 q1 q2 q3
        generalize inp.length = n1 at *
        generalize sm.length = n2 at *
        generalize ss.length = n3 at *
        go_enter Tryz.func63, Tryz.ntmps63
        go_wp2_with fail
        rw [← HW0.out]
        obtain ⟨⟨x0, x1, x2, x3, x4, x5⟩, xf⟩ := HX.out.cells
        go_loop [5] (fun i => ∃ k : Nat, k ≤ n1 ∧ i = .int .i64 k ∧ (inp.take k).all Frm.wdB = true) (fun i => n1 - (intOf i).toNat)
        case atStart => exact ⟨0, Nat.zero_le _, rfl, rfl⟩
        case round =>
          obtain ⟨k, hk, rfl, hall⟩ := hrel
          have HA := hideG hall
          clear hall
          by_cases hlt : k < n1
          · obtain ⟨b, off, rfl, c0⟩ := HC.out k hlt
            have hbl : b < w.heap.size := cell_in c0
            have HM := hideG (HG.out k hlt)
            have HU := hideG (HS.out k hlt)
            replace c0 := (BB.out.cell (p := ⟨b, off + k, none⟩) hbl).trans c0
            obtain ⟨z, hz⟩ : ∃ z, z = inp.getD k 0 := ⟨_, rfl⟩
            rw [← hz] at c0 HM HU
            clear hz
            by_cases y1 : z < 0
            · have H := hideG (HFA.out (List.all_eq_false.2 ⟨z, HM.out, by rw [show Frm.wdB z = false from decide_eq_false (by omega)]; exact Bool.false_ne_true⟩))
              go_wp2_with fail
              go_ret
              exact ⟨ret_bool H.out.symm, BB.out⟩
            by_cases y2 : z < 4294967296
            · rw [show Frm.wdB z = true from Frm.wdB_iff.2 (by omega), HA.out] at HU
              go_wp2_with fail
              go_round
              case rel => exact ⟨k + 1, by omega, by go_num, HU.out⟩
              case measure => simp [intOf]; omega
            · have H := hideG (HFA.out (List.all_eq_false.2 ⟨z, HM.out, by rw [show Frm.wdB z = false from decide_eq_false (by omega)]; exact Bool.false_ne_true⟩))
              go_wp2_with fail
              go_ret
              exact ⟨ret_bool H.out.symm, BB.out⟩
          · have ek : k = n1 := by omega
            subst ek
            have HWB := hideG (show Cli.wordsB inp = true by have := HA.out; rwa [HT.out] at this)
            have HR2 := hideG (show Cli.drawB T M inp ch mk sd sm ss = (b1 && (b2 && b3)) by rw [HR.out, HWB.out, HBS.out.1, HBS.out.2.1, HBS.out.2.2]; simp [Bool.and_assoc])
            have B1 := hideG (fun (o : Obj) => BB.out.alloc (Nat.le_of_lt (by omega)) o)
            go_wp2_with fail
            refine (HE0.out W0).mono ?_
            rintro e w' ⟨rfl, hw'⟩
            rw [hw']
            clear hw'
            obtain ⟨⟨u0, u1, u2, u3, u4, u5⟩, uf⟩ := (HX.out.below ((Below.refl W0.heap.size W0).alloc (Nat.le_refl _) (.cells #[.int .i64 ch, .int .i64 mk, .int .i64 sd] 3)) z0).cells
            obtain ⟨W1, hW1⟩ : ∃ W1, W1 = W0.alloc (.cells #[.int .i64 ch, .int .i64 mk, .int .i64 sd] 3) := ⟨_, rfl⟩
            have BW1 := hideG (show Below w.heap.size w W1 by rw [hW1]; exact B1.out _)
            rw [← hW1] at u4 u5 ⊢
            clear hW1 u0 u1 u2 u3 uf
            go_wp2_with fail
            refine (HE1.out _ BW1.out).mono ?_
            rintro e w' ⟨rfl, hw'⟩
            rw [hw']
            clear hw'
            go_wp2_with fail
            refine (HE2.out _ BW1.out).mono ?_
            rintro e w' ⟨rfl, hw'⟩
            rw [hw']
            clear hw'
            cases b1 <;> cases b2 <;> cases b3 <;> (go_wp2_with fail; go_ret; exact ⟨ret_bool (by rw [HR2.out]; rfl), BW1.out⟩)
      · have H := hideG (draw_len (M := M) (T := T) (inp := inp) (ch := ch) (mk := mk) (sd := sd) (sm := sm) (ss := ss) (fun h => q3 h.2.2))
        have p1 : ((inp.length : Int) != M) = false := by simpa using q1
        have p2 : ((sm.length : Int) != T - 1) = false := by simpa using q2
        have p3 : ((ss.length : Int) != T - 1) = true := by simpa using q3
        clear q1 q2 q3 hW0
        go_enter Tryz.func63, Tryz.ntmps63
        go_wp2_with fail
        go_ret
        exact ⟨ret_bool H.out.symm, by go_grown⟩
    · have H := hideG (draw_len (M := M) (T := T) (inp := inp) (ch := ch) (mk := mk) (sd := sd) (sm := sm) (ss := ss) (fun h => q2 h.2.1))
      have p1 : ((inp.length : Int) != M) = false := by simpa using q1
      have p2 : ((sm.length : Int) != T - 1) = true := by simpa using q2
      clear q1 q2 hW0
      go_enter Tryz.func63, Tryz.ntmps63
      go_wp2_with fail
      go_ret
      exact ⟨ret_bool H.out.symm, by go_grown⟩
  · have H := hideG (draw_len (M := M) (T := T) (inp := inp) (ch := ch) (mk := mk) (sd := sd) (sm := sm) (ss := ss) (fun h => q1 h.1))
    have p1 : ((inp.length : Int) != M) = true := by simpa using q1
    clear q1 hW0
    go_enter Tryz.func63, Tryz.ntmps63
    go_wp2_with fail
    go_ret
    exact ⟨ret_bool H.out.symm, by go_grown⟩

end Go.Proofs.YtchideljndagjabGreat

namespace Go.Proofs.YtchideljndagjabGreat
open Go.ChangeShapes Go.WideShapes Go.ChangeAt Go.RowKit
set_option linter.unusedVariables false

theorem kgreets_yes (id : Int) (va : Value) (l : List Frm.It) (w : World) (ok : Frm.okF 1 id l = true) (h : BytesAt w va (Frm.encF 1 id l)) :
    Calls Tryz.prog 31 #[va, .int .i64 id] w fun e w' => e = .returned (.bool true) ∧ Below w.heap.size w w' := by
  have HV := hideG (veilDecode va _ w h)
  obtain ⟨x1, x2, x3, x4⟩ := d_some (Frm.dec_enc ok)
  rw [x1, x2, x3, x4] at HV
  obtain ⟨aa, ca, rfl, -⟩ := bytes_view h
  have eii : (id == id) = true := by simp
  clear x1 x2 x3 x4 h ok
  generalize (Frm.encF 1 id l).length = L at *
  go_enter Tryz.func31, Tryz.ntmps31
  go_wp2_with fail
  refine HV.out.mono ?_
  rintro e w1 ⟨vo, rfl, hown, hb⟩
  obtain ⟨p2, q2, hv2⟩ := owns_form hown
  subst hv2
  have HB := hideG hb
  clear hown hb
  go_wp2_with fail
  go_ret
  exact ⟨rfl, HB.out.alloc HB.out.size _⟩

end Go.Proofs.YtchideljndagjabGreat
