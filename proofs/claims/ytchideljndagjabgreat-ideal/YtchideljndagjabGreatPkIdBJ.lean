/- An honest session, plainly, step by step; what was delivered once and comes again does nothing. -/
import Derived.Test.YtchideljndagjabGreatPkIdBI
namespace Go.Proofs.YtchideljndagjabGreat
open Go.RowKit Cli Frm
set_option linter.unusedVariables false
def FP (cl : Nat → Cl) (n : Nat) (q : Srv.Sv) (ph : Nat → Nat) (p : Pk) : Prop :=
  (∃ i r, i < n ∧ r ≤ ph i ∧ p = pC cl q.G i r) ∨ ∃ i r, i < n ∧ r + 1 ≤ q.rd ∧ Srv.mem (q.G r) (i + 1) = true ∧ p = pS q.G i r
structure HI (C : Srv.Cf) (cl : Nat → Cl) (n : Nat) (s : Sn) (ph : Nat → Nat) : Prop where
  ok : SnOk C cl n s
  flb : FlB s
  ht : HT C cl n s.q.G s.q.rd ph
  st : ∀ i, i < n → s.cs i = stN s.q.G i (ph i)
  fl : ∀ p ∈ s.fl, FP cl n s.q ph p
structure Ev (n : Nat) (s s' : Sn) (ph ph' : Nat → Nat) : Prop where
  rd : s.q.rd ≤ s'.q.rd
  row : ∀ r, r < s.q.rd → s'.q.G r = s.q.G r
  mem : ∀ r u, Srv.mem (s.q.G r) u = true → Srv.mem (s'.q.G r) u = true
  ph : ∀ i, i < n → ph i ≤ ph' i
  gone : ∀ i, s.gone i = true → s'.gone i = true
  out : s.q.out.1 ≠ 0 → s'.q.out.1 ≠ 0
theorem Ev.refl (n : Nat) (s : Sn) (ph : Nat → Nat) : Ev n s s ph ph := ⟨Nat.le_refl _, fun _ _ => rfl, fun _ _ h => h, fun _ _ => Nat.le_refl _, fun _ h => h, fun h => h⟩
theorem Ev.fl {n : Nat} {s s' : Sn} {ph ph' : Nat → Nat} (h : Ev n s s' ph ph') (f : List Pk) : Ev n { s with fl := f } s' ph ph' := ⟨h.rd, h.row, h.mem, h.ph, h.gone, h.out⟩
theorem Ev.fl2 {n : Nat} {s s' : Sn} {ph ph' : Nat → Nat} {f : List Pk} (h : Ev n { s with fl := f } s' ph ph') : Ev n s s' ph ph' := ⟨h.rd, h.row, h.mem, h.ph, h.gone, h.out⟩

section
variable {C : Srv.Cf} {cl : Nat → Cl} {n : Nat} {s s' : Sn} {ph ph' : Nat → Nat}
theorem pC_row {G G' : Srv.Tab} {i r : Nat} (h : ∀ r', r' < r → G' r' = G r') (hr : r < 4) : pC cl G' i r = pC cl G i r := by unfold pC; rw [ansL_row cl h hr]
theorem pS_row {G G' : Srv.Tab} {i r : Nat} (h : G' r = G r) (hr : r < 3) : pS G' i r = pS G i r := by unfold pS; rw [sendsL_row hr h]
theorem FP.ev (ht : HT C cl n s.q.G s.q.rd ph) (e : Ev n s s' ph ph') {p : Pk} (h : FP cl n s.q ph p) : FP cl n s'.q ph' p := by
  have h4 := ht.rd4
  rcases h with ⟨i, r, hi, hr, rfl⟩ | ⟨i, r, hi, hr, hm, rfl⟩
  · have h3 := ht.ph3 i hi
    exact .inl ⟨i, r, hi, Nat.le_trans hr (e.ph i hi), (pC_row (fun r' h' => e.row r' (by omega)) (by omega)).symm⟩
  · exact .inr ⟨i, r, hi, Nat.le_trans hr e.rd, e.mem r _ hm, (pS_row (e.row r (by omega)) (by omega)).symm⟩
theorem hi_beg (hC : Cast C cl n) : HI C cl n (beg cl n) (fun _ => 0) := by
  refine ⟨beg_ok hC, beg_flB hC, ⟨Srv.goodT_none C, by show 0 < 4; omega, fun _ _ => rfl, fun r hr => absurd hr (Nat.not_lt_zero _), fun r u l h => (by cases h), fun i _ => ⟨Nat.zero_le _, Nat.zero_le _⟩, fun i _ h => absurd h (by show ¬ 1 ≤ 0; omega)⟩, fun i _ => rfl, fun p hp => ?_⟩
  obtain ⟨i, hi, rfl⟩ := hellosP_mem hp
  exact .inl ⟨i, 0, hi, Nat.le_refl _, rfl⟩
theorem updA_id {α : Type} (f : Nat → α) (i : Nat) : updA f i (f i) = f := by
  funext j
  by_cases e : j = i
  · rw [e, updA_same]
  · rw [updA_other _ _ _ e]
theorem rcv_none (C : Srv.Cf) (cl : Nat → Cl) (n : Nat) (s : Sn) (d : Int) {zs : List Int} (h : decF zs = none) : rcv C cl n s d zs = s := by
  unfold rcv rcvC rcv0
  split
  · split
    · rfl
    · rw [(stepD_none h).1, (stepD_none h).2, updA_id]
      show (⟨s.q, s.cs, s.gone, s.fl ++ []⟩ : Sn) = s
      rw [List.append_nil]
  · show (⟨sstepD C s.q zs, s.cs, s.gone, s.fl⟩ : Sn) = s
    have : sstepD C s.q zs = s.q := by unfold sstepD; rw [h]
    rw [this]
theorem HT.fits (h : HT C cl n s.q.G s.q.rd ph) (hC : Cast C cl n) {i r : Nat} (hi : i < n) (hr : r ≤ ph i) : Srv.fits C s.q.G s.q.rd (2 * (r : Int) + 1, (cl i).id, ansL cl s.q.G i r) = (decide (r = s.q.rd) && !Srv.mem (s.q.G s.q.rd) (i + 1)) := by
  have hid := hC.id i hi
  have hnum := hC.num
  have h3 := h.ph3 i hi
  unfold Srv.fits
  show (decide (2 * (r : Int) + 1 = 2 * (s.q.rd : Int) + 1) && (decide ((cl i).id ≤ C.N) && (!Srv.mem (s.q.G s.q.rd) (cl i).id.toNat && ((decide (s.q.rd = 0) || Srv.mem (s.q.G (s.q.rd - 1)) (cl i).id.toNat) && Srv.shape C s.q.G s.q.rd (cl i).id.toNat (ansL cl s.q.G i r))))) = _
  rw [show (cl i).id.toNat = i + 1 by omega, decide_eq_true (show (cl i).id ≤ C.N by omega), Bool.true_and]
  by_cases e : r = s.q.rd
  · have hs := h.shape hC hi (by omega)
    have hm : (decide (s.q.rd = 0) || Srv.mem (s.q.G (s.q.rd - 1)) (i + 1)) = true := by
      by_cases z : s.q.rd = 0
      · rw [decide_eq_true z]; rfl
      · have := h.phm i hi (by omega)
        rw [show ph i = s.q.rd by omega] at this
        rw [this, Bool.or_true]
    rw [e, decide_eq_true (show 2 * (s.q.rd : Int) + 1 = 2 * (s.q.rd : Int) + 1 from rfl), decide_eq_true (rfl : s.q.rd = s.q.rd), hs, hm]
    simp
  · rw [decide_eq_false (show ¬ 2 * (r : Int) + 1 = 2 * (s.q.rd : Int) + 1 by omega), decide_eq_false e]; rfl
theorem HT.take (h : HT C cl n s.q.G s.q.rd ph) (hC : Cast C cl n) {i : Nat} (hi : i < n) (hr : s.q.rd ≤ ph i) (hm : Srv.mem (s.q.G s.q.rd) (i + 1) = false) : HT C cl n (Srv.updT s.q.G s.q.rd (i + 1) (ansL cl s.q.G i s.q.rd)) s.q.rd ph := by
  have hid := hC.id i hi
  have h4 := h.rd4
  have hrow : ∀ r, r ≠ s.q.rd → Srv.updT s.q.G s.q.rd (i + 1) (ansL cl s.q.G i s.q.rd) r = s.q.G r := fun r hr => Srv.updT_row _ _ _ _ hr
  have hl : ∀ j r, r ≤ s.q.rd → ansL cl (Srv.updT s.q.G s.q.rd (i + 1) (ansL cl s.q.G i s.q.rd)) j r = ansL cl s.q.G j r := fun j r hr => ansL_row cl (fun r' h' => hrow r' (by omega)) (by omega) j
  refine ⟨?_, h4, fun r hr => by rw [hrow r (by omega)]; exact h.late r hr, fun r hr => by rw [hrow r (by omega)]; exact h.big r hr, fun r u l e => ?_, h.ph3, fun j hj hp => ?_⟩
  · have hf := h.fits hC (s := s) hi hr
    rw [decide_eq_true (rfl : s.q.rd = s.q.rd), hm] at hf
    have := h.good.add h4 h.late (f := (2 * (s.q.rd : Int) + 1, (cl i).id, ansL cl s.q.G i s.q.rd)) (ans_okF hC h hi (Nat.le_refl _)) hf
    rw [show ((2 * (s.q.rd : Int) + 1, (cl i).id, ansL cl s.q.G i s.q.rd) : Fr).2.1.toNat = i + 1 by show (cl i).id.toNat = i + 1; omega] at this
    exact this
  · unfold Srv.updT at e
    split at e
    · rename_i c
      obtain ⟨rfl, rfl⟩ := c
      cases e
      exact ⟨i, rfl, hi, (hl i s.q.rd (Nat.le_refl _)).symm, hr⟩
    · obtain ⟨j, e1, e2, e3, e4⟩ := h.tab r u l e
      have := (h.ph3 j e2).2
      exact ⟨j, e1, e2, by rw [hl j r (by omega)]; exact e3, e4⟩
  · rw [hrow _ (by have := (h.ph3 j hj).2; omega)]; exact h.phm j hj hp
theorem HI.toServer (hC : Cast C cl n) (h : HI C cl n s ph) {i r : Nat} (hi : i < n) (hr : r ≤ ph i) :
    HI C cl n (rcv C cl n s 0 (pC cl s.q.G i r).2.2) ph ∧ Ev n s (rcv C cl n s 0 (pC cl s.q.G i r).2.2) ph ph ∧ (rcv C cl n s 0 (pC cl s.q.G i r).2.2).gone = s.gone ∧ (rcv C cl n s 0 (pC cl s.q.G i r).2.2).cs = s.cs ∧ (rcv C cl n s 0 (pC cl s.q.G i r).2.2).fl = s.fl ∧
    (∀ r' u, Srv.mem ((rcv C cl n s 0 (pC cl s.q.G i r).2.2).q.G r') u = (Srv.mem (s.q.G r') u || (decide (s.q.out.1 = 0) && (decide (r = s.q.rd ∧ r' = r ∧ u = i + 1))))) ∧ ((Srv.mem (s.q.G r) (i + 1) = true ∨ r ≠ s.q.rd ∨ s.q.out.1 ≠ 0) → rcv C cl n s 0 (pC cl s.q.G i r).2.2 = s) := by
  have h3 := h.ht.ph3 i hi
  have hid := hC.id i hi
  have hdec : decF (pC cl s.q.G i r).2.2 = some (2 * (r : Int) + 1, (cl i).id, ansL cl s.q.G i r) := dec_enc (ans_okF hC h.ht hi (by omega))
  have e0 : rcv C cl n s 0 (pC cl s.q.G i r).2.2 = { s with q := Srv.takeS C s.q (2 * (r : Int) + 1, (cl i).id, ansL cl s.q.G i r) } := by
    unfold rcv rcv0 sstepD
    rw [if_neg (by omega), hdec]
  have hisB : isB (pC cl s.q.G i r).2.2 := encF_isB (ans_okF hC h.ht hi (by omega))
  have hok := h.ok.rcv 0 hisB
  have hflb := h.flb.rcv h.ok 0 hisB
  have hfit := h.ht.fits hC (s := s) hi hr
  have ecnt : Srv.counts C s.q (2 * (r : Int) + 1, (cl i).id, ansL cl s.q.G i r) = (decide (s.q.out.1 = 0) && (decide (r = s.q.rd) && !Srv.mem (s.q.G s.q.rd) (i + 1))) := by unfold Srv.counts Srv.pend; rw [hfit]
  by_cases c : (decide (s.q.out.1 = 0) && (decide (r = s.q.rd) && !Srv.mem (s.q.G s.q.rd) (i + 1))) = true
  · have c' := c
    rw [Bool.and_eq_true, Bool.and_eq_true, Bool.not_eq_true', decide_eq_true_iff, decide_eq_true_iff] at c'
    obtain ⟨c1, c2, c3⟩ := c'
    subst c2
    have e1 : Srv.takeS C s.q (2 * (s.q.rd : Int) + 1, (cl i).id, ansL cl s.q.G i s.q.rd) = { s.q with G := Srv.updT s.q.G s.q.rd (i + 1) (ansL cl s.q.G i s.q.rd) } := by
      unfold Srv.takeS; rw [ecnt, if_pos c]
      show ({ s.q with G := Srv.updT s.q.G s.q.rd (cl i).id.toNat (ansL cl s.q.G i s.q.rd) } : Srv.Sv) = _
      rw [show (cl i).id.toNat = i + 1 by omega]
    rw [e0, e1] at hok hflb ⊢
    have hrow : ∀ r', r' < s.q.rd → Srv.updT s.q.G s.q.rd (i + 1) (ansL cl s.q.G i s.q.rd) r' = s.q.G r' := fun r' h' => Srv.updT_row _ _ _ _ (by omega)
    have hmem : ∀ r' u, Srv.mem (Srv.updT s.q.G s.q.rd (i + 1) (ansL cl s.q.G i s.q.rd) r') u = (Srv.mem (s.q.G r') u || (decide (s.q.out.1 = 0) && (decide (s.q.rd = s.q.rd ∧ r' = s.q.rd ∧ u = i + 1)))) := fun r' u => by
      rw [decide_eq_true c1, Bool.true_and]
      by_cases q : r' = s.q.rd ∧ u = i + 1
      · rw [decide_eq_true ⟨rfl, q⟩, Bool.or_true, q.1, q.2]; unfold Srv.mem; rw [Srv.updT_same]; rfl
      · rw [decide_eq_false (fun k => q k.2), Bool.or_false]; unfold Srv.mem Srv.updT; rw [if_neg q]
    have ev : Ev n s { s with q := { s.q with G := Srv.updT s.q.G s.q.rd (i + 1) (ansL cl s.q.G i s.q.rd) } } ph ph := ⟨Nat.le_refl _, hrow, fun r' u e => by show Srv.mem (Srv.updT _ _ _ _ r') u = true; rw [hmem, e]; rfl, fun _ _ => Nat.le_refl _, fun _ e => e, fun e => e⟩
    refine ⟨⟨hok, hflb, h.ht.take hC hi hr c3, fun j hj => ?_, fun p hp => (h.fl p hp).ev h.ht ev⟩, ev, rfl, rfl, rfl, hmem, fun q => ?_⟩
    · show s.cs j = stN (Srv.updT s.q.G s.q.rd (i + 1) (ansL cl s.q.G i s.q.rd)) j (ph j)
      rw [h.st j hj]
      exact stN_row (fun r' h' => (hrow r' (by have := (h.ht.ph3 j hj).2; omega)).symm) j
    · exfalso
      rcases q with q | q | q
      · rw [c3] at q; cases q
      · exact q rfl
      · exact q c1
  · have e1 : Srv.takeS C s.q (2 * (r : Int) + 1, (cl i).id, ansL cl s.q.G i r) = s.q := by unfold Srv.takeS; rw [ecnt, if_neg c]
    have e2 : rcv C cl n s 0 (pC cl s.q.G i r).2.2 = s := by rw [e0, e1]
    rw [e2]
    refine ⟨h, Ev.refl n s ph, rfl, rfl, rfl, fun r' u => ?_, fun _ => rfl⟩
    by_cases q : s.q.out.1 = 0 ∧ r = s.q.rd ∧ r' = r ∧ u = i + 1
    · obtain ⟨q1, q2, q3, q4⟩ := q
      have : Srv.mem (s.q.G s.q.rd) (i + 1) = true := by
        cases k : Srv.mem (s.q.G s.q.rd) (i + 1) with
        | true => rfl
        | false => rw [k, decide_eq_true q1, decide_eq_true q2] at c; exact absurd rfl c
      rw [q3, q4, q2, this]; rfl
    · have : (decide (s.q.out.1 = 0) && decide (r = s.q.rd ∧ r' = r ∧ u = i + 1)) = false := by
        rw [Bool.and_eq_false_iff, decide_eq_false_iff_not, decide_eq_false_iff_not]
        by_cases o : s.q.out.1 = 0
        · exact .inr (fun k => q ⟨o, k⟩)
        · exact .inl o
      rw [this, Bool.or_false]
theorem HT.client (h : HT C cl n s.q.G s.q.rd ph) (hC : Cast C cl n) {i r : Nat} (hi : i < n) (hr : r + 1 ≤ s.q.rd) (hm : Srv.mem (s.q.G r) (i + 1) = true) :
    (ph i = r → stepD (cl i) (stN s.q.G i (ph i)) (pS s.q.G i r).2.2 = stN s.q.G i (r + 1) ∧ ansD (cl i) (stN s.q.G i (ph i)) (pS s.q.G i r).2.2 = some (2 * ((r + 1 : Nat) : Int) + 1, (cl i).id, ansL cl s.q.G i (r + 1))) ∧
    (ph i ≠ r → stepD (cl i) (stN s.q.G i (ph i)) (pS s.q.G i r).2.2 = stN s.q.G i (ph i) ∧ ansD (cl i) (stN s.q.G i (ph i)) (pS s.q.G i r).2.2 = none) := by
  have h4 := h.rd4
  have hp := (h.its hm).2.2
  have h3 := h.ph3 i hi
  have hdec : decF (pS s.q.G i r).2.2 = some (2 * (r : Int) + 2, 0, Srv.sendsL s.q.G r (i + 1)) := dec_enc (h.sok hC (by omega) (i + 1))
  have hph := stN_ph s.q.G i h3.1
  constructor
  · intro e
    have q : r = 0 ∨ r = 1 ∨ r = 2 := by omega
    rw [e] at hph ⊢
    rcases q with rfl | rfl | rfl
    · obtain ⟨a1, a2⟩ := stepD_keys (c := cl i) hdec (by rw [hph]; rfl)
      rw [a1, a2, if_pos (h.keysAgree hC (by omega) hm), if_pos (h.keysAgree hC (by omega) hm)]
      exact ⟨rfl, rfl⟩
    · obtain ⟨a1, a2⟩ := stepD_box (c := cl i) hdec (by rw [hph]; rfl)
      have ag := h.boxAgree hC (by omega) hm
      have e1 : (stN s.q.G i 1).2.1 = Srv.sendsL s.q.G 0 (i + 1) := rfl
      rw [a1, a2, e1, if_pos ag, if_pos ag]
      exact ⟨rfl, rfl⟩
    · obtain ⟨a1, a2⟩ := stepD_ask (c := cl i) hdec (by rw [hph]; rfl)
      have ag := h.askAgree hC (by omega) hm
      have e1 : (stN s.q.G i 2).2.2.1 = Srv.sendsL s.q.G 1 (i + 1) := rfl
      have e2 : (stN s.q.G i 2).2.1 = Srv.sendsL s.q.G 0 (i + 1) := rfl
      rw [a1, a2, e1, e2, if_pos ag, if_pos ag]
      exact ⟨rfl, rfl⟩
  · intro e
    exact stepD_rest hdec (by rw [hph]; omega) (by rw [hph]; omega) (by rw [hph]; omega)
theorem HI.toClient (hC : Cast C cl n) (h : HI C cl n s ph) {i r : Nat} (hi : i < n) (hr : r + 1 ≤ s.q.rd) (hm : Srv.mem (s.q.G r) (i + 1) = true) :
    ∃ ph', HI C cl n (rcv C cl n s ((i : Int) + 1) (pS s.q.G i r).2.2) ph' ∧ Ev n s (rcv C cl n s ((i : Int) + 1) (pS s.q.G i r).2.2) ph ph' ∧ (rcv C cl n s ((i : Int) + 1) (pS s.q.G i r).2.2).q = s.q ∧ (rcv C cl n s ((i : Int) + 1) (pS s.q.G i r).2.2).gone = s.gone ∧ (s.gone i = true ∨ r < ph' i) ∧
      ((s.gone i = true ∨ ph i ≠ r) → rcv C cl n s ((i : Int) + 1) (pS s.q.G i r).2.2 = s) ∧ (rcv C cl n s ((i : Int) + 1) (pS s.q.G i r).2.2).fl = s.fl ++ (if s.gone i = true ∨ ph i ≠ r then [] else [pC cl s.q.G i (r + 1)]) ∧ ph' = (if s.gone i = true ∨ ph i ≠ r then ph else updA ph i (r + 1)) := by
  have hp := (h.ht.its hm).2.2
  have h3 := h.ht.ph3 i hi
  have h4 := h.ht.rd4
  have hisB : isB (pS s.q.G i r).2.2 := encF_isB (h.ht.sok hC (by omega) (i + 1))
  obtain ⟨k1, k2⟩ := h.ht.client hC hi hr hm
  have e0 : rcv C cl n s ((i : Int) + 1) (pS s.q.G i r).2.2 = rcvC cl s i (pS s.q.G i r).2.2 := by
    unfold rcv; rw [if_pos (by omega), show ((i : Int) + 1).toNat - 1 = i by omega]
  have same : (s.gone i = true ∨ ph i ≠ r) → rcv C cl n s ((i : Int) + 1) (pS s.q.G i r).2.2 = s := fun q => by
    rw [e0]; unfold rcvC
    by_cases g : s.gone i = true
    · rw [if_pos g]
    · rw [if_neg g]
      have q' : ph i ≠ r := q.resolve_left g
      rw [h.st i hi, (k2 q').1, (k2 q').2, ← h.st i hi, updA_id]
      show (⟨s.q, s.cs, s.gone, s.fl ++ []⟩ : Sn) = s
      rw [List.append_nil]
  by_cases q : s.gone i = true ∨ ph i ≠ r
  · have e := same q
    rw [e, if_pos q, List.append_nil]
    refine ⟨ph, h, Ev.refl n s ph, rfl, rfl, ?_, fun _ => rfl, rfl, by rw [if_pos q]⟩
    rcases q with q | q
    · exact .inl q
    · exact .inr (by omega)
  · have g : ¬ s.gone i = true := fun k => q (.inl k)
    have er : ph i = r := Decidable.byContradiction fun k => q (.inr k)
    obtain ⟨a1, a2⟩ := k1 er
    rw [← h.st i hi] at a1 a2
    have hok := h.ok.rcv ((i : Int) + 1) hisB
    have hflb := h.flb.rcv h.ok ((i : Int) + 1) hisB
    have e1 : rcv C cl n s ((i : Int) + 1) (pS s.q.G i r).2.2 = { s with cs := updA s.cs i (stN s.q.G i (r + 1)), fl := s.fl ++ [pC cl s.q.G i (r + 1)] } := by
      rw [e0]; unfold rcvC; rw [if_neg g, a1, a2]; rfl
    rw [if_neg q]
    have ev : Ev n s (rcv C cl n s ((i : Int) + 1) (pS s.q.G i r).2.2) ph (updA ph i (r + 1)) := by
      rw [e1]
      refine ⟨Nat.le_refl _, fun _ _ => rfl, fun _ _ k => k, fun j hj => ?_, fun _ k => k, fun k => k⟩
      by_cases c : j = i
      · rw [c, updA_same]; omega
      · rw [updA_other _ _ _ c]; exact Nat.le_refl _
    have ht' : HT C cl n s.q.G s.q.rd (updA ph i (r + 1)) := by
      refine ⟨h.ht.good, h4, h.ht.late, h.ht.big, fun r' u l e => ?_, fun j hj => ?_, fun j hj hj1 => ?_⟩
      · obtain ⟨j, x1, x2, x3, x4⟩ := h.ht.tab r' u l e
        exact ⟨j, x1, x2, x3, Nat.le_trans x4 (ev.ph j x2)⟩
      · by_cases c : j = i
        · rw [c, updA_same]; omega
        · rw [updA_other _ _ _ c]; exact h.ht.ph3 j hj
      · by_cases c : j = i
        · rw [c, updA_same]; exact hm
        · rw [updA_other _ _ _ c] at hj1 ⊢; exact h.ht.phm j hj hj1
    refine ⟨updA ph i (r + 1), ⟨hok, hflb, ?_, fun j hj => ?_, fun p hp => ?_⟩, ev, by rw [e1], by rw [e1], .inr (by rw [updA_same]; omega), same, by rw [e1], by rw [if_neg q]⟩
    · rw [e1]; exact ht'
    · rw [e1]
      show updA s.cs i (stN s.q.G i (r + 1)) j = stN s.q.G j (updA ph i (r + 1) j)
      by_cases c : j = i
      · rw [c, updA_same, updA_same]
      · rw [updA_other _ _ _ c, updA_other _ _ _ c]; exact h.st j hj
    · rw [e1] at hp
      rcases List.mem_append.1 hp with hp | hp
      · exact (h.fl p hp).ev h.ht ev
      · rw [List.mem_singleton.1 hp, e1]
        exact .inl ⟨i, r + 1, hi, by rw [updA_same]; exact Nat.le_refl _, rfl⟩
theorem HI.tick (hC : Cast C cl n) (h : HI C cl n s ph) : HI C cl n (tickN C s) ph ∧ Ev n s (tickN C s) ph ph ∧ ∀ p ∈ tickK C s.q, ∃ i, i < n ∧ Srv.mem (s.q.G s.q.rd) (i + 1) = true ∧ p = pS s.q.G i s.q.rd ∧ (tickN C s).q.rd = s.q.rd + 1 := by
  have hok := h.ok.tick
  have hflb := h.flb.tick h.ok
  have hG : (Srv.tickS C s.q).G = s.q.G := Srv.tick_G C s.q
  have hrd : (Srv.tickS C s.q).rd = s.q.rd ∨ ((Srv.tickS C s.q).rd = s.q.rd + 1 ∧ s.q.rd ≠ 3 ∧ C.T ≤ (Srv.sizeR (s.q.G s.q.rd) : Int)) := by
    unfold Srv.tickS
    split
    · split
      · split
        · exact .inl rfl
        · rename_i hf
          split
          · exact .inl rfl
          · rename_i h3
            exact .inr ⟨rfl, h3, by unfold Srv.few at hf; simpa using hf⟩
      · exact .inl rfl
    · exact .inl rfl
  have h4 := h.ht.rd4
  have hout : s.q.out.1 ≠ 0 → (Srv.tickS C s.q).out.1 ≠ 0 := fun e => by
    unfold Srv.tickS; rw [if_neg (fun k => e (Srv.pend_iff.1 k))]; exact e
  have ev : Ev n s (tickN C s) ph ph := by
    refine ⟨?_, fun r _ => by show (Srv.tickS C s.q).G r = _; rw [hG], fun r u e => by show Srv.mem ((Srv.tickS C s.q).G r) u = true; rw [hG]; exact e, fun _ _ => Nat.le_refl _, fun _ e => e, hout⟩
    show s.q.rd ≤ (Srv.tickS C s.q).rd
    rcases hrd with e | e
    · rw [e]; exact Nat.le_refl _
    · rw [e.1]; exact Nat.le_succ _
  have hnew : ∀ p ∈ tickK C s.q, ∃ i, i < n ∧ Srv.mem (s.q.G s.q.rd) (i + 1) = true ∧ p = pS s.q.G i s.q.rd ∧ (tickN C s).q.rd = s.q.rd + 1 := fun p hp => by
    rcases (tickK_ok (s := s) hC h.ok.sok).2.2 with e | ⟨e1, e2, e3⟩
    · rw [e] at hp; cases hp
    · unfold tickK Srv.tickP at hp
      split at hp
      · obtain ⟨x, hx, rfl⟩ := List.mem_map.1 hp
        obtain ⟨u, hu, rfl⟩ := List.mem_map.1 hx
        have hm := (Srv.mem_lst.1 hu).2
        obtain ⟨i, rfl, hi, _⟩ := h.ht.row hm
        exact ⟨i, hi, hm, rfl, e3⟩
      · cases hp
  refine ⟨⟨hok, hflb, ?_, fun i hi => ?_, fun p hp => ?_⟩, ev, hnew⟩
  · show HT C cl n (Srv.tickS C s.q).G (Srv.tickS C s.q).rd ph
    rw [hG]
    rcases hrd with e | ⟨e, e3, et⟩
    · rw [e]; exact h.ht
    · rw [e]
      refine ⟨h.ht.good, by omega, fun r hr => h.ht.late r (by omega), fun r hr => ?_, h.ht.tab, fun i hi => ?_, h.ht.phm⟩
      · by_cases c : r = s.q.rd
        · rw [c]; exact et
        · exact h.ht.big r (by omega)
      · have := h.ht.ph3 i hi; omega
  · show s.cs i = stN (Srv.tickS C s.q).G i (ph i)
    rw [hG]; exact h.st i hi
  · rcases List.mem_append.1 hp with hp | hp
    · exact (h.fl p hp).ev h.ht ev
    · obtain ⟨i, hi, hm, rfl, e⟩ := hnew p hp
      refine .inr ⟨i, s.q.rd, hi, by rw [e]; exact Nat.le_refl _, ?_, ?_⟩
      · show Srv.mem ((Srv.tickS C s.q).G s.q.rd) (i + 1) = true; rw [hG]; exact hm
      · show _ = pS (Srv.tickS C s.q).G i s.q.rd; rw [hG]
theorem HI.less (h : HI C cl n s ph) (i : Nat) : HI C cl n { s with fl := s.fl.eraseIdx i } ph := ⟨h.ok.less i, h.flb.less i, h.ht, h.st, fun p hp => h.fl p (List.mem_of_mem_eraseIdx hp)⟩
theorem HI.rcv (hC : Cast C cl n) (h : HI C cl n s ph) {p : Pk} (hp : FP cl n s.q ph p) : ∃ ph', HI C cl n (rcv C cl n s p.2.1 p.2.2) ph' ∧ Ev n s (Go.Proofs.YtchideljndagjabGreat.rcv C cl n s p.2.1 p.2.2) ph ph' := by
  rcases hp with ⟨i, r, hi, hr, rfl⟩ | ⟨i, r, hi, hr, hm, rfl⟩
  · obtain ⟨a, b, _⟩ := h.toServer hC hi hr
    exact ⟨ph, a, b⟩
  · obtain ⟨ph', a, b, _⟩ := h.toClient hC hi hr hm
    exact ⟨ph', a, b⟩
theorem HI.act (hC : Cast C cl n) (h : HI C cl n s ph) {o : Stp} (ho : isB o.s) : ∃ ph', HI C cl n (actN C cl n false s o) ph' ∧ Ev n s (actN C cl n false s o) ph ph' := by
  have nothing : actN C cl n false s o = s → ∃ ph', HI C cl n (actN C cl n false s o) ph' ∧ Ev n s (actN C cl n false s o) ph ph' := fun e => by rw [e]; exact ⟨ph, h, Ev.refl n s ph⟩
  by_cases k1 : o.k = 1
  · by_cases h0 : 0 < s.fl.length
    · obtain ⟨p, hp, hm, _, e⟩ := deliver_some (C := C) (cl := cl) (n := n) k1 h0
      rw [e]
      obtain ⟨ph', a, b⟩ := (h.less (Num.pickN o.n s.fl.length).toNat).rcv hC (h.fl p hm)
      exact ⟨ph', a, b.fl2⟩
    · refine nothing ?_
      unfold actN; rw [if_pos k1, if_pos (by omega)]
  have hok := h.ok.act h.flb ho false
  have hflb := h.flb.act h.ok ho false
  by_cases k2 : o.k = 2
  · unfold actN at hok hflb ⊢
    rw [if_neg k1, if_pos k2] at hok hflb ⊢
    split
    · exact ⟨ph, h, Ev.refl n s ph⟩
    · unfold dropN; split
      · exact ⟨ph, h.less _, ⟨Nat.le_refl _, fun _ _ => rfl, fun _ _ k => k, fun _ _ => Nat.le_refl _, fun _ k => k, fun k => k⟩⟩
      · exact ⟨ph, h, Ev.refl n s ph⟩
  by_cases k3 : o.k = 3
  · unfold actN at hok hflb ⊢
    rw [if_neg k1, if_neg k2, if_pos k3] at hok hflb ⊢
    split
    · exact ⟨ph, h, Ev.refl n s ph⟩
    · rename_i c0
      rw [if_neg c0] at hok hflb
      unfold doubleN at hok hflb ⊢
      split
      · rename_i c1
        rw [if_pos c1] at hok hflb
        split
        · rename_i c2
          rw [if_pos c2] at hok hflb
          split
          · exact ⟨ph, h, Ev.refl n s ph⟩
          · rename_i p hp
            rw [hp] at hok hflb
            refine ⟨ph, ⟨hok, hflb, h.ht, h.st, fun x hx => ?_⟩, ⟨Nat.le_refl _, fun _ _ => rfl, fun _ _ k => k, fun _ _ => Nat.le_refl _, fun _ k => k, fun k => k⟩⟩
            rcases List.mem_append.1 hx with hx | hx
            · exact h.fl x hx
            · rw [List.mem_singleton.1 hx]; exact h.fl p (List.mem_of_getElem? hp)
        · exact ⟨ph, h, Ev.refl n s ph⟩
      · exact ⟨ph, h, Ev.refl n s ph⟩
  by_cases k4 : o.k = 4
  · refine nothing ?_
    unfold actN
    rw [if_neg k1, if_neg k2, if_neg k3, if_pos k4]
    split
    · rename_i c
      have hd : decF o.s = none := by
        rcases c with c | c
        · cases c
        · exact c
      unfold injectN
      split
      · exact rcv_none C cl n s _ hd
      · rfl
    · rfl
  by_cases k5 : o.k = 5
  · unfold actN
    rw [if_neg k1, if_neg k2, if_neg k3, if_neg k4, if_pos k5]
    obtain ⟨a, b, _⟩ := h.tick hC
    exact ⟨ph, a, b⟩
  unfold actN at hok hflb ⊢
  rw [if_neg k1, if_neg k2, if_neg k3, if_neg k4, if_neg k5] at hok hflb ⊢
  split
  · rename_i c
    rw [if_pos c] at hok hflb
    unfold crashU at hok hflb ⊢
    split
    · rename_i c'
      rw [if_pos c'] at hok hflb
      refine ⟨ph, ⟨hok, hflb, h.ht, h.st, h.fl⟩, ⟨Nat.le_refl _, fun _ _ => rfl, fun _ _ k => k, fun _ _ => Nat.le_refl _, fun j k => ?_, fun k => k⟩⟩
      show updA s.gone _ true j = true
      by_cases q : j = (1 + Num.pickN o.n C.N).toNat - 1
      · rw [q, updA_same]
      · rw [updA_other _ _ _ q]; exact k
    · exact ⟨ph, h, Ev.refl n s ph⟩
  · exact ⟨ph, h, Ev.refl n s ph⟩
def Spent (cl : Nat → Cl) (n : Nat) (s : Sn) (ph : Nat → Nat) (p : Pk) : Prop :=
  (∃ i r, i < n ∧ r ≤ ph i ∧ p = pC cl s.q.G i r ∧ (r < s.q.rd ∨ Srv.mem (s.q.G r) (i + 1) = true ∨ s.q.out.1 ≠ 0)) ∨
  ∃ i r, i < n ∧ r + 1 ≤ s.q.rd ∧ Srv.mem (s.q.G r) (i + 1) = true ∧ p = pS s.q.G i r ∧ (s.gone i = true ∨ r < ph i)
theorem Spent.ev (ht : HT C cl n s.q.G s.q.rd ph) (e : Ev n s s' ph ph') {p : Pk} (h : Spent cl n s ph p) : Spent cl n s' ph' p := by
  have h4 := ht.rd4
  rcases h with ⟨i, r, hi, hr, rfl, q⟩ | ⟨i, r, hi, hr, hm, rfl, q⟩
  · have h3 := ht.ph3 i hi
    refine .inl ⟨i, r, hi, Nat.le_trans hr (e.ph i hi), (pC_row (fun r' h' => e.row r' (by omega)) (by omega)).symm, ?_⟩
    rcases q with q | q | q
    · exact .inl (Nat.lt_of_lt_of_le q e.rd)
    · exact .inr (.inl (e.mem _ _ q))
    · exact .inr (.inr (e.out q))
  · refine .inr ⟨i, r, hi, Nat.le_trans hr e.rd, e.mem r _ hm, (pS_row (e.row r (by omega)) (by omega)).symm, ?_⟩
    rcases q with q | q
    · exact .inl (e.gone _ q)
    · exact .inr (Nat.lt_of_lt_of_le q (e.ph i hi))
theorem Spent.same (hC : Cast C cl n) (h : HI C cl n s ph) {p : Pk} (k : Spent cl n s ph p) : Go.Proofs.YtchideljndagjabGreat.rcv C cl n s p.2.1 p.2.2 = s ∧ 0 ≤ p.2.1 ∧ p.2.1 ≤ (n : Int) := by
  rcases k with ⟨i, r, hi, hr, rfl, q⟩ | ⟨i, r, hi, hr, hm, rfl, q⟩
  · obtain ⟨_, _, _, _, _, _, a⟩ := h.toServer hC hi hr
    refine ⟨a ?_, Int.le_refl _, by show (0 : Int) ≤ (n : Int); omega⟩
    rcases q with q | q | q
    · exact .inr (.inl (by omega))
    · exact .inl q
    · exact .inr (.inr q)
  · obtain ⟨ph', _, _, _, _, _, a, _⟩ := h.toClient hC hi hr hm
    refine ⟨a ?_, by show (0 : Int) ≤ (i : Int) + 1; omega, by show (i : Int) + 1 ≤ (n : Int); omega⟩
    rcases q with q | q
    · exact .inl q
    · exact .inr (by omega)
theorem HI.spends (hC : Cast C cl n) (h : HI C cl n s ph) {p : Pk} (hp : FP cl n s.q ph p) : ∃ ph', HI C cl n (Go.Proofs.YtchideljndagjabGreat.rcv C cl n s p.2.1 p.2.2) ph' ∧ Ev n s (Go.Proofs.YtchideljndagjabGreat.rcv C cl n s p.2.1 p.2.2) ph ph' ∧ Spent cl n (Go.Proofs.YtchideljndagjabGreat.rcv C cl n s p.2.1 p.2.2) ph' p := by
  have h4 := h.ht.rd4
  rcases hp with ⟨i, r, hi, hr, rfl⟩ | ⟨i, r, hi, hr, hm, rfl⟩
  · obtain ⟨a, b, _, _, _, c, _⟩ := h.toServer hC hi hr
    have h3 := h.ht.ph3 i hi
    refine ⟨ph, a, b, .inl ⟨i, r, hi, hr, (pC_row (fun r' h' => b.row r' (by omega)) (by omega)).symm, ?_⟩⟩
    by_cases q : r < s.q.rd
    · exact .inl (Nat.lt_of_lt_of_le q b.rd)
    · by_cases o : s.q.out.1 = 0
      · refine .inr (.inl ?_)
        show Srv.mem ((Go.Proofs.YtchideljndagjabGreat.rcv C cl n s 0 (pC cl s.q.G i r).2.2).q.G r) (i + 1) = true
        rw [c, decide_eq_true o, decide_eq_true ⟨by omega, rfl, rfl⟩]; simp
      · exact .inr (.inr (b.out o))
  · obtain ⟨ph', a, b, c1, c2, d, _⟩ := h.toClient hC hi hr hm
    refine ⟨ph', a, b, .inr ⟨i, r, hi, Nat.le_trans hr b.rd, b.mem _ _ hm, (pS_row (b.row r (by omega)) (by omega)).symm, ?_⟩⟩
    rcases d with d | d
    · exact .inl (b.gone _ d)
    · exact .inr d
theorem HI.delivered (hC : Cast C cl n) (h : HI C cl n s ph) {o : Stp} (ho : isB o.s) : ∃ ph', HI C cl n (actN C cl n false s o) ph' ∧ Ev n s (actN C cl n false s o) ph ph' ∧ ∀ p, actD s o = some p → FP cl n s.q ph p ∧ Spent cl n (actN C cl n false s o) ph' p := by
  by_cases k1 : o.k = 1
  · by_cases h0 : 0 < s.fl.length
    · obtain ⟨p, hp, hm, _, e⟩ := deliver_some (C := C) (cl := cl) (n := n) k1 h0
      rw [e]
      obtain ⟨ph', a, b, c⟩ := (h.less (Num.pickN o.n s.fl.length).toNat).spends hC (h.fl p hm)
      refine ⟨ph', a, b.fl2, fun p' hp' => ?_⟩
      rw [hp] at hp'
      cases hp'
      exact ⟨h.fl p hm, c⟩
    · obtain ⟨ph', a, b⟩ := h.act hC ho
      refine ⟨ph', a, b, fun p hp => ?_⟩
      have e : s.fl = [] := List.length_eq_zero_iff.1 (by omega)
      unfold actD at hp; rw [if_pos k1, e] at hp; cases hp
  · obtain ⟨ph', a, b⟩ := h.act hC ho
    refine ⟨ph', a, b, fun p hp => ?_⟩
    unfold actD at hp; rw [if_neg k1] at hp; cases hp
end
end Go.Proofs.YtchideljndagjabGreat
namespace Go.Proofs.YtchideljndagjabGreat
open Go.RowKit Cli Frm
set_option linter.unusedVariables false
def sR (f : Nat → Int) : Nat → Int
  | 0 => 0
  | n + 1 => sR f n + f n
theorem sR_range (f : Nat → Int) : ∀ n, ((List.range n).map f).sum = sR f n
  | 0 => rfl
  | n + 1 => by rw [List.range_succ, List.map_append, Srv.sum_app, sR_range f n]; simp [sR]
theorem sR_add (f g : Nat → Int) : ∀ n, sR (fun v => f v + g v) n = sR f n + sR g n
  | 0 => rfl
  | n + 1 => by show sR (fun v => f v + g v) n + (f n + g n) = sR f n + f n + (sR g n + g n); rw [sR_add f g n]; omega
theorem sR_neg (f : Nat → Int) : ∀ n, sR (fun v => - f v) n = - sR f n
  | 0 => rfl
  | n + 1 => by show sR (fun v => - f v) n + - f n = - (sR f n + f n); rw [sR_neg f n]; omega
theorem sR_ext {f g : Nat → Int} : ∀ n, (∀ v, v < n → f v = g v) → sR f n = sR g n
  | 0, _ => rfl
  | n + 1, h => by show sR f n + f n = sR g n + g n; rw [sR_ext n (fun v hv => h v (by omega)), h n (by omega)]
theorem sR_mod {f g : Nat → Int} : ∀ n, (∀ v, v < n → ∃ t : Int, f v = g v + 4294967296 * t) → ∃ t : Int, sR f n = sR g n + 4294967296 * t
  | 0, _ => ⟨0, rfl⟩
  | n + 1, h => by
    obtain ⟨t, e⟩ := sR_mod n (fun v hv => h v (by omega))
    obtain ⟨t', e'⟩ := h n (by omega)
    refine ⟨t + t', ?_⟩
    show sR f n + f n = sR g n + g n + _
    omega
theorem sR_lst (p : Nat → Bool) (f : Nat → Int) : ((Srv.lst p).map f).sum = sR (fun v => if p v = true then f v else 0) 13 := by
  unfold Srv.lst Srv.lstN; rw [Srv.sum_filter, sR_range]
theorem sR_anti {A : Nat → Nat → Int} (h : ∀ v u, A v u = - A u v) : ∀ n, sR (fun v => sR (A v) n) n = 0
  | 0 => rfl
  | n + 1 => by
    show sR (fun v => sR (A v) n + A v n) n + (sR (A n) n + A n n) = 0
    rw [sR_add (fun v => sR (A v) n) (fun v => A v n), sR_anti h n]
    have e : sR (A n) n = - sR (fun v => A v n) n := by rw [← sR_neg]; exact sR_ext n (fun v _ => h n v)
    have e2 : A n n = 0 := by have := h n n; omega
    rw [e, e2]; omega

section
variable {C : Srv.Cf} {cl : Nat → Cl} {n : Nat} {G : Srv.Tab} {ph : Nat → Nat}
theorem HT.secret (h : HT C cl n G 3 ph) (hC : Cast C cl n) (hT : C.T ≤ (Srv.sizeR (G 3) : Int)) {j : Nat} (mj : Srv.mem (G 1) (j + 1) = true) : Srv.secret G (j + 1) = if Srv.mem (G 2) (j + 1) = true then (cl j).sd else (cl j).ms := by
  obtain ⟨_, hj, _⟩ := h.its mj
  have hg := hC.good j hj
  have hTj := hC.T j hj
  obtain ⟨S, ds, e1, e2, e3, e4⟩ : ∃ S ds, (if Srv.mem (G 2) (j + 1) = true then (cl j).sd else (cl j).ms) = S ∧ (0 ≤ S ∧ S < 2305843009213693951) ∧ ((ds : List Int).length : Int) = C.T - 1 ∧ ∀ x : Int, (if Srv.mem (G 2) (j + 1) = true then Pol.polyP (cl j).sd (cl j).ss x else Pol.polyP (cl j).ms (cl j).sm x) = Pol.polyP S ds x := by
    by_cases q : Srv.mem (G 2) (j + 1) = true
    · exact ⟨(cl j).sd, (cl j).ss, if_pos q, hg.sd, by rw [hg.ssl, hTj], fun x => if_pos q⟩
    · exact ⟨(cl j).ms, (cl j).sm, if_neg q, hg.ms, by rw [hg.sml, hTj], fun x => if_neg q⟩
  rw [e1]
  have hp : Srv.tellPts G (j + 1) = Lag.pts (Pol.polyP S ds) ((Srv.lst (Srv.mem (G 3))).map fun w : Nat => (w : Int)) := by
    unfold Srv.tellPts Srv.tellN Lag.pts
    rw [List.map_map]
    apply List.map_congr_left
    intro w hw
    have m3 := (Srv.mem_lst.1 hw).2
    obtain ⟨i, rfl, hi, _⟩ := h.row m3
    have m2 := h.down (by omega : 2 ≤ 3) m3
    obtain ⟨ei, _⟩ := h.its m3
    have et := h.tellItem hC (by omega) m2 mj
    show (((i + 1 : Nat) : Int), (itemOf (Srv.its (G 3) (i + 1)) ((j + 1 : Nat) : Int)).2.2.1) = (((i + 1 : Nat) : Int), Pol.polyP S ds ((i + 1 : Nat) : Int))
    rw [ei, ← e4]
    show (((i + 1 : Nat) : Int), (itemOf (tells (cl i) (Srv.sendsL G 0 (i + 1)) (Srv.sendsL G 1 (i + 1)) (Srv.sendsL G 2 (i + 1))) ((j : Int) + 1)).2.2.1) = _
    rw [et]; rfl
  have hx : Lag.goodX ((Srv.lst (Srv.mem (G 3))).map fun w : Nat => (w : Int)) := by
    refine ⟨fun k hk => ?_, ?_⟩
    · obtain ⟨w, hw, rfl⟩ := List.mem_map.1 hk
      have := h.good.mem (Srv.mem_lst.1 hw).2
      unfold Lag.small; omega
    · have : ((Srv.lst (Srv.mem (G 3))).map fun w : Nat => (w : Int)).Pairwise (· < ·) := by
        rw [List.pairwise_map]; exact (Srv.lst_pair _).imp (fun {a b} h => by show (a : Int) < (b : Int); omega)
      exact this.imp (fun {a b} h => by omega)
  have hl : ds.length < ((Srv.lst (Srv.mem (G 3))).map fun w : Nat => (w : Int)).length := by
    rw [List.length_map]; unfold Srv.sizeR at hT; omega
  have key := Lag.cg_iff.1 (Lag.lam_poly S ds _ hl hx)
  unfold Srv.secret
  rw [hp]
  unfold Lag.joinN
  rw [key]; omega
def btw (cl : Nat → Cl) (i v u : Nat) : Int := if v < u then Num.strAt (mk2 cl (v - 1) (u - 1)) i else if u < v then - Num.strAt (mk2 cl (v - 1) (u - 1)) i else 0
theorem btw_anti (cl : Nat → Cl) (i v u : Nat) : btw cl i v u = - btw cl i u v := by
  unfold btw
  rw [mk2_swap cl (u - 1) (v - 1)]
  by_cases a : v < u
  · rw [if_pos a, if_neg (by omega), if_pos a]; omega
  · by_cases b : u < v
    · rw [if_neg a, if_pos b, if_pos b]
    · rw [if_neg a, if_neg b, if_neg b, if_neg a]; rfl
def both (G : Srv.Tab) (v u : Nat) : Bool := (Srv.mem (G 2) v && Srv.mem (G 1) u) || (Srv.mem (G 1) v && Srv.mem (G 2) u)
theorem both_swap (G : Srv.Tab) (v u : Nat) : both G v u = both G u v := by
  unfold both; rw [Bool.and_comm (Srv.mem (G 2) v), Bool.and_comm (Srv.mem (G 1) v), Bool.or_comm]
def btA (cl : Nat → Cl) (G : Srv.Tab) (i v u : Nat) : Int := if both G v u = true then btw cl i v u else 0
theorem btA_anti (cl : Nat → Cl) (G : Srv.Tab) (i v u : Nat) : btA cl G i v u = - btA cl G i u v := by
  unfold btA; rw [both_swap G u v, btw_anti cl i v u]; split <;> omega
theorem HT.masks (h : HT C cl n G 3 ph) (hC : Cast C cl n) {j : Nat} (mj : Srv.mem (G 2) (j + 1) = true) (i : Nat) : maskSum (cl j) (Srv.sendsL G 0 (j + 1)) (Srv.sendsL G 1 (j + 1)) i = (cl j).inp.getD i 0 + Num.strAt (cl j).sd i + sR (btA cl G i (j + 1)) 13 := by
  obtain ⟨_, hj, _⟩ := h.its mj
  have m1 := h.down (by omega : 1 ≤ 2) mj
  unfold maskSum
  congr 1
  rw [box_form, List.map_map, sR_lst]
  apply sR_ext
  intro u hu
  show (if Srv.without (Srv.mem (G 1)) (j + 1) u = true then (if (cl j).id < ((u : Nat) : Int) then Num.strAt (mkKey (cl j) (Srv.sendsL G 0 (j + 1)) ((u : Nat) : Int)) i else - Num.strAt (mkKey (cl j) (Srv.sendsL G 0 (j + 1)) ((u : Nat) : Int)) i) else 0) = btA cl G i (j + 1) u
  have hb : both G (j + 1) u = Srv.mem (G 1) u := by
    unfold both
    rw [mj, m1, Bool.true_and, Bool.true_and]
    cases q : Srv.mem (G 2) u with
    | true => rw [h.down (by omega : 1 ≤ 2) q]; rfl
    | false => rw [Bool.or_false]
  unfold btA
  rw [hb]
  unfold Srv.without
  by_cases q : Srv.mem (G 1) u = true
  · rw [q, Bool.true_and, if_pos rfl]
    obtain ⟨k, rfl, hk, _⟩ := h.row q
    have hm := h.mask hC (i := j) (h.down (by omega : 0 ≤ 1) q)
    have hid := hC.id j hj
    unfold btw
    by_cases c : k = j
    · subst c
      rw [if_neg (by simp), if_neg (by omega), if_neg (by omega)]
    · rw [if_pos (decide_eq_true (by omega))]
      rw [show (((k + 1 : Nat) : Int)) = (k : Int) + 1 by omega, hm, hid]
      by_cases l : j < k
      · rw [if_pos (by omega), if_pos (by omega)]; rfl
      · rw [if_neg (by omega), if_neg (by omega), if_pos (by omega)]; rfl
  · rw [Bool.eq_false_iff.2 q, Bool.false_and, if_neg Bool.false_ne_true, if_neg Bool.false_ne_true]
theorem HT.each (h : HT C cl n G 3 ph) (hC : Cast C cl n) (hT : C.T ≤ (Srv.sizeR (G 3) : Int)) {i : Nat} (hi : (i : Int) < C.M) (v : Nat) (hv : v < 13) :
    ∃ t : Int, (if Srv.mem (G 1) v = true then Srv.addV G i v else 0) = ((if Srv.mem (G 2) v = true then (cl (v - 1)).inp.getD i 0 else 0) + sR (btA cl G i v) 13) + 4294967296 * t := by
  by_cases m1 : Srv.mem (G 1) v = true
  · obtain ⟨j, rfl, hj, _⟩ := h.row m1
    have hs := h.secret hC hT m1
    rw [if_pos m1]
    unfold Srv.addV
    by_cases m2 : Srv.mem (G 2) (j + 1) = true
    · rw [if_pos m2, if_pos m2, hs, if_pos m2, (h.its m2).1]
      have e : (it (ansL cl G j 2) i).2.1 = maskSum (cl j) (Srv.sendsL G 0 (j + 1)) (Srv.sendsL G 1 (j + 1)) i % 4294967296 := by
        show (it (masking (cl j) (Srv.sendsL G 0 (j + 1)) (Srv.sendsL G 1 (j + 1))) i).2.1 = _
        rw [masking_it _ _ _ i (by rw [hC.M j hj]; omega)]
      rw [e, h.masks hC m2]
      refine ⟨- (((cl j).inp.getD i 0 + Num.strAt (cl j).sd i + sR (btA cl G i (j + 1)) 13) / 4294967296), ?_⟩
      show _ = (cl j).inp.getD i 0 + _ + _
      omega
    · rw [if_neg m2, if_neg m2]
      refine ⟨0, ?_⟩
      rw [sR_lst]
      have : sR (fun u => if Srv.mem (G 2) u = true then Srv.offV G (j + 1) i u else 0) 13 = sR (btA cl G i (j + 1)) 13 := by
        apply sR_ext
        intro u hu
        have hb : both G (j + 1) u = Srv.mem (G 2) u := by
          unfold both; rw [Bool.eq_false_iff.2 m2, m1, Bool.false_and, Bool.false_or, Bool.true_and]
        unfold btA
        rw [hb]
        by_cases q : Srv.mem (G 2) u = true
        · rw [if_pos q, if_pos q]
          obtain ⟨k, rfl, hk, _⟩ := h.row q
          have hne : k ≠ j := fun e => m2 (by rw [← e]; exact q)
          have hpub := (h.pub hC (h.down (by omega : 0 ≤ 2) q)).2.1
          unfold Srv.offV btw
          rw [hs, if_neg m2, hpub]
          have ek : Num.powP (pubB (cl k)) (cl j).ms = mk2 cl (j + 1 - 1) (k + 1 - 1) := by
            rw [show j + 1 - 1 = j by omega, show k + 1 - 1 = k by omega, mk2_swap]; rfl
          rw [ek]
          by_cases l : k < j
          · rw [if_pos (by omega), if_neg (by omega), if_pos (by omega)]
          · rw [if_neg (by omega), if_pos (by omega)]
        · rw [if_neg q, if_neg q]
      rw [this]; omega
  · have m2 : ¬ Srv.mem (G 2) v = true := fun q => m1 (h.down (by omega : 1 ≤ 2) q)
    rw [if_neg m1, if_neg m2]
    refine ⟨0, ?_⟩
    have : sR (btA cl G i v) 13 = sR (fun _ => 0) 13 := by
      apply sR_ext
      intro u _
      unfold btA both
      rw [Bool.eq_false_iff.2 m1, Bool.eq_false_iff.2 m2]; rfl
    rw [this]; rfl
def inpSum (cl : Nat → Cl) (p : Nat → Bool) (i : Nat) : Int := ((Srv.lst p).map fun v => (cl (v - 1)).inp.getD i 0).sum
theorem HT.total (h : HT C cl n G 3 ph) (hC : Cast C cl n) (hT : C.T ≤ (Srv.sizeR (G 3) : Int)) {i : Nat} (hi : (i : Int) < C.M) : Srv.totP G i = inpSum cl (Srv.mem (G 2)) i % 4294967296 := by
  rw [Srv.tot_eq h.good hi]
  unfold Srv.rtot inpSum
  rw [sR_lst, sR_lst]
  obtain ⟨t, e⟩ := sR_mod 13 (h.each hC hT hi)
  rw [e, sR_add (fun v => if Srv.mem (G 2) v = true then (cl (v - 1)).inp.getD i 0 else 0) (fun v => sR (btA cl G i v) 13), sR_anti (btA_anti cl G i) 13]
  omega
theorem HT.sumL (h : HT C cl n G 3 ph) (hC : Cast C cl n) (hT : C.T ≤ (Srv.sizeR (G 3) : Int)) : Srv.sumL C G = (List.range C.M.toNat).map fun i => inpSum cl (Srv.mem (G 2)) i % 4294967296 := by
  unfold Srv.sumL
  apply List.map_congr_left
  intro i hi
  have := List.mem_range.1 hi
  exact h.total hC hT (by omega)
end
end Go.Proofs.YtchideljndagjabGreat
