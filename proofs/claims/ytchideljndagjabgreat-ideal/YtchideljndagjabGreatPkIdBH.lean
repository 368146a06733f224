/- A session, plainly, whatever comes: what joins the flight, how much there is room for, what an outcome can be. -/
import Derived.Test.YtchideljndagjabGreatPkIdBG
namespace Go.Proofs.YtchideljndagjabGreat
open Go.RowKit
set_option linter.unusedVariables false
def rcvP (cl : Nat → Cli.Cl) (n : Nat) (s : Sn) (d : Int) (zs : List Int) : List Pk := if 1 ≤ d ∧ d ≤ (n : Int) then (if s.gone (d.toNat - 1) = true then [] else ansP (d.toNat - 1) (ansD (cl (d.toNat - 1)) (s.cs (d.toNat - 1)) zs)) else []
def newP (C : Srv.Cf) (cl : Nat → Cli.Cl) (n : Nat) (forged : Bool) (s : Sn) (o : Stp) : List Pk :=
  if o.k = 1 then (match actD s o with | none => [] | some p => rcvP cl n s p.2.1 p.2.2)
  else if o.k = 4 then (if forged = true ∨ Frm.decF o.s = none then rcvP cl n s (Num.pickN o.m (C.N + 1)) o.s else [])
  else if o.k = 5 then tickK C s.q else []
theorem pick_in {c : Int} {n : Nat} (h : 0 < n) : 0 ≤ Num.pickN c n ∧ Num.pickN c n < (n : Int) ∧ (Num.pickN c n).toNat < n := by
  have h1 := Num.pickN_lo c n (by omega)
  have h2 := Num.pickN_hi c n (by omega)
  omega
section
variable {C : Srv.Cf} {cl : Nat → Cli.Cl} {n : Nat} {s : Sn}
theorem deliver_some {o : Stp} (h1 : o.k = 1) (h0 : 0 < s.fl.length) : ∃ p, actD s o = some p ∧ p ∈ s.fl ∧ actN C cl n true s o = rcv C cl n { s with fl := s.fl.eraseIdx (Num.pickN o.n s.fl.length).toNat } p.2.1 p.2.2 ∧ actN C cl n false s o = rcv C cl n { s with fl := s.fl.eraseIdx (Num.pickN o.n s.fl.length).toNat } p.2.1 p.2.2 := by
  obtain ⟨a1, a2, a3⟩ := pick_in (c := o.n) h0
  have e : s.fl[(Num.pickN o.n s.fl.length).toNat]? = some s.fl[(Num.pickN o.n s.fl.length).toNat] := List.getElem?_eq_getElem a3
  have k : ∀ f, actN C cl n f s o = rcv C cl n { s with fl := s.fl.eraseIdx (Num.pickN o.n s.fl.length).toNat } (s.fl[(Num.pickN o.n s.fl.length).toNat]).2.1 (s.fl[(Num.pickN o.n s.fl.length).toNat]).2.2 := fun f => by
    unfold actN deliverN
    rw [if_pos h1, if_neg (by omega), if_pos ⟨a1, a2⟩, e]
  exact ⟨_, by unfold actD; rw [if_pos h1]; exact e, List.getElem_mem a3, k _, k _⟩
theorem inject_pick (hn : C.N = (n : Int)) (s : Sn) (m : Int) (zs : List Int) : injectN C cl n s (Num.pickN m (C.N + 1)) zs = rcv C cl n s (Num.pickN m (C.N + 1)) zs := by
  have h1 := Num.pickN_lo m (C.N + 1) (by omega)
  have h2 := Num.pickN_hi m (C.N + 1) (by omega)
  unfold injectN; rw [if_pos ⟨h1, by omega⟩]
end
theorem pair_lenN {l : List Frm.It} {N : Nat} (h1 : l.Pairwise (fun x y => x.1 < y.1)) (h2 : ∀ x ∈ l, 1 ≤ x.1 ∧ x.1 ≤ (N : Int)) : l.length ≤ N := by
  have key : ∀ i (hi : i < l.length), (i : Int) + 1 ≤ (l[i]).1 := by
    intro i
    induction i with
    | zero => intro hi; have := h2 _ (List.getElem_mem hi); omega
    | succ i ih =>
      intro hi
      have a := ih (by omega)
      have b := List.pairwise_iff_getElem.1 h1 i (i + 1) (by omega) hi (by omega)
      omega
  rcases Nat.eq_zero_or_pos l.length with h | h
  · omega
  · have a := key (l.length - 1) (by omega)
    have b := h2 _ (List.getElem_mem (show l.length - 1 < l.length by omega))
    omega
def most (C : Srv.Cf) : Int := if C.N < C.M then C.M else C.N
theorem enc_most {k fr : Int} {l : List Frm.It} {X : Int} (h : (l.length : Int) ≤ X) : ((Frm.encF k fr l).length : Int) ≤ 3 + 25 * X := by
  have q2 := Frm.wid_le k
  rw [Frm.encF_length]; unfold Frm.size
  have : l.length * (1 + 8 * Frm.wid k) ≤ l.length * 25 := Nat.mul_le_mul_left _ (by omega)
  omega
theorem rise_le {l : List Frm.It} {N : Int} (hr : Frm.riseB l = true) (h : ∀ x ∈ l, x.1 ≤ N) : (l.length : Int) ≤ N ∨ l = [] := by
  obtain ⟨p1, p2⟩ := Cli.rise_pair hr
  cases l with
  | nil => exact .inr rfl
  | cons x t =>
    have h0 := p2 x List.mem_cons_self
    have h1 := h x List.mem_cons_self
    have := pair_lenN (N := N.toNat) p1 (fun y hy => ⟨(p2 y hy).1, by have := h y hy; omega⟩)
    exact .inl (by omega)
def CI (c : Cli.Cl) (st : Cli.St) : Prop := ((st.1 = 2 ∨ st.1 = 3) → ∀ x ∈ st.2.1, x.1 ≤ c.N) ∧ (st.1 = 3 → ∀ x ∈ st.2.2.1, x.1 ≤ c.N)
theorem keys_le {c : Cli.Cl} {l : List Frm.It} (h : Cli.keysAgree c l = true) : ∀ x ∈ l, x.1 ≤ c.N := by
  unfold Cli.keysAgree at h
  rw [Bool.and_eq_true] at h
  exact fun x hx => by simpa using List.all_eq_true.1 h.1 x hx
theorem box_le {c : Cli.Cl} {k l : List Frm.It} (hk : ∀ x ∈ k, x.1 ≤ c.N) (h : Cli.boxAgree c k l = true) : ∀ x ∈ l, x.1 ≤ c.N := by
  unfold Cli.boxAgree at h
  rw [Bool.and_eq_true, Bool.and_eq_true] at h
  intro x hx
  have := List.all_eq_true.1 h.2.2 x hx
  rw [Bool.and_eq_true] at this
  obtain ⟨y, hy, e⟩ := Cli.hasI_iff.1 this.1
  rw [← e]; exact hk y hy
theorem CI.step {c : Cli.Cl} {s : Cli.St} (h : CI c s) (zs : List Int) : CI c (stepD c s zs) := by
  cases hd : Frm.decF zs with
  | none => rw [(stepD_none hd).1]; exact h
  | some g =>
    obtain ⟨k, fr, l⟩ := g
    by_cases k1 : s.1 = 1 ∧ k = 2
    · obtain ⟨p1, rfl⟩ := k1
      rw [(stepD_keys (c := c) hd p1).1]
      by_cases q : Cli.keysAgree c l = true
      · rw [if_pos q]; exact ⟨fun _ => keys_le q, fun e => absurd e (by show ¬ (2 : Int) = 3; omega)⟩
      · rw [if_neg q]; exact ⟨fun e => absurd e (by show ¬ ((0 : Int) = 2 ∨ (0 : Int) = 3); omega), fun e => absurd e (by show ¬ (0 : Int) = 3; omega)⟩
    by_cases k2 : s.1 = 2 ∧ k = 4
    · obtain ⟨p1, rfl⟩ := k2
      rw [(stepD_box (c := c) hd p1).1]
      by_cases q : Cli.boxAgree c s.2.1 l = true
      · rw [if_pos q]; exact ⟨fun _ => h.1 (.inl p1), fun _ => box_le (h.1 (.inl p1)) q⟩
      · rw [if_neg q]; exact ⟨fun e => absurd e (by show ¬ ((0 : Int) = 2 ∨ (0 : Int) = 3); omega), fun e => absurd e (by show ¬ (0 : Int) = 3; omega)⟩
    by_cases k3 : s.1 = 3 ∧ k = 6
    · obtain ⟨p1, rfl⟩ := k3
      rw [(stepD_ask (c := c) hd p1).1]
      by_cases q : Cli.askAgree c s.2.2.1 l = true
      · rw [if_pos q]; exact ⟨fun e => absurd e (by show ¬ ((4 : Int) = 2 ∨ (4 : Int) = 3); omega), fun e => absurd e (by show ¬ (4 : Int) = 3; omega)⟩
      · rw [if_neg q]; exact ⟨fun e => absurd e (by show ¬ ((0 : Int) = 2 ∨ (0 : Int) = 3); omega), fun e => absurd e (by show ¬ (0 : Int) = 3; omega)⟩
    rw [(stepD_rest (c := c) hd k1 k2 k3).1]; exact h
theorem ans_most {c : Cli.Cl} (hc : Cli.Good c) {s : Cli.St} (h : CI c s) {zs : List Int} (hB : Frm.isB zs) {f : Cli.Fr} (hf : ansD c s zs = some f) : f.2.1 = c.id ∧ ((f.2.2.length : Int) ≤ c.N ∨ (f.2.2.length : Int) ≤ c.M) := by
  have hn := hc.n
  cases hd : Frm.decF zs with
  | none => rw [(stepD_none hd).2] at hf; cases hf
  | some g =>
    obtain ⟨k, fr, l⟩ := g
    by_cases k1 : s.1 = 1 ∧ k = 2
    · obtain ⟨p1, rfl⟩ := k1
      rw [(stepD_keys (c := c) hd p1).2] at hf
      by_cases q : Cli.keysAgree c l = true
      · rw [if_pos q] at hf; cases hf
        refine ⟨rfl, .inl ?_⟩
        show ((Cli.sharing c l).length : Int) ≤ c.N
        have h1 : (Cli.sharing c l).length ≤ l.length := by unfold Cli.sharing; rw [List.length_map]; exact List.length_filter_le _ _
        rcases rise_le (Frm.okF_parts (Frm.enc_dec hB hd).1).2.2.1 (keys_le q) with h2 | h2
        · omega
        · rw [h2] at h1 ⊢; rw [List.length_nil] at h1; omega
      · rw [if_neg q] at hf; cases hf
    by_cases k2 : s.1 = 2 ∧ k = 4
    · obtain ⟨p1, rfl⟩ := k2
      rw [(stepD_box (c := c) hd p1).2] at hf
      split at hf
      · cases hf
        refine ⟨rfl, .inr ?_⟩
        show ((Cli.masking c s.2.1 l).length : Int) ≤ c.M
        have := hc.m
        rw [Cli.masking_length]; omega
      · cases hf
    by_cases k3 : s.1 = 3 ∧ k = 6
    · obtain ⟨p1, rfl⟩ := k3
      rw [(stepD_ask (c := c) hd p1).2] at hf
      split at hf
      · cases hf
        refine ⟨rfl, .inl ?_⟩
        show ((Cli.tells c s.2.1 s.2.2.1 l).length : Int) ≤ c.N
        have hi := hc.i
        have hle : ∀ x ∈ Cli.tells c s.2.1 s.2.2.1 l, x.1 ≤ c.N := fun x hx => by
          unfold Cli.tells at hx
          obtain ⟨v, hv, rfl⟩ := List.mem_map.1 hx
          have hv2 := (List.mem_filter.1 hv).2
          rw [Bool.or_eq_true] at hv2
          show (v : Int) + 1 ≤ c.N
          rcases hv2 with q | q
          · obtain ⟨y, hy, e⟩ := Cli.hasI_iff.1 q
            rw [← e]; exact h.2 p1 y hy
          · rw [of_decide_eq_true q]; exact hi.2
        rcases rise_le (Frm.okF_parts (Cli.tells_ok hc s.2.1 s.2.2.1 l)).2.2.1 hle with h2 | h2
        · exact h2
        · rw [h2]; simp; omega
      · cases hf
    rw [(stepD_rest (c := c) hd k1 k2 k3).2] at hf
    cases hf
structure ParOk (C : Srv.Cf) (p : Pk) : Prop where
  dec : ∃ k l, Frm.decF p.2.2 = some (k, p.1, l)
  len : (p.2.2.length : Int) ≤ 3 + 25 * most C
  fr : 0 ≤ p.1 ∧ p.1 ≤ C.N
  dst : 0 ≤ p.2.1 ∧ p.2.1 ≤ C.N
  one : (p.1 = 0 ∧ p.2.1 ≠ 0) ∨ (p.1 ≠ 0 ∧ p.2.1 = 0)
section
variable {C : Srv.Cf} {cl : Nat → Cli.Cl} {n : Nat} {s : Sn}
theorem rcvP_cases (hC : Cast C cl n) (hci : ∀ i, i < n → CI (cl i) (s.cs i)) (d : Int) {zs : List Int} (hB : Frm.isB zs) : rcvP cl n s d zs = [] ∨ ∃ i f, i < n ∧ d = (i : Int) + 1 ∧ s.gone i = false ∧ ansD (cl i) (s.cs i) zs = some f ∧ rcvP cl n s d zs = [((i : Int) + 1, 0, Frm.encF f.1 f.2.1 f.2.2)] ∧ ParOk C ((i : Int) + 1, 0, Frm.encF f.1 f.2.1 f.2.2) := by
  unfold rcvP
  by_cases q : 1 ≤ d ∧ d ≤ (n : Int)
  · rw [if_pos q]
    by_cases hg : s.gone (d.toNat - 1) = true
    · rw [if_pos hg]; exact .inl rfl
    · rw [if_neg hg]
      have hi : d.toNat - 1 < n := by omega
      cases e : ansD (cl (d.toNat - 1)) (s.cs (d.toNat - 1)) zs with
      | none => exact .inl rfl
      | some f =>
        refine .inr ⟨d.toNat - 1, f, hi, by omega, Bool.eq_false_iff.2 hg, e, rfl, ?_⟩
        obtain ⟨h1, h2⟩ := ans_most (hC.good _ hi) (hci _ hi) hB e
        rw [hC.N _ hi, hC.M _ hi] at h2
        have hid := hC.id _ hi
        have hnum := hC.num
        refine ⟨⟨f.1, f.2.2, ?_⟩, enc_most ?_, ⟨by show (0 : Int) ≤ _ + 1; omega, by show ((d.toNat - 1 : Nat) : Int) + 1 ≤ _; omega⟩, ⟨Int.le_refl _, by show (0 : Int) ≤ _; omega⟩, .inr ⟨by show ¬ ((d.toNat - 1 : Nat) : Int) + 1 = 0; omega, rfl⟩⟩
        · rw [Frm.dec_enc (ansD_okS (hC.good _ hi) hB e), h1, hid]
        · unfold most
          by_cases c : C.N < C.M
          · rw [if_pos c]; omega
          · rw [if_neg c]; omega
  · rw [if_neg q]; exact .inl rfl
theorem tickK_ok (hC : Cast C cl n) (hs : s.q.out.1 = 0 → Srv.SOk C s.q) : (∀ p ∈ tickK C s.q, ParOk C p ∧ p.1 = 0) ∧ ((tickK C s.q).length : Int) ≤ C.N ∧ (tickK C s.q = [] ∨ s.q.out.1 = 0 ∧ s.q.rd < 3 ∧ (Srv.tickS C s.q).rd = s.q.rd + 1) := by
  have hn := hC.gc.n
  by_cases h : (Srv.pend s.q && (Srv.due C s.q && (!Srv.few C s.q && decide (s.q.rd ≠ 3)))) = true
  · have h' := h
    rw [Bool.and_eq_true, Bool.and_eq_true, Bool.and_eq_true] at h'
    obtain ⟨h1, h2, h3, h4⟩ := h'
    have hp := Srv.pend_iff.1 h1
    have ok := hs hp
    have hr : s.q.rd ≠ 3 := of_decide_eq_true h4
    have hf : ¬ ((Srv.sizeR (s.q.G s.q.rd) : Int) < C.T) := by unfold Srv.few at h3; simpa using h3
    have ht := hC.gc.t
    have hrd := ok.rd
    have e : tickK C s.q = ((Srv.lst (Srv.mem (s.q.G s.q.rd))).map fun u : Nat => ((u : Int), Frm.encF (2 * (s.q.rd : Int) + 2) 0 (Srv.sendsL s.q.G s.q.rd u))).map fun p => ((0 : Int), p.1, p.2) := by unfold tickK Srv.tickP; rw [if_pos h]
    have hle : ∀ r, (((Srv.lst (Srv.mem (s.q.G r))).length : Nat) : Int) ≤ C.N := fun r => by
      have q := pair_lenN (l := (Srv.lst (Srv.mem (s.q.G r))).map fun u : Nat => ((u : Int), (0 : Int), (0 : Int), (0 : Int))) (N := C.N.toNat) (by rw [List.pairwise_map]; exact (Srv.lst_pair _).imp (fun {a b} h => by show (a : Int) < (b : Int); omega)) (fun x hx => by
        obtain ⟨u, hu, rfl⟩ := List.mem_map.1 hx
        have := ok.good.mem (Srv.mem_lst.1 hu).2
        show 1 ≤ (u : Int) ∧ (u : Int) ≤ _
        omega)
      rw [List.length_map] at q
      omega
    refine ⟨fun p hp => ?_, by rw [e, List.length_map, List.length_map]; exact hle _, .inr ⟨hp, by omega, ?_⟩⟩
    · rw [e] at hp
      obtain ⟨x, hx, rfl⟩ := List.mem_map.1 hp
      obtain ⟨u, hu, rfl⟩ := List.mem_map.1 hx
      obtain ⟨g1, g2, g3, g4, _⟩ := ok.good.mem (Srv.mem_lst.1 hu).2
      have hok := Srv.sends_ok ok.good s.q.rd u (by omega) (by omega)
      refine ⟨⟨⟨_, _, Frm.dec_enc hok⟩, enc_most ?_, ⟨Int.le_refl _, by show (0 : Int) ≤ _; omega⟩, ⟨by show (0 : Int) ≤ (u : Int); omega, g3⟩, .inl ⟨rfl, by show ¬ (u : Int) = 0; omega⟩⟩, rfl⟩
      have hl : ((Srv.sendsL s.q.G s.q.rd u).length : Int) ≤ C.N := by
        unfold Srv.sendsL
        split
        · unfold Srv.keysN; rw [List.length_map]; exact hle 0
        · split
          · unfold Srv.boxN; rw [List.length_map]
            have : (Srv.lstN (Srv.without (Srv.mem (s.q.G 1)) u) 13).length ≤ (Srv.lstN (Srv.mem (s.q.G 1)) 13).length := by
              have e1 : Srv.lstN (Srv.without (Srv.mem (s.q.G 1)) u) 13 = (Srv.lstN (Srv.mem (s.q.G 1)) 13).filter (fun v => decide (v ≠ u)) := by
                unfold Srv.lstN; rw [List.filter_filter]; congr 1; funext v; unfold Srv.without; exact Bool.and_comm _ _
              rw [e1]; exact List.length_filter_le _ _
            have := hle 1
            unfold Srv.lst at this
            omega
          · unfold Srv.askN; rw [List.length_map]; exact hle 2
      unfold most
      by_cases c : C.N < C.M
      · rw [if_pos c]; omega
      · rw [if_neg c]; exact hl
    · unfold Srv.tickS; rw [if_pos h1, if_pos h2, if_neg (by simpa using h3), if_neg hr]
  · have e := tickK_none (C := C) (s := s.q) (Bool.eq_false_iff.2 h)
    rw [e]
    exact ⟨fun p hp => (by cases hp), by simp; omega, .inl rfl⟩
end

abbrev Bg := Int × (Nat → Int)
def budS (b : Bg) (p : Pk) : Bg := if p.1 = 0 then (b.1 - 1, b.2) else (b.1, updA b.2 p.1.toNat (b.2 p.1.toNat - 1))
def budL (b : Bg) (ps : List Pk) : Bg := ps.foldl budS b
def BudOk (b : Bg) (ps : List Pk) : Prop := ∀ j, (h : j < ps.length) → 0 ≤ (budL b (ps.take (j + 1))).1 ∧ 0 ≤ (budL b (ps.take (j + 1))).2 (ps[j]).1.toNat
structure BudI (C : Srv.Cf) (n : Nat) (s : Sn) (b : Bg) : Prop where
  s0 : 0 ≤ b.1
  c0 : 0 ≤ b.2 0
  srv : s.q.out.1 = 0 → ((3 - s.q.rd : Nat) : Int) * C.N ≤ b.1
  cli : ∀ i, i < n → (remC (s.cs i) : Int) ≤ b.2 (i + 1)
theorem bud_srv : ∀ (ps : List Pk) (b : Bg), (∀ p ∈ ps, p.1 = 0) → budL b ps = (b.1 - ps.length, b.2)
  | [], b, _ => by show b = (b.1 - ((0 : Nat) : Int), b.2); rw [show b.1 - ((0 : Nat) : Int) = b.1 by omega]
  | p :: ps, b, h => by
    show budL (budS b p) ps = _
    rw [bud_srv ps _ (fun q hq => h q (List.mem_cons_of_mem _ hq))]
    unfold budS
    rw [if_pos (h p List.mem_cons_self)]
    show (b.1 - 1 - (ps.length : Int), b.2) = (b.1 - ((ps.length + 1 : Nat) : Int), b.2)
    rw [show b.1 - 1 - (ps.length : Int) = b.1 - ((ps.length + 1 : Nat) : Int) by omega]
theorem budOk_nil (b : Bg) : BudOk b [] := fun j h => absurd h (Nat.not_lt_zero _)
theorem budOk_srv {b : Bg} {ps : List Pk} (h : ∀ p ∈ ps, p.1 = 0) (hl : (ps.length : Int) ≤ b.1) (h0 : 0 ≤ b.2 0) : BudOk b ps := fun j hj => by
  rw [bud_srv _ b (fun p hp => h p (List.mem_of_mem_take hp))]
  have : (ps.take (j + 1)).length ≤ ps.length := by rw [List.length_take]; omega
  refine ⟨by show 0 ≤ b.1 - ((ps.take (j + 1)).length : Int); omega, ?_⟩
  show 0 ≤ b.2 _
  rw [h _ (List.getElem_mem hj)]; exact h0
theorem bud_one {b : Bg} {i : Nat} {x : Int × List Int} : budL b [((i : Int) + 1, x)] = (b.1, updA b.2 (i + 1) (b.2 (i + 1) - 1)) := by
  show budS b ((i : Int) + 1, x) = _
  unfold budS
  rw [if_neg (by show ¬ (i : Int) + 1 = 0; omega), show ((i : Int) + 1).toNat = i + 1 by omega]
theorem budOk_one {b : Bg} {i : Nat} {x : Int × List Int} (h0 : 0 ≤ b.1) (h : 1 ≤ b.2 (i + 1)) : BudOk b [((i : Int) + 1, x)] := fun j hj => by
  have e : j = 0 := by simpa using hj
  subst e
  show 0 ≤ (budL b [((i : Int) + 1, x)]).1 ∧ 0 ≤ (budL b [((i : Int) + 1, x)]).2 ((i : Int) + 1).toNat
  rw [bud_one, show ((i : Int) + 1).toNat = i + 1 by omega]
  refine ⟨h0, ?_⟩
  show 0 ≤ updA b.2 (i + 1) (b.2 (i + 1) - 1) (i + 1)
  rw [updA_same]; omega
def OutOk (C : Srv.Cf) (o : Int × Int × List Int × List Int) : Prop :=
  (o.1 = 0 ∧ o.2.1 = 0 ∧ o.2.2.1 = [] ∧ o.2.2.2 = []) ∨ (o.1 = 2 ∧ 0 ≤ o.2.1 ∧ o.2.1 < 4 ∧ o.2.2.1 = [] ∧ o.2.2.2 = []) ∨
  (o.1 = 1 ∧ o.2.1 = 0 ∧ C.T ≤ (o.2.2.1.length : Int) ∧ (o.2.2.2.length : Int) = C.M ∧ (∀ z ∈ o.2.2.1, 1 ≤ z ∧ z ≤ C.N) ∧ o.2.2.1.Pairwise (· < ·) ∧ ∀ z ∈ o.2.2.2, 0 ≤ z ∧ z < 4294967296)
theorem size_up {C : Srv.Cf} {G : Srv.Tab} (h : Srv.GoodT C G) (r : Nat) : Srv.sizeR (G (r + 1)) ≤ Srv.sizeR (G r) := by
  unfold Srv.sizeR
  have e : Srv.lst (Srv.mem (G (r + 1))) = (Srv.lst (Srv.mem (G r))).filter (Srv.mem (G (r + 1))) := by
    unfold Srv.lst Srv.lstN
    rw [List.filter_filter]
    apply List.filter_congr
    intro u _
    cases q : Srv.mem (G (r + 1)) u
    · rfl
    · rw [h.up r u q]; rfl
  rw [e]; exact List.length_filter_le _ _
theorem OutOk.tick {C : Srv.Cf} (hc : Srv.GoodC C) {q : Srv.Sv} (hs : q.out.1 = 0 → Srv.SOk C q) (h : OutOk C q.out) : OutOk C (Srv.tickS C q).out := by
  unfold Srv.tickS
  by_cases p : Srv.pend q = true
  · rw [if_pos p]
    have ok := hs (Srv.pend_iff.1 p)
    have hrd := ok.rd
    split
    · split
      · exact .inr (.inl ⟨rfl, by show (0 : Int) ≤ (q.rd : Int); omega, by show (q.rd : Int) < 4; omega, rfl, rfl⟩)
      · rename_i hf
        split
        · rename_i h3
          have hf' : ¬ ((Srv.sizeR (q.G q.rd) : Int) < C.T) := by unfold Srv.few at hf; simpa using hf
          rw [h3] at hf'
          have hm := hc.m
          refine .inr (.inr ⟨rfl, rfl, ?_, ?_, fun z hz => ?_, ?_, fun z hz => ?_⟩)
          · show C.T ≤ ((Srv.setL q.G).length : Int)
            unfold Srv.setL; rw [List.length_map]
            have : Srv.sizeR (q.G 3) ≤ Srv.sizeR (q.G 2) := size_up ok.good 2
            unfold Srv.sizeR at this hf'
            omega
          · show ((Srv.sumL C q.G).length : Int) = C.M
            unfold Srv.sumL; rw [List.length_map, List.length_range]; omega
          · obtain ⟨u, hu, rfl⟩ := List.mem_map.1 hz
            have := ok.good.mem (Srv.mem_lst.1 hu).2
            omega
          · show (Srv.setL q.G).Pairwise (· < ·)
            unfold Srv.setL
            rw [List.pairwise_map]
            exact (Srv.lst_pair _).imp (fun {a b} h => by show (a : Int) < (b : Int); omega)
          · obtain ⟨i, _, rfl⟩ := List.mem_map.1 hz
            unfold Srv.totP; omega
        · exact h
    · exact h
  · rw [if_neg p]; exact h
structure BInv (C : Srv.Cf) (cl : Nat → Cli.Cl) (n : Nat) (s : Sn) (b : Bg) (t : Int) : Prop where
  ok : SnOk C cl n s
  flb : FlB s
  ci : ∀ i, i < n → CI (cl i) (s.cs i)
  out : OutOk C s.q.out
  bud : BudI C n s b
  tm : s.q.out.1 = 0 → s.q.tm = t
theorem rcv_q (C : Srv.Cf) (cl : Nat → Cli.Cl) (n : Nat) (s : Sn) (d : Int) (zs : List Int) : (rcv C cl n s d zs).q.out = s.q.out ∧ (rcv C cl n s d zs).q.rd = s.q.rd ∧ (rcv C cl n s d zs).q.tm = s.q.tm := by
  unfold rcv rcvC rcv0
  split
  · split <;> exact ⟨rfl, rfl, rfl⟩
  · refine ⟨(step_out C s.q zs).1, (step_out C s.q zs).2, ?_⟩
    show (sstepD C s.q zs).tm = _
    unfold sstepD
    cases Frm.decF zs with
    | none => rfl
    | some f => exact Srv.take_tm C s.q f
theorem rcv_cs (C : Srv.Cf) (cl : Nat → Cli.Cl) (n : Nat) (s : Sn) (d : Int) (zs : List Int) : (rcv C cl n s d zs).cs = s.cs ∨ ∃ i, i < n ∧ d = (i : Int) + 1 ∧ s.gone i = false ∧ (rcv C cl n s d zs).cs = updA s.cs i (stepD (cl i) (s.cs i) zs) := by
  unfold rcv rcvC rcv0
  by_cases q : 1 ≤ d ∧ d ≤ (n : Int)
  · rw [if_pos q]
    by_cases hg : s.gone (d.toNat - 1) = true
    · rw [if_pos hg]; exact .inl rfl
    · rw [if_neg hg]; exact .inr ⟨d.toNat - 1, by omega, by omega, Bool.eq_false_iff.2 hg, rfl⟩
  · rw [if_neg q]; exact .inl rfl
section
variable {C : Srv.Cf} {cl : Nat → Cli.Cl} {n : Nat} {s : Sn} {b : Bg} {t : Int}
theorem BInv.rcv (hC : Cast C cl n) (h : BInv C cl n s b t) (d : Int) {zs : List Int} (hB : Frm.isB zs) : (∀ p ∈ rcvP cl n s d zs, ParOk C p) ∧ BudOk b (rcvP cl n s d zs) ∧ BInv C cl n (rcv C cl n s d zs) (budL b (rcvP cl n s d zs)) t := by
  obtain ⟨q1, q2, q3⟩ := rcv_q C cl n s d zs
  have hci : ∀ i, i < n → CI (cl i) ((Go.Proofs.YtchideljndagjabGreat.rcv C cl n s d zs).cs i) := fun i hi => by
    rcases rcv_cs C cl n s d zs with e | ⟨j, hj, _, _, e⟩
    · rw [e]; exact h.ci i hi
    · rw [e]
      by_cases c : i = j
      · rw [c, updA_same]; exact (h.ci j hj).step zs
      · rw [updA_other _ _ _ c]; exact h.ci i hi
  have hrem : ∀ i, i < n → remC ((Go.Proofs.YtchideljndagjabGreat.rcv C cl n s d zs).cs i) ≤ remC (s.cs i) := fun i hi => by
    rcases rcv_cs C cl n s d zs with e | ⟨j, hj, _, _, e⟩
    · rw [e]; exact Nat.le_refl _
    · rw [e]
      by_cases c : i = j
      · rw [c, updA_same]; have := rem_step (cl j) (s.cs j) zs j; omega
      · rw [updA_other _ _ _ c]; exact Nat.le_refl _
  have base : ∀ b', 0 ≤ b'.1 → b'.1 = b.1 → 0 ≤ b'.2 0 → (∀ i, i < n → (remC ((Go.Proofs.YtchideljndagjabGreat.rcv C cl n s d zs).cs i) : Int) ≤ b'.2 (i + 1)) → BInv C cl n (Go.Proofs.YtchideljndagjabGreat.rcv C cl n s d zs) b' t := fun b' e0 e1 e2 e3 =>
    ⟨h.ok.rcv d hB, h.flb.rcv h.ok d hB, hci, by rw [q1]; exact h.out, ⟨e0, e2, fun e => by rw [q2, e1]; exact h.bud.srv (by rw [← q1]; exact e), e3⟩, fun e => by rw [q3]; exact h.tm (by rw [← q1]; exact e)⟩
  rcases rcvP_cases (s := s) hC h.ci d hB with e | ⟨i, f, hi, rfl, hg, ha, e, hp⟩
  · rw [e]
    exact ⟨fun p hp => (by cases hp), budOk_nil b, base b h.bud.s0 rfl h.bud.c0 (fun i hi => by have := hrem i hi; have := h.bud.cli i hi; omega)⟩
  · rw [e]
    have hr := rem_step (cl i) (s.cs i) zs i
    rw [ha] at hr
    have hr' : remC (stepD (cl i) (s.cs i) zs) + 1 ≤ remC (s.cs i) := hr
    have hb := h.bud.cli i hi
    have hcs : (Go.Proofs.YtchideljndagjabGreat.rcv C cl n s ((i : Int) + 1) zs).cs = updA s.cs i (stepD (cl i) (s.cs i) zs) := by
      unfold Go.Proofs.YtchideljndagjabGreat.rcv rcvC
      rw [if_pos (by omega), show ((i : Int) + 1).toNat - 1 = i by omega, if_neg (by rw [hg]; exact Bool.false_ne_true)]
    refine ⟨fun p hp' => by rw [List.mem_singleton.1 hp']; exact hp, budOk_one h.bud.s0 (by omega), ?_⟩
    rw [bud_one]
    refine base _ h.bud.s0 rfl ?_ (fun j hj => ?_)
    · show 0 ≤ updA b.2 (i + 1) (b.2 (i + 1) - 1) 0
      rw [updA_other _ _ _ (by omega)]; exact h.bud.c0
    · show _ ≤ updA b.2 (i + 1) (b.2 (i + 1) - 1) (j + 1)
      rw [hcs]
      by_cases c : j = i
      · subst c; rw [updA_same, updA_same]; omega
      · rw [updA_other _ _ _ c, updA_other _ _ _ (by omega)]; exact h.bud.cli j hj
theorem BInv.fl (h : BInv C cl n s b t) (fl : List Pk) (h1 : SnOk C cl n { s with fl := fl }) (h2 : FlB { s with fl := fl }) : BInv C cl n { s with fl := fl } b t := ⟨h1, h2, h.ci, h.out, ⟨h.bud.s0, h.bud.c0, h.bud.srv, h.bud.cli⟩, h.tm⟩
theorem BInv.tick (hC : Cast C cl n) (h : BInv C cl n s b t) : (∀ p ∈ tickK C s.q, ParOk C p) ∧ BudOk b (tickK C s.q) ∧ BInv C cl n (tickN C s) (budL b (tickK C s.q)) (t + 1) := by
  obtain ⟨k1, k2, k3⟩ := tickK_ok (s := s) hC h.ok.sok
  have hn := hC.gc.n
  have hz : ∀ p ∈ tickK C s.q, p.1 = 0 := fun p hp => (k1 p hp).2
  have hb : (tickK C s.q).length ≤ b.1 := by
    rcases k3 with e | ⟨e1, e2, _⟩
    · rw [e]; simpa using h.bud.s0
    · have h1 := h.bud.srv e1
      have h2 : (1 : Int) * C.N ≤ ((3 - s.q.rd : Nat) : Int) * C.N := Int.mul_le_mul_of_nonneg_right (by omega) (by omega)
      omega
  have ptm : (tickN C s).q.out.1 = 0 → s.q.out.1 = 0 := fun e => by
    by_cases p : s.q.out.1 = 0
    · exact p
    · have q : Srv.tickS C s.q = s.q := by unfold Srv.tickS; rw [if_neg (fun k => p (Srv.pend_iff.1 k))]
      have e' : (Srv.tickS C s.q).out.1 = 0 := e
      rw [q] at e'; exact e'
  refine ⟨fun p hp => (k1 p hp).1, budOk_srv hz hb h.bud.c0, h.ok.tick, h.flb.tick h.ok, h.ci, h.out.tick h.ok.gc h.ok.sok, ?_, fun e => ?_⟩
  · rw [bud_srv _ _ hz]
    refine ⟨by show 0 ≤ b.1 - _; omega, h.bud.c0, fun e => ?_, h.bud.cli⟩
    have e0 := ptm e
    show ((3 - (Srv.tickS C s.q).rd : Nat) : Int) * C.N ≤ b.1 - ((tickK C s.q).length : Int)
    have h1 := h.bud.srv e0
    rcases k3 with q | ⟨_, q1, q2⟩
    · rw [q]
      have hr : s.q.rd ≤ (Srv.tickS C s.q).rd := by unfold Srv.tickS; (repeat' split) <;> first | exact Nat.le_refl _ | exact Nat.le_succ _
      have h2 : ((3 - (Srv.tickS C s.q).rd : Nat) : Int) * C.N ≤ ((3 - s.q.rd : Nat) : Int) * C.N := Int.mul_le_mul_of_nonneg_right (by omega) (by omega)
      simp; omega
    · rw [q2]
      have h2 : ((3 - s.q.rd : Nat) : Int) * C.N = ((3 - (s.q.rd + 1) : Nat) : Int) * C.N + C.N := by
        rw [show ((3 - s.q.rd : Nat) : Int) = ((3 - (s.q.rd + 1) : Nat) : Int) + 1 by omega, Int.add_mul]; omega
      omega
  · have e0 := ptm e
    show (Srv.tickS C s.q).tm = t + 1
    rw [Srv.tick_tm C s.q (Srv.pend_iff.2 e0), h.tm e0]
theorem BInv.act (hC : Cast C cl n) (h : BInv C cl n s b t) {o : Stp} (ho : Frm.isB o.s) (h3 : o.k ≠ 3) : (∀ p ∈ newP C cl n true s o, ParOk C p) ∧ BudOk b (newP C cl n true s o) ∧ BInv C cl n (actN C cl n true s o) (budL b (newP C cl n true s o)) (if o.k = 5 then t + 1 else t) := by
  have nil : newP C cl n true s o = [] → BInv C cl n (actN C cl n true s o) b (if o.k = 5 then t + 1 else t) → (∀ p ∈ newP C cl n true s o, ParOk C p) ∧ BudOk b (newP C cl n true s o) ∧ BInv C cl n (actN C cl n true s o) (budL b (newP C cl n true s o)) (if o.k = 5 then t + 1 else t) := fun e k => by
    rw [e]; exact ⟨fun p hp => (by cases hp), budOk_nil b, k⟩
  by_cases k1 : o.k = 1
  · rw [if_neg (by omega)] at *
    by_cases h0 : 0 < s.fl.length
    · obtain ⟨p, hp, hm, e, _⟩ := deliver_some (C := C) (cl := cl) (n := n) k1 h0
      have e1 : newP C cl n true s o = rcvP cl n { s with fl := s.fl.eraseIdx (Num.pickN o.n s.fl.length).toNat } p.2.1 p.2.2 := by unfold newP; rw [if_pos k1, hp]; rfl
      rw [e, e1]
      exact BInv.rcv hC (h.fl _ (h.ok.less _) (h.flb.less _)) p.2.1 (h.flb p hm)
    · have e0 : s.fl.length = 0 := by omega
      have e : s.fl = [] := List.length_eq_zero_iff.1 e0
      refine nil ?_ ?_
      · unfold newP actD; rw [if_pos k1, if_pos k1, e]; rfl
      · unfold actN; rw [if_pos k1, if_pos e0]; exact h
  by_cases k2 : o.k = 2
  · rw [if_neg (by omega)] at *
    refine nil ?_ ?_
    · unfold newP; rw [if_neg k1, if_neg (by omega), if_neg (by omega)]
    · unfold actN; rw [if_neg k1, if_pos k2]
      split
      · exact h
      · have q1 := h.ok.drop (Num.pickN o.n s.fl.length)
        have q2 := h.flb.drop (Num.pickN o.n s.fl.length)
        unfold dropN at q1 q2 ⊢
        split
        · rename_i c; rw [if_pos c] at q1 q2; exact h.fl _ q1 q2
        · exact h
  by_cases k4 : o.k = 4
  · rw [if_neg (by omega)] at *
    have e1 : newP C cl n true s o = rcvP cl n s (Num.pickN o.m (C.N + 1)) o.s := by unfold newP; rw [if_neg k1, if_pos k4, if_pos (.inl rfl)]
    have e2 : actN C cl n true s o = Go.Proofs.YtchideljndagjabGreat.rcv C cl n s (Num.pickN o.m (C.N + 1)) o.s := by unfold actN; rw [if_neg k1, if_neg k2, if_neg h3, if_pos k4, if_pos (.inl rfl), inject_pick hC.num]
    rw [e1, e2]
    exact BInv.rcv hC h _ ho
  by_cases k5 : o.k = 5
  · rw [if_pos k5]
    have e1 : newP C cl n true s o = tickK C s.q := by unfold newP; rw [if_neg k1, if_neg k4, if_pos k5]
    have e2 : actN C cl n true s o = tickN C s := by unfold actN; rw [if_neg k1, if_neg k2, if_neg h3, if_neg k4, if_pos k5]
    rw [e1, e2]
    exact BInv.tick hC h
  rw [if_neg k5] at *
  refine nil ?_ ?_
  · unfold newP; rw [if_neg k1, if_neg k4, if_neg k5]
  · have q1 := h.ok.act h.flb ho true
    have q2 := h.flb.act h.ok ho true
    unfold actN at q1 q2 ⊢
    rw [if_neg k1, if_neg k2, if_neg h3, if_neg k4, if_neg k5] at q1 q2 ⊢
    split
    · rename_i c
      rw [if_pos c] at q1 q2
      unfold crashU at q1 q2 ⊢
      split
      · rename_i c'; rw [if_pos c'] at q1 q2
        exact ⟨q1, q2, h.ci, h.out, ⟨h.bud.s0, h.bud.c0, h.bud.srv, h.bud.cli⟩, h.tm⟩
      · exact h
    · exact h
theorem BInv.double (h : BInv C cl n s b t) {o : Stp} (ho : Frm.isB o.s) (h3 : o.k = 3) : BInv C cl n (actN C cl n true s o) b t := by
  have q1 := h.ok.act h.flb ho true
  have q2 := h.flb.act h.ok ho true
  unfold actN at q1 q2 ⊢
  rw [if_neg (by omega), if_neg (by omega), if_pos h3] at q1 q2 ⊢
  split
  · exact h
  · rename_i c
    rw [if_neg c] at q1 q2
    unfold doubleN at q1 q2 ⊢
    split
    · rename_i c1; rw [if_pos c1] at q1 q2
      split
      · rename_i c2; rw [if_pos c2] at q1 q2
        split
        · exact h
        · rename_i p hp
          rw [hp] at q1 q2
          exact h.fl _ q1 q2
      · exact h
    · exact h
end
end Go.Proofs.YtchideljndagjabGreat
