/- The World of a script with servers: a server has turned; how many lists the ticks can still bring. -/
import Derived.Test.YtchideljndagjabGreatPkSeBG
import Derived.Test.YtchideljndagjabGreatPkSeAO
import Derived.Deep.CutRange
namespace Go.Proofs.YtchideljndagjabGreat
open Go.RowKit
set_option linter.unusedVariables false

def pot (q : Srv.Sv) : Nat := if Srv.pend q = true then Srv.sizeR (q.G q.rd) else 0
theorem pot_takeS (C : Srv.Cf) (q : Srv.Sv) (f : Cli.Fr) : pot (Srv.takeS C q f) ≤ pot q + 1 := by
  unfold Srv.takeS
  by_cases hc : Srv.counts C q f = true
  · rw [if_pos hc]
    unfold Srv.counts at hc
    rw [Bool.and_eq_true] at hc
    obtain ⟨hp, hf⟩ := hc
    unfold Srv.fits at hf
    simp only [Bool.and_eq_true] at hf
    have hm : Srv.mem (q.G q.rd) f.2.1.toNat = false := by simpa using hf.2.2.1
    have hp' : Srv.pend { q with G := Srv.updT q.G q.rd f.2.1.toNat f.2.2 } = true := hp
    unfold pot
    rw [if_pos hp, if_pos hp']
    show Srv.sizeR (Srv.updT q.G q.rd f.2.1.toNat f.2.2 q.rd) ≤ Srv.sizeR (q.G q.rd) + 1
    unfold Srv.sizeR Srv.lst
    rw [Srv.lstN_upd (Srv.mem (q.G q.rd)) (Srv.mem (Srv.updT q.G q.rd f.2.1.toNat f.2.2 q.rd)) f.2.1.toNat hm (by unfold Srv.mem; rw [Srv.updT_same]; rfl) (fun v hv => by unfold Srv.mem; rw [Srv.updT_other _ _ _ _ _ hv]) 13]
    split <;> omega
  · rw [if_neg hc]; omega
theorem pot_take (C : Srv.Cf) (q : Srv.Sv) (zs : List Int) : pot (sstepD C q zs) ≤ pot q + 1 := by
  unfold sstepD
  cases Frm.decF zs with
  | none => show pot q ≤ _; omega
  | some f => exact pot_takeS C q f
theorem pot_tick {C : Srv.Cf} {q : Srv.Sv} (hs : q.out.1 = 0 → Srv.SOk C q) : (tickK C q).length + pot (Srv.tickS C q) ≤ pot q := by
  by_cases p : Srv.pend q = true
  · have ok := hs (Srv.pend_iff.1 p)
    by_cases d : Srv.due C q = true
    · by_cases f : Srv.few C q = true
      · rw [tickK_none (by rw [f]; simp)]
        have e : pot (Srv.tickS C q) = 0 := by
          unfold Srv.tickS; rw [if_pos p, if_pos d, if_pos f]; rfl
        rw [e]; exact Nat.zero_le _
      · by_cases r : q.rd = 3
        · rw [tickK_none (by rw [r]; simp)]
          have e : pot (Srv.tickS C q) = 0 := by
            unfold Srv.tickS; rw [if_pos p, if_pos d, if_neg f, if_pos r]; rfl
          rw [e]; exact Nat.zero_le _
        · have e : pot (Srv.tickS C q) = 0 := by
            unfold Srv.tickS; rw [if_pos p, if_pos d, if_neg f, if_neg r]
            unfold pot
            rw [if_pos (show Srv.pend { q with tm := q.tm + 1, rd := q.rd + 1 } = true from p)]
            show Srv.sizeR (q.G (q.rd + 1)) = 0
            rw [ok.late (q.rd + 1) (by omega)]; rfl
          rw [e]
          unfold tickK Srv.tickP pot
          rw [if_pos p, if_pos (by rw [p, d, Bool.not_eq_true _ |>.mp f, decide_eq_true r]; rfl), List.length_map, List.length_map]
          exact Nat.le_refl _
    · have e : pot (Srv.tickS C q) = pot q := by
        unfold Srv.tickS; rw [if_pos p, if_neg d]; rfl
      rw [tickK_none (by rw [Bool.not_eq_true _ |>.mp d]; simp), e]; exact Nat.le_of_eq (Nat.zero_add _)
  · have e : Srv.tickS C q = q := by unfold Srv.tickS; rw [if_neg p]
    rw [tickK_none (by rw [Bool.not_eq_true _ |>.mp p]; rfl), e]; exact Nat.le_of_eq (Nat.zero_add _)
theorem pot_le (q : Srv.Sv) : pot q ≤ 13 := by
  unfold pot; split
  · unfold Srv.sizeR Srv.lst; exact Srv.lstN_le _ _
  · omega

def pots (K : List SP) : Nat := (K.map fun p => pot p.q).sum
theorem pots_set : ∀ (K : List SP) (i : Nat) (p p' : SP), K[i]? = some p → pots (K.set i p') + pot p.q = pots K + pot p'.q
  | [], i, p, p', h => by simp at h
  | a :: K, 0, p, p', h => by
    simp at h; subst h
    show (pot p'.q + pots K) + pot a.q = (pot a.q + pots K) + pot p'.q
    omega
  | a :: K, i + 1, p, p', h => by
    have ih := pots_set K i p p' (by simpa using h)
    show (pot a.q + pots (K.set i p')) + pot p.q = (pot a.q + pots K) + pot p'.q
    omega
theorem pots_ge : ∀ (K : List SP) (i : Nat) (p : SP), K[i]? = some p → pot p.q ≤ pots K
  | [], i, p, h => by simp at h
  | a :: K, 0, p, h => by
    simp at h; subst h
    show pot a.q ≤ pot a.q + pots K
    omega
  | a :: K, i + 1, p, h => by
    have ih := pots_ge K i p (by simpa using h)
    show pot p.q ≤ pot a.q + pots K
    omega
theorem pots_snoc (K : List SP) (p : SP) : pots (K ++ [p]) = pots K + pot p.q := by
  unfold pots; rw [List.map_append, List.sum_append]; simp

theorem tick_isB {C : Srv.Cf} {q : Srv.Sv} (hc : Srv.GoodC C) (hs : q.out.1 = 0 → Srv.SOk C q) : ∀ p ∈ tickK C q, Frm.isB p.2.2 := by
  intro p hp
  unfold tickK Srv.tickP at hp
  by_cases h : (Srv.pend q && (Srv.due C q && (!Srv.few C q && decide (q.rd ≠ 3)))) = true
  · rw [if_pos h] at hp
    rw [Bool.and_eq_true, Bool.and_eq_true, Bool.and_eq_true] at h
    obtain ⟨h1, h2, h3, h4⟩ := h
    have ok := hs (Srv.pend_iff.1 h1)
    have hr : q.rd ≠ 3 := of_decide_eq_true h4
    have hf : ¬ ((Srv.sizeR (q.G q.rd) : Int) < C.T) := by
      unfold Srv.few at h3; simpa using h3
    have ht := hc.t
    have hrd := ok.rd
    obtain ⟨x, hx, rfl⟩ := List.mem_map.1 hp
    obtain ⟨u, hu, rfl⟩ := List.mem_map.1 hx
    exact encF_isB (Srv.sends_ok ok.good q.rd u (by omega) (by omega))
  · rw [if_neg h] at hp; cases hp

theorem sp_took {W1 w2 w3 w4 w5 : World} {pw : Nat} {p : SP} {q' : Srv.Sv} {S' : SS} {R' : RV} {L' : Srv.Log} {X' : List Value} (hp : SPAt W1 pw p) (hb2 : Below W1.heap.size W1 w2) (ht : STook w2 w3 p.bx p.C q' p.S S') (hb4 : Below w3.heap.size w3 w4)
    (hr : VTook w4 w5 pw p.yb p.C q' p.R R' p.L L' p.X X') (hbd : q'.out.2.2.1.length ≤ 12 ∧ q'.out.2.2.2.length ≤ 12) :
    SPAt w5 pw ⟨p.pc, p.bx, p.yb, p.C, q', S', R', L', X'⟩ ∧ Chg (fun x => SPFoot p x) W1 w5 ∧
      (∀ x, SPFoot ⟨p.pc, p.bx, p.yb, p.C, q', S', R', L', X'⟩ x → SPFoot p x ∨ (SFoot p.bx S' x ∧ w2.heap.size ≤ x ∧ x < w3.heap.size) ∨ (VFoot p.yb R' X' x ∧ w4.heap.size ≤ x)) := by
  have z2 := hb2.size
  have z3 := ht.chg.size
  have z4 := hb4.size
  have z5 := hr.chg.size
  have hpcf : SPFoot p p.pc := .inl rfl
  have hbxf : SPFoot p p.bx := .inr (.inl (.inl rfl))
  have lpc := hp.lt hpcf
  have lbx := hp.lt hbxf
  have hchg : Chg (fun x => SPFoot p x) W1 w5 := (((Chg.of_below (S := fun x => SPFoot p x) hb2).trans ht.chg (fun x e _ => by rw [e]; exact hbxf)).grow hb4).trans hr.chg (fun x e _ => .inr (.inr (.inl e)))
  have cfoot : ∀ x, SFoot p.bx S' x → SFoot p.bx p.S x ∨ (w2.heap.size ≤ x ∧ x < w3.heap.size) := fun x hx => by
    rcases ht.foot x hx with h1 | h1
    · exact .inl h1
    · exact .inr ⟨h1, ht.srv.low x hx⟩
  have rfoot : ∀ x, VFoot p.yb R' X' x → VFoot p.yb p.R p.X x ∨ w4.heap.size ≤ x := hr.foot
  have lc : ∀ x, SFoot p.bx p.S x → x < W1.heap.size := fun x hx => hp.lt (.inr (.inl hx))
  have lr : ∀ x, VFoot p.yb p.R p.X x → x < W1.heap.size := fun x hx => hp.lt (.inr (.inr hx))
  have nbx : p.bx ≠ p.pc := fun e => hp.ap2.1 (by rw [← e]; exact .inl rfl)
  have hpl := hp.lo p.pc hpcf
  refine ⟨⟨?_, ?_, hr.srv, hp.gc, hbd, fun x hx => ?_, fun x hx hy => ?_, fun hx => ?_, fun hx => ?_⟩, hchg, fun x hx => ?_⟩
  · show w5.heap[p.pc]? = _
    rw [hr.chg.block p.pc (by omega) (fun e => hp.ap2.2 (.inl e)), hb4.block p.pc (by omega), ht.chg.block p.pc (by omega) (fun e => nbx e.symm), hb2.block p.pc lpc]
    exact hp.row
  · show SrvW w5 p.bx p.C q' S'
    refine (ht.srv.below hb4).chg hr.chg (fun x hx e => ?_)
    have hR : VFoot p.yb p.R p.X x := .inl e
    rcases cfoot x hx with h1 | h1
    · exact hp.ap1 x h1 hR
    · have := lr x hR; omega
  · rcases hx with hx | hx | hx
    · exact hp.lo x (.inl hx)
    · rcases cfoot x hx with h1 | h1
      · exact hp.lo x (.inr (.inl h1))
      · omega
    · rcases rfoot x hx with h1 | h1
      · exact hp.lo x (.inr (.inr h1))
      · omega
  · rcases cfoot x hx with h1 | h1
    · rcases rfoot x hy with h2 | h2
      · exact hp.ap1 x h1 h2
      · have := lc x h1; omega
    · rcases rfoot x hy with h2 | h2
      · have := lr x h2; omega
      · omega
  · rcases cfoot p.pc hx with h1 | h1
    · exact hp.ap2.1 h1
    · omega
  · rcases rfoot p.pc hx with h1 | h1
    · exact hp.ap2.2 h1
    · omega
  · rcases hx with hx | hx | hx
    · exact .inl (.inl hx)
    · rcases cfoot x hx with h1 | h1
      · exact .inl (.inr (.inl h1))
      · exact .inr (.inl ⟨hx, h1⟩)
    · rcases rfoot x hx with h1 | h1
      · exact .inl (.inr (.inr h1))
      · exact .inr (.inr ⟨hx, h1⟩)

/-- A thing has turned in its own blocks and in new ones (W1 to w5, w6), then the World came to own the new blocks of N (w6 to w8). -/
theorem turn_own {W1 w5 w6 w8 : World} {pw j i : Nat} {T : Nat → List Th} {F F' : Nat → Value} {nx : Int} {ls ls' : Nat → List Ow} {t t' : Th} {N : Nat → Prop}
    (i1 : InvW W1 pw F nx ls) (i2 : InvA W1 pw F ls T) (hj : j < 3) (ht : (T j)[i]? = some t) (hpc : t'.pc = t.pc) (hok : ThOk pw t') (hpa : t'.at_ w5) (hchg : Chg (fun x => t.foot x) W1 w5) (hft : ∀ x, t'.foot x → t.foot x ∨ W1.heap.size ≤ x)
    (hN : ∀ b, N b → W1.heap.size ≤ b ∧ ¬ t'.foot b) (hb6 : Below w5.heap.size w5 w6) (j3 : ∀ j, j < 3 → F' j = F j) (j4 : Chg (fun b => b = pw ∨ N b ∨ Foot F ls b) w6 w8) (j2 : ∀ b, b < w6.heap.size → ¬ N b → ¬ Foot F ls b → ¬ Foot F' ls' b) :
    InvA w8 pw F' ls' (setT T j i t') ∧ Below pw W1 w8 := by
  have z5 := hchg.size
  have z6 := hb6.size
  have z8 := j4.size
  have hpw := i1.pw_lt
  obtain ⟨tg, t1, t2, t3⟩ := i2.tag
  obtain ⟨okt, att⟩ := i2.ok j hj t (List.mem_of_getElem? ht)
  have nf : ∀ x, t'.foot x → x < w5.heap.size ∧ pw < x ∧ ¬ N x ∧ ¬ Foot F ls x := fun x hx => by
    refine ⟨hok.lt w5 x hpa hx, hok.lo w5 x hpa hx, fun e => (hN x e).2 hx, fun e => ?_⟩
    have hl := i1.foot_lt e
    rcases hft x hx with h1 | h1
    · have a := t1 j i t x hj ht h1; have b := t3 x e; omega
    · omega
  have hall : Chg (fun x => t.foot x ∨ x = pw ∨ Foot F ls x) W1 w8 := by
    refine ((hchg.mono (S' := fun x => t.foot x ∨ x = pw ∨ Foot F ls x) (fun x e _ => .inl e)).grow hb6).trans j4 (fun b e hb => ?_)
    rcases e with e | e | e
    · exact .inr (.inl e)
    · have := (hN b e).1; omega
    · exact .inr (.inr e)
  refine ⟨i2.turnq i1 hj ht hpc hall j3 (fun b hb hf => j2 b (by omega) (fun e => by have := (hN b e).1; omega) hf) hok ?_ hft (fun x hx => ?_), hall.below (by omega) (fun b e => ?_)⟩
  · refine hok.keep w5 w8 hpa (by omega) (fun x hx => ?_) (fun x hx => ?_)
    · obtain ⟨a1, a2, a3, a4⟩ := nf x hx
      rw [j4.block x (by omega) (fun e => ?_), hb6.block x a1]
      rcases e with e | e | e
      · omega
      · exact a3 e
      · exact a4 e
    · rw [j4.block x (by omega) (fun e => ?_), hb6.block x (by omega)]
      rcases e with e | e | e
      · omega
      · have := (hN x e).1; omega
      · have := i1.foot_lt e; omega
  · obtain ⟨a1, a2, a3, a4⟩ := nf x hx
    exact j2 x (by omega) a3 a4
  · rcases e with e | e | e
    · have := okt.lo W1 b att e; omega
    · omega
    · have := i1.foot_lt e; omega

theorem map_set_sp (pw : Nat) (K : List SP) (i : Nat) (p' : SP) : (K.set i p').map (sTh pw) = (K.map (sTh pw)).set i (sTh pw p') := by
  rw [List.map_set]
theorem map_get_sp {pw : Nat} {K : List SP} {i : Nat} {p : SP} (h : K[i]? = some p) : (K.map (sTh pw))[i]? = some (sTh pw p) := by rw [List.getElem?_map, h]; rfl

end Go.Proofs.YtchideljndagjabGreat

namespace Go.Proofs.YtchideljndagjabGreat
open Go.RowKit
set_option linter.unusedVariables false

theorem infoSv : (Tryz.prog.info? 131).map (fun i => (i.zero, i.size, i.bytes)) = some (some (.pointer none), 1, 8) := by kernel_rfl
theorem vfoot0 {yb x : Nat} (h : VFoot yb rv0 [] x) : x = yb := by
  rcases h with (h | h) | h | h | ⟨u, hu, _⟩
  · exact h
  · cases h
  · cases h
  · cases h
  · cases hu

theorem snew_fin {W0 w1 w2 w9 w10 : World} {pw g9 cap9 bx yb : Nat} {T : Nat → List Th} {F : Nat → Value} {nx : Int} {ls : Nat → List Ow} {C : Srv.Cf} {S : SS} {B : Obj}
    (i1 : InvW W0 pw F nx ls) (i2 : InvA W0 pw F ls T) (gc : Srv.GoodC C) (b01 : Below W0.heap.size W0 w1) (b12 : Below w1.heap.size w1 w2) (k1 : SrvW w1 bx C Srv.start S) (k2 : ∀ x, SFoot bx S x → W0.heap.size ≤ x) (r2 : RVW w2 pw yb C Srv.start rv0 [] []) (k4 : w1.heap.size ≤ yb)
    (hr9 : w9.ownsRow (pw + 1) 131 1 (.slice (some ⟨g9, 0, none⟩) ((T 1).length + 1) cap9) ((T 1).length + 1) (ptrs (T 1) ++ [.pointer (some ⟨w2.heap.size, 0, none⟩)]))
    (hgr : ((w2.alloc (.cells #[.pointer (some ⟨bx, 0, none⟩), .pointer (some ⟨yb, 0, none⟩)] 130)).alloc B).grownBy w9 (F 1).ownBlock) (hat : (F 1).ownBlock = some g9 ∨ w2.heap.size + 2 ≤ g9)
    (hw10 : w10 = w9.setCell ⟨pw, 1, none⟩ (.slice (some ⟨g9, 0, none⟩) ((T 1).length + 1) cap9)) :
    InvA w10 pw (upd F 1 (.slice (some ⟨g9, 0, none⟩) ((T 1).length + 1) cap9)) ls (addT T 1 (sTh pw ⟨w2.heap.size, bx, yb, C, Srv.start, S, rv0, [], []⟩)) ∧ InvW w10 pw (upd F 1 (.slice (some ⟨g9, 0, none⟩) ((T 1).length + 1) cap9)) nx ls ∧ Below pw W0 w10 := by
  have z01 := b01.size
  have z12 := b12.size
  have z29 := hgr.size
  have zA : ((w2.alloc (.cells #[.pointer (some ⟨bx, 0, none⟩), .pointer (some ⟨yb, 0, none⟩)] 130)).alloc B).heap.size = w2.heap.size + 2 := by simp
  rw [zA] at z29
  have hpw := i1.pw_lt
  have b02 : Below W0.heap.size W0 w2 := b01.trans (b12.mono z01)
  have hrow1 : ∀ x, (F 1).ownBlock = some x → pw < x ∧ x < W0.heap.size := fun x hx => by have := (i2.row 1 (by decide)).lt x hx; omega
  have z10 : w10.heap.size = w9.heap.size := by rw [hw10]; simp [World.setCell]
  have c29 : Chg (fun x => (F 1).ownBlock = some x) w2 w9 := ((Chg.alloc _ w2 (.cells #[.pointer (some ⟨bx, 0, none⟩), .pointer (some ⟨yb, 0, none⟩)] 130)).trans (Chg.alloc _ _ B) (fun x e _ => e)).trans (Chg.grown hgr) (fun x e _ => e)
  have c210 : Chg (fun x => x = pw ∨ (F 1).ownBlock = some x) w2 w10 := (c29.mono (S' := fun x => x = pw ∨ (F 1).ownBlock = some x) (fun x e _ => .inr e)).trans (by rw [hw10]; exact Chg.setCell w9 ⟨pw, 1, none⟩ _) (fun x e _ => .inl e)
  have c010 : Chg (fun x => x = pw ∨ (F 1).ownBlock = some x) W0 w10 := (Chg.of_below b02).trans c210 (fun x e _ => e)
  have cl : ∀ x, SFoot bx S x → W0.heap.size ≤ x ∧ x < w1.heap.size := fun x hx => ⟨k2 x hx, k1.low x hx⟩
  have lyb := (r2.foot yb (.inl (.inl rfl))).2
  have keep : ∀ x, W0.heap.size ≤ x → x < w2.heap.size → w10.heap[x]? = w2.heap[x]? := fun x h1 h2 => by
    rw [c210.block x h2 (fun e => ?_)]
    rcases e with e | e
    · omega
    · have := hrow1 x e; omega
  obtain ⟨p, hpd⟩ : ∃ p : SP, p = ⟨w2.heap.size, bx, yb, C, Srv.start, S, rv0, [], []⟩ := ⟨_, rfl⟩
  have pf : ∀ x, SPFoot p x → (x = w2.heap.size ∨ SFoot bx S x ∨ x = yb) := fun x hx => by
    rw [hpd] at hx
    rcases hx with hx | hx | hx
    · exact .inl hx
    · exact .inr (.inl hx)
    · exact .inr (.inr (vfoot0 hx))
  have pl : ∀ x, SPFoot p x → W0.heap.size ≤ x ∧ x ≤ w2.heap.size := fun x hx => by
    rcases pf x hx with h1 | h1 | h1
    · omega
    · have := cl x h1; omega
    · omega
  have hp' : SPAt w10 pw p := by
    rw [hpd]
    refine ⟨?_, ?_, ?_, gc, ⟨Nat.zero_le _, Nat.zero_le _⟩, fun x hx => ?_, fun x hx hy => ?_, fun hx => ?_, fun hx => ?_⟩
    · show w10.heap[w2.heap.size]? = _
      rw [hw10, Below.heap_setCell _ _ _ _ (by show w2.heap.size ≠ pw; omega), hgr.block w2.heap.size (by rw [zA]; omega) (fun e => by have := hrow1 _ e.symm; omega)]
      rw [Below.heap_alloc _ _ _ (by simp)]
      exact heap_alloc_new w2 _
    · show SrvW w10 bx C Srv.start S
      refine (k1.below b12).keep (by omega) (fun x hx => ?_)
      have := cl x hx
      exact keep x (by omega) (by omega)
    · show RVW w10 pw yb C Srv.start rv0 [] []
      refine r2.keep (by omega) (fun x hx => ?_)
      have e : x = yb := vfoot0 hx
      exact keep x (by omega) (by omega)
    · rw [← hpd] at hx
      have := pl x hx; omega
    · have a := cl x hx; have b : x = yb := vfoot0 hy; omega
    · have a := cl _ hx; have e : (⟨w2.heap.size, bx, yb, C, Srv.start, S, rv0, [], []⟩ : SP).pc = w2.heap.size := rfl; omega
    · have a : w2.heap.size = yb := vfoot0 hx; omega
  have hblk : w10.heap[pw]? = some (.cells (fArr (upd F 1 (.slice (some ⟨g9, 0, none⟩) ((T 1).length + 1) cap9))) 89 (0, 0)) := by
    rw [hw10]
    refine set_f 1 _ (by omega) ?_
    rw [c29.block pw (by omega) (fun e => by have := hrow1 pw e; omega), b02.block pw hpw]
    exact i1.blk
  rw [← hpd]
  have R := i2.more i1 (j := 1) (by decide) (t := sTh pw p) (v' := .slice (some ⟨g9, 0, none⟩) ((T 1).length + 1) cap9) (sth_ok pw p) hp' (fun x hx => (pl x hx).1) c010 hblk ?_ (fun x hx => ?_)
  · refine ⟨R.1, R.2, c010.below (by omega) (fun b e => ?_)⟩
    rcases e with e | e
    · omega
    · have := hrow1 b e; omega
  · have e : (sTh pw p).pc = w2.heap.size := by rw [hpd]; rfl
    rw [e, hw10]
    exact ownsRow_chg hr9 (Chg.setCell w9 ⟨pw, 1, none⟩ _) (fun b hb e => by have := hr9.lt b hb; simp at e; omega)
  · have ex : x = g9 := by simpa [Value.ownBlock] using hx.symm
    subst ex
    refine ⟨?_, fun hy => ?_⟩
    · rcases hat with h1 | h1
      · exact .inl h1
      · exact .inr (by omega)
    · have a := pl x hy
      rcases hat with h1 | h1
      · have := hrow1 x h1; omega
      · omega

end Go.Proofs.YtchideljndagjabGreat

namespace Go.Proofs.YtchideljndagjabGreat
open Go.ChangeShapes Go.WideShapes Go.ChangeAt Go.RowKit
set_option linter.unusedVariables false

def pickN (k : Int) (n : Nat) : Nat := if 0 ≤ k ∧ k < (n : Int) then k.toNat else 0
theorem pickN_lt (k : Int) {n : Nat} (h : 1 ≤ n) : pickN k n < n := by unfold pickN; split <;> omega

theorem pick_calls (k : Int) (n : Nat) (w : World) : Calls Tryz.prog 105 #[.int .i64 k, .int .i64 (n : Int)] w fun e w' => e = .returned (.int .i64 (pickN k n : Int)) ∧ w' = w := by
  by_cases h1 : k < 0
  · have H := hideG (show pickN k n = 0 by unfold pickN; rw [if_neg (by omega)])
    go_enter Tryz.func105, Tryz.ntmps105
    go_wp2_with fail
    go_ret
    exact ⟨by rw [H.out]; rfl, rfl⟩
  · by_cases h2 : (n : Int) ≤ k
    · have H := hideG (show pickN k n = 0 by unfold pickN; rw [if_neg (by omega)])
      go_enter Tryz.func105, Tryz.ntmps105
      go_wp2_with fail
      go_ret
      exact ⟨by rw [H.out]; rfl, rfl⟩
    · have H := hideG (show ((pickN k n : Nat) : Int) = k by unfold pickN; rw [if_pos (by omega)]; omega)
      go_enter Tryz.func105, Tryz.ntmps105
      go_wp2_with fail
      go_ret
      exact ⟨by rw [H.out]; rfl, rfl⟩

/-- The step's own block. -/
def opObj (kd x y z : Int) (r : Nat → Value) : Obj := .cells #[.int .i64 kd, .int .i64 x, .int .i64 y, .int .i64 z, r 0, r 1, r 2, r 3, r 4, r 5, r 6, r 7, r 8, r 9] 91
theorem op_cells {w W : World} {kd x y z : Int} {r : Nat → Value} {B : Nat} (hb : Below B (w.alloc (opObj kd x y z r)) W) (hB : w.heap.size < B) :
    W.cell? ⟨w.heap.size, 0, none⟩ = some (.int .i64 kd) ∧ W.cell? ⟨w.heap.size, 1, none⟩ = some (.int .i64 x) ∧ W.cell? ⟨w.heap.size, 5, none⟩ = some (r 1) ∧ (W.cell? ⟨w.heap.size, 9, none⟩ = some (r 5) ∧ W.cell? ⟨w.heap.size, 10, none⟩ = some (r 6) ∧ W.cell? ⟨w.heap.size, 11, none⟩ = some (r 7) ∧ W.cell? ⟨w.heap.size, 12, none⟩ = some (r 8)) ∧ W.cell? ⟨w.heap.size, 13, none⟩ = some (r 9) := by
  have hr : W.heap[w.heap.size]? = some (opObj kd x y z r) := (hb.block w.heap.size hB).trans (heap_alloc_new w _)
  have hc := fun i => cell_of_row W w.heap.size i _ _ (0, 0) hr
  exact ⟨(hc 0).trans rfl, (hc 1).trans rfl, (hc 5).trans rfl, ⟨(hc 9).trans rfl, (hc 10).trans rfl, (hc 11).trans rfl, (hc 12).trans rfl⟩, (hc 13).trans rfl⟩

end Go.Proofs.YtchideljndagjabGreat

namespace Go.Proofs.YtchideljndagjabGreat
open Go.ChangeShapes Go.WideShapes Go.ChangeAt Go.RowKit
set_option linter.unusedVariables false

theorem list_inI {w : World} {v : Value} {zs : List Int} (h : ListAt w v zs) : ∀ z ∈ zs, inI z := by obtain ⟨_, _, _, _, _, h1, _⟩ := h; exact h1
theorem upn_other {len : Nat → Nat} {c n d : Nat} (h : d ≠ c) : upn len c n d = len d := if_neg h
theorem upn_same {len : Nat → Nat} {c n : Nat} : upn len c n c = len c + n := if_pos rfl
theorem le_upn {len : Nat → Nat} {c n : Nat} (d : Nat) : len d ≤ upn len c n d := by
  by_cases e : d = c
  · subst e; rw [upn_same]; omega
  · rw [upn_other e]; exact Nat.le_refl _

/-- The outcome of a server, told and held beside the document's. -/
theorem stood_ai (pw m : Nat) (len : Nat → Nat) (T : Nat → List Th) (p : SP) (W1 w2 W : World) (va vb : Value) (h : AI W1 pw m len T) (hp : SPAt W1 pw p) (ht : Told W1 w2 va vb p.q.out.2.2.1 p.q.out.2.2.2) (hb : Below w2.heap.size w2 W) (hm : m + 2 ≤ 1000000000000000000) (hl : (len 0 + 2) * 24 ≤ 140737488355328) :
    Calls Tryz.prog 58 #[.pointer (some ⟨pw, 0, none⟩), .agg #[.int .i64 p.q.out.1, .int .i64 p.q.out.2.1, va, vb], .agg #[.int .i64 p.q.out.1, .int .i64 p.q.out.2.1, p.R.set, p.R.sum]] W fun e w' => e = .returned (.bool true) ∧ AI w' pw (m + 2) (upn len 0 2) T ∧ Below pw W1 w' := by
  obtain ⟨F, nx, ls, i1, i2, i3, i4, i5, i6⟩ := h
  obtain ⟨oa, ob, hd, hb1⟩ := ht
  have hbW : Below W1.heap.size W1 W := hb1.trans (hb.mono hb1.size)
  have zW := hbW.size
  have hpw := i1.pw_lt
  have l0 := i6 0
  have oaW := ownsRow_chg (S := fun _ => False) oa (Chg.of_below hb) (fun _ _ h => h)
  have obW := ownsRow_chg (S := fun _ => False) ob (Chg.of_below hb) (fun _ _ h => h)
  have hnew : ∀ x, va.ownBlock = some x ∨ vb.ownBlock = some x → W1.heap.size ≤ x := fun x hx => by
    rcases hx with hx | hx
    · exact (oa.lt x hx).1
    · exact (ob.lt x hx).1
  refine (stood_step pw F nx ls p.q.out.1 p.q.out.2.1 va vb p.R.set p.R.sum _ _ W1.heap.size W (i1.below hbW) i4 (by omega) (by omega) oaW obW hd hpw (fun x hx hf => by have := hnew x hx; have := i1.foot_lt hf; omega) (list_inI hp.srv.srv.set) (list_inI hp.srv.srv.sum) (hp.ref.set.below hbW) (hp.ref.sum.below hbW)).mono ?_
  rintro e w' ⟨rfl, F', ls', st⟩
  have q : QS pw W1 F ls w' F' ls' := ⟨(Chg.of_below (S := fun b => b = pw ∨ Foot F ls b) hbW).trans st.chg (fun b e hb => by
      rcases e with e | e | e | e
      · exact .inl e
      · have := hnew b (.inl e); omega
      · have := hnew b (.inr e); omega
      · exact .inr e), st.fs, fun b hb hf => st.foot b (by omega) (fun e => by have := hnew b (.inl e); omega) (fun e => by have := hnew b (.inr e); omega) hf⟩
  refine ⟨rfl, AI.quietq (m := m) (len := len) i1 i2 q st.inv (by rw [st.other 1 (by decide)]; exact i3) ⟨by omega, by omega⟩ (fun c => ?_)⟩
  by_cases e : c = 0
  · subst e; rw [st.len, upn_same]; omega
  · rw [st.other c e, upn_other e]; exact i6 c

/-- What the server tells. -/
theorem out_of {w : World} {pw : Nat} {p : SP} (h : SPAt w pw p) : Calls Tryz.prog 57 #[.pointer (some ⟨p.bx, 0, none⟩)] w fun e w' => ∃ va vb, e = .returned (.agg #[.int .i64 p.q.out.1, .int .i64 p.q.out.2.1, va, vb]) ∧ Told w w' va vb p.q.out.2.2.1 p.q.out.2.2.2 := by
  have := veilSOutcome_calls p.bx p.S _ _ w h.srv.srv.at_ h.srv.srv.set h.srv.srv.sum h.bd.1 h.bd.2
  rw [h.srv.srv.st, h.srv.srv.ro] at this
  exact this
theorem SPAt.outs {w : World} {pw : Nat} {p : SP} (h : SPAt w pw p) : w.cell? ⟨p.yb, 6, none⟩ = some (.int .i64 p.q.out.1) ∧ w.cell? ⟨p.yb, 7, none⟩ = some (.int .i64 p.q.out.2.1) ∧ w.cell? ⟨p.yb, 8, none⟩ = some p.R.set ∧ w.cell? ⟨p.yb, 9, none⟩ = some p.R.sum := by
  refine ⟨(h.ref.at_.cell 6).trans ?_, (h.ref.at_.cell 7).trans ?_, h.ref.at_.cell 8, h.ref.at_.cell 9⟩
  · rw [← h.ref.st]; rfl
  · rw [← h.ref.ro]; rfl

set_option maxHeartbeats 2000000 in
set_option maxRecDepth 100000 in
theorem servers_out (pw m : Nat) (len : Nat → Nat) (T : Nat → List Th) (K : List SP) (x y z : Int) (r : Nat → Value) (w : World) (h : AI w pw m len T) (hK : T 1 = K.map (sTh pw)) (hm : m + 2 ≤ 1000000000000000000) (hl : (len 0 + 2) * 24 ≤ 140737488355328) :
    Calls Tryz.prog 54 #[.pointer (some ⟨pw, 0, none⟩), .agg #[.int .i64 18, .int .i64 x, .int .i64 y, .int .i64 z, r 0, r 1, r 2, r 3, r 4, r 5, r 6, r 7, r 8, r 9]] w fun e w' => e = .returned (.bool true) ∧ AI w' pw (m + 2) (upn len 0 2) T ∧ Below pw w w' := by
  obtain ⟨W0, hW0⟩ : ∃ W0, W0 = w.alloc (opObj 18 x y z r) := ⟨_, rfl⟩
  have hb0 : Below w.heap.size w W0 := by rw [hW0]; exact (Below.refl _ _).alloc (Nat.le_refl _) _
  have z0 : w.heap.size < W0.heap.size := by rw [hW0]; simp
  have HOP := hideG (fun (W : World) (hb : Below W0.heap.size W0 W) => op_cells (W := W) (by rw [← hW0]; exact hb) z0)
  have K0 := hideG (h.below hb0)
  have hpw : pw < w.heap.size := h.pw_lt
  have HB0 := hideG (hb0.mono (Nat.le_of_lt hpw))
  unfold opObj at hW0
  have HW0 := hideG hW0
  obtain ⟨q0, q1, q5, -⟩ := HOP.out W0 (Below.refl _ _)
  obtain ⟨a, cap, c1, c1f, hnc, hcm, hel⟩ := K0.out.list (j := 1) (by decide)
  have HE := hideG hel
  have HTK := hideG hK
  obtain ⟨n, hn⟩ : ∃ n, n = (T 1).length := ⟨_, rfl⟩
  have HG := hideG (fun j (hj : j < n) => (show ∃ p, K[j]? = some p from ⟨_, List.getElem?_eq_getElem (by rw [hn, hK, List.length_map] at hj; exact hj)⟩))
  rw [← hn] at c1 hnc
  clear h hb0 hW0 hel hn hK
  by_cases hn0 : n = 0
  · subst hn0
    have FIN := hideG (K0.out.mono (m' := m + 2) (len' := upn len 0 2) (by omega) le_upn)
    go_enter Tryz.func54, Tryz.ntmps54
    go_upto_region 1 with fail
    rw [← HW0.out]
    go_wp2_with fail
    go_ret
    exact ⟨rfl, FIN.out, HB0.out⟩
  have n1 : 1 ≤ n := by omega
  have hn0' : ((n : Int) == 0) = false := by simpa using hn0
  obtain ⟨i, hi⟩ : ∃ i, i = pickN x n := ⟨_, rfl⟩
  have hil : i < n := by rw [hi]; exact pickN_lt x n1
  have HPK := hideG (fun (W : World) => pick_calls x n W)
  rw [← hi] at HPK
  obtain ⟨p, hp⟩ := HG.out i hil
  have hpT : (T 1)[i]? = some (sTh pw p) := by rw [HTK.out]; exact map_get_sp hp
  obtain ⟨g, rfl, hgl, e0⟩ := HE.out i _ hpT
  have HPP := hideG hpT
  obtain ⟨pc, hpc⟩ : ∃ pc, pc = p.pc := ⟨_, rfl⟩
  change W0.cell? ⟨g, i, none⟩ = some (.pointer (some ⟨p.pc, 0, none⟩)) at e0
  rw [← hpc] at e0
  have HPC := hideG hpc
  have hil' : (i : Int) < (n : Int) := by omega
  have hi0 : (0 : Int) ≤ (i : Int) := by omega
  clear hp hi hpc hn0 hpT
  go_enter Tryz.func54, Tryz.ntmps54
  go_upto_region 1 with fail
  rw [← HW0.out]
  go_upto_region 11 with fail
  go_quiet ((go_at_call 105; refine Calls.quiet_of_same (HPK.out _)))
  have HBN := hideG (below_drewN W0 nq)
  obtain ⟨W1, hW1⟩ : ∃ W1, W1 = W0.drewN nq := ⟨_, rfl⟩
  rw [← hW1] at HBN ⊢
  have s1 := HBN.out.size
  have K1 := hideG (K0.out.below HBN.out)
  have B1 := hideG (HB0.out.trans (HBN.out.mono (by omega)))
  clear hW1 q0 q1 q5 c1 c1f e0
  obtain ⟨q0, q1, q5, -⟩ := HOP.out W1 HBN.out
  have hp1 : SPAt W1 pw p := K1.out.thing (by decide) HPP.out
  obtain ⟨x0, x1⟩ := hp1.cells
  have hpcl := hp1.lt (x := p.pc) (.inl rfl)
  have HOU := hideG (out_of hp1)
  have P1 := hideG hp1
  rw [← HPC.out] at x0 x1 hpcl
  clear hp1
  go_wp2_with fail
  refine HOU.out.mono ?_
  rintro e w2 ⟨va, vb, rfl, htd⟩
  have hb2 := htd.2.2.2
  have z2 := hb2.size
  obtain ⟨y6, y7, y8, y9⟩ := (P1.out.below hb2).outs
  have x12 := ((P1.out.below hb2).cells).2
  have hyb := (P1.out.below hb2).lt (x := p.yb) (.inr (.inr (.inl (.inl rfl))))
  rw [← HPC.out] at x12
  have HST := hideG (fun (W : World) (hb : Below w2.heap.size w2 W) => stood_ai pw m len T p W1 w2 W va vb K1.out P1.out htd hb hm hl)
  obtain ⟨a1, k1, f1⟩ := owns_form htd.1
  obtain ⟨a2, k2, f2⟩ := owns_form htd.2.1
  obtain ⟨a3, k3, f3⟩ := list_form P1.out.ref.set
  obtain ⟨a4, k4, f4⟩ := list_form P1.out.ref.sum
  rw [f3] at y8 HST
  rw [f4] at y9 HST
  subst f1
  subst f2
  clear htd hb2 q0 q1 q5 x0 x1 f3 f4
  generalize p.q.out.1 = st at *
  generalize p.q.out.2.1 = ro at *
  generalize p.q.out.2.2.1.length = n1 at *
  generalize p.q.out.2.2.2.length = n2 at *
  go_upto_region 27 with fail
  obtain ⟨W3, hW3⟩ : ∃ W3, W3 = w2.alloc (.cells #[.int .i64 st, .int .i64 ro, .slice a1 n1 k1, .slice a2 n2 k2] 35) := ⟨_, rfl⟩
  rw [← hW3]
  have hb3 : Below w2.heap.size w2 W3 := by rw [hW3]; exact (Below.refl _ _).alloc (Nat.le_refl _) _
  have t3 : W3.heap[w2.heap.size]? = some (.cells #[.int .i64 st, .int .i64 ro, .slice a1 n1 k1, .slice a2 n2 k2] 35 (0, 0)) := by rw [hW3]; exact heap_alloc_new w2 _
  obtain ⟨⟨t0, t1, t2, t33⟩, -⟩ := cells_four t3
  have z3 : w2.heap.size < W3.heap.size := by rw [hW3]; simp
  have v6 := (hb3.cell (p := ⟨p.yb, 6, none⟩) hyb).trans y6
  have v7 := (hb3.cell (p := ⟨p.yb, 7, none⟩) hyb).trans y7
  have v8 := (hb3.cell (p := ⟨p.yb, 8, none⟩) hyb).trans y8
  have v9 := (hb3.cell (p := ⟨p.yb, 9, none⟩) hyb).trans y9
  have v12 := (hb3.cell (p := ⟨pc, 1, none⟩) (by show pc < _; omega)).trans x12
  have HS3 := hideG (HST.out W3.drew hb3.drew)
  clear hW3 hb3 t3 y6 y7 y8 y9 x12
  go_region_with (go_at_call 58; refine HS3.out.mono ?_; rintro e w4 ⟨rfl, f1, f2⟩; have FIN := hideG (And.intro f1 (B1.out.trans f2)); clear f1 f2)
  all_goals (go_wp2_with fail; go_ret; exact ⟨rfl, FIN.out⟩)

end Go.Proofs.YtchideljndagjabGreat

namespace Go.Proofs.YtchideljndagjabGreat
open Go.ChangeShapes Go.WideShapes Go.ChangeAt Go.RowKit
set_option linter.unusedVariables false

theorem out_step (C : Srv.Cf) (q : Srv.Sv) (zs : List Int) : (sstepD C q zs).out = q.out := by
  unfold sstepD
  cases Frm.decF zs with
  | none => rfl
  | some f => show (Srv.takeS C q f).out = _; unfold Srv.takeS; split <;> rfl
theorem setT_one {T : Nat → List Th} {j i : Nat} {t : Th} : setT T j i t j = (T j).set i t := if_pos rfl
theorem setT_other {T : Nat → List Th} {j i d : Nat} {t : Th} (h : d ≠ j) : setT T j i t d = T d := if_neg h
theorem set_lens {K : List SP} {i k : Nat} {p p' : SP} (hp : K[i]? = some p) (h : ∀ q ∈ K, q.L.length ≤ k) (h' : p'.L.length ≤ p.L.length + 1) : ∀ q ∈ K.set i p', q.L.length ≤ k + 1 := by
  intro q hq
  obtain ⟨j, hj⟩ := List.mem_iff_getElem?.1 hq
  rw [List.getElem?_set] at hj
  have hil : i < K.length := (List.getElem?_eq_some_iff.1 hp).1
  by_cases e : i = j
  · subst e
    rw [if_pos rfl, if_pos hil] at hj
    cases hj
    have := h p (List.mem_of_getElem? hp); omega
  · rw [if_neg e] at hj
    have := h q (List.mem_of_getElem? hj); omega
theorem len_up {ls : Nat → List Ow} {len : Nat → Nat} {c : Nat} {o : Ow} (h : ∀ c, (ls c).length ≤ len c) : ∀ d, ((updL ls c (ls c ++ [o])) d).length ≤ upn len c 1 d := by
  intro d
  unfold updL
  by_cases e : d = c
  · subst e; rw [if_pos rfl, List.length_append, upn_same]; have := h d; simp; omega
  · rw [if_neg e, upn_other e]; exact h d

/-- Servers, after a step: which, and what of the rest. -/
structure SvStep (pw : Nat) (T T' : Nat → List Th) (K' : List SP) : Prop where
  one : T' 1 = K'.map (sTh pw)
  other : ∀ j, j ≠ 1 → T' j = T j

/-- What the step leaves. -/
theorem stake_fin {W1 w2 w3 w4 w5 w7 w8 : World} {pw m k i g : Nat} {len : Nat → Nat} {T : Nat → List Th} {K : List SP} {F F1 : Nat → Value} {nx : Int} {ls : Nat → List Ow} {p : SP} {zs : List Int} {S' : SS} {R' : RV} {L' : Srv.Log} {X' : List Value} {o1 : Ow}
    (i1 : InvW W1 pw F nx ls) (i2 : InvA W1 pw F ls T) (i3 : MarksOk (ls 1)) (i4 : 0 ≤ nx) (i5 : nx ≤ (m : Int)) (i6 : ∀ c, (ls c).length ≤ len c) (hK : T 1 = K.map (sTh pw)) (hp : K[i]? = some p) (hk : ∀ q ∈ K, q.L.length ≤ k)
    (hpa : SPAt w5 pw ⟨p.pc, p.bx, p.yb, p.C, sstepD p.C p.q zs, S', R', L', X'⟩) (hchg : Chg (fun x => SPFoot p x) W1 w5) (hft : ∀ x, SPFoot ⟨p.pc, p.bx, p.yb, p.C, sstepD p.C p.q zs, S', R', L', X'⟩ x → SPFoot p x ∨ (SFoot p.bx S' x ∧ w2.heap.size ≤ x ∧ x < w3.heap.size) ∨ (VFoot p.yb R' X' x ∧ w4.heap.size ≤ x)) (hmo : L'.length ≤ p.L.length + 1)
    (zz : W1.heap.size ≤ w2.heap.size ∧ w2.heap.size ≤ w3.heap.size ∧ w3.heap.size ≤ w4.heap.size) (hg : W1.heap.size ≤ g ∧ g < w2.heap.size)
    (hb7 : Below w5.heap.size w5 w7) (j1 : InvW w8 pw F1 (nx + 1) (updL ls 1 (ls 1 ++ [o1]))) (j2 : ∀ b, b < w7.heap.size → g ≠ b → ¬ Foot F ls b → ¬ Foot F1 (updL ls 1 (ls 1 ++ [o1])) b) (j3 : ∀ j, j < 3 → F1 j = F j) (j4 : Chg (fun b => b = pw ∨ g = b ∨ Foot F ls b) w7 w8) (jm : 0 ≤ o1.2.2 ∧ o1.2.2 ≤ 255) :
    ∃ T' K', AI w8 pw (m + 1) (upn len 1 1) T' ∧ SvStep pw T T' K' ∧ K'.length = K.length ∧ (∀ q ∈ K', q.L.length ≤ k + 1) ∧ pots K' ≤ pots K + 1 ∧ Below pw W1 w8 := by
  obtain ⟨z12, z23, z34⟩ := zz
  have hpT : (T 1)[i]? = some (sTh pw p) := by rw [hK]; exact map_get_sp hp
  have hp1 : SPAt W1 pw p := (i2.ok 1 (by decide) _ (List.mem_of_getElem? hpT)).2
  have R := turn_own (t' := sTh pw ⟨p.pc, p.bx, p.yb, p.C, sstepD p.C p.q zs, S', R', L', X'⟩) (N := fun b => g = b) i1 i2 (by decide) hpT rfl (sth_ok pw _) hpa hchg (fun x hx => ?_) (fun b e => ?_) hb7 j3 j4 j2
  · refine ⟨_, K.set i ⟨p.pc, p.bx, p.yb, p.C, sstepD p.C p.q zs, S', R', L', X'⟩, ⟨F1, nx + 1, _, j1, R.1, ?_, by omega, by omega, len_up i6⟩, ⟨by rw [setT_one, hK, map_set_sp], fun j hj => setT_other hj⟩, List.length_set, set_lens hp hk hmo, ?_, R.2⟩
    · have e : (updL ls 1 (ls 1 ++ [o1])) 1 = ls 1 ++ [o1] := by simp [updL]
      rw [e]; exact i3.snoc jm
    · have a := pots_set K i p ⟨p.pc, p.bx, p.yb, p.C, sstepD p.C p.q zs, S', R', L', X'⟩ hp
      have b : pot (sstepD p.C p.q zs) ≤ pot p.q + 1 := pot_take p.C p.q zs
      have a' : pots (K.set i ⟨p.pc, p.bx, p.yb, p.C, sstepD p.C p.q zs, S', R', L', X'⟩) + pot p.q = pots K + pot (sstepD p.C p.q zs) := a
      omega
  · rcases hft x hx with h1 | h1 | h1
    · exact .inl h1
    · exact .inr (by omega)
    · exact .inr (by omega)
  · have e' : g = b := e
    subst e'
    refine ⟨hg.1, fun hx => ?_⟩
    rcases hft g hx with h1 | h1 | h1
    · have := hp1.lt h1; omega
    · omega
    · omega

set_option maxHeartbeats 2000000 in
set_option maxRecDepth 100000 in
theorem servers_take (pw m k : Nat) (len : Nat → Nat) (T : Nat → List Th) (K : List SP) (x y z : Int) (r : Nat → Value) (st : ByteArray) (w : World) (h : AI w pw m len T) (hK : T 1 = K.map (sTh pw)) (hr1 : r 1 = .string st) (hsz : st.size ≤ 140737488351232) (hhk : ∀ q ∈ K, q.L.length ≤ k) (hk : (k + 1) * 48 ≤ 140737488355328) (hm : m + 1 ≤ 1000000000000000000) (hl : (len 1 + 1) * 24 ≤ 140737488355328) :
    Calls Tryz.prog 54 #[.pointer (some ⟨pw, 0, none⟩), .agg #[.int .i64 16, .int .i64 x, .int .i64 y, .int .i64 z, r 0, r 1, r 2, r 3, r 4, r 5, r 6, r 7, r 8, r 9]] w fun e w' => e = .returned (.bool true) ∧ ∃ T' K', AI w' pw (m + 1) (upn len 1 1) T' ∧ SvStep pw T T' K' ∧ K'.length = K.length ∧ (∀ q ∈ K', q.L.length ≤ k + 1) ∧ pots K' ≤ pots K + 1 ∧ Below pw w w' := by
  have HR1 := hideG hr1
  have HHK := hideG hhk
  have HLK0 := hideG (show ∀ q ∈ K, q.L.length ≤ k + 1 from fun q hq => by have := hhk q hq; omega)
  clear hhk hr1
  obtain ⟨W0, hW0⟩ : ∃ W0, W0 = w.alloc (opObj 16 x y z r) := ⟨_, rfl⟩
  have hb0 : Below w.heap.size w W0 := by rw [hW0]; exact (Below.refl _ _).alloc (Nat.le_refl _) _
  have z0 : w.heap.size < W0.heap.size := by rw [hW0]; simp
  have HOP := hideG (fun (W : World) (hb : Below W0.heap.size W0 W) => op_cells (W := W) (by rw [← hW0]; exact hb) z0)
  have K0 := hideG (h.below hb0)
  have hpw : pw < w.heap.size := h.pw_lt
  have HB0 := hideG (hb0.mono (Nat.le_of_lt hpw))
  have HNOP := hideG (fun (p : SP) (hp : (T 1)[pickN x (T 1).length]? = some (sTh pw p)) (hx : SPFoot p w.heap.size) => (show False by have h1 : SPAt w pw p := h.thing (by decide) hp; have := h1.lt hx; omega))
  unfold opObj at hW0
  have HW0 := hideG hW0
  obtain ⟨q0, q1, q5, -⟩ := HOP.out W0 (Below.refl _ _)
  obtain ⟨a, cap, c1, c1f, hnc, hcm, hel⟩ := K0.out.list (j := 1) (by decide)
  have HE := hideG hel
  have HTK := hideG hK
  obtain ⟨n, hn⟩ : ∃ n, n = (T 1).length := ⟨_, rfl⟩
  have HG := hideG (fun j (hj : j < n) => (show ∃ p, K[j]? = some p from ⟨_, List.getElem?_eq_getElem (by rw [hn, hK, List.length_map] at hj; exact hj)⟩))
  rw [← hn] at c1 hnc HNOP
  clear h hb0 hW0 hel hn hK
  by_cases hn0 : n = 0
  · subst hn0
    have FIN := hideG (K0.out.mono (m' := m + 1) (len' := upn len 1 1) (by omega) le_upn)
    go_enter Tryz.func54, Tryz.ntmps54
    go_upto_region 1 with fail
    rw [← HW0.out]
    go_wp2_with fail
    go_ret
    exact ⟨rfl, T, K, FIN.out, ⟨HTK.out, fun _ _ => rfl⟩, rfl, HLK0.out, by omega, HB0.out⟩
  have n1 : 1 ≤ n := by omega
  have hn0' : ((n : Int) == 0) = false := by simpa using hn0
  obtain ⟨i, hi⟩ : ∃ i, i = pickN x n := ⟨_, rfl⟩
  have hil : i < n := by rw [hi]; exact pickN_lt x n1
  have HPK := hideG (fun (W : World) => pick_calls x n W)
  rw [← hi] at HPK HNOP
  obtain ⟨p, hp⟩ := HG.out i hil
  have hpT : (T 1)[i]? = some (sTh pw p) := by rw [HTK.out]; exact map_get_sp hp
  obtain ⟨g, rfl, hgl, e0⟩ := HE.out i _ hpT
  have HPP := hideG hpT
  have HPK1 := hideG hp
  obtain ⟨pc, hpc⟩ : ∃ pc, pc = p.pc := ⟨_, rfl⟩
  change W0.cell? ⟨g, i, none⟩ = some (.pointer (some ⟨p.pc, 0, none⟩)) at e0
  rw [← hpc] at e0
  have HPC := hideG hpc
  have hil' : (i : Int) < (n : Int) := by omega
  have hi0 : (0 : Int) ≤ (i : Int) := by omega
  clear hp hi hpc hn0 hpT
  go_enter Tryz.func54, Tryz.ntmps54
  go_upto_region 1 with fail
  rw [← HW0.out]
  go_upto_region 11 with fail
  go_quiet ((go_at_call 105; refine Calls.quiet_of_same (HPK.out _)))
  have HBN := hideG (below_drewN W0 nq)
  obtain ⟨W1, hW1⟩ : ∃ W1, W1 = W0.drewN nq := ⟨_, rfl⟩
  rw [← hW1] at HBN ⊢
  have s1 := HBN.out.size
  have K1 := hideG (K0.out.below HBN.out)
  have B1 := hideG (HB0.out.trans (HBN.out.mono (by omega)))
  clear hW1 q0 q1 q5 c1 c1f e0
  obtain ⟨q0, q1, q5, -⟩ := HOP.out W1 HBN.out
  rw [HR1.out] at q5
  obtain ⟨F, nx, ls, i1, i2, i3, i4, i5, i6⟩ := K1.out
  have hpa1 : SPAt W1 pw p := K1.out.thing (by decide) HPP.out
  have I1 := hideG i1
  have II := hideG (And.intro i2 (And.intro i3 (And.intro i4 (And.intro i5 i6))))
  have i4' := i4
  have hi5 : nx ≤ (m : Int) := i5
  have hl6 := i6 1
  have PA1 := hideG hpa1
  have lpc1 := hpa1.lt (x := p.pc) (.inl rfl)
  rw [← HPC.out] at lpc1
  clear i1 i2 i3 i4 i5 i6 hpa1
  go_wp2_with fail
  refine (giveBytes_calls st W1 hsz).mono ?_
  rintro e w2 ⟨g, hg0, rfl, hg1, hb2⟩
  have z2 := hb2.size
  have gl2 : g < w2.heap.size := by
    by_cases h : g < w2.heap.size
    · exact h
    · rw [Array.getElem?_eq_none (by omega)] at hg1; cases hg1
  have hpw2 : pw < w2.heap.size := by omega
  have G2 := hideG hg1
  have B2 := hideG hb2
  have PA2 := hideG (PA1.out.below hb2)
  have BN2 := hideG (HBN.out.trans (hb2.mono (by omega)))
  obtain ⟨x0, x1⟩ := PA2.out.cells
  rw [← HPC.out] at x0 x1
  have HTKX := hideG (veilSTake_calls p.bx p.C p.q p.S _ (bl st) w2 PA2.out.srv PA2.out.ref.sok (bgiven_bytes hg1 hsz))
  have lpc2 : pc < w2.heap.size := by omega
  clear hg1 hb2 q0 q1 q5
  go_wp2_with fail
  refine HTKX.out.mono ?_
  rintro e w3 ⟨rfl, S', htk⟩
  have z3 := htk.chg.size
  have TK := hideG htk
  have lbx := PA2.out.lt (x := p.bx) (.inr (.inl (.inl rfl)))
  have nbx : p.bx ≠ p.pc := fun e => PA2.out.ap2.1 (by rw [← e]; exact .inl rfl)
  have hlb : pw < p.bx := PA2.out.lo _ (.inr (.inl (.inl rfl)))
  have RW3 := hideG (PA2.out.ref.keep htk.chg.size (fun x hx => htk.chg.block x (PA2.out.lt (.inr (.inr hx))) (fun e => PA2.out.ap1 x (by rw [e]; exact .inl rfl) hx)))
  have row3 : w3.heap[p.pc]? = some (.cells #[.pointer (some ⟨p.bx, 0, none⟩), .pointer (some ⟨p.yb, 0, none⟩)] 130 (0, 0)) := by rw [htk.chg.block p.pc (by rw [← HPC.out]; omega) (fun e => nbx e.symm)]; exact PA2.out.row
  have G3 := hideG (show w3.heap[g]? = some (.cells (bgiven (bl st) 3).toArray 5 (0, 0)) by rw [htk.chg.block g gl2 (fun e => by have := PA1.out.lt (x := p.bx) (.inr (.inl (.inl rfl))); omega)]; exact G2.out)
  have op3 : ∀ o, w3.cell? ⟨w.heap.size, o, none⟩ = w2.cell? ⟨w.heap.size, o, none⟩ := fun o => World.cell?_of_block (w := w2) (a := ⟨w.heap.size, o, none⟩) (htk.chg.block w.heap.size (by omega) (fun e => HNOP.out p HPP.out (by rw [e]; exact .inr (.inl (.inl rfl)))))
  have q53 : w3.cell? ⟨w.heap.size, 5, none⟩ = some (.string st) := by rw [op3 5, ← HR1.out]; exact (HOP.out w2 BN2.out).2.2.1
  obtain ⟨v4, w4, hcv, hba4, hb4⟩ := conv_ex w3.drew st (by unfold maxLen; omega)
  have z4 : w3.heap.size ≤ w4.heap.size := hb4.size
  have hb34 : Below w3.heap.size w3 w4 := (Below.refl w3.heap.size w3).drew.trans hb4
  have xx1 : w3.cell? ⟨p.pc, 1, none⟩ = some (.pointer (some ⟨p.yb, 0, none⟩)) := (cell_of_row w3 p.pc 1 _ _ (0, 0) row3).trans rfl
  have xx4 : w4.cell? ⟨p.pc, 1, none⟩ = some (.pointer (some ⟨p.yb, 0, none⟩)) := (hb34.cell (p := ⟨p.pc, 1, none⟩) (by show p.pc < _; rw [← HPC.out]; omega)).trans xx1
  have HRT := hideG (rvTake_calls pw p.yb p.C PA1.out.gc p.q p.R p.L p.X v4 (bl st) w4 (RW3.out.below hb34) hba4 (Nat.le_trans (Nat.mul_le_mul_right 48 (Nat.succ_le_succ (HHK.out p (List.mem_of_getElem? HPK1.out)))) hk))
  rw [← HPC.out] at xx1 xx4
  have B34 := hideG hb34
  clear x0 x1 htk hb4 hba4 hb34 row3 op3
  have hwl : w.heap.size < w3.heap.size := by omega
  have hpl3 : pc < w3.heap.size := by omega
  obtain ⟨cn, hcn⟩ : ∃ cn, cn = scntD p.C p.q (bl st) := ⟨_, rfl⟩
  rw [← hcn] at HRT ⊢
  clear hcn
  go_upto_region 16 with fail
  go_cut [12] from 93 to 100 (fun q wc => q = .bool cn ∧ ∃ R' L' X', VTook w4 wc pw p.yb p.C (sstepD p.C p.q (bl st)) p.R R' p.L L' p.X X')
  case first =>
    go_region_with (go_at_call 114; refine HRT.out.mono ?_; rintro e w5 ⟨rfl, R', L', X', t1⟩; have HFIN := hideG (show ∃ R' L' X', VTook w4 w5 pw p.yb p.C (sstepD p.C p.q (bl st)) p.R R' p.L L' p.X X' from ⟨R', L', X', t1⟩); clear t1)
    all_goals (go_wp2_with fail; go_meet; exact ⟨rfl, HFIN.out⟩)
  case rest =>
    obtain ⟨hvb, R', L', X', rt⟩ := hcut
    subst hvb
    obtain ⟨hpt, hchg, hft⟩ := sp_took PA1.out B2.out TK.out B34.out rt (by rw [out_step]; exact PA1.out.bd)
    have zc := rt.chg.size
    have G5 := hideG (show wc.heap[g]? = some (.cells (bgiven (bl st) 3).toArray 5 (0, 0)) by
      rw [rt.chg.block g (by omega) (fun e => by have := PA1.out.lt (x := g) (.inr (.inr (.inl e))); omega), B34.out.block g (by omega)]
      exact G3.out)
    have q5c : wc.cell? ⟨w.heap.size, 5, none⟩ = some (.string st) := by
      rw [← HR1.out, ← (HOP.out W1 HBN.out).2.2.1]
      exact World.cell?_of_block (w := W1) (a := ⟨w.heap.size, 5, none⟩) (hchg.block w.heap.size (by omega) (HNOP.out p HPP.out))
    have IW5 := hideG (show InvW wc pw F nx ls from I1.out.chg hchg (fun b hb => ⟨by have := PA1.out.lo b hb; omega, fun hf' => by
      obtain ⟨tg, t1, t2, t3⟩ := II.out.1.tag
      have a := t1 1 i _ b (by decide) HPP.out hb; have b' := t3 b hf'; omega⟩))
    have PT := hideG hpt
    have CH := hideG hchg
    have FT := hideG hft
    have HMO := hideG rt.more
    have zW : W1.heap.size ≤ wc.heap.size := hchg.size
    clear rt hpt hchg hft xx1 xx4 q53 hcv
    have hwlc : w.heap.size < wc.heap.size := by omega
    have HSB := hideG (stillBytes_calls st wc g hsz G5.out)
    go_wp2_with fail
    refine HSB.out.mono ?_
    rintro e w7 ⟨rfl, nq7, hw7⟩
    have hb7 : Below wc.heap.size wc w7 := by rw [hw7]; exact below_drewN _ _
    have z7 := hb7.size
    have B7 := hideG hb7
    have G7 := hideG ((hb7.block g (by omega)).trans G5.out)
    have IW7 := hideG (IW5.out.below hb7)
    have hng : ¬ Foot F ls g := fun hf => by have := I1.out.foot_lt hf; omega
    have hsz3 : (bgiven (bl st) 3).toArray.size = st.size + 3 := by simp [bgiven_length _ _ (Nat.le_refl 3), bl_length]
    have hl24 : ((ls 1).length + 1) * 24 ≤ 140737488355328 := Nat.le_trans (Nat.mul_le_mul_right 24 (Nat.succ_le_succ hl6)) hl
    clear hw7 hb7 q5c
    go_wp2_with fail
    refine (ownBytes_calls pw F nx ls g st.size (st.size + 3) _ w7 IW7.out i4' (by omega) hl24 G7.out hsz3 (by omega) (by unfold maxLen; omega) (by omega) hng).mono ?_
    rintro e w8 ⟨rfl, F1, j1, j2, j3, j4⟩
    have FF := hideG (stake_fin (k := k) (m := m) I1.out II.out.1 II.out.2.1 II.out.2.2.1 II.out.2.2.2.1 II.out.2.2.2.2 HTK.out HPK1.out HHK.out PT.out CH.out FT.out HMO.out ⟨z2, z3, z4⟩ ⟨hg0, gl2⟩ B7.out j1 j2 j3 j4 ⟨by have := mkN_lo nx; show 0 ≤ mkN nx; omega, by have := mkN_hi nx; show mkN nx ≤ 255; omega⟩)
    clear j1 j2 j3 j4
    go_wp2_with fail
    go_ret
    obtain ⟨T', K', f1, f2, f3, f4, f5, f6⟩ := FF.out
    exact ⟨by simp, T', K', f1, f2, f3, f4, f5, B1.out.trans f6⟩

end Go.Proofs.YtchideljndagjabGreat
