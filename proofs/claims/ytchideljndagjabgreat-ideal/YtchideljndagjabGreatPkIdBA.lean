/- The program's session in memory: a part of it has turned. -/
import Derived.Test.YtchideljndagjabGreatPkIdAZ
import Derived.Test.YtchideljndagjabGreatPkIdAW
import Derived.Laws.Cover3
namespace Go.Proofs.YtchideljndagjabGreat
open Go.RowKit
set_option linter.unusedVariables false

section
variable {w w' w1 : World} {b n : Nat} {C : Srv.Cf} {cl : Nat → Cli.Cl} {s : Sn} {m : SM}
theorem SesAt.sfoot (h : SesAt w b n C cl s m) {x : Nat} (hx : SFoot b m.S x) : SesFoot b n m x := by
  by_cases e : x = b
  · exact .inl (.inl e)
  · exact .inr (.inl ⟨hx, e⟩)
theorem SesAt.cfoot (h : SesAt w b n C cl s m) {i : Nat} (hi : i < n) {x : Nat} (hx : CFoot m.cb (m.P i) x) : SesFoot b n m x := by
  by_cases e : x = m.cb
  · exact .inl (.inr (.inl e))
  · exact .inr (.inr (.inl ⟨i, hi, hx, e⟩))
theorem SesAt.turnS (h : SesAt w b n C cl s m) {q' : Srv.Sv} {S' : SS} (t : STook w w' b C q' m.S S') : SesTook w w' b n C cl { s with q := q' } m { m with S := S' } := by
  have z := t.chg.size
  have far : ∀ x, SesFoot b n m x → x ≠ b → w'.heap[x]? = w.heap[x]? := fun x hx e => t.chg.block x (h.low hx) e
  have ncb : ∀ i, i < n → ∀ x, CFoot m.cb (m.P i) x → x ≠ b := fun i hi x hx e => by
    by_cases q : x = m.cb
    · exact h.own.1 (q.symm.trans e)
    · exact h.ap x (.inr (.inl ⟨i, hi, hx, q⟩)) (.inl e)
  have stat : ∀ x, SStat b n { m with S := S' } x → SStat b n m x ∨ w.heap.size ≤ x := fun x hx => by
    rcases hx with ⟨hx, e⟩ | hx | hx
    · rcases t.foot x hx with k | k
      · exact .inl (.inl ⟨k, e⟩)
      · exact .inr k
    · exact .inl (.inr (.inl hx))
    · exact .inl (.inr (.inr hx))
  refine ⟨⟨t.srv, (t.rest 76 (by omega)).1.trans h.c76, (t.rest 77 (by omega)).1.trans h.c77, (t.rest 77 (by omega)).2.trans h.f77, h.ncc, fun i hi => ?_, ?_, Nat.lt_of_lt_of_le h.lcb z, h.own, fun x hx ho => ?_⟩, t.chg.mono (fun x e _ => .inl e), fun x hx => .inl hx, fun x hx => ?_⟩
  · exact (h.cli i hi).keep z (fun x hx => far x (h.cfoot hi hx) (ncb i hi x hx))
  · exact h.fl.keep z (fun x hx => far x (.inl (.inr (.inr hx))) (fun e => h.own.2.1 (e ▸ hx))) (fun y hy x hx => far x (.inr (.inr (.inr ⟨y, hy, hx⟩))) (fun e => h.ap x (.inr (.inr ⟨y, hy, hx⟩)) (.inl e)))
  · rcases stat x hx with k | k
    · exact h.ap x k ho
    · have := h.low (.inl ho : SesFoot b n m x); omega
  · rcases hx with hx | hx
    · exact .inl (.inl hx)
    · exact (stat x hx).imp .inr id
theorem SesAt.turnC (h : SesAt w b n C cl s m) {i : Nat} (hi : i < n) {g' : Bool} {st' : Cli.St} {P' : PS} (hc : Co.ChgC m.cb (i * 78) w w') (hat : CAt w' m.cb (i * 78) (cl i) g' st' P') (hft : ∀ x, CFoot m.cb P' x → CFoot m.cb (m.P i) x ∨ w.heap.size ≤ x) :
    SesTook w w' b n C cl { s with cs := updA s.cs i st', gone := updA s.gone i g' } m { m with P := updA m.P i P' } := by
  have z := hc.size
  have far : ∀ x, SesFoot b n m x → x ≠ m.cb → w'.heap[x]? = w.heap[x]? := fun x hx e => hc.block x (h.low hx) e
  have ns : ∀ x, SFoot b m.S x → x ≠ m.cb := fun x hx e => by
    by_cases q : x = b
    · exact h.own.1 (e.symm.trans q)
    · exact h.ap x (.inl ⟨hx, q⟩) (.inr (.inl e))
  have stat : ∀ x, SStat b n { m with P := updA m.P i P' } x → SStat b n m x ∨ w.heap.size ≤ x := fun x hx => by
    rcases hx with hx | ⟨j, hj, hx, e⟩ | hx
    · exact .inl (.inl hx)
    · have hx' : CFoot m.cb (updA m.P i P' j) x := hx
      by_cases q : j = i
      · subst q
        rw [updA_same] at hx'
        rcases hft x hx' with k | k
        · exact .inl (.inr (.inl ⟨j, hj, k, e⟩))
        · exact .inr k
      · rw [updA_other _ _ _ q] at hx'
        exact .inl (.inr (.inl ⟨j, hj, hx', e⟩))
    · exact .inl (.inr (.inr hx))
  have hbb := far b (.inl (.inl rfl)) (fun e => h.own.1 e.symm)
  refine ⟨⟨h.srv.keep z (fun x hx => far x (h.sfoot hx) (ns x hx)), (World.cell?_of_block (w := w) (a := ⟨b, 76, none⟩) hbb).trans h.c76, (World.cell?_of_block (w := w) (a := ⟨b, 77, none⟩) hbb).trans h.c77, (frozen_block hbb 77).trans h.f77, h.ncc, fun j hj => ?_, ?_, Nat.lt_of_lt_of_le h.lcb z, h.own, fun x hx ho => ?_⟩, hc.chg.mono (fun x e _ => .inr (.inl e)), fun x hx => .inl hx, fun x hx => ?_⟩
  · show CAt w' m.cb (j * 78) (cl j) (updA s.gone i g' j) (updA s.cs i st' j) (updA m.P i P' j)
    by_cases q : j = i
    · subst q
      rw [updA_same, updA_same, updA_same]; exact hat
    · rw [updA_other _ _ _ q, updA_other _ _ _ q, updA_other _ _ _ q]
      refine (h.cli j hj).keepAt z (RecAt.keep (h.cli j hj).at_ (fun k hk => ?_) (fun k hk => ?_)) (fun x e hx => far x (h.cfoot hj hx) e)
      all_goals (rw [psCells_length] at hk)
      · exact (hc.rest (j * 78 + k) (by omega)).1
      · exact (hc.rest (j * 78 + k) (by omega)).2
  · exact h.fl.keep z (fun x hx => far x (.inl (.inr (.inr hx))) (fun e => h.own.2.2 (e ▸ hx))) (fun y hy x hx => far x (.inr (.inr (.inr ⟨y, hy, hx⟩))) (fun e => h.ap x (.inr (.inr ⟨y, hy, hx⟩)) (.inr (.inl e))))
  · rcases stat x hx with k | k
    · exact h.ap x k ho
    · have := h.low (.inl ho : SesFoot b n m x); omega
  · rcases hx with hx | hx
    · exact .inl (.inl hx)
    · exact (stat x hx).imp .inr id
theorem SesAt.turnF (h : SesAt w b n C cl s m) {fv' : Value} {vs' : List Value} {ps' : List Pk} (hc : Chg (fun x => m.fv.ownBlock = some x) w w1) (hf : FlAt w1 fv' vs' ps') (hw' : w' = w1.setCell ⟨b, 77, none⟩ fv') (hv : ∀ x, fv'.ownBlock = some x → m.fv.ownBlock = some x ∨ w.heap.size ≤ x)
    (hvs : ∀ y ∈ vs', ∀ x, y.ownBlock = some x → x ≠ b ∧ x ≠ m.cb) :
    SesAt w' b n C cl { s with fl := ps' } { m with fv := fv', vs := vs' } ∧ Chg (SesOwn b m) w w' ∧ (∀ x, SesOwn b { m with fv := fv', vs := vs' } x → SesOwn b m x ∨ w.heap.size ≤ x) ∧
      ∀ x, SesFoot b n { m with fv := fv', vs := vs' } x → SesFoot b n m x ∨ w.heap.size ≤ x ∨ ∃ y ∈ vs', y.ownBlock = some x := by
  have z1 := hc.size
  have z' : w'.heap.size = w1.heap.size := by rw [hw']; simp [World.setCell]
  have c2 : Chg (fun x => x = b) w1 w' := by rw [hw']; exact Chg.setCell w1 ⟨b, 77, none⟩ fv'
  have hblt := h.blt
  have far1 : ∀ x, x < w.heap.size → m.fv.ownBlock ≠ some x → w1.heap[x]? = w.heap[x]? := fun x hx e => hc.block x hx e
  have far : ∀ x, x < w.heap.size → m.fv.ownBlock ≠ some x → x ≠ b → w'.heap[x]? = w.heap[x]? := fun x hx e e2 => by rw [c2.block x (by omega) e2]; exact far1 x hx e
  have hb1 : w1.heap[b]? = w.heap[b]? := far1 b hblt h.own.2.1
  have cell : ∀ k, k ≠ 77 → w'.cell? ⟨b, k, none⟩ = w.cell? ⟨b, k, none⟩ := fun k hk => by
    rw [hw', World.cell?_setCell_other _ _ _ _ (by intro q; injection q with q1 q2 q3; omega)]
    exact World.cell?_of_block (w := w) (a := ⟨b, k, none⟩) hb1
  have froz : ∀ k, w'.frozen? ⟨b, k, none⟩ = w.frozen? ⟨b, k, none⟩ := fun k => by
    rw [hw', World.frozen?_setCell]; exact frozen_block hb1 k
  have d77 : w1.cell? ⟨b, 77, none⟩ = some m.fv := (World.cell?_of_block (w := w) (a := ⟨b, 77, none⟩) hb1).trans h.c77
  have nst : ∀ x, SStat b n m x → x < w.heap.size ∧ m.fv.ownBlock ≠ some x ∧ x ≠ b ∧ x ≠ m.cb := fun x hx => ⟨h.low (.inr hx), fun e => h.ap x hx (.inr (.inr e)), fun e => h.ap x hx (.inl e), fun e => h.ap x hx (.inr (.inl e))⟩
  have fvb : ∀ x, fv'.ownBlock = some x → x ≠ b ∧ x ≠ m.cb := fun x hx => by
    rcases hv x hx with k | k
    · exact ⟨fun e => h.own.2.1 (e ▸ k), fun e => h.own.2.2 (e ▸ k)⟩
    · have := h.lcb; exact ⟨by omega, by omega⟩
  have hcb : w'.heap[m.cb]? = w.heap[m.cb]? := far m.cb h.lcb h.own.2.2 h.own.1
  refine ⟨⟨?_, (cell 76 (by omega)).trans h.c76, ?_, (froz 77).trans h.f77, h.ncc, fun i hi => ?_, ?_, by rw [z']; exact Nat.lt_of_lt_of_le h.lcb z1, ⟨h.own.1, fun e => (fvb b e).1 rfl, fun e => (fvb m.cb e).2 rfl⟩, fun x hx ho => ?_⟩, ?_, fun x hx => ?_, fun x hx => ?_⟩
  · have k := h.srv
    refine ⟨k.srv.keep (by omega) (RecAt.keep k.srv.at_ (fun j hj => cell _ ?_) (fun j _ => froz _)) (fun x e hx => ?_), fun x hx => by have := k.low x hx; omega⟩
    · have hl : (ssCells m.S).length = 76 := rfl
      have : j < 76 := by rw [← hl]; exact hj
      omega
    · obtain ⟨a1, a2, a3, a4⟩ := nst x (.inl ⟨hx, e⟩)
      exact far x a1 a2 a3
  · show w'.cell? ⟨b, 77, none⟩ = some fv'
    rw [hw']; exact World.cell?_setCell_same _ _ _ d77
  · refine (h.cli i hi).keep (by omega) (fun x hx => ?_)
    by_cases e : x = m.cb
    · rw [e]; exact hcb
    · obtain ⟨a1, a2, a3, a4⟩ := nst x (.inr (.inl ⟨i, hi, hx, e⟩))
      exact far x a1 a2 a3
  · refine hf.keep (by omega) (fun x hx => c2.block x ((hf.row.lt x hx).2) (fvb x hx).1) (fun y hy x hx => c2.block x (hf.low y hy x hx) (hvs y hy x hx).1)
  · have ho' : x = b ∨ x = m.cb ∨ fv'.ownBlock = some x := ho
    rcases hx with hx | hx | ⟨y, hy, hx⟩
    · obtain ⟨a1, a2, a3, a4⟩ := nst x (.inl hx)
      rcases ho' with e | e | e
      · exact a3 e
      · exact a4 e
      · rcases hv x e with k | k
        · exact a2 k
        · omega
    · obtain ⟨a1, a2, a3, a4⟩ := nst x (.inr (.inl hx))
      rcases ho' with e | e | e
      · exact a3 e
      · exact a4 e
      · rcases hv x e with k | k
        · exact a2 k
        · omega
    · rcases ho' with e | e | e
      · exact (hvs y hy x hx).1 e
      · exact (hvs y hy x hx).2 e
      · exact hf.apart y hy x hx e
  · exact (hc.mono (S' := SesOwn b m) (fun x e _ => .inr (.inr e))).trans c2 (fun x e _ => .inl e)
  · have hx' : x = b ∨ x = m.cb ∨ fv'.ownBlock = some x := hx
    rcases hx' with e | e | e
    · exact .inl (.inl e)
    · exact .inl (.inr (.inl e))
    · exact (hv x e).imp (fun k => .inr (.inr k)) id
  · rcases hx with hx | hx | hx | hx
    · have hx' : x = b ∨ x = m.cb ∨ fv'.ownBlock = some x := hx
      rcases hx' with e | e | e
      · exact .inl (.inl (.inl e))
      · exact .inl (.inl (.inr (.inl e)))
      · rcases hv x e with k | k
        · exact .inl (.inl (.inr (.inr k)))
        · exact .inr (.inl k)
    · exact .inl (.inr (.inl hx))
    · exact .inl (.inr (.inr (.inl hx)))
    · exact .inr (.inr hx)
end
theorem FlAt.snoc {w w' : World} {v v' : Value} {vs : List Value} {ps : List Pk} (h : FlAt w v vs ps) {p : Pk} {y : Value} (hy : BytesAt w y p.2.2) (hlow : ∀ g, y.ownBlock = some g → g < w.heap.size ∧ v.ownBlock ≠ some g)
    (hr : w'.ownsRow 0 49 3 v' (ps.length + 1) (packV ps vs ++ [.int .i64 p.1, .int .i64 p.2.1, y])) (hc : Chg (fun x => v.ownBlock = some x) w w') (hv : ∀ x, v'.ownBlock = some x → v.ownBlock = some x ∨ w.heap.size ≤ x) : FlAt w' v' (vs ++ [y]) (ps ++ [p]) := by
  have z := hc.size
  have ap : ∀ u ∈ vs ++ [y], ∀ g, u.ownBlock = some g → g < w.heap.size ∧ v.ownBlock ≠ some g := fun u hu g hg => by
    rcases List.mem_append.1 hu with hu | hu
    · exact ⟨h.low u hu g hg, h.apart u hu g hg⟩
    · rw [List.mem_singleton.1 hu] at hg; exact hlow g hg
  have each0 : ∀ (i : Nat) (x : Value) (q : Pk), (vs ++ [y])[i]? = some x → (ps ++ [p])[i]? = some q → BytesAt w x q.2.2 := fun i x q hx hq => by
    by_cases hi : i < ps.length
    · rw [List.getElem?_append_left (by rw [h.len]; exact hi)] at hx
      rw [List.getElem?_append_left hi] at hq
      exact h.each i x q hx hq
    · rw [List.getElem?_append_right (by rw [h.len]; omega), h.len] at hx
      rw [List.getElem?_append_right (by omega)] at hq
      have e : i - ps.length = 0 := by
        rcases Nat.eq_zero_or_pos (i - ps.length) with e | e
        · exact e
        · rw [List.getElem?_eq_none (by simp; omega)] at hq; cases hq
      rw [e] at hx hq
      simp at hx hq
      subst hx; subst hq
      exact hy
  refine ⟨by rw [List.length_append, List.length_append, h.len]; rfl, ?_, fun i x q hx hq => ?_, fun u hu g hg => Nat.lt_of_lt_of_le (ap u hu g hg).1 z, fun u hu g hg e => ?_⟩
  · rw [packV_snoc ps vs p y h.len, List.length_append]; exact hr
  · exact (each0 i x q hx hq).keepS z (fun g hg => hc.block g (ap x (List.mem_of_getElem? hx) g hg).1 (ap x (List.mem_of_getElem? hx) g hg).2)
  · have a := ap u hu g hg
    rcases hv g e with k | k
    · exact a.2 k
    · omega
end Go.Proofs.YtchideljndagjabGreat
namespace Go.Proofs.YtchideljndagjabGreat
open Go.ChangeShapes Go.WideShapes Go.ChangeAt Go.RowKit
set_option linter.unusedVariables false
theorem isClient_calls (b n : Nat) (C : Srv.Cf) (cl : Nat → Cli.Cl) (s : Sn) (m : SM) (u : Int) (w : World) (h : SesAt w b n C cl s m) :
    Calls Tryz.prog 75 #[.pointer (some ⟨b, 0, none⟩), .int .i64 u] w fun e w' => e = .returned (.bool (decide (1 ≤ u ∧ u ≤ (n : Int)))) ∧ w' = w := by
  have c76 := h.c76
  have hb := h.blt
  clear h
  obtain ⟨bb, hbb⟩ : ∃ bb, bb = decide (1 ≤ u ∧ u ≤ (n : Int)) := ⟨_, rfl⟩
  rw [← hbb]
  by_cases h1 : 1 ≤ u
  · by_cases h2 : u ≤ (n : Int)
    · have H := hideG (show bb = true from hbb.trans (decide_eq_true ⟨h1, h2⟩))
      clear hbb
      go_enter Tryz.func75, Tryz.ntmps75
      go_wp2_with fail
      go_ret
      exact ⟨by rw [H.out]; rfl, rfl⟩
    · have H := hideG (show bb = false from hbb.trans (decide_eq_false (fun q => h2 q.2)))
      clear hbb
      go_enter Tryz.func75, Tryz.ntmps75
      go_wp2_with fail
      go_ret
      exact ⟨by rw [H.out]; rfl, rfl⟩
  · have H := hideG (show bb = false from hbb.trans (decide_eq_false (fun q => h1 q.1)))
    clear hbb
    go_enter Tryz.func75, Tryz.ntmps75
    go_wp2_with fail
    go_ret
    exact ⟨by rw [H.out]; rfl, rfl⟩
theorem isInFlight_calls (b n : Nat) (C : Srv.Cf) (cl : Nat → Cli.Cl) (s : Sn) (m : SM) (u : Int) (w : World) (h : SesAt w b n C cl s m) :
    Calls Tryz.prog 130 #[.pointer (some ⟨b, 0, none⟩), .int .i64 u] w fun e w' => e = .returned (.bool (decide (0 ≤ u ∧ u < (s.fl.length : Int)))) ∧ w' = w := by
  have c77 := h.c77
  have hb := h.blt
  obtain ⟨a, c, hv, -⟩ := h.fl.view
  rw [hv] at c77
  clear h hv
  generalize s.fl.length = k at *
  obtain ⟨bb, hbb⟩ : ∃ bb, bb = decide (0 ≤ u ∧ u < (k : Int)) := ⟨_, rfl⟩
  rw [← hbb]
  by_cases h1 : 0 ≤ u
  · by_cases h2 : u < (k : Int)
    · have H := hideG (show bb = true from hbb.trans (decide_eq_true ⟨h1, h2⟩))
      clear hbb
      go_enter Tryz.func130, Tryz.ntmps130
      go_wp2_with fail
      go_ret
      exact ⟨by rw [H.out]; rfl, rfl⟩
    · have H := hideG (show bb = false from hbb.trans (decide_eq_false (fun q => h2 q.2)))
      clear hbb
      go_enter Tryz.func130, Tryz.ntmps130
      go_wp2_with fail
      go_ret
      exact ⟨by rw [H.out]; rfl, rfl⟩
  · have H := hideG (show bb = false from hbb.trans (decide_eq_false (fun q => h1 q.1)))
    clear hbb
    go_enter Tryz.func130, Tryz.ntmps130
    go_wp2_with fail
    go_ret
    exact ⟨by rw [H.out]; rfl, rfl⟩
structure SesSent (w w' : World) (b n : Nat) (C : Srv.Cf) (cl : Nat → Cli.Cl) (s' : Sn) (m m' : SM) (y : Value) : Prop where
  ses : SesAt w' b n C cl s' m'
  chg : Chg (SesOwn b m) w w'
  own : ∀ x, SesOwn b m' x → SesOwn b m x ∨ w.heap.size ≤ x
  foot : ∀ x, SesFoot b n m' x → SesFoot b n m x ∨ w.heap.size ≤ x ∨ y.ownBlock = some x
theorem SesAt.sent {w W w2 w3 : World} {b n g cap : Nat} {C : Srv.Cf} {cl : Nat → Cli.Cl} {s : Sn} {m : SM} (h : SesAt w b n C cl s m) {p : Pk} {y : Value} (hy : BytesAt w y p.2.2) (hlow : ∀ x, y.ownBlock = some x → x < w.heap.size ∧ ¬ SesOwn b m x) (hW : Below w.heap.size w W)
    (hr : w2.ownsRow 0 49 3 (.slice (some ⟨g, 0, none⟩) (s.fl.length + 1) cap) (s.fl.length + 1) (packV s.fl m.vs ++ [.int .i64 p.1, .int .i64 p.2.1, y])) (hgr : W.grownBy w2 m.fv.ownBlock) (hat : m.fv.ownBlock = some g ∨ g = W.heap.size) (hw3 : w3 = w2.setCell ⟨b, 77, none⟩ (.slice (some ⟨g, 0, none⟩) (s.fl.length + 1) cap)) :
    ∃ m', SesSent w w3 b n C cl { s with fl := s.fl ++ [p] } m m' y := by
  have zW := hW.size
  have hv : ∀ x, (Value.slice (some ⟨g, 0, none⟩) (s.fl.length + 1) cap).ownBlock = some x → m.fv.ownBlock = some x ∨ w.heap.size ≤ x := fun x hx => by
    have e : x = g := by simpa [Value.ownBlock] using hx.symm
    subst e
    rcases hat with k | k
    · exact .inl k
    · exact .inr (by omega)
  have hc : Chg (fun x => m.fv.ownBlock = some x) w w2 := (Chg.of_below hW).trans (Chg.grown hgr) (fun x e _ => e)
  have hf := h.fl.snoc (p := p) hy (fun x hx => ⟨(hlow x hx).1, fun e => (hlow x hx).2 (.inr (.inr e))⟩) hr hc hv
  have R := h.turnF hc hf hw3 hv (fun u hu x hx => ?_)
  · obtain ⟨r1, r2, r3, r4⟩ := R
    refine ⟨_, r1, r2, r3, fun x hx => ?_⟩
    rcases r4 x hx with k | k | ⟨u, hu, k⟩
    · exact .inl k
    · exact .inr (.inl k)
    · rcases List.mem_append.1 hu with hu | hu
      · exact .inl (.inr (.inr (.inr ⟨u, hu, k⟩)))
      · rw [List.mem_singleton.1 hu] at k; exact .inr (.inr k)
  · rcases List.mem_append.1 hu with hu | hu
    · exact ⟨fun e => h.ap x (.inr (.inr ⟨u, hu, hx⟩)) (.inl e), fun e => h.ap x (.inr (.inr ⟨u, hu, hx⟩)) (.inr (.inl e))⟩
    · rw [List.mem_singleton.1 hu] at hx
      exact ⟨fun e => (hlow x hx).2 (.inl e), fun e => (hlow x hx).2 (.inr (.inl e))⟩
set_option maxHeartbeats 1000000 in
set_option maxRecDepth 100000 in
theorem send_calls (b n : Nat) (C : Srv.Cf) (cl : Nat → Cli.Cl) (s : Sn) (m : SM) (fr : Int) (y : Value) (zs : List Int) (w : World) (h : SesAt w b n C cl s m) (hy : BytesAt w y zs) (hlow : ∀ x, y.ownBlock = some x → x < w.heap.size ∧ ¬ SesOwn b m x) (hlen : s.fl.length ≤ 2000) :
    Calls Tryz.prog 128 #[.pointer (some ⟨b, 0, none⟩), .int .i64 fr, y] w fun e w' => e = .returned (.tuple #[]) ∧ ∃ m', SesSent w w' b n C cl { s with fl := s.fl ++ [(fr, 0, zs)] } m m' y := by
  have c77 := h.c77
  have f77 := h.f77
  have hb := h.blt
  obtain ⟨a, c, hv, -⟩ := h.fl.view
  obtain ⟨ay, cy, hyv, -⟩ := bytes_view hy
  have ROW := hideG h.fl.row
  have NB := hideG h.own.2.1
  have HS := hideG (fun (W w2 w3 : World) (g cap : Nat) hW hr hgr hat hw3 => h.sent (p := (fr, 0, zs)) (W := W) (w2 := w2) (w3 := w3) (g := g) (cap := cap) hy hlow hW hr hgr hat hw3)
  obtain ⟨i1, hi1, hy0, hy1, hy2⟩ := info_parts infoPk
  rw [hv] at c77 ROW HS NB
  rw [hyv] at HS ⊢
  clear h hy hlow hv hyv
  obtain ⟨k, hk⟩ : ∃ k, k = s.fl.length := ⟨_, rfl⟩
  obtain ⟨nz, hnz⟩ : ∃ nz, nz = zs.length := ⟨_, rfl⟩
  rw [← hk] at c77 ROW HS hlen NB
  rw [← hnz] at HS ⊢
  clear hk hnz
  go_enter Tryz.func128, Tryz.ntmps128
  go_wp2_with (at_builtin; refine wpList_append_lies _ rfl _ _ 41 rfl 0 49 i1 (.agg #[.int .i64 0, .int .i64 0, .slice none 0 0]) 3 40 Tryz.underlying41 hi1 hy0 hy1 hy2 rfl (by decide) _ _ _ rfl (ROW.out.alloc _) ⟨w.heap.size, 0, none⟩ 1 1 [.int .i64 fr, .int .i64 0, .slice ay nz cy] rfl rfl ?c1 ?c2 (by decide) ?c3 ?c4 (Nat.zero_le _) _ rfl ?_)
  case c2 => exact ⟨rfl, rfl, rfl⟩
  case c3 => unfold maxLen; omega
  case c4 => omega
  intro g cap w2 hr hgr hat hgl
  have hal : Below w.heap.size w (w.alloc (.cells #[.int .i64 fr, .int .i64 0, .slice ay nz cy] 49)) := (Below.refl _ _).alloc (Nat.le_refl _) _
  have d77 : w2.cell? ⟨b, 77, none⟩ = some (.slice a k c) := by
    rw [hgr.cell_far ⟨b, 77, none⟩ (by show b < _; simp; omega) (fun e => NB.out e.symm), hal.cell (p := ⟨b, 77, none⟩) hb]; exact c77
  have e77 : w2.frozen? ⟨b, 77, none⟩ = false := by
    rw [hgr.frozen_far ⟨b, 77, none⟩ (by show b < _; simp; omega) (fun e => NB.out e.symm), hal.frozen (p := ⟨b, 77, none⟩) hb]; exact f77
  have hb2 : b < w2.heap.size := by have := hgr.size; simp at this; omega
  obtain ⟨w3, hw3⟩ : ∃ w3, w3 = w2.setCell ⟨b, 77, none⟩ (.slice (some ⟨g, 0, none⟩) (k + 1) cap) := ⟨_, rfl⟩
  have FIN := hideG (HS.out _ w2 w3 g cap hal hr hgr (by simpa using hat) hw3)
  have HW3 := hideG hw3
  clear hr hgr hat hgl hal hw3 c77 f77
  go_wp2_with fail
  rw [← HW3.out]
  go_end0
  exact ⟨rfl, FIN.out⟩
end Go.Proofs.YtchideljndagjabGreat
namespace Go.Proofs.YtchideljndagjabGreat
open Go.ChangeShapes Go.WideShapes Go.ChangeAt Go.RowKit
set_option linter.unusedVariables false
set_option maxHeartbeats 1000000 in
set_option maxRecDepth 100000 in
theorem take_gone (b oo : Nat) (S : PS) (v : Value) (zs : List Int) (w : World) (h : Co.PSAt w b oo S) (hp : S.ph = 0) (hv : BytesAt w v zs) :
    Calls Tryz.prog 141 #[.pointer (some ⟨b, oo, none⟩), v] w fun e w' => e = .returned (.slice none 0 0) ∧ Below w.heap.size w w' := by
  have hbl := h.lt
  have HD := hideG (decode_calls v zs w hv)
  have c1 := h.c1
  rw [hp] at c1
  obtain ⟨az, cz, rfl, -, -, hB, -⟩ := bytes_view hv
  clear hv h hp
  cases hd : Frm.decF zs with
  | none =>
    obtain ⟨x1, x2, x3, x4⟩ := d_none hd
    rw [x1, x2, x3, x4] at HD
    clear x1 x2 x3 x4 hd c1 hB
    go_enter Tryz.func141, Tryz.ntmps141
    go_wp2_with fail
    refine HD.out.mono ?_
    rintro e w1 ⟨va, rfl, hown, hb⟩
    obtain ⟨a', c', hv'⟩ := owns_form hown
    subst hv'
    have HB := hideG hb
    clear hown hb
    go_wp2_with fail
    go_ret
    exact ⟨rfl, HB.out.alloc HB.out.size _⟩
  | some f =>
    obtain ⟨k, fr, l⟩ := f
    obtain ⟨x1, x2, x3, x4⟩ := d_some hd
    rw [x1, x2, x3, x4] at HD
    clear x1 x2 x3 x4 hd hB
    go_enter Tryz.func141, Tryz.ntmps141
    go_wp2_with fail
    refine HD.out.mono ?_
    rintro e w1 ⟨va, rfl, hown, hb⟩
    obtain ⟨a', c', hv'⟩ := owns_form hown
    subst hv'
    have s1 := hb.size
    have al : ∀ (ob : Obj), (w1.alloc ob).cell? ⟨b, oo + 1, none⟩ = some (.int .i64 0) := fun ob => by
      rw [((Below.refl w1.heap.size w1).alloc (Nat.le_refl _) ob).cell (p := ⟨b, oo + 1, none⟩) (by show b < _; omega), hb.cell (p := ⟨b, oo + 1, none⟩) hbl]; exact c1
    have HB := hideG hb
    clear hown hb c1
    go_wp2_with fail
    go_ret
    exact ⟨rfl, HB.out.alloc HB.out.size _⟩
theorem updA_self {α : Type} (f : Nat → α) (i : Nat) : updA f i (f i) = f := by
  funext j; unfold updA; split
  · rename_i e; rw [e]
  · rfl
set_option maxHeartbeats 1000000 in
set_option maxRecDepth 100000 in
theorem receive_srv (b n : Nat) (C : Srv.Cf) (cl : Nat → Cli.Cl) (s : Sn) (m : SM) (d : Int) (v : Value) (zs : List Int) (w : World) (h : SesAt w b n C cl s m) (ok : SnOk C cl n s) (hd : ¬ (1 ≤ d ∧ d ≤ (n : Int))) (hv : BytesAt w v zs) :
    Calls Tryz.prog 76 #[.pointer (some ⟨b, 0, none⟩), .int .i64 d, v] w fun e w' => e = .returned (.tuple #[]) ∧ ∃ m', SesTook w w' b n C cl (rcv0 C s zs) m m' := by
  have HC := hideG (isClient_calls b n C cl s m d w h)
  rw [decide_eq_false hd] at HC
  have HT := hideG (sTake_calls b C s.q m.S v zs w h.srv ok.sok hv)
  have HS := hideG (fun (w' : World) (S' : SS) (t : STook w w' b C (sstepD C s.q zs) m.S S') => h.turnS t)
  obtain ⟨az, cz, rfl, -⟩ := bytes_view hv
  have hb := h.blt
  clear h ok hd hv
  generalize scntD C s.q zs = cn at *
  generalize zs.length = nz at *
  go_enter Tryz.func76, Tryz.ntmps76
  go_wp2_with fail
  refine HC.out.mono ?_
  rintro e w1 ⟨rfl, hw1⟩
  rw [hw1]
  clear hw1 w1
  go_wp2_with fail
  refine HT.out.mono ?_
  rintro e w2 ⟨rfl, S', t⟩
  have FIN := hideG (HS.out w2 S' t)
  clear t
  go_wp2_with fail
  (try simp only [Exit.inBlock, Exit.then])
  refine bodyPost_ret (results_none rfl _ _ _) rfl ?_
  exact ⟨rfl, _, FIN.out⟩
theorem ses_answered {w w1 w2 : World} {b n i : Nat} {C : Srv.Cf} {cl : Nat → Cli.Cl} {s s1 s2 : Sn} {m m1 m2 : SM} {va : Value} (h : SesTook w w1 b n C cl s1 m m1) (k : SesSent w1 w2 b n C cl s2 m1 m2 va) (hva : ∀ x, va.ownBlock = some x → w.heap.size ≤ x) : SesTook w w2 b n C cl s2 m m2 := by
  have z := h.chg.size
  refine ⟨k.ses, h.chg.trans k.chg (fun x e hx => (h.own x e).elim id (fun q => by omega)), fun x hx => ?_, fun x hx => ?_⟩
  · rcases k.own x hx with e | e
    · exact h.own x e
    · exact .inr (by omega)
  · rcases k.foot x hx with e | e | e
    · exact h.foot x e
    · exact .inr (by omega)
    · exact .inr (hva x e)
theorem ansD_okS {c : Cli.Cl} (hc : Cli.Good c) {s : Cli.St} {zs : List Int} (hB : Frm.isB zs) {f : Cli.Fr} (h : ansD c s zs = some f) : Frm.okF f.1 f.2.1 f.2.2 = true := by
  cases hd : Frm.decF zs with
  | none => rw [(stepD_none hd).2] at h; cases h
  | some g =>
    obtain ⟨k, fr, l⟩ := g
    by_cases k1 : s.1 = 1 ∧ k = 2
    · obtain ⟨p1, rfl⟩ := k1
      rw [(stepD_keys (c := c) hd p1).2] at h
      split at h
      · cases h; exact Cli.sharing_ok hc (Frm.okF_parts (Frm.enc_dec hB hd).1).2.2.1
      · cases h
    by_cases k2 : s.1 = 2 ∧ k = 4
    · obtain ⟨p1, rfl⟩ := k2
      rw [(stepD_box (c := c) hd p1).2] at h
      split at h
      · cases h; exact Cli.masking_ok hc _ _
      · cases h
    by_cases k3 : s.1 = 3 ∧ k = 6
    · obtain ⟨p1, rfl⟩ := k3
      rw [(stepD_ask (c := c) hd p1).2] at h
      split at h
      · cases h; exact Cli.tells_ok hc _ _ _
      · cases h
    rw [(stepD_rest (c := c) hd k1 k2 k3).2] at h
    cases h
theorem ansE_isB' {c : Cli.Cl} (hc : Cli.Good c) {s : Cli.St} {zs : List Int} (hB : Frm.isB zs) : ∀ f, ansD c s zs = some f → Frm.isB (Frm.encF f.1 f.2.1 f.2.2) := fun f e => encF_isB (ansD_okS hc hB e)
theorem encF_pos (k fr : Int) (l : List Frm.It) : 0 < (Frm.encF k fr l).length := by rw [Frm.encF_length]; unfold Frm.size; omega
set_option maxHeartbeats 2000000 in
set_option maxRecDepth 100000 in
theorem receive_cli (b n i : Nat) (C : Srv.Cf) (cl : Nat → Cli.Cl) (s : Sn) (m : SM) (v : Value) (zs : List Int) (w : World) (h : SesAt w b n C cl s m) (ok : SnOk C cl n s) (hi : i < n) (hv : BytesAt w v zs) :
    Calls Tryz.prog 76 #[.pointer (some ⟨b, 0, none⟩), .int .i64 ((i : Int) + 1), v] w fun e w' => e = .returned (.tuple #[]) ∧ ∃ m', SesTook w w' b n C cl (rcvC cl s i zs) m m' := by
  have HC := hideG (isClient_calls b n C cl s m ((i : Int) + 1) w h)
  rw [decide_eq_true (show 1 ≤ (i : Int) + 1 ∧ (i : Int) + 1 ≤ (n : Int) by omega)] at HC
  have n12 : n ≤ 12 := by have := ok.gc.n; have := ok.num; omega
  have c76 := h.c76
  have hb := h.blt
  have hlc := h.lcb
  have hcc := h.ncc
  have hgood := ok.good i hi
  have hzB := bytes_view hv
  have hcat := h.cli i hi
  obtain ⟨az, cz, hv', -, -, hB, -⟩ := bytes_view hv
  cases hg : s.gone i
  · have hlive := hcat.live hg
    have HT := hideG (Co.take_calls m.cb (i * 78) (cl i) (s.cs i) (m.P i) v zs w hgood hlive hv)
    have e1 : rcvC cl s i zs = { s with cs := updA s.cs i (stepD (cl i) (s.cs i) zs), fl := s.fl ++ ansP i (ansD (cl i) (s.cs i) zs) } := by unfold rcvC; rw [if_neg (by rw [hg]; exact Bool.false_ne_true)]
    have HS := hideG (fun (w' : World) (P' : PS) (t : Co.Took w w' m.cb (i * 78) (cl i) (stepD (cl i) (s.cs i) zs) (m.P i) P') => (show SesTook w w' b n C cl { s with cs := updA s.cs i (stepD (cl i) (s.cs i) zs) } m { m with P := updA m.P i P' } from by
      have k := h.turnC hi (g' := false) (st' := stepD (cl i) (s.cs i) zs) (P' := P') t.chg ⟨fun _ => t.cli, fun e => by cases e⟩ t.foot
      have e : updA s.gone i false = s.gone := by rw [← hg]; exact updA_self _ _
      rw [e] at k; exact k))
    have HL := hideG (show s.fl.length ≤ 2000 by have := ok.fl; omega)
    have HFOOT := hideG (show ∀ x, SesOwn b m x → x < w.heap.size from fun x hx => h.low (.inl hx))
    have hz := ansE_isB' hgood (s := s.cs i) hB
    rw [e1]
    rw [hv'] at HT ⊢
    have HO := hideG hz
    clear h ok hv hg hcat hlive hgood e1 hv' hzB hB hz
    obtain ⟨o, ho⟩ : ∃ o, o = ansD (cl i) (s.cs i) zs := ⟨_, rfl⟩
    rw [← ho] at HT HO ⊢
    have HOE := hideG ho
    clear ho
    generalize zs.length = nz at *
    go_enter Tryz.func76, Tryz.ntmps76
    go_wp2_with fail
    refine HC.out.mono ?_
    rintro e w1 ⟨rfl, hw1⟩
    rw [hw1]
    clear hw1 w1
    have hil' : (i : Int) < (n : Int) := by omega
    have hi0 : (0 : Int) ≤ (i : Int) := by omega
    go_wp2_with fail
    refine HT.out.mono ?_
    rintro e w2 ⟨va, rfl, P', t, hans⟩
    have ST := hideG (HS.out w2 P' t)
    have TF := hideG t.cli.low
    cases o with
    | none =>
      have hva : va = .slice none 0 0 := hans
      subst hva
      have FIN := hideG (show ∃ m', SesTook w w2 b n C cl { s with cs := updA s.cs i (stepD (cl i) (s.cs i) zs), fl := s.fl ++ ansP i none } m m' from ⟨_, by rw [show s.fl ++ ansP i none = s.fl from List.append_nil _]; exact ST.out⟩)
      clear hans t
      go_wp2_with fail
      go_end0
      exact ⟨rfl, FIN.out⟩
    | some f =>
      obtain ⟨hown, hnf⟩ := hans
      have hpos := encF_pos f.1 f.2.1 f.2.2
      have hfm : ∃ g cap, va = .slice (some ⟨g, 0, none⟩) (Frm.encF f.1 f.2.1 f.2.2).length cap := by
        rcases hown.2 with ⟨_, hn⟩ | ⟨g, cap, cur, e0, _⟩
        · omega
        · exact ⟨g, cap, e0⟩
      have hlt := hown.lt
      have hbv := bytesAt_of_owns hown (HO.out f rfl)
      have hz2 := t.chg.size
      have HSE := hideG (send_calls b n C cl _ _ ((i : Int) + 1) va (Frm.encF f.1 f.2.1 f.2.2) w2 ST.out.ses hbv (fun x hx => ⟨(hlt x hx).2, fun ho => by
        have q := (hlt x hx).1
        have ho' : SesOwn b m x := ho
        have := HFOOT.out x ho'
        omega⟩) HL.out)
      have HVA := hideG (fun x (hx : va.ownBlock = some x) => (hlt x hx).1)
      obtain ⟨g, cap, hva⟩ := hfm
      rw [hva] at HSE HVA ⊢
      clear hown hnf hlt hbv t hva hpos
      generalize (Frm.encF f.1 f.2.1 f.2.2).length = ln at *
      go_wp2_with fail
      refine HSE.out.mono ?_
      rintro e w3 ⟨rfl, m3, hse⟩
      have FIN := hideG (ses_answered (i := i) (s := s) ST.out hse HVA.out)
      clear hse
      go_wp2_with fail
      go_end0
      exact ⟨rfl, _, FIN.out⟩
  · have hdead := hcat.dead hg
    have HT := hideG (take_gone m.cb (i * 78) (m.P i) v zs w hdead.at_ hdead.ph hv)
    have e1 : rcvC cl s i zs = s := by unfold rcvC; rw [if_pos hg]
    have HS := hideG (fun (w' : World) (hb : Below w.heap.size w w') => sesTook_same h hb)
    rw [e1]
    rw [hv'] at HT ⊢
    clear h ok hv hg hcat hdead hgood e1 hv' hzB hB
    generalize zs.length = nz at *
    go_enter Tryz.func76, Tryz.ntmps76
    go_wp2_with fail
    refine HC.out.mono ?_
    rintro e w1 ⟨rfl, hw1⟩
    rw [hw1]
    clear hw1 w1
    have hil' : (i : Int) < (n : Int) := by omega
    have hi0 : (0 : Int) ≤ (i : Int) := by omega
    go_wp2_with fail
    refine HT.out.mono ?_
    rintro e w2 ⟨rfl, hb2⟩
    have FIN := hideG (HS.out w2 hb2)
    clear hb2
    go_wp2_with fail
    go_end0
    exact ⟨rfl, _, FIN.out⟩
theorem rcv_srv {C : Srv.Cf} {cl : Nat → Cli.Cl} {n : Nat} {s : Sn} {d : Int} {zs : List Int} (h : ¬ (1 ≤ d ∧ d ≤ (n : Int))) : rcv C cl n s d zs = rcv0 C s zs := if_neg h
theorem rcv_cli {C : Srv.Cf} {cl : Nat → Cli.Cl} {n i : Nat} {s : Sn} {zs : List Int} (h : i < n) : rcv C cl n s ((i : Int) + 1) zs = rcvC cl s i zs := by
  unfold rcv
  rw [if_pos (by omega)]
  congr 1
theorem receive_calls (b n : Nat) (C : Srv.Cf) (cl : Nat → Cli.Cl) (s : Sn) (m : SM) (d : Int) (v : Value) (zs : List Int) (w : World) (h : SesAt w b n C cl s m) (ok : SnOk C cl n s) (hv : BytesAt w v zs) :
    Calls Tryz.prog 76 #[.pointer (some ⟨b, 0, none⟩), .int .i64 d, v] w fun e w' => e = .returned (.tuple #[]) ∧ ∃ m', SesTook w w' b n C cl (rcv C cl n s d zs) m m' := by
  by_cases hd : 1 ≤ d ∧ d ≤ (n : Int)
  · obtain ⟨i, rfl⟩ : ∃ i : Nat, d = (i : Int) + 1 := ⟨d.toNat - 1, by omega⟩
    rw [rcv_cli (by omega)]
    exact receive_cli b n i C cl s m v zs w h ok (by omega) hv
  · rw [rcv_srv hd]
    exact receive_srv b n C cl s m d v zs w h ok hd hv
set_option maxHeartbeats 1000000 in
set_option maxRecDepth 100000 in
theorem inject_calls (b n : Nat) (C : Srv.Cf) (cl : Nat → Cli.Cl) (s : Sn) (m : SM) (d : Int) (v : Value) (zs : List Int) (w : World) (h : SesAt w b n C cl s m) (ok : SnOk C cl n s) (hv : BytesAt w v zs) :
    Calls Tryz.prog 44 #[.pointer (some ⟨b, 0, none⟩), .int .i64 d, v] w fun e w' => (0 ≤ d ∧ d ≤ (n : Int) → e = .returned (.int .i64 0) ∧ ∃ m', SesTook w w' b n C cl (rcv C cl n s d zs) m m') ∧ (¬ (0 ≤ d ∧ d ≤ (n : Int)) → e = .returned (.int .i64 7) ∧ w' = w) := by
  have HC := hideG (isClient_calls b n C cl s m d w h)
  have HR := hideG (receive_calls b n C cl s m d v zs w h ok hv)
  obtain ⟨az, cz, rfl, -⟩ := bytes_view hv
  clear h ok hv
  generalize zs.length = nz at *
  by_cases h0 : d = 0
  · subst h0
    have hin : (0 : Int) ≤ 0 ∧ (0 : Int) ≤ (n : Int) := by omega
    have HI := hideG hin
    clear hin
    go_enter Tryz.func44, Tryz.ntmps44
    go_wp2_with fail
    refine HR.out.mono ?_
    rintro e w2 ⟨rfl, m', t⟩
    have FIN := hideG t
    clear t
    go_wp2_with fail
    go_ret
    exact ⟨fun _ => ⟨rfl, m', FIN.out⟩, fun q => absurd HI.out q⟩
  · have hne : (d != 0) = true := by simpa using h0
    by_cases h1 : 1 ≤ d ∧ d ≤ (n : Int)
    · rw [decide_eq_true h1] at HC
      have HI := hideG (show 0 ≤ d ∧ d ≤ (n : Int) by omega)
      clear h1 h0
      go_enter Tryz.func44, Tryz.ntmps44
      go_wp2_with fail
      refine HC.out.mono ?_
      rintro e w1 ⟨rfl, hw1⟩
      rw [hw1]
      clear hw1
      go_wp2_with fail
      refine HR.out.mono ?_
      rintro e w2 ⟨rfl, m', t⟩
      have FIN := hideG t
      clear t
      go_wp2_with fail
      go_ret
      exact ⟨fun _ => ⟨rfl, m', FIN.out⟩, fun q => absurd HI.out q⟩
    · rw [decide_eq_false h1] at HC
      have HI := hideG (show ¬ (0 ≤ d ∧ d ≤ (n : Int)) by omega)
      clear h1 h0
      go_enter Tryz.func44, Tryz.ntmps44
      go_wp2_with fail
      refine HC.out.mono ?_
      rintro e w1 ⟨rfl, hw1⟩
      rw [hw1]
      clear hw1
      go_wp2_with fail
      go_ret
      exact ⟨fun q => absurd q HI.out, fun _ => ⟨rfl, rfl⟩⟩
theorem cat_crash {w w' : World} {b o : Nat} {c : Cli.Cl} {g : Bool} {s : Cli.St} {S : PS} (h : CAt w b o c g s S) (hp : Co.PSAt w' b o (Co.goneS S)) (hc : Co.ChgC b o w w') (hap : S.told.ownBlock ≠ some b) : CAt w' b o c true s (Co.goneS S) ∧ ∀ x, CFoot b (Co.goneS S) x → CFoot b S x ∨ w.heap.size ≤ x := by
  have z := hc.size
  have ft : ∀ x, CFoot b (Co.goneS S) x → CFoot b S x := fun x hx => by
    rcases hx with hx | hx | hx | hx | hx
    · exact .inl hx
    · change (Value.slice none 0 0).ownBlock = some x at hx; cases hx
    · change (Value.slice none 0 0).ownBlock = some x at hx; cases hx
    · change (Value.slice none 0 0).ownBlock = some x at hx; cases hx
    · exact .inr (.inr (.inr (.inr hx)))
  have ti : ItemsAt w' (Co.goneS S).told (relL c s) := h.told.keep z (fun x hx => hc.block x (h.low x (.inr (.inr (.inr (.inr hx))))) (fun e => hap (e ▸ hx)))
  exact ⟨⟨fun e => (by cases e), fun _ => ⟨hp, rfl, ti, ⟨rfl, rfl, rfl⟩, hap, fun x hx => Nat.lt_of_lt_of_le (h.low x (ft x hx)) z⟩⟩, fun x hx => .inl (ft x hx)⟩
theorem CAt.tapart {w : World} {b o : Nat} {c : Cli.Cl} {g : Bool} {s : Cli.St} {S : PS} (h : CAt w b o c g s S) : S.told.ownBlock ≠ some b := by
  cases g
  · exact (h.live rfl).cli.apart.2.2.2
  · exact (h.dead rfl).apart
set_option maxHeartbeats 1000000 in
set_option maxRecDepth 100000 in
theorem scrash_calls (b n : Nat) (C : Srv.Cf) (cl : Nat → Cli.Cl) (s : Sn) (m : SM) (u : Int) (w : World) (h : SesAt w b n C cl s m) (hn : n ≤ 12) :
    Calls Tryz.prog 69 #[.pointer (some ⟨b, 0, none⟩), .int .i64 u] w fun e w' => (∀ i : Nat, i < n → u = (i : Int) + 1 → e = .returned (.int .i64 0) ∧ ∃ m', SesTook w w' b n C cl (crashN s i) m m') ∧ (¬ (1 ≤ u ∧ u ≤ (n : Int)) → e = .returned (.int .i64 7) ∧ w' = w) := by
  have HC := hideG (isClient_calls b n C cl s m u w h)
  by_cases h1 : 1 ≤ u ∧ u ≤ (n : Int)
  · rw [decide_eq_true h1] at HC
    obtain ⟨i, rfl⟩ : ∃ i : Nat, u = (i : Int) + 1 := ⟨u.toNat - 1, by omega⟩
    have hi : i < n := by omega
    have hcat := h.cli i hi
    obtain ⟨ta, tc, htv, -⟩ := items_view hcat.told
    have HK := hideG (Co.crash_calls m.cb (i * 78) (m.P i) w hcat.at_ ⟨_, _, _, htv⟩)
    have HS := hideG (fun (w' : World) (hp : Co.PSAt w' m.cb (i * 78) (Co.goneS (m.P i))) (hc : Co.ChgC m.cb (i * 78) w w') => (show ∃ m', SesTook w w' b n C cl (crashN s i) m m' from by
      obtain ⟨k1, k2⟩ := cat_crash hcat hp hc hcat.tapart
      have k := h.turnC hi (g' := true) (st' := s.cs i) hc k1 k2
      rw [updA_self] at k
      exact ⟨_, k⟩))
    have c76 := h.c76
    have hb := h.blt
    have hlc := h.lcb
    have hcc := h.ncc
    have HI := hideG (And.intro h1 hi)
    clear h h1 hcat htv
    have hil' : (i : Int) < (n : Int) := by omega
    have hi0 : (0 : Int) ≤ (i : Int) := by omega
    go_enter Tryz.func69, Tryz.ntmps69
    go_wp2_with fail
    refine HC.out.mono ?_
    rintro e w1 ⟨rfl, hw1⟩
    rw [hw1]
    clear hw1
    go_wp2_with fail
    refine HK.out.mono ?_
    rintro e w2 ⟨rfl, hp, hc⟩
    have FIN := hideG (HS.out w2 hp hc)
    clear hp hc
    go_wp2_with fail
    go_ret
    refine ⟨fun j hj e => ?_, fun q => absurd HI.out.1 q⟩
    have : j = i := by omega
    subst this
    exact ⟨rfl, FIN.out⟩
  · rw [decide_eq_false h1] at HC
    have HI := hideG h1
    have HN := hideG hn
    clear h h1 hn
    go_enter Tryz.func69, Tryz.ntmps69
    go_wp2_with fail
    refine HC.out.mono ?_
    rintro e w1 ⟨rfl, hw1⟩
    rw [hw1]
    clear hw1
    go_wp2_with fail
    go_ret
    exact ⟨fun j hj e => absurd (show 1 ≤ u ∧ u ≤ (n : Int) by omega) HI.out, fun _ => ⟨rfl, rfl⟩⟩
end Go.Proofs.YtchideljndagjabGreat
