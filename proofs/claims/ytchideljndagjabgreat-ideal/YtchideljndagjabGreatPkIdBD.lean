/- A session that is being made: its server, the clients so far, what is in flight so far. -/
import Derived.Test.YtchideljndagjabGreatPkIdBC
import Derived.Great.BuildSlice
import Derived.Test.YtchideljndagjabGreatPkIdAB
import Derived.Test.YtchideljndagjabGreatRows
import Derived.WalkSpells
import Derived.Test.YtchideljndagjabGreatPkIdAA
import Derived.WalkKit
import Derived.ProofKit
import Derived.OpenShut
namespace Go.Proofs.YtchideljndagjabGreat
open Go.RowKit
set_option linter.unusedVariables false
def cliV (P : Nat → PS) : Nat → List Value
  | 0 => []
  | i + 1 => cliV P i ++ psCells (P i)
theorem cliV_length (P : Nat → PS) : ∀ i, (cliV P i).length = i * 78
  | 0 => rfl
  | i + 1 => by show (cliV P i ++ psCells (P i)).length = _; rw [List.length_append, cliV_length P i, psCells_length]; omega
theorem cliV_get (P : Nat → PS) : ∀ i j k, j < i → k < 78 → (cliV P i)[j * 78 + k]? = (psCells (P j))[k]?
  | 0, j, k, h, _ => by omega
  | i + 1, j, k, h, hk => by
    show (cliV P i ++ psCells (P i))[j * 78 + k]? = _
    by_cases e : j = i
    · subst e
      rw [List.getElem?_append_right (by rw [cliV_length]; omega), cliV_length]
      congr 1; omega
    · rw [List.getElem?_append_left (by rw [cliV_length]; omega)]
      exact cliV_get P i j k (by omega) hk
theorem cliV_ext {P Q : Nat → PS} : ∀ i, (∀ j, j < i → P j = Q j) → cliV P i = cliV Q i
  | 0, _ => rfl
  | i + 1, h => by show cliV P i ++ psCells (P i) = cliV Q i ++ psCells (Q i); rw [cliV_ext i (fun j hj => h j (by omega)), h i (by omega)]
structure FreshP (w : World) (c : Cli.Cl) (P : PS) : Prop where
  eq : P = freshS c.id c.N c.T c.ch c.ms c.sd P.inp P.sm P.ss
  inp : ListAt w P.inp c.inp
  sm : ListAt w P.sm c.sm
  ss : ListAt w P.ss c.ss
  low : ∀ x, (P.inp.ownBlock = some x ∨ P.sm.ownBlock = some x ∨ P.ss.ownBlock = some x) → x < w.heap.size
theorem FreshP.told {w : World} {c : Cli.Cl} {P : PS} (h : FreshP w c P) : P.told = .slice none 0 0 := by rw [h.eq]; rfl
theorem FreshP.foot {w : World} {c : Cli.Cl} {P : PS} (h : FreshP w c P) {b x : Nat} (hx : CFoot b P x) : x = b ∨ (P.inp.ownBlock = some x ∨ P.sm.ownBlock = some x ∨ P.ss.ownBlock = some x) := by
  rcases hx with hx | hx | hx | hx | hx
  · exact .inl hx
  · exact .inr (.inl hx)
  · exact .inr (.inr (.inl hx))
  · exact .inr (.inr (.inr hx))
  · rw [h.told] at hx; cases hx
theorem FreshP.keep {w w' : World} {c : Cli.Cl} {P : PS} (h : FreshP w c P) (hs : w.heap.size ≤ w'.heap.size) (hb : ∀ x, (P.inp.ownBlock = some x ∨ P.sm.ownBlock = some x ∨ P.ss.ownBlock = some x) → w'.heap[x]? = w.heap[x]?) : FreshP w' c P :=
  ⟨h.eq, h.inp.keep hs (fun x hx => hb x (.inl hx)), h.sm.keep hs (fun x hx => hb x (.inr (.inl hx))), h.ss.keep hs (fun x hx => hb x (.inr (.inr hx))), fun x hx => Nat.lt_of_lt_of_le (h.low x hx) hs⟩
theorem FreshP.cli {w : World} {c : Cli.Cl} {P : PS} (h : FreshP w c P) {b o : Nat} (hp : Co.PSAt w b o P) (hn : ∀ x, (P.inp.ownBlock = some x ∨ P.sm.ownBlock = some x ∨ P.ss.ownBlock = some x) → x ≠ b) : Co.CliW w b o c (1, [], [], []) P := by
  have e := h.eq
  refine ⟨{ at_ := hp, ph := ⟨by show (0 : Int) ≤ 1; omega, by show (1 : Int) ≤ 4; omega⟩, eid := by rw [e]; rfl, eph := by rw [e]; rfl, ecp := by rw [e]; rfl, emp := by rw [e]; rfl,
            one := fun _ => ⟨by rw [e]; rfl, by rw [e]; rfl, by rw [e]; rfl, h.sm, h.ss⟩, mid := fun _ _ => ⟨h.inp, by rw [e]; rfl⟩, et := fun _ _ => by rw [e]; rfl,
            two := fun e => absurd e (by show ¬ (1 : Int) = 2; omega), three := fun e => absurd e (by show ¬ (1 : Int) = 3; omega), nil := fun _ => h.told, four := fun e => absurd e (by show ¬ (1 : Int) = 4; omega),
            apart := ⟨fun q => hn b (.inl q) rfl, fun q => hn b (.inr (.inl q)) rfl, fun q => hn b (.inr (.inr q)) rfl, by rw [h.told]; intro q; cases q⟩ }, fun x hx => ?_⟩
  rcases h.foot hx with q | q
  · rw [q]; exact hp.lt
  · exact h.low x q
structure SesNew (w : World) (b i : Nat) (C : Srv.Cf) (cl : Nat → Cli.Cl) (S : SS) (P : Nat → PS) (cv fv : Value) (vs : List Value) (ps : List Pk) : Prop where
  srv : SrvW w b C Srv.start S
  c76 : w.cell? ⟨b, 76, none⟩ = some cv
  f76 : w.frozen? ⟨b, 76, none⟩ = false
  c77 : w.cell? ⟨b, 77, none⟩ = some fv
  f77 : w.frozen? ⟨b, 77, none⟩ = false
  row : w.ownsRow 0 205 78 cv i (cliV P i)
  fr : ∀ j, j < i → FreshP w (cl j) (P j)
  fl : FlAt w fv vs ps
  own : cv.ownBlock ≠ some b ∧ fv.ownBlock ≠ some b ∧ ∀ x, fv.ownBlock = some x → cv.ownBlock ≠ some x
  ap : ∀ x, ((SFoot b S x ∧ x ≠ b) ∨ (∃ j, j < i ∧ ((P j).inp.ownBlock = some x ∨ (P j).sm.ownBlock = some x ∨ (P j).ss.ownBlock = some x)) ∨ ∃ y ∈ vs, y.ownBlock = some x) → x ≠ b ∧ cv.ownBlock ≠ some x ∧ fv.ownBlock ≠ some x
theorem SesNew.ses {w : World} {b n : Nat} {C : Srv.Cf} {cl : Nat → Cli.Cl} {S : SS} {P : Nat → PS} {cv fv : Value} {vs : List Value} {ps : List Pk} (h : SesNew w b n C cl S P cv fv vs ps) (hn : 1 ≤ n) :
    ∃ m, SesAt w b n C cl ⟨Srv.start, fun _ => (1, [], [], []), fun _ => false, ps⟩ m ∧ ∀ x, SesFoot b n m x → x = b ∨ cv.ownBlock = some x ∨ fv.ownBlock = some x ∨ ((SFoot b S x ∧ x ≠ b) ∨ (∃ j, j < n ∧ ((P j).inp.ownBlock = some x ∨ (P j).sm.ownBlock = some x ∨ (P j).ss.ownBlock = some x)) ∨ ∃ y ∈ vs, y.ownBlock = some x) := by
  have h0 := h.row
  rcases h.row.2 with ⟨_, e⟩ | ⟨g, cap, cur, e0, _, _, hnc, hcm, _⟩
  · omega
  · have hg : cv.ownBlock = some g := by rw [e0]; rfl
    rw [e0] at h0
    have hgl := (h0.lt g rfl).2
    have hrec : ∀ j, j < n → Co.PSAt w g (j * 78) (P j) := fun j hj k v hk => by
      have hk78 : k < 78 := by have := (List.getElem?_eq_some_iff.1 hk).1; rwa [psCells_length] at this
      refine ⟨?_, ?_⟩
      · rw [h0.cellAt (j * 78 + k) (by omega), cliV_get P n j k hj hk78]; exact hk
      · rcases h0.2 with ⟨q, _⟩ | ⟨g', cap', cur', q, _, hc', _⟩
        · cases q
        · have : g' = g := by injection q with q1; injection q1 with q2; injection q2 with q3; exact q3.symm
          subst this
          exact frozen_of_row w g' _ _ _ hc'
    have npx : ∀ j, j < n → ∀ x, ((P j).inp.ownBlock = some x ∨ (P j).sm.ownBlock = some x ∨ (P j).ss.ownBlock = some x) → x ≠ g := fun j hj x hx e => (h.ap x (.inr (.inl ⟨j, hj, hx⟩))).2.1 (by rw [e]; exact hg)
    refine ⟨⟨S, g, cap, P, fv, vs⟩, ⟨h.srv, by rw [h.c76, e0], h.c77, h.f77, ⟨hnc, by unfold maxLen at hcm; omega⟩, fun j hj => ⟨fun _ => (h.fr j hj).cli (hrec j hj) (npx j hj), fun e => (by cases e)⟩, h.fl, hgl, ⟨fun e => h.own.1 (by rw [hg]; exact congrArg some e), h.own.2.1, fun e => h.own.2.2 g e hg⟩, fun x hx ho => ?_⟩, fun x hx => ?_⟩
    · have hx' : (SFoot b S x ∧ x ≠ b) ∨ (∃ j, j < n ∧ ((P j).inp.ownBlock = some x ∨ (P j).sm.ownBlock = some x ∨ (P j).ss.ownBlock = some x)) ∨ ∃ y ∈ vs, y.ownBlock = some x := by
        rcases hx with hx | ⟨j, hj, hx, e⟩ | hx
        · exact .inl hx
        · rcases (h.fr j hj).foot hx with q | q
          · exact absurd q e
          · exact .inr (.inl ⟨j, hj, q⟩)
        · exact .inr (.inr hx)
      obtain ⟨a1, a2, a3⟩ := h.ap x hx'
      rcases ho with o | o | o
      · exact a1 o
      · have o' : x = g := o
        exact a2 (by rw [o']; exact hg)
      · exact a3 o
    · rcases hx with (o | o | o) | hx | ⟨j, hj, hx, e⟩ | hx
      · exact .inl o
      · have o' : x = g := o
        exact .inr (.inl (by rw [o']; exact hg))
      · exact .inr (.inr (.inl o))
      · exact .inr (.inr (.inr (.inl hx)))
      · rcases (h.fr j hj).foot hx with q | q
        · exact absurd q e
        · exact .inr (.inr (.inr (.inr (.inl ⟨j, hj, q⟩))))
      · exact .inr (.inr (.inr (.inr (.inr hx))))
end Go.Proofs.YtchideljndagjabGreat
namespace Go.Proofs.YtchideljndagjabGreat
open Go.RowKit
set_option linter.unusedVariables false
def NStat (b i : Nat) (S : SS) (P : Nat → PS) (vs : List Value) (x : Nat) : Prop := (SFoot b S x ∧ x ≠ b) ∨ (∃ j, j < i ∧ ((P j).inp.ownBlock = some x ∨ (P j).sm.ownBlock = some x ∨ (P j).ss.ownBlock = some x)) ∨ ∃ y ∈ vs, y.ownBlock = some x
section
variable {w w1 w' : World} {b i : Nat} {C : Srv.Cf} {cl : Nat → Cli.Cl} {S : SS} {P : Nat → PS} {cv fv cv' fv' : Value} {vs vs' : List Value} {ps ps' : List Pk}
theorem SesNew.slow (h : SesNew w b i C cl S P cv fv vs ps) {x : Nat} (hx : NStat b i S P vs x) : x < w.heap.size := by
  rcases hx with ⟨hx, _⟩ | ⟨j, hj, hx⟩ | ⟨y, hy, hx⟩
  · exact h.srv.low x hx
  · exact (h.fr j hj).low x hx
  · exact h.fl.low y hy x hx
theorem SesNew.blt (h : SesNew w b i C cl S P cv fv vs ps) : b < w.heap.size := h.srv.low b (.inl rfl)
theorem srv_other (h : SrvW w b C Srv.start S) {k : Nat} (hk : 76 ≤ k) {v : Value} (hb1 : w1.heap[b]? = w.heap[b]?) (hw' : w' = w1.setCell ⟨b, k, none⟩ v) (hs : w.heap.size ≤ w'.heap.size) (far : ∀ x, SFoot b S x → x ≠ b → w'.heap[x]? = w.heap[x]?) : SrvW w' b C Srv.start S := by
  refine ⟨h.srv.keep hs (RecAt.keep h.srv.at_ (fun j hj => ?_) (fun j _ => ?_)) (fun x e hx => far x hx e), fun x hx => Nat.lt_of_lt_of_le (h.low x hx) hs⟩
  · have hl : (ssCells S).length = 76 := rfl
    have hj' : j < 76 := by rw [← hl]; exact hj
    rw [hw', World.cell?_setCell_other _ _ _ _ (by intro q; injection q with q1 q2 q3; omega)]
    exact World.cell?_of_block (w := w) (a := ⟨b, 0 + j, none⟩) hb1
  · rw [hw', World.frozen?_setCell]; exact frozen_block hb1 _
theorem SesNew.addC (h : SesNew w b i C cl S P cv fv vs ps) {Pn : PS} (hc : Chg (fun x => cv.ownBlock = some x) w w1) (hr : w1.ownsRow 0 205 78 cv' (i + 1) (cliV P i ++ psCells Pn)) (hv : ∀ x, cv'.ownBlock = some x → cv.ownBlock = some x ∨ w.heap.size ≤ x) (hw' : w' = w1.setCell ⟨b, 76, none⟩ cv')
    (hf : FreshP w (cl i) Pn) (hn : ∀ x, (Pn.inp.ownBlock = some x ∨ Pn.sm.ownBlock = some x ∨ Pn.ss.ownBlock = some x) → x ≠ b ∧ cv.ownBlock ≠ some x ∧ fv.ownBlock ≠ some x) :
    SesNew w' b (i + 1) C cl S (updA P i Pn) cv' fv vs ps ∧ Chg (fun x => x = b ∨ cv.ownBlock = some x) w w' := by
  have z1 := hc.size
  have z' : w'.heap.size = w1.heap.size := by rw [hw']; simp [World.setCell]
  have c2 : Chg (fun x => x = b) w1 w' := by rw [hw']; exact Chg.setCell w1 ⟨b, 76, none⟩ cv'
  have hblt := h.blt
  have far : ∀ x, x < w.heap.size → cv.ownBlock ≠ some x → x ≠ b → w'.heap[x]? = w.heap[x]? := fun x hx e e2 => by rw [c2.block x (by omega) e2]; exact hc.block x hx e
  have hb1 : w1.heap[b]? = w.heap[b]? := hc.block b hblt h.own.1
  have sf : ∀ x, NStat b i S P vs x → w'.heap[x]? = w.heap[x]? := fun x hx => by obtain ⟨a1, a2, a3⟩ := h.ap x hx; exact far x (h.slow hx) a2 a1
  have d76 : w1.cell? ⟨b, 76, none⟩ = some cv := (World.cell?_of_block (w := w) (a := ⟨b, 76, none⟩) hb1).trans h.c76
  have cvb : ∀ x, cv'.ownBlock = some x → x ≠ b := fun x hx e => by
    rcases hv x hx with k | k
    · exact h.own.1 (by rw [← e]; exact k)
    · omega
  have nf : ∀ x, (Pn.inp.ownBlock = some x ∨ Pn.sm.ownBlock = some x ∨ Pn.ss.ownBlock = some x) → w'.heap[x]? = w.heap[x]? := fun x hx => by obtain ⟨a1, a2, _⟩ := hn x hx; exact far x (hf.low x hx) a2 a1
  refine ⟨⟨srv_other h.srv (by omega) hb1 hw' (by omega) (fun x hx e => sf x (.inl ⟨hx, e⟩)), by rw [hw']; exact World.cell?_setCell_same _ _ _ d76, ?_, ?_, ?_, ?_, fun j hj => ?_, ?_, ⟨fun e => cvb b e rfl, h.own.2.1, fun x hx e => ?_⟩, fun x hx => ?_⟩, (hc.mono (S' := fun x => x = b ∨ cv.ownBlock = some x) (fun x e _ => .inr e)).trans c2 (fun x e _ => .inl e)⟩
  · rw [hw', World.frozen?_setCell]; exact (frozen_block hb1 76).trans h.f76
  · rw [hw', World.cell?_setCell_other _ _ _ _ (by intro q; injection q with q1 q2 q3; omega)]
    exact (World.cell?_of_block (w := w) (a := ⟨b, 77, none⟩) hb1).trans h.c77
  · rw [hw', World.frozen?_setCell]; exact (frozen_block hb1 77).trans h.f77
  · have e : cliV (updA P i Pn) (i + 1) = cliV P i ++ psCells Pn := by
      show cliV (updA P i Pn) i ++ psCells (updA P i Pn i) = _
      rw [updA_same, cliV_ext i (fun j hj => updA_other P i Pn (by omega))]
    rw [e]
    exact row_keep hr (fun x hx => c2.block x (hr.lt x hx).2 (cvb x hx))
  · by_cases e : j = i
    · subst e
      rw [updA_same]; exact hf.keep (by omega) nf
    · rw [updA_other _ _ _ e]
      exact (h.fr j (by omega)).keep (by omega) (fun x hx => sf x (.inr (.inl ⟨j, by omega, hx⟩)))
  · exact h.fl.keep (by omega) (fun x hx => far x (h.fl.rowlt hx) (h.own.2.2 x hx) (fun e => h.own.2.1 (by rw [← e]; exact hx))) (fun y hy x hx => sf x (.inr (.inr ⟨y, hy, hx⟩)))
  · rcases hv x e with k | k
    · exact h.own.2.2 x hx k
    · have := h.fl.rowlt hx; omega
  · have hx' : NStat b i S P vs x ∨ (Pn.inp.ownBlock = some x ∨ Pn.sm.ownBlock = some x ∨ Pn.ss.ownBlock = some x) := by
      rcases hx with hx | ⟨j, hj, hx⟩ | hx
      · exact .inl (.inl hx)
      · by_cases e : j = i
        · subst e; rw [updA_same] at hx; exact .inr hx
        · rw [updA_other _ _ _ e] at hx; exact .inl (.inr (.inl ⟨j, by omega, hx⟩))
      · exact .inl (.inr (.inr hx))
    have k : x < w.heap.size ∧ x ≠ b ∧ cv.ownBlock ≠ some x ∧ fv.ownBlock ≠ some x := by
      rcases hx' with q | q
      · exact ⟨h.slow q, h.ap x q⟩
      · exact ⟨hf.low x q, hn x q⟩
    refine ⟨k.2.1, fun e => ?_, k.2.2.2⟩
    rcases hv x e with q | q
    · exact k.2.2.1 q
    · omega
theorem SesNew.addF (h : SesNew w b i C cl S P cv fv vs ps) (hc : Chg (fun x => fv.ownBlock = some x) w w1) (hf : FlAt w1 fv' vs' ps') (hv : ∀ x, fv'.ownBlock = some x → fv.ownBlock = some x ∨ w.heap.size ≤ x) (hw' : w' = w1.setCell ⟨b, 77, none⟩ fv')
    (hvs : ∀ y ∈ vs', ∀ x, y.ownBlock = some x → x ≠ b ∧ cv.ownBlock ≠ some x) : SesNew w' b i C cl S P cv fv' vs' ps' ∧ Chg (fun x => x = b ∨ fv.ownBlock = some x) w w' := by
  have z1 := hc.size
  have z' : w'.heap.size = w1.heap.size := by rw [hw']; simp [World.setCell]
  have c2 : Chg (fun x => x = b) w1 w' := by rw [hw']; exact Chg.setCell w1 ⟨b, 77, none⟩ fv'
  have hblt := h.blt
  have far : ∀ x, x < w.heap.size → fv.ownBlock ≠ some x → x ≠ b → w'.heap[x]? = w.heap[x]? := fun x hx e e2 => by rw [c2.block x (by omega) e2]; exact hc.block x hx e
  have hb1 : w1.heap[b]? = w.heap[b]? := hc.block b hblt h.own.2.1
  have sf : ∀ x, NStat b i S P vs x → w'.heap[x]? = w.heap[x]? := fun x hx => by obtain ⟨a1, a2, a3⟩ := h.ap x hx; exact far x (h.slow hx) a3 a1
  have d77 : w1.cell? ⟨b, 77, none⟩ = some fv := (World.cell?_of_block (w := w) (a := ⟨b, 77, none⟩) hb1).trans h.c77
  have fvb : ∀ x, fv'.ownBlock = some x → x ≠ b := fun x hx e => by
    rcases hv x hx with k | k
    · exact h.own.2.1 (by rw [← e]; exact k)
    · omega
  have cvlt : ∀ x, cv.ownBlock = some x → x < w.heap.size := fun x hx => (h.row.lt x hx).2
  refine ⟨⟨srv_other h.srv (by omega) hb1 hw' (by omega) (fun x hx e => sf x (.inl ⟨hx, e⟩)), ?_, ?_, by rw [hw']; exact World.cell?_setCell_same _ _ _ d77, ?_, ?_, fun j hj => ?_, ?_, ⟨h.own.1, fun e => fvb b e rfl, fun x hx e => ?_⟩, fun x hx => ?_⟩, (hc.mono (S' := fun x => x = b ∨ fv.ownBlock = some x) (fun x e _ => .inr e)).trans c2 (fun x e _ => .inl e)⟩
  · rw [hw', World.cell?_setCell_other _ _ _ _ (by intro q; injection q with q1 q2 q3; omega)]
    exact (World.cell?_of_block (w := w) (a := ⟨b, 76, none⟩) hb1).trans h.c76
  · rw [hw', World.frozen?_setCell]; exact (frozen_block hb1 76).trans h.f76
  · rw [hw', World.frozen?_setCell]; exact (frozen_block hb1 77).trans h.f77
  · exact row_keep h.row (fun x hx => far x (cvlt x hx) (fun e => h.own.2.2 x e hx) (fun e => h.own.1 (by rw [← e]; exact hx)))
  · exact (h.fr j hj).keep (by omega) (fun x hx => sf x (.inr (.inl ⟨j, hj, hx⟩)))
  · exact hf.keep (by omega) (fun x hx => c2.block x (hf.rowlt hx) (fvb x hx)) (fun y hy x hx => c2.block x (hf.low y hy x hx) (hvs y hy x hx).1)
  · rcases hv x hx with k | k
    · exact h.own.2.2 x k e
    · have := cvlt x e; omega
  · have old : NStat b i S P vs x → x ≠ b ∧ cv.ownBlock ≠ some x ∧ fv'.ownBlock ≠ some x := fun q => by
      obtain ⟨a1, a2, a3⟩ := h.ap x q
      refine ⟨a1, a2, fun e => ?_⟩
      rcases hv x e with k | k
      · exact a3 k
      · have := h.slow q; omega
    rcases hx with hx | hx | ⟨y, hy, hx⟩
    · exact old (.inl hx)
    · exact old (.inr (.inl hx))
    · exact ⟨(hvs y hy x hx).1, (hvs y hy x hx).2, hf.apart y hy x hx⟩
theorem SesNew.below (h : SesNew w b i C cl S P cv fv vs ps) (hb : Below w.heap.size w w') : SesNew w' b i C cl S P cv fv vs ps := by
  have z := hb.size
  have hblt := h.blt
  have sf : ∀ x, NStat b i S P vs x → w'.heap[x]? = w.heap[x]? := fun x hx => hb.block x (h.slow hx)
  exact { h with
    srv := h.srv.below hb
    c76 := (hb.cell (p := ⟨b, 76, none⟩) hblt).trans h.c76
    f76 := (hb.frozen (p := ⟨b, 76, none⟩) hblt).trans h.f76
    c77 := (hb.cell (p := ⟨b, 77, none⟩) hblt).trans h.c77
    f77 := (hb.frozen (p := ⟨b, 77, none⟩) hblt).trans h.f77
    row := row_keep h.row (fun x hx => hb.block x (h.row.lt x hx).2)
    fr := fun j hj => (h.fr j hj).keep z (fun x hx => sf x (.inr (.inl ⟨j, hj, hx⟩)))
    fl := h.fl.keep z (fun x hx => hb.block x (h.fl.rowlt hx)) (fun y hy x hx => sf x (.inr (.inr ⟨y, hy, hx⟩))) }
end
end Go.Proofs.YtchideljndagjabGreat
namespace Go.Proofs.YtchideljndagjabGreat
open Go.ChangeShapes Go.WideShapes Go.ChangeAt Go.RowKit
set_option linter.unusedVariables false
structure NewSent (w w' : World) (b i : Nat) (C : Srv.Cf) (cl : Nat → Cli.Cl) (S : SS) (P : Nat → PS) (cv fv : Value) (vs : List Value) (ps : List Pk) (p : Pk) (y : Value) (fv' : Value) : Prop where
  ses : SesNew w' b i C cl S P cv fv' (vs ++ [y]) (ps ++ [p])
  chg : Chg (fun x => x = b ∨ fv.ownBlock = some x) w w'
  new : ∀ x, fv'.ownBlock = some x → fv.ownBlock = some x ∨ w.heap.size ≤ x
theorem SesNew.sent {w W w2 w3 : World} {b i g cap : Nat} {C : Srv.Cf} {cl : Nat → Cli.Cl} {S : SS} {P : Nat → PS} {cv fv : Value} {vs : List Value} {ps : List Pk} (h : SesNew w b i C cl S P cv fv vs ps) {p : Pk} {y : Value} (hy : BytesAt w y p.2.2) (hlow : ∀ x, y.ownBlock = some x → x < w.heap.size ∧ x ≠ b ∧ cv.ownBlock ≠ some x ∧ fv.ownBlock ≠ some x) (hW : Below w.heap.size w W)
    (hr : w2.ownsRow 0 49 3 (.slice (some ⟨g, 0, none⟩) (ps.length + 1) cap) (ps.length + 1) (packV ps vs ++ [.int .i64 p.1, .int .i64 p.2.1, y])) (hgr : W.grownBy w2 fv.ownBlock) (hat : fv.ownBlock = some g ∨ g = W.heap.size) (hw3 : w3 = w2.setCell ⟨b, 77, none⟩ (.slice (some ⟨g, 0, none⟩) (ps.length + 1) cap)) :
    ∃ fv', NewSent w w3 b i C cl S P cv fv vs ps p y fv' := by
  have zW := hW.size
  have hv : ∀ x, (Value.slice (some ⟨g, 0, none⟩) (ps.length + 1) cap).ownBlock = some x → fv.ownBlock = some x ∨ w.heap.size ≤ x := fun x hx => by
    have e : x = g := by simpa [Value.ownBlock] using hx.symm
    subst e
    rcases hat with k | k
    · exact .inl k
    · exact .inr (by omega)
  have hc : Chg (fun x => fv.ownBlock = some x) w w2 := (Chg.of_below hW).trans (Chg.grown hgr) (fun x e _ => e)
  have hf := h.fl.snoc (p := p) hy (fun x hx => ⟨(hlow x hx).1, (hlow x hx).2.2.2⟩) hr hc hv
  obtain ⟨r1, r2⟩ := h.addF hc hf hv hw3 (fun u hu x hx => by
    rcases List.mem_append.1 hu with hu | hu
    · have k := h.ap x (.inr (.inr ⟨u, hu, hx⟩)); exact ⟨k.1, k.2.1⟩
    · rw [List.mem_singleton.1 hu] at hx
      exact ⟨(hlow x hx).2.1, (hlow x hx).2.2.1⟩)
  exact ⟨_, r1, r2, hv⟩
set_option maxHeartbeats 1000000 in
set_option maxRecDepth 100000 in
theorem send_new (b i : Nat) (C : Srv.Cf) (cl : Nat → Cli.Cl) (S : SS) (P : Nat → PS) (cv fv : Value) (vs : List Value) (ps : List Pk) (fr : Int) (y : Value) (zs : List Int) (w : World) (h : SesNew w b i C cl S P cv fv vs ps) (hy : BytesAt w y zs) (hlow : ∀ x, y.ownBlock = some x → x < w.heap.size ∧ x ≠ b ∧ cv.ownBlock ≠ some x ∧ fv.ownBlock ≠ some x) (hlen : ps.length ≤ 2000) :
    Calls Tryz.prog 128 #[.pointer (some ⟨b, 0, none⟩), .int .i64 fr, y] w fun e w' => e = .returned (.tuple #[]) ∧ ∃ fv', NewSent w w' b i C cl S P cv fv vs ps (fr, 0, zs) y fv' := by
  have c77 := h.c77
  have f77 := h.f77
  have hb := h.blt
  obtain ⟨a, c, hv, -⟩ := h.fl.view
  obtain ⟨ay, cy, hyv, -⟩ := bytes_view hy
  have ROW := hideG h.fl.row
  have NB := hideG h.own.2.1
  have HS := hideG (fun (W w2 w3 : World) (g cap : Nat) hW hr hgr hat hw3 => h.sent (p := (fr, 0, zs)) (W := W) (w2 := w2) (w3 := w3) (g := g) (cap := cap) hy hlow hW hr hgr hat hw3)
  obtain ⟨i1, hi1, hy0, hy1, hy2⟩ := info_parts infoPk
  rw [hv] at c77 ROW HS NB ⊢
  rw [hyv] at HS ⊢
  clear h hy hlow hv hyv
  obtain ⟨k, hk⟩ : ∃ k, k = ps.length := ⟨_, rfl⟩
  obtain ⟨nz, hnz⟩ : ∃ nz, nz = zs.length := ⟨_, rfl⟩
  rw [← hk] at c77 ROW HS hlen NB ⊢
  rw [← hnz] at HS ⊢
  clear hk hnz
  go_enter Tryz.func128, Tryz.ntmps128
  go_wp2_with (at_builtin; refine wpList_append_lies _ rfl _ _ 41 rfl 0 49 i1 (.agg #[.int .i64 0, .int .i64 0, .slice none 0 0]) 3 40 Tryz.underlying41 hi1 hy0 hy1 hy2 rfl (by decide) _ _ _ rfl (ROW.out.alloc _) ⟨w.heap.size, 0, none⟩ 1 1 [.int .i64 fr, .int .i64 0, .slice ay nz cy] rfl rfl ?c1 ?c2 (by decide) ?c3 ?c4 (Nat.zero_le _) _ rfl ?_)
  case c2 => exact ⟨rfl, rfl, rfl⟩
  case c3 => unfold maxLen; omega
  case c4 => omega
  intro g cap w2 hr hgr hat hgl
  have hal : Below w.heap.size w (w.alloc (.cells #[.int .i64 fr, .int .i64 0, .slice ay nz cy] 49)) := (Below.refl _ _).alloc (Nat.le_refl _) _
  have d77 : w2.cell? ⟨b, 77, none⟩ = some (.slice a k c) := by
    rw [hgr.cell_far ⟨b, 77, none⟩ (by show b < _; simp; omega) (fun e => NB.out e.symm), hal.cell (p := ⟨b, 77, none⟩) hb]; exact c77
  have e77 : w2.frozen? ⟨b, 77, none⟩ = false := by
    rw [hgr.frozen_far ⟨b, 77, none⟩ (by show b < _; simp; omega) (fun e => NB.out e.symm), hal.frozen (p := ⟨b, 77, none⟩) hb]; exact f77
  have hb2 : b < w2.heap.size := by have := hgr.size; simp at this; omega
  obtain ⟨w3, hw3⟩ : ∃ w3, w3 = w2.setCell ⟨b, 77, none⟩ (.slice (some ⟨g, 0, none⟩) (k + 1) cap) := ⟨_, rfl⟩
  have FIN := hideG (HS.out _ w2 w3 g cap hal hr hgr (by simpa using hat) hw3)
  have HW3 := hideG hw3
  clear hr hgr hat hgl hal hw3 c77 f77
  go_wp2_with fail
  rw [← HW3.out]
  go_end0
  exact ⟨rfl, FIN.out⟩
end Go.Proofs.YtchideljndagjabGreat
namespace Go.Proofs.YtchideljndagjabGreat
open Go.ChangeShapes Go.WideShapes Go.ChangeAt Go.RowKit
set_option linter.unusedVariables false
def sesCells (S : SS) (cv fv : Value) : List Value := ssCells S ++ [cv, fv]
theorem zero_ses : Tryz.zeroCells109 = (sesCells zeroSS (.slice none 0 0) (.slice none 0 0)).toArray := by kernel_rfl
theorem size_ses : (Tryz.prog.info? 109).map (·.size) = some 78 := by kernel_rfl
theorem sesCells_length (S : SS) (cv fv : Value) : (sesCells S cv fv).length = 78 := rfl
theorem zses_one : ∀ v ∈ sesCells zeroSS (.slice none 0 0) (.slice none 0 0), v.oneCell' = true := by
  intro v hv
  rcases List.mem_append.1 hv with hv | hv
  · exact szero_one v hv
  · simp only [List.mem_cons, List.not_mem_nil, or_false] at hv
    rcases hv with rfl | rfl <;> rfl
theorem ses_row_set {w : World} {b : Nat} {L L' : List Value} (h : w.heap[b]? = some (.cells L.toArray 109 (0, 0))) (hl : L.length = L'.length) : (w.setCells b 0 L').heap[b]? = some (.cells L'.toArray 109 (0, 0)) := by
  have := heap_setCells b 109 L' [] L [] w hl (by simpa using h)
  simpa using this
set_option maxHeartbeats 2000000 in
set_option maxRecDepth 100000 in
theorem sesNew_no (N T M D : Int) (a : Option Addr) (n c : Nat) (w : World) (h : Cli.cfgB N T M D = false) :
    Calls Tryz.prog 61 #[.agg #[.int .i64 N, .int .i64 T, .int .i64 M, .int .i64 D], .slice a n c] w fun e w' => e = .returned (.tuple #[.agg (sesCells zeroSS (.slice none 0 0) (.slice none 0 0)).toArray, .int .i64 5]) ∧ Below w.heap.size w w' := by
  have HN := hideG (fun (W : World) => sNew_no N T M D W h)
  obtain ⟨CS, hCS⟩ : ∃ CS, CS = ssCells zeroSS := ⟨_, rfl⟩
  rw [← hCS] at HN
  have L76 := hideG (show CS.length = 76 by rw [hCS]; rfl)
  have HONE := hideG (show CS.toArray.all (·.oneCell') = true by rw [hCS]; exact all_oneCell_toArray szero_one)
  have HSZ := hideG (show (Tryz.prog.info? 106).map (·.size) = some CS.toArray.size by rw [size_srv, List.size_toArray, L76.out])
  obtain ⟨ZS, hZS⟩ : ∃ ZS, ZS = sesCells zeroSS (.slice none 0 0) (.slice none 0 0) := ⟨_, rfl⟩
  have L78 := hideG (show ZS.length = 78 by rw [hZS]; rfl)
  have HZO := hideG (show ZS.toArray.all (·.oneCell') = true by rw [hZS]; exact all_oneCell_toArray zses_one)
  have HZZ := hideG (show (Tryz.prog.info? 109).map (·.size) = some ZS.toArray.size by rw [size_ses, List.size_toArray, L78.out])
  have HZC := hideG (show Tryz.zeroCells109 = ZS.toArray by rw [hZS]; exact zero_ses)
  rw [← hZS]
  clear h hCS hZS
  obtain ⟨W0, hW0⟩ : ∃ W0, W0 = (w.alloc (.cells #[.int .i64 N, .int .i64 T, .int .i64 M, .int .i64 D] 26)).alloc (.cells Tryz.zeroCells109 109) := ⟨_, rfl⟩
  have b0 : Below w.heap.size w W0 := by rw [hW0]; exact ((Below.refl _ _).alloc (Nat.le_refl _) _).alloc (by simp) _
  have z0 : W0.heap.size = w.heap.size + 2 := by rw [hW0]; simp
  have r0 : W0.heap[w.heap.size]? = some (.cells #[.int .i64 N, .int .i64 T, .int .i64 M, .int .i64 D] 26 (0, 0)) := by rw [hW0, Below.heap_alloc _ _ _ (by simp)]; exact heap_alloc_new w _
  have r1 : W0.heap[w.heap.size + 1]? = some (.cells ZS.toArray 109 (0, 0)) := by
    have := heap_alloc_new (w.alloc (.cells #[.int .i64 N, .int .i64 T, .int .i64 M, .int .i64 D] 26)) (.cells Tryz.zeroCells109 109)
    rw [hW0, ← HZC.out]; simpa using this
  obtain ⟨⟨x0, x1, x2, x3⟩, -⟩ := cells_four r0
  have R1 := hideG r1
  have B0 := hideG b0
  have HW0 := hideG hW0
  have SZ0 := hideG z0
  have hwl : w.heap.size < W0.heap.size := by omega
  clear hW0 b0 r0 r1 z0
  go_enter Tryz.func61, Tryz.ntmps61
  go_upto_region 1 with fail
  rw [← HW0.out]
  go_wp2_with fail
  refine (HN.out W0).mono ?_
  rintro e w1 ⟨rfl, hb1⟩
  have s1 := hb1.size
  have hsz0 := SZ0.out
  have R2 := hideG ((hb1.block (w.heap.size + 1) (by omega)).trans R1.out)
  have B1 := hideG (B0.out.trans (hb1.mono B0.out.size))
  have z1 := B1.out.size
  have hp3 : SSBl (w1.alloc (.cells Tryz.zeroCells106 106)) w1.heap.size 106 zeroSS := by unfold SSBl; rw [← zero_ss]; exact heap_alloc_new w1 _
  have HTH := hideG (show (w1.alloc (.cells Tryz.zeroCells106 106)).there w1.heap.size 0 CS.toArray.size by rw [show CS.toArray.size = 76 by rw [List.size_toArray]; exact L76.out]; exact hp3.at_.there 0 76 (by omega))
  obtain ⟨w2, hw2⟩ : ∃ w2, w2 = (w1.alloc (.cells Tryz.zeroCells106 106)).setCells w1.heap.size 0 CS := ⟨_, rfl⟩
  have hb2 : Below w1.heap.size w1 w2 := by rw [hw2]; exact below_setCells (Nat.le_refl _) _ _ _ ((Below.refl _ _).alloc (Nat.le_refl _) _)
  have R3 := hideG ((hb2.block (w.heap.size + 1) (by omega)).trans R2.out)
  have B2 := hideG (B1.out.trans (hb2.mono z1))
  have HW2 := hideG hw2
  have HT4 := hideG (show w2.there (w.heap.size + 1) 0 ZS.toArray.size from fun j hj => by
    have hj' : j < 78 := by have := L78.out; simp at hj; omega
    refine ⟨?_, frozen_of_row w2 _ _ _ _ R3.out⟩
    rw [cell_of_row w2 (w.heap.size + 1) (0 + j) _ _ (0, 0) R3.out]
    simp only [List.getElem?_toArray]
    rw [List.getElem?_eq_getElem (by rw [L78.out]; omega)]; rfl)
  have RF := hideG (ses_row_set R3.out (rfl : ZS.length = ZS.length))
  have BF := hideG (show Below w.heap.size w (w2.setCells (w.heap.size + 1) 0 ZS) from below_setCells (by omega) _ _ _ B2.out)
  clear hb1 hp3 hb2 hw2 hsz0 x0 x1 x2 x3
  go_upto_region 2 with (refine wpList_store_mid rfl 106 _ _ rfl w1.heap.size 0 CS.toArray rfl rfl HTH.out HSZ.out HONE.out ?_)
  rw [← HW2.out]
  have ZT := hideG (show w2.there (w.heap.size + 1) 0 Tryz.zeroCells109.size by rw [HZC.out]; exact HT4.out)
  have ZZ := hideG (show (Tryz.prog.info? 109).map (·.size) = some Tryz.zeroCells109.size by rw [HZC.out]; exact HZZ.out)
  have ZO := hideG (show Tryz.zeroCells109.all (·.oneCell') = true by rw [HZC.out]; exact HZO.out)
  go_wp2_with (refine wpList_store_mid rfl 109 _ _ rfl (w.heap.size + 1) 0 Tryz.zeroCells109 rfl rfl ZT.out ZZ.out ZO.out ?_)
  rw [show Tryz.zeroCells109.toList = ZS by rw [HZC.out]]
  refine bodyPost_ret (results_row_tmp rfl _ _ (w.heap.size + 1) 109 ZS.toArray (0, 0) _ rfl RF.out Tryz.underlying109 rfl HZZ.out) rfl ?_
  exact ⟨rfl, BF.out⟩
end Go.Proofs.YtchideljndagjabGreat
namespace Go.Proofs.YtchideljndagjabGreat
open Go.RowKit
set_option linter.unusedVariables false
def hellosP (cl : Nat → Cli.Cl) : Nat → List Pk
  | 0 => []
  | i + 1 => hellosP cl i ++ [((i : Int) + 1, 0, Frm.encF 1 (cl i).id (helloL (cl i)))]
theorem hellosP_length (cl : Nat → Cli.Cl) : ∀ i, (hellosP cl i).length = i
  | 0 => rfl
  | i + 1 => by show (hellosP cl i ++ [_]).length = _; rw [List.length_append, hellosP_length cl i]; rfl
theorem fresh_foot {N T M D : Int} {f : Nat → Bool} {b x : Nat} (hx : SFoot b (freshSS N T M D f) x) : x = b := by
  rcases hx with hx | ⟨v, _, hx⟩ | hx | hx | hx
  · exact hx
  all_goals (exfalso; cases hx)
theorem ses_srv {Ty : TypeId} {w : World} {b : Nat} {N T M D : Int} {S : SS} {cv fv : Value} (hS : S = freshSS N T M D fun u : Nat => decide (1 ≤ u ∧ (u : Int) ≤ N)) (hr : w.heap[b]? = some (.cells (sesCells S cv fv).toArray Ty (0, 0))) : SrvW w b ⟨N, T, M, D⟩ Srv.start S := by
  have hb : b < w.heap.size := by
    by_cases hb : b < w.heap.size
    · exact hb
    · rw [Array.getElem?_eq_none (by omega)] at hr; cases hr
  have hat : SSAt w b S := fun j v hj => by
    have hl : (ssCells S).length = 76 := rfl
    have hj' : j < 76 := by rw [← hl]; exact (List.getElem?_eq_some_iff.1 hj).1
    refine ⟨?_, frozen_of_row w b _ _ _ hr⟩
    rw [cell_of_row w b (0 + j) _ _ (0, 0) hr, Nat.zero_add]
    simp only [List.getElem?_toArray]
    unfold sesCells
    rw [List.getElem?_append_left (by rw [hl]; exact hj')]; exact hj
  refine ⟨by rw [hS] at hat ⊢; exact srvAt_fresh hat, fun x hx => ?_⟩
  rw [hS] at hx
  rw [fresh_foot hx]; exact hb
theorem ses_cells {Ty : TypeId} {w : World} {b : Nat} {S : SS} {cv fv : Value} (hr : w.heap[b]? = some (.cells (sesCells S cv fv).toArray Ty (0, 0))) : (w.cell? ⟨b, 76, none⟩ = some cv ∧ w.cell? ⟨b, 77, none⟩ = some fv) ∧ ∀ i, w.frozen? ⟨b, i, none⟩ = false :=
  ⟨⟨(cell_of_row w b 76 _ _ (0, 0) hr).trans rfl, (cell_of_row w b 77 _ _ (0, 0) hr).trans rfl⟩, fun i => frozen_of_row w b i _ _ hr⟩
theorem sesNew_start {Ty : TypeId} {w : World} {b : Nat} {N T M D : Int} {cl : Nat → Cli.Cl} {S : SS} (P : Nat → PS) (hS : S = freshSS N T M D fun u : Nat => decide (1 ≤ u ∧ (u : Int) ≤ N)) (hr : w.heap[b]? = some (.cells (sesCells S (.slice none 0 0) (.slice none 0 0)).toArray Ty (0, 0))) :
    SesNew w b 0 ⟨N, T, M, D⟩ cl S P (.slice none 0 0) (.slice none 0 0) [] [] := by
  obtain ⟨⟨c1, c2⟩, f⟩ := ses_cells hr
  refine ⟨ses_srv hS hr, c1, f 76, c2, f 77, World.ownsRow_nil _ _ _ _, fun j hj => by omega, flAt_nil w, ⟨fun e => (by cases e), fun e => (by cases e), fun x e => (by cases e)⟩, fun x hx => ?_⟩
  rcases hx with ⟨hx, e⟩ | ⟨j, hj, _⟩ | ⟨y, hy, _⟩
  · rw [hS] at hx; exact absurd (fresh_foot hx) e
  · omega
  · cases hy
theorem SesNew.move {Ty : TypeId} {w w' : World} {b b' n : Nat} {N T M D : Int} {cl : Nat → Cli.Cl} {S : SS} {P : Nat → PS} {cv fv : Value} {vs : List Value} {ps : List Pk} (h : SesNew w b n ⟨N, T, M, D⟩ cl S P cv fv vs ps) (hS : S = freshSS N T M D fun u : Nat => decide (1 ≤ u ∧ (u : Int) ≤ N)) (hb : Below w.heap.size w w') (hn : w.heap.size ≤ b')
    (hr : w'.heap[b']? = some (.cells (sesCells S cv fv).toArray Ty (0, 0))) : SesNew w' b' n ⟨N, T, M, D⟩ cl S P cv fv vs ps := by
  obtain ⟨⟨c1, c2⟩, f⟩ := ses_cells hr
  have k := h.below hb
  have cvl : ∀ x, cv.ownBlock = some x → x < w.heap.size := fun x hx => (h.row.lt x hx).2
  have fvl : ∀ x, fv.ownBlock = some x → x < w.heap.size := fun x hx => h.fl.rowlt hx
  refine ⟨ses_srv hS hr, c1, f 76, c2, f 77, k.row, k.fr, k.fl, ⟨fun e => (by have := cvl b' e; omega), fun e => (by have := fvl b' e; omega), h.own.2.2⟩, fun x hx => ?_⟩
  rcases hx with ⟨hx, e⟩ | hx | hx
  · rw [hS] at hx; exact absurd (fresh_foot hx) e
  · have q := h.ap x (.inr (.inl hx))
    have l := h.slow (.inr (.inl hx) : NStat b n S P vs x)
    exact ⟨by omega, q.2⟩
  · have q := h.ap x (.inr (.inr hx))
    have l := h.slow (.inr (.inr hx) : NStat b n S P vs x)
    exact ⟨by omega, q.2⟩
end Go.Proofs.YtchideljndagjabGreat
namespace Go.Proofs.YtchideljndagjabGreat
open Go.ChangeShapes Go.WideShapes Go.ChangeAt Go.RowKit
set_option linter.unusedVariables false
set_option maxHeartbeats 2000000 in
set_option maxRecDepth 100000 in
theorem sesNew_len (N T M D : Int) (a : Option Addr) (n c : Nat) (w : World) (h : Cli.cfgB N T M D = true) (hne : (n : Int) ≠ N) :
    Calls Tryz.prog 61 #[.agg #[.int .i64 N, .int .i64 T, .int .i64 M, .int .i64 D], .slice a n c] w fun e w' => e = .returned (.tuple #[.agg (sesCells zeroSS (.slice none 0 0) (.slice none 0 0)).toArray, .int .i64 6]) ∧ Below w.heap.size w w' := by
  have HN := hideG (fun (W : World) => sNew_ok N T M D W h)
  obtain ⟨CS, hCS⟩ : ∃ CS, CS = ssCells (freshSS N T M D fun u : Nat => decide (1 ≤ u ∧ (u : Int) ≤ N)) := ⟨_, rfl⟩
  rw [← hCS] at HN
  have L76 := hideG (show CS.length = 76 by rw [hCS]; rfl)
  have HONE := hideG (show CS.toArray.all (·.oneCell') = true by rw [hCS]; exact all_oneCell_toArray (fresh_one N T M D _))
  have HSZ := hideG (show (Tryz.prog.info? 106).map (·.size) = some CS.toArray.size by rw [size_srv, List.size_toArray, L76.out])
  obtain ⟨ZS, hZS⟩ : ∃ ZS, ZS = sesCells zeroSS (.slice none 0 0) (.slice none 0 0) := ⟨_, rfl⟩
  have L78 := hideG (show ZS.length = 78 by rw [hZS]; rfl)
  have HZO := hideG (show ZS.toArray.all (·.oneCell') = true by rw [hZS]; exact all_oneCell_toArray zses_one)
  have HZZ := hideG (show (Tryz.prog.info? 109).map (·.size) = some ZS.toArray.size by rw [size_ses, List.size_toArray, L78.out])
  have HZC := hideG (show Tryz.zeroCells109 = ZS.toArray by rw [hZS]; exact zero_ses)
  rw [← hZS]
  have hneq : ((n : Int) != N) = true := by simpa using hne
  clear h hCS hZS hne
  obtain ⟨W0, hW0⟩ : ∃ W0, W0 = (w.alloc (.cells #[.int .i64 N, .int .i64 T, .int .i64 M, .int .i64 D] 26)).alloc (.cells Tryz.zeroCells109 109) := ⟨_, rfl⟩
  have b0 : Below w.heap.size w W0 := by rw [hW0]; exact ((Below.refl _ _).alloc (Nat.le_refl _) _).alloc (by simp) _
  have z0 : W0.heap.size = w.heap.size + 2 := by rw [hW0]; simp
  have r0 : W0.heap[w.heap.size]? = some (.cells #[.int .i64 N, .int .i64 T, .int .i64 M, .int .i64 D] 26 (0, 0)) := by rw [hW0, Below.heap_alloc _ _ _ (by simp)]; exact heap_alloc_new w _
  have r1 : W0.heap[w.heap.size + 1]? = some (.cells ZS.toArray 109 (0, 0)) := by
    have := heap_alloc_new (w.alloc (.cells #[.int .i64 N, .int .i64 T, .int .i64 M, .int .i64 D] 26)) (.cells Tryz.zeroCells109 109)
    rw [hW0, ← HZC.out]; simpa using this
  obtain ⟨⟨x0, x1, x2, x3⟩, -⟩ := cells_four r0
  have R1 := hideG r1
  have B0 := hideG b0
  have HW0 := hideG hW0
  have SZ0 := hideG z0
  have hwl : w.heap.size < W0.heap.size := by omega
  clear hW0 b0 r0 r1 z0
  go_enter Tryz.func61, Tryz.ntmps61
  go_upto_region 1 with fail
  rw [← HW0.out]
  go_wp2_with fail
  refine (HN.out W0).mono ?_
  rintro e w1 ⟨rfl, hb1⟩
  have s1 := hb1.size
  have hsz0 := SZ0.out
  have R2 := hideG ((hb1.block (w.heap.size + 1) (by omega)).trans R1.out)
  have B1 := hideG (B0.out.trans (hb1.mono B0.out.size))
  have z1 := B1.out.size
  have hp3 : SSBl (w1.alloc (.cells Tryz.zeroCells106 106)) w1.heap.size 106 zeroSS := by unfold SSBl; rw [← zero_ss]; exact heap_alloc_new w1 _
  have HTH := hideG (show (w1.alloc (.cells Tryz.zeroCells106 106)).there w1.heap.size 0 CS.toArray.size by rw [show CS.toArray.size = 76 by rw [List.size_toArray]; exact L76.out]; exact hp3.at_.there 0 76 (by omega))
  obtain ⟨w2, hw2⟩ : ∃ w2, w2 = (w1.alloc (.cells Tryz.zeroCells106 106)).setCells w1.heap.size 0 CS := ⟨_, rfl⟩
  have hb2 : Below w1.heap.size w1 w2 := by rw [hw2]; exact below_setCells (Nat.le_refl _) _ _ _ ((Below.refl _ _).alloc (Nat.le_refl _) _)
  have R3 := hideG ((hb2.block (w.heap.size + 1) (by omega)).trans R2.out)
  have B2 := hideG (B1.out.trans (hb2.mono z1))
  have HW2 := hideG hw2
  have HT4 := hideG (show w2.there (w.heap.size + 1) 0 ZS.toArray.size from fun j hj => by
    have hj' : j < 78 := by have := L78.out; simp at hj; omega
    refine ⟨?_, frozen_of_row w2 _ _ _ _ R3.out⟩
    rw [cell_of_row w2 (w.heap.size + 1) (0 + j) _ _ (0, 0) R3.out]
    simp only [List.getElem?_toArray]
    rw [List.getElem?_eq_getElem (by rw [L78.out]; omega)]; rfl)
  have RF := hideG (ses_row_set R3.out (rfl : ZS.length = ZS.length))
  have BF := hideG (show Below w.heap.size w (w2.setCells (w.heap.size + 1) 0 ZS) from below_setCells (by omega) _ _ _ B2.out)
  have y0 : w2.cell? ⟨w.heap.size, 0, none⟩ = some (.int .i64 N) := (hb2.cell (p := ⟨w.heap.size, 0, none⟩) (by show w.heap.size < _; omega)).trans ((hb1.cell (p := ⟨w.heap.size, 0, none⟩) hwl).trans x0)
  have hwl2 : w.heap.size < w2.heap.size := by have := hb2.size; omega
  clear hb1 hp3 hb2 hw2 hsz0 x0 x1 x2 x3
  go_upto_region 2 with (refine wpList_store_mid rfl 106 _ _ rfl w1.heap.size 0 CS.toArray rfl rfl HTH.out HSZ.out HONE.out ?_)
  rw [← HW2.out]
  have ZT := hideG (show w2.there (w.heap.size + 1) 0 Tryz.zeroCells109.size by rw [HZC.out]; exact HT4.out)
  have ZZ := hideG (show (Tryz.prog.info? 109).map (·.size) = some Tryz.zeroCells109.size by rw [HZC.out]; exact HZZ.out)
  have ZO := hideG (show Tryz.zeroCells109.all (·.oneCell') = true by rw [HZC.out]; exact HZO.out)
  go_wp2_with (refine wpList_store_mid rfl 109 _ _ rfl (w.heap.size + 1) 0 Tryz.zeroCells109 rfl rfl ZT.out ZZ.out ZO.out ?_)
  rw [show Tryz.zeroCells109.toList = ZS by rw [HZC.out]]
  refine bodyPost_ret (results_row_tmp rfl _ _ (w.heap.size + 1) 109 ZS.toArray (0, 0) _ rfl RF.out Tryz.underlying109 rfl HZZ.out) rfl ?_
  exact ⟨rfl, BF.out⟩
end Go.Proofs.YtchideljndagjabGreat
namespace Go.Proofs.YtchideljndagjabGreat
open Go.RowKit
set_option linter.unusedVariables false
theorem fill_one (PC : List Value) (A : Array Value) (k : Nat) (hl : PC.length = k) (hA : A.size = k) : Instr.fill (fun i => some (i * k, k)) A [(0, .agg PC.toArray)] = some PC.toArray := by
  unfold Instr.fill
  simp [Instr.fill, Value.cells, hl, hA]
  exact sfold_all PC A (by omega)
theorem wpList_build_one {P : Program} {ops : Array Oper} {rest : List Oper} {o : Oper} {a : Act} {w : World} {Q : Exit → Act → World → Prop} (hg : o.guard = none) (t e : TypeId) (y : Operand) (ho : o.op = .buildSlice t 1 #[(0, y)])
    (PC : List Value) (k : Nat) (ie : TypeInfo) (z : Value) (hu : P.underlying t = some (.slice e)) (hie : P.info? e = some ie) (hz : ie.zero = some z) (hk : ie.size = k) (hk0 : 0 < k) (hks : k ≤ 16777216) (hl : PC.length = k) (hy : a.eval y = .agg PC.toArray)
    (h : wpList P ops Q rest (a.put o.dst (.slice (some ⟨w.heap.size, 0, none⟩) 1 1)) (w.alloc (.cells PC.toArray e))) : wpList P ops Q (o :: rest) a w := by
  subst hk
  refine wpList_buildSlice hg t e 1 _ ho PC.toArray ie z hu hie hz (by omega) (by omega) ?_ h
  have e1 : ((#[(0, y)] : Array (Nat × Operand)).map fun (i, x) => (i, a.eval x)).toList = [(0, .agg PC.toArray)] := by simp [hy]
  rw [e1]
  exact fill_one PC _ ie.size hl (by simp)
end Go.Proofs.YtchideljndagjabGreat
namespace Go.Proofs.YtchideljndagjabGreat
open Go.RowKit
set_option linter.unusedVariables false
structure Cat where
  fi : Nat
  fm : Nat
  e : TypeId
  s : TypeId
  pat : Int → List Value
def cat : Nat → Cat
  | 0 => ⟨3, 9, 3, 33, fun m => [.int .i64 m]⟩
  | 1 => ⟨4, 10, 5, 47, fun m => [.int .u8 m]⟩
  | 2 => ⟨5, 11, 147, 63, fun m => [.int .i64 m, .int .i64 m, .int .i64 m, .int .i64 m]⟩
  | 3 => ⟨6, 12, 49, 41, fun m => [.int .i64 m, .int .i64 m, .slice none 0 0]⟩
  | 4 => ⟨7, 13, 117, 27, fun m => [.slice none 0 0, .int .i64 m, .int .i64 m, .int .i64 m, .slice none 0 0, .slice none 0 0]⟩
  | _ => ⟨8, 14, 139, 137, fun m => [.int .i64 m, .int .i64 m]⟩

abbrev Ow := Option Nat × Nat × Int
def owVal (o : Ow) : Value :=
  match o.1 with
  | none => .slice none 0 0
  | some g => .slice (some ⟨g, 0, none⟩) o.2.1 o.2.1
def owCells (c : Cat) (o : Ow) : List Value := (List.replicate o.2.1 (c.pat o.2.2)).flatten
def OwnC (w : World) (pw : Nat) (c : Cat) (vs vm : Value) (l : List Ow) : Prop :=
  w.ownsRow (pw + 1) c.s 1 vs l.length (l.map owVal) ∧ w.ownsRow (pw + 1) 3 1 vm l.length (l.map fun o => Value.int .i64 o.2.2) ∧
    ∀ o ∈ l, (o.1 = none → o.2.1 = 0) ∧ (o.2.1 ≤ maxLen) ∧ ∀ g, o.1 = some g → pw < g ∧ g < w.heap.size ∧ w.heap[g]? = some (.cells (owCells c o).toArray c.e (0, 0))
structure InvW (w : World) (pw : Nat) (F : Nat → Value) (nx : Int) (ls : Nat → List Ow) : Prop where
  blk : w.heap[pw]? = some (.cells (fArr F) 89 (0, 0))
  nxt : F 15 = .int .i64 nx
  own : ∀ c, c < 6 → OwnC w pw (cat c) (F (cat c).fi) (F (cat c).fm) (ls c)
  tag : ∃ tg : Nat → Nat × Nat × Nat, (∀ c, c < 6 → ∀ b, (F (cat c).fi).ownBlock = some b → tg b = (c, 0, 0)) ∧ (∀ c, c < 6 → ∀ b, (F (cat c).fm).ownBlock = some b → tg b = (c, 1, 0)) ∧
    ∀ c, c < 6 → ∀ (i : Nat) o b, (ls c)[i]? = some o → o.1 = some b → tg b = (c, 2, i)
def Foot (F : Nat → Value) (ls : Nat → List Ow) (b : Nat) : Prop :=
  ∃ c, c < 6 ∧ ((F (cat c).fi).ownBlock = some b ∨ (F (cat c).fm).ownBlock = some b ∨ ∃ o ∈ ls c, o.1 = some b)
theorem InvW.pw_lt {w : World} {pw : Nat} {F : Nat → Value} {nx : Int} {ls : Nat → List Ow} (h : InvW w pw F nx ls) : pw < w.heap.size := by
  have := h.blk
  by_cases hb : pw < w.heap.size
  · exact hb
  · rw [Array.getElem?_eq_none (by omega)] at this; cases this
theorem InvW.chg {S : Nat → Prop} {w w' : World} {pw : Nat} {F : Nat → Value} {nx : Int} {ls : Nat → List Ow} (h : InvW w pw F nx ls) (hc : Chg S w w') (hS : ∀ b, S b → b ≠ pw ∧ ¬ Foot F ls b) : InvW w' pw F nx ls := by
  have hp := h.pw_lt
  refine ⟨by rw [hc.block pw hp (fun hs => (hS pw hs).1 rfl)]; exact h.blk, h.nxt, fun c hc' => ?_, h.tag⟩
  obtain ⟨h1, h2, h3⟩ := h.own c hc'
  refine ⟨ownsRow_chg h1 hc (fun b hb hs => (hS b hs).2 ⟨c, hc', .inl hb⟩), ownsRow_chg h2 hc (fun b hb hs => (hS b hs).2 ⟨c, hc', .inr (.inl hb)⟩), fun o ho => ?_⟩
  obtain ⟨k1, k0, k2⟩ := h3 o ho
  refine ⟨k1, k0, fun g hg => ?_⟩
  obtain ⟨q1, q2, q3⟩ := k2 g hg
  exact ⟨q1, Nat.lt_of_lt_of_le q2 hc.size, by rw [hc.block g q2 (fun hs => (hS g hs).2 ⟨c, hc', .inr (.inr ⟨o, ho, hg⟩)⟩)]; exact q3⟩
theorem InvW.below {w w' : World} {pw : Nat} {F : Nat → Value} {nx : Int} {ls : Nat → List Ow} (h : InvW w pw F nx ls) (hb : Below w.heap.size w w') : InvW w' pw F nx ls :=
  h.chg (S := fun _ => False) (Chg.of_below hb) (fun _ hs => hs.elim)
end Go.Proofs.YtchideljndagjabGreat
namespace Go.Proofs.YtchideljndagjabGreat
open Go.RowKit
set_option linter.unusedVariables false

section
variable {w w1 wr w3 w5 : World} {pw : Nat} {F : Nat → Value} {nx : Int} {ls : Nat → List Ow} {o : Ow}

end
end Go.Proofs.YtchideljndagjabGreat
namespace Go.Proofs.YtchideljndagjabGreat
open Go.ChangeShapes Go.WideShapes Go.ChangeAt Go.RowKit
set_option linter.unusedVariables false
end Go.Proofs.YtchideljndagjabGreat
namespace Go.Proofs.YtchideljndagjabGreat
open Go.ChangeShapes Go.WideShapes Go.ChangeAt Go.RowKit
end Go.Proofs.YtchideljndagjabGreat
namespace Go.Proofs.YtchideljndagjabGreat
open Go.ChangeShapes Go.WideShapes Go.ChangeAt Go.RowKit
end Go.Proofs.YtchideljndagjabGreat
