/- One list more, step by step: what holds in the worlds on the way. -/
import Derived.Test.YtchideljndagjaaGreatInv
namespace Go.Proofs.YtchideljndagjaaGreat
open Go.RowKit
set_option linter.unusedVariables false

section
variable {w w1 wr w3 w5 : World} {pw : Nat} {F : Nat → Value} {nx : Int} {ls : Nat → List Ow} {o : Ow}

theorem own_mid1 (h : InvW w pw F nx ls) (c : Nat) (hc : c < 6) (k1 : w1 = w.setCell ⟨pw, 15, none⟩ (.int .i64 (nx + 1))) (k2 : Chg (fun b => o.1 = some b) w1 wr)
    (hg : ∀ g, o.1 = some g → ¬ Foot F ls g ∧ pw < g) :
    wr.heap[pw]? = some (.cells (fArr (upd F 15 (.int .i64 (nx + 1)))) 37 (0, 0)) ∧ wr.ownsRow (pw + 1) (cat c).s 1 (F (cat c).fi) (ls c).length ((ls c).map owVal) ∧
      wr.ownsRow (pw + 1) 3 1 (F (cat c).fm) (ls c).length ((ls c).map fun o => Value.int .i64 o.2.2) ∧ w.heap.size ≤ wr.heap.size ∧ Chg (fun b => b = pw ∨ o.1 = some b) w wr := by
  have hp := h.pw_lt
  have s1 : w1.heap.size = w.heap.size := by rw [k1]; simp [World.setCell]
  have c1 : Chg (fun b => b = pw) w w1 := by rw [k1]; exact Chg.setCell w ⟨pw, 15, none⟩ _
  have c2 : Chg (fun b => b = pw ∨ o.1 = some b) w wr := (c1.mono (fun b e _ => .inl e)).trans k2 (fun x e _ => .inr e)
  have hn : ∀ b, Foot F ls b → ¬ (b = pw ∨ o.1 = some b) := by
    rintro b hf (e | e)
    · have := h.foot_lt hf; omega
    · exact (hg b e).1 hf
  refine ⟨?_, ownsRow_chg (h.own c hc).1 c2 (fun b hb => hn b ⟨c, hc, .inl hb⟩), ownsRow_chg (h.own c hc).2.1 c2 (fun b hb => hn b ⟨c, hc, .inr (.inl hb)⟩), c2.size, c2⟩
  rw [k2.block pw (by omega) (fun e => by have := (hg pw e).2; omega), k1]
  exact set_f 15 _ (by omega) h.blk

theorem own_mid2 (h : InvW w pw F nx ls) (c : Nat) (hc : c < 6) (hb : wr.heap[pw]? = some (.cells (fArr (upd F 15 (.int .i64 (nx + 1)))) 37 (0, 0)))
    (hm : wr.ownsRow (pw + 1) 3 1 (F (cat c).fm) (ls c).length ((ls c).map fun o => Value.int .i64 o.2.2)) (hi : wr.ownsRow (pw + 1) (cat c).s 1 (F (cat c).fi) (ls c).length ((ls c).map owVal)) {X : Obj} (k3 : (wr.alloc X).grownBy w3 (F (cat c).fi).ownBlock) :
    w3.heap[pw]? = some (.cells (fArr (upd F 15 (.int .i64 (nx + 1)))) 37 (0, 0)) ∧ w3.ownsRow (pw + 1) 3 1 (F (cat c).fm) (ls c).length ((ls c).map fun o => Value.int .i64 o.2.2) ∧ wr.heap.size < w3.heap.size ∧
      Chg (fun b => (F (cat c).fi).ownBlock = some b) wr w3 := by
  have hp : pw < wr.heap.size := by
    by_cases hb' : pw < wr.heap.size
    · exact hb'
    · rw [Array.getElem?_eq_none (by omega)] at hb; cases hb
  have cc : Chg (fun b => (F (cat c).fi).ownBlock = some b) wr w3 := (Chg.alloc _ wr X).trans (Chg.grown k3) (fun x e _ => e)
  refine ⟨?_, ownsRow_chg hm cc (fun b hb e => ?_), ?_, cc⟩
  · rw [cc.block pw hp (fun e => by have := hi.lt pw e; omega)]; exact hb
  · obtain ⟨tg, t1, t2, _⟩ := h.tag
    have e1 := t1 c hc b e
    rw [t2 c hc b hb] at e1
    simp at e1
  · have := k3.size; simp at this; omega

theorem own_mid3 (h : InvW w pw F nx ls) (c : Nat) (hb : w3.heap[pw]? = some (.cells (fArr (upd F 15 (.int .i64 (nx + 1)))) 37 (0, 0)))
    (hm : w3.ownsRow (pw + 1) 3 1 (F (cat c).fm) (ls c).length ((ls c).map fun o => Value.int .i64 o.2.2)) (v' : Value) {Y : Obj} (k5 : ((w3.setCell ⟨pw, (cat c).fi, none⟩ v').alloc Y).grownBy w5 (F (cat c).fm).ownBlock) :
    w5.heap[pw]? = some (.cells (fArr (upd (upd F 15 (.int .i64 (nx + 1))) (cat c).fi v')) 37 (0, 0)) ∧ w3.heap.size < w5.heap.size ∧ Chg (fun b => b = pw ∨ (F (cat c).fm).ownBlock = some b) w3 w5 := by
  have hp : pw < w3.heap.size := by
    by_cases hb' : pw < w3.heap.size
    · exact hb'
    · rw [Array.getElem?_eq_none (by omega)] at hb; cases hb
  have s3 : (w3.setCell ⟨pw, (cat c).fi, none⟩ v').heap.size = w3.heap.size := by simp [World.setCell]
  have b4 := set_f (cat c).fi v' (by have := cat_fi c; omega) hb
  have c4 : Chg (fun b => (F (cat c).fm).ownBlock = some b) (w3.setCell ⟨pw, (cat c).fi, none⟩ v') w5 := (Chg.alloc _ _ Y).trans (Chg.grown k5) (fun x e _ => e)
  refine ⟨?_, ?_, ?_⟩
  · rw [c4.block pw (by omega) (fun e => by have := hm.lt pw e; omega)]; exact b4
  · have := k5.size; simp at this; omega
  · exact ((Chg.setCell w3 ⟨pw, (cat c).fi, none⟩ v').mono (fun b e _ => .inl e)).trans c4 (fun x e _ => .inr e)

theorem own_finish (h : InvW w pw F nx ls) (c : Nat) (hc : c < 6) (v' m' : Value) (k1 : w1 = w.setCell ⟨pw, 15, none⟩ (.int .i64 (nx + 1))) (k2 : Chg (fun b => o.1 = some b) w1 wr)
    {X Y : Obj} (k3 : (wr.alloc X).grownBy w3 (F (cat c).fi).ownBlock) (o3 : w3.ownsRow (pw + 1) (cat c).s 1 v' ((ls c).length + 1) ((ls c).map owVal ++ [owVal o]))
    (v3 : ∀ b, v'.ownBlock = some b → (F (cat c).fi).ownBlock = some b ∨ (wr.alloc X).heap.size ≤ b)
    (k5 : ((w3.setCell ⟨pw, (cat c).fi, none⟩ v').alloc Y).grownBy w5 (F (cat c).fm).ownBlock) (o5 : w5.ownsRow (pw + 1) 3 1 m' ((ls c).length + 1) (((ls c).map fun o => Value.int .i64 o.2.2) ++ [.int .i64 o.2.2]))
    (v5 : ∀ b, m'.ownBlock = some b → (F (cat c).fm).ownBlock = some b ∨ ((w3.setCell ⟨pw, (cat c).fi, none⟩ v').alloc Y).heap.size ≤ b)
    (hg : ∀ g, o.1 = some g → ¬ Foot F ls g ∧ pw < g ∧ g < w.heap.size ∧ wr.heap[g]? = some (.cells (owCells (cat c) o).toArray (cat c).e (0, 0)))
    (hn : o.1 = none → o.2.1 = 0) (hmx : o.2.1 ≤ maxLen) :
    InvW (w5.setCell ⟨pw, (cat c).fm, none⟩ m') pw (updF F c nx v' m') (nx + 1) (updL ls c (ls c ++ [o])) ∧
      (∀ b, b < w.heap.size → o.1 ≠ some b → ¬ Foot F ls b → ¬ Foot (updF F c nx v' m') (updL ls c (ls c ++ [o])) b) ∧ (∀ j, j < 3 → updF F c nx v' m' j = F j) ∧
      Chg (fun b => b = pw ∨ o.1 = some b ∨ Foot F ls b) w (w5.setCell ⟨pw, (cat c).fm, none⟩ m') := by
  obtain ⟨m1, m2, m3, m4, m5⟩ := own_mid1 h c hc k1 k2 (fun g e => ⟨(hg g e).1, (hg g e).2.1⟩)
  obtain ⟨p1, p2, p3, p4⟩ := own_mid2 h c hc m1 m3 m2 k3
  obtain ⟨q1, q2, q3⟩ := own_mid3 h c p1 p2 v' k5
  have a3 := cat_fi c
  have a4 := cat_fm c
  have hp := h.pw_lt
  have s3 : (w3.setCell ⟨pw, (cat c).fi, none⟩ v').heap.size = w3.heap.size := by simp [World.setCell]
  have s6 : (w5.setCell ⟨pw, (cat c).fm, none⟩ m').heap.size = w5.heap.size := by simp [World.setCell]
  have all : Chg (fun b => b = pw ∨ o.1 = some b ∨ (F (cat c).fi).ownBlock = some b ∨ (F (cat c).fm).ownBlock = some b) w (w5.setCell ⟨pw, (cat c).fm, none⟩ m') :=
    ((((m5.mono (S' := fun b => b = pw ∨ o.1 = some b ∨ (F (cat c).fi).ownBlock = some b ∨ (F (cat c).fm).ownBlock = some b) (fun b e _ => by rcases e with e | e; exact .inl e; exact .inr (.inl e))).trans p4
      (fun x e _ => .inr (.inr (.inl e)))).trans q3 (fun x e _ => by rcases e with e | e; exact .inl e; exact .inr (.inr (.inr e))))).trans (Chg.setCell w5 ⟨pw, (cat c).fm, none⟩ m') (fun x e _ => .inl e)
  -- the new rows' blocks are none of the old ones
  have vpw : ∀ b, v'.ownBlock = some b → b ≠ pw := fun b hb e => by have := o3.lt b hb; omega
  have v_m : ∀ b, v'.ownBlock = some b → (F (cat c).fm).ownBlock ≠ some b := by
    intro b hb e
    have hlt := m3.lt b e
    rcases v3 b hb with e' | e'
    · obtain ⟨tg, t1, t2, _⟩ := h.tag
      have e1 := t1 c hc b e'
      rw [t2 c hc b e] at e1
      simp at e1
    · simp at e'; omega
  have o3' : (w5.setCell ⟨pw, (cat c).fm, none⟩ m').ownsRow (pw + 1) (cat c).s 1 v' ((ls c).length + 1) ((ls c).map owVal ++ [owVal o]) :=
    ownsRow_chg o3 (q3.trans (Chg.setCell w5 ⟨pw, (cat c).fm, none⟩ m') (fun x e _ => .inl e)) (fun b hb e => by
      rcases e with e | e
      · exact vpw b hb e
      · exact v_m b hb e)
  have o5' : (w5.setCell ⟨pw, (cat c).fm, none⟩ m').ownsRow (pw + 1) 3 1 m' ((ls c).length + 1) (((ls c).map fun o => Value.int .i64 o.2.2) ++ [.int .i64 o.2.2]) :=
    ownsRow_chg o5 (Chg.setCell w5 ⟨pw, (cat c).fm, none⟩ m') (fun b hb e => by have := o5.lt b hb; simp at e; omega)
  have step := own_step h c hc o v' m' all (by rw [updF]; exact set_f (cat c).fm m' (by omega) q1) o3' o5'
    (fun b hb => by
      rcases v3 b hb with e | e
      · exact .inl e
      · simp at e; exact .inr (by omega))
    (fun b hb => by
      rcases v5 b hb with e | e
      · exact .inl e
      · rw [show ((w3.setCell ⟨pw, (cat c).fi, none⟩ v').alloc Y).heap.size = w3.heap.size + 1 by simp [World.setCell]] at e; exact .inr (by omega))
    (fun g e => by
      obtain ⟨g1, g2, g3, g4⟩ := hg g e
      refine ⟨g1, g2, g3, ?_⟩
      have n1 : (F (cat c).fi).ownBlock ≠ some g := fun e' => g1 ⟨c, hc, .inl e'⟩
      have n2 : (F (cat c).fm).ownBlock ≠ some g := fun e' => g1 ⟨c, hc, .inr (.inl e')⟩
      rw [(Chg.setCell w5 ⟨pw, (cat c).fm, none⟩ m').block g (by omega) (by simp; omega), q3.block g (by omega) (by rintro (e' | e'); omega; exact n2 e'), p4.block g (by omega) n1]
      exact g4) hn hmx
  refine ⟨step.1, step.2, fun j hj => updF_other _ _ _ _ _ (by omega) (by omega) (by omega), all.mono (fun b e _ => ?_)⟩
  rcases e with e | e | e | e
  · exact .inl e
  · exact .inr (.inl e)
  · exact .inr (.inr ⟨c, hc, .inl e⟩)
  · exact .inr (.inr ⟨c, hc, .inr (.inl e)⟩)
end
end Go.Proofs.YtchideljndagjaaGreat
