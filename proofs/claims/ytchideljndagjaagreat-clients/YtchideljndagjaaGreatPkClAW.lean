/- The World of a script and what it owns: six kinds of lists, each with its mark; kept by whatever writes elsewhere; one list more. -/
import Derived.Test.YtchideljndagjaaGreatPkClAB
import Derived.Test.YtchideljndagjaaGreatRows
import Derived.WalkSpells
import Derived.Test.YtchideljndagjaaGreatPkClAF
import Derived.Test.YtchideljndagjaaGreatPkClAL
import Derived.Laws.CopyOwn
import Derived.Laws.MakeOwn
namespace Go.Proofs.YtchideljndagjaaGreat
open Go.RowKit
set_option linter.unusedVariables false

/-- A kind of lists: the World's field of the lists, of the marks; the element's type, the list's; what an element reads as, written full. -/
structure Cat where
  fi : Nat
  fm : Nat
  e : TypeId
  s : TypeId
  pat : Int → List Value

def cat : Nat → Cat
  | 0 => ⟨3, 9, 3, 35, fun m => [.int .i64 m]⟩
  | 1 => ⟨4, 10, 5, 67, fun m => [.int .u8 m]⟩
  | 2 => ⟨5, 11, 142, 38, fun m => [.int .i64 m, .int .i64 m, .int .i64 m, .int .i64 m]⟩
  | 3 => ⟨6, 12, 69, 66, fun m => [.int .i64 m, .int .i64 m, .slice none 0 0]⟩
  | 4 => ⟨7, 13, 74, 43, fun m => [.slice none 0 0, .int .i64 m, .int .i64 m, .int .i64 m, .slice none 0 0, .slice none 0 0]⟩
  | _ => ⟨8, 14, 72, 70, fun m => [.int .i64 m, .int .i64 m]⟩

theorem cat_fi (c : Nat) : 3 ≤ (cat c).fi ∧ (cat c).fi ≤ 8 := by
  unfold cat; split <;> simp
theorem cat_fm (c : Nat) : 9 ≤ (cat c).fm ∧ (cat c).fm ≤ 14 := by
  unfold cat; split <;> simp
theorem cat_fi_inj : ∀ c, c < 6 → ∀ d, d < 6 → (cat c).fi = (cat d).fi → c = d := by decide
theorem cat_fm_inj : ∀ c, c < 6 → ∀ d, d < 6 → (cat c).fm = (cat d).fm → c = d := by decide
theorem cat_s (c : Nat) : (cat c).s ≠ 3 := by
  unfold cat; split <;> decide

/-- A list that is owned: its block (none: a nil list), how many elements, the mark. -/
abbrev Ow := Option Nat × Nat × Int

def owVal (o : Ow) : Value :=
  match o.1 with
  | none => .slice none 0 0
  | some g => .slice (some ⟨g, 0, none⟩) o.2.1 o.2.1

def owCells (c : Cat) (o : Ow) : List Value := (List.replicate o.2.1 (c.pat o.2.2)).flatten

def OwnC (w : World) (pw : Nat) (c : Cat) (vs vm : Value) (l : List Ow) : Prop :=
  w.ownsRow (pw + 1) c.s 1 vs l.length (l.map owVal) ∧ w.ownsRow (pw + 1) 3 1 vm l.length (l.map fun o => Value.int .i64 o.2.2) ∧
    ∀ o ∈ l, (o.1 = none → o.2.1 = 0) ∧ (o.2.1 ≤ maxLen) ∧ ∀ g, o.1 = some g → pw < g ∧ g < w.heap.size ∧ w.heap[g]? = some (.cells (owCells c o).toArray c.e (0, 0))

structure InvW (w : World) (pw : Nat) (F : Nat → Value) (nx : Int) (ls : Nat → List Ow) : Prop where
  blk : w.heap[pw]? = some (.cells (fArr F) 37 (0, 0))
  nxt : F 15 = .int .i64 nx
  own : ∀ c, c < 6 → OwnC w pw (cat c) (F (cat c).fi) (F (cat c).fm) (ls c)
  tag : ∃ tg : Nat → Nat × Nat × Nat, (∀ c, c < 6 → ∀ b, (F (cat c).fi).ownBlock = some b → tg b = (c, 0, 0)) ∧ (∀ c, c < 6 → ∀ b, (F (cat c).fm).ownBlock = some b → tg b = (c, 1, 0)) ∧
    ∀ c, c < 6 → ∀ (i : Nat) o b, (ls c)[i]? = some o → o.1 = some b → tg b = (c, 2, i)

/-- The blocks in which what is owned lies. -/
def Foot (F : Nat → Value) (ls : Nat → List Ow) (b : Nat) : Prop :=
  ∃ c, c < 6 ∧ ((F (cat c).fi).ownBlock = some b ∨ (F (cat c).fm).ownBlock = some b ∨ ∃ o ∈ ls c, o.1 = some b)

theorem InvW.pw_lt {w : World} {pw : Nat} {F : Nat → Value} {nx : Int} {ls : Nat → List Ow} (h : InvW w pw F nx ls) : pw < w.heap.size := by
  have := h.blk
  by_cases hb : pw < w.heap.size
  · exact hb
  · rw [Array.getElem?_eq_none (by omega)] at this; cases this

theorem InvW.foot_lt {w : World} {pw : Nat} {F : Nat → Value} {nx : Int} {ls : Nat → List Ow} (h : InvW w pw F nx ls) {b : Nat} (hf : Foot F ls b) : pw < b ∧ b < w.heap.size := by
  obtain ⟨c, hc, hf⟩ := hf
  obtain ⟨h1, h2, h3⟩ := h.own c hc
  rcases hf with hf | hf | ⟨o, ho, hf⟩
  · have := h1.lt b hf; omega
  · have := h2.lt b hf; omega
  · have := (h3 o ho).2.2 b hf; omega

theorem InvW.chg {S : Nat → Prop} {w w' : World} {pw : Nat} {F : Nat → Value} {nx : Int} {ls : Nat → List Ow} (h : InvW w pw F nx ls) (hc : Chg S w w') (hS : ∀ b, S b → b ≠ pw ∧ ¬ Foot F ls b) : InvW w' pw F nx ls := by
  have hp := h.pw_lt
  refine ⟨by rw [hc.block pw hp (fun hs => (hS pw hs).1 rfl)]; exact h.blk, h.nxt, fun c hc' => ?_, h.tag⟩
  obtain ⟨h1, h2, h3⟩ := h.own c hc'
  refine ⟨ownsRow_chg h1 hc (fun b hb hs => (hS b hs).2 ⟨c, hc', .inl hb⟩), ownsRow_chg h2 hc (fun b hb hs => (hS b hs).2 ⟨c, hc', .inr (.inl hb)⟩), fun o ho => ?_⟩
  obtain ⟨k1, k0, k2⟩ := h3 o ho
  refine ⟨k1, k0, fun g hg => ?_⟩
  obtain ⟨q1, q2, q3⟩ := k2 g hg
  exact ⟨q1, Nat.lt_of_lt_of_le q2 hc.size, by rw [hc.block g q2 (fun hs => (hS g hs).2 ⟨c, hc', .inr (.inr ⟨o, ho, hg⟩)⟩)]; exact q3⟩

theorem InvW.below {w w' : World} {pw : Nat} {F : Nat → Value} {nx : Int} {ls : Nat → List Ow} (h : InvW w pw F nx ls) (hb : Below w.heap.size w w') : InvW w' pw F nx ls :=
  h.chg (S := fun _ => False) (Chg.of_below hb) (fun _ hs => hs.elim)

def updL (ls : Nat → List Ow) (c : Nat) (l : List Ow) : Nat → List Ow := fun d => if d = c then l else ls d

/-- The fields behind one list more. -/
def updF (F : Nat → Value) (c : Nat) (nx : Int) (v' m' : Value) : Nat → Value := upd (upd (upd F 15 (.int .i64 (nx + 1))) (cat c).fi v') (cat c).fm m'

theorem updF_fi (F : Nat → Value) (c : Nat) (nx : Int) (v' m' : Value) : updF F c nx v' m' (cat c).fi = v' := by
  have := cat_fi c; have := cat_fm c
  rw [updF, upd_other _ _ (by omega), upd_same]
theorem updF_fm (F : Nat → Value) (c : Nat) (nx : Int) (v' m' : Value) : updF F c nx v' m' (cat c).fm = m' := upd_same _ _ _
theorem updF_other (F : Nat → Value) (c : Nat) (nx : Int) (v' m' : Value) {j : Nat} (h1 : j ≠ (cat c).fi) (h2 : j ≠ (cat c).fm) (h3 : j ≠ 15) : updF F c nx v' m' j = F j := by
  rw [updF, upd_other _ _ h2, upd_other _ _ h1, upd_other _ _ h3]
theorem updF_nxt (F : Nat → Value) (c : Nat) (nx : Int) (v' m' : Value) : updF F c nx v' m' 15 = .int .i64 (nx + 1) := by
  have := cat_fi c; have := cat_fm c
  rw [updF, upd_other _ _ (by omega), upd_other _ _ (by omega), upd_same]

theorem own_step {w w' : World} {pw : Nat} {F : Nat → Value} {nx : Int} {ls : Nat → List Ow} (h : InvW w pw F nx ls) (c : Nat) (hc : c < 6) (o : Ow) (v' m' : Value)
    (hchg : Chg (fun b => b = pw ∨ o.1 = some b ∨ (F (cat c).fi).ownBlock = some b ∨ (F (cat c).fm).ownBlock = some b) w w')
    (hblk : w'.heap[pw]? = some (.cells (fArr (updF F c nx v' m')) 37 (0, 0)))
    (ho : w'.ownsRow (pw + 1) (cat c).s 1 v' ((ls c).length + 1) ((ls c).map owVal ++ [owVal o]))
    (hm : w'.ownsRow (pw + 1) 3 1 m' ((ls c).length + 1) (((ls c).map fun o => Value.int .i64 o.2.2) ++ [.int .i64 o.2.2]))
    (hv' : ∀ b, v'.ownBlock = some b → (F (cat c).fi).ownBlock = some b ∨ w.heap.size ≤ b)
    (hm' : ∀ b, m'.ownBlock = some b → (F (cat c).fm).ownBlock = some b ∨ w.heap.size ≤ b)
    (hg : ∀ g, o.1 = some g → ¬ Foot F ls g ∧ pw < g ∧ g < w.heap.size ∧ w'.heap[g]? = some (.cells (owCells (cat c) o).toArray (cat c).e (0, 0)))
    (hn : o.1 = none → o.2.1 = 0) (hmx : o.2.1 ≤ maxLen) :
    InvW w' pw (updF F c nx v' m') (nx + 1) (updL ls c (ls c ++ [o])) ∧
      ∀ b, b < w.heap.size → o.1 ≠ some b → ¬ Foot F ls b → ¬ Foot (updF F c nx v' m') (updL ls c (ls c ++ [o])) b := by
  obtain ⟨tg, t1, t2, t3⟩ := h.tag
  have other : ∀ d, d < 6 → d ≠ c → updF F c nx v' m' (cat d).fi = F (cat d).fi ∧ updF F c nx v' m' (cat d).fm = F (cat d).fm ∧ updL ls c (ls c ++ [o]) d = ls d := by
    intro d hd hdc
    have a1 := cat_fi d; have a2 := cat_fm d; have a3 := cat_fi c; have a4 := cat_fm c
    refine ⟨updF_other _ _ _ _ _ (fun e => hdc (cat_fi_inj d hd c hc e)) (by omega) (by omega), updF_other _ _ _ _ _ (by omega) (fun e => hdc (cat_fm_inj d hd c hc e)) (by omega), by simp [updL, hdc]⟩
  have same : updL ls c (ls c ++ [o]) c = ls c ++ [o] := by simp [updL]
  -- no block of another kind is written
  have apart : ∀ d, d < 6 → ∀ b, ((F (cat d).fi).ownBlock = some b ∧ d ≠ c ∨ (F (cat d).fm).ownBlock = some b ∧ d ≠ c ∨ ∃ x ∈ ls d, x.1 = some b) →
      ¬ (b = pw ∨ o.1 = some b ∨ (F (cat c).fi).ownBlock = some b ∨ (F (cat c).fm).ownBlock = some b) := by
    intro d hd b hb
    have hfoot : Foot F ls b := by
      rcases hb with ⟨hb, _⟩ | ⟨hb, _⟩ | hb
      · exact ⟨d, hd, .inl hb⟩
      · exact ⟨d, hd, .inr (.inl hb)⟩
      · exact ⟨d, hd, .inr (.inr hb)⟩
    have hl := h.foot_lt hfoot
    rintro (e | e | e | e)
    · omega
    · exact (hg b e).1 hfoot
    · have e1 := t1 c hc b e
      rcases hb with ⟨hb, hne⟩ | ⟨hb, hne⟩ | ⟨x, hx, hb⟩
      · rw [t1 d hd b hb] at e1; simp at e1; omega
      · rw [t2 d hd b hb] at e1; simp at e1
      · obtain ⟨i, hi⟩ := List.getElem?_of_mem hx
        rw [t3 d hd i x b hi hb] at e1; simp at e1
    · have e1 := t2 c hc b e
      rcases hb with ⟨hb, hne⟩ | ⟨hb, hne⟩ | ⟨x, hx, hb⟩
      · rw [t1 d hd b hb] at e1; simp at e1
      · rw [t2 d hd b hb] at e1; simp at e1; omega
      · obtain ⟨i, hi⟩ := List.getElem?_of_mem hx
        rw [t3 d hd i x b hi hb] at e1; simp at e1
  have keeps : ∀ d, d < 6 → ∀ x ∈ ls d, (x.1 = none → x.2.1 = 0) ∧ (x.2.1 ≤ maxLen) ∧ ∀ g, x.1 = some g → pw < g ∧ g < w'.heap.size ∧ w'.heap[g]? = some (.cells (owCells (cat d) x).toArray (cat d).e (0, 0)) := by
    intro d hd x hx
    obtain ⟨k1, k0, k2⟩ := (h.own d hd).2.2 x hx
    refine ⟨k1, k0, fun g hgx => ?_⟩
    obtain ⟨q1, q2, q3⟩ := k2 g hgx
    exact ⟨q1, Nat.lt_of_lt_of_le q2 hchg.size, by rw [hchg.block g q2 (apart d hd g (.inr (.inr ⟨x, hx, hgx⟩)))]; exact q3⟩
  have vm_ne : ∀ b, v'.ownBlock = some b → m'.ownBlock = some b → False := by
    intro b h1 h2
    rcases ho.2 with ⟨e, _⟩ | ⟨g, cap, cur, e, _, e1, _⟩
    · rw [e] at h1; cases h1
    · rcases hm.2 with ⟨f, _⟩ | ⟨g2, cap2, cur2, f, _, f1, _⟩
      · rw [f] at h2; cases h2
      · rw [e] at h1; rw [f] at h2
        have eg : g = b := by simpa [Value.ownBlock] using h1
        have eg2 : g2 = b := by simpa [Value.ownBlock] using h2
        subst eg; subst eg2
        rw [e1] at f1
        simp at f1
        exact cat_s c f1.2
  refine ⟨⟨hblk, updF_nxt _ _ _ _ _, fun d hd => ?_, ?_⟩, ?_⟩
  · by_cases hdc : d = c
    · subst hdc
      rw [updF_fi, updF_fm, same]
      refine ⟨by simpa using ho, by simpa using hm, fun x hx => ?_⟩
      rcases List.mem_append.1 hx with hx | hx
      · exact keeps d hd x hx
      · simp at hx; subst hx
        exact ⟨hn, hmx, fun g hgx => let ⟨_, q1, q2, q3⟩ := hg g hgx; ⟨q1, Nat.lt_of_lt_of_le q2 hchg.size, q3⟩⟩
    · obtain ⟨e1, e2, e3⟩ := other d hd hdc
      rw [e1, e2, e3]
      obtain ⟨h1, h2, _⟩ := h.own d hd
      exact ⟨ownsRow_chg h1 hchg (fun b hb => apart d hd b (.inl ⟨hb, hdc⟩)), ownsRow_chg h2 hchg (fun b hb => apart d hd b (.inr (.inl ⟨hb, hdc⟩))), keeps d hd⟩
  · -- the tags
    classical
    refine ⟨fun b => if v'.ownBlock = some b then (c, 0, 0) else if m'.ownBlock = some b then (c, 1, 0) else if o.1 = some b then (c, 2, (ls c).length) else tg b, ?_, ?_, ?_⟩
    · intro d hd b hb
      by_cases hdc : d = c
      · subst hdc; rw [updF_fi] at hb; simp [hb]
      · rw [(other d hd hdc).1] at hb
        have hfoot : Foot F ls b := ⟨d, hd, .inl hb⟩
        have hl := h.foot_lt hfoot
        have hna := apart d hd b (.inl ⟨hb, hdc⟩)
        have n1 : v'.ownBlock ≠ some b := fun e => by
          rcases hv' b e with e | e
          · exact hna (.inr (.inr (.inl e)))
          · omega
        have n2 : m'.ownBlock ≠ some b := fun e => by
          rcases hm' b e with e | e
          · exact hna (.inr (.inr (.inr e)))
          · omega
        have n3 : o.1 ≠ some b := fun e => hna (.inr (.inl e))
        simp only [n1, n2, n3, if_false]; exact t1 d hd b hb
    · intro d hd b hb
      by_cases hdc : d = c
      · subst hdc; rw [updF_fm] at hb
        have n1 : v'.ownBlock ≠ some b := fun e => vm_ne b e hb
        simp [hb, n1]
      · rw [(other d hd hdc).2.1] at hb
        have hfoot : Foot F ls b := ⟨d, hd, .inr (.inl hb)⟩
        have hl := h.foot_lt hfoot
        have hna := apart d hd b (.inr (.inl ⟨hb, hdc⟩))
        have n1 : v'.ownBlock ≠ some b := fun e => by
          rcases hv' b e with e | e
          · exact hna (.inr (.inr (.inl e)))
          · omega
        have n2 : m'.ownBlock ≠ some b := fun e => by
          rcases hm' b e with e | e
          · exact hna (.inr (.inr (.inr e)))
          · omega
        have n3 : o.1 ≠ some b := fun e => hna (.inr (.inl e))
        simp only [n1, n2, n3, if_false]; exact t2 d hd b hb
    · intro d hd i x b hi hb
      have old : x ∈ ls d → (ls d)[i]? = some x → (if v'.ownBlock = some b then (c, 0, 0) else if m'.ownBlock = some b then (c, 1, 0) else if o.1 = some b then (c, 2, (ls c).length) else tg b) = (d, 2, i) := by
        intro hx hi'
        have hfoot : Foot F ls b := ⟨d, hd, .inr (.inr ⟨x, hx, hb⟩)⟩
        have hl := h.foot_lt hfoot
        have hna := apart d hd b (.inr (.inr ⟨x, hx, hb⟩))
        have n1 : v'.ownBlock ≠ some b := fun e => by
          rcases hv' b e with e | e
          · exact hna (.inr (.inr (.inl e)))
          · omega
        have n2 : m'.ownBlock ≠ some b := fun e => by
          rcases hm' b e with e | e
          · exact hna (.inr (.inr (.inr e)))
          · omega
        have n3 : o.1 ≠ some b := fun e => hna (.inr (.inl e))
        simp only [n1, n2, n3, if_false]; exact t3 d hd i x b hi' hb
      by_cases hdc : d = c
      · subst hdc; rw [same] at hi
        by_cases hil : i < (ls d).length
        · rw [List.getElem?_append_left hil] at hi
          exact old (List.mem_of_getElem? hi) hi
        · rw [List.getElem?_append_right (by omega)] at hi
          have hi0 : i - (ls d).length = 0 := by
            rcases Nat.eq_zero_or_pos (i - (ls d).length) with e | e
            · exact e
            · rw [List.getElem?_eq_none (by simp; omega)] at hi; cases hi
          rw [hi0] at hi; simp at hi; subst hi
          have hgb := hg b hb
          have n1 : v'.ownBlock ≠ some b := fun e => by
            rcases hv' b e with e | e
            · exact hgb.1 ⟨d, hd, .inl e⟩
            · omega
          have n2 : m'.ownBlock ≠ some b := fun e => by
            rcases hm' b e with e | e
            · exact hgb.1 ⟨d, hd, .inr (.inl e)⟩
            · omega
          simp only [n1, n2, hb, if_false, if_true]
          rw [show i = (ls d).length by omega]
      · rw [(other d hd hdc).2.2] at hi
        exact old (List.mem_of_getElem? hi) hi
  · intro b hb hob hnf
    rintro ⟨d, hd, hf⟩
    by_cases hdc : d = c
    · subst hdc
      rw [updF_fi, updF_fm, same] at hf
      rcases hf with hf | hf | ⟨x, hx, hf⟩
      · rcases hv' b hf with e | e
        · exact hnf ⟨d, hd, .inl e⟩
        · omega
      · rcases hm' b hf with e | e
        · exact hnf ⟨d, hd, .inr (.inl e)⟩
        · omega
      · rcases List.mem_append.1 hx with hx | hx
        · exact hnf ⟨d, hd, .inr (.inr ⟨x, hx, hf⟩)⟩
        · simp at hx; subst hx; exact hob hf
    · rw [(other d hd hdc).1, (other d hd hdc).2.1, (other d hd hdc).2.2] at hf
      exact hnf ⟨d, hd, hf⟩

end Go.Proofs.YtchideljndagjaaGreat

namespace Go.Proofs.YtchideljndagjaaGreat
open Go.RowKit
set_option linter.unusedVariables false

section
variable {w w1 wr w3 w5 : World} {pw : Nat} {F : Nat → Value} {nx : Int} {ls : Nat → List Ow} {o : Ow}

theorem own_mid1 (h : InvW w pw F nx ls) (c : Nat) (hc : c < 6) (k1 : w1 = w.setCell ⟨pw, 15, none⟩ (.int .i64 (nx + 1))) (k2 : Chg (fun b => o.1 = some b) w1 wr)
    (hg : ∀ g, o.1 = some g → ¬ Foot F ls g ∧ pw < g) :
    wr.heap[pw]? = some (.cells (fArr (upd F 15 (.int .i64 (nx + 1)))) 37 (0, 0)) ∧ wr.ownsRow (pw + 1) (cat c).s 1 (F (cat c).fi) (ls c).length ((ls c).map owVal) ∧
      wr.ownsRow (pw + 1) 3 1 (F (cat c).fm) (ls c).length ((ls c).map fun o => Value.int .i64 o.2.2) ∧ w.heap.size ≤ wr.heap.size ∧ Chg (fun b => b = pw ∨ o.1 = some b) w wr := by
  have hp := h.pw_lt
  have s1 : w1.heap.size = w.heap.size := by rw [k1]; simp [World.setCell]
  have c1 : Chg (fun b => b = pw) w w1 := by rw [k1]; exact Chg.setCell w ⟨pw, 15, none⟩ _
  have c2 : Chg (fun b => b = pw ∨ o.1 = some b) w wr := (c1.mono (fun b e _ => .inl e)).trans k2 (fun x e _ => .inr e)
  have hn : ∀ b, Foot F ls b → ¬ (b = pw ∨ o.1 = some b) := by
    rintro b hf (e | e)
    · have := h.foot_lt hf; omega
    · exact (hg b e).1 hf
  refine ⟨?_, ownsRow_chg (h.own c hc).1 c2 (fun b hb => hn b ⟨c, hc, .inl hb⟩), ownsRow_chg (h.own c hc).2.1 c2 (fun b hb => hn b ⟨c, hc, .inr (.inl hb)⟩), c2.size, c2⟩
  rw [k2.block pw (by omega) (fun e => by have := (hg pw e).2; omega), k1]
  exact set_f 15 _ (by omega) h.blk

theorem own_mid2 (h : InvW w pw F nx ls) (c : Nat) (hc : c < 6) (hb : wr.heap[pw]? = some (.cells (fArr (upd F 15 (.int .i64 (nx + 1)))) 37 (0, 0)))
    (hm : wr.ownsRow (pw + 1) 3 1 (F (cat c).fm) (ls c).length ((ls c).map fun o => Value.int .i64 o.2.2)) (hi : wr.ownsRow (pw + 1) (cat c).s 1 (F (cat c).fi) (ls c).length ((ls c).map owVal)) {X : Obj} (k3 : (wr.alloc X).grownBy w3 (F (cat c).fi).ownBlock) :
    w3.heap[pw]? = some (.cells (fArr (upd F 15 (.int .i64 (nx + 1)))) 37 (0, 0)) ∧ w3.ownsRow (pw + 1) 3 1 (F (cat c).fm) (ls c).length ((ls c).map fun o => Value.int .i64 o.2.2) ∧ wr.heap.size < w3.heap.size ∧
      Chg (fun b => (F (cat c).fi).ownBlock = some b) wr w3 := by
  have hp : pw < wr.heap.size := by
    by_cases hb' : pw < wr.heap.size
    · exact hb'
    · rw [Array.getElem?_eq_none (by omega)] at hb; cases hb
  have cc : Chg (fun b => (F (cat c).fi).ownBlock = some b) wr w3 := (Chg.alloc _ wr X).trans (Chg.grown k3) (fun x e _ => e)
  refine ⟨?_, ownsRow_chg hm cc (fun b hb e => ?_), ?_, cc⟩
  · rw [cc.block pw hp (fun e => by have := hi.lt pw e; omega)]; exact hb
  · obtain ⟨tg, t1, t2, _⟩ := h.tag
    have e1 := t1 c hc b e
    rw [t2 c hc b hb] at e1
    simp at e1
  · have := k3.size; simp at this; omega

theorem own_mid3 (h : InvW w pw F nx ls) (c : Nat) (hb : w3.heap[pw]? = some (.cells (fArr (upd F 15 (.int .i64 (nx + 1)))) 37 (0, 0)))
    (hm : w3.ownsRow (pw + 1) 3 1 (F (cat c).fm) (ls c).length ((ls c).map fun o => Value.int .i64 o.2.2)) (v' : Value) {Y : Obj} (k5 : ((w3.setCell ⟨pw, (cat c).fi, none⟩ v').alloc Y).grownBy w5 (F (cat c).fm).ownBlock) :
    w5.heap[pw]? = some (.cells (fArr (upd (upd F 15 (.int .i64 (nx + 1))) (cat c).fi v')) 37 (0, 0)) ∧ w3.heap.size < w5.heap.size ∧ Chg (fun b => b = pw ∨ (F (cat c).fm).ownBlock = some b) w3 w5 := by
  have hp : pw < w3.heap.size := by
    by_cases hb' : pw < w3.heap.size
    · exact hb'
    · rw [Array.getElem?_eq_none (by omega)] at hb; cases hb
  have s3 : (w3.setCell ⟨pw, (cat c).fi, none⟩ v').heap.size = w3.heap.size := by simp [World.setCell]
  have b4 := set_f (cat c).fi v' (by have := cat_fi c; omega) hb
  have c4 : Chg (fun b => (F (cat c).fm).ownBlock = some b) (w3.setCell ⟨pw, (cat c).fi, none⟩ v') w5 := (Chg.alloc _ _ Y).trans (Chg.grown k5) (fun x e _ => e)
  refine ⟨?_, ?_, ?_⟩
  · rw [c4.block pw (by omega) (fun e => by have := hm.lt pw e; omega)]; exact b4
  · have := k5.size; simp at this; omega
  · exact ((Chg.setCell w3 ⟨pw, (cat c).fi, none⟩ v').mono (fun b e _ => .inl e)).trans c4 (fun x e _ => .inr e)

theorem own_finish (h : InvW w pw F nx ls) (c : Nat) (hc : c < 6) (v' m' : Value) (k1 : w1 = w.setCell ⟨pw, 15, none⟩ (.int .i64 (nx + 1))) (k2 : Chg (fun b => o.1 = some b) w1 wr)
    {X Y : Obj} (k3 : (wr.alloc X).grownBy w3 (F (cat c).fi).ownBlock) (o3 : w3.ownsRow (pw + 1) (cat c).s 1 v' ((ls c).length + 1) ((ls c).map owVal ++ [owVal o]))
    (v3 : ∀ b, v'.ownBlock = some b → (F (cat c).fi).ownBlock = some b ∨ (wr.alloc X).heap.size ≤ b)
    (k5 : ((w3.setCell ⟨pw, (cat c).fi, none⟩ v').alloc Y).grownBy w5 (F (cat c).fm).ownBlock) (o5 : w5.ownsRow (pw + 1) 3 1 m' ((ls c).length + 1) (((ls c).map fun o => Value.int .i64 o.2.2) ++ [.int .i64 o.2.2]))
    (v5 : ∀ b, m'.ownBlock = some b → (F (cat c).fm).ownBlock = some b ∨ ((w3.setCell ⟨pw, (cat c).fi, none⟩ v').alloc Y).heap.size ≤ b)
    (hg : ∀ g, o.1 = some g → ¬ Foot F ls g ∧ pw < g ∧ g < w.heap.size ∧ wr.heap[g]? = some (.cells (owCells (cat c) o).toArray (cat c).e (0, 0)))
    (hn : o.1 = none → o.2.1 = 0) (hmx : o.2.1 ≤ maxLen) :
    InvW (w5.setCell ⟨pw, (cat c).fm, none⟩ m') pw (updF F c nx v' m') (nx + 1) (updL ls c (ls c ++ [o])) ∧
      (∀ b, b < w.heap.size → o.1 ≠ some b → ¬ Foot F ls b → ¬ Foot (updF F c nx v' m') (updL ls c (ls c ++ [o])) b) ∧ (∀ j, j < 3 → updF F c nx v' m' j = F j) ∧
      Chg (fun b => b = pw ∨ o.1 = some b ∨ Foot F ls b) w (w5.setCell ⟨pw, (cat c).fm, none⟩ m') := by
  obtain ⟨m1, m2, m3, m4, m5⟩ := own_mid1 h c hc k1 k2 (fun g e => ⟨(hg g e).1, (hg g e).2.1⟩)
  obtain ⟨p1, p2, p3, p4⟩ := own_mid2 h c hc m1 m3 m2 k3
  obtain ⟨q1, q2, q3⟩ := own_mid3 h c p1 p2 v' k5
  have a3 := cat_fi c
  have a4 := cat_fm c
  have hp := h.pw_lt
  have s3 : (w3.setCell ⟨pw, (cat c).fi, none⟩ v').heap.size = w3.heap.size := by simp [World.setCell]
  have s6 : (w5.setCell ⟨pw, (cat c).fm, none⟩ m').heap.size = w5.heap.size := by simp [World.setCell]
  have all : Chg (fun b => b = pw ∨ o.1 = some b ∨ (F (cat c).fi).ownBlock = some b ∨ (F (cat c).fm).ownBlock = some b) w (w5.setCell ⟨pw, (cat c).fm, none⟩ m') :=
    ((((m5.mono (S' := fun b => b = pw ∨ o.1 = some b ∨ (F (cat c).fi).ownBlock = some b ∨ (F (cat c).fm).ownBlock = some b) (fun b e _ => by rcases e with e | e; exact .inl e; exact .inr (.inl e))).trans p4
      (fun x e _ => .inr (.inr (.inl e)))).trans q3 (fun x e _ => by rcases e with e | e; exact .inl e; exact .inr (.inr (.inr e))))).trans (Chg.setCell w5 ⟨pw, (cat c).fm, none⟩ m') (fun x e _ => .inl e)
  -- the new rows' blocks are none of the old ones
  have vpw : ∀ b, v'.ownBlock = some b → b ≠ pw := fun b hb e => by have := o3.lt b hb; omega
  have v_m : ∀ b, v'.ownBlock = some b → (F (cat c).fm).ownBlock ≠ some b := by
    intro b hb e
    have hlt := m3.lt b e
    rcases v3 b hb with e' | e'
    · obtain ⟨tg, t1, t2, _⟩ := h.tag
      have e1 := t1 c hc b e'
      rw [t2 c hc b e] at e1
      simp at e1
    · simp at e'; omega
  have o3' : (w5.setCell ⟨pw, (cat c).fm, none⟩ m').ownsRow (pw + 1) (cat c).s 1 v' ((ls c).length + 1) ((ls c).map owVal ++ [owVal o]) :=
    ownsRow_chg o3 (q3.trans (Chg.setCell w5 ⟨pw, (cat c).fm, none⟩ m') (fun x e _ => .inl e)) (fun b hb e => by
      rcases e with e | e
      · exact vpw b hb e
      · exact v_m b hb e)
  have o5' : (w5.setCell ⟨pw, (cat c).fm, none⟩ m').ownsRow (pw + 1) 3 1 m' ((ls c).length + 1) (((ls c).map fun o => Value.int .i64 o.2.2) ++ [.int .i64 o.2.2]) :=
    ownsRow_chg o5 (Chg.setCell w5 ⟨pw, (cat c).fm, none⟩ m') (fun b hb e => by have := o5.lt b hb; simp at e; omega)
  have step := own_step h c hc o v' m' all (by rw [updF]; exact set_f (cat c).fm m' (by omega) q1) o3' o5'
    (fun b hb => by
      rcases v3 b hb with e | e
      · exact .inl e
      · simp at e; exact .inr (by omega))
    (fun b hb => by
      rcases v5 b hb with e | e
      · exact .inl e
      · rw [show ((w3.setCell ⟨pw, (cat c).fi, none⟩ v').alloc Y).heap.size = w3.heap.size + 1 by simp [World.setCell]] at e; exact .inr (by omega))
    (fun g e => by
      obtain ⟨g1, g2, g3, g4⟩ := hg g e
      refine ⟨g1, g2, g3, ?_⟩
      have n1 : (F (cat c).fi).ownBlock ≠ some g := fun e' => g1 ⟨c, hc, .inl e'⟩
      have n2 : (F (cat c).fm).ownBlock ≠ some g := fun e' => g1 ⟨c, hc, .inr (.inl e')⟩
      rw [(Chg.setCell w5 ⟨pw, (cat c).fm, none⟩ m').block g (by omega) (by simp; omega), q3.block g (by omega) (by rintro (e' | e'); omega; exact n2 e'), p4.block g (by omega) n1]
      exact g4) hn hmx
  refine ⟨step.1, step.2, fun j hj => updF_other _ _ _ _ _ (by omega) (by omega) (by omega), all.mono (fun b e _ => ?_)⟩
  rcases e with e | e | e | e
  · exact .inl e
  · exact .inr (.inl e)
  · exact .inr (.inr ⟨c, hc, .inl e⟩)
  · exact .inr (.inr ⟨c, hc, .inr (.inl e)⟩)
end
end Go.Proofs.YtchideljndagjaaGreat

namespace Go.Proofs.YtchideljndagjaaGreat
open Go.ChangeShapes Go.WideShapes Go.ChangeAt Go.RowKit
set_option linter.unusedVariables false

theorem infoI : (Tryz.prog.info? 3).map (fun i => (i.zero, i.size, i.bytes)) = some (some (.int .i64 0), 1, 8) := by kernel_rfl
theorem infoL : (Tryz.prog.info? 35).map (fun i => (i.zero, i.size, i.bytes)) = some (some (.slice none 0 0), 1, 24) := by kernel_rfl

/-- The mark that comes next. -/
def mkN (nx : Int) : Int := (nx + 1) % 250 + 1
theorem mkN_lo (nx : Int) : 1 ≤ mkN nx := by unfold mkN; omega
theorem mkN_hi (nx : Int) : mkN nx ≤ 250 := by unfold mkN; omega

theorem mark_calls (pw : Nat) (F : Nat → Value) (nx : Int) (ls : Nat → List Ow) (w : World) (h : InvW w pw F nx ls) (h0 : 0 ≤ nx) (h1 : nx ≤ 1000000000000000000) :
    Calls Tryz.prog 91 #[.pointer (some ⟨pw, 0, none⟩)] w fun e w' => e = .returned (.int .i64 (mkN nx)) ∧ w' = w.setCell ⟨pw, 15, none⟩ (.int .i64 (nx + 1)) := by
  obtain ⟨c1, c2⟩ := cell_f h.blk 15 (by omega)
  rw [h.nxt] at c1
  clear h
  go_enter Tryz.func91, Tryz.ntmps91
  go_wp2
  go_ret
  exact ⟨rfl, rfl⟩

theorem own_one {v : Value} {N g n c : Nat} (h : v.ownBlock = some g ∨ N ≤ g) : ∀ b, (Value.slice (some ⟨g, 0, none⟩) n c).ownBlock = some b → v.ownBlock = some b ∨ N ≤ b := by
  intro b hb
  simp [Value.ownBlock] at hb
  subst hb
  exact h

/-- A block whose first k cells have been written full. -/
def Filled (w : World) (g : Nat) (e : TypeId) (n : Nat) (u : Value) (k : Nat) (wr : World) : Prop :=
  Chg (fun b => b = g) w wr ∧ ∃ cur : Array Value, wr.heap[g]? = some (.cells cur e (0, 0)) ∧ cur.size = n ∧ ∀ j, j < k → cur[j]? = some u

theorem filled_start {w : World} {g : Nat} {e : TypeId} {n : Nat} {u : Value} {cur : Array Value} (h : w.heap[g]? = some (.cells cur e (0, 0))) (hs : cur.size = n) : Filled w g e n u 0 w :=
  ⟨Chg.refl _ _, cur, h, hs, fun j hj => absurd hj (by omega)⟩

theorem filled_cell {w wr : World} {g : Nat} {e : TypeId} {n : Nat} {u : Value} {k : Nat} (h : Filled w g e n u k wr) (j : Nat) (hj : j < n) : (∃ v, wr.cell? ⟨g, j, none⟩ = some v) ∧ wr.frozen? ⟨g, j, none⟩ = false := by
  obtain ⟨_, cur, h1, h2, _⟩ := h
  refine ⟨⟨cur[j]'(by omega), ?_⟩, by simp [World.frozen?, h1]⟩
  simp only [World.cell?, h1]
  simp [h2, hj]

theorem filled_next {w wr : World} {g : Nat} {e : TypeId} {n : Nat} {u : Value} {k : Nat} (h : Filled w g e n u k wr) (hk : k < n) : Filled w g e n u (k + 1) (wr.setCell ⟨g, k, none⟩ u) := by
  obtain ⟨h0, cur, h1, h2, h3⟩ := h
  refine ⟨h0.trans (Chg.setCell wr ⟨g, k, none⟩ u) (fun x hx _ => hx), cur.setIfInBounds k u, heap_setCell_same wr g k cur e u h1, by simp [h2], fun j hj => ?_⟩
  rw [Array.getElem?_setIfInBounds]
  by_cases e : k = j
  · subst e; simp; omega
  · rw [if_neg e]; exact h3 j (by omega)

theorem owCells_ints (b : Option Nat) (n : Nat) (m : Int) : owCells (cat 0) (b, n, m) = List.replicate n (.int .i64 m) := by
  show (List.replicate n [Value.int .i64 m]).flatten = _
  induction n with
  | zero => rfl
  | succ n ih => rw [List.replicate_succ, List.flatten_cons, ih, List.replicate_succ]; rfl

theorem filled_end {w wr : World} {g : Nat} {e : TypeId} {n : Nat} {m : Int} (h : Filled w g e n (.int .i64 m) n wr) : wr.heap[g]? = some (.cells (owCells (cat 0) (some g, n, m)).toArray e (0, 0)) := by
  obtain ⟨_, cur, h1, h2, h3⟩ := h
  rw [h1]
  have e1 := owCells_ints (some g) n m
  rw [e1]
  congr 2
  apply Array.ext_getElem?
  intro i
  by_cases hi : i < n
  · rw [h3 i hi]; simp [hi]
  · rw [Array.getElem?_eq_none (by omega), Array.getElem?_eq_none (by simp; omega)]

set_option maxHeartbeats 1000000 in
set_option maxRecDepth 100000 in
theorem ownInts_calls (pw : Nat) (F : Nat → Value) (nx : Int) (ls : Nat → List Ow) (g n cap : Nat) (cur : Array Value) (w : World) (h : InvW w pw F nx ls) (h0 : 0 ≤ nx) (h1 : nx ≤ 1000000000000000000)
    (hlen : ((ls 0).length + 1) * 24 ≤ 140737488355328) (hg : w.heap[g]? = some (.cells cur 3 (0, 0))) (hcs : cur.size = cap) (hnc : n ≤ cap) (hcm : cap ≤ maxLen) (hpg : pw < g) (hfoot : ¬ Foot F ls g) :
    Calls Tryz.prog 33 #[.pointer (some ⟨pw, 0, none⟩), .slice (some ⟨g, 0, none⟩) n cap] w fun e w' => e = .returned (.tuple #[]) ∧ ∃ F', InvW w' pw F' (nx + 1) (updL ls 0 (ls 0 ++ [(some g, cap, mkN nx)])) ∧
      (∀ b, b < w.heap.size → g ≠ b → ¬ Foot F ls b → ¬ Foot F' (updL ls 0 (ls 0 ++ [(some g, cap, mkN nx)])) b) ∧ (∀ j, j < 3 → F' j = F j) ∧
      Chg (fun b => b = pw ∨ g = b ∨ Foot F ls b) w w' := by
  obtain ⟨i0, hi, hz0, hz1, hz2⟩ := info_parts infoI
  obtain ⟨i1, hi1, hy0, hy1, hy2⟩ := info_parts infoL
  unfold maxLen at hcm
  have m1 := mkN_lo nx
  have m2 := mkN_hi nx
  have hgl : g < w.heap.size := by
    by_cases hb : g < w.heap.size
    · exact hb
    · rw [Array.getElem?_eq_none (by omega)] at hg; cases hg
  have hpl := h.pw_lt
  have HI := hideG h
  have HF := hideG hfoot
  have HG := hideG hg
  have HC := hideG hcs
  clear h hfoot hg hcs
  go_enter Tryz.func33, Tryz.ntmps33
  go_wp2_with fail
  refine (mark_calls pw F nx ls _ HI.out h0 h1).mono ?_
  rintro e w1 ⟨rfl, hw1⟩
  have g1 : w1.heap[g]? = some (.cells cur 3 (0, 0)) := by rw [hw1, Below.heap_setCell _ _ _ _ (by simp; omega)]; exact HG.out
  have W1 := hideG hw1
  have G1 := hideG g1
  clear hw1 g1
  generalize hm : mkN nx = m at *
  have HM := hideG hm
  clear hm
  go_wp2_with fail
  go_loopw [6] (fun i wr => ∃ k : Nat, k ≤ cap ∧ i = .int .i64 k ∧ Filled w1 g 3 cap (.int .i64 m) k wr) (fun i _ => cap - (intOf i).toNat)
  case atStart => exact ⟨0, by omega, rfl, filled_start G1.out HC.out⟩
  case round =>
    obtain ⟨k, hk, rfl, hfill⟩ := hrel
    have FI := hideG hfill
    by_cases hlt : k < cap
    · obtain ⟨⟨v, c1⟩, c2⟩ := filled_cell hfill k hlt
      clear hfill
      go_wp2_with fail
      go_roundw
      case rel => exact ⟨k + 1, by omega, by go_num, filled_next FI.out hlt⟩
      case measure => simp [intOf]; omega
    · have ek : k = cap := by omega
      subst ek
      clear hfill
      have k2 := FI.out.1.mono (S' := fun b => ((some g, k, m) : Ow).1 = some b) (fun b e _ => by rw [e])
      have K2 := hideG k2
      obtain ⟨a1, a2, a3, a4, a5⟩ := own_mid1 HI.out 0 (by omega) W1.out k2 (fun x e => by cases e; exact ⟨HF.out, hpg⟩)
      obtain ⟨c3, c3f⟩ := cell_f a1 3 (by omega)
      rw [upd_other _ _ (by omega)] at c3
      have A1 := hideG a1
      have A2 := hideG a2
      have A3 := hideG a3
      clear a1 a2 a3 a5 k2
      go_wp2_with (at_builtin; refine wpList_append_one _ rfl _ _ 29 rfl (pw + 1) 35 i1 (.slice none 0 0) 24 Tryz.underlying29 hi1 hy0 hy1 hy2 rfl (F 3) (ls 0).length ((ls 0).map owVal) rfl (A2.out.alloc _) ⟨wr.heap.size, 0, none⟩ 1 (.slice (some ⟨g, 0, none⟩) k k) rfl (by simp [go_sem]) rfl (by unfold maxLen; omega) hlen (by simp; omega) ?_)
      intro g3 cap3 w3 ho3 hg3 hv3
      obtain ⟨p1, p2, p3, p4⟩ := own_mid2 HI.out 0 (by omega) A1.out A3.out A2.out hg3
      obtain ⟨c9, c9f⟩ := cell_f p1 9 (by omega)
      rw [upd_other _ _ (by omega)] at c9
      obtain ⟨d3, d3f⟩ := cell_f p1 3 (by omega)
      rw [upd_other _ _ (by omega)] at d3
      have O3 := hideG ho3
      have K3 := hideG hg3
      have V3 := hideG (own_one (n := (ls 0).length + 1) (c := cap3) hv3)
      have P1 := hideG p1
      have P2 := hideG p2
      clear ho3 hg3 hv3 p1 p2 p4 c3 c3f
      go_wp2_with (at_builtin; (refine wpList_append_one _ rfl _ _ 35 rfl (pw + 1) 3 i0 (.int .i64 0) 8 Tryz.underlying35 hi hz0 hz1 hz2 rfl (F 9) (ls 0).length ((ls 0).map fun o => Value.int .i64 o.2.2) rfl ((ownsRow_setCell_below P2.out (by simp) _).alloc _) ⟨w3.heap.size, 0, none⟩ 1 (.int .i64 m) rfl (by simp [go_sem]) rfl (by unfold maxLen; omega) (by omega) (by simp [World.setCell]; omega) ?_))
      intro g5 cap5 w5 ho5 hg5 hv5
      obtain ⟨q1, q2, q3⟩ := own_mid3 HI.out 0 P1.out P2.out (.slice (some ⟨g3, 0, none⟩) ((ls 0).length + 1) cap3) hg5
      obtain ⟨f9, f9f⟩ := cell_f q1 9 (by omega)
      have O5 := hideG ho5
      have K5 := hideG hg5
      have V5 := hideG (own_one (n := (ls 0).length + 1) (c := cap5) hv5)
      clear ho5 hg5 hv5 q1 q3 d3 d3f c9 c9f
      go_wp2_with fail
      go_end0
      have R := own_finish HI.out 0 (by omega) (o := (some g, k, m)) (.slice (some ⟨g3, 0, none⟩) ((ls 0).length + 1) cap3) (.slice (some ⟨g5, 0, none⟩) ((ls 0).length + 1) cap5) W1.out K2.out K3.out O3.out (fun b hb => by simpa [cat] using V3.out b hb) K5.out O5.out (fun b hb => by simpa [World.setCell, cat] using V5.out b hb) (fun x e => by cases e; exact ⟨HF.out, hpg, hgl, filled_end FI.out⟩) (fun e => by cases e) (by first | exact Nat.zero_le _ | (show k ≤ maxLen; unfold maxLen; omega))
      rw [HM.out]
      exact ⟨rfl, _, R.1, fun b hb hne hf => R.2.1 b hb (by simpa using hne) hf, R.2.2.1, R.2.2.2.mono (fun b e _ => by simpa using e)⟩

end Go.Proofs.YtchideljndagjaaGreat

namespace Go.Proofs.YtchideljndagjaaGreat
open Go.ChangeShapes Go.WideShapes Go.ChangeAt Go.RowKit

end Go.Proofs.YtchideljndagjaaGreat

namespace Go.Proofs.YtchideljndagjaaGreat
open Go.ChangeShapes Go.WideShapes Go.ChangeAt Go.RowKit
set_option linter.unusedVariables false

theorem num_calls (a : Int) (w : World) :
    Calls Tryz.prog 25 #[.int .i64 a] w fun e w' => e = .returned (.int .i64 a) ∧ w' = w := by
  go_enter Tryz.func25, Tryz.ntmps25
  go_wp2
  go_ret
  exact ⟨rfl, rfl⟩

end Go.Proofs.YtchideljndagjaaGreat

namespace Go.Proofs.YtchideljndagjaaGreat
open Go.ChangeShapes Go.WideShapes Go.ChangeAt Go.RowKit
set_option linter.unusedVariables false

theorem row_view {w : World} {B : Nat} {e : TypeId} {v : Value} {n : Nat} {xs : List Value} (h : w.ownsRow B e 1 v n xs) :
    ∃ (a : Option Addr) (c : Nat), v = .slice a n c ∧ n ≤ c ∧ c ≤ maxLen ∧ ∀ i, i < n → ∃ g, a = some ⟨g, 0, none⟩ ∧ w.cell? ⟨g, i, none⟩ = xs[i]? := by
  have h0 := h
  rcases h.2 with ⟨rfl, rfl⟩ | ⟨g, cap, cur, rfl, _, _, hnc, hcm, _⟩
  · exact ⟨none, 0, rfl, Nat.le_refl _, Nat.zero_le _, fun i hi => absurd hi (by omega)⟩
  · exact ⟨some ⟨g, 0, none⟩, cap, rfl, hnc, hcm, fun i hi => ⟨g, rfl, h0.cellAt i (by omega)⟩⟩

theorem len_view {w : World} {pw : Nat} {F : Nat → Value} {nx : Int} {ls : Nat → List Ow} (h : InvW w pw F nx ls) (c : Nat) (hc : c < 6) : ∃ a cap, F (cat c).fi = .slice a (ls c).length cap ∧ (ls c).length ≤ cap ∧ cap ≤ maxLen := by
  obtain ⟨a, cap, e, l, m, _⟩ := row_view (h.own c hc).1
  exact ⟨a, cap, e, l, m⟩

end Go.Proofs.YtchideljndagjaaGreat

namespace Go.Proofs.YtchideljndagjaaGreat
open Go.ChangeShapes Go.WideShapes Go.ChangeAt Go.RowKit
set_option linter.unusedVariables false

def ListIs (w : World) (v : Value) : Prop := ∃ zs, ListAt w v zs ∧ zs.length * 8 ≤ 140737488351232

/-- What is known of a step of a script. -/
def OpIs (w : World) (kd x y z : Int) (r : Nat → Value) : Prop := inI kd ∧ inI x ∧ inI y ∧ inI z ∧ ListIs w (r 0)

/-- The cells of a step: four integers and ten values more. -/
def opCells (kd x y z : Int) (r : Nat → Value) : List Value :=
  [.int .i64 kd, .int .i64 x, .int .i64 y, .int .i64 z, r 0, r 1, r 2, r 3, r 4, r 5, r 6, r 7, r 8, r 9]

end Go.Proofs.YtchideljndagjaaGreat

namespace Go.Proofs.YtchideljndagjaaGreat
open Go.ChangeShapes Go.WideShapes Go.ChangeAt Go.RowKit
set_option linter.unusedVariables false

end Go.Proofs.YtchideljndagjaaGreat

namespace Go.Proofs.YtchideljndagjaaGreat
open Go.RowKit
set_option linter.unusedVariables false

theorem infoGi : (Tryz.prog.info? 3).map (fun i => (i.zero, i.size, i.bytes)) = some (some (.int .i64 0), 1, 8) := by kernel_rfl
theorem sizeGi : (Tryz.prog.info? 3).map (·.size) = some 1 := by kernel_rfl

/-- The list, and behind it k marks and what is left of three noughts. -/
def given (zs : List Int) (k : Nat) : List Value := zs.map (Value.int .i64) ++ (List.replicate k (.int .i64 77) ++ List.replicate (3 - k) (.int .i64 0))

theorem given_length (zs : List Int) (k : Nat) (hk : k ≤ 3) : (given zs k).length = zs.length + 3 := by simp [given]; omega

theorem given_set (zs : List Int) (k : Nat) (hk : k < 3) : (given zs k).set (zs.length + k) (.int .i64 77) = given zs (k + 1) := by
  unfold given
  rw [List.set_append_right _ _ (by simp)]
  simp only [List.length_map, Nat.add_sub_cancel_left]
  rcases (show k = 0 ∨ k = 1 ∨ k = 2 by omega) with rfl | rfl | rfl <;> rfl

theorem row_of_full {w : World} {B g n : Nat} {e : TypeId} {xs : List Value} (h : w.ownsRow B e 1 (.slice (some ⟨g, 0, none⟩) n n) n xs) : w.heap[g]? = some (.cells xs.toArray e (0, 0)) := by
  have hl := h.1
  rcases h.2 with ⟨e0, _⟩ | ⟨g', cap, cur, e0, _, hg, _, _, hcs, htake⟩
  · cases e0
  · cases e0
    rw [hg]
    congr 2
    have : cur.toList.take (n * 1) = cur.toList := List.take_of_length_le (by simp; omega)
    rw [this] at htake
    rw [← htake]

theorem row_set {w : World} {g : Nat} {e : TypeId} {xs : List Value} (h : w.heap[g]? = some (.cells xs.toArray e (0, 0))) (k : Nat) (u : Value) :
    (w.setCell ⟨g, k, none⟩ u).heap[g]? = some (.cells (xs.set k u).toArray e (0, 0)) := by
  rw [setCell_eq_setRow w g k _ e (0, 0) u h, setRow_heap w g _ _ e _ h]
  simp

theorem row_cell {w : World} {g : Nat} {e : TypeId} {xs : List Value} (h : w.heap[g]? = some (.cells xs.toArray e (0, 0))) (k : Nat) (hk : k < xs.length) :
    w.cell? ⟨g, k, none⟩ = xs[k]? ∧ w.frozen? ⟨g, k, none⟩ = false := by
  constructor
  · simp [World.cell?, h]
  · simp [World.frozen?, h]

set_option maxHeartbeats 1000000 in
set_option maxRecDepth 100000 in
theorem giveInts_calls (v : Value) (zs : List Int) (w : World) (h : ListAt w v zs) (hb : zs.length * 8 ≤ 140737488351232) :
    Calls Tryz.prog 80 #[v] w fun e w' => ∃ g, w.heap.size ≤ g ∧ e = .returned (.slice (some ⟨g, 0, none⟩) zs.length (zs.length + 3)) ∧
      w'.heap[g]? = some (.cells (given zs 3).toArray 3 (0, 0)) ∧ Below w.heap.size w w' := by
  obtain ⟨i0, hi, hz0, hz1, hz2⟩ := info_parts infoGi
  obtain ⟨a, cap, rfl, l2, l3, l4, l5⟩ := h
  unfold maxLen at l3
  have HL := hideG l5
  clear l4 l5
  obtain ⟨n, hn⟩ : ∃ n, n = zs.length := ⟨_, rfl⟩
  rw [← hn] at l2 hb ⊢
  have HN := hideG hn
  clear hn
  have en : ((n : Int) + 3).toNat = n + 3 := by omega
  go_enter Tryz.func80, Tryz.ntmps80
  go_wp2_with (at_make; refine wpList_make_full _ rfl _ _ 35 rfl w.heap.size 3 i0 (.int .i64 0) 1 Tryz.underlying35 hi hz0 hz1 _ _ _ _ (n + 3) rfl rfl (by omega) (by omega) ?m1 ?m2 ?m3 ?_)
  case m1 => rw [hz2]; omega
  case m2 => unfold maxLen; omega
  case m3 => exact Nat.le_refl _
  intro w2 hown2 hgrow2
  have hr := row_of_full hown2
  have hb2 : Below w.heap.size w w2 := (Below.refl _ _).grown hgrow2 (Nat.le_refl _) (by simp)
  rw [toList_madeCells_one] at hr
  have HR := hideG hr
  have HB := hideG hb2
  clear hr hb2 hown2 hgrow2
  generalize hg : w.heap.size = B at *
  have HG := hideG hg
  obtain ⟨X, hX⟩ : ∃ X, X = zs.map (Value.int .i64) := ⟨_, rfl⟩
  have HX := hideG hX
  have hXl := hideG (show X.length = n by rw [hX, HN.out]; simp)
  clear hX
  go_wp2_with (refine wpList_copy_splice rfl _ _ 35 35 rfl 3 Tryz.underlying35 sizeGi _ _ _ _ _ _ rfl rfl B 0 _ 3 HR.out X ?c1 ?c2 ?c3 ?c4 B w HB.out (Nat.le_refl _) ?_)
  case c1 => rw [hXl.out]; simp
  case c2 =>
    intro hp
    try refine ⟨rfl, ?_⟩
    rcases HL.out with e | ⟨b, off, e1, e2, e3⟩
    · rw [HX.out, e] at hp; simp at hp
    · refine ⟨_, e1, fun j u hj => ?_⟩
      rw [HX.out, List.getElem?_map, Option.map_eq_some_iff] at hj
      obtain ⟨z, hz, rfl⟩ := hj
      have hjl : j < zs.length := (List.getElem?_eq_some_iff.1 hz).1
      have := e3 j hjl
      rw [List.getD_eq_getElem?_getD, hz] at this
      rw [← HG.out] at e2
      rw [show (⟨b, off, none⟩ : Addr).add j = ⟨b, off + j, none⟩ from by unfold Addr.add; simp]
      rw [HB.out.cell (p := ⟨b, off + j, none⟩) (by rw [← HG.out]; exact e2)]
      exact this
  case c3 => simp [hXl.out]
  case c4 => intro u hu; rw [HX.out] at hu; simp at hu; obtain ⟨z, _, rfl⟩ := hu; rfl
  intro w3 HR3 hb3
  have HB3 := hideG hb3
  clear hb3
  have es : splice (List.replicate (n + 3) (Value.int .i64 0)) 0 X = given zs 0 := by
    unfold splice given
    rw [HX.out, HN.out]
    simp
  have hr3 := HR3.out
  rw [es] at hr3
  have HR3' := hideG hr3
  clear hr3 HR3 es
  go_wp2_with fail
  go_loopw [4] (fun i wr => ∃ j : Nat, n ≤ j ∧ j ≤ n + 3 ∧ i = .int .i64 j ∧ wr.heap[B]? = some (.cells (given zs (j - n)).toArray 3 (0, 0)) ∧ Below B w wr) (fun i _ => n + 3 - (intOf i).toNat)
  case atStart => exact ⟨n, Nat.le_refl _, by omega, rfl, by rw [Nat.sub_self]; exact HR3'.out, HB3.out⟩
  case round =>
    obtain ⟨j, hj1, hj2, rfl, hr, hbel⟩ := hrel
    have HR4 := hideG hr
    have HB4 := hideG hbel
    by_cases hlt : j < n + 3
    · obtain ⟨c1, c2⟩ := row_cell hr j (by rw [given_length _ _ (by omega), ← HN.out]; exact hlt)
      obtain ⟨u, hu⟩ : ∃ u, (given zs (j - n))[j]? = some u := ⟨_, List.getElem?_eq_getElem (by rw [given_length _ _ (by omega), ← HN.out]; exact hlt)⟩
      rw [hu] at c1
      clear hr hbel hu
      go_wp2_with fail
      go_roundw
      case rel =>
        have R := row_set HR4.out j (.int .i64 77)
        have e := given_set zs (j - n) (by omega)
        rw [← HN.out, show n + (j - n) = j by omega, show j - n + 1 = j + 1 - n by omega] at e
        rw [e] at R
        exact ⟨j + 1, by omega, by omega, by go_num, R, HB4.out.setCell (p := ⟨B, j, none⟩) (Nat.le_refl _) _⟩
      case measure => simp [intOf]; omega
    · have ej : j = n + 3 := by omega
      subst ej
      clear hr hbel
      go_wp2_with fail
      go_ret
      have R := HR4.out
      rw [Nat.add_sub_cancel_left] at R
      exact ⟨B, by rw [HG.out]; exact Nat.le_refl _, rfl, R, by rw [HG.out]; exact HB4.out⟩

/-- A list that was handed in is as it was. -/
theorem stillInts_calls (v : Value) (zs : List Int) (w : World) (g : Nat) (h : ListAt w v zs) (hb : zs.length * 8 ≤ 140737488351232) (hg : w.heap[g]? = some (.cells (given zs 3).toArray 3 (0, 0))) :
    Calls Tryz.prog 83 #[.slice (some ⟨g, 0, none⟩) zs.length (zs.length + 3), v] w fun e w' => e = .returned (.bool true) ∧ ∃ nq, w' = w.drewN nq := by
  have hcell : ∀ i, i < zs.length + 3 → w.cell? ⟨g, i, none⟩ = some (.int .i64 (if i < zs.length then zs.getD i 0 else 77)) := by
    intro i hi
    rw [(row_cell hg i (by rw [given_length _ _ (Nat.le_refl _)]; exact hi)).1]
    unfold given
    by_cases h1 : i < zs.length
    · rw [if_pos h1, List.getElem?_append_left (by simpa using h1), List.getElem?_map, List.getElem?_eq_getElem h1, List.getD_eq_getElem?_getD, List.getElem?_eq_getElem h1]; rfl
    · rw [if_neg h1, List.getElem?_append_right (by simp; omega)]
      rw [List.getElem?_append_left (by simp; omega), List.getElem?_replicate, if_pos (by simp; omega)]
  obtain ⟨a, cap, rfl, l2, l3, l4, l5⟩ := h
  unfold maxLen at l3
  have HL := hideG l5
  have HC := hideG hcell
  clear l4 l5 hcell hg
  obtain ⟨n, hn⟩ : ∃ n, n = zs.length := ⟨_, rfl⟩
  rw [← hn] at l2 hb HC ⊢
  have HN := hideG hn
  clear hn
  have en : ((n : Int) + 3).toNat = n + 3 := by omega
  go_enter Tryz.func83, Tryz.ntmps83
  go_wp2_with fail
  go_loopw [6] (fun i wr => ∃ k nq : Nat, k ≤ n + 3 ∧ i = .int .i64 k ∧ wr = w.drewN nq) (fun i _ => n + 3 - (intOf i).toNat)
  case atStart => exact ⟨0, 0, by omega, rfl, rfl⟩
  case round =>
    obtain ⟨k, nq, hk, rfl, rfl⟩ := hrel
    by_cases hlt : k < n + 3
    · have c1 := HC.out k hlt
      by_cases hlt2 : k < n
      · rw [if_pos hlt2] at c1
        obtain ⟨g2, o2, rfl, q2⟩ : ∃ g off, a = some ⟨g, off, none⟩ ∧ w.cell? ⟨g, off + k, none⟩ = some (.int .i64 (zs.getD k 0)) := by
          rcases HL.out with h | ⟨g, off, h1, _, h2⟩
          · have := HN.out; rw [h] at this; simp at this; omega
          · exact ⟨g, off, h1, h2 k (by rw [← HN.out]; exact hlt2)⟩
        generalize zs.getD k 0 = z at *
        have ez : (z != z) = false := by simp
        have hk0 : (0 : Int) ≤ (k : Int) := by omega
        have hk1 : (k : Int) < (n : Int) := by omega
        have hk2 : (k : Int) < (n : Int) + 3 := by omega
        have hd : decide (n ≤ k) = false := by simp; omega
        go_wp2_with fail
        go_quiet (fail)
        go_wp2_with fail
        go_roundw
        case rel => exact ⟨k + 1, _, by omega, by go_num, rfl⟩
        case measure => simp [intOf]; omega
      · rw [if_neg hlt2] at c1
        have hk0 : (0 : Int) ≤ (k : Int) := by omega
        have hk1 : ¬ ((k : Int) < (n : Int)) := by omega
        have hk2 : (k : Int) < (n : Int) + 3 := by omega
        have hk3 : (n : Int) ≤ (k : Int) := by omega
        have hd : decide (n ≤ k) = true := by simp; omega
        have hd2 : decide (k < n) = false := by simp; omega
        go_wp2_with fail
        go_quiet (fail)
        go_wp2_with fail
        go_roundw
        case rel => exact ⟨k + 1, _, by omega, by go_num, rfl⟩
        case measure => simp [intOf]; omega
    · go_wp2_with fail
      go_ret
      exact ⟨rfl, nq, rfl⟩

end Go.Proofs.YtchideljndagjaaGreat
