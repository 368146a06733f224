/- The World of a script and what it owns: six kinds of lists, each with its mark; kept by whatever writes elsewhere; one list more. -/
import Derived.Test.YtchideljndagjaaGreatMemAll
namespace Go.Proofs.YtchideljndagjaaGreat
open Go.RowKit
set_option linter.unusedVariables false

/-- A kind of lists: the World's field of the lists, of the marks; the element's type, the list's; what an element reads as, written full. -/
structure Cat where
  fi : Nat
  fm : Nat
  e : TypeId
  s : TypeId
  pat : Int → List Value

def cat : Nat → Cat
  | 0 => ⟨3, 9, 3, 35, fun m => [.int .i64 m]⟩
  | 1 => ⟨4, 10, 5, 67, fun m => [.int .u8 m]⟩
  | 2 => ⟨5, 11, 142, 38, fun m => [.int .i64 m, .int .i64 m, .int .i64 m, .int .i64 m]⟩
  | 3 => ⟨6, 12, 69, 66, fun m => [.int .i64 m, .int .i64 m, .slice none 0 0]⟩
  | 4 => ⟨7, 13, 74, 43, fun m => [.slice none 0 0, .int .i64 m, .int .i64 m, .int .i64 m, .slice none 0 0, .slice none 0 0]⟩
  | _ => ⟨8, 14, 72, 70, fun m => [.int .i64 m, .int .i64 m]⟩

theorem cat_fi (c : Nat) : 3 ≤ (cat c).fi ∧ (cat c).fi ≤ 8 := by
  unfold cat; split <;> simp
theorem cat_fm (c : Nat) : 9 ≤ (cat c).fm ∧ (cat c).fm ≤ 14 := by
  unfold cat; split <;> simp
theorem cat_fi_inj : ∀ c, c < 6 → ∀ d, d < 6 → (cat c).fi = (cat d).fi → c = d := by decide
theorem cat_fm_inj : ∀ c, c < 6 → ∀ d, d < 6 → (cat c).fm = (cat d).fm → c = d := by decide
theorem cat_s (c : Nat) : (cat c).s ≠ 3 := by
  unfold cat; split <;> decide

/-- A list that is owned: its block (none: a nil list), how many elements, the mark. -/
abbrev Ow := Option Nat × Nat × Int

def owVal (o : Ow) : Value :=
  match o.1 with
  | none => .slice none 0 0
  | some g => .slice (some ⟨g, 0, none⟩) o.2.1 o.2.1

def owCells (c : Cat) (o : Ow) : List Value := (List.replicate o.2.1 (c.pat o.2.2)).flatten

def OwnC (w : World) (pw : Nat) (c : Cat) (vs vm : Value) (l : List Ow) : Prop :=
  w.ownsRow (pw + 1) c.s 1 vs l.length (l.map owVal) ∧ w.ownsRow (pw + 1) 3 1 vm l.length (l.map fun o => Value.int .i64 o.2.2) ∧
    ∀ o ∈ l, (o.1 = none → o.2.1 = 0) ∧ (o.2.1 ≤ maxLen) ∧ ∀ g, o.1 = some g → pw < g ∧ g < w.heap.size ∧ w.heap[g]? = some (.cells (owCells c o).toArray c.e (0, 0))

structure InvW (w : World) (pw : Nat) (F : Nat → Value) (nx : Int) (ls : Nat → List Ow) : Prop where
  blk : w.heap[pw]? = some (.cells (fArr F) 37 (0, 0))
  nxt : F 15 = .int .i64 nx
  own : ∀ c, c < 6 → OwnC w pw (cat c) (F (cat c).fi) (F (cat c).fm) (ls c)
  tag : ∃ tg : Nat → Nat × Nat × Nat, (∀ c, c < 6 → ∀ b, (F (cat c).fi).ownBlock = some b → tg b = (c, 0, 0)) ∧ (∀ c, c < 6 → ∀ b, (F (cat c).fm).ownBlock = some b → tg b = (c, 1, 0)) ∧
    ∀ c, c < 6 → ∀ (i : Nat) o b, (ls c)[i]? = some o → o.1 = some b → tg b = (c, 2, i)

/-- The blocks in which what is owned lies. -/
def Foot (F : Nat → Value) (ls : Nat → List Ow) (b : Nat) : Prop :=
  ∃ c, c < 6 ∧ ((F (cat c).fi).ownBlock = some b ∨ (F (cat c).fm).ownBlock = some b ∨ ∃ o ∈ ls c, o.1 = some b)

theorem InvW.pw_lt {w : World} {pw : Nat} {F : Nat → Value} {nx : Int} {ls : Nat → List Ow} (h : InvW w pw F nx ls) : pw < w.heap.size := by
  have := h.blk
  by_cases hb : pw < w.heap.size
  · exact hb
  · rw [Array.getElem?_eq_none (by omega)] at this; cases this

theorem InvW.foot_lt {w : World} {pw : Nat} {F : Nat → Value} {nx : Int} {ls : Nat → List Ow} (h : InvW w pw F nx ls) {b : Nat} (hf : Foot F ls b) : pw < b ∧ b < w.heap.size := by
  obtain ⟨c, hc, hf⟩ := hf
  obtain ⟨h1, h2, h3⟩ := h.own c hc
  rcases hf with hf | hf | ⟨o, ho, hf⟩
  · have := h1.lt b hf; omega
  · have := h2.lt b hf; omega
  · have := (h3 o ho).2.2 b hf; omega

theorem InvW.chg {S : Nat → Prop} {w w' : World} {pw : Nat} {F : Nat → Value} {nx : Int} {ls : Nat → List Ow} (h : InvW w pw F nx ls) (hc : Chg S w w') (hS : ∀ b, S b → b ≠ pw ∧ ¬ Foot F ls b) : InvW w' pw F nx ls := by
  have hp := h.pw_lt
  refine ⟨by rw [hc.block pw hp (fun hs => (hS pw hs).1 rfl)]; exact h.blk, h.nxt, fun c hc' => ?_, h.tag⟩
  obtain ⟨h1, h2, h3⟩ := h.own c hc'
  refine ⟨ownsRow_chg h1 hc (fun b hb hs => (hS b hs).2 ⟨c, hc', .inl hb⟩), ownsRow_chg h2 hc (fun b hb hs => (hS b hs).2 ⟨c, hc', .inr (.inl hb)⟩), fun o ho => ?_⟩
  obtain ⟨k1, k0, k2⟩ := h3 o ho
  refine ⟨k1, k0, fun g hg => ?_⟩
  obtain ⟨q1, q2, q3⟩ := k2 g hg
  exact ⟨q1, Nat.lt_of_lt_of_le q2 hc.size, by rw [hc.block g q2 (fun hs => (hS g hs).2 ⟨c, hc', .inr (.inr ⟨o, ho, hg⟩)⟩)]; exact q3⟩

theorem InvW.below {w w' : World} {pw : Nat} {F : Nat → Value} {nx : Int} {ls : Nat → List Ow} (h : InvW w pw F nx ls) (hb : Below w.heap.size w w') : InvW w' pw F nx ls :=
  h.chg (S := fun _ => False) (Chg.of_below hb) (fun _ hs => hs.elim)

def updL (ls : Nat → List Ow) (c : Nat) (l : List Ow) : Nat → List Ow := fun d => if d = c then l else ls d

/-- The fields behind one list more. -/
def updF (F : Nat → Value) (c : Nat) (nx : Int) (v' m' : Value) : Nat → Value := upd (upd (upd F 15 (.int .i64 (nx + 1))) (cat c).fi v') (cat c).fm m'

theorem updF_fi (F : Nat → Value) (c : Nat) (nx : Int) (v' m' : Value) : updF F c nx v' m' (cat c).fi = v' := by
  have := cat_fi c; have := cat_fm c
  rw [updF, upd_other _ _ (by omega), upd_same]
theorem updF_fm (F : Nat → Value) (c : Nat) (nx : Int) (v' m' : Value) : updF F c nx v' m' (cat c).fm = m' := upd_same _ _ _
theorem updF_other (F : Nat → Value) (c : Nat) (nx : Int) (v' m' : Value) {j : Nat} (h1 : j ≠ (cat c).fi) (h2 : j ≠ (cat c).fm) (h3 : j ≠ 15) : updF F c nx v' m' j = F j := by
  rw [updF, upd_other _ _ h2, upd_other _ _ h1, upd_other _ _ h3]
theorem updF_nxt (F : Nat → Value) (c : Nat) (nx : Int) (v' m' : Value) : updF F c nx v' m' 15 = .int .i64 (nx + 1) := by
  have := cat_fi c; have := cat_fm c
  rw [updF, upd_other _ _ (by omega), upd_other _ _ (by omega), upd_same]

theorem own_step {w w' : World} {pw : Nat} {F : Nat → Value} {nx : Int} {ls : Nat → List Ow} (h : InvW w pw F nx ls) (c : Nat) (hc : c < 6) (o : Ow) (v' m' : Value)
    (hchg : Chg (fun b => b = pw ∨ o.1 = some b ∨ (F (cat c).fi).ownBlock = some b ∨ (F (cat c).fm).ownBlock = some b) w w')
    (hblk : w'.heap[pw]? = some (.cells (fArr (updF F c nx v' m')) 37 (0, 0)))
    (ho : w'.ownsRow (pw + 1) (cat c).s 1 v' ((ls c).length + 1) ((ls c).map owVal ++ [owVal o]))
    (hm : w'.ownsRow (pw + 1) 3 1 m' ((ls c).length + 1) (((ls c).map fun o => Value.int .i64 o.2.2) ++ [.int .i64 o.2.2]))
    (hv' : ∀ b, v'.ownBlock = some b → (F (cat c).fi).ownBlock = some b ∨ w.heap.size ≤ b)
    (hm' : ∀ b, m'.ownBlock = some b → (F (cat c).fm).ownBlock = some b ∨ w.heap.size ≤ b)
    (hg : ∀ g, o.1 = some g → ¬ Foot F ls g ∧ pw < g ∧ g < w.heap.size ∧ w'.heap[g]? = some (.cells (owCells (cat c) o).toArray (cat c).e (0, 0)))
    (hn : o.1 = none → o.2.1 = 0) (hmx : o.2.1 ≤ maxLen) :
    InvW w' pw (updF F c nx v' m') (nx + 1) (updL ls c (ls c ++ [o])) ∧
      ∀ b, b < w.heap.size → o.1 ≠ some b → ¬ Foot F ls b → ¬ Foot (updF F c nx v' m') (updL ls c (ls c ++ [o])) b := by
  obtain ⟨tg, t1, t2, t3⟩ := h.tag
  have other : ∀ d, d < 6 → d ≠ c → updF F c nx v' m' (cat d).fi = F (cat d).fi ∧ updF F c nx v' m' (cat d).fm = F (cat d).fm ∧ updL ls c (ls c ++ [o]) d = ls d := by
    intro d hd hdc
    have a1 := cat_fi d; have a2 := cat_fm d; have a3 := cat_fi c; have a4 := cat_fm c
    refine ⟨updF_other _ _ _ _ _ (fun e => hdc (cat_fi_inj d hd c hc e)) (by omega) (by omega), updF_other _ _ _ _ _ (by omega) (fun e => hdc (cat_fm_inj d hd c hc e)) (by omega), by simp [updL, hdc]⟩
  have same : updL ls c (ls c ++ [o]) c = ls c ++ [o] := by simp [updL]
  -- no block of another kind is written
  have apart : ∀ d, d < 6 → ∀ b, ((F (cat d).fi).ownBlock = some b ∧ d ≠ c ∨ (F (cat d).fm).ownBlock = some b ∧ d ≠ c ∨ ∃ x ∈ ls d, x.1 = some b) →
      ¬ (b = pw ∨ o.1 = some b ∨ (F (cat c).fi).ownBlock = some b ∨ (F (cat c).fm).ownBlock = some b) := by
    intro d hd b hb
    have hfoot : Foot F ls b := by
      rcases hb with ⟨hb, _⟩ | ⟨hb, _⟩ | hb
      · exact ⟨d, hd, .inl hb⟩
      · exact ⟨d, hd, .inr (.inl hb)⟩
      · exact ⟨d, hd, .inr (.inr hb)⟩
    have hl := h.foot_lt hfoot
    rintro (e | e | e | e)
    · omega
    · exact (hg b e).1 hfoot
    · have e1 := t1 c hc b e
      rcases hb with ⟨hb, hne⟩ | ⟨hb, hne⟩ | ⟨x, hx, hb⟩
      · rw [t1 d hd b hb] at e1; simp at e1; omega
      · rw [t2 d hd b hb] at e1; simp at e1
      · obtain ⟨i, hi⟩ := List.getElem?_of_mem hx
        rw [t3 d hd i x b hi hb] at e1; simp at e1
    · have e1 := t2 c hc b e
      rcases hb with ⟨hb, hne⟩ | ⟨hb, hne⟩ | ⟨x, hx, hb⟩
      · rw [t1 d hd b hb] at e1; simp at e1
      · rw [t2 d hd b hb] at e1; simp at e1; omega
      · obtain ⟨i, hi⟩ := List.getElem?_of_mem hx
        rw [t3 d hd i x b hi hb] at e1; simp at e1
  have keeps : ∀ d, d < 6 → ∀ x ∈ ls d, (x.1 = none → x.2.1 = 0) ∧ (x.2.1 ≤ maxLen) ∧ ∀ g, x.1 = some g → pw < g ∧ g < w'.heap.size ∧ w'.heap[g]? = some (.cells (owCells (cat d) x).toArray (cat d).e (0, 0)) := by
    intro d hd x hx
    obtain ⟨k1, k0, k2⟩ := (h.own d hd).2.2 x hx
    refine ⟨k1, k0, fun g hgx => ?_⟩
    obtain ⟨q1, q2, q3⟩ := k2 g hgx
    exact ⟨q1, Nat.lt_of_lt_of_le q2 hchg.size, by rw [hchg.block g q2 (apart d hd g (.inr (.inr ⟨x, hx, hgx⟩)))]; exact q3⟩
  have vm_ne : ∀ b, v'.ownBlock = some b → m'.ownBlock = some b → False := by
    intro b h1 h2
    rcases ho.2 with ⟨e, _⟩ | ⟨g, cap, cur, e, _, e1, _⟩
    · rw [e] at h1; cases h1
    · rcases hm.2 with ⟨f, _⟩ | ⟨g2, cap2, cur2, f, _, f1, _⟩
      · rw [f] at h2; cases h2
      · rw [e] at h1; rw [f] at h2
        have eg : g = b := by simpa [Value.ownBlock] using h1
        have eg2 : g2 = b := by simpa [Value.ownBlock] using h2
        subst eg; subst eg2
        rw [e1] at f1
        simp at f1
        exact cat_s c f1.2
  refine ⟨⟨hblk, updF_nxt _ _ _ _ _, fun d hd => ?_, ?_⟩, ?_⟩
  · by_cases hdc : d = c
    · subst hdc
      rw [updF_fi, updF_fm, same]
      refine ⟨by simpa using ho, by simpa using hm, fun x hx => ?_⟩
      rcases List.mem_append.1 hx with hx | hx
      · exact keeps d hd x hx
      · simp at hx; subst hx
        exact ⟨hn, hmx, fun g hgx => let ⟨_, q1, q2, q3⟩ := hg g hgx; ⟨q1, Nat.lt_of_lt_of_le q2 hchg.size, q3⟩⟩
    · obtain ⟨e1, e2, e3⟩ := other d hd hdc
      rw [e1, e2, e3]
      obtain ⟨h1, h2, _⟩ := h.own d hd
      exact ⟨ownsRow_chg h1 hchg (fun b hb => apart d hd b (.inl ⟨hb, hdc⟩)), ownsRow_chg h2 hchg (fun b hb => apart d hd b (.inr (.inl ⟨hb, hdc⟩))), keeps d hd⟩
  · -- the tags
    classical
    refine ⟨fun b => if v'.ownBlock = some b then (c, 0, 0) else if m'.ownBlock = some b then (c, 1, 0) else if o.1 = some b then (c, 2, (ls c).length) else tg b, ?_, ?_, ?_⟩
    · intro d hd b hb
      by_cases hdc : d = c
      · subst hdc; rw [updF_fi] at hb; simp [hb]
      · rw [(other d hd hdc).1] at hb
        have hfoot : Foot F ls b := ⟨d, hd, .inl hb⟩
        have hl := h.foot_lt hfoot
        have hna := apart d hd b (.inl ⟨hb, hdc⟩)
        have n1 : v'.ownBlock ≠ some b := fun e => by
          rcases hv' b e with e | e
          · exact hna (.inr (.inr (.inl e)))
          · omega
        have n2 : m'.ownBlock ≠ some b := fun e => by
          rcases hm' b e with e | e
          · exact hna (.inr (.inr (.inr e)))
          · omega
        have n3 : o.1 ≠ some b := fun e => hna (.inr (.inl e))
        simp only [n1, n2, n3, if_false]; exact t1 d hd b hb
    · intro d hd b hb
      by_cases hdc : d = c
      · subst hdc; rw [updF_fm] at hb
        have n1 : v'.ownBlock ≠ some b := fun e => vm_ne b e hb
        simp [hb, n1]
      · rw [(other d hd hdc).2.1] at hb
        have hfoot : Foot F ls b := ⟨d, hd, .inr (.inl hb)⟩
        have hl := h.foot_lt hfoot
        have hna := apart d hd b (.inr (.inl ⟨hb, hdc⟩))
        have n1 : v'.ownBlock ≠ some b := fun e => by
          rcases hv' b e with e | e
          · exact hna (.inr (.inr (.inl e)))
          · omega
        have n2 : m'.ownBlock ≠ some b := fun e => by
          rcases hm' b e with e | e
          · exact hna (.inr (.inr (.inr e)))
          · omega
        have n3 : o.1 ≠ some b := fun e => hna (.inr (.inl e))
        simp only [n1, n2, n3, if_false]; exact t2 d hd b hb
    · intro d hd i x b hi hb
      have old : x ∈ ls d → (ls d)[i]? = some x → (if v'.ownBlock = some b then (c, 0, 0) else if m'.ownBlock = some b then (c, 1, 0) else if o.1 = some b then (c, 2, (ls c).length) else tg b) = (d, 2, i) := by
        intro hx hi'
        have hfoot : Foot F ls b := ⟨d, hd, .inr (.inr ⟨x, hx, hb⟩)⟩
        have hl := h.foot_lt hfoot
        have hna := apart d hd b (.inr (.inr ⟨x, hx, hb⟩))
        have n1 : v'.ownBlock ≠ some b := fun e => by
          rcases hv' b e with e | e
          · exact hna (.inr (.inr (.inl e)))
          · omega
        have n2 : m'.ownBlock ≠ some b := fun e => by
          rcases hm' b e with e | e
          · exact hna (.inr (.inr (.inr e)))
          · omega
        have n3 : o.1 ≠ some b := fun e => hna (.inr (.inl e))
        simp only [n1, n2, n3, if_false]; exact t3 d hd i x b hi' hb
      by_cases hdc : d = c
      · subst hdc; rw [same] at hi
        by_cases hil : i < (ls d).length
        · rw [List.getElem?_append_left hil] at hi
          exact old (List.mem_of_getElem? hi) hi
        · rw [List.getElem?_append_right (by omega)] at hi
          have hi0 : i - (ls d).length = 0 := by
            rcases Nat.eq_zero_or_pos (i - (ls d).length) with e | e
            · exact e
            · rw [List.getElem?_eq_none (by simp; omega)] at hi; cases hi
          rw [hi0] at hi; simp at hi; subst hi
          have hgb := hg b hb
          have n1 : v'.ownBlock ≠ some b := fun e => by
            rcases hv' b e with e | e
            · exact hgb.1 ⟨d, hd, .inl e⟩
            · omega
          have n2 : m'.ownBlock ≠ some b := fun e => by
            rcases hm' b e with e | e
            · exact hgb.1 ⟨d, hd, .inr (.inl e)⟩
            · omega
          simp only [n1, n2, hb, if_false, if_true]
          rw [show i = (ls d).length by omega]
      · rw [(other d hd hdc).2.2] at hi
        exact old (List.mem_of_getElem? hi) hi
  · intro b hb hob hnf
    rintro ⟨d, hd, hf⟩
    by_cases hdc : d = c
    · subst hdc
      rw [updF_fi, updF_fm, same] at hf
      rcases hf with hf | hf | ⟨x, hx, hf⟩
      · rcases hv' b hf with e | e
        · exact hnf ⟨d, hd, .inl e⟩
        · omega
      · rcases hm' b hf with e | e
        · exact hnf ⟨d, hd, .inr (.inl e)⟩
        · omega
      · rcases List.mem_append.1 hx with hx | hx
        · exact hnf ⟨d, hd, .inr (.inr ⟨x, hx, hf⟩)⟩
        · simp at hx; subst hx; exact hob hf
    · rw [(other d hd hdc).1, (other d hd hdc).2.1, (other d hd hdc).2.2] at hf
      exact hnf ⟨d, hd, hf⟩

end Go.Proofs.YtchideljndagjaaGreat
