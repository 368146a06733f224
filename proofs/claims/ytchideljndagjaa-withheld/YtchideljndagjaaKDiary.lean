/- How many are in a set; the Ids of what a client answers. Plain. -/
import Derived.Test.YtchideljndagjaaKSet
import Derived.Test.YtchideljndagjaaCliTake
import Derived.Test.YtchideljndagjaaWiredA
namespace Go.Proofs.Ytchideljndagjaa
set_option linter.unusedVariables false

theorem cntN_succ (f : Nat → Bool) (n : Nat) : cntN f (n + 1) = cntN f n + (if f (n + 1) = true then 1 else 0) := rfl
theorem cnt_filter (f : Nat → Bool) (h0 : f 0 = false) (n : Nat) : cntN f n = ((List.range (n + 1)).filter f).length := by
  induction n with
  | zero => simp [cntN, h0]
  | succ n ih =>
    rw [List.range_succ, List.filter_append, List.length_append, ← ih]
    rw [cntN_succ]
    cases e : f (n + 1) <;> simp [e]
theorem has0 {l : List Frm.It} (h : Frm.riseB l = true) : Cli.hasI l ((0 : Nat) : Int) = false := Cli.hasI_off.2 fun x hx => by have := (Cli.rise_pair h).2 x hx; omega
theorem cnt_len {l : List Frm.It} (h : Frm.riseB l = true) : cntN (fun u : Nat => Cli.hasI l u) 12 = l.length := by
  rw [cnt_filter _ (has0 h)]
  have := congrArg List.length (Cli.ids_range h)
  rw [List.length_map, List.length_map] at this
  exact this.symm
theorem cnt_ext {f g : Nat → Bool} {n : Nat} (h : ∀ u, 1 ≤ u → u ≤ n → f u = g u) : cntN f n = cntN g n := by
  induction n with
  | zero => rfl
  | succ n ih => rw [cntN_succ, cntN_succ, ih (fun u a b => h u a (by omega)), h (n + 1) (by omega) (Nat.le_refl _)]
theorem cnt_add (f : Nat → Bool) (i n : Nat) (h1 : 1 ≤ i) (h2 : f i = false) : cntN (updB f i true) n = cntN f n + (if i ≤ n then 1 else 0) := by
  induction n with
  | zero => rw [if_neg (by omega)]; rfl
  | succ n ih =>
    rw [cntN_succ, cntN_succ, ih]
    by_cases e : n + 1 = i
    · subst e
      unfold updB
      rw [if_pos rfl, if_pos rfl, h2, if_neg (show ¬ n + 1 ≤ n by omega), if_neg (by simp), if_pos (Nat.le_refl _)]
    · have : updB f i true (n + 1) = f (n + 1) := by unfold updB; rw [if_neg e]
      rw [this]
      by_cases q : i ≤ n
      · rw [if_pos q, if_pos (show i ≤ n + 1 by omega)]; omega
      · rw [if_neg q, if_neg (show ¬ i ≤ n + 1 by omega)]; omega
theorem upd_twice (f : Nat → Bool) (i : Nat) (x : Bool) : updB (updB f i x) i (f i) = f := by
  funext u; unfold updB; by_cases e : u = i
  · subst e; simp
  · simp [e]
theorem cnt_del (f : Nat → Bool) (i n : Nat) (h1 : 1 ≤ i) (hn : i ≤ n) (h2 : f i = true) : cntN (updB f i false) n + 1 = cntN f n := by
  have := cnt_add (updB f i false) i n h1 (by unfold updB; rw [if_pos rfl])
  rw [if_pos hn] at this
  have e : updB (updB f i false) i true = f := by rw [← h2]; exact upd_twice f i false
  rw [e] at this
  exact this.symm

/-- Whose shares are in the Shares frame. -/
theorem has_sharing (c : Cli.Cl) (k : List Frm.It) (u : Int) : Cli.hasI (Cli.sharing c k) u = (Cli.hasI k u && decide (u ≠ c.id)) := by
  rw [Bool.eq_iff_iff, Bool.and_eq_true, Cli.hasI_iff, Cli.hasI_iff, decide_eq_true_iff]
  constructor
  · rintro ⟨x, hx, rfl⟩
    unfold Cli.sharing at hx
    obtain ⟨y, hy, rfl⟩ := List.mem_map.1 hx
    obtain ⟨hy1, hy2⟩ := List.mem_filter.1 hy
    exact ⟨⟨y, hy1, rfl⟩, by simpa using hy2⟩
  · rintro ⟨⟨y, hy, rfl⟩, hne⟩
    unfold Cli.sharing
    exact ⟨_, List.mem_map.2 ⟨y, List.mem_filter.2 ⟨hy, by simpa using hne⟩, rfl⟩, rfl⟩
/-- Of whom a share is told. -/
theorem has_tells {c : Cli.Cl} (hc : Cli.Good c) {b : List Frm.It} (hb : Frm.riseB b = true) (k a : List Frm.It) (u : Nat) (h1 : 1 ≤ u) (h2 : u ≤ 12) : Cli.hasI (Cli.tells c k b a) u = (Cli.hasI b u || decide ((u : Int) = c.id)) := by
  rw [Bool.eq_iff_iff, Cli.hasI_iff]
  unfold Cli.tells
  constructor
  · rintro ⟨x, hx, e⟩
    obtain ⟨v, hv, rfl⟩ := List.mem_map.1 hx
    obtain ⟨_, hv2⟩ := List.mem_filter.1 hv
    have e' : ((v : Int) + 1) = (u : Int) := e
    rw [e'] at hv2
    exact hv2
  · intro h
    refine ⟨_, List.mem_map.2 ⟨u - 1, List.mem_filter.2 ⟨List.mem_range.2 (by omega), ?_⟩, rfl⟩, ?_⟩
    · rw [show (((u - 1 : Nat) : Int) + 1) = (u : Int) by omega]; exact h
    · show (((u - 1 : Nat) : Int) + 1) = (u : Int); omega
/-- The numbers of what is told. -/
theorem tells_item {c : Cli.Cl} {k b a : List Frm.It} {x : Frm.It} (hx : x ∈ Cli.tells c k b a) : x.2.1 = if Cli.hasI a x.1 = true then 1 else 2 := by
  unfold Cli.tells at hx
  obtain ⟨v, hv, rfl⟩ := List.mem_map.1 hx
  rfl

/-! ### What an answer brings with it -/
theorem ans_none {c : Cli.Cl} {s : Cli.St} {zs : List Int} (hp : 0 ≤ s.1 ∧ s.1 ≤ 4) (h : ansD c s zs = none) : stepD c s zs = s ∨ ((stepD c s zs).1 = 0 ∧ s.1 ≠ 4) := by
  cases hd : Frm.decF zs with
  | none => exact .inl (stepD_none hd).1
  | some f =>
    obtain ⟨k, fr, l⟩ := f
    by_cases k1 : s.1 = 1 ∧ k = 2
    · obtain ⟨p1, rfl⟩ := k1
      obtain ⟨e1, e2⟩ := stepD_keys (c := c) hd p1
      rw [e2] at h
      rw [e1]
      cases q : Cli.keysAgree c l
      · rw [if_neg (by simp)]; exact .inr ⟨rfl, by omega⟩
      · rw [q] at h; cases h
    · by_cases k2 : s.1 = 2 ∧ k = 4
      · obtain ⟨p1, rfl⟩ := k2
        obtain ⟨e1, e2⟩ := stepD_box (c := c) hd p1
        rw [e2] at h
        rw [e1]
        cases q : Cli.boxAgree c s.2.1 l
        · rw [if_neg (by simp)]; exact .inr ⟨rfl, by omega⟩
        · rw [q] at h; cases h
      · by_cases k3 : s.1 = 3 ∧ k = 6
        · obtain ⟨p1, rfl⟩ := k3
          obtain ⟨e1, e2⟩ := stepD_ask (c := c) hd p1
          rw [e2] at h
          rw [e1]
          cases q : Cli.askAgree c s.2.2.1 l
          · rw [if_neg (by simp)]; exact .inr ⟨rfl, by omega⟩
          · rw [q] at h; cases h
        · exact .inl (stepD_rest hd k1 k2 k3).1
theorem ans_some {c : Cli.Cl} {s : Cli.St} {zs : List Int} {f : Cli.Fr} (h : ansD c s zs = some f) :
    (∃ fr l, s.1 = 1 ∧ Frm.decF zs = some (2, fr, l) ∧ Cli.keysAgree c l = true ∧ f = (3, c.id, Cli.sharing c l) ∧ stepD c s zs = (2, l, [], [])) ∨
    (∃ fr l, s.1 = 2 ∧ Frm.decF zs = some (4, fr, l) ∧ Cli.boxAgree c s.2.1 l = true ∧ f = (5, c.id, Cli.masking c s.2.1 l) ∧ stepD c s zs = (3, s.2.1, l, [])) ∨
    (∃ fr l, s.1 = 3 ∧ Frm.decF zs = some (6, fr, l) ∧ Cli.askAgree c s.2.2.1 l = true ∧ f = (7, c.id, Cli.tells c s.2.1 s.2.2.1 l) ∧ stepD c s zs = (4, s.2.1, s.2.2.1, l)) := by
  cases hd : Frm.decF zs with
  | none => rw [(stepD_none hd).2] at h; cases h
  | some f =>
    obtain ⟨k, fr, l⟩ := f
    by_cases k1 : s.1 = 1 ∧ k = 2
    · obtain ⟨p1, rfl⟩ := k1
      obtain ⟨e1, e2⟩ := stepD_keys (c := c) hd p1
      cases q : Cli.keysAgree c l
      · rw [e2, q, if_neg (by simp)] at h; cases h
      · rw [e2, q, if_pos rfl] at h; rw [e1, q, if_pos rfl]; cases h; exact .inl ⟨fr, l, p1, rfl, q, rfl, rfl⟩
    · by_cases k2 : s.1 = 2 ∧ k = 4
      · obtain ⟨p1, rfl⟩ := k2
        obtain ⟨e1, e2⟩ := stepD_box (c := c) hd p1
        cases q : Cli.boxAgree c s.2.1 l
        · rw [e2, q, if_neg (by simp)] at h; cases h
        · rw [e2, q, if_pos rfl] at h; rw [e1, q, if_pos rfl]; cases h; exact .inr (.inl ⟨fr, l, p1, rfl, q, rfl, rfl⟩)
      · by_cases k3 : s.1 = 3 ∧ k = 6
        · obtain ⟨p1, rfl⟩ := k3
          obtain ⟨e1, e2⟩ := stepD_ask (c := c) hd p1
          cases q : Cli.askAgree c s.2.2.1 l
          · rw [e2, q, if_neg (by simp)] at h; cases h
          · rw [e2, q, if_pos rfl] at h; rw [e1, q, if_pos rfl]; cases h; exact .inr (.inr ⟨fr, l, p1, rfl, q, rfl, rfl⟩)
        · rw [(stepD_rest hd k1 k2 k3).2] at h; cases h

end Go.Proofs.Ytchideljndagjaa

/- Contracts of package veilkeep: a diary in memory; its first answer. -/
namespace Go.Proofs.Ytchideljndagjaa
open Go.ChangeShapes Go.WideShapes Go.ChangeAt Go.RowKit
set_option linter.unusedVariables false

def dCells (id t st : Int) (f g : Nat → Bool) (told : Value) : List Value := [.int .i64 id, .int .i64 t, .int .i64 st] ++ (bl13 f ++ (bl13 g ++ [told]))
def DAt (w : World) (b : Nat) (id t st : Int) (f g : Nat → Bool) (told : Value) : Prop := w.heap[b]? = some (.cells (dCells id t st f g told).toArray 79 (0, 0))

theorem DAt.lt {w : World} {b : Nat} {id t st : Int} {f g : Nat → Bool} {told : Value} (h : DAt w b id t st f g told) : b < w.heap.size := by
  by_cases hb : b < w.heap.size
  · exact hb
  · unfold DAt at h; rw [Array.getElem?_eq_none (by omega)] at h; cases h
theorem DAt.cell {w : World} {b : Nat} {id t st : Int} {f g : Nat → Bool} {told : Value} (h : DAt w b id t st f g told) (i : Nat) : w.cell? ⟨b, i, none⟩ = (dCells id t st f g told)[i]? := by
  rw [cell_of_row w b i _ _ (0, 0) h]; simp
theorem DAt.froz {w : World} {b : Nat} {id t st : Int} {f g : Nat → Bool} {told : Value} (h : DAt w b id t st f g told) (i : Nat) : w.frozen? ⟨b, i, none⟩ = false := frozen_of_row w b i _ _ h
theorem DAt.first {w : World} {b : Nat} {id t st : Int} {f g : Nat → Bool} {told : Value} (h : DAt w b id t st f g told) (v : Nat) (hv : v < 13) : w.cell? ⟨b, 3 + v, none⟩ = some (.bool (f v)) := by
  rw [h.cell (3 + v)]
  unfold dCells
  rw [List.getElem?_append_right (by show 3 ≤ 3 + v; omega)]
  show (bl13 f ++ (bl13 g ++ [told]))[3 + v - 3]? = _
  rw [Nat.add_sub_cancel_left, List.getElem?_append_left (by rw [bl13_length]; exact hv)]
  exact bl13_get f v hv
theorem DAt.rangeF {w : World} {b : Nat} {id t st : Int} {f g : Nat → Bool} {told : Value} (h : DAt w b id t st f g told) : w.rangeAt b 3 (bl13 f) := by
  intro j v hv
  have hj : j < 13 := by have := (List.getElem?_eq_some_iff.1 hv).1; rwa [bl13_length] at this
  rw [h.first j hj, ← hv, bl13_get f j hj]
theorem DAt.second {w : World} {b : Nat} {id t st : Int} {f g : Nat → Bool} {told : Value} (h : DAt w b id t st f g told) (v : Nat) (hv : v < 13) : w.cell? ⟨b, 16 + v, none⟩ = some (.bool (g v)) := by
  rw [h.cell (16 + v)]
  unfold dCells
  rw [List.getElem?_append_right (by show 3 ≤ 16 + v; omega)]
  show (bl13 f ++ (bl13 g ++ [told]))[16 + v - 3]? = _
  rw [List.getElem?_append_right (by rw [bl13_length]; omega), bl13_length, show 16 + v - 3 - 13 = v by omega, List.getElem?_append_left (by rw [bl13_length]; exact hv)]
  exact bl13_get g v hv
theorem DAt.rangeG {w : World} {b : Nat} {id t st : Int} {f g : Nat → Bool} {told : Value} (h : DAt w b id t st f g told) : w.rangeAt b 16 (bl13 g) := by
  intro j v hv
  have hj : j < 13 := by have := (List.getElem?_eq_some_iff.1 hv).1; rwa [bl13_length] at this
  rw [h.second j hj, ← hv, bl13_get g j hj]
theorem DAt.there {w : World} {b : Nat} {id t st : Int} {f g : Nat → Bool} {told : Value} (h : DAt w b id t st f g told) (o n : Nat) (ho : o + n ≤ 30) : w.there b o n := by
  intro j hj
  refine ⟨?_, h.froz _⟩
  rw [h.cell, List.getElem?_eq_getElem (by show o + j < 30; omega)]; rfl
theorem DAt.block {w w' : World} {b : Nat} {id t st : Int} {f g : Nat → Bool} {told : Value} (h : DAt w b id t st f g told) (e : w'.heap[b]? = w.heap[b]?) : DAt w' b id t st f g told := e.trans h
theorem DAt.below {w w' : World} {b : Nat} {id t st : Int} {f g : Nat → Bool} {told : Value} (h : DAt w b id t st f g told) (hb : Below w.heap.size w w') : DAt w' b id t st f g told := h.block (hb.block b h.lt)
theorem DAt.chg {P : Nat → Prop} {w w' : World} {b : Nat} {id t st : Int} {f g : Nat → Bool} {told : Value} (h : DAt w b id t st f g told) (hc : Chg P w w') (hn : ¬ P b) : DAt w' b id t st f g told := h.block (hc.block b h.lt hn)
theorem DAt.setSt {w : World} {b : Nat} {id t st : Int} {f g : Nat → Bool} {told : Value} (h : DAt w b id t st f g told) (x : Int) : DAt (w.setCell ⟨b, 2, none⟩ (.int .i64 x)) b id t x f g told := by
  have := heap_setCell_same w b 2 _ _ (.int .i64 x) h
  rw [List.setIfInBounds_toArray] at this
  exact this
theorem DAt.setTold {w : World} {b : Nat} {id t st : Int} {f g : Nat → Bool} {told : Value} (h : DAt w b id t st f g told) (x : Value) : DAt (w.setCell ⟨b, 29, none⟩ x) b id t st f g x := by
  have := heap_setCell_same w b 29 _ _ x h
  rw [List.setIfInBounds_toArray] at this
  exact this
theorem DAt.setF {w : World} {b : Nat} {id t st : Int} {f g : Nat → Bool} {told : Value} (h : DAt w b id t st f g told) (f' : Nat → Bool) : DAt (w.setCells b 3 (bl13 f')) b id t st f' g told :=
  heap_setCells b _ (bl13 f') [.int .i64 id, .int .i64 t, .int .i64 st] (bl13 f) (bl13 g ++ [told]) w rfl h
theorem DAt.setG {w : World} {b : Nat} {id t st : Int} {f g : Nat → Bool} {told : Value} (h : DAt w b id t st f g told) (g' : Nat → Bool) : DAt (w.setCells b 16 (bl13 g')) b id t st f g' told := by
  have := heap_setCells b 79 (bl13 g') ([.int .i64 id, .int .i64 t, .int .i64 st] ++ bl13 f) (bl13 g) [told] w rfl (by rw [List.append_assoc]; exact h)
  rw [List.append_assoc] at this
  exact this

/-- Three cells in a block of their own. -/
def FrAt (w : World) (b : Nat) (k fr : Int) (v : Value) : Prop := w.cell? ⟨b, 0, none⟩ = some (.int .i64 k) ∧ w.cell? ⟨b, 1, none⟩ = some (.int .i64 fr) ∧ w.cell? ⟨b, 2, none⟩ = some v
theorem FrAt.below {w w' : World} {b B : Nat} {k fr : Int} {v : Value} (h : FrAt w b k fr v) (hb : Below B w w') (hB : b < B) : FrAt w' b k fr v :=
  ⟨(hb.cell (p := ⟨b, 0, none⟩) hB).trans h.1, (hb.cell (p := ⟨b, 1, none⟩) hB).trans h.2.1, (hb.cell (p := ⟨b, 2, none⟩) hB).trans h.2.2⟩
theorem FrAt.chg {P : Nat → Prop} {w w' : World} {b : Nat} {k fr : Int} {v : Value} (h : FrAt w b k fr v) (hc : Chg P w w') (hl : b < w.heap.size) (hn : ¬ P b) : FrAt w' b k fr v :=
  ⟨(World.cell?_of_block (w := w) (hc.block b hl hn)).trans h.1, (World.cell?_of_block (w := w) (hc.block b hl hn)).trans h.2.1, (World.cell?_of_block (w := w) (hc.block b hl hn)).trans h.2.2⟩

theorem boolsAt_chg {P : Nat → Prop} {w w' : World} {b : Nat} {T : TypeId} {f : Nat → Bool} (h : BoolsAt w b T f) (hc : Chg P w w') (hn : ¬ P b) : BoolsAt w' b T f := h.block (hc.block b h.lt hn)

theorem bools_store (w : World) (f g : Nat → Bool) (T : TypeId) : BoolsAt ((w.alloc (.cells (bl13 f).toArray T)).setCells w.heap.size 0 (bl13 g)) w.heap.size T g := by
  have := heap_setCells w.heap.size T (bl13 g) [] (bl13 f) [] (w.alloc (.cells (bl13 f).toArray T)) rfl (by rw [List.append_nil]; exact heap_alloc_new w _)
  rw [List.append_nil] at this
  exact this

theorem bools_there (w : World) (T : TypeId) : (w.alloc (.cells (bl13 fun _ => false).toArray T)).there w.heap.size 0 13 := fun j hj =>
  ⟨by rw [Nat.zero_add, (bools_box w T (fun _ => false)).cell j hj]; rfl, by rw [Nat.zero_add]; exact (bools_box w T (fun _ => false)).froz j⟩

/-- What a function of sets answers, in whatever world. -/
def Says (P : Program) (fn : FuncId) (args : Array Value) (v : Value) : Prop := ∀ W : World, Calls P fn args W fun e w' => e = .returned v ∧ Below W.heap.size W w'

set_option maxHeartbeats 400000 in
set_option maxRecDepth 100000 in
theorem kshared_walk (b U : Nat) (T st : Int) (f g F G R : Nat → Bool) (told : Value) (fr : Int) (p1 p2 : Option Addr) (kl q1 m q2 n : Nat) (w : World) (U13 : U < 13) (hd : DAt w b U T st f g told)
    (h1 : ∀ W, Below w.heap.size w W → Calls Try.prog 90 #[.agg #[.int .i64 2, .int .i64 fr, .slice p1 kl q1]] W fun e w' => e = .returned (setV F) ∧ Below W.heap.size W w')
    (h2 : ∀ W, Chg (fun x => x = b) w W → Calls Try.prog 90 #[.agg #[.int .i64 3, .int .i64 U, .slice p2 m q2]] W fun e w' => e = .returned (setV G) ∧ Below W.heap.size W w')
    (hal : Says Try.prog 91 #[setV G, setV R] (.bool true)) (hsz : Says Try.prog 92 #[setV F] (.int .i64 n)) (hR : R = updB F U false) (hFU : F U = true) (hT : T ≤ n) (hm : ((m : Int) == (n : Int) - 1) = true) (hn : n ≤ 12) :
    Calls Try.prog 59 #[.pointer (some ⟨b, 0, none⟩), .agg #[.int .i64 2, .int .i64 fr, .slice p1 kl q1], .agg #[.int .i64 3, .int .i64 U, .slice p2 m q2]] w fun e w' =>
      e = .returned (.bool true) ∧ DAt w' b U T st F g told ∧ Chg (fun x => x = b) w w' := by
  have hbl := hd.lt
  have U13' : (U : Int) < 13 := by omega
  obtain ⟨W0, hW0⟩ : ∃ W0, W0 = (w.alloc (.cells #[.int .i64 2, .int .i64 fr, .slice p1 kl q1] 52)).alloc (.cells #[.int .i64 3, .int .i64 (U : Int), .slice p2 m q2] 52) := ⟨_, rfl⟩
  have hb0 : Below w.heap.size w W0 := by rw [hW0]; exact ((Below.refl _ _).alloc (Nat.le_refl _) _).alloc (by simp) _
  have z0 : w.heap.size + 2 ≤ W0.heap.size := by rw [hW0]; simp
  have F1 := hideG (show FrAt W0 w.heap.size 2 fr (.slice p1 kl q1) by rw [hW0]; refine ⟨?_, ?_, ?_⟩ <;> simp)
  have F2 := hideG (show FrAt W0 (w.heap.size + 1) 3 U (.slice p2 m q2) by rw [hW0]; refine ⟨?_, ?_, ?_⟩ <;> simp)
  have B0 := hideG hb0
  have D0 := hideG (hd.below hb0)
  have HW0 := hideG hW0
  have HFU := hideG hFU
  have HRR := hideG hR
  have H1 := hideG h1
  have H2 := hideG h2
  have HAL := hideG hal
  have HSZ := hideG hsz
  clear hW0 hb0 hFU hR hd h1 h2 hal hsz
  obtain ⟨CS, hCS⟩ : ∃ CS, CS = bl13 F := ⟨_, rfl⟩
  have L13 := hideG (show CS.length = 13 by rw [hCS]; rfl)
  have HON := hideG (show CS.toArray.all (·.oneCell') = true by rw [hCS]; exact all_oneCell_toArray (bl13_one F))
  have HS1 := hideG (show (Try.prog.info? 77).map (·.size) = some CS.toArray.size by rw [size_set, List.size_toArray, L13.out])
  have HS2 := hideG (show (Try.prog.info? 77).map (·.size) = some CS.length by rw [size_set, L13.out])
  have HCS := hideG hCS
  have H1' := hideG (show ∀ W, Below w.heap.size w W → Calls Try.prog 90 #[.agg #[.int .i64 2, .int .i64 fr, .slice p1 kl q1]] W fun e w' => e = .returned (.agg CS.toArray) ∧ Below W.heap.size W w' by rw [hCS]; exact H1.out)
  have HSZ' := hideG (show Says Try.prog 92 #[.agg CS.toArray] (.int .i64 n) by rw [hCS]; exact HSZ.out)
  clear hCS H1 HSZ
  go_enter Try.func59, Try.ntmps59
  go_upto_region 1 with fail
  rw [← HW0.out]
  obtain ⟨x0, x1, x2⟩ := F1.out
  go_wp2_with fail
  refine (H1'.out W0 B0.out).mono ?_
  rintro e w1 ⟨rfl, hb1⟩
  have s1 := hb1.size
  have D1 := hideG (D0.out.below hb1)
  have G1 := hideG (F1.out.below hb1 (by omega))
  have G2 := hideG (F2.out.below hb1 (by omega))
  have C1 := hideG (show Chg (fun x => x = b) w w1 from (Chg.of_below (S := fun x => x = b) B0.out).grow hb1)
  clear hb1 x0 x1 x2
  obtain ⟨w2, hw2⟩ : ∃ w2, w2 = w1.setCells b 3 CS := ⟨_, rfl⟩
  have hc2 : Chg (fun x => x = b) w1 w2 := by rw [hw2]; exact chg_setCells b CS 3 w1
  have D2 := hideG (show DAt w2 b U T st F g told by rw [hw2, HCS.out]; exact D1.out.setF F)
  have C2 := hideG (C1.out.also hc2)
  have K1 := hideG (G1.out.chg hc2 (by omega) (by omega))
  have K2 := hideG (G2.out.chg hc2 (by omega) (by omega))
  have s2 := hc2.size
  have T1 := hideG (show w1.there b 3 CS.toArray.size by rw [show CS.toArray.size = 13 by rw [List.size_toArray]; exact L13.out]; exact D1.out.there 3 13 (by omega))
  have HW2 := hideG hw2
  clear hw2 hc2
  go_upto_region 2 with (refine wpList_store_mid rfl 77 _ _ rfl b 3 CS.toArray rfl rfl T1.out HS1.out HON.out ?_)
  rw [← HW2.out]
  have R2 := hideG (show w2.rangeAt b 3 CS by rw [HCS.out]; exact D2.out.rangeF)
  have hb3 : Below w2.heap.size w2 ((w2.alloc (.cells #[.bool false, .bool false, .bool false, .bool false, .bool false, .bool false, .bool false, .bool false, .bool false, .bool false, .bool false, .bool false, .bool false] 77)).setCells w2.heap.size 0 CS) := below_setCells (Nat.le_refl _) _ _ _ ((Below.refl _ _).alloc (Nat.le_refl _) _)
  have T2 := hideG (show (w2.alloc (.cells #[.bool false, .bool false, .bool false, .bool false, .bool false, .bool false, .bool false, .bool false, .bool false, .bool false, .bool false, .bool false, .bool false] 77)).there w2.heap.size 0 CS.toArray.size by
    rw [show CS.toArray.size = 13 by rw [List.size_toArray]; exact L13.out]
    exact bools_there w2 77)
  have BO3 := hideG (show BoolsAt ((w2.alloc (.cells #[.bool false, .bool false, .bool false, .bool false, .bool false, .bool false, .bool false, .bool false, .bool false, .bool false, .bool false, .bool false, .bool false] 77)).setCells w2.heap.size 0 CS) w2.heap.size 77 F by rw [HCS.out]; exact bools_store w2 (fun _ => false) F _)
  obtain ⟨w3, hw3⟩ : ∃ w3, w3 = (w2.alloc (.cells #[.bool false, .bool false, .bool false, .bool false, .bool false, .bool false, .bool false, .bool false, .bool false, .bool false, .bool false, .bool false, .bool false] 77)).setCells w2.heap.size 0 CS := ⟨_, rfl⟩
  rw [← hw3] at hb3 BO3
  have HW3 := hideG hw3
  have s3 := hb3.size
  have l3 := BO3.out.lt
  have D3 := hideG (D2.out.below hb3)
  have C3 := hideG (C2.out.grow hb3)
  have M1 := hideG (K1.out.below hb3 (by omega))
  have M2 := hideG (K2.out.below hb3 (by omega))
  clear hw3 hb3
  go_upto_region 3 with (first | refine wpList_load_mid rfl 77 _ rfl b 3 rfl CS _ R2.out Try.underlying77 rfl HS2.out ?_ | refine wpList_store_mid rfl 77 _ _ rfl w2.heap.size 0 CS.toArray rfl rfl T2.out HS1.out HON.out ?_)
  rw [← HW3.out]
  have y0 := D3.out.cell 0
  change w3.cell? ⟨b, 0, none⟩ = some (.int .i64 (U : Int)) at y0
  have y1 := BO3.out.cell U U13
  have y2 := BO3.out.froz U
  obtain ⟨w4, hw4⟩ : ∃ w4, w4 = w3.setCell ⟨w2.heap.size, U, none⟩ (.bool false) := ⟨_, rfl⟩
  have hc4 : Chg (fun x => x = w2.heap.size) w3 w4 := by rw [hw4]; exact Chg.setCell w3 ⟨w2.heap.size, U, none⟩ _
  have BO4 := hideG (show BoolsAt w4 w2.heap.size 77 R by rw [hw4, HRR.out]; exact BO3.out.set U U13 false)
  have s4 := hc4.size
  have D4 := hideG (D3.out.chg hc4 (by omega))
  have N1 := hideG (M1.out.chg hc4 (by omega) (by omega))
  have N2 := hideG (M2.out.chg hc4 (by omega) (by omega))
  have C4 := hideG (show Chg (fun x => x = b) w w4 from C3.out.trans (hc4.mono (S' := fun x => x = b ∨ x = w2.heap.size) (fun x e _ => .inr e)) (fun x e hx => by rcases e with e | e <;> omega))
  have HW4 := hideG hw4
  clear hw4 hc4
  go_upto_region 4 with fail
  rw [← HW4.out]
  clear y0 y1 y2
  obtain ⟨n0, n1, n2⟩ := N2.out
  have e0 := BO4.out.cell 0 (by omega)
  have e1 := BO4.out.cell 1 (by omega)
  have e2 := BO4.out.cell 2 (by omega)
  have e3 := BO4.out.cell 3 (by omega)
  have e4 := BO4.out.cell 4 (by omega)
  have e5 := BO4.out.cell 5 (by omega)
  have e6 := BO4.out.cell 6 (by omega)
  have e7 := BO4.out.cell 7 (by omega)
  have e8 := BO4.out.cell 8 (by omega)
  have e9 := BO4.out.cell 9 (by omega)
  have e10 := BO4.out.cell 10 (by omega)
  have e11 := BO4.out.cell 11 (by omega)
  have e12 := BO4.out.cell 12 (by omega)
  have r1 : w.heap.size + 1 < w4.heap.size := by omega
  have r2 : w2.heap.size < w4.heap.size := BO4.out.lt
  refine wp_region_grow (by kernel_rfl) (by kernel_rfl) ?_
  intro I GG hI hG hGc hGn
  repeat (go_big_quiet_step (first | (go_at_call 90; exact call_grow hG hGn (H2.out _ (C4.out.grow (hG.out _)))) | (go_at_call 91; exact call_grow hG hGn (HAL.out _))))
  refine wpQuiet_nil ?_
  intro w5 hw'
  obtain ⟨u, hw''⟩ := hw'
  have hb5 := hG.out u
  rw [← hw''] at hb5
  clear hw'' hGc hGn hG u hI GG I e0 e1 e2 e3 e4 e5 e6 e7 e8 e9 e10 e11 e12 n0 n1 n2 r1 r2
  have s5 := hb5.size
  have D5 := hideG (D4.out.below hb5)
  have C5 := hideG (C4.out.grow hb5)
  have P1 := hideG (N1.out.below hb5 (by omega))
  have P2 := hideG (N2.out.below hb5 (by omega))
  have R5 := hideG (show w5.rangeAt b 3 CS by rw [HCS.out]; exact D5.out.rangeF)
  clear hb5
  go_wp2_with (refine wpList_load_mid rfl 77 _ rfl b 3 rfl CS _ R5.out Try.underlying77 rfl HS2.out ?_)
  refine (HSZ'.out w5).mono ?_
  rintro e w6 ⟨rfl, hb6⟩
  have s6 := hb6.size
  have D6 := hideG (D5.out.below hb6)
  have C6 := hideG (C5.out.grow hb6)
  obtain ⟨a0, a1, a2⟩ := P1.out.below hb6 (by omega)
  obtain ⟨b0, b1, b2⟩ := P2.out.below hb6 (by omega)
  have d0 := D6.out.cell 0
  change w6.cell? ⟨b, 0, none⟩ = some (.int .i64 (U : Int)) at d0
  have d1 := D6.out.cell 1
  change w6.cell? ⟨b, 1, none⟩ = some (.int .i64 T) at d1
  have d3 := D6.out.first U U13
  rw [HFU.out] at d3
  have U0' : (0 : Int) ≤ (U : Int) := by omega
  clear hb6
  go_wp2_with fail
  go_quiet (fail)
  go_wp2_with fail
  go_ret
  exact ⟨rfl, D6.out.below (below_drewN _ _), C6.out.grow (below_drewN _ _)⟩

end Go.Proofs.Ytchideljndagjaa

/- Contracts of package veilkeep: a diary's second answer. -/
namespace Go.Proofs.Ytchideljndagjaa
open Go.ChangeShapes Go.WideShapes Go.ChangeAt Go.RowKit
set_option linter.unusedVariables false

set_option maxHeartbeats 400000 in
set_option maxRecDepth 100000 in
theorem kmasked_walk (b U : Nat) (T st : Int) (f g F G : Nat → Bool) (told : Value) (fr fr2 : Int) (p1 p2 : Option Addr) (kl q1 m q2 n : Nat) (w : World) (U13 : U < 13) (hd : DAt w b U T st f g told)
    (h1 : ∀ W, Below w.heap.size w W → Calls Try.prog 90 #[.agg #[.int .i64 4, .int .i64 fr, .slice p1 kl q1]] W fun e w' => e = .returned (setV F) ∧ Below W.heap.size W w')
    (hwi : Says Try.prog 93 #[setV G, setV f] (.bool true)) (hsz : Says Try.prog 92 #[setV G] (.int .i64 n)) (hR : G = updB F U true) (hFU : F U = false) (hT : T ≤ n) (hn : n ≤ 12) :
    Calls Try.prog 60 #[.pointer (some ⟨b, 0, none⟩), .agg #[.int .i64 4, .int .i64 fr, .slice p1 kl q1], .agg #[.int .i64 5, .int .i64 fr2, .slice p2 m q2]] w fun e w' =>
      e = .returned (.bool true) ∧ DAt w' b U T st f G told ∧ Chg (fun x => x = b) w w' := by
  have hbl := hd.lt
  have U13' : (U : Int) < 13 := by omega
  obtain ⟨W0, hW0⟩ : ∃ W0, W0 = (w.alloc (.cells #[.int .i64 4, .int .i64 fr, .slice p1 kl q1] 52)).alloc (.cells #[.int .i64 5, .int .i64 fr2, .slice p2 m q2] 52) := ⟨_, rfl⟩
  have hb0 : Below w.heap.size w W0 := by rw [hW0]; exact ((Below.refl _ _).alloc (Nat.le_refl _) _).alloc (by simp) _
  have z0 : w.heap.size + 2 ≤ W0.heap.size := by rw [hW0]; simp
  have F1 := hideG (show FrAt W0 w.heap.size 4 fr (.slice p1 kl q1) by rw [hW0]; refine ⟨?_, ?_, ?_⟩ <;> simp)
  have F2 := hideG (show FrAt W0 (w.heap.size + 1) 5 fr2 (.slice p2 m q2) by rw [hW0]; refine ⟨?_, ?_, ?_⟩ <;> simp)
  have B0 := hideG hb0
  have D0 := hideG (hd.below hb0)
  have HW0 := hideG hW0
  have HFU := hideG hFU
  have HRR := hideG hR
  have HWI := hideG hwi
  obtain ⟨CF, hCF⟩ : ∃ CF, CF = bl13 F := ⟨_, rfl⟩
  obtain ⟨CG, hCG⟩ : ∃ CG, CG = bl13 G := ⟨_, rfl⟩
  have LF := hideG (show CF.length = 13 by rw [hCF]; rfl)
  have LG := hideG (show CG.length = 13 by rw [hCG]; rfl)
  have OF := hideG (show CF.toArray.all (·.oneCell') = true by rw [hCF]; exact all_oneCell_toArray (bl13_one F))
  have OG := hideG (show CG.toArray.all (·.oneCell') = true by rw [hCG]; exact all_oneCell_toArray (bl13_one G))
  have SF := hideG (show (Try.prog.info? 77).map (·.size) = some CF.toArray.size by rw [size_set, List.size_toArray, LF.out])
  have SG := hideG (show (Try.prog.info? 77).map (·.size) = some CG.toArray.size by rw [size_set, List.size_toArray, LG.out])
  have SL := hideG (show (Try.prog.info? 77).map (·.size) = some CG.length by rw [size_set, LG.out])
  have HCF := hideG hCF
  have HCG := hideG hCG
  have H1 := hideG (show ∀ W, Below w.heap.size w W → Calls Try.prog 90 #[.agg #[.int .i64 4, .int .i64 fr, .slice p1 kl q1]] W fun e w' => e = .returned (.agg CF.toArray) ∧ Below W.heap.size W w' by rw [hCF]; exact h1)
  have HSZ := hideG (show Says Try.prog 92 #[.agg CG.toArray] (.int .i64 n) by rw [hCG]; exact hsz)
  clear hCF hCG hW0 hb0 hFU hR hd h1 hwi hsz
  go_enter Try.func60, Try.ntmps60
  go_upto_region 1 with fail
  rw [← HW0.out]
  obtain ⟨x0, x1, x2⟩ := F1.out
  go_wp2_with fail
  refine (H1.out W0 B0.out).mono ?_
  rintro e w1 ⟨rfl, hb1⟩
  have s1 := hb1.size
  have T1 := hideG (show (w1.alloc (.cells #[.bool false, .bool false, .bool false, .bool false, .bool false, .bool false, .bool false, .bool false, .bool false, .bool false, .bool false, .bool false, .bool false] 77)).there w1.heap.size 0 CF.toArray.size by
    rw [show CF.toArray.size = 13 by rw [List.size_toArray]; exact LF.out]
    exact bools_there w1 77)
  have hb2 : Below w1.heap.size w1 ((w1.alloc (.cells #[.bool false, .bool false, .bool false, .bool false, .bool false, .bool false, .bool false, .bool false, .bool false, .bool false, .bool false, .bool false, .bool false] 77)).setCells w1.heap.size 0 CF) := below_setCells (Nat.le_refl _) _ _ _ ((Below.refl _ _).alloc (Nat.le_refl _) _)
  have BO2 := hideG (show BoolsAt ((w1.alloc (.cells #[.bool false, .bool false, .bool false, .bool false, .bool false, .bool false, .bool false, .bool false, .bool false, .bool false, .bool false, .bool false, .bool false] 77)).setCells w1.heap.size 0 CF) w1.heap.size 77 F by rw [HCF.out]; exact bools_store w1 (fun _ => false) F _)
  obtain ⟨w2, hw2⟩ : ∃ w2, w2 = (w1.alloc (.cells #[.bool false, .bool false, .bool false, .bool false, .bool false, .bool false, .bool false, .bool false, .bool false, .bool false, .bool false, .bool false, .bool false] 77)).setCells w1.heap.size 0 CF := ⟨_, rfl⟩
  rw [← hw2] at hb2 BO2
  have s2 := hb2.size
  have D2 := hideG ((D0.out.below hb1).below hb2)
  have K1 := hideG ((F1.out.below hb1 (by omega)).below hb2 (by omega))
  have K2 := hideG ((F2.out.below hb1 (by omega)).below hb2 (by omega))
  have C2 := hideG (((Chg.of_below (S := fun x => x = b) B0.out).grow hb1).grow hb2)
  have HW2 := hideG hw2
  have l2 := BO2.out.lt
  clear hw2 hb1 hb2 x0 x1 x2
  go_upto_region 2 with (refine wpList_store_mid rfl 77 _ _ rfl w1.heap.size 0 CF.toArray rfl rfl T1.out SF.out OF.out ?_)
  rw [← HW2.out]
  have y0 := D2.out.cell 0
  change w2.cell? ⟨b, 0, none⟩ = some (.int .i64 (U : Int)) at y0
  have y1 := BO2.out.cell U U13
  have y2 := BO2.out.froz U
  rw [HFU.out] at y1
  obtain ⟨w3, hw3⟩ : ∃ w3, w3 = w2.setCell ⟨w1.heap.size, U, none⟩ (.bool true) := ⟨_, rfl⟩
  have hc3 : Chg (fun x => x = w1.heap.size) w2 w3 := by rw [hw3]; exact Chg.setCell w2 ⟨w1.heap.size, U, none⟩ _
  have BO3 := hideG (show BoolsAt w3 w1.heap.size 77 G by rw [hw3, HRR.out]; exact BO2.out.set U U13 true)
  have s3 := hc3.size
  have D3 := hideG (D2.out.chg hc3 (by omega))
  have M1 := hideG (K1.out.chg hc3 (by omega) (by omega))
  have M2 := hideG (K2.out.chg hc3 (by omega) (by omega))
  have C3 := hideG (show Chg (fun x => x = b) w w3 from C2.out.trans (hc3.mono (S' := fun x => x = b ∨ x = w1.heap.size) (fun x e _ => .inr e)) (fun x e hx => by rcases e with e | e <;> omega))
  have HW3 := hideG hw3
  clear hw3 hc3
  go_upto_region 5 with fail
  rw [← HW3.out]
  clear y0 y1 y2
  have R3 := hideG (show w3.rangeAt w1.heap.size 0 CG by rw [HCG.out]; exact BO3.out.range)
  have T3 := hideG (show w3.there b 16 CG.toArray.size by rw [show CG.toArray.size = 13 by rw [List.size_toArray]; exact LG.out]; exact D3.out.there 16 13 (by omega))
  obtain ⟨w4, hw4⟩ : ∃ w4, w4 = w3.setCells b 16 CG := ⟨_, rfl⟩
  have hc4 : Chg (fun x => x = b) w3 w4 := by rw [hw4]; exact chg_setCells b CG 16 w3
  have D4 := hideG (show DAt w4 b U T st f G told by rw [hw4, HCG.out]; exact D3.out.setG G)
  have BO4 := hideG (boolsAt_chg BO3.out hc4 (by omega))
  have s4 := hc4.size
  have N1 := hideG (M1.out.chg hc4 (by omega) (by omega))
  have N2 := hideG (M2.out.chg hc4 (by omega) (by omega))
  have C4 := hideG (C3.out.also hc4)
  have HW4 := hideG hw4
  clear hw4 hc4
  go_upto_region 6 with (first | refine wpList_load_mid rfl 77 _ rfl w1.heap.size 0 rfl CG _ R3.out Try.underlying77 rfl SL.out ?_ | refine wpList_store_mid rfl 77 _ _ rfl b 16 CG.toArray rfl rfl T3.out SG.out OG.out ?_)
  rw [← HW4.out]
  simp only [Act.put]
  have e0 := BO4.out.cell 0 (by omega)
  have e1 := BO4.out.cell 1 (by omega)
  have e2 := BO4.out.cell 2 (by omega)
  have e3 := BO4.out.cell 3 (by omega)
  have e4 := BO4.out.cell 4 (by omega)
  have e5 := BO4.out.cell 5 (by omega)
  have e6 := BO4.out.cell 6 (by omega)
  have e7 := BO4.out.cell 7 (by omega)
  have e8 := BO4.out.cell 8 (by omega)
  have e9 := BO4.out.cell 9 (by omega)
  have e10 := BO4.out.cell 10 (by omega)
  have e11 := BO4.out.cell 11 (by omega)
  have e12 := BO4.out.cell 12 (by omega)
  have v0 := D4.out.first 0 (by omega)
  have v1 := D4.out.first 1 (by omega)
  have v2 := D4.out.first 2 (by omega)
  have v3 := D4.out.first 3 (by omega)
  have v4 := D4.out.first 4 (by omega)
  have v5 := D4.out.first 5 (by omega)
  have v6 := D4.out.first 6 (by omega)
  have v7 := D4.out.first 7 (by omega)
  have v8 := D4.out.first 8 (by omega)
  have v9 := D4.out.first 9 (by omega)
  have v10 := D4.out.first 10 (by omega)
  have v11 := D4.out.first 11 (by omega)
  have v12 := D4.out.first 12 (by omega)
  have r1 : b < w4.heap.size := D4.out.lt
  have r2 : w1.heap.size < w4.heap.size := BO4.out.lt
  refine wp_region_grow (by kernel_rfl) (by kernel_rfl) ?_
  intro I GG hI hG hGc hGn
  repeat (go_big_quiet_step (first | (go_at_call 93; exact call_grow hG hGn (HWI.out _))))
  refine wpQuiet_nil ?_
  intro w5 hw'
  obtain ⟨u, hw''⟩ := hw'
  have hb5 := hG.out u
  rw [← hw''] at hb5
  clear hw'' hGc hGn hG u hI GG I e0 e1 e2 e3 e4 e5 e6 e7 e8 e9 e10 e11 e12 v0 v1 v2 v3 v4 v5 v6 v7 v8 v9 v10 v11 v12 r1 r2
  have s5 := hb5.size
  have D5 := hideG (D4.out.below hb5)
  have C5 := hideG (C4.out.grow hb5)
  have P1 := hideG (N1.out.below hb5 (by omega))
  have P2 := hideG (N2.out.below hb5 (by omega))
  have R5 := hideG (show w5.rangeAt w1.heap.size 0 CG by rw [HCG.out]; exact (BO4.out.below hb5 BO4.out.lt).range)
  clear hb5
  go_wp2_with (refine wpList_load_mid rfl 77 _ rfl w1.heap.size 0 rfl CG _ R5.out Try.underlying77 rfl SL.out ?_)
  refine (HSZ.out w5).mono ?_
  rintro e w6 ⟨rfl, hb6⟩
  have D6 := hideG (D5.out.below hb6)
  have C6 := hideG (C5.out.grow hb6)
  obtain ⟨a0, a1, a2⟩ := P1.out.below hb6 (by omega)
  obtain ⟨b0, b1, b2⟩ := P2.out.below hb6 (by omega)
  have d1 := D6.out.cell 1
  change w6.cell? ⟨b, 1, none⟩ = some (.int .i64 T) at d1
  clear hb6
  go_wp2_with fail
  go_ret
  exact ⟨ret_bool (by first | rfl | (simp; omega)), D6.out, C6.out⟩

end Go.Proofs.Ytchideljndagjaa

/- Contracts of package veilkeep: a diary's third answer. -/
namespace Go.Proofs.Ytchideljndagjaa
open Go.ChangeShapes Go.WideShapes Go.ChangeAt Go.RowKit
set_option linter.unusedVariables false

set_option maxHeartbeats 800000 in
set_option maxRecDepth 100000 in
theorem ktells_walk (b U : Nat) (T st : Int) (f g F G : Nat → Bool) (told : Value) (fr fr2 : Int) (p1 p2 : Option Addr) (kl q1 m q2 n : Nat) (l : List Frm.It) (w : World) (U13 : U < 13) (hd : DAt w b U T st f g told)
    (h1 : ∀ W, Below w.heap.size w W → Calls Try.prog 90 #[.agg #[.int .i64 6, .int .i64 fr, .slice p1 kl q1]] W fun e w' => e = .returned (setV F) ∧ Below W.heap.size W w')
    (h2 : ∀ W, Below w.heap.size w W → Calls Try.prog 90 #[.agg #[.int .i64 7, .int .i64 fr2, .slice p2 m q2]] W fun e w' => e = .returned (setV G) ∧ Below W.heap.size W w')
    (hi : ItemsAt w (.slice p2 m q2) l) (hids : ∀ x ∈ l, ∃ u : Nat, x.1 = u ∧ u < 13 ∧ x.2.1 = if F u = true then 1 else 2)
    (hwi : Says Try.prog 93 #[setV F, setV g] (.bool true)) (hal : Says Try.prog 91 #[setV G, setV g] (.bool true)) (hsz : Says Try.prog 92 #[setV F] (.int .i64 n)) (hsg : Says Try.prog 92 #[setV g] (.int .i64 m)) (hFU : F U = true) (hT : T ≤ n) (hn : n ≤ 12) :
    Calls Try.prog 61 #[.pointer (some ⟨b, 0, none⟩), .agg #[.int .i64 6, .int .i64 fr, .slice p1 kl q1], .agg #[.int .i64 7, .int .i64 fr2, .slice p2 m q2]] w fun e w' =>
      e = .returned (.bool true) ∧ DAt w' b U T st f g (.slice p2 m q2) ∧ Chg (fun x => x = b) w w' := by
  have hbl := hd.lt
  have U13' : (U : Int) < 13 := by omega
  obtain ⟨W0, hW0⟩ : ∃ W0, W0 = (w.alloc (.cells #[.int .i64 6, .int .i64 fr, .slice p1 kl q1] 52)).alloc (.cells #[.int .i64 7, .int .i64 fr2, .slice p2 m q2] 52) := ⟨_, rfl⟩
  have hb0 : Below w.heap.size w W0 := by rw [hW0]; exact ((Below.refl _ _).alloc (Nat.le_refl _) _).alloc (by simp) _
  have z0 : w.heap.size + 2 ≤ W0.heap.size := by rw [hW0]; simp
  have F1 := hideG (show FrAt W0 w.heap.size 6 fr (.slice p1 kl q1) by rw [hW0]; refine ⟨?_, ?_, ?_⟩ <;> simp)
  have F2 := hideG (show FrAt W0 (w.heap.size + 1) 7 fr2 (.slice p2 m q2) by rw [hW0]; refine ⟨?_, ?_, ?_⟩ <;> simp)
  have B0 := hideG hb0
  have D0 := hideG (hd.below hb0)
  have HW0 := hideG hW0
  have HFU := hideG hFU
  have HWI := hideG hwi
  have HAL := hideG hal
  have HSG := hideG hsg
  have H2 := hideG h2
  obtain ⟨a', cap', hv', l2, l3, _, hcl⟩ := items_view hi
  have hml : m = l.length := by cases hv'; rfl
  have hm63 : (m : Int) ≤ 9223372036854775807 := by omega
  have hcl2 : ∀ j, j < m → ∃ b' off, p2 = some ⟨b', off, none⟩ ∧ b' < w.heap.size ∧ ItemAt w b' (off + j * 4) (Frm.it l j) := fun j hj => by
    have := hcl j (by omega)
    cases hv'
    exact this
  have HC := hideG hcl2
  have HIDS := hideG (fun j (hj : j < m) => hids (Frm.it l j) (it_mem (by omega)))
  obtain ⟨CF, hCF⟩ : ∃ CF, CF = bl13 F := ⟨_, rfl⟩
  have LF := hideG (show CF.length = 13 by rw [hCF]; rfl)
  have OF := hideG (show CF.toArray.all (·.oneCell') = true by rw [hCF]; exact all_oneCell_toArray (bl13_one F))
  have SF := hideG (show (Try.prog.info? 77).map (·.size) = some CF.toArray.size by rw [size_set, List.size_toArray, LF.out])
  have SL := hideG (show (Try.prog.info? 77).map (·.size) = some CF.length by rw [size_set, LF.out])
  have HCF := hideG hCF
  have H1 := hideG (show ∀ W, Below w.heap.size w W → Calls Try.prog 90 #[.agg #[.int .i64 6, .int .i64 fr, .slice p1 kl q1]] W fun e w' => e = .returned (.agg CF.toArray) ∧ Below W.heap.size W w' by rw [hCF]; exact h1)
  have HSZ := hideG (show Says Try.prog 92 #[.agg CF.toArray] (.int .i64 n) by rw [hCF]; exact hsz)
  clear hCF hW0 hb0 hFU hd h1 h2 hwi hal hsz hsg hi hids hcl hcl2 hv' hml l2 l3
  go_enter Try.func61, Try.ntmps61
  go_upto_region 1 with fail
  rw [← HW0.out]
  obtain ⟨x0, x1, x2⟩ := F1.out
  go_wp2_with fail
  refine (H1.out W0 B0.out).mono ?_
  rintro e w1 ⟨rfl, hb1⟩
  have s1 := hb1.size
  have T1 := hideG (show (w1.alloc (.cells #[.bool false, .bool false, .bool false, .bool false, .bool false, .bool false, .bool false, .bool false, .bool false, .bool false, .bool false, .bool false, .bool false] 77)).there w1.heap.size 0 CF.toArray.size by
    rw [show CF.toArray.size = 13 by rw [List.size_toArray]; exact LF.out]
    exact bools_there w1 77)
  have hb2 : Below w1.heap.size w1 ((w1.alloc (.cells #[.bool false, .bool false, .bool false, .bool false, .bool false, .bool false, .bool false, .bool false, .bool false, .bool false, .bool false, .bool false, .bool false] 77)).setCells w1.heap.size 0 CF) := below_setCells (Nat.le_refl _) _ _ _ ((Below.refl _ _).alloc (Nat.le_refl _) _)
  have BO2 := hideG (show BoolsAt ((w1.alloc (.cells #[.bool false, .bool false, .bool false, .bool false, .bool false, .bool false, .bool false, .bool false, .bool false, .bool false, .bool false, .bool false, .bool false] 77)).setCells w1.heap.size 0 CF) w1.heap.size 77 F by rw [HCF.out]; exact bools_store w1 (fun _ => false) F _)
  obtain ⟨w2, hw2⟩ : ∃ w2, w2 = (w1.alloc (.cells #[.bool false, .bool false, .bool false, .bool false, .bool false, .bool false, .bool false, .bool false, .bool false, .bool false, .bool false, .bool false, .bool false] 77)).setCells w1.heap.size 0 CF := ⟨_, rfl⟩
  rw [← hw2] at hb2 BO2
  have s2 := hb2.size
  have D2 := hideG ((D0.out.below hb1).below hb2)
  have K1 := hideG ((F1.out.below hb1 (by omega)).below hb2 (by omega))
  have K2 := hideG ((F2.out.below hb1 (by omega)).below hb2 (by omega))
  have B2 := hideG ((B0.out.trans (hb1.mono (by omega))).trans (hb2.mono (by omega)))
  have HW2 := hideG hw2
  have l2 := BO2.out.lt
  clear hw2 hb1 hb2 x0 x1 x2
  go_upto_region 2 with (refine wpList_store_mid rfl 77 _ _ rfl w1.heap.size 0 CF.toArray rfl rfl T1.out SF.out OF.out ?_)
  rw [← HW2.out]
  simp only [Act.put]
  have e0 := BO2.out.cell 0 (by omega)
  have e1 := BO2.out.cell 1 (by omega)
  have e2 := BO2.out.cell 2 (by omega)
  have e3 := BO2.out.cell 3 (by omega)
  have e4 := BO2.out.cell 4 (by omega)
  have e5 := BO2.out.cell 5 (by omega)
  have e6 := BO2.out.cell 6 (by omega)
  have e7 := BO2.out.cell 7 (by omega)
  have e8 := BO2.out.cell 8 (by omega)
  have e9 := BO2.out.cell 9 (by omega)
  have e10 := BO2.out.cell 10 (by omega)
  have e11 := BO2.out.cell 11 (by omega)
  have e12 := BO2.out.cell 12 (by omega)
  have v0 := D2.out.second 0 (by omega)
  have v1 := D2.out.second 1 (by omega)
  have v2 := D2.out.second 2 (by omega)
  have v3 := D2.out.second 3 (by omega)
  have v4 := D2.out.second 4 (by omega)
  have v5 := D2.out.second 5 (by omega)
  have v6 := D2.out.second 6 (by omega)
  have v7 := D2.out.second 7 (by omega)
  have v8 := D2.out.second 8 (by omega)
  have v9 := D2.out.second 9 (by omega)
  have v10 := D2.out.second 10 (by omega)
  have v11 := D2.out.second 11 (by omega)
  have v12 := D2.out.second 12 (by omega)
  have r1 : b < w2.heap.size := D2.out.lt
  have r2 : w1.heap.size < w2.heap.size := BO2.out.lt
  refine wp_region_grow (by kernel_rfl) (by kernel_rfl) ?_
  intro I GG hI hG hGc hGn
  repeat (go_big_quiet_step (first | (go_at_call 93; exact call_grow hG hGn (HWI.out _))))
  refine wpQuiet_nil ?_
  intro w3 hw'
  obtain ⟨u, hw''⟩ := hw'
  have hb3 := hG.out u
  rw [← hw''] at hb3
  clear hw'' hGc hGn hG u hI GG I e0 e1 e2 e3 e4 e5 e6 e7 e8 e9 e10 e11 e12 v0 v1 v2 v3 v4 v5 v6 v7 v8 v9 v10 v11 v12 r1 r2
  have s3 := hb3.size
  have D3 := hideG (D2.out.below hb3)
  have BO3 := hideG (BO2.out.below hb3 BO2.out.lt)
  have M1 := hideG (K1.out.below hb3 (by omega))
  have M2 := hideG (K2.out.below hb3 (by omega))
  have B3 := hideG (B2.out.trans (hb3.mono (by omega)))
  have R3 := hideG (show w3.rangeAt w1.heap.size 0 CF by rw [HCF.out]; exact BO3.out.range)
  clear hb3
  go_wp2_with (refine wpList_load_mid rfl 77 _ rfl w1.heap.size 0 rfl CF _ R3.out Try.underlying77 rfl SL.out ?_)
  refine (HSZ.out w3).mono ?_
  rintro e w4 ⟨rfl, hb4⟩
  have s4 := hb4.size
  have D4 := hideG (D3.out.below hb4)
  have BO4 := hideG (BO3.out.below hb4 BO3.out.lt)
  have N1 := hideG (M1.out.below hb4 (by omega))
  have N2 := hideG (M2.out.below hb4 (by omega))
  have B4 := hideG (B3.out.trans (hb4.mono (by omega)))
  clear hb4
  obtain ⟨a0, a1, a2⟩ := N1.out
  obtain ⟨b0, b1, b2⟩ := N2.out
  have d0 := D4.out.cell 0
  change w4.cell? ⟨b, 0, none⟩ = some (.int .i64 (U : Int)) at d0
  have d1 := D4.out.cell 1
  change w4.cell? ⟨b, 1, none⟩ = some (.int .i64 T) at d1
  have y1 := BO4.out.cell U U13
  rw [HFU.out] at y1
  go_wp2_with fail
  clear a0 a1 a2 d0 d1 y1
  have v0 := D4.out.second 0 (by omega)
  have v1 := D4.out.second 1 (by omega)
  have v2 := D4.out.second 2 (by omega)
  have v3 := D4.out.second 3 (by omega)
  have v4 := D4.out.second 4 (by omega)
  have v5 := D4.out.second 5 (by omega)
  have v6 := D4.out.second 6 (by omega)
  have v7 := D4.out.second 7 (by omega)
  have v8 := D4.out.second 8 (by omega)
  have v9 := D4.out.second 9 (by omega)
  have v10 := D4.out.second 10 (by omega)
  have v11 := D4.out.second 11 (by omega)
  have v12 := D4.out.second 12 (by omega)
  have r1 : b < w4.heap.size := D4.out.lt
  have r2 : w.heap.size + 1 < w4.heap.size := by omega
  refine wp_region_grow (by kernel_rfl) (by kernel_rfl) ?_
  intro I GG hI hG hGc hGn
  repeat (go_big_quiet_step (first | (go_at_call 90; exact call_grow hG hGn (H2.out _ (B4.out.trans ((hG.out _).mono (by omega))))) | (go_at_call 91; exact call_grow hG hGn (HAL.out _))))
  refine wpQuiet_nil ?_
  intro w5 hw'
  obtain ⟨u, hw''⟩ := hw'
  have hb5 := hG.out u
  rw [← hw''] at hb5
  clear hw'' hGc hGn hG u hI GG I v0 v1 v2 v3 v4 v5 v6 v7 v8 v9 v10 v11 v12 r1 r2 b0 b1 b2
  have s5 := hb5.size
  have D5 := hideG (D4.out.below hb5)
  have BO5 := hideG (BO4.out.below hb5 BO4.out.lt)
  have P2 := hideG (N2.out.below hb5 (by omega))
  have B5 := hideG (B4.out.trans (hb5.mono (by omega)))
  clear hb5
  obtain ⟨b0, b1, b2⟩ := P2.out
  have v0 := D5.out.second 0 (by omega)
  have v1 := D5.out.second 1 (by omega)
  have v2 := D5.out.second 2 (by omega)
  have v3 := D5.out.second 3 (by omega)
  have v4 := D5.out.second 4 (by omega)
  have v5 := D5.out.second 5 (by omega)
  have v6 := D5.out.second 6 (by omega)
  have v7 := D5.out.second 7 (by omega)
  have v8 := D5.out.second 8 (by omega)
  have v9 := D5.out.second 9 (by omega)
  have v10 := D5.out.second 10 (by omega)
  have v11 := D5.out.second 11 (by omega)
  have v12 := D5.out.second 12 (by omega)
  have r1 : b < w5.heap.size := D5.out.lt
  have r2 : w.heap.size + 1 < w5.heap.size := by omega
  have emm : ((m : Int) != (m : Int)) = false := by simp
  go_wp2_with fail
  refine wp_region_grow (by kernel_rfl) (by kernel_rfl) ?_
  intro I GG hI hG hGc hGn
  repeat (go_big_quiet_step (first | (go_at_call 92; exact call_grow hG hGn (HSG.out _))))
  refine wpQuiet_nil ?_
  intro w6 hw'
  obtain ⟨u, hw''⟩ := hw'
  have hb6 := hG.out u
  rw [← hw''] at hb6
  clear hw'' hGc hGn hG u hI GG I v0 v1 v2 v3 v4 v5 v6 v7 v8 v9 v10 v11 v12 r1 r2 b0 b1 b2
  have s6 := hb6.size
  have D6 := hideG (D5.out.below hb6)
  have BO6 := hideG (BO5.out.below hb6 BO5.out.lt)
  have Q2 := hideG (P2.out.below hb6 (by omega))
  have B6 := hideG (B5.out.trans (hb6.mono (by omega)))
  clear hb6 emm
  go_wp2_with fail
  go_loopw [11] (fun i wr => ∃ (j : Nat) (nq : Nat), j ≤ m ∧ i = .int .i64 j ∧ wr = w6.drewN nq) (fun i _ => m - (intOf i).toNat)
  case atStart => exact ⟨0, 0, Nat.zero_le _, rfl, rfl⟩
  case round =>
    obtain ⟨j, nq0, hj, rfl, hwr⟩ := hrel
    have hbr : Below w6.heap.size w6 wr := by rw [hwr]; exact below_drewN _ _
    have sr := hbr.size
    obtain ⟨b0, b1, b2⟩ := Q2.out.below hbr (by omega)
    have HWR := hideG hwr
    clear hwr
    by_cases hlt : j < m
    · obtain ⟨b', off, rfl, hb, hit⟩ := HC.out j hlt
      obtain ⟨i0, i1, i2, i3⟩ := hit.below hb (B6.out.trans (hbr.mono (by omega)))
      obtain ⟨u, hu1, hu2, hu3⟩ := HIDS.out j hlt
      rw [hu1] at i0
      rw [hu3] at i1
      have t1 := (BO6.out.below hbr BO6.out.lt).cell u hu2
      have hu2' : (u : Int) < 13 := by omega
      generalize (Frm.it l j).2.2.1 = xb at *
      generalize (Frm.it l j).2.2.2 = xc at *
      clear hit hu1 hu3 hbr
      cases q : F u
      · rw [q] at t1 i1
        rw [if_neg (by simp)] at i1
        clear q
        go_wp2_with fail
        go_quiet (fail)
        go_wp2_with fail
        go_roundw
        case rel => exact ⟨j + 1, nq0 + nq, by omega, by go_num, by rw [HWR.out]; first | rfl | simp⟩
        case measure => simp [intOf]; omega
      · rw [q] at t1 i1
        rw [if_pos rfl] at i1
        clear q
        go_wp2_with fail
        go_quiet (fail)
        go_wp2_with fail
        go_roundw
        case rel => exact ⟨j + 1, nq0 + nq, by omega, by go_num, by rw [HWR.out]; first | rfl | simp⟩
        case measure => simp [intOf]; omega
    · have D7 := hideG (D6.out.below hbr)
      have d29 := D7.out.cell 29
      change wr.cell? ⟨b, 29, none⟩ = some told at d29
      have f29 := D7.out.froz 29
      have BR := hideG (B6.out.trans (hbr.mono (by omega)))
      clear hbr
      go_wp2_with fail
      go_ret
      exact ⟨rfl, D7.out.setTold _, (Chg.of_below (S := fun x => x = b) BR.out).also (Chg.setCell wr ⟨b, 29, none⟩ _)⟩

end Go.Proofs.Ytchideljndagjaa

/- Contracts of package veilkeep: bytes that a client took, and its answer. -/
namespace Go.Proofs.Ytchideljndagjaa
open Go.ChangeShapes Go.WideShapes Go.ChangeAt Go.RowKit
set_option linter.unusedVariables false

theorem kheard_nil (b : Nat) (s : ByteArray) (w : World) :
    Calls Try.prog 38 #[.pointer (some ⟨b, 0, none⟩), .string s, .slice none 0 0] w fun e w' => e = .returned (.bool true) ∧ w' = w := by
  go_enter Try.func38, Try.ntmps38
  go_wp2_with fail
  go_ret
  exact ⟨rfl, rfl⟩

set_option maxHeartbeats 800000 in
set_option maxRecDepth 100000 in
theorem kheard_shared (b U : Nat) (T : Int) (f g : Nat → Bool) (told : Value) (s : ByteArray) (hs : s.size ≤ maxLen) (va : Value) (k1 fr1 : Int) (l1 : List Frm.It) (hd1 : Frm.decF (bl s) = some (k1, fr1, l1)) (k2 : Int) (l2 : List Frm.It) (ok2 : Frm.okF k2 U l2 = true)
    (w : World) (hva : BytesAt w va (Frm.encF k2 U l2)) (hdia : DAt w b U T 0 f g told) (R : (Nat → Bool) → (Nat → Bool) → Value → World → Prop)
    (hcall : ∀ (W : World) (p1 p2 : Option Addr) (q1 q2 : Nat), DAt W b U T 1 f g told → ItemsAt W (.slice p1 l1.length q1) l1 → ItemsAt W (.slice p2 l2.length q2) l2 → (∀ x, (Value.slice p2 l2.length q2).ownBlock = some x → w.heap.size ≤ x ∧ x < W.heap.size) →
      Calls Try.prog 59 #[.pointer (some ⟨b, 0, none⟩), .agg #[.int .i64 k1, .int .i64 fr1, .slice p1 l1.length q1], .agg #[.int .i64 k2, .int .i64 U, .slice p2 l2.length q2]] W fun e w' => e = .returned (.bool true) ∧ (∃ f' g' told', DAt w' b U T 1 f' g' told' ∧ R f' g' told' w') ∧ Chg (fun x => x = b) W w') :
    Calls Try.prog 38 #[.pointer (some ⟨b, 0, none⟩), .string s, va] w fun e w' => e = .returned (.bool true) ∧ (∃ f' g' told', DAt w' b U T 1 f' g' told' ∧ R f' g' told' w') ∧ Chg (fun x => x = b) w w' := by
  obtain ⟨v0, w0, hcv, hba, hb0⟩ := conv_ex w s hs
  have s0 := hb0.size
  have hbl := hdia.lt
  have HV1 := hideG (veilDecode v0 (bl s) w0 hba)
  obtain ⟨x1, x2, x3, x4⟩ := d_some hd1
  rw [x1, x2, x3, x4] at HV1
  obtain ⟨y1, y2, y3⟩ := Frm.enc_dec (bl_isB s) hd1
  have IN1 := hideG (okF_in y1)
  have IN2 := hideG (okF_in ok2)
  obtain ⟨z1, z2, z3, z4⟩ := d_some (Frm.dec_enc ok2)
  have HV2 := hideG (fun (W : World) (hb : Below w.heap.size w W) => veilDecode va (Frm.encF k2 U l2) W (hva.below hb))
  rw [z1, z2, z3, z4] at HV2
  obtain ⟨aa, ca, rfl, -⟩ := bytes_view hva
  have hln := Frm.encF_length k2 U l2
  obtain ⟨L, hL⟩ : ∃ L, L = (Frm.encF k2 U l2).length := ⟨_, rfl⟩
  rw [← hL] at HV2 hln ⊢
  have L3 : (3 : Int) ≤ (L : Int) := by omega
  have LZ : ((L : Int) == 0) = false := by simp; omega
  have HCV := hcv
  have B0 := hideG hb0
  have HC := hideG hcall
  have DD := hideG (fun (W : World) (hb : Below w.heap.size w W) => hdia.below hb)
  clear hL hln hb0 hba hva hdia hcall x1 x2 x3 x4 y1 y2 y3 z1 z2 z3 z4 hcv ok2 hd1
  go_enter Try.func38, Try.ntmps38
  go_wp2_with fail
  refine HV1.out.mono ?_
  rintro e w1 ⟨vi, rfl, hown1, hb1⟩
  obtain ⟨p1, q1, hv1⟩ := owns_form hown1
  subst hv1
  have s1 := hb1.size
  obtain ⟨w1', hw1'⟩ : ∃ w1', w1' = w1.alloc (.cells #[.int .i64 k1, .int .i64 fr1, .slice p1 l1.length q1] 52) := ⟨_, rfl⟩
  have hb1' : Below w1.heap.size w1 w1' := by rw [hw1']; exact (Below.refl _ _).alloc (Nat.le_refl _) _
  have z1' : w1'.heap.size = w1.heap.size + 1 := by rw [hw1']; simp
  have Z1 := hideG z1'
  have OW1 := hideG (fun x (hx : (Value.slice p1 l1.length q1).ownBlock = some x) => (show w.heap.size ≤ x by have := (hown1.lt x hx).1; omega))
  have I1 := hideG ((itemsAt_of_owns hown1 IN1.out).below hb1')
  have F1 := hideG (show FrAt w1' w1.heap.size k1 fr1 (.slice p1 l1.length q1) by rw [hw1']; refine ⟨?_, ?_, ?_⟩ <;> simp)
  have B1 := hideG (show Below w.heap.size w w1' from (B0.out.trans (hb1.mono s0)).trans (hb1'.mono (by omega)))
  have HW1 := hideG hw1'
  clear hown1 hb1 hb1' hw1' z1' HCV
  go_wp2_with fail
  rw [← HW1.out]
  refine (HV2.out w1' B1.out).mono ?_
  rintro e w2 ⟨vo, rfl, hown2, hb2⟩
  obtain ⟨p2, q2, hv2⟩ := owns_form hown2
  subst hv2
  have s2 := hb2.size
  have zz1 := Z1.out
  obtain ⟨w2', hw2'⟩ : ∃ w2', w2' = w2.alloc (.cells #[.int .i64 k2, .int .i64 (U : Int), .slice p2 l2.length q2] 52) := ⟨_, rfl⟩
  have hb2' : Below w2.heap.size w2 w2' := by rw [hw2']; exact (Below.refl _ _).alloc (Nat.le_refl _) _
  have z2' : w2'.heap.size = w2.heap.size + 1 := by rw [hw2']; simp
  have I2 := hideG ((itemsAt_of_owns hown2 IN2.out).below hb2')
  have OW2 := hideG (fun x (hx : (Value.slice p2 l2.length q2).ownBlock = some x) => (show w.heap.size ≤ x ∧ x < w2.heap.size from ⟨by have := (hown2.lt x hx).1; omega, (hown2.lt x hx).2⟩))
  have I1' := hideG ((I1.out.below hb2).below hb2')
  have F2 := hideG (show FrAt w2' w2.heap.size k2 U (.slice p2 l2.length q2) by rw [hw2']; refine ⟨?_, ?_, ?_⟩ <;> simp)
  have F1' := hideG ((F1.out.below hb2 (by omega)).below hb2' (by omega))
  have B2 := hideG (show Below w.heap.size w w2' from (B1.out.trans (hb2.mono (by omega))).trans (hb2'.mono (by omega)))
  have Z2 := hideG z2'
  have HW2 := hideG hw2'
  clear hown2 hb2 hb2' hw2' z2' zz1
  go_upto_region 5 with fail
  rw [← HW2.out]
  try simp only [Act.put]
  have DA := hideG (DD.out w2' B2.out)
  obtain ⟨g0, g1, g2⟩ := F2.out
  have d0 := DA.out.cell 0
  change w2'.cell? ⟨b, 0, none⟩ = some (.int .i64 (U : Int)) at d0
  have euu : ((U : Int) != (U : Int)) = false := by simp
  go_wp2_with fail
  go_quiet (fail)
  have hb3 := below_drewN w2' nq
  generalize w2'.drewN nq = w3 at *
  have s3 := hb3.size
  have zz2 := Z2.out
  have D3 := hideG (DA.out.below hb3)
  have J1 := hideG (I1'.out.below hb3)
  have J2 := hideG (I2.out.below hb3)
  have G1 := hideG (F1'.out.below hb3 (by have := Z1.out; omega))
  have G2 := hideG (F2.out.below hb3 (by omega))
  have B3 := hideG (B2.out.trans (hb3.mono B2.out.size))
  clear hb3 g0 g1 g2 d0 euu
  have c2 := D3.out.cell 2
  change w3.cell? ⟨b, 2, none⟩ = some (.int .i64 0) at c2
  have cf := D3.out.froz 2
  obtain ⟨w4, hw4⟩ : ∃ w4, w4 = w3.setCell ⟨b, 2, none⟩ (.int .i64 1) := ⟨_, rfl⟩
  have hc4 : Chg (fun x => x = b) w3 w4 := by rw [hw4]; exact Chg.setCell w3 ⟨b, 2, none⟩ _
  have s4 := hc4.size
  have D4 := hideG (show DAt w4 b U T 1 f g told by rw [hw4]; exact D3.out.setSt 1)
  have hne1 : w1.heap.size ≠ b := by have := Z1.out; have := B0.out.size; omega
  have hne2 : w2.heap.size ≠ b := by have := Z1.out; have := B0.out.size; omega
  obtain ⟨a0, a1, a2⟩ := G1.out.chg hc4 (by have := Z1.out; omega) hne1
  obtain ⟨e0, e1, e2⟩ := G2.out.chg hc4 (by omega) hne2
  have nb : ∀ (v : Value) (l : List Frm.It), ItemsAt w3 v l → (∀ x, v.ownBlock = some x → x ≠ b) → ItemsAt w4 v l := fun v l hi hx => hi.chg hc4 (fun x e hxx => hx x e hxx)
  have CON := hideG (HC.out w4 p1 p2 q1 q2 D4.out (nb _ _ J1.out (fun x hx e => by have := OW1.out x hx; omega)) (nb _ _ J2.out (fun x hx e => by have := (OW2.out x hx).1; omega)) (fun x hx => ⟨(OW2.out x hx).1, by have := (OW2.out x hx).2; omega⟩))
  have C4 := hideG (show Chg (fun x => x = b) w w4 from (Chg.of_below (S := fun x => x = b) B3.out).also hc4)
  have dd2 := D4.out.cell 2
  change w4.cell? ⟨b, 2, none⟩ = some (.int .i64 1) at dd2
  have HW4 := hideG hw4
  clear hc4 hw4 nb
  go_upto_region 8 with fail
  rw [← HW4.out]
  try simp only [Act.put]
  clear c2 cf
  go_wp2_with fail
  refine CON.out.mono ?_
  rintro e w5 ⟨rfl, hex, hch⟩
  have HEX := hideG hex
  have HCH := hideG hch
  clear hex hch
  go_wp2_with fail
  go_ret
  exact ⟨rfl, HEX.out, C4.out.also HCH.out⟩

set_option maxHeartbeats 800000 in
set_option maxRecDepth 100000 in
theorem kheard_masked (b U : Nat) (T : Int) (f g : Nat → Bool) (told : Value) (s : ByteArray) (hs : s.size ≤ maxLen) (va : Value) (k1 fr1 : Int) (l1 : List Frm.It) (hd1 : Frm.decF (bl s) = some (k1, fr1, l1)) (k2 : Int) (l2 : List Frm.It) (ok2 : Frm.okF k2 U l2 = true)
    (w : World) (hva : BytesAt w va (Frm.encF k2 U l2)) (hdia : DAt w b U T 1 f g told) (R : (Nat → Bool) → (Nat → Bool) → Value → World → Prop)
    (hcall : ∀ (W : World) (p1 p2 : Option Addr) (q1 q2 : Nat), DAt W b U T 2 f g told → ItemsAt W (.slice p1 l1.length q1) l1 → ItemsAt W (.slice p2 l2.length q2) l2 → (∀ x, (Value.slice p2 l2.length q2).ownBlock = some x → w.heap.size ≤ x ∧ x < W.heap.size) →
      Calls Try.prog 60 #[.pointer (some ⟨b, 0, none⟩), .agg #[.int .i64 k1, .int .i64 fr1, .slice p1 l1.length q1], .agg #[.int .i64 k2, .int .i64 U, .slice p2 l2.length q2]] W fun e w' => e = .returned (.bool true) ∧ (∃ f' g' told', DAt w' b U T 2 f' g' told' ∧ R f' g' told' w') ∧ Chg (fun x => x = b) W w') :
    Calls Try.prog 38 #[.pointer (some ⟨b, 0, none⟩), .string s, va] w fun e w' => e = .returned (.bool true) ∧ (∃ f' g' told', DAt w' b U T 2 f' g' told' ∧ R f' g' told' w') ∧ Chg (fun x => x = b) w w' := by
  obtain ⟨v0, w0, hcv, hba, hb0⟩ := conv_ex w s hs
  have s0 := hb0.size
  have hbl := hdia.lt
  have HV1 := hideG (veilDecode v0 (bl s) w0 hba)
  obtain ⟨x1, x2, x3, x4⟩ := d_some hd1
  rw [x1, x2, x3, x4] at HV1
  obtain ⟨y1, y2, y3⟩ := Frm.enc_dec (bl_isB s) hd1
  have IN1 := hideG (okF_in y1)
  have IN2 := hideG (okF_in ok2)
  obtain ⟨z1, z2, z3, z4⟩ := d_some (Frm.dec_enc ok2)
  have HV2 := hideG (fun (W : World) (hb : Below w.heap.size w W) => veilDecode va (Frm.encF k2 U l2) W (hva.below hb))
  rw [z1, z2, z3, z4] at HV2
  obtain ⟨aa, ca, rfl, -⟩ := bytes_view hva
  have hln := Frm.encF_length k2 U l2
  obtain ⟨L, hL⟩ : ∃ L, L = (Frm.encF k2 U l2).length := ⟨_, rfl⟩
  rw [← hL] at HV2 hln ⊢
  have L3 : (3 : Int) ≤ (L : Int) := by omega
  have LZ : ((L : Int) == 0) = false := by simp; omega
  have HCV := hcv
  have B0 := hideG hb0
  have HC := hideG hcall
  have DD := hideG (fun (W : World) (hb : Below w.heap.size w W) => hdia.below hb)
  clear hL hln hb0 hba hva hdia hcall x1 x2 x3 x4 y1 y2 y3 z1 z2 z3 z4 hcv ok2 hd1
  go_enter Try.func38, Try.ntmps38
  go_wp2_with fail
  refine HV1.out.mono ?_
  rintro e w1 ⟨vi, rfl, hown1, hb1⟩
  obtain ⟨p1, q1, hv1⟩ := owns_form hown1
  subst hv1
  have s1 := hb1.size
  obtain ⟨w1', hw1'⟩ : ∃ w1', w1' = w1.alloc (.cells #[.int .i64 k1, .int .i64 fr1, .slice p1 l1.length q1] 52) := ⟨_, rfl⟩
  have hb1' : Below w1.heap.size w1 w1' := by rw [hw1']; exact (Below.refl _ _).alloc (Nat.le_refl _) _
  have z1' : w1'.heap.size = w1.heap.size + 1 := by rw [hw1']; simp
  have Z1 := hideG z1'
  have OW1 := hideG (fun x (hx : (Value.slice p1 l1.length q1).ownBlock = some x) => (show w.heap.size ≤ x by have := (hown1.lt x hx).1; omega))
  have I1 := hideG ((itemsAt_of_owns hown1 IN1.out).below hb1')
  have F1 := hideG (show FrAt w1' w1.heap.size k1 fr1 (.slice p1 l1.length q1) by rw [hw1']; refine ⟨?_, ?_, ?_⟩ <;> simp)
  have B1 := hideG (show Below w.heap.size w w1' from (B0.out.trans (hb1.mono s0)).trans (hb1'.mono (by omega)))
  have HW1 := hideG hw1'
  clear hown1 hb1 hb1' hw1' z1' HCV
  go_wp2_with fail
  rw [← HW1.out]
  refine (HV2.out w1' B1.out).mono ?_
  rintro e w2 ⟨vo, rfl, hown2, hb2⟩
  obtain ⟨p2, q2, hv2⟩ := owns_form hown2
  subst hv2
  have s2 := hb2.size
  have zz1 := Z1.out
  obtain ⟨w2', hw2'⟩ : ∃ w2', w2' = w2.alloc (.cells #[.int .i64 k2, .int .i64 (U : Int), .slice p2 l2.length q2] 52) := ⟨_, rfl⟩
  have hb2' : Below w2.heap.size w2 w2' := by rw [hw2']; exact (Below.refl _ _).alloc (Nat.le_refl _) _
  have z2' : w2'.heap.size = w2.heap.size + 1 := by rw [hw2']; simp
  have I2 := hideG ((itemsAt_of_owns hown2 IN2.out).below hb2')
  have OW2 := hideG (fun x (hx : (Value.slice p2 l2.length q2).ownBlock = some x) => (show w.heap.size ≤ x ∧ x < w2.heap.size from ⟨by have := (hown2.lt x hx).1; omega, (hown2.lt x hx).2⟩))
  have I1' := hideG ((I1.out.below hb2).below hb2')
  have F2 := hideG (show FrAt w2' w2.heap.size k2 U (.slice p2 l2.length q2) by rw [hw2']; refine ⟨?_, ?_, ?_⟩ <;> simp)
  have F1' := hideG ((F1.out.below hb2 (by omega)).below hb2' (by omega))
  have B2 := hideG (show Below w.heap.size w w2' from (B1.out.trans (hb2.mono (by omega))).trans (hb2'.mono (by omega)))
  have Z2 := hideG z2'
  have HW2 := hideG hw2'
  clear hown2 hb2 hb2' hw2' z2' zz1
  go_upto_region 5 with fail
  rw [← HW2.out]
  try simp only [Act.put]
  have DA := hideG (DD.out w2' B2.out)
  obtain ⟨g0, g1, g2⟩ := F2.out
  have d0 := DA.out.cell 0
  change w2'.cell? ⟨b, 0, none⟩ = some (.int .i64 (U : Int)) at d0
  have euu : ((U : Int) != (U : Int)) = false := by simp
  go_wp2_with fail
  go_quiet (fail)
  have hb3 := below_drewN w2' nq
  generalize w2'.drewN nq = w3 at *
  have s3 := hb3.size
  have zz2 := Z2.out
  have D3 := hideG (DA.out.below hb3)
  have J1 := hideG (I1'.out.below hb3)
  have J2 := hideG (I2.out.below hb3)
  have G1 := hideG (F1'.out.below hb3 (by have := Z1.out; omega))
  have G2 := hideG (F2.out.below hb3 (by omega))
  have B3 := hideG (B2.out.trans (hb3.mono B2.out.size))
  clear hb3 g0 g1 g2 d0 euu
  have c2 := D3.out.cell 2
  change w3.cell? ⟨b, 2, none⟩ = some (.int .i64 1) at c2
  have cf := D3.out.froz 2
  obtain ⟨w4, hw4⟩ : ∃ w4, w4 = w3.setCell ⟨b, 2, none⟩ (.int .i64 2) := ⟨_, rfl⟩
  have hc4 : Chg (fun x => x = b) w3 w4 := by rw [hw4]; exact Chg.setCell w3 ⟨b, 2, none⟩ _
  have s4 := hc4.size
  have D4 := hideG (show DAt w4 b U T 2 f g told by rw [hw4]; exact D3.out.setSt 2)
  have hne1 : w1.heap.size ≠ b := by have := Z1.out; have := B0.out.size; omega
  have hne2 : w2.heap.size ≠ b := by have := Z1.out; have := B0.out.size; omega
  obtain ⟨a0, a1, a2⟩ := G1.out.chg hc4 (by have := Z1.out; omega) hne1
  obtain ⟨e0, e1, e2⟩ := G2.out.chg hc4 (by omega) hne2
  have nb : ∀ (v : Value) (l : List Frm.It), ItemsAt w3 v l → (∀ x, v.ownBlock = some x → x ≠ b) → ItemsAt w4 v l := fun v l hi hx => hi.chg hc4 (fun x e hxx => hx x e hxx)
  have CON := hideG (HC.out w4 p1 p2 q1 q2 D4.out (nb _ _ J1.out (fun x hx e => by have := OW1.out x hx; omega)) (nb _ _ J2.out (fun x hx e => by have := (OW2.out x hx).1; omega)) (fun x hx => ⟨(OW2.out x hx).1, by have := (OW2.out x hx).2; omega⟩))
  have C4 := hideG (show Chg (fun x => x = b) w w4 from (Chg.of_below (S := fun x => x = b) B3.out).also hc4)
  have dd2 := D4.out.cell 2
  change w4.cell? ⟨b, 2, none⟩ = some (.int .i64 2) at dd2
  have HW4 := hideG hw4
  clear hc4 hw4 nb
  go_upto_region 8 with fail
  rw [← HW4.out]
  try simp only [Act.put]
  clear c2 cf
  go_wp2_with fail
  refine CON.out.mono ?_
  rintro e w5 ⟨rfl, hex, hch⟩
  have HEX := hideG hex
  have HCH := hideG hch
  clear hex hch
  go_wp2_with fail
  go_ret
  exact ⟨rfl, HEX.out, C4.out.also HCH.out⟩

set_option maxHeartbeats 800000 in
set_option maxRecDepth 100000 in
theorem kheard_tells (b U : Nat) (T : Int) (f g : Nat → Bool) (told : Value) (s : ByteArray) (hs : s.size ≤ maxLen) (va : Value) (k1 fr1 : Int) (l1 : List Frm.It) (hd1 : Frm.decF (bl s) = some (k1, fr1, l1)) (k2 : Int) (l2 : List Frm.It) (ok2 : Frm.okF k2 U l2 = true)
    (w : World) (hva : BytesAt w va (Frm.encF k2 U l2)) (hdia : DAt w b U T 2 f g told) (R : (Nat → Bool) → (Nat → Bool) → Value → World → Prop)
    (hcall : ∀ (W : World) (p1 p2 : Option Addr) (q1 q2 : Nat), DAt W b U T 3 f g told → ItemsAt W (.slice p1 l1.length q1) l1 → ItemsAt W (.slice p2 l2.length q2) l2 → (∀ x, (Value.slice p2 l2.length q2).ownBlock = some x → w.heap.size ≤ x ∧ x < W.heap.size) →
      Calls Try.prog 61 #[.pointer (some ⟨b, 0, none⟩), .agg #[.int .i64 k1, .int .i64 fr1, .slice p1 l1.length q1], .agg #[.int .i64 k2, .int .i64 U, .slice p2 l2.length q2]] W fun e w' => e = .returned (.bool true) ∧ (∃ f' g' told', DAt w' b U T 3 f' g' told' ∧ R f' g' told' w') ∧ Chg (fun x => x = b) W w') :
    Calls Try.prog 38 #[.pointer (some ⟨b, 0, none⟩), .string s, va] w fun e w' => e = .returned (.bool true) ∧ (∃ f' g' told', DAt w' b U T 3 f' g' told' ∧ R f' g' told' w') ∧ Chg (fun x => x = b) w w' := by
  obtain ⟨v0, w0, hcv, hba, hb0⟩ := conv_ex w s hs
  have s0 := hb0.size
  have hbl := hdia.lt
  have HV1 := hideG (veilDecode v0 (bl s) w0 hba)
  obtain ⟨x1, x2, x3, x4⟩ := d_some hd1
  rw [x1, x2, x3, x4] at HV1
  obtain ⟨y1, y2, y3⟩ := Frm.enc_dec (bl_isB s) hd1
  have IN1 := hideG (okF_in y1)
  have IN2 := hideG (okF_in ok2)
  obtain ⟨z1, z2, z3, z4⟩ := d_some (Frm.dec_enc ok2)
  have HV2 := hideG (fun (W : World) (hb : Below w.heap.size w W) => veilDecode va (Frm.encF k2 U l2) W (hva.below hb))
  rw [z1, z2, z3, z4] at HV2
  obtain ⟨aa, ca, rfl, -⟩ := bytes_view hva
  have hln := Frm.encF_length k2 U l2
  obtain ⟨L, hL⟩ : ∃ L, L = (Frm.encF k2 U l2).length := ⟨_, rfl⟩
  rw [← hL] at HV2 hln ⊢
  have L3 : (3 : Int) ≤ (L : Int) := by omega
  have LZ : ((L : Int) == 0) = false := by simp; omega
  have HCV := hcv
  have B0 := hideG hb0
  have HC := hideG hcall
  have DD := hideG (fun (W : World) (hb : Below w.heap.size w W) => hdia.below hb)
  clear hL hln hb0 hba hva hdia hcall x1 x2 x3 x4 y1 y2 y3 z1 z2 z3 z4 hcv ok2 hd1
  go_enter Try.func38, Try.ntmps38
  go_wp2_with fail
  refine HV1.out.mono ?_
  rintro e w1 ⟨vi, rfl, hown1, hb1⟩
  obtain ⟨p1, q1, hv1⟩ := owns_form hown1
  subst hv1
  have s1 := hb1.size
  obtain ⟨w1', hw1'⟩ : ∃ w1', w1' = w1.alloc (.cells #[.int .i64 k1, .int .i64 fr1, .slice p1 l1.length q1] 52) := ⟨_, rfl⟩
  have hb1' : Below w1.heap.size w1 w1' := by rw [hw1']; exact (Below.refl _ _).alloc (Nat.le_refl _) _
  have z1' : w1'.heap.size = w1.heap.size + 1 := by rw [hw1']; simp
  have Z1 := hideG z1'
  have OW1 := hideG (fun x (hx : (Value.slice p1 l1.length q1).ownBlock = some x) => (show w.heap.size ≤ x by have := (hown1.lt x hx).1; omega))
  have I1 := hideG ((itemsAt_of_owns hown1 IN1.out).below hb1')
  have F1 := hideG (show FrAt w1' w1.heap.size k1 fr1 (.slice p1 l1.length q1) by rw [hw1']; refine ⟨?_, ?_, ?_⟩ <;> simp)
  have B1 := hideG (show Below w.heap.size w w1' from (B0.out.trans (hb1.mono s0)).trans (hb1'.mono (by omega)))
  have HW1 := hideG hw1'
  clear hown1 hb1 hb1' hw1' z1' HCV
  go_wp2_with fail
  rw [← HW1.out]
  refine (HV2.out w1' B1.out).mono ?_
  rintro e w2 ⟨vo, rfl, hown2, hb2⟩
  obtain ⟨p2, q2, hv2⟩ := owns_form hown2
  subst hv2
  have s2 := hb2.size
  have zz1 := Z1.out
  obtain ⟨w2', hw2'⟩ : ∃ w2', w2' = w2.alloc (.cells #[.int .i64 k2, .int .i64 (U : Int), .slice p2 l2.length q2] 52) := ⟨_, rfl⟩
  have hb2' : Below w2.heap.size w2 w2' := by rw [hw2']; exact (Below.refl _ _).alloc (Nat.le_refl _) _
  have z2' : w2'.heap.size = w2.heap.size + 1 := by rw [hw2']; simp
  have I2 := hideG ((itemsAt_of_owns hown2 IN2.out).below hb2')
  have OW2 := hideG (fun x (hx : (Value.slice p2 l2.length q2).ownBlock = some x) => (show w.heap.size ≤ x ∧ x < w2.heap.size from ⟨by have := (hown2.lt x hx).1; omega, (hown2.lt x hx).2⟩))
  have I1' := hideG ((I1.out.below hb2).below hb2')
  have F2 := hideG (show FrAt w2' w2.heap.size k2 U (.slice p2 l2.length q2) by rw [hw2']; refine ⟨?_, ?_, ?_⟩ <;> simp)
  have F1' := hideG ((F1.out.below hb2 (by omega)).below hb2' (by omega))
  have B2 := hideG (show Below w.heap.size w w2' from (B1.out.trans (hb2.mono (by omega))).trans (hb2'.mono (by omega)))
  have Z2 := hideG z2'
  have HW2 := hideG hw2'
  clear hown2 hb2 hb2' hw2' z2' zz1
  go_upto_region 5 with fail
  rw [← HW2.out]
  try simp only [Act.put]
  have DA := hideG (DD.out w2' B2.out)
  obtain ⟨g0, g1, g2⟩ := F2.out
  have d0 := DA.out.cell 0
  change w2'.cell? ⟨b, 0, none⟩ = some (.int .i64 (U : Int)) at d0
  have euu : ((U : Int) != (U : Int)) = false := by simp
  go_wp2_with fail
  go_quiet (fail)
  have hb3 := below_drewN w2' nq
  generalize w2'.drewN nq = w3 at *
  have s3 := hb3.size
  have zz2 := Z2.out
  have D3 := hideG (DA.out.below hb3)
  have J1 := hideG (I1'.out.below hb3)
  have J2 := hideG (I2.out.below hb3)
  have G1 := hideG (F1'.out.below hb3 (by have := Z1.out; omega))
  have G2 := hideG (F2.out.below hb3 (by omega))
  have B3 := hideG (B2.out.trans (hb3.mono B2.out.size))
  clear hb3 g0 g1 g2 d0 euu
  have c2 := D3.out.cell 2
  change w3.cell? ⟨b, 2, none⟩ = some (.int .i64 2) at c2
  have cf := D3.out.froz 2
  obtain ⟨w4, hw4⟩ : ∃ w4, w4 = w3.setCell ⟨b, 2, none⟩ (.int .i64 3) := ⟨_, rfl⟩
  have hc4 : Chg (fun x => x = b) w3 w4 := by rw [hw4]; exact Chg.setCell w3 ⟨b, 2, none⟩ _
  have s4 := hc4.size
  have D4 := hideG (show DAt w4 b U T 3 f g told by rw [hw4]; exact D3.out.setSt 3)
  have hne1 : w1.heap.size ≠ b := by have := Z1.out; have := B0.out.size; omega
  have hne2 : w2.heap.size ≠ b := by have := Z1.out; have := B0.out.size; omega
  obtain ⟨a0, a1, a2⟩ := G1.out.chg hc4 (by have := Z1.out; omega) hne1
  obtain ⟨e0, e1, e2⟩ := G2.out.chg hc4 (by omega) hne2
  have nb : ∀ (v : Value) (l : List Frm.It), ItemsAt w3 v l → (∀ x, v.ownBlock = some x → x ≠ b) → ItemsAt w4 v l := fun v l hi hx => hi.chg hc4 (fun x e hxx => hx x e hxx)
  have CON := hideG (HC.out w4 p1 p2 q1 q2 D4.out (nb _ _ J1.out (fun x hx e => by have := OW1.out x hx; omega)) (nb _ _ J2.out (fun x hx e => by have := (OW2.out x hx).1; omega)) (fun x hx => ⟨(OW2.out x hx).1, by have := (OW2.out x hx).2; omega⟩))
  have C4 := hideG (show Chg (fun x => x = b) w w4 from (Chg.of_below (S := fun x => x = b) B3.out).also hc4)
  have dd2 := D4.out.cell 2
  change w4.cell? ⟨b, 2, none⟩ = some (.int .i64 3) at dd2
  have HW4 := hideG hw4
  clear hc4 hw4 nb
  go_upto_region 8 with fail
  rw [← HW4.out]
  try simp only [Act.put]
  clear c2 cf
  go_wp2_with fail
  refine CON.out.mono ?_
  rintro e w5 ⟨rfl, hex, hch⟩
  have HEX := hideG hex
  have HCH := hideG hch
  clear hex hch
  go_wp2_with fail
  go_ret
  exact ⟨rfl, HEX.out, C4.out.also HCH.out⟩

end Go.Proofs.Ytchideljndagjaa
