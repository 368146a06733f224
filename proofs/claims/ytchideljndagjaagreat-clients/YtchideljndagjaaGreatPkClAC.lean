/- The program's client in memory: its block, its peers, its lists. -/
import Derived.Test.YtchideljndagjaaGreatPkClAA
import Derived.Test.YtchideljndagjaaGreatPkClAB
import Derived.Deep.MidRow
import Derived.Deep.WholeRow
import Derived.WalkSpells
import Derived.Laws.Rows
import Derived.LoopN
import Derived.Handy
namespace Go.Proofs.YtchideljndagjaaGreat
open Go.RowKit
set_option linter.unusedVariables false

def prCells (p : Cli.Pr) : List Value := [.bool p.mem, .int .i64 p.ck, .int .i64 p.mq, .int .i64 p.ms, .int .i64 p.ss]
def circN (f : Nat → Cli.Pr) : Nat → List Value
  | 0 => []
  | n + 1 => circN f n ++ prCells (f n)
def circ (f : Nat → Cli.Pr) : List Value := circN f 13
theorem circN_length (f : Nat → Cli.Pr) (n : Nat) : (circN f n).length = n * 5 := by
  induction n with
  | zero => rfl
  | succ n ih => show (circN f n ++ prCells (f n)).length = _; rw [List.length_append, ih]; show n * 5 + 5 = _; omega
theorem circ_length (f : Nat → Cli.Pr) : (circ f).length = 65 := circN_length f 13
theorem circN_get (f : Nat → Cli.Pr) (n v i : Nat) (hv : v < n) (hi : i < 5) : (circN f n)[v * 5 + i]? = (prCells (f v))[i]? := by
  induction n with
  | zero => omega
  | succ n ih =>
    show (circN f n ++ prCells (f n))[v * 5 + i]? = _
    by_cases e : v = n
    · subst e
      rw [List.getElem?_append_right (by rw [circN_length]; omega), circN_length]
      congr 1; omega
    · rw [List.getElem?_append_left (by rw [circN_length]; omega)]
      exact ih (by omega)
theorem circN_upd_ge (f : Nat → Cli.Pr) (v : Nat) (p : Cli.Pr) (n : Nat) (h : n ≤ v) : circN (Cli.updP f v p) n = circN f n := by
  induction n with
  | zero => rfl
  | succ n ih => show circN _ n ++ prCells _ = circN f n ++ prCells (f n); rw [ih (by omega), Cli.updP_other _ _ _ (by omega)]
theorem circN_upd (f : Nat → Cli.Pr) (v : Nat) (p : Cli.Pr) (n : Nat) (h : v < n) : circN (Cli.updP f v p) n = circN f v ++ (prCells p ++ (circN f n).drop (v * 5 + 5)) := by
  induction n with
  | zero => omega
  | succ n ih =>
    show circN (Cli.updP f v p) n ++ prCells (Cli.updP f v p n) = circN f v ++ (prCells p ++ (circN f n ++ prCells (f n)).drop (v * 5 + 5))
    by_cases e : v = n
    · subst e
      rw [circN_upd_ge f v p v (Nat.le_refl _), Cli.updP_same]
      rw [List.drop_of_length_le (by rw [List.length_append, circN_length]; exact Nat.le_refl _), List.append_nil]
    · rw [ih (by omega), Cli.updP_other _ _ _ (by omega), List.drop_append_of_le_length (by rw [circN_length]; omega)]
      simp
theorem circN_split (f : Nat → Cli.Pr) (v n : Nat) (h : v < n) : circN f n = circN f v ++ (prCells (f v) ++ (circN f n).drop (v * 5 + 5)) := by
  have e : Cli.updP f v (f v) = f := by funext u; unfold Cli.updP; split; (rename_i q; rw [q]); rfl
  have := circN_upd f v (f v) n h
  rwa [e] at this
theorem circ_one (f : Nat → Cli.Pr) : ∀ v ∈ circ f, v.oneCell' = true := by
  have : ∀ n, ∀ v ∈ circN f n, v.oneCell' = true := by
    intro n
    induction n with
    | zero => intro v hv; cases hv
    | succ n ih =>
      intro v hv
      rcases List.mem_append.1 hv with hv | hv
      · exact ih v hv
      · simp only [prCells, List.mem_cons, List.not_mem_nil, or_false] at hv
        rcases hv with rfl | rfl | rfl | rfl | rfl <;> rfl
  exact this 13

/-- A row of cells in the middle of a block, replaced. -/
theorem heap_setCells (b : Nat) (T : TypeId) : ∀ (vs : List Value) (pre mid post : List Value) (w : World), mid.length = vs.length → w.heap[b]? = some (.cells (pre ++ (mid ++ post)).toArray T (0, 0)) →
    (w.setCells b pre.length vs).heap[b]? = some (.cells (pre ++ (vs ++ post)).toArray T (0, 0))
  | [], pre, mid, post, w, hl, h => by
    have : mid = [] := List.eq_nil_of_length_eq_zero hl
    subst this
    exact h
  | v :: vs, pre, mid, post, w, hl, h => by
    obtain ⟨m, ms, rfl⟩ : ∃ m ms, mid = m :: ms := by cases mid with | nil => simp at hl | cons m ms => exact ⟨m, ms, rfl⟩
    have h1 := heap_setCell_same w b pre.length _ T v h
    rw [List.setIfInBounds_toArray, List.set_append_right _ _ (Nat.le_refl _), Nat.sub_self] at h1
    have h2 := heap_setCells b T vs (pre ++ [v]) ms post (w.setCell ⟨b, pre.length, none⟩ v) (by simpa using hl) (by simpa using h1)
    rw [World.setCells]
    rw [List.length_append] at h2
    simpa using h2

theorem chg_setCells (b : Nat) : ∀ (vs : List Value) (o : Nat) (w : World), Chg (fun x => x = b) w (w.setCells b o vs)
  | [], o, w => Chg.refl _ _
  | v :: vs, o, w => by
    rw [World.setCells]
    exact (Chg.setCell w ⟨b, o, none⟩ v).trans (chg_setCells b vs (o + 1) _) (fun x h _ => h)

structure PS where
  id : Int
  ph : Int
  cp : Int
  mp : Int
  n : Int
  t : Int
  inp : Value
  ch : Int
  ms : Int
  sd : Int
  sm : Value
  ss : Value
  f : Nat → Cli.Pr
  told : Value

def psHead (s : PS) : List Value := [.int .i64 s.id, .int .i64 s.ph, .int .i64 s.cp, .int .i64 s.mp, .int .i64 s.n, .int .i64 s.t, s.inp, .int .i64 s.ch, .int .i64 s.ms, .int .i64 s.sd, s.sm, s.ss]
def psCells (s : PS) : List Value := psHead s ++ (circ s.f ++ [s.told])
def PSAt (w : World) (b : Nat) (T : TypeId) (s : PS) : Prop := w.heap[b]? = some (.cells (psCells s).toArray T (0, 0))

theorem PSAt.lt {w : World} {b : Nat} {T : TypeId} {s : PS} (h : PSAt w b T s) : b < w.heap.size := by
  by_cases hb : b < w.heap.size
  · exact hb
  · unfold PSAt at h; rw [Array.getElem?_eq_none (by omega)] at h; cases h
theorem psCells_length (s : PS) : (psCells s).length = 78 := by
  unfold psCells; rw [List.length_append, List.length_append, circ_length]; rfl

theorem PSAt.cell {w : World} {b : Nat} {T : TypeId} {s : PS} (h : PSAt w b T s) (i : Nat) : w.cell? ⟨b, i, none⟩ = (psCells s)[i]? := by
  rw [cell_of_row w b i _ T (0, 0) h]; simp
theorem PSAt.froz {w : World} {b : Nat} {T : TypeId} {s : PS} (h : PSAt w b T s) (i : Nat) : w.frozen? ⟨b, i, none⟩ = false := frozen_of_row w b i _ T h

theorem PSAt.c0 {w : World} {b : Nat} {T : TypeId} {s : PS} (h : PSAt w b T s) : w.cell? ⟨b, 0, none⟩ = some (.int .i64 s.id) := h.cell 0
theorem PSAt.c1 {w : World} {b : Nat} {T : TypeId} {s : PS} (h : PSAt w b T s) : w.cell? ⟨b, 1, none⟩ = some (.int .i64 s.ph) := h.cell 1
theorem PSAt.c2 {w : World} {b : Nat} {T : TypeId} {s : PS} (h : PSAt w b T s) : w.cell? ⟨b, 2, none⟩ = some (.int .i64 s.cp) := h.cell 2
theorem PSAt.c3 {w : World} {b : Nat} {T : TypeId} {s : PS} (h : PSAt w b T s) : w.cell? ⟨b, 3, none⟩ = some (.int .i64 s.mp) := h.cell 3
theorem PSAt.c4 {w : World} {b : Nat} {T : TypeId} {s : PS} (h : PSAt w b T s) : w.cell? ⟨b, 4, none⟩ = some (.int .i64 s.n) := h.cell 4
theorem PSAt.c5 {w : World} {b : Nat} {T : TypeId} {s : PS} (h : PSAt w b T s) : w.cell? ⟨b, 5, none⟩ = some (.int .i64 s.t) := h.cell 5
theorem PSAt.c6 {w : World} {b : Nat} {T : TypeId} {s : PS} (h : PSAt w b T s) : w.cell? ⟨b, 6, none⟩ = some s.inp := h.cell 6
theorem PSAt.c7 {w : World} {b : Nat} {T : TypeId} {s : PS} (h : PSAt w b T s) : w.cell? ⟨b, 7, none⟩ = some (.int .i64 s.ch) := h.cell 7
theorem PSAt.c8 {w : World} {b : Nat} {T : TypeId} {s : PS} (h : PSAt w b T s) : w.cell? ⟨b, 8, none⟩ = some (.int .i64 s.ms) := h.cell 8
theorem PSAt.c9 {w : World} {b : Nat} {T : TypeId} {s : PS} (h : PSAt w b T s) : w.cell? ⟨b, 9, none⟩ = some (.int .i64 s.sd) := h.cell 9
theorem PSAt.c10 {w : World} {b : Nat} {T : TypeId} {s : PS} (h : PSAt w b T s) : w.cell? ⟨b, 10, none⟩ = some s.sm := h.cell 10
theorem PSAt.c11 {w : World} {b : Nat} {T : TypeId} {s : PS} (h : PSAt w b T s) : w.cell? ⟨b, 11, none⟩ = some s.ss := h.cell 11
theorem PSAt.c77 {w : World} {b : Nat} {T : TypeId} {s : PS} (h : PSAt w b T s) : w.cell? ⟨b, 77, none⟩ = some s.told := by
  have e : (psHead s).length = 12 := rfl
  rw [h.cell 77]
  unfold psCells
  rw [List.getElem?_append_right (by rw [e]; decide), e, List.getElem?_append_right (by rw [circ_length]; decide), circ_length]
  rfl
theorem PSAt.range {w : World} {b : Nat} {T : TypeId} {s : PS} (h : PSAt w b T s) : w.rangeAt b 12 (circ s.f) := by
  intro j v hv
  rw [h.cell (12 + j)]
  have hj : j < 65 := by have := (List.getElem?_eq_some_iff.1 hv).1; rwa [circ_length] at this
  unfold psCells
  rw [List.getElem?_append_right (by show 12 ≤ 12 + j; omega)]
  show (circ s.f ++ [s.told])[12 + j - 12]? = _
  rw [Nat.add_sub_cancel_left, List.getElem?_append_left (by rw [circ_length]; exact hj)]
  exact hv
theorem PSAt.there {w : World} {b : Nat} {T : TypeId} {s : PS} (h : PSAt w b T s) (o n : Nat) (ho : o + n ≤ 78) : w.there b o n := by
  intro j hj
  refine ⟨?_, h.froz _⟩
  rw [h.cell, List.getElem?_eq_getElem (by rw [psCells_length]; omega)]; rfl
/-- A peer, cell by cell. -/
def PrAt (w : World) (b o : Nat) (p : Cli.Pr) : Prop :=
  w.cell? ⟨b, o, none⟩ = some (.bool p.mem) ∧ w.cell? ⟨b, o + 1, none⟩ = some (.int .i64 p.ck) ∧ w.cell? ⟨b, o + 2, none⟩ = some (.int .i64 p.mq) ∧ w.cell? ⟨b, o + 3, none⟩ = some (.int .i64 p.ms) ∧ w.cell? ⟨b, o + 4, none⟩ = some (.int .i64 p.ss)
theorem prAt_of_range {w : World} {b o : Nat} {f : Nat → Cli.Pr} (h : w.rangeAt b o (circ f)) (v : Nat) (hv : v < 13) : PrAt w b (o + v * 5) (f v) := by
  have g : ∀ i, i < 5 → ∀ x, (prCells (f v))[i]? = some x → w.cell? ⟨b, o + v * 5 + i, none⟩ = some x := fun i hi x hx => by
    rw [Nat.add_assoc]; exact h (v * 5 + i) x (by unfold circ; rw [circN_get f 13 v i hv hi]; exact hx)
  exact ⟨g 0 (by omega) _ rfl, g 1 (by omega) _ rfl, g 2 (by omega) _ rfl, g 3 (by omega) _ rfl, g 4 (by omega) _ rfl⟩
theorem PSAt.peer {w : World} {b : Nat} {T : TypeId} {s : PS} (h : PSAt w b T s) (v : Nat) (hv : v < 13) : PrAt w b (12 + v * 5) (s.f v) := prAt_of_range h.range v hv

theorem PSAt.setPh {w : World} {b : Nat} {T : TypeId} {s : PS} (h : PSAt w b T s) (x : Int) : PSAt (w.setCell ⟨b, 1, none⟩ (.int .i64 x)) b T { s with ph := x } := by
  have := heap_setCell_same w b 1 _ T (.int .i64 x) h
  rw [List.setIfInBounds_toArray] at this
  exact this
theorem PSAt.setCp {w : World} {b : Nat} {T : TypeId} {s : PS} (h : PSAt w b T s) (x : Int) : PSAt (w.setCell ⟨b, 2, none⟩ (.int .i64 x)) b T { s with cp := x } := by
  have := heap_setCell_same w b 2 _ T (.int .i64 x) h
  rw [List.setIfInBounds_toArray] at this
  exact this
theorem PSAt.setMp {w : World} {b : Nat} {T : TypeId} {s : PS} (h : PSAt w b T s) (x : Int) : PSAt (w.setCell ⟨b, 3, none⟩ (.int .i64 x)) b T { s with mp := x } := by
  have := heap_setCell_same w b 3 _ T (.int .i64 x) h
  rw [List.setIfInBounds_toArray] at this
  exact this
theorem PSAt.setTold {w : World} {b : Nat} {T : TypeId} {s : PS} (h : PSAt w b T s) (x : Value) : PSAt (w.setCell ⟨b, 77, none⟩ x) b T { s with told := x } := by
  have := heap_setCell_same w b 77 _ T x h
  rw [List.setIfInBounds_toArray] at this
  have e : (psCells s).set 77 x = psCells { s with told := x } := by
    unfold psCells
    rw [List.set_append_right _ _ (by show 12 ≤ 77; omega)]
    show psHead s ++ (circ s.f ++ [s.told]).set 65 x = psHead s ++ (circ s.f ++ [x])
    rw [List.set_append_right _ _ (by rw [circ_length]; exact Nat.le_refl _), circ_length]
    rfl
  rw [e] at this
  exact this
theorem PSAt.setF {w : World} {b : Nat} {T : TypeId} {s : PS} (h : PSAt w b T s) (g : Nat → Cli.Pr) : PSAt (w.setCells b 12 (circ g)) b T { s with f := g } := by
  have := heap_setCells b T (circ g) (psHead s) (circ s.f) [s.told] w (by rw [circ_length, circ_length]) h
  exact this
theorem PSAt.setDraw {w : World} {b : Nat} {T : TypeId} {s : PS} (h : PSAt w b T s) (v0 : Value) (a1 a2 a3 : Int) (v4 v5 : Value) :
    PSAt (w.setCells b 6 [v0, .int .i64 a1, .int .i64 a2, .int .i64 a3, v4, v5]) b T { s with inp := v0, ch := a1, ms := a2, sd := a3, sm := v4, ss := v5 } := by
  have := heap_setCells b T [v0, .int .i64 a1, .int .i64 a2, .int .i64 a3, v4, v5] [.int .i64 s.id, .int .i64 s.ph, .int .i64 s.cp, .int .i64 s.mp, .int .i64 s.n, .int .i64 s.t] [s.inp, .int .i64 s.ch, .int .i64 s.ms, .int .i64 s.sd, s.sm, s.ss] (circ s.f ++ [s.told]) w rfl h
  exact this
theorem PSAt.setAll {w : World} {b : Nat} {T : TypeId} {s : PS} (h : PSAt w b T s) (s' : PS) : PSAt (w.setCells b 0 (psCells s')) b T s' := by
  have := heap_setCells b T (psCells s') [] (psCells s) [] w (by rw [psCells_length, psCells_length]) (by rw [List.append_nil]; exact h)
  rw [List.append_nil] at this
  exact this
theorem PSAt.block {w w' : World} {b : Nat} {T : TypeId} {s : PS} (h : PSAt w b T s) (e : w'.heap[b]? = w.heap[b]?) : PSAt w' b T s := e.trans h
theorem PSAt.below {w w' : World} {b : Nat} {T : TypeId} {s : PS} (h : PSAt w b T s) (hb : Below w.heap.size w w') : PSAt w' b T s := h.block (hb.block b h.lt)

theorem ListAt.keep {w w' : World} {v : Value} {zs : List Int} (h : ListAt w v zs) (hs : w.heap.size ≤ w'.heap.size) (hb : ∀ x, v.ownBlock = some x → w'.heap[x]? = w.heap[x]?) : ListAt w' v zs := by
  obtain ⟨a, cap, h1, h2, h3, h4, h5⟩ := h
  refine ⟨a, cap, h1, h2, h3, h4, ?_⟩
  rcases h5 with h5 | ⟨b, off, e1, e2, e3⟩
  · exact .inl h5
  · refine .inr ⟨b, off, e1, Nat.lt_of_lt_of_le e2 hs, fun i hi => ?_⟩
    rw [← e3 i hi]
    exact World.cell?_of_block (w := w) (hb b (by rw [h1, e1]; rfl))
theorem ItemsAt.keep {w w' : World} {v : Value} {l : List Frm.It} (h : ItemsAt w v l) (hs : w.heap.size ≤ w'.heap.size) (hb : ∀ x, v.ownBlock = some x → w'.heap[x]? = w.heap[x]?) : ItemsAt w' v l := by
  obtain ⟨a, cap, h1, h2, h3, h4, h5⟩ := h
  refine ⟨a, cap, h1, h2, h3, h4, ?_⟩
  rcases h5 with h5 | ⟨b, off, e1, e2, e3⟩
  · exact .inl h5
  · refine .inr ⟨b, off, e1, Nat.lt_of_lt_of_le e2 hs, fun i hi => ?_⟩
    have hc : ∀ o, w'.cell? ⟨b, o, none⟩ = w.cell? ⟨b, o, none⟩ := fun o => World.cell?_of_block (w := w) (hb b (by rw [h1, e1]; rfl))
    obtain ⟨i0, i1, i2, i3⟩ := e3 i hi
    exact ⟨(hc _).trans i0, (hc _).trans i1, (hc _).trans i2, (hc _).trans i3⟩

/-- The blocks of a client. -/
def CFoot (b : Nat) (s : PS) (x : Nat) : Prop := x = b ∨ s.inp.ownBlock = some x ∨ s.sm.ownBlock = some x ∨ s.ss.ownBlock = some x ∨ s.told.ownBlock = some x

/-- A client in memory, at a phase. -/
structure CliAt (w : World) (b : Nat) (c : Cli.Cl) (s : Cli.St) (S : PS) : Prop where
  at_ : PSAt w b 168 S
  ph : 0 ≤ s.1 ∧ s.1 ≤ 4
  eid : S.id = c.id
  eph : S.ph = s.1
  ecp : S.cp = Cli.pubA c
  emp : S.mp = Cli.pubB c
  one : s.1 = 1 → S.n = c.N ∧ S.ch = c.ch ∧ S.ms = c.ms ∧ ListAt w S.sm c.sm ∧ ListAt w S.ss c.ss
  mid : 1 ≤ s.1 → s.1 ≤ 2 → ListAt w S.inp c.inp ∧ S.sd = c.sd
  et : 1 ≤ s.1 → s.1 ≤ 3 → S.t = c.T
  two : s.1 = 2 → (∀ v, v < 13 → S.f v = Cli.firstP c s.2.1 v) ∧ Frm.riseB s.2.1 = true ∧ Cli.keysAgree c s.2.1 = true ∧ (∀ x ∈ s.2.1, 0 ≤ x.2.1 ∧ x.2.1 < 2305843009213693951 ∧ 0 ≤ x.2.2.1 ∧ x.2.2.1 < 2305843009213693951)
  three : s.1 = 3 → (∀ v, v < 13 → S.f v = Cli.secondP c s.2.1 s.2.2.1 v) ∧ Frm.riseB s.2.2.1 = true ∧ Cli.boxAgree c s.2.1 s.2.2.1 = true
  nil : s.1 ≠ 4 → S.told = .slice none 0 0
  four : s.1 = 4 → ItemsAt w S.told (Cli.tells c s.2.1 s.2.2.1 s.2.2.2)
  apart : S.inp.ownBlock ≠ some b ∧ S.sm.ownBlock ≠ some b ∧ S.ss.ownBlock ≠ some b ∧ S.told.ownBlock ≠ some b

/-- Nobody turned its blocks: it is as it was. -/
theorem CliAt.keep {w w' : World} {b : Nat} {c : Cli.Cl} {s : Cli.St} {S : PS} (h : CliAt w b c s S) (hs : w.heap.size ≤ w'.heap.size) (hb : ∀ x, CFoot b S x → w'.heap[x]? = w.heap[x]?) : CliAt w' b c s S where
  at_ := h.at_.block (hb b (.inl rfl))
  ph := h.ph
  eid := h.eid
  eph := h.eph
  ecp := h.ecp
  emp := h.emp
  one := fun e => by
    obtain ⟨a1, a2, a3, a4, a5⟩ := h.one e
    exact ⟨a1, a2, a3, a4.keep hs (fun x hx => hb x (.inr (.inr (.inl hx)))), a5.keep hs (fun x hx => hb x (.inr (.inr (.inr (.inl hx)))))⟩
  mid := fun e e' => by
    obtain ⟨a1, a2⟩ := h.mid e e'
    exact ⟨a1.keep hs (fun x hx => hb x (.inr (.inl hx))), a2⟩
  et := h.et
  two := h.two
  three := h.three
  nil := h.nil
  four := fun e => (h.four e).keep hs (fun x hx => hb x (.inr (.inr (.inr (.inr hx)))))
  apart := h.apart
end Go.Proofs.YtchideljndagjaaGreat

namespace Go.Proofs.YtchideljndagjaaGreat
open Go.RowKit
set_option linter.unusedVariables false

/-- A block that holds peers and nothing else. -/
def CircAt (w : World) (b : Nat) (f : Nat → Cli.Pr) : Prop := w.heap[b]? = some (.cells (circ f).toArray 162 (0, 0))

theorem zero_circ : Tryz.zeroCells162 = (circ fun _ => Cli.Pr.z).toArray := by kernel_rfl
theorem size_circ : (Tryz.prog.info? 162).map (·.size) = some 65 := by kernel_rfl
theorem size_peer : (Tryz.prog.info? 160).map (·.size) = some 5 := by kernel_rfl

theorem CircAt.lt {w : World} {b : Nat} {f : Nat → Cli.Pr} (h : CircAt w b f) : b < w.heap.size := by
  by_cases hb : b < w.heap.size
  · exact hb
  · unfold CircAt at h; rw [Array.getElem?_eq_none (by omega)] at h; cases h
theorem CircAt.range {w : World} {b : Nat} {f : Nat → Cli.Pr} (h : CircAt w b f) : w.rangeAt b 0 (circ f) := by
  intro j v hv
  rw [Nat.zero_add, cell_of_row w b j _ _ (0, 0) h]
  simpa using hv
theorem CircAt.there {w : World} {b : Nat} {f : Nat → Cli.Pr} (h : CircAt w b f) (o n : Nat) (ho : o + n ≤ 65) : w.there b o n := by
  intro j hj
  refine ⟨?_, frozen_of_row w b _ _ _ h⟩
  rw [cell_of_row w b _ _ _ (0, 0) h]
  simp only [List.getElem?_toArray]
  rw [List.getElem?_eq_getElem (by rw [circ_length]; omega)]; rfl
theorem CircAt.set {w : World} {b : Nat} {f : Nat → Cli.Pr} (h : CircAt w b f) (u : Nat) (hu : u < 13) (p : Cli.Pr) : CircAt (w.setCells b (u * 5) (prCells p)) b (Cli.updP f u p) := by
  have e := circN_split f u 13 hu
  unfold CircAt circ at h ⊢
  rw [e] at h
  have := heap_setCells b _ (prCells p) (circN f u) (prCells (f u)) _ w rfl h
  rw [circN_length] at this
  rw [circN_upd f u p 13 hu]
  exact this
theorem CircAt.all {w : World} {b : Nat} {f : Nat → Cli.Pr} (h : CircAt w b f) (g : Nat → Cli.Pr) : CircAt (w.setCells b 0 (circ g)) b g := by
  unfold CircAt at h ⊢
  have := heap_setCells b 162 (circ g) [] (circ f) [] w (by rw [circ_length, circ_length]) (by rw [List.append_nil]; exact h)
  rw [List.append_nil] at this
  exact this
theorem CircAt.block {w w' : World} {b : Nat} {f : Nat → Cli.Pr} (h : CircAt w b f) (e : w'.heap[b]? = w.heap[b]?) : CircAt w' b f := e.trans h
theorem CircAt.below {w w' : World} {b B : Nat} {f : Nat → Cli.Pr} (h : CircAt w b f) (hb : Below B w w') (hB : b < B) : CircAt w' b f := h.block (hb.block b hB)

theorem below_setCells {B : Nat} {a : World} {b : Nat} (hb : B ≤ b) : ∀ (vs : List Value) (o : Nat) (w : World), Below B a w → Below B a (w.setCells b o vs)
  | [], o, w, h => h
  | v :: vs, o, w, h => by
    rw [World.setCells]
    exact below_setCells hb vs (o + 1) _ (h.setCell (p := ⟨b, o, none⟩) hb v)
theorem heap_setCells_other (b k : Nat) (h : k ≠ b) : ∀ (vs : List Value) (o : Nat) (w : World), (w.setCells b o vs).heap[k]? = w.heap[k]?
  | [], o, w => rfl
  | v :: vs, o, w => by
    rw [World.setCells, heap_setCells_other b k h vs (o + 1), Below.heap_setCell _ _ _ _ h]

end Go.Proofs.YtchideljndagjaaGreat

namespace Go.Proofs.YtchideljndagjaaGreat
open Go.RowKit
set_option linter.unusedVariables false

theorem one5 (m : Bool) (a b c d : Int) : (#[.bool m, .int .i64 a, .int .i64 b, .int .i64 c, .int .i64 d] : Array Value).all (·.oneCell') = true :=
  all_oneCell_toArray (cs := prCells ⟨m, a, b, c, d⟩) fun v hv => by
    simp only [prCells, List.mem_cons, List.not_mem_nil, or_false] at hv
    rcases hv with rfl | rfl | rfl | rfl | rfl <;> rfl
theorem size5 (m : Bool) (a b c d : Int) : (Tryz.prog.info? 160).map (·.size) = some (#[.bool m, .int .i64 a, .int .i64 b, .int .i64 c, .int .i64 d] : Array Value).size := size_peer

/-- The store of one peer, as the walk meets it. -/
theorem wpList_store_peer {ops : Array Oper} {rest : List Oper} {op : Oper} {a : Act} {w : World} {Q : Exit → Act → World → Prop} (hgd : op.guard = none) (x y : Operand) (ho : op.op = .store 160 x y)
    (b o : Nat) (m : Bool) (a1 a2 a3 a4 : Int) (hx : a.eval x = .pointer (some ⟨b, o, none⟩)) (hy : a.eval y = .agg #[.bool m, .int .i64 a1, .int .i64 a2, .int .i64 a3, .int .i64 a4])
    (ht : w.there b o 5)
    (h : wpList Tryz.prog ops Q rest (a.put op.dst undef) (w.setCells b o (prCells ⟨m, a1, a2, a3, a4⟩))) : wpList Tryz.prog ops Q (op :: rest) a w :=
  wpList_store_mid hgd _ x y ho b o _ hx hy ht (size5 _ _ _ _ _) (one5 _ _ _ _ _) h

end Go.Proofs.YtchideljndagjaaGreat

namespace Go.Proofs.YtchideljndagjaaGreat
open Go.RowKit
set_option linter.unusedVariables false

def bl13 (f : Nat → Bool) : List Value := [.bool (f 0), .bool (f 1), .bool (f 2), .bool (f 3), .bool (f 4), .bool (f 5), .bool (f 6), .bool (f 7), .bool (f 8), .bool (f 9), .bool (f 10), .bool (f 11), .bool (f 12)]
def updB (f : Nat → Bool) (v : Nat) (p : Bool) : Nat → Bool := fun u => if u = v then p else f u
theorem bl13_length (f : Nat → Bool) : (bl13 f).length = 13 := rfl
theorem bl13_get (f : Nat → Bool) (v : Nat) (hv : v < 13) : (bl13 f)[v]? = some (.bool (f v)) := by
  have hd : v = 0 ∨ v = 1 ∨ v = 2 ∨ v = 3 ∨ v = 4 ∨ v = 5 ∨ v = 6 ∨ v = 7 ∨ v = 8 ∨ v = 9 ∨ v = 10 ∨ v = 11 ∨ v = 12 := by omega
  rcases hd with rfl | rfl | rfl | rfl | rfl | rfl | rfl | rfl | rfl | rfl | rfl | rfl | rfl <;> rfl
theorem bl13_set (f : Nat → Bool) (v : Nat) (hv : v < 13) (p : Bool) : (bl13 f).set v (.bool p) = bl13 (updB f v p) := by
  have hd : v = 0 ∨ v = 1 ∨ v = 2 ∨ v = 3 ∨ v = 4 ∨ v = 5 ∨ v = 6 ∨ v = 7 ∨ v = 8 ∨ v = 9 ∨ v = 10 ∨ v = 11 ∨ v = 12 := by omega
  rcases hd with rfl | rfl | rfl | rfl | rfl | rfl | rfl | rfl | rfl | rfl | rfl | rfl | rfl <;> rfl
theorem bl13_ext {f g : Nat → Bool} (h : ∀ v, v < 13 → f v = g v) : bl13 f = bl13 g := by
  unfold bl13
  rw [h 0 (by omega), h 1 (by omega), h 2 (by omega), h 3 (by omega), h 4 (by omega), h 5 (by omega), h 6 (by omega), h 7 (by omega), h 8 (by omega), h 9 (by omega), h 10 (by omega), h 11 (by omega), h 12 (by omega)]
theorem bl13_one (f : Nat → Bool) : ∀ v ∈ bl13 f, v.oneCell' = true := by
  intro v hv
  simp only [bl13, List.mem_cons, List.not_mem_nil, or_false] at hv
  rcases hv with rfl | rfl | rfl | rfl | rfl | rfl | rfl | rfl | rfl | rfl | rfl | rfl | rfl <;> rfl

/-- A block that holds thirteen bools and nothing else. -/
def BoolsAt (w : World) (b : Nat) (T : TypeId) (f : Nat → Bool) : Prop := w.heap[b]? = some (.cells (bl13 f).toArray T (0, 0))
theorem BoolsAt.lt {w : World} {b : Nat} {T : TypeId} {f : Nat → Bool} (h : BoolsAt w b T f) : b < w.heap.size := by
  by_cases hb : b < w.heap.size
  · exact hb
  · unfold BoolsAt at h; rw [Array.getElem?_eq_none (by omega)] at h; cases h
theorem BoolsAt.cell {w : World} {b : Nat} {T : TypeId} {f : Nat → Bool} (h : BoolsAt w b T f) (v : Nat) (hv : v < 13) : w.cell? ⟨b, v, none⟩ = some (.bool (f v)) := by
  rw [cell_of_row w b v _ T (0, 0) h]; simp only [List.getElem?_toArray]; exact bl13_get f v hv
theorem BoolsAt.froz {w : World} {b : Nat} {T : TypeId} {f : Nat → Bool} (h : BoolsAt w b T f) (v : Nat) : w.frozen? ⟨b, v, none⟩ = false := frozen_of_row w b v _ T h
theorem BoolsAt.set {w : World} {b : Nat} {T : TypeId} {f : Nat → Bool} (h : BoolsAt w b T f) (v : Nat) (hv : v < 13) (p : Bool) : BoolsAt (w.setCell ⟨b, v, none⟩ (.bool p)) b T (updB f v p) := by
  have := heap_setCell_same w b v _ T (.bool p) h
  rw [List.setIfInBounds_toArray, bl13_set f v hv p] at this
  exact this
theorem BoolsAt.block {w w' : World} {b : Nat} {T : TypeId} {f : Nat → Bool} (h : BoolsAt w b T f) (e : w'.heap[b]? = w.heap[b]?) : BoolsAt w' b T f := e.trans h
theorem BoolsAt.below {w w' : World} {b B : Nat} {T : TypeId} {f : Nat → Bool} (h : BoolsAt w b T f) (hb : Below B w w') (hB : b < B) : BoolsAt w' b T f := h.block (hb.block b hB)
theorem BoolsAt.ext {w : World} {b : Nat} {T : TypeId} {f g : Nat → Bool} (h : BoolsAt w b T f) (e : ∀ v, v < 13 → f v = g v) : BoolsAt w b T g := by
  unfold BoolsAt at h ⊢; rw [← bl13_ext e]; exact h
theorem BoolsAt.range {w : World} {b : Nat} {T : TypeId} {f : Nat → Bool} (h : BoolsAt w b T f) : w.rangeAt b 0 (bl13 f) := by
  intro j v hv
  rw [Nat.zero_add, cell_of_row w b j _ _ (0, 0) h]
  simpa using hv

/-- The Ids of the first items, one more. -/
theorem has_upd (l : List Frm.It) (j : Nat) (hj : j < l.length) (u : Nat) (hu : (Frm.it l j).1 = (u : Int)) : (fun v : Nat => Cli.hasI (l.take (j + 1)) v) = updB (fun v : Nat => Cli.hasI (l.take j) v) u true := by
  funext v
  unfold updB
  rw [Cli.hasI_take_succ l j hj, hu]
  by_cases e : v = u
  · subst e; simp
  · rw [if_neg e, decide_eq_false (by omega), Bool.or_false]

end Go.Proofs.YtchideljndagjaaGreat

namespace Go.Proofs.YtchideljndagjaaGreat
open Go.ChangeShapes Go.WideShapes Go.ChangeAt Go.RowKit
set_option linter.unusedVariables false

theorem ret_bool {a b : Bool} (h : a = b) : Ending.returned (.bool a) = Ending.returned (.bool b) := congrArg (fun x => Ending.returned (.bool x)) h

theorem key_calls (a : Int) (w : World) :
    Calls Tryz.prog 266 #[.int .i64 a] w fun e w' => e = .returned (.bool (Frm.keyB a)) ∧ w' = w := by
  by_cases h : 1 ≤ a
  · have H := hideG (show Frm.keyB a = decide (a < 2305843009213693951) by unfold Frm.keyB; simp [h])
    by_cases h' : a < 2305843009213693951
    · go_enter Tryz.func266, Tryz.ntmps266
      go_wp2
      go_ret
      exact ⟨ret_bool (by rw [H.out]; exact (decide_eq_true h').symm), rfl⟩
    · go_enter Tryz.func266, Tryz.ntmps266
      go_wp2
      go_ret
      exact ⟨ret_bool (by rw [H.out]; exact (decide_eq_false (by omega)).symm), rfl⟩
  · have H := hideG (show Frm.keyB a = false from decide_eq_false (fun x => h x.1))
    go_enter Tryz.func266, Tryz.ntmps266
    go_wp2
    go_ret
    exact ⟨ret_bool H.out.symm, rfl⟩

theorem word_calls (a : Int) (w : World) :
    Calls Tryz.prog 254 #[.int .i64 a] w fun e w' => e = .returned (.bool (Frm.wdB a)) ∧ w' = w := by
  by_cases h : 0 ≤ a
  · have H := hideG (show Frm.wdB a = decide (a < 4294967296) by unfold Frm.wdB; simp [h])
    by_cases h' : a < 4294967296
    · go_enter Tryz.func254, Tryz.ntmps254
      go_wp2
      go_ret
      exact ⟨ret_bool (by rw [H.out]; exact (decide_eq_true h').symm), rfl⟩
    · go_enter Tryz.func254, Tryz.ntmps254
      go_wp2
      go_ret
      exact ⟨ret_bool (by rw [H.out]; exact (decide_eq_false (by omega)).symm), rfl⟩
  · have H := hideG (show Frm.wdB a = false from decide_eq_false (fun x => h x.1))
    go_enter Tryz.func254, Tryz.ntmps254
    go_wp2
    go_ret
    exact ⟨ret_bool H.out.symm, rfl⟩

theorem isShareKind_calls (a : Int) (w : World) :
    Calls Tryz.prog 267 #[.int .i64 a] w fun e w' => e = .returned (.bool (Frm.tB a)) ∧ w' = w := by
  by_cases h : a = 1
  · have H := hideG (show Frm.tB a = true from decide_eq_true (.inl h))
    subst h
    go_enter Tryz.func267, Tryz.ntmps267
    go_wp2
    go_ret
    exact ⟨ret_bool H.out.symm, rfl⟩
  · by_cases h' : a = 2
    · have H := hideG (show Frm.tB a = true from decide_eq_true (.inr h'))
      subst h'
      go_enter Tryz.func267, Tryz.ntmps267
      go_wp2
      go_ret
      exact ⟨ret_bool H.out.symm, rfl⟩
    · have H := hideG (show Frm.tB a = false from decide_eq_false (by omega))
      go_enter Tryz.func267, Tryz.ntmps267
      go_wp2
      go_ret
      exact ⟨ret_bool (by rw [H.out]; simp; omega), rfl⟩

theorem ret_i64 {a b : Int} (h : a = b) : Ending.returned (.int .i64 a) = Ending.returned (.int .i64 b) := congrArg (fun x => Ending.returned (.int .i64 x)) h

theorem named_calls (k : Int) (w : World) :
    Calls Tryz.prog 215 #[.int .i64 k] w fun e w' => e = .returned (.int .i64 (Frm.wid k : Int)) ∧ w' = w := by
  have main : ∀ (n : Int) (P : Prop), Hid ((Frm.wid k : Int) = n) → (∀ w, Calls Tryz.prog 215 #[.int .i64 k] w fun e w' => e = .returned (.int .i64 n) ∧ w' = w) → Calls Tryz.prog 215 #[.int .i64 k] w fun e w' => e = .returned (.int .i64 (Frm.wid k : Int)) ∧ w' = w :=
    fun n _ h hc => by rw [h.out]; exact hc w
  by_cases h5 : k = 5
  · subst h5
    refine main 1 True rfl (fun w => ?_)
    go_enter Tryz.func215, Tryz.ntmps215
    go_wp2
    go_ret
    exact ⟨rfl, rfl⟩
  by_cases h1 : k = 1
  · subst h1
    refine main 2 True rfl (fun w => ?_)
    go_enter Tryz.func215, Tryz.ntmps215
    go_wp2
    go_ret
    exact ⟨rfl, rfl⟩
  by_cases h2 : k = 2
  · subst h2
    refine main 2 True rfl (fun w => ?_)
    go_enter Tryz.func215, Tryz.ntmps215
    go_wp2
    go_ret
    exact ⟨rfl, rfl⟩
  by_cases h7 : k = 7
  · subst h7
    refine main 2 True rfl (fun w => ?_)
    go_enter Tryz.func215, Tryz.ntmps215
    go_wp2
    go_ret
    exact ⟨rfl, rfl⟩
  by_cases h3 : k = 3
  · subst h3
    refine main 3 True rfl (fun w => ?_)
    go_enter Tryz.func215, Tryz.ntmps215
    go_wp2
    go_ret
    exact ⟨rfl, rfl⟩
  by_cases h4 : k = 4
  · subst h4
    refine main 3 True rfl (fun w => ?_)
    go_enter Tryz.func215, Tryz.ntmps215
    go_wp2
    go_ret
    exact ⟨rfl, rfl⟩
  refine main 0 True (show ((Frm.wid k : Nat) : Int) = 0 by unfold Frm.wid; rw [if_neg h5, if_neg (by omega), if_neg (by omega)]; rfl) (fun w => ?_)
  go_enter Tryz.func215, Tryz.ntmps215
  go_wp2
  go_ret
  exact ⟨rfl, rfl⟩

theorem itemSize_calls (k : Int) (w : World) :
    Calls Tryz.prog 151 #[.int .i64 k] w fun e w' => e = .returned (.int .i64 (Frm.size k : Int)) ∧ w' = w := by
  have hw := Frm.wid_le k
  have H := hideG (show (Frm.size k : Int) = 1 + 8 * (Frm.wid k : Int) by unfold Frm.size; omega)
  go_enter Tryz.func151, Tryz.ntmps151
  go_wp2_with fail
  refine (named_calls _ _).mono ?_
  rintro e w' ⟨rfl, rfl⟩
  generalize Frm.wid k = n at *
  go_wp2_with fail
  go_ret
  exact ⟨ret_i64 (by rw [H.out]), rfl⟩

/-- The numbers of an item that its bytes have, in a list of the call's own. -/
theorem namedNumbers_calls (k : Int) (x : Frm.It) (w : World) :
    Calls Tryz.prog 152 #[.int .i64 k, .agg #[.int .i64 x.1, .int .i64 x.2.1, .int .i64 x.2.2.1, .int .i64 x.2.2.2]] w fun e w' => ∃ a, e = .returned (.slice a (Frm.wid k) (Frm.wid k)) ∧
      (0 < Frm.wid k → ∃ g, a = some ⟨g, 0, none⟩ ∧ w.heap.size ≤ g ∧ g < w'.heap.size ∧ ∀ i, i < Frm.wid k → w'.cell? ⟨g, i, none⟩ = some (.int .i64 ((Frm.nums k x).getD i 0))) ∧ Below w.heap.size w w' := by
  have hw := Frm.wid_le k
  have HN := hideG (show Frm.nums k x = [x.2.1, x.2.2.1, x.2.2.2].take (Frm.wid k) from rfl)
  rcases (show Frm.wid k = 0 ∨ Frm.wid k = 1 ∨ Frm.wid k = 2 ∨ Frm.wid k = 3 by omega) with e | e | e | e
  · have HW := hideG e
    clear hw
    go_enter Tryz.func152, Tryz.ntmps152
    go_wp2_with fail
    refine (named_calls _ _).mono ?_
    rintro e w' ⟨rfl, rfl⟩
    go_wp2_with fail
    go_ret
    rw [HW.out]
    exact ⟨none, rfl, fun h => absurd h (by omega), (Below.refl _ _).alloc (Nat.le_refl _) _⟩
  · have HW := hideG e
    clear hw
    go_enter Tryz.func152, Tryz.ntmps152
    go_wp2_with fail
    refine (named_calls _ _).mono ?_
    rintro e w' ⟨rfl, rfl⟩
    go_wp2_with fail
    go_ret
    rw [HN.out, HW.out]
    refine ⟨_, rfl, fun _ => ⟨_, rfl, by simp, by simp, fun i hi => ?_⟩, ((Below.refl _ _).alloc (Nat.le_refl _) _).alloc (by simp) _⟩
    obtain rfl : i = 0 := by omega
    simp
  · have HW := hideG e
    clear hw
    go_enter Tryz.func152, Tryz.ntmps152
    go_wp2_with fail
    refine (named_calls _ _).mono ?_
    rintro e w' ⟨rfl, rfl⟩
    go_wp2_with fail
    go_ret
    rw [HN.out, HW.out]
    refine ⟨_, rfl, fun _ => ⟨_, rfl, by simp, by simp, fun i hi => ?_⟩, ((Below.refl _ _).alloc (Nat.le_refl _) _).alloc (by simp) _⟩
    rcases (show i = 0 ∨ i = 1 by omega) with rfl | rfl <;> simp
  · have HW := hideG e
    clear hw
    go_enter Tryz.func152, Tryz.ntmps152
    go_wp2_with fail
    refine (named_calls _ _).mono ?_
    rintro e w' ⟨rfl, rfl⟩
    go_wp2_with fail
    go_ret
    rw [HN.out, HW.out]
    refine ⟨_, rfl, fun _ => ⟨_, rfl, by simp, by simp, fun i hi => ?_⟩, ((Below.refl _ _).alloc (Nat.le_refl _) _).alloc (by simp) _⟩
    rcases (show i = 0 ∨ i = 1 ∨ i = 2 by omega) with rfl | rfl | rfl <;> simp

end Go.Proofs.YtchideljndagjaaGreat

namespace Go.Proofs.YtchideljndagjaaGreat
open Go.ChangeShapes Go.WideShapes Go.ChangeAt Go.RowKit
set_option linter.unusedVariables false

theorem divs (v : Int) : v / 256 / 256 = v / 65536 ∧ v / 65536 / 256 = v / 16777216 ∧ v / 16777216 / 256 = v / 4294967296 ∧ v / 4294967296 / 256 = v / 1099511627776 ∧ v / 1099511627776 / 256 = v / 281474976710656 ∧ v / 281474976710656 / 256 = v / 72057594037927936 := by
  refine ⟨?_, ?_, ?_, ?_, ?_, ?_⟩ <;> omega

set_option maxHeartbeats 1000000 in
set_option maxRecDepth 100000 in
theorem digits_calls (v : Int) (w : World) (h : 0 ≤ v) (h' : v < 9223372036854775808) :
    Calls Tryz.prog 153 #[.int .i64 v] w fun e w' => e = .returned (.agg #[.int .u8 (v % 256), .int .u8 (v / 256 % 256), .int .u8 (v / 65536 % 256), .int .u8 (v / 16777216 % 256), .int .u8 (v / 4294967296 % 256), .int .u8 (v / 1099511627776 % 256), .int .u8 (v / 281474976710656 % 256), .int .u8 (v / 72057594037927936 % 256)]) ∧ Below w.heap.size w w' := by
  obtain ⟨d1, d2, d3, d4, d5, d6⟩ := divs v
  go_enter Tryz.func153, Tryz.ntmps153
  go_wp2
  refine wp_loop_rounds 9 ?_
  rw [rounds_succ]
  go_wp2
  rw [rounds_succ]
  go_wp2
  rw [rounds_succ]
  go_wp2
  rw [rounds_succ]
  go_wp2
  rw [rounds_succ]
  go_wp2
  rw [rounds_succ]
  go_wp2
  rw [rounds_succ]
  go_wp2
  rw [rounds_succ]
  go_wp2
  rw [rounds_succ]
  go_wp2
  go_returns
  refine ⟨rfl, ?_⟩
  go_grown

/-- c bytes from m on, as a number. -/
def hiN (b : List Int) (m : Nat) : Nat → Int
  | 0 => 0
  | c + 1 => 256 * hiN b (m + 1) c + Frm.bAt b m

theorem hiN_num (b : List Int) (m : Nat) : hiN b m 8 = Frm.numAt b m := by
  unfold Frm.numAt
  simp only [hiN, Nat.add_assoc, Nat.reduceAdd]
  omega

theorem hiN_bd {b : List Int} (hb : Frm.isB b) (m c : Nat) (hc : c ≤ 7) (ht : 0 < c → Frm.bAt b (m + c - 1) < 128) : 0 ≤ hiN b m c ∧ hiN b m c ≤ 36028797018963967 := by
  have h0 := Frm.isB_at hb m
  have h1 := Frm.isB_at hb (m + 1)
  have h2 := Frm.isB_at hb (m + 2)
  have h3 := Frm.isB_at hb (m + 3)
  have h4 := Frm.isB_at hb (m + 4)
  have h5 := Frm.isB_at hb (m + 5)
  have h6 := Frm.isB_at hb (m + 6)
  match c, hc, ht with
  | 0, _, _ => simp [hiN]
  | 1, _, ht => simp only [hiN]; omega
  | 2, _, ht => simp only [hiN]; omega
  | 3, _, ht => simp only [hiN, Nat.add_assoc, Nat.reduceAdd]; omega
  | 4, _, ht => simp only [hiN, Nat.add_assoc, Nat.reduceAdd]; omega
  | 5, _, ht => simp only [hiN, Nat.add_assoc, Nat.reduceAdd]; omega
  | 6, _, ht => simp only [hiN, Nat.add_assoc, Nat.reduceAdd]; omega
  | 7, _, ht =>
    have := ht (by omega)
    simp only [hiN, Nat.add_assoc, Nat.reduceAdd, show m + 7 - 1 = m + 6 by omega] at this ⊢; omega
  | n + 8, h, _ => omega

set_option maxHeartbeats 1000000 in
set_option maxRecDepth 100000 in
theorem number_bytes (v : Value) (zs : List Int) (n : Nat) (w : World) (h : BytesAt w v zs) (hn : n + 8 ≤ zs.length) :
    Calls Tryz.prog 216 #[v, .int .i64 (n : Int)] w fun e w' => e = .returned (.int .i64 (Frm.rdN zs n)) ∧ w' = w := by
  obtain ⟨a, cap, rfl, l2, l3, hb, hc⟩ := bytes_view h
  have HB := hideG hb
  have HC := hideG hc
  have HR := hideG (show Frm.rdN zs n = if 128 ≤ Frm.bAt zs (n + 7) then -1 else Frm.numAt zs n from rfl)
  clear hc h hb
  generalize hl : zs.length = L at *
  clear hl
  obtain ⟨b, off, rfl, hlt, c7⟩ := HC.out (n + 7) (by omega)
  have B7 := Frm.isB_at HB.out (n + 7)
  obtain ⟨t, ht⟩ : ∃ t, t = Frm.bAt zs (n + 7) := ⟨_, rfl⟩
  rw [← ht] at c7 B7
  have HT := hideG ht
  clear ht
  have e7 : ((n : Int) + 7).toNat = n + 7 := by omega
  by_cases h128 : 128 ≤ t
  · go_enter Tryz.func216, Tryz.ntmps216
    go_wp2_with fail
    go_ret
    exact ⟨ret_i64 (by rw [HR.out, ← HT.out, if_pos h128]), rfl⟩
  · go_enter Tryz.func216, Tryz.ntmps216
    go_wp2_with fail
    go_loop [6, 7] (fun u i => ∃ m : Nat, n ≤ m ∧ m ≤ n + 8 ∧ i = .int .i64 ((m : Int) - 1) ∧ u = .int .i64 (hiN zs m (n + 8 - m))) (fun _ i => (intOf i + 1).toNat - n)
    case atStart => exact ⟨n + 8, by omega, by omega, by congr 1, by rw [Nat.sub_self]; rfl⟩
    case round =>
      obtain ⟨m, hm1, hm2, rfl, rfl⟩ := hrel
      by_cases hlt2 : n < m
      · obtain ⟨j, rfl⟩ : ∃ j, m = j + 1 := ⟨m - 1, by omega⟩
        obtain ⟨b', off', ea, _, cj⟩ := HC.out j (by omega)
        simp only [Option.some.injEq, Addr.mk.injEq, and_true] at ea
        obtain ⟨rfl, rfl⟩ := ea
        have BJ := Frm.isB_at HB.out j
        obtain ⟨u1, u2⟩ := hiN_bd HB.out (j + 1) (n + 8 - (j + 1)) (by omega) (fun hp => by
          rw [show j + 1 + (n + 8 - (j + 1)) - 1 = n + 7 by omega, ← HT.out]; omega)
        have HS := hideG (show hiN zs j (n + 8 - j) = 256 * hiN zs (j + 1) (n + 8 - (j + 1)) + Frm.bAt zs j by
          rw [show n + 8 - j = (n + 8 - (j + 1)) + 1 by omega]; rfl)
        generalize hiN zs (j + 1) (n + 8 - (j + 1)) = u at *
        obtain ⟨z, hz⟩ : ∃ z, z = Frm.bAt zs j := ⟨_, rfl⟩
        rw [← hz] at cj BJ HS
        clear hz
        go_wp2_with fail
        go_round
        case rel => exact ⟨j, by omega, by omega, by go_num, by rw [HS.out]⟩
        case measure => simp [intOf]; omega
      · have em : m = n := by omega
        subst em
        have HE := hideG (hiN_num zs m)
        rw [Nat.add_sub_cancel_left]
        go_wp2_with fail
        go_ret
        exact ⟨ret_i64 (by rw [HR.out, ← HT.out, if_neg (by omega)]; exact HE.out), rfl⟩

theorem number_int (v : Value) (zs : List Int) (x : Int) (n : Nat) (w : World) (h : BytesAt w v zs) (hx : x = (n : Int)) (hn : n + 8 ≤ zs.length) :
    Calls Tryz.prog 216 #[v, .int .i64 x] w fun e w' => e = .returned (.int .i64 (Frm.rdN zs n)) ∧ w' = w := by
  rw [hx]; exact number_bytes v zs n w h hn

/-- An item, as a value. -/
abbrev itV (x : Frm.It) : Value := .agg #[.int .i64 x.1, .int .i64 x.2.1, .int .i64 x.2.2.1, .int .i64 x.2.2.2]

set_option maxHeartbeats 1000000 in
set_option maxRecDepth 100000 in
theorem readItem_calls (v : Value) (zs : List Int) (k x : Int) (n : Nat) (w : World) (h : BytesAt w v zs) (hx : x = (n : Int)) (hn : n + Frm.size k ≤ zs.length) :
    Calls Tryz.prog 160 #[v, .int .i64 x, .int .i64 k] w fun e w' => e = .returned (itV (Frm.rdI k zs n)) ∧ Below w.heap.size w w' := by
  subst hx
  have hw := Frm.wid_le k
  have HR := hideG (show Frm.rdI k zs n = (Frm.bAt zs n, if 1 ≤ Frm.wid k then Frm.rdN zs (n + 1) else 0, if 2 ≤ Frm.wid k then Frm.rdN zs (n + 9) else 0, if 3 ≤ Frm.wid k then Frm.rdN zs (n + 17) else 0) from rfl)
  have HM := hideG (fun (w1 : World) (hb : Below w.heap.size w w1) => h.below hb)
  have hs : Frm.size k = 1 + 8 * Frm.wid k := rfl
  have hl : 1 ≤ zs.length := by omega
  obtain ⟨a, cap, rfl, l2, l3, hb, hc⟩ := bytes_view h
  obtain ⟨b, off, rfl, hlt, c0⟩ := hc n (by omega)
  have B0 := Frm.isB_at hb n
  clear hc hb
  obtain ⟨t, ht⟩ : ∃ t, t = Frm.bAt zs n := ⟨_, rfl⟩
  rw [← ht] at c0 B0
  have HT := hideG ht
  obtain ⟨L, hL⟩ : ∃ L, L = zs.length := ⟨_, rfl⟩
  rw [← hL] at l2 hl hn HM ⊢
  have HL := hideG hL
  have hnL : n < L := by omega
  clear ht hL h
  have go : ∀ (q : Nat), Frm.wid k = q → q = 0 ∨ q = 1 ∨ q = 2 ∨ q = 3 := fun q hq => by omega
  rcases go _ rfl with e | e | e | e
  · have HW := hideG e
    clear hw hs go hn e
    go_enter Tryz.func160, Tryz.ntmps160
    go_wp2_with fail
    refine (named_calls _ _).mono ?_
    rintro e w' ⟨rfl, rfl⟩
    rw [HW.out]
    go_wp2_with fail
    go_returns
    refine ⟨?_, by go_grown⟩
    rw [HR.out, HW.out, ← HT.out]; rfl
  · have HW := hideG e
    have h1 : n + 1 + 8 ≤ L := by omega
    clear hw hs go hn e
    go_enter Tryz.func160, Tryz.ntmps160
    go_wp2_with fail
    refine (named_calls _ _).mono ?_
    rintro e w' ⟨rfl, rfl⟩
    rw [HW.out]
    go_wp2_with fail
    refine (number_int _ zs _ (n + 1) _ (HM.out _ (by go_grown)) (by omega) (by rw [← HL.out]; omega)).mono ?_
    rintro e w' ⟨rfl, rfl⟩
    go_wp2_with fail
    go_returns
    refine ⟨?_, by go_grown⟩
    rw [HR.out, HW.out, ← HT.out]; rfl
  · have HW := hideG e
    have h1 : n + 9 + 8 ≤ L := by omega
    clear hw hs go hn e
    go_enter Tryz.func160, Tryz.ntmps160
    go_wp2_with fail
    refine (named_calls _ _).mono ?_
    rintro e w' ⟨rfl, rfl⟩
    rw [HW.out]
    go_wp2_with fail
    refine (number_int _ zs _ (n + 1) _ (HM.out _ (by go_grown)) (by omega) (by rw [← HL.out]; omega)).mono ?_
    rintro e w' ⟨rfl, rfl⟩
    go_wp2_with fail
    refine (number_int _ zs _ (n + 9) _ (HM.out _ (by go_grown)) (by omega) (by rw [← HL.out]; omega)).mono ?_
    rintro e w' ⟨rfl, rfl⟩
    go_wp2_with fail
    go_returns
    refine ⟨?_, by go_grown⟩
    rw [HR.out, HW.out, ← HT.out]; rfl
  · have HW := hideG e
    have h1 : n + 17 + 8 ≤ L := by omega
    clear hw hs go hn e
    go_enter Tryz.func160, Tryz.ntmps160
    go_wp2_with fail
    refine (named_calls _ _).mono ?_
    rintro e w' ⟨rfl, rfl⟩
    rw [HW.out]
    go_wp2_with fail
    refine (number_int _ zs _ (n + 1) _ (HM.out _ (by go_grown)) (by omega) (by rw [← HL.out]; omega)).mono ?_
    rintro e w' ⟨rfl, rfl⟩
    go_wp2_with fail
    refine (number_int _ zs _ (n + 9) _ (HM.out _ (by go_grown)) (by omega) (by rw [← HL.out]; omega)).mono ?_
    rintro e w' ⟨rfl, rfl⟩
    go_wp2_with fail
    refine (number_int _ zs _ (n + 17) _ (HM.out _ (by go_grown)) (by omega) (by rw [← HL.out]; omega)).mono ?_
    rintro e w' ⟨rfl, rfl⟩
    go_wp2_with fail
    go_returns
    refine ⟨?_, by go_grown⟩
    rw [HR.out, HW.out, ← HT.out]; rfl

end Go.Proofs.YtchideljndagjaaGreat
