/- The program's client in memory: its block, its peers, its lists. -/
import Derived.Test.YtchideljndagjabGreatPkIdAA
import Derived.Test.YtchideljndagjabGreatPkIdAB
import Derived.Deep.MidRow
import Derived.Deep.WholeRow
import Derived.WalkSpells
import Derived.RegionTactic
import Derived.BigRegion
import Derived.Test.YtchideljndagjabGreatRows
import Derived.Laws.Concat
namespace Go.Proofs.YtchideljndagjabGreat
open Go.RowKit
set_option linter.unusedVariables false
def prCells (p : Cli.Pr) : List Value := [.bool p.mem, .int .i64 p.ck, .int .i64 p.mq, .int .i64 p.ms, .int .i64 p.ss]
def circN (f : Nat → Cli.Pr) : Nat → List Value
  | 0 => []
  | n + 1 => circN f n ++ prCells (f n)
def circ (f : Nat → Cli.Pr) : List Value := circN f 13
theorem circN_length (f : Nat → Cli.Pr) (n : Nat) : (circN f n).length = n * 5 := by
  induction n with
  | zero => rfl
  | succ n ih => show (circN f n ++ prCells (f n)).length = _; rw [List.length_append, ih]; show n * 5 + 5 = _; omega
theorem circ_length (f : Nat → Cli.Pr) : (circ f).length = 65 := circN_length f 13
theorem circN_get (f : Nat → Cli.Pr) (n v i : Nat) (hv : v < n) (hi : i < 5) : (circN f n)[v * 5 + i]? = (prCells (f v))[i]? := by
  induction n with
  | zero => omega
  | succ n ih =>
    show (circN f n ++ prCells (f n))[v * 5 + i]? = _
    by_cases e : v = n
    · subst e
      rw [List.getElem?_append_right (by rw [circN_length]; omega), circN_length]
      congr 1; omega
    · rw [List.getElem?_append_left (by rw [circN_length]; omega)]
      exact ih (by omega)
theorem circN_upd_ge (f : Nat → Cli.Pr) (v : Nat) (p : Cli.Pr) (n : Nat) (h : n ≤ v) : circN (Cli.updP f v p) n = circN f n := by
  induction n with
  | zero => rfl
  | succ n ih => show circN _ n ++ prCells _ = circN f n ++ prCells (f n); rw [ih (by omega), Cli.updP_other _ _ _ (by omega)]
theorem circN_upd (f : Nat → Cli.Pr) (v : Nat) (p : Cli.Pr) (n : Nat) (h : v < n) : circN (Cli.updP f v p) n = circN f v ++ (prCells p ++ (circN f n).drop (v * 5 + 5)) := by
  induction n with
  | zero => omega
  | succ n ih =>
    show circN (Cli.updP f v p) n ++ prCells (Cli.updP f v p n) = circN f v ++ (prCells p ++ (circN f n ++ prCells (f n)).drop (v * 5 + 5))
    by_cases e : v = n
    · subst e
      rw [circN_upd_ge f v p v (Nat.le_refl _), Cli.updP_same]
      rw [List.drop_of_length_le (by rw [List.length_append, circN_length]; exact Nat.le_refl _), List.append_nil]
    · rw [ih (by omega), Cli.updP_other _ _ _ (by omega), List.drop_append_of_le_length (by rw [circN_length]; omega)]
      simp
theorem circN_split (f : Nat → Cli.Pr) (v n : Nat) (h : v < n) : circN f n = circN f v ++ (prCells (f v) ++ (circN f n).drop (v * 5 + 5)) := by
  have e : Cli.updP f v (f v) = f := by funext u; unfold Cli.updP; split; (rename_i q; rw [q]); rfl
  have := circN_upd f v (f v) n h
  rwa [e] at this
theorem circ_one (f : Nat → Cli.Pr) : ∀ v ∈ circ f, v.oneCell' = true := by
  have : ∀ n, ∀ v ∈ circN f n, v.oneCell' = true := by
    intro n
    induction n with
    | zero => intro v hv; cases hv
    | succ n ih =>
      intro v hv
      rcases List.mem_append.1 hv with hv | hv
      · exact ih v hv
      · simp only [prCells, List.mem_cons, List.not_mem_nil, or_false] at hv
        rcases hv with rfl | rfl | rfl | rfl | rfl <;> rfl
  exact this 13
theorem heap_setCells (b : Nat) (T : TypeId) : ∀ (vs : List Value) (pre mid post : List Value) (w : World), mid.length = vs.length → w.heap[b]? = some (.cells (pre ++ (mid ++ post)).toArray T (0, 0)) →
    (w.setCells b pre.length vs).heap[b]? = some (.cells (pre ++ (vs ++ post)).toArray T (0, 0))
  | [], pre, mid, post, w, hl, h => by
    have : mid = [] := List.eq_nil_of_length_eq_zero hl
    subst this
    exact h
  | v :: vs, pre, mid, post, w, hl, h => by
    obtain ⟨m, ms, rfl⟩ : ∃ m ms, mid = m :: ms := by cases mid with | nil => simp at hl | cons m ms => exact ⟨m, ms, rfl⟩
    have h1 := heap_setCell_same w b pre.length _ T v h
    rw [List.setIfInBounds_toArray, List.set_append_right _ _ (Nat.le_refl _), Nat.sub_self] at h1
    have h2 := heap_setCells b T vs (pre ++ [v]) ms post (w.setCell ⟨b, pre.length, none⟩ v) (by simpa using hl) (by simpa using h1)
    rw [World.setCells]
    rw [List.length_append] at h2
    simpa using h2
theorem chg_setCells (b : Nat) : ∀ (vs : List Value) (o : Nat) (w : World), Chg (fun x => x = b) w (w.setCells b o vs)
  | [], o, w => Chg.refl _ _
  | v :: vs, o, w => by
    rw [World.setCells]
    exact (Chg.setCell w ⟨b, o, none⟩ v).trans (chg_setCells b vs (o + 1) _) (fun x h _ => h)
structure PS where
  id : Int
  ph : Int
  cp : Int
  mp : Int
  n : Int
  t : Int
  inp : Value
  ch : Int
  ms : Int
  sd : Int
  sm : Value
  ss : Value
  f : Nat → Cli.Pr
  told : Value
def psHead (s : PS) : List Value := [.int .i64 s.id, .int .i64 s.ph, .int .i64 s.cp, .int .i64 s.mp, .int .i64 s.n, .int .i64 s.t, s.inp, .int .i64 s.ch, .int .i64 s.ms, .int .i64 s.sd, s.sm, s.ss]
def psCells (s : PS) : List Value := psHead s ++ (circ s.f ++ [s.told])
def PSAt (w : World) (b : Nat) (T : TypeId) (s : PS) : Prop := w.heap[b]? = some (.cells (psCells s).toArray T (0, 0))
theorem PSAt.lt {w : World} {b : Nat} {T : TypeId} {s : PS} (h : PSAt w b T s) : b < w.heap.size := by
  by_cases hb : b < w.heap.size
  · exact hb
  · unfold PSAt at h; rw [Array.getElem?_eq_none (by omega)] at h; cases h
theorem psCells_length (s : PS) : (psCells s).length = 78 := by
  unfold psCells; rw [List.length_append, List.length_append, circ_length]; rfl
theorem PSAt.cell {w : World} {b : Nat} {T : TypeId} {s : PS} (h : PSAt w b T s) (i : Nat) : w.cell? ⟨b, i, none⟩ = (psCells s)[i]? := by
  rw [cell_of_row w b i _ T (0, 0) h]; simp
theorem PSAt.froz {w : World} {b : Nat} {T : TypeId} {s : PS} (h : PSAt w b T s) (i : Nat) : w.frozen? ⟨b, i, none⟩ = false := frozen_of_row w b i _ T h
theorem PSAt.c0 {w : World} {b : Nat} {T : TypeId} {s : PS} (h : PSAt w b T s) : w.cell? ⟨b, 0, none⟩ = some (.int .i64 s.id) := h.cell 0
theorem PSAt.c1 {w : World} {b : Nat} {T : TypeId} {s : PS} (h : PSAt w b T s) : w.cell? ⟨b, 1, none⟩ = some (.int .i64 s.ph) := h.cell 1
theorem PSAt.c2 {w : World} {b : Nat} {T : TypeId} {s : PS} (h : PSAt w b T s) : w.cell? ⟨b, 2, none⟩ = some (.int .i64 s.cp) := h.cell 2
theorem PSAt.c3 {w : World} {b : Nat} {T : TypeId} {s : PS} (h : PSAt w b T s) : w.cell? ⟨b, 3, none⟩ = some (.int .i64 s.mp) := h.cell 3
theorem PSAt.c4 {w : World} {b : Nat} {T : TypeId} {s : PS} (h : PSAt w b T s) : w.cell? ⟨b, 4, none⟩ = some (.int .i64 s.n) := h.cell 4
theorem PSAt.c5 {w : World} {b : Nat} {T : TypeId} {s : PS} (h : PSAt w b T s) : w.cell? ⟨b, 5, none⟩ = some (.int .i64 s.t) := h.cell 5
theorem PSAt.c6 {w : World} {b : Nat} {T : TypeId} {s : PS} (h : PSAt w b T s) : w.cell? ⟨b, 6, none⟩ = some s.inp := h.cell 6
theorem PSAt.c7 {w : World} {b : Nat} {T : TypeId} {s : PS} (h : PSAt w b T s) : w.cell? ⟨b, 7, none⟩ = some (.int .i64 s.ch) := h.cell 7
theorem PSAt.c8 {w : World} {b : Nat} {T : TypeId} {s : PS} (h : PSAt w b T s) : w.cell? ⟨b, 8, none⟩ = some (.int .i64 s.ms) := h.cell 8
theorem PSAt.c9 {w : World} {b : Nat} {T : TypeId} {s : PS} (h : PSAt w b T s) : w.cell? ⟨b, 9, none⟩ = some (.int .i64 s.sd) := h.cell 9
theorem PSAt.c10 {w : World} {b : Nat} {T : TypeId} {s : PS} (h : PSAt w b T s) : w.cell? ⟨b, 10, none⟩ = some s.sm := h.cell 10
theorem PSAt.c11 {w : World} {b : Nat} {T : TypeId} {s : PS} (h : PSAt w b T s) : w.cell? ⟨b, 11, none⟩ = some s.ss := h.cell 11
theorem PSAt.c77 {w : World} {b : Nat} {T : TypeId} {s : PS} (h : PSAt w b T s) : w.cell? ⟨b, 77, none⟩ = some s.told := by
  have e : (psHead s).length = 12 := rfl
  rw [h.cell 77]
  unfold psCells
  rw [List.getElem?_append_right (by rw [e]; decide), e, List.getElem?_append_right (by rw [circ_length]; decide), circ_length]
  rfl
theorem PSAt.range {w : World} {b : Nat} {T : TypeId} {s : PS} (h : PSAt w b T s) : w.rangeAt b 12 (circ s.f) := by
  intro j v hv
  rw [h.cell (12 + j)]
  have hj : j < 65 := by have := (List.getElem?_eq_some_iff.1 hv).1; rwa [circ_length] at this
  unfold psCells
  rw [List.getElem?_append_right (by show 12 ≤ 12 + j; omega)]
  show (circ s.f ++ [s.told])[12 + j - 12]? = _
  rw [Nat.add_sub_cancel_left, List.getElem?_append_left (by rw [circ_length]; exact hj)]
  exact hv
theorem PSAt.there {w : World} {b : Nat} {T : TypeId} {s : PS} (h : PSAt w b T s) (o n : Nat) (ho : o + n ≤ 78) : w.there b o n := by
  intro j hj
  refine ⟨?_, h.froz _⟩
  rw [h.cell, List.getElem?_eq_getElem (by rw [psCells_length]; omega)]; rfl
def PrAt (w : World) (b o : Nat) (p : Cli.Pr) : Prop :=
  w.cell? ⟨b, o, none⟩ = some (.bool p.mem) ∧ w.cell? ⟨b, o + 1, none⟩ = some (.int .i64 p.ck) ∧ w.cell? ⟨b, o + 2, none⟩ = some (.int .i64 p.mq) ∧ w.cell? ⟨b, o + 3, none⟩ = some (.int .i64 p.ms) ∧ w.cell? ⟨b, o + 4, none⟩ = some (.int .i64 p.ss)
theorem prAt_of_range {w : World} {b o : Nat} {f : Nat → Cli.Pr} (h : w.rangeAt b o (circ f)) (v : Nat) (hv : v < 13) : PrAt w b (o + v * 5) (f v) := by
  have g : ∀ i, i < 5 → ∀ x, (prCells (f v))[i]? = some x → w.cell? ⟨b, o + v * 5 + i, none⟩ = some x := fun i hi x hx => by
    rw [Nat.add_assoc]; exact h (v * 5 + i) x (by unfold circ; rw [circN_get f 13 v i hv hi]; exact hx)
  exact ⟨g 0 (by omega) _ rfl, g 1 (by omega) _ rfl, g 2 (by omega) _ rfl, g 3 (by omega) _ rfl, g 4 (by omega) _ rfl⟩
theorem PSAt.peer {w : World} {b : Nat} {T : TypeId} {s : PS} (h : PSAt w b T s) (v : Nat) (hv : v < 13) : PrAt w b (12 + v * 5) (s.f v) := prAt_of_range h.range v hv
theorem PSAt.setPh {w : World} {b : Nat} {T : TypeId} {s : PS} (h : PSAt w b T s) (x : Int) : PSAt (w.setCell ⟨b, 1, none⟩ (.int .i64 x)) b T { s with ph := x } := by
  have := heap_setCell_same w b 1 _ T (.int .i64 x) h
  rw [List.setIfInBounds_toArray] at this
  exact this
theorem PSAt.setCp {w : World} {b : Nat} {T : TypeId} {s : PS} (h : PSAt w b T s) (x : Int) : PSAt (w.setCell ⟨b, 2, none⟩ (.int .i64 x)) b T { s with cp := x } := by
  have := heap_setCell_same w b 2 _ T (.int .i64 x) h
  rw [List.setIfInBounds_toArray] at this
  exact this
theorem PSAt.setMp {w : World} {b : Nat} {T : TypeId} {s : PS} (h : PSAt w b T s) (x : Int) : PSAt (w.setCell ⟨b, 3, none⟩ (.int .i64 x)) b T { s with mp := x } := by
  have := heap_setCell_same w b 3 _ T (.int .i64 x) h
  rw [List.setIfInBounds_toArray] at this
  exact this
theorem PSAt.setTold {w : World} {b : Nat} {T : TypeId} {s : PS} (h : PSAt w b T s) (x : Value) : PSAt (w.setCell ⟨b, 77, none⟩ x) b T { s with told := x } := by
  have := heap_setCell_same w b 77 _ T x h
  rw [List.setIfInBounds_toArray] at this
  have e : (psCells s).set 77 x = psCells { s with told := x } := by
    unfold psCells
    rw [List.set_append_right _ _ (by show 12 ≤ 77; omega)]
    show psHead s ++ (circ s.f ++ [s.told]).set 65 x = psHead s ++ (circ s.f ++ [x])
    rw [List.set_append_right _ _ (by rw [circ_length]; exact Nat.le_refl _), circ_length]
    rfl
  rw [e] at this
  exact this
theorem PSAt.setF {w : World} {b : Nat} {T : TypeId} {s : PS} (h : PSAt w b T s) (g : Nat → Cli.Pr) : PSAt (w.setCells b 12 (circ g)) b T { s with f := g } := by
  have := heap_setCells b T (circ g) (psHead s) (circ s.f) [s.told] w (by rw [circ_length, circ_length]) h
  exact this
theorem PSAt.setDraw {w : World} {b : Nat} {T : TypeId} {s : PS} (h : PSAt w b T s) (v0 : Value) (a1 a2 a3 : Int) (v4 v5 : Value) :
    PSAt (w.setCells b 6 [v0, .int .i64 a1, .int .i64 a2, .int .i64 a3, v4, v5]) b T { s with inp := v0, ch := a1, ms := a2, sd := a3, sm := v4, ss := v5 } := by
  have := heap_setCells b T [v0, .int .i64 a1, .int .i64 a2, .int .i64 a3, v4, v5] [.int .i64 s.id, .int .i64 s.ph, .int .i64 s.cp, .int .i64 s.mp, .int .i64 s.n, .int .i64 s.t] [s.inp, .int .i64 s.ch, .int .i64 s.ms, .int .i64 s.sd, s.sm, s.ss] (circ s.f ++ [s.told]) w rfl h
  exact this
theorem PSAt.setAll {w : World} {b : Nat} {T : TypeId} {s : PS} (h : PSAt w b T s) (s' : PS) : PSAt (w.setCells b 0 (psCells s')) b T s' := by
  have := heap_setCells b T (psCells s') [] (psCells s) [] w (by rw [psCells_length, psCells_length]) (by rw [List.append_nil]; exact h)
  rw [List.append_nil] at this
  exact this
theorem PSAt.block {w w' : World} {b : Nat} {T : TypeId} {s : PS} (h : PSAt w b T s) (e : w'.heap[b]? = w.heap[b]?) : PSAt w' b T s := e.trans h
theorem PSAt.below {w w' : World} {b : Nat} {T : TypeId} {s : PS} (h : PSAt w b T s) (hb : Below w.heap.size w w') : PSAt w' b T s := h.block (hb.block b h.lt)
theorem ListAt.keep {w w' : World} {v : Value} {zs : List Int} (h : ListAt w v zs) (hs : w.heap.size ≤ w'.heap.size) (hb : ∀ x, v.ownBlock = some x → w'.heap[x]? = w.heap[x]?) : ListAt w' v zs := by
  obtain ⟨a, cap, h1, h2, h3, h4, h5⟩ := h
  refine ⟨a, cap, h1, h2, h3, h4, ?_⟩
  rcases h5 with h5 | ⟨b, off, e1, e2, e3⟩
  · exact .inl h5
  · refine .inr ⟨b, off, e1, Nat.lt_of_lt_of_le e2 hs, fun i hi => ?_⟩
    rw [← e3 i hi]
    exact World.cell?_of_block (w := w) (hb b (by rw [h1, e1]; rfl))
theorem ItemsAt.keep {w w' : World} {v : Value} {l : List Frm.It} (h : ItemsAt w v l) (hs : w.heap.size ≤ w'.heap.size) (hb : ∀ x, v.ownBlock = some x → w'.heap[x]? = w.heap[x]?) : ItemsAt w' v l := by
  obtain ⟨a, cap, h1, h2, h3, h4, h5⟩ := h
  refine ⟨a, cap, h1, h2, h3, h4, ?_⟩
  rcases h5 with h5 | ⟨b, off, e1, e2, e3⟩
  · exact .inl h5
  · refine .inr ⟨b, off, e1, Nat.lt_of_lt_of_le e2 hs, fun i hi => ?_⟩
    have hc : ∀ o, w'.cell? ⟨b, o, none⟩ = w.cell? ⟨b, o, none⟩ := fun o => World.cell?_of_block (w := w) (hb b (by rw [h1, e1]; rfl))
    obtain ⟨i0, i1, i2, i3⟩ := e3 i hi
    exact ⟨(hc _).trans i0, (hc _).trans i1, (hc _).trans i2, (hc _).trans i3⟩
def CFoot (b : Nat) (s : PS) (x : Nat) : Prop := x = b ∨ s.inp.ownBlock = some x ∨ s.sm.ownBlock = some x ∨ s.ss.ownBlock = some x ∨ s.told.ownBlock = some x
structure CliAt (w : World) (b : Nat) (c : Cli.Cl) (s : Cli.St) (S : PS) : Prop where
  at_ : PSAt w b 231 S
  ph : 0 ≤ s.1 ∧ s.1 ≤ 4
  eid : S.id = c.id
  eph : S.ph = s.1
  ecp : S.cp = Cli.pubA c
  emp : S.mp = Cli.pubB c
  one : s.1 = 1 → S.n = c.N ∧ S.ch = c.ch ∧ S.ms = c.ms ∧ ListAt w S.sm c.sm ∧ ListAt w S.ss c.ss
  mid : 1 ≤ s.1 → s.1 ≤ 2 → ListAt w S.inp c.inp ∧ S.sd = c.sd
  et : 1 ≤ s.1 → s.1 ≤ 3 → S.t = c.T
  two : s.1 = 2 → (∀ v, v < 13 → S.f v = Cli.firstP c s.2.1 v) ∧ Frm.riseB s.2.1 = true ∧ Cli.keysAgree c s.2.1 = true ∧ (∀ x ∈ s.2.1, 0 ≤ x.2.1 ∧ x.2.1 < 2305843009213693951 ∧ 0 ≤ x.2.2.1 ∧ x.2.2.1 < 2305843009213693951)
  three : s.1 = 3 → (∀ v, v < 13 → S.f v = Cli.secondP c s.2.1 s.2.2.1 v) ∧ Frm.riseB s.2.2.1 = true ∧ Cli.boxAgree c s.2.1 s.2.2.1 = true
  nil : s.1 ≠ 4 → S.told = .slice none 0 0
  four : s.1 = 4 → ItemsAt w S.told (Cli.tells c s.2.1 s.2.2.1 s.2.2.2)
  apart : S.inp.ownBlock ≠ some b ∧ S.sm.ownBlock ≠ some b ∧ S.ss.ownBlock ≠ some b ∧ S.told.ownBlock ≠ some b
theorem CliAt.keep {w w' : World} {b : Nat} {c : Cli.Cl} {s : Cli.St} {S : PS} (h : CliAt w b c s S) (hs : w.heap.size ≤ w'.heap.size) (hb : ∀ x, CFoot b S x → w'.heap[x]? = w.heap[x]?) : CliAt w' b c s S where
  at_ := h.at_.block (hb b (.inl rfl))
  ph := h.ph
  eid := h.eid
  eph := h.eph
  ecp := h.ecp
  emp := h.emp
  one := fun e => by
    obtain ⟨a1, a2, a3, a4, a5⟩ := h.one e
    exact ⟨a1, a2, a3, a4.keep hs (fun x hx => hb x (.inr (.inr (.inl hx)))), a5.keep hs (fun x hx => hb x (.inr (.inr (.inr (.inl hx)))))⟩
  mid := fun e e' => by
    obtain ⟨a1, a2⟩ := h.mid e e'
    exact ⟨a1.keep hs (fun x hx => hb x (.inr (.inl hx))), a2⟩
  et := h.et
  two := h.two
  three := h.three
  nil := h.nil
  four := fun e => (h.four e).keep hs (fun x hx => hb x (.inr (.inr (.inr (.inr hx)))))
  apart := h.apart
end Go.Proofs.YtchideljndagjabGreat
namespace Go.Proofs.YtchideljndagjabGreat
open Go.RowKit
set_option linter.unusedVariables false
def CircAt (w : World) (b : Nat) (f : Nat → Cli.Pr) : Prop := w.heap[b]? = some (.cells (circ f).toArray 203 (0, 0))
theorem zero_circ : Tryz.zeroCells203 = (circ fun _ => Cli.Pr.z).toArray := by kernel_rfl
theorem size_circ : (Tryz.prog.info? 203).map (·.size) = some 65 := by kernel_rfl
theorem size_peer : (Tryz.prog.info? 201).map (·.size) = some 5 := by kernel_rfl
theorem CircAt.lt {w : World} {b : Nat} {f : Nat → Cli.Pr} (h : CircAt w b f) : b < w.heap.size := by
  by_cases hb : b < w.heap.size
  · exact hb
  · unfold CircAt at h; rw [Array.getElem?_eq_none (by omega)] at h; cases h
theorem CircAt.range {w : World} {b : Nat} {f : Nat → Cli.Pr} (h : CircAt w b f) : w.rangeAt b 0 (circ f) := by
  intro j v hv
  rw [Nat.zero_add, cell_of_row w b j _ _ (0, 0) h]
  simpa using hv
theorem CircAt.there {w : World} {b : Nat} {f : Nat → Cli.Pr} (h : CircAt w b f) (o n : Nat) (ho : o + n ≤ 65) : w.there b o n := by
  intro j hj
  refine ⟨?_, frozen_of_row w b _ _ _ h⟩
  rw [cell_of_row w b _ _ _ (0, 0) h]
  simp only [List.getElem?_toArray]
  rw [List.getElem?_eq_getElem (by rw [circ_length]; omega)]; rfl
theorem CircAt.set {w : World} {b : Nat} {f : Nat → Cli.Pr} (h : CircAt w b f) (u : Nat) (hu : u < 13) (p : Cli.Pr) : CircAt (w.setCells b (u * 5) (prCells p)) b (Cli.updP f u p) := by
  have e := circN_split f u 13 hu
  unfold CircAt circ at h ⊢
  rw [e] at h
  have := heap_setCells b _ (prCells p) (circN f u) (prCells (f u)) _ w rfl h
  rw [circN_length] at this
  rw [circN_upd f u p 13 hu]
  exact this
theorem CircAt.all {w : World} {b : Nat} {f : Nat → Cli.Pr} (h : CircAt w b f) (g : Nat → Cli.Pr) : CircAt (w.setCells b 0 (circ g)) b g := by
  unfold CircAt at h ⊢
  have := heap_setCells b 203 (circ g) [] (circ f) [] w (by rw [circ_length, circ_length]) (by rw [List.append_nil]; exact h)
  rw [List.append_nil] at this
  exact this
theorem CircAt.block {w w' : World} {b : Nat} {f : Nat → Cli.Pr} (h : CircAt w b f) (e : w'.heap[b]? = w.heap[b]?) : CircAt w' b f := e.trans h
theorem CircAt.below {w w' : World} {b B : Nat} {f : Nat → Cli.Pr} (h : CircAt w b f) (hb : Below B w w') (hB : b < B) : CircAt w' b f := h.block (hb.block b hB)
theorem below_setCells {B : Nat} {a : World} {b : Nat} (hb : B ≤ b) : ∀ (vs : List Value) (o : Nat) (w : World), Below B a w → Below B a (w.setCells b o vs)
  | [], o, w, h => h
  | v :: vs, o, w, h => by
    rw [World.setCells]
    exact below_setCells hb vs (o + 1) _ (h.setCell (p := ⟨b, o, none⟩) hb v)
theorem size_setCells (b : Nat) : ∀ (vs : List Value) (o : Nat) (w : World), (w.setCells b o vs).heap.size = w.heap.size
  | [], o, w => rfl
  | v :: vs, o, w => by
    rw [World.setCells, size_setCells b vs (o + 1)]
    simp [World.setCell]
theorem heap_setCells_other (b k : Nat) (h : k ≠ b) : ∀ (vs : List Value) (o : Nat) (w : World), (w.setCells b o vs).heap[k]? = w.heap[k]?
  | [], o, w => rfl
  | v :: vs, o, w => by
    rw [World.setCells, heap_setCells_other b k h vs (o + 1), Below.heap_setCell _ _ _ _ h]
end Go.Proofs.YtchideljndagjabGreat
namespace Go.Proofs.YtchideljndagjabGreat
open Go.RowKit
set_option linter.unusedVariables false
theorem one5 (m : Bool) (a b c d : Int) : (#[.bool m, .int .i64 a, .int .i64 b, .int .i64 c, .int .i64 d] : Array Value).all (·.oneCell') = true :=
  all_oneCell_toArray (cs := prCells ⟨m, a, b, c, d⟩) fun v hv => by
    simp only [prCells, List.mem_cons, List.not_mem_nil, or_false] at hv
    rcases hv with rfl | rfl | rfl | rfl | rfl <;> rfl
theorem size5 (m : Bool) (a b c d : Int) : (Tryz.prog.info? 201).map (·.size) = some (#[.bool m, .int .i64 a, .int .i64 b, .int .i64 c, .int .i64 d] : Array Value).size := size_peer
theorem wpList_store_peer {ops : Array Oper} {rest : List Oper} {op : Oper} {a : Act} {w : World} {Q : Exit → Act → World → Prop} (hgd : op.guard = none) (x y : Operand) (ho : op.op = .store 201 x y)
    (b o : Nat) (m : Bool) (a1 a2 a3 a4 : Int) (hx : a.eval x = .pointer (some ⟨b, o, none⟩)) (hy : a.eval y = .agg #[.bool m, .int .i64 a1, .int .i64 a2, .int .i64 a3, .int .i64 a4])
    (ht : w.there b o 5)
    (h : wpList Tryz.prog ops Q rest (a.put op.dst undef) (w.setCells b o (prCells ⟨m, a1, a2, a3, a4⟩))) : wpList Tryz.prog ops Q (op :: rest) a w :=
  wpList_store_mid hgd _ x y ho b o _ hx hy ht (size5 _ _ _ _ _) (one5 _ _ _ _ _) h
end Go.Proofs.YtchideljndagjabGreat
namespace Go.Proofs.YtchideljndagjabGreat
open Go.RowKit
set_option linter.unusedVariables false
def bl13 (f : Nat → Bool) : List Value := [.bool (f 0), .bool (f 1), .bool (f 2), .bool (f 3), .bool (f 4), .bool (f 5), .bool (f 6), .bool (f 7), .bool (f 8), .bool (f 9), .bool (f 10), .bool (f 11), .bool (f 12)]
def updB (f : Nat → Bool) (v : Nat) (p : Bool) : Nat → Bool := fun u => if u = v then p else f u
theorem bl13_length (f : Nat → Bool) : (bl13 f).length = 13 := rfl
theorem bl13_get (f : Nat → Bool) (v : Nat) (hv : v < 13) : (bl13 f)[v]? = some (.bool (f v)) := by
  have hd : v = 0 ∨ v = 1 ∨ v = 2 ∨ v = 3 ∨ v = 4 ∨ v = 5 ∨ v = 6 ∨ v = 7 ∨ v = 8 ∨ v = 9 ∨ v = 10 ∨ v = 11 ∨ v = 12 := by omega
  rcases hd with rfl | rfl | rfl | rfl | rfl | rfl | rfl | rfl | rfl | rfl | rfl | rfl | rfl <;> rfl
theorem bl13_set (f : Nat → Bool) (v : Nat) (hv : v < 13) (p : Bool) : (bl13 f).set v (.bool p) = bl13 (updB f v p) := by
  have hd : v = 0 ∨ v = 1 ∨ v = 2 ∨ v = 3 ∨ v = 4 ∨ v = 5 ∨ v = 6 ∨ v = 7 ∨ v = 8 ∨ v = 9 ∨ v = 10 ∨ v = 11 ∨ v = 12 := by omega
  rcases hd with rfl | rfl | rfl | rfl | rfl | rfl | rfl | rfl | rfl | rfl | rfl | rfl | rfl <;> rfl
theorem bl13_ext {f g : Nat → Bool} (h : ∀ v, v < 13 → f v = g v) : bl13 f = bl13 g := by
  unfold bl13
  rw [h 0 (by omega), h 1 (by omega), h 2 (by omega), h 3 (by omega), h 4 (by omega), h 5 (by omega), h 6 (by omega), h 7 (by omega), h 8 (by omega), h 9 (by omega), h 10 (by omega), h 11 (by omega), h 12 (by omega)]
theorem bl13_one (f : Nat → Bool) : ∀ v ∈ bl13 f, v.oneCell' = true := by
  intro v hv
  simp only [bl13, List.mem_cons, List.not_mem_nil, or_false] at hv
  rcases hv with rfl | rfl | rfl | rfl | rfl | rfl | rfl | rfl | rfl | rfl | rfl | rfl | rfl <;> rfl
def BoolsAt (w : World) (b : Nat) (T : TypeId) (f : Nat → Bool) : Prop := w.heap[b]? = some (.cells (bl13 f).toArray T (0, 0))
theorem BoolsAt.lt {w : World} {b : Nat} {T : TypeId} {f : Nat → Bool} (h : BoolsAt w b T f) : b < w.heap.size := by
  by_cases hb : b < w.heap.size
  · exact hb
  · unfold BoolsAt at h; rw [Array.getElem?_eq_none (by omega)] at h; cases h
theorem BoolsAt.cell {w : World} {b : Nat} {T : TypeId} {f : Nat → Bool} (h : BoolsAt w b T f) (v : Nat) (hv : v < 13) : w.cell? ⟨b, v, none⟩ = some (.bool (f v)) := by
  rw [cell_of_row w b v _ T (0, 0) h]; simp only [List.getElem?_toArray]; exact bl13_get f v hv
theorem BoolsAt.froz {w : World} {b : Nat} {T : TypeId} {f : Nat → Bool} (h : BoolsAt w b T f) (v : Nat) : w.frozen? ⟨b, v, none⟩ = false := frozen_of_row w b v _ T h
theorem BoolsAt.set {w : World} {b : Nat} {T : TypeId} {f : Nat → Bool} (h : BoolsAt w b T f) (v : Nat) (hv : v < 13) (p : Bool) : BoolsAt (w.setCell ⟨b, v, none⟩ (.bool p)) b T (updB f v p) := by
  have := heap_setCell_same w b v _ T (.bool p) h
  rw [List.setIfInBounds_toArray, bl13_set f v hv p] at this
  exact this
theorem BoolsAt.block {w w' : World} {b : Nat} {T : TypeId} {f : Nat → Bool} (h : BoolsAt w b T f) (e : w'.heap[b]? = w.heap[b]?) : BoolsAt w' b T f := e.trans h
theorem BoolsAt.below {w w' : World} {b B : Nat} {T : TypeId} {f : Nat → Bool} (h : BoolsAt w b T f) (hb : Below B w w') (hB : b < B) : BoolsAt w' b T f := h.block (hb.block b hB)
theorem BoolsAt.ext {w : World} {b : Nat} {T : TypeId} {f g : Nat → Bool} (h : BoolsAt w b T f) (e : ∀ v, v < 13 → f v = g v) : BoolsAt w b T g := by
  unfold BoolsAt at h ⊢; rw [← bl13_ext e]; exact h
theorem BoolsAt.range {w : World} {b : Nat} {T : TypeId} {f : Nat → Bool} (h : BoolsAt w b T f) : w.rangeAt b 0 (bl13 f) := by
  intro j v hv
  rw [Nat.zero_add, cell_of_row w b j _ _ (0, 0) h]
  simpa using hv
theorem has_upd (l : List Frm.It) (j : Nat) (hj : j < l.length) (u : Nat) (hu : (Frm.it l j).1 = (u : Int)) : (fun v : Nat => Cli.hasI (l.take (j + 1)) v) = updB (fun v : Nat => Cli.hasI (l.take j) v) u true := by
  funext v
  unfold updB
  rw [Cli.hasI_take_succ l j hj, hu]
  by_cases e : v = u
  · subst e; simp
  · rw [if_neg e, decide_eq_false (by omega), Bool.or_false]
end Go.Proofs.YtchideljndagjabGreat
namespace Go.Proofs.YtchideljndagjabGreat
open Go.ChangeShapes Go.WideShapes Go.ChangeAt Go.RowKit
set_option linter.unusedVariables false
def haltS (S : PS) : PS := ⟨S.id, 0, S.cp, S.mp, 0, 0, .slice none 0 0, 0, 0, 0, .slice none 0 0, .slice none 0 0, fun _ => Cli.Pr.z, .slice none 0 0⟩
theorem size98 : (Tryz.prog.info? 205).map (·.size) = some 78 := by kernel_rfl
theorem psCells_one (s : PS) (h1 : s.inp.oneCell' = true) (h2 : s.sm.oneCell' = true) (h3 : s.ss.oneCell' = true) (h4 : s.told.oneCell' = true) : (psCells s).toArray.all (·.oneCell') = true := by
  refine all_oneCell_toArray fun v hv => ?_
  unfold psCells psHead at hv
  rcases List.mem_append.1 hv with hv | hv
  · simp only [List.mem_cons, List.not_mem_nil, or_false] at hv
    rcases hv with rfl | rfl | rfl | rfl | rfl | rfl | rfl | rfl | rfl | rfl | rfl | rfl <;> first | rfl | assumption
  · rcases List.mem_append.1 hv with hv | hv
    · exact circ_one _ v hv
    · simp at hv; subst hv; exact h4
set_option maxHeartbeats 1000000 in
set_option maxRecDepth 100000 in
theorem halt_calls (b : Nat) (T : TypeId) (S : PS) (w : World) (h : PSAt w b T S) :
    Calls Tryz.prog 200 #[.pointer (some ⟨b, 0, none⟩)] w fun e w' => e = .returned (.tuple #[]) ∧ PSAt w' b T (haltS S) ∧ Chg (fun x => x = b) w w' := by
  have c0 := h.c0
  have c2 := h.c2
  have c3 := h.c3
  have hst0 := run_storeAt_mid (P := Tryz.prog) w.drew b 0 205 (psCells (haltS S)).toArray (by rw [World.there_drew, List.size_toArray, psCells_length]; exact h.there 0 78 (by omega)) (by rw [size98, List.size_toArray, psCells_length]) (psCells_one _ rfl rfl rfl rfl)
  have hst1 := run_storeCells_cells (P := Tryz.prog) b 0 (psCells (haltS S)) 0 w.drew (fun j hj => ((World.there_drew w b 0 78).2 (h.there 0 78 (by omega)) j (by rw [psCells_length] at hj; exact hj)).1) (fun j hj => ((World.there_drew w b 0 78).2 (h.there 0 78 (by omega)) j (by rw [psCells_length] at hj; exact hj)).2) (fun v hv => (Array.all_eq_true_iff_forall_mem.1 (psCells_one (haltS S) rfl rfl rfl rfl)) v (by simpa using hv))
  have hst2 : (storeCells ⟨b, 0, none⟩ ((((Tryz.zeroCells205.toList.set 0 (Value.int IntKind.i64 S.id)).set 1 (Value.int IntKind.i64 0)).set 2 (Value.int IntKind.i64 S.cp)).set 3 (Value.int IntKind.i64 S.mp)) 0).run Tryz.prog w.drew = .ok () (w.drew.setCells b 0 (psCells (haltS S))) := hst1
  have HR := hideG (show PSAt (w.drew.setCells b 0 (psCells (haltS S))) b T (haltS S) ∧ Chg (fun x => x = b) w (w.drew.setCells b 0 (psCells (haltS S))) from
    ⟨PSAt.setAll (w := w.drew) h _, (Chg.of_below (S := fun x => x = b) (w := w) (w' := w.drew) (Below.refl _ _).drew).trans (chg_setCells b _ 0 w.drew) (fun x e _ => e)⟩)
  clear h hst0 hst1
  generalize psCells (haltS S) = cs at *
  generalize S.id = a at *
  generalize S.cp = p at *
  generalize S.mp = q at *
  go_enter Tryz.func200, Tryz.ntmps200
  go_wp2_with fail
  go_region
  all_goals (go_wp2_with fail; go_end0; exact ⟨rfl, HR.out⟩)
end Go.Proofs.YtchideljndagjabGreat
namespace Go.Proofs.YtchideljndagjabGreat
open Go.RowKit
set_option linter.unusedVariables false
def strBlk (w : World) (s : ByteArray) : Obj := .cells (bytesRow s (grownCap w s.size 0 5)) 5 ((bytesRow s (grownCap w s.size 0 5)).size, (bytesRow s (grownCap w s.size 0 5)).size + 1)
theorem conv_bytes (w : World) (s : ByteArray) : (convert 9 47 (.string s)).run Tryz.prog w = .ok (.slice (some ⟨w.heap.size, 0, none⟩) s.size (grownCap w s.size 0 5)) (w.drew.alloc (strBlk w s)) :=
  run_bytes_of_string w 9 47 5 s Tryz.underlying9 Tryz.underlying47 Tryz.underlying5
theorem bytesAt_new (w : World) (s : ByteArray) (hs : s.size ≤ maxLen) : BytesAt (w.drew.alloc (strBlk w s)) (.slice (some ⟨w.heap.size, 0, none⟩) s.size (grownCap w s.size 0 5)) (bl s) := by
  refine ⟨_, _, by rw [bl_length], by rw [bl_length]; exact grownCap_ge _ _ _ _, grownCap_le_maxLen _ _ _ _ hs, bl_isB s, .inr ⟨w.heap.size, 0, rfl, (by show w.heap.size < (w.drew.heap.push _).size; rw [Array.size_push]; exact Nat.lt_succ_self _), fun i hi => ?_⟩⟩
  rw [bl_length] at hi
  have hi' : i < s.data.size := hi
  have := World.cell?_alloc_mark w.drew (bytesRow s (grownCap w s.size 0 5)) 5 ((bytesRow s (grownCap w s.size 0 5)).size, (bytesRow s (grownCap w s.size 0 5)).size + 1) i
  rw [Nat.zero_add]
  refine this.trans ?_
  rw [bytesRow_at s _ i hi']
  unfold Frm.bAt bl
  rw [List.getD_eq_getElem?_getD, List.getElem?_map, Array.getElem?_toList, Array.getElem?_eq_getElem hi']
  rfl
theorem below_bytes (w : World) (s : ByteArray) : Below w.heap.size w (w.drew.alloc (strBlk w s)) := ((Below.refl _ _).drew).alloc (Nat.le_refl _) _
theorem conv_ex (w : World) (s : ByteArray) (hs : s.size ≤ maxLen) : ∃ v w', (convert 9 47 (.string s)).run Tryz.prog w = .ok v w' ∧ BytesAt w' v (bl s) ∧ Below w.heap.size w w' :=
  ⟨_, _, conv_bytes w s, bytesAt_new w s hs, below_bytes w s⟩
theorem bytesN_isB (v : Int) : Frm.isB (Frm.bytesN v) := by
  intro x hx
  unfold Frm.bytesN at hx
  simp only [List.mem_cons, List.not_mem_nil, or_false] at hx
  omega
theorem encF_isB {k fr : Int} {l : List Frm.It} (h : Frm.okF k fr l = true) : Frm.isB (Frm.encF k fr l) := by
  obtain ⟨o1, o2, o3, o4, o5, o6⟩ := Frm.okF_bounds h
  intro x hx
  unfold Frm.encF at hx
  simp only [List.mem_cons] at hx
  rcases hx with rfl | rfl | rfl | hx
  · omega
  · omega
  · omega
  · obtain ⟨y, hy, hx⟩ := List.mem_flatten.1 hx
    obtain ⟨t, ht, rfl⟩ := List.mem_map.1 hy
    obtain ⟨i, hi, rfl⟩ := List.getElem_of_mem ht
    have hid := o6 i hi
    have e : Frm.it l i = l[i] := by unfold Frm.it; rw [List.getD_eq_getElem?_getD, List.getElem?_eq_getElem hi]; rfl
    rw [e] at hid
    unfold Frm.encI at hx
    rcases List.mem_cons.1 hx with rfl | hx
    · omega
    · obtain ⟨z, hz, hx⟩ := List.mem_flatten.1 hx
      obtain ⟨q, _, rfl⟩ := List.mem_map.1 hz
      exact bytesN_isB q x hx
end Go.Proofs.YtchideljndagjabGreat
namespace Go.Proofs.YtchideljndagjabGreat
open Go.RowKit
set_option linter.unusedVariables false
theorem ListAt.chg {P : Nat → Prop} {w w' : World} {v : Value} {zs : List Int} (h : ListAt w v zs) (hc : Chg P w w') (hn : ∀ x, v.ownBlock = some x → ¬ P x) : ListAt w' v zs := by
  obtain ⟨a, cap, h1, h2, h3, h4, h5⟩ := h
  refine ⟨a, cap, h1, h2, h3, h4, ?_⟩
  rcases h5 with h5 | ⟨b, off, e1, e2, e3⟩
  · exact .inl h5
  · refine .inr ⟨b, off, e1, Nat.lt_of_lt_of_le e2 hc.size, fun i hi => ?_⟩
    rw [← e3 i hi]
    exact World.cell?_of_block (w := w) (hc.block b e2 (hn b (by rw [h1, e1]; rfl)))
theorem BytesAt.chg {P : Nat → Prop} {w w' : World} {v : Value} {zs : List Int} (h : BytesAt w v zs) (hc : Chg P w w') (hn : ∀ x, v.ownBlock = some x → ¬ P x) : BytesAt w' v zs := by
  obtain ⟨a, cap, h1, h2, h3, h4, h5⟩ := h
  refine ⟨a, cap, h1, h2, h3, h4, ?_⟩
  rcases h5 with h5 | ⟨b, off, e1, e2, e3⟩
  · exact .inl h5
  · refine .inr ⟨b, off, e1, Nat.lt_of_lt_of_le e2 hc.size, fun i hi => ?_⟩
    rw [← e3 i hi]
    exact World.cell?_of_block (w := w) (hc.block b e2 (hn b (by rw [h1, e1]; rfl)))
theorem ItemsAt.chg {P : Nat → Prop} {w w' : World} {v : Value} {l : List Frm.It} (h : ItemsAt w v l) (hc : Chg P w w') (hn : ∀ x, v.ownBlock = some x → ¬ P x) : ItemsAt w' v l := by
  obtain ⟨a, cap, h1, h2, h3, h4, h5⟩ := h
  refine ⟨a, cap, h1, h2, h3, h4, ?_⟩
  rcases h5 with h5 | ⟨b, off, e1, e2, e3⟩
  · exact .inl h5
  · refine .inr ⟨b, off, e1, Nat.lt_of_lt_of_le e2 hc.size, fun i hi => ?_⟩
    have hcl : ∀ o, w'.cell? ⟨b, o, none⟩ = w.cell? ⟨b, o, none⟩ := fun o => World.cell?_of_block (w := w) (hc.block b e2 (hn b (by rw [h1, e1]; rfl)))
    obtain ⟨i0, i1, i2, i3⟩ := e3 i hi
    exact ⟨(hcl _).trans i0, (hcl _).trans i1, (hcl _).trans i2, (hcl _).trans i3⟩
theorem Chg.drew (S : Nat → Prop) (w : World) : Chg S w w.drew := ⟨rfl, rfl, rfl, Nat.le_refl _, fun _ _ _ => rfl⟩
theorem Chg.also {S : Nat → Prop} {a b c : World} (h : Chg S a b) (k : Chg S b c) : Chg S a c := h.trans k (fun _ e _ => e)
theorem Chg.grow {S : Nat → Prop} {a b c : World} (h : Chg S a b) (k : Below b.heap.size b c) : Chg S a c := h.trans (Chg.of_below (S := S) k) (fun _ e _ => e)
theorem okF_in {k fr : Int} {l : List Frm.It} (h : Frm.okF k fr l = true) : ∀ x ∈ l, inIt x := fun x hx => by
  obtain ⟨i, hi, rfl⟩ := List.getElem_of_mem hx
  have hok := (Frm.okF_parts h).2.2.2.2 i hi
  have hid := (Frm.okF_bounds h).2.2.2.2.2 i hi
  obtain ⟨n1, n2, n3⟩ := Frm.okI_named hok
  rw [Cli.it_get l i hi] at hid n1 n2 n3
  refine ⟨?_, ?_, ?_, ?_⟩ <;> unfold inI <;> omega
theorem okF_keys {fr : Int} {l : List Frm.It} (h : Frm.okF 2 fr l = true) : ∀ x ∈ l, 0 ≤ x.2.1 ∧ x.2.1 < 2305843009213693951 ∧ 0 ≤ x.2.2.1 ∧ x.2.2.1 < 2305843009213693951 := fun x hx => by
  obtain ⟨i, hi, rfl⟩ := List.getElem_of_mem hx
  have hok := (Frm.okF_parts h).2.2.2.2 i hi
  rw [Cli.it_get l i hi] at hok
  have e : (Frm.keyB (l[i]).2.1 && (Frm.keyB (l[i]).2.2.1 && Frm.zB (l[i]).2.2.2)) = true := hok
  rw [Bool.and_eq_true, Bool.and_eq_true, Frm.keyB_iff, Frm.keyB_iff] at e
  omega
theorem okF_box {fr : Int} {l : List Frm.It} (h : Frm.okF 4 fr l = true) : ∀ x ∈ l, (0 ≤ x.2.1 ∧ x.2.1 < 2305843009213693951) ∧ (0 ≤ x.2.2.1 ∧ x.2.2.1 < 2305843009213693951) ∧ (0 ≤ x.2.2.2 ∧ x.2.2.2 < 2305843009213693951) := fun x hx => by
  obtain ⟨i, hi, rfl⟩ := List.getElem_of_mem hx
  have hok := (Frm.okF_parts h).2.2.2.2 i hi
  rw [Cli.it_get l i hi] at hok
  have e : (Num.elB (l[i]).2.1 && (Num.elB (l[i]).2.2.1 && Num.elB (l[i]).2.2.2)) = true := hok
  rw [Bool.and_eq_true, Bool.and_eq_true, Num.elB_iff, Num.elB_iff, Num.elB_iff] at e
  exact e
structure CliW (w : World) (b : Nat) (c : Cli.Cl) (s : Cli.St) (S : PS) : Prop where
  cli : CliAt w b c s S
  low : ∀ x, CFoot b S x → x < w.heap.size
theorem CliW.keep {w w' : World} {b : Nat} {c : Cli.Cl} {s : Cli.St} {S : PS} (h : CliW w b c s S) (hs : w.heap.size ≤ w'.heap.size) (hb : ∀ x, CFoot b S x → w'.heap[x]? = w.heap[x]?) : CliW w' b c s S :=
  ⟨h.cli.keep hs hb, fun x hx => Nat.lt_of_lt_of_le (h.low x hx) hs⟩
theorem CliW.below {w w' : World} {b : Nat} {c : Cli.Cl} {s : Cli.St} {S : PS} (h : CliW w b c s S) (hb : Below w.heap.size w w') : CliW w' b c s S := h.keep hb.size (fun x hx => hb.block x (h.low x hx))
theorem CliW.chg {P : Nat → Prop} {w w' : World} {b : Nat} {c : Cli.Cl} {s : Cli.St} {S : PS} (h : CliW w b c s S) (hc : Chg P w w') (hn : ∀ x, CFoot b S x → ¬ P x) : CliW w' b c s S := h.keep hc.size (fun x hx => hc.block x (h.low x hx) (hn x hx))
structure Took (w w' : World) (b : Nat) (c : Cli.Cl) (s' : Cli.St) (S S' : PS) : Prop where
  cli : CliW w' b c s' S'
  chg : Chg (fun x => x = b) w w'
  foot : ∀ x, CFoot b S' x → CFoot b S x ∨ w.heap.size ≤ x
def Ans (w w' : World) (b : Nat) (S' : PS) (va : Value) : Option Cli.Fr → Prop
  | none => va = .slice none 0 0
  | some f => w'.ownsRow w.heap.size 5 1 va (Frm.encF f.1 f.2.1 f.2.2).length ((Frm.encF f.1 f.2.1 f.2.2).map (Value.int .u8)) ∧ ∀ x, va.ownBlock = some x → ¬ CFoot b S' x
theorem nil_own : (Value.slice none 0 0).ownBlock = none := rfl
theorem cliAt_halt {w' : World} {b : Nat} {c : Cli.Cl} {s' : Cli.St} {S : PS} (hs : s'.1 = 0) (hp : PSAt w' b 231 (haltS S)) (e1 : S.id = c.id) (e2 : S.cp = Cli.pubA c) (e3 : S.mp = Cli.pubB c) : CliAt w' b c s' (haltS S) where
  at_ := hp
  ph := by omega
  eid := e1
  eph := hs.symm
  ecp := e2
  emp := e3
  one := fun e => by omega
  mid := fun e _ => by omega
  et := fun e _ => by omega
  two := fun e => by omega
  three := fun e => by omega
  nil := fun _ => rfl
  four := fun e => by omega
  apart := ⟨by rw [show (haltS S).inp = .slice none 0 0 from rfl, nil_own]; simp, by rw [show (haltS S).sm = .slice none 0 0 from rfl, nil_own]; simp, by rw [show (haltS S).ss = .slice none 0 0 from rfl, nil_own]; simp, by rw [show (haltS S).told = .slice none 0 0 from rfl, nil_own]; simp⟩
theorem foot_halt {b : Nat} {S : PS} : ∀ x, CFoot b (haltS S) x → x = b := by
  intro x h
  rcases h with h | h | h | h | h
  · exact h
  all_goals (unfold haltS at h; simp [nil_own] at h)
theorem took_halt {w w1 w' : World} {b : Nat} {c : Cli.Cl} {s' : Cli.St} {S : PS} (hs : s'.1 = 0) (hp : PSAt w' b 231 (haltS S)) (e1 : S.id = c.id) (e2 : S.cp = Cli.pubA c) (e3 : S.mp = Cli.pubB c)
    (h1 : Chg (fun x => x = b) w w1) (h2 : Chg (fun x => x = b) w1 w') : Took w w' b c s' S (haltS S) :=
  ⟨⟨cliAt_halt hs hp e1 e2 e3, fun x hx => by rw [foot_halt x hx]; exact hp.lt⟩, h1.also h2, fun x hx => .inl (.inl (foot_halt x hx))⟩
end Go.Proofs.YtchideljndagjabGreat
