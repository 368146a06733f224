/- What the World of a script owns: its lists, their marks, and that nothing else writes into them. Plain reasoning on worlds. -/
import Derived.Test.YtgfkgekaodibhaaGreatGrow
import Derived.Laws.AppendOwn
import Derived.Laws.OwnMore
import Derived.Laws.Rows
import Derived.OwnWalk
import Derived.ArgAppend
namespace Go.Proofs.YtgfkgekaodibhaaGreat
open Go.RowKit
set_option linter.unusedVariables false

/-- Nothing turns but the blocks of S; new blocks may come. -/
structure Chg (S : Nat → Prop) (w w' : World) : Prop where
  os : w'.os = w.os
  tape : w'.tape = w.tape
  output : w'.output = w.output
  size : w.heap.size ≤ w'.heap.size
  block : ∀ k, k < w.heap.size → ¬ S k → w'.heap[k]? = w.heap[k]?

theorem Chg.refl (S : Nat → Prop) (w : World) : Chg S w w := ⟨rfl, rfl, rfl, Nat.le_refl _, fun _ _ _ => rfl⟩
theorem Chg.mono {S S' : Nat → Prop} {w w' : World} (h : Chg S w w') (hS : ∀ b, S b → b < w.heap.size → S' b) : Chg S' w w' :=
  ⟨h.os, h.tape, h.output, h.size, fun k hk hn => h.block k hk (fun hs => hn (hS k hs hk))⟩
theorem Chg.trans {S S' : Nat → Prop} {a b c : World} (h : Chg S a b) (k : Chg S' b c) (hS : ∀ x, S' x → x < a.heap.size → S x) : Chg S a c :=
  ⟨k.os.trans h.os, k.tape.trans h.tape, k.output.trans h.output, Nat.le_trans h.size k.size, fun i hi hn =>
    (k.block i (Nat.lt_of_lt_of_le hi h.size) (fun hs => hn (hS i hs hi))).trans (h.block i hi hn)⟩
theorem Chg.setCell (w : World) (p : Addr) (u : Value) : Chg (fun b => b = p.block) w (w.setCell p u) :=
  ⟨rfl, rfl, rfl, by simp [World.setCell], fun k _ hn => Below.heap_setCell _ _ _ _ hn⟩
theorem Chg.alloc (S : Nat → Prop) (w : World) (o : Obj) : Chg S w (w.alloc o) :=
  ⟨rfl, rfl, rfl, by simp, fun k hk _ => Below.heap_alloc _ _ _ hk⟩
theorem Chg.grown {w w' : World} {row : Option Nat} (h : w.grownBy w' row) : Chg (fun b => row = some b) w w' :=
  ⟨h.os, h.tape, h.output, h.size, fun k hk hn => h.block k hk (fun e => hn e.symm)⟩
theorem Chg.of_below {S : Nat → Prop} {w w' : World} (h : Below w.heap.size w w') : Chg S w w' := ⟨h.os, h.tape, h.output, h.size, fun k hk _ => h.block k hk⟩
theorem Chg.below {S : Nat → Prop} {B : Nat} {w w' : World} (h : Chg S w w') (hB : B ≤ w.heap.size) (hS : ∀ b, S b → B ≤ b) : Below B w w' :=
  ⟨h.os, h.tape, h.output, h.size, fun k hk => h.block k (by omega) (fun hs => by have := hS k hs; omega)⟩

theorem ownsRow_chg {S : Nat → Prop} {w w' : World} {base : Nat} {e : TypeId} {size : Nat} {v : Value} {n : Nat} {xs : List Value} (h : w.ownsRow base e size v n xs) (hc : Chg S w w')
    (hS : ∀ b, v.ownBlock = some b → ¬ S b) : w'.ownsRow base e size v n xs := by
  have hlt := h.lt
  obtain ⟨h1, h2⟩ := h
  refine ⟨h1, ?_⟩
  rcases h2 with h2 | ⟨g, cap, cur, rfl, h3, h4, h5⟩
  · exact .inl h2
  · exact .inr ⟨g, cap, cur, rfl, h3, by rw [hc.block g (hlt g rfl).2 (hS g rfl)]; exact h4, h5⟩

theorem ownsRow_base {w : World} {base base' : Nat} {e : TypeId} {size : Nat} {v : Value} {n : Nat} {xs : List Value} (h : w.ownsRow base e size v n xs) (hb : base' ≤ base) : w.ownsRow base' e size v n xs := by
  obtain ⟨h1, h2⟩ := h
  refine ⟨h1, ?_⟩
  rcases h2 with h2 | ⟨g, cap, cur, h0, h3, h4⟩
  · exact .inl h2
  · exact .inr ⟨g, cap, cur, h0, by omega, h4⟩

/-- One element appended: the row grows where it stands, or moves to a new block. -/
theorem wpList_append_one {P : Program} (w : World) {ops : Array Oper} {rest : List Oper} {o : Oper} {a : Act} {Q : Exit → Act → World → Prop} (hgd : o.guard = none) (s x : Operand) (t : TypeId)
    (ho : o.op = .call { callee := .builtin .append, args := #[s, x], argTypes := #[t, t] })
    (base : Nat) (e : TypeId) (i : TypeInfo) (z : Value) (bytes : Nat) (ht : P.underlying t = some (.slice e)) (hi : P.info? e = some i) (hz : i.zero = some z)
    (hsize : i.size = 1) (hby : i.bytes = bytes) (hzs : z.cells.size = 1)
    (v : Value) (n : Nat) (xs : List Value) (hs : a.eval s = v) (hown : w.ownsRow base e 1 v n xs)
    (ad : Addr) (c : Nat) (new : Value) (hx : a.eval x = .slice (some ad) 1 c) (hnew : w.cell? ad = some new) (h1 : new.oneCell' = true)
    (h63 : n + 1 ≤ maxLen) (hbytes : (n + 1) * bytes ≤ 140737488355328) (hbase : base ≤ w.heap.size)
    (h : ∀ g' cap' w', w'.ownsRow base e 1 (.slice (some ⟨g', 0, none⟩) (n + 1) cap') (n + 1) (xs ++ [new]) → w.grownBy w' v.ownBlock → (v.ownBlock = some g' ∨ w.heap.size ≤ g') →
      wpList P ops Q rest (a.put o.dst (.slice (some ⟨g', 0, none⟩) (n + 1) cap')) w') : wpList P ops Q (o :: rest) a w := by
  have shape : ∀ (B k : Nat) (v' : Value) (w' : World) (ys : List Value), w'.ownsRow B e 1 v' (k + 1) ys → ∃ g' cap', v' = .slice (some ⟨g', 0, none⟩) (k + 1) cap' ∧ B ≤ g' := by
    intro B k v' w' ys ho'
    rcases ho'.2 with ⟨_, e0⟩ | ⟨g', cap', _, e0, e1, _⟩
    · omega
    · exact ⟨g', cap', e0, e1⟩
  have hnews : ∀ j u, ([new] : List Value)[j]? = some u → w.cell? (ad.add j) = some u := by
    intro j u hj
    match j, hj with
    | 0, hj => simp at hj; subst hj; simpa [Addr.add] using hnew
  have hone : ∀ u ∈ [new], u.oneCell' = true := by intro u hu; simp at hu; subst hu; exact h1
  have free : ∀ w', w.grownBy w' none → w.grownBy w' v.ownBlock := fun w' g => ⟨g.os, g.tape, g.output, g.size, fun k hk _ => g.block k hk (by simp)⟩
  have hown0 := hown
  obtain ⟨hl, hcase⟩ := hown
  rcases hcase with ⟨rfl, rfl⟩ | ⟨g, cap, cur, rfl, hbg, hg, hnc, hcm, hcs, htake⟩
  · have hx0 : xs = [] := List.eq_nil_of_length_eq_zero (by simpa using hl)
    subst hx0
    refine wpList_append_grows w hgd s x t ho e i z 1 bytes ht hi hz hsize hby hzs (by omega) none 0 0 [] hs (fun _ => ⟨rfl, rfl⟩) rfl (fun _ h => by cases h) ad 1 c [new] hx rfl hnews hone (by omega) h63 hbytes ?_
    intro v' w' ho' hg'
    obtain ⟨g', cap', rfl, hge⟩ := shape _ _ _ _ _ ho'
    exact h g' cap' w' (ownsRow_base ho' hbase) (free w' hg') (.inr hge)
  · by_cases hroom : n + 1 ≤ cap
    · refine wpList_append_fits w hgd s x t ho base e i 1 ht hi hsize g n cap xs hs hown0 ad 1 c [new] hx rfl hnews hone hroom ?_
      intro w' ho' hg'
      exact h g cap w' ho' hg' (.inl rfl)
    · refine wpList_append_grows w hgd s x t ho e i z 1 bytes ht hi hz hsize hby hzs (by omega) (some ⟨g, 0, none⟩) n cap xs hs (fun h => by cases h) hl
        (fun b hb => by cases hb; exact hown0.cells (g := g) rfl) ad 1 c [new] hx rfl hnews hone (by omega) h63 hbytes ?_
      intro v' w' ho' hg'
      obtain ⟨g', cap', rfl, hge⟩ := shape _ _ _ _ _ ho'
      exact h g' cap' w' (ownsRow_base ho' hbase) (free w' hg') (.inr hge)

/-! ### The World's block -/
def fArr (F : Nat → Value) : Array Value := #[F 0, F 1, F 2, F 3, F 4, F 5, F 6, F 7, F 8, F 9, F 10, F 11, F 12, F 13, F 14, F 15]
def upd (F : Nat → Value) (j : Nat) (v : Value) : Nat → Value := fun i => if i = j then v else F i
theorem upd_same (F : Nat → Value) (j : Nat) (v : Value) : upd F j v j = v := by simp [upd]
theorem upd_other (F : Nat → Value) {i j : Nat} (v : Value) (h : i ≠ j) : upd F j v i = F i := by simp [upd, h]

set_option maxRecDepth 100000 in
theorem fArr_set (F : Nat → Value) (j : Nat) (v : Value) (hj : j < 16) : (fArr F).setIfInBounds j v = fArr (upd F j v) := by
  match j, hj with
  | 0, _ => rfl
  | 1, _ => rfl
  | 2, _ => rfl
  | 3, _ => rfl
  | 4, _ => rfl
  | 5, _ => rfl
  | 6, _ => rfl
  | 7, _ => rfl
  | 8, _ => rfl
  | 9, _ => rfl
  | 10, _ => rfl
  | 11, _ => rfl
  | 12, _ => rfl
  | 13, _ => rfl
  | 14, _ => rfl
  | 15, _ => rfl
  | n + 16, h => exact absurd h (by omega)

theorem set_f {w : World} {pw : Nat} {F : Nat → Value} {T : TypeId} (j : Nat) (v : Value) (hj : j < 16) (h : w.heap[pw]? = some (.cells (fArr F) T (0, 0))) :
    (w.setCell ⟨pw, j, none⟩ v).heap[pw]? = some (.cells (fArr (upd F j v)) T (0, 0)) := by
  rw [← fArr_set F j v hj]; exact heap_setCell_same w pw j (fArr F) T v h

theorem cell_f {w : World} {pw : Nat} {F : Nat → Value} {T : TypeId} (h : w.heap[pw]? = some (.cells (fArr F) T (0, 0))) (j : Nat) (hj : j < 16) : w.cell? ⟨pw, j, none⟩ = some (F j) ∧ w.frozen? ⟨pw, j, none⟩ = false := by
  constructor
  · simp only [World.cell?, h]
    match j, hj with
    | 0, _ => rfl
    | 1, _ => rfl
    | 2, _ => rfl
    | 3, _ => rfl
    | 4, _ => rfl
    | 5, _ => rfl
    | 6, _ => rfl
    | 7, _ => rfl
    | 8, _ => rfl
    | 9, _ => rfl
    | 10, _ => rfl
    | 11, _ => rfl
    | 12, _ => rfl
    | 13, _ => rfl
    | 14, _ => rfl
    | 15, _ => rfl
    | n + 16, h => exact absurd h (by omega)
  · simp [World.frozen?, h]

end Go.Proofs.YtgfkgekaodibhaaGreat
