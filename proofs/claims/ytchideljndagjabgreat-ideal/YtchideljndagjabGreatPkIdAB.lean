/- A region that draws its order, whose operations only read and whose callees make new memory at most: one walk in the order of the text serves every order. -/
import Derived.WalkKit
import Derived.ProofKit
import Derived.OpenShut
import Derived.Below
import Derived.Deep.QuietTactic
import Derived.BigQuiet
import Derived.Deep.RegionWith
import Derived.Laws.AppendOwn
import Derived.Laws.OwnMore
import Derived.ChangeOld
import Derived.Test.YtchideljndagjabGreatPkIdAA
import Derived.Laws.BytesArg
import Derived.Laws.IdiomStrings
import Derived.Laws.Rows
import Derived.OwnWalk
import Derived.ArgAppend
import Derived.Test.YtchideljndagjabGreatRows
namespace Go.Proofs.YtchideljndagjabGreat
open Go.RowKit
theorem hideG {p : Prop} (h : p) : Hid p := h
theorem wp_region_grow {P : Program} {id : Nat} {Q : Exit → Act → World → Prop} {a : Act} {w : World} {l : List Oper} (hm : P.follows .mixedOrders = true) (hB : Region.lexB .any l.toArray = true)
    (h : ∀ (I : Type) (G : I → World), Nonempty I → Hid (∀ u, Below w.heap.size w (G u)) → (∀ u b o, b < w.heap.size → (G u).cell? ⟨b, o, none⟩ = w.cell? ⟨b, o, none⟩) →
      Hid (∀ u w', Below w.heap.size (G u) w' → ∃ v, w' = G v) →
      wpQuiet P l.toArray (fun w' => ∃ u, w' = G u) (fun a' => ∀ w', (∃ u, w' = G u) → Q .normal a' w') l a) : (Code.region id l.toArray true).wp P Q a w := by
  have h1 := h { w' : World // Below w.heap.size w w' } Subtype.val ⟨⟨w, Below.refl _ _⟩⟩ (hideG fun u => u.2) (fun u b o hb => u.2.cell (p := ⟨b, o, none⟩) hb)
    (hideG fun u w' hw => ⟨⟨w', u.2.trans hw⟩, rfl⟩)
  exact wp_region_quiet (C := fun w' => ∃ u : { w' : World // Below w.heap.size w w' }, w' = u.1) hm hB ⟨⟨w.drew, (Below.refl _ _).drew⟩, rfl⟩ (by simpa using h1)
theorem call_grow {P : Program} {f : FuncId} {args : Array Value} {W : World} {I : Type} {G : I → World} {v : Value} (hw : Hid (∀ u, Below W.heap.size W (G u))) (hn : Hid (∀ u w', Below W.heap.size (G u) w' → ∃ v, w' = G v))
    {u : I} (h : Calls P f args (G u) fun e w' => e = .returned v ∧ Below (G u).heap.size (G u) w') : Calls P f args (G u) fun e w' => e = .returned v ∧ ∃ m, w' = G m :=
  h.mono fun _ w' ⟨he, hb⟩ => ⟨he, hn.out u w' (hb.mono (hw.out u).size)⟩
theorem call_same {P : Program} {f : FuncId} {args : Array Value} {I : Type} {G : I → World} {v : Value}
    {u : I} (h : Calls P f args (G u) fun e w' => e = .returned v ∧ w' = G u) : Calls P f args (G u) fun e w' => e = .returned v ∧ ∃ m, w' = G m :=
  h.mono fun _ _ ⟨he, hb⟩ => ⟨he, u, hb⟩
end Go.Proofs.YtchideljndagjabGreat
namespace Go.Proofs.YtchideljndagjabGreat
open Go.RowKit
set_option linter.unusedVariables false
def inI (x : Int) : Prop := -9223372036854775808 ≤ x ∧ x ≤ 9223372036854775807
def ListAt (w : World) (v : Value) (zs : List Int) : Prop :=
  ∃ (a : Option Addr) (cap : Nat), v = .slice a zs.length cap ∧ zs.length ≤ cap ∧ cap ≤ maxLen ∧ (∀ z ∈ zs, inI z) ∧
    (zs = [] ∨ ∃ b off, a = some ⟨b, off, none⟩ ∧ b < w.heap.size ∧ ∀ i, i < zs.length → w.cell? ⟨b, off + i, none⟩ = some (.int .i64 (zs.getD i 0)))
theorem ListAt.below {w w' : World} {v : Value} {zs : List Int} (h : ListAt w v zs) (hb : Below w.heap.size w w') : ListAt w' v zs := by
  obtain ⟨a, cap, h1, h2, h3, h4, h5⟩ := h
  refine ⟨a, cap, h1, h2, h3, h4, ?_⟩
  rcases h5 with h5 | ⟨b, off, e1, e2, e3⟩
  · exact .inl h5
  · exact .inr ⟨b, off, e1, Nat.lt_of_lt_of_le e2 hb.size, fun i hi => by rw [hb.cell (p := ⟨b, off + i, none⟩) e2]; exact e3 i hi⟩
theorem listAt_of_owns {w : World} {B : Nat} {v : Value} {n : Nat} {zs : List Int} (h : w.ownsRow B 3 1 v n (zs.map (Value.int .i64))) (hz : ∀ z ∈ zs, inI z) : ListAt w v zs := by
  have hl : zs.length = n := by have := h.1; simpa using this
  subst hl
  have h0 := h
  rcases h.2 with ⟨rfl, hn⟩ | ⟨g, cap, cur, rfl, _, hb, hnc, hcm, _⟩
  · have hz0 : zs = [] := List.eq_nil_of_length_eq_zero hn
    subst hz0
    exact ⟨none, 0, rfl, by simp, Nat.zero_le _, hz, .inl rfl⟩
  · refine ⟨some ⟨g, 0, none⟩, cap, rfl, hnc, hcm, hz, .inr ⟨g, 0, rfl, (h0.lt g rfl).2, fun i hi => ?_⟩⟩
    have := h0.cellAt i (by omega)
    rw [Nat.zero_add, this, List.getElem?_map, List.getElem?_eq_getElem hi, List.getD_eq_getElem?_getD, List.getElem?_eq_getElem hi]
    rfl
theorem below_drewN (w : World) (n : Nat) : Below w.heap.size w (w.drewN n) := by
  induction n with
  | zero => exact Below.refl _ _
  | succ n ih => exact ⟨rfl, rfl, rfl, Nat.le_refl _, fun _ _ => rfl⟩
end Go.Proofs.YtchideljndagjabGreat
namespace Go.Proofs.YtchideljndagjabGreat
open Go.RowKit
set_option linter.unusedVariables false
theorem cell_in {w : World} {a : Addr} {v : Value} (h : w.cell? a = some v) : a.block < w.heap.size := by
  have hs := World.cell?_spot h
  obtain ⟨b, off, spot⟩ := a
  refine World.cells?_block (w := w) (base := 0) (a := ⟨b, off, spot⟩) (n := 1) (cs := [v]) ?_ (by omega)
  simp [World.cells?, Addr.add, h]
theorem rowed {w : World} {a : Option Addr} {len cap : Nat} {zs : List Int}
    (h : (a = none ∧ len = 0 ∧ cap = 0 ∧ zs = []) ∨ ∃ x, a = some x ∧ len ≤ cap ∧ cap ≤ maxLen ∧ zs.length = cap ∧ (∀ i, i < zs.length → w.cell? (x.add i) = some (.int .i64 (zs.getD i 0))) ∧ ∀ n ∈ zs, (Lit.int .i64 n).wf = true) :
    ListAt w (.slice a len cap) (zs.take len) ∧ (zs.take len).length = len := by
  rcases h with ⟨rfl, rfl, rfl, rfl⟩ | ⟨x, rfl, hl, hm, hz, hcell, hwz⟩
  · exact ⟨⟨none, 0, rfl, by simp, Nat.zero_le _, by simp, .inl rfl⟩, rfl⟩
  · have htl : (zs.take len).length = len := by rw [List.length_take]; omega
    refine ⟨⟨some x, cap, by rw [htl], by omega, hm, fun z hz' => bounds_i64 (hwz z (List.mem_of_mem_take hz')), ?_⟩, htl⟩
    rcases Nat.eq_zero_or_pos len with h0 | h0
    · exact .inl (by rw [h0]; rfl)
    · right
      obtain ⟨b, off, spot⟩ := x
      have hc0 := hcell 0 (by omega)
      have hspot : spot = none := by simpa [Addr.add] using World.cell?_spot hc0
      subst hspot
      refine ⟨b, off, rfl, cell_in hc0, fun i hi => ?_⟩
      have hci := hcell i (by omega)
      rw [List.getD_eq_getElem?_getD, List.getElem?_take_of_lt (by omega), ← List.getD_eq_getElem?_getD, ← hci]
      unfold Addr.add
      by_cases hi0 : i = 0
      · simp [hi0]
      · simp [hi0]
end Go.Proofs.YtchideljndagjabGreat
namespace Go.Proofs.YtchideljndagjabGreat
open Go.RowKit
set_option linter.unusedVariables false
def BytesAt (w : World) (v : Value) (zs : List Int) : Prop :=
  ∃ (a : Option Addr) (cap : Nat), v = .slice a zs.length cap ∧ zs.length ≤ cap ∧ cap ≤ maxLen ∧ Frm.isB zs ∧
    (zs = [] ∨ ∃ b off, a = some ⟨b, off, none⟩ ∧ b < w.heap.size ∧ ∀ i, i < zs.length → w.cell? ⟨b, off + i, none⟩ = some (.int .u8 (Frm.bAt zs i)))
theorem BytesAt.below {w w' : World} {v : Value} {zs : List Int} (h : BytesAt w v zs) (hb : Below w.heap.size w w') : BytesAt w' v zs := by
  obtain ⟨a, cap, h1, h2, h3, h4, h5⟩ := h
  refine ⟨a, cap, h1, h2, h3, h4, ?_⟩
  rcases h5 with h5 | ⟨b, off, e1, e2, e3⟩
  · exact .inl h5
  · exact .inr ⟨b, off, e1, Nat.lt_of_lt_of_le e2 hb.size, fun i hi => by rw [hb.cell (p := ⟨b, off + i, none⟩) e2]; exact e3 i hi⟩
theorem bytesAt_of_owns {w : World} {B : Nat} {v : Value} {n : Nat} {zs : List Int} (h : w.ownsRow B 5 1 v n (zs.map (Value.int .u8))) (hz : Frm.isB zs) : BytesAt w v zs := by
  have hl : zs.length = n := by have := h.1; simpa using this
  subst hl
  have h0 := h
  rcases h.2 with ⟨rfl, hn⟩ | ⟨g, cap, cur, rfl, _, hb, hnc, hcm, _⟩
  · have hz0 : zs = [] := List.eq_nil_of_length_eq_zero hn
    subst hz0
    exact ⟨none, 0, rfl, by simp, Nat.zero_le _, hz, .inl rfl⟩
  · refine ⟨some ⟨g, 0, none⟩, cap, rfl, hnc, hcm, hz, .inr ⟨g, 0, rfl, (h0.lt g rfl).2, fun i hi => ?_⟩⟩
    have := h0.cellAt i (by omega)
    unfold Frm.bAt
    rw [Nat.zero_add, this, List.getElem?_map, List.getElem?_eq_getElem hi, List.getD_eq_getElem?_getD, List.getElem?_eq_getElem hi]
    rfl
theorem bytes_view {w : World} {v : Value} {zs : List Int} (h : BytesAt w v zs) : ∃ (a : Option Addr) (cap : Nat), v = .slice a zs.length cap ∧ zs.length ≤ cap ∧ cap ≤ 9223372036854775807 ∧ Frm.isB zs ∧
    ∀ k, k < zs.length → ∃ b off, a = some ⟨b, off, none⟩ ∧ b < w.heap.size ∧ w.cell? ⟨b, off + k, none⟩ = some (.int .u8 (Frm.bAt zs k)) := by
  obtain ⟨a, cap, h1, h2, h3, h4, h5⟩ := h
  refine ⟨a, cap, h1, h2, by unfold maxLen at h3; omega, h4, fun k hk => ?_⟩
  rcases h5 with h5 | ⟨b, off, e, hb, hc⟩
  · rw [h5] at hk; simp at hk
  · exact ⟨b, off, e, hb, hc k hk⟩
def inIt (x : Frm.It) : Prop := inI x.1 ∧ inI x.2.1 ∧ inI x.2.2.1 ∧ inI x.2.2.2
def ItemAt (w : World) (b o : Nat) (x : Frm.It) : Prop :=
  w.cell? ⟨b, o, none⟩ = some (.int .i64 x.1) ∧ w.cell? ⟨b, o + 1, none⟩ = some (.int .i64 x.2.1) ∧ w.cell? ⟨b, o + 2, none⟩ = some (.int .i64 x.2.2.1) ∧ w.cell? ⟨b, o + 3, none⟩ = some (.int .i64 x.2.2.2)
def ItemsAt (w : World) (v : Value) (l : List Frm.It) : Prop :=
  ∃ (a : Option Addr) (cap : Nat), v = .slice a l.length cap ∧ l.length ≤ cap ∧ cap ≤ maxLen ∧ (∀ x ∈ l, inIt x) ∧
    (l = [] ∨ ∃ b off, a = some ⟨b, off, none⟩ ∧ b < w.heap.size ∧ ∀ i, i < l.length → ItemAt w b (off + i * 4) (Frm.it l i))
theorem ItemAt.below {w w' : World} {b o : Nat} {x : Frm.It} (h : ItemAt w b o x) (hlt : b < w.heap.size) (hb : Below w.heap.size w w') : ItemAt w' b o x := by
  obtain ⟨h0, h1, h2, h3⟩ := h
  refine ⟨?_, ?_, ?_, ?_⟩
  · rw [hb.cell (p := ⟨b, o, none⟩) hlt]; exact h0
  · rw [hb.cell (p := ⟨b, o + 1, none⟩) hlt]; exact h1
  · rw [hb.cell (p := ⟨b, o + 2, none⟩) hlt]; exact h2
  · rw [hb.cell (p := ⟨b, o + 3, none⟩) hlt]; exact h3
theorem ItemsAt.below {w w' : World} {v : Value} {l : List Frm.It} (h : ItemsAt w v l) (hb : Below w.heap.size w w') : ItemsAt w' v l := by
  obtain ⟨a, cap, h1, h2, h3, h4, h5⟩ := h
  refine ⟨a, cap, h1, h2, h3, h4, ?_⟩
  rcases h5 with h5 | ⟨b, off, e1, e2, e3⟩
  · exact .inl h5
  · exact .inr ⟨b, off, e1, Nat.lt_of_lt_of_le e2 hb.size, fun i hi => (e3 i hi).below e2 hb⟩
theorem items_view {w : World} {v : Value} {l : List Frm.It} (h : ItemsAt w v l) : ∃ (a : Option Addr) (cap : Nat), v = .slice a l.length cap ∧ l.length ≤ cap ∧ cap ≤ 9223372036854775807 ∧ (∀ x ∈ l, inIt x) ∧
    ∀ k, k < l.length → ∃ b off, a = some ⟨b, off, none⟩ ∧ b < w.heap.size ∧ ItemAt w b (off + k * 4) (Frm.it l k) := by
  obtain ⟨a, cap, h1, h2, h3, h4, h5⟩ := h
  refine ⟨a, cap, h1, h2, by unfold maxLen at h3; omega, h4, fun k hk => ?_⟩
  rcases h5 with h5 | ⟨b, off, e, hb, hc⟩
  · rw [h5] at hk; simp at hk
  · exact ⟨b, off, e, hb, hc k hk⟩
def flat4 : List Frm.It → List Value
  | [] => []
  | p :: l => .int .i64 p.1 :: .int .i64 p.2.1 :: .int .i64 p.2.2.1 :: .int .i64 p.2.2.2 :: flat4 l
theorem flat4_append (l m : List Frm.It) : flat4 (l ++ m) = flat4 l ++ flat4 m := by
  induction l with
  | nil => rfl
  | cons p l ih => show _ :: _ :: _ :: _ :: flat4 (l ++ m) = _ :: _ :: _ :: _ :: (flat4 l ++ flat4 m); rw [ih]
theorem flat4_get (l : List Frm.It) (i : Nat) (hi : i < l.length) : (flat4 l)[i * 4]? = some (.int .i64 (Frm.it l i).1) ∧ (flat4 l)[i * 4 + 1]? = some (.int .i64 (Frm.it l i).2.1) ∧
    (flat4 l)[i * 4 + 2]? = some (.int .i64 (Frm.it l i).2.2.1) ∧ (flat4 l)[i * 4 + 3]? = some (.int .i64 (Frm.it l i).2.2.2) := by
  induction l generalizing i with
  | nil => simp at hi
  | cons p l ih =>
    cases i with
    | zero => exact ⟨rfl, rfl, rfl, rfl⟩
    | succ i =>
      have h := ih i (by simpa using hi)
      rw [show (i + 1) * 4 = i * 4 + 1 + 1 + 1 + 1 by omega]
      exact h
theorem itemsAt_of_owns {w : World} {B : Nat} {v : Value} {l : List Frm.It} (h : w.ownsRow B 147 4 v l.length (flat4 l)) (hp : ∀ x ∈ l, inIt x) : ItemsAt w v l := by
  have h0 := h
  rcases h.2 with ⟨rfl, hn⟩ | ⟨g, cap, cur, rfl, _, hb, hnc, hcm, _⟩
  · have hz0 : l = [] := List.eq_nil_of_length_eq_zero hn
    subst hz0
    exact ⟨none, 0, rfl, by simp, Nat.zero_le _, hp, .inl rfl⟩
  · refine ⟨some ⟨g, 0, none⟩, cap, rfl, hnc, hcm, hp, .inr ⟨g, 0, rfl, (h0.lt g rfl).2, fun i hi => ?_⟩⟩
    obtain ⟨f1, f2, f3, f4⟩ := flat4_get l i hi
    rw [Nat.zero_add]
    exact ⟨(h0.cellAt (i * 4) (by omega)).trans f1, (h0.cellAt (i * 4 + 1) (by omega)).trans f2, (h0.cellAt (i * 4 + 2) (by omega)).trans f3, (h0.cellAt (i * 4 + 3) (by omega)).trans f4⟩
def bl (s : ByteArray) : List Int := s.data.toList.map fun b => (b.toNat : Int)
theorem bl_length (s : ByteArray) : (bl s).length = s.size := by unfold bl; rw [List.length_map]; rfl
theorem bl_isB (s : ByteArray) : Frm.isB (bl s) := by
  intro x hx
  unfold bl at hx
  obtain ⟨b, _, rfl⟩ := List.mem_map.1 hx
  have := b.toNat_lt
  omega
end Go.Proofs.YtchideljndagjabGreat
namespace Go.Proofs.YtchideljndagjabGreat
open Go.RowKit
set_option linter.unusedVariables false
structure Chg (S : Nat → Prop) (w w' : World) : Prop where
  os : w'.os = w.os
  tape : w'.tape = w.tape
  output : w'.output = w.output
  size : w.heap.size ≤ w'.heap.size
  block : ∀ k, k < w.heap.size → ¬ S k → w'.heap[k]? = w.heap[k]?
theorem Chg.refl (S : Nat → Prop) (w : World) : Chg S w w := ⟨rfl, rfl, rfl, Nat.le_refl _, fun _ _ _ => rfl⟩
theorem Chg.mono {S S' : Nat → Prop} {w w' : World} (h : Chg S w w') (hS : ∀ b, S b → b < w.heap.size → S' b) : Chg S' w w' :=
  ⟨h.os, h.tape, h.output, h.size, fun k hk hn => h.block k hk (fun hs => hn (hS k hs hk))⟩
theorem Chg.trans {S S' : Nat → Prop} {a b c : World} (h : Chg S a b) (k : Chg S' b c) (hS : ∀ x, S' x → x < a.heap.size → S x) : Chg S a c :=
  ⟨k.os.trans h.os, k.tape.trans h.tape, k.output.trans h.output, Nat.le_trans h.size k.size, fun i hi hn =>
    (k.block i (Nat.lt_of_lt_of_le hi h.size) (fun hs => hn (hS i hs hi))).trans (h.block i hi hn)⟩
theorem Chg.setCell (w : World) (p : Addr) (u : Value) : Chg (fun b => b = p.block) w (w.setCell p u) :=
  ⟨rfl, rfl, rfl, by simp [World.setCell], fun k _ hn => Below.heap_setCell _ _ _ _ hn⟩
theorem Chg.alloc (S : Nat → Prop) (w : World) (o : Obj) : Chg S w (w.alloc o) :=
  ⟨rfl, rfl, rfl, by simp, fun k hk _ => Below.heap_alloc _ _ _ hk⟩
theorem Chg.grown {w w' : World} {row : Option Nat} (h : w.grownBy w' row) : Chg (fun b => row = some b) w w' :=
  ⟨h.os, h.tape, h.output, h.size, fun k hk hn => h.block k hk (fun e => hn e.symm)⟩
theorem Chg.of_below {S : Nat → Prop} {w w' : World} (h : Below w.heap.size w w') : Chg S w w' := ⟨h.os, h.tape, h.output, h.size, fun k hk _ => h.block k hk⟩
theorem Chg.below {S : Nat → Prop} {B : Nat} {w w' : World} (h : Chg S w w') (hB : B ≤ w.heap.size) (hS : ∀ b, S b → B ≤ b) : Below B w w' :=
  ⟨h.os, h.tape, h.output, h.size, fun k hk => h.block k (by omega) (fun hs => by have := hS k hs; omega)⟩
theorem ownsRow_chg {S : Nat → Prop} {w w' : World} {base : Nat} {e : TypeId} {size : Nat} {v : Value} {n : Nat} {xs : List Value} (h : w.ownsRow base e size v n xs) (hc : Chg S w w')
    (hS : ∀ b, v.ownBlock = some b → ¬ S b) : w'.ownsRow base e size v n xs := by
  have hlt := h.lt
  obtain ⟨h1, h2⟩ := h
  refine ⟨h1, ?_⟩
  rcases h2 with h2 | ⟨g, cap, cur, rfl, h3, h4, h5⟩
  · exact .inl h2
  · exact .inr ⟨g, cap, cur, rfl, h3, by rw [hc.block g (hlt g rfl).2 (hS g rfl)]; exact h4, h5⟩
theorem ownsRow_base {w : World} {base base' : Nat} {e : TypeId} {size : Nat} {v : Value} {n : Nat} {xs : List Value} (h : w.ownsRow base e size v n xs) (hb : base' ≤ base) : w.ownsRow base' e size v n xs := by
  obtain ⟨h1, h2⟩ := h
  refine ⟨h1, ?_⟩
  rcases h2 with h2 | ⟨g, cap, cur, h0, h3, h4⟩
  · exact .inl h2
  · exact .inr ⟨g, cap, cur, h0, by omega, h4⟩
theorem wpList_append_one {P : Program} (w : World) {ops : Array Oper} {rest : List Oper} {o : Oper} {a : Act} {Q : Exit → Act → World → Prop} (hgd : o.guard = none) (s x : Operand) (t : TypeId)
    (ho : o.op = .call { callee := .builtin .append, args := #[s, x], argTypes := #[t, t] })
    (base : Nat) (e : TypeId) (i : TypeInfo) (z : Value) (bytes : Nat) (ht : P.underlying t = some (.slice e)) (hi : P.info? e = some i) (hz : i.zero = some z)
    (hsize : i.size = 1) (hby : i.bytes = bytes) (hzs : z.cells.size = 1)
    (v : Value) (n : Nat) (xs : List Value) (hs : a.eval s = v) (hown : w.ownsRow base e 1 v n xs)
    (ad : Addr) (c : Nat) (new : Value) (hx : a.eval x = .slice (some ad) 1 c) (hnew : w.cell? ad = some new) (h1 : new.oneCell' = true)
    (h63 : n + 1 ≤ maxLen) (hbytes : (n + 1) * bytes ≤ 140737488355328) (hbase : base ≤ w.heap.size)
    (h : ∀ g' cap' w', w'.ownsRow base e 1 (.slice (some ⟨g', 0, none⟩) (n + 1) cap') (n + 1) (xs ++ [new]) → w.grownBy w' v.ownBlock → (v.ownBlock = some g' ∨ w.heap.size ≤ g') →
      wpList P ops Q rest (a.put o.dst (.slice (some ⟨g', 0, none⟩) (n + 1) cap')) w') : wpList P ops Q (o :: rest) a w := by
  have shape : ∀ (B k : Nat) (v' : Value) (w' : World) (ys : List Value), w'.ownsRow B e 1 v' (k + 1) ys → ∃ g' cap', v' = .slice (some ⟨g', 0, none⟩) (k + 1) cap' ∧ B ≤ g' := by
    intro B k v' w' ys ho'
    rcases ho'.2 with ⟨_, e0⟩ | ⟨g', cap', _, e0, e1, _⟩
    · omega
    · exact ⟨g', cap', e0, e1⟩
  have hnews : ∀ j u, ([new] : List Value)[j]? = some u → w.cell? (ad.add j) = some u := by
    intro j u hj
    match j, hj with
    | 0, hj => simp at hj; subst hj; simpa [Addr.add] using hnew
  have hone : ∀ u ∈ [new], u.oneCell' = true := by intro u hu; simp at hu; subst hu; exact h1
  have free : ∀ w', w.grownBy w' none → w.grownBy w' v.ownBlock := fun w' g => ⟨g.os, g.tape, g.output, g.size, fun k hk _ => g.block k hk (by simp)⟩
  have hown0 := hown
  obtain ⟨hl, hcase⟩ := hown
  rcases hcase with ⟨rfl, rfl⟩ | ⟨g, cap, cur, rfl, hbg, hg, hnc, hcm, hcs, htake⟩
  · have hx0 : xs = [] := List.eq_nil_of_length_eq_zero (by simpa using hl)
    subst hx0
    refine wpList_append_grows w hgd s x t ho e i z 1 bytes ht hi hz hsize hby hzs (by omega) none 0 0 [] hs (fun _ => ⟨rfl, rfl⟩) rfl (fun _ h => by cases h) ad 1 c [new] hx rfl hnews hone (by omega) h63 hbytes ?_
    intro v' w' ho' hg'
    obtain ⟨g', cap', rfl, hge⟩ := shape _ _ _ _ _ ho'
    exact h g' cap' w' (ownsRow_base ho' hbase) (free w' hg') (.inr hge)
  · by_cases hroom : n + 1 ≤ cap
    · refine wpList_append_fits w hgd s x t ho base e i 1 ht hi hsize g n cap xs hs hown0 ad 1 c [new] hx rfl hnews hone hroom ?_
      intro w' ho' hg'
      exact h g cap w' ho' hg' (.inl rfl)
    · refine wpList_append_grows w hgd s x t ho e i z 1 bytes ht hi hz hsize hby hzs (by omega) (some ⟨g, 0, none⟩) n cap xs hs (fun h => by cases h) hl
        (fun b hb => by cases hb; exact hown0.cells (g := g) rfl) ad 1 c [new] hx rfl hnews hone (by omega) h63 hbytes ?_
      intro v' w' ho' hg'
      obtain ⟨g', cap', rfl, hge⟩ := shape _ _ _ _ _ ho'
      exact h g' cap' w' (ownsRow_base ho' hbase) (free w' hg') (.inr hge)
def fArr (F : Nat → Value) : Array Value := #[F 0, F 1, F 2, F 3, F 4, F 5, F 6, F 7, F 8, F 9, F 10, F 11, F 12, F 13, F 14, F 15]
def upd (F : Nat → Value) (j : Nat) (v : Value) : Nat → Value := fun i => if i = j then v else F i
end Go.Proofs.YtchideljndagjabGreat
namespace Go.Proofs.YtchideljndagjabGreat
open Go.ChangeShapes Go.WideShapes Go.ChangeAt Go.RowKit
theorem plus_calls (a b : Int) (w : World) (ha : 0 ≤ a) (ha' : a < 2305843009213693951) (hb : 0 ≤ b) (hb' : b < 2305843009213693951) :
    Calls Tryz.prog 268 #[.int .i64 a, .int .i64 b] w fun e w' => e = .returned (.int .i64 (Num.addP a b)) ∧ w' = w := by
  go_enter Tryz.func268, Tryz.ntmps268
  go_wp2
  go_ret
  exact ⟨rfl, rfl⟩
theorem minus_calls (a b : Int) (w : World) (ha : 0 ≤ a) (ha' : a < 2305843009213693951) (hb : 0 ≤ b) (hb' : b < 2305843009213693951) :
    Calls Tryz.prog 273 #[.int .i64 a, .int .i64 b] w fun e w' => e = .returned (.int .i64 (Num.subP a b)) ∧ w' = w := by
  go_enter Tryz.func273, Tryz.ntmps273
  go_wp2
  go_ret
  exact ⟨rfl, rfl⟩
theorem times_calls (a b : Int) (w : World) (ha : 0 ≤ a) (ha' : a < 2305843009213693951) (hb : 0 ≤ b) (hb' : b < 2305843009213693951) :
    Calls Tryz.prog 144 #[.int .i64 a, .int .i64 b] w fun e w' => e = .returned (.int .i64 (Num.mulP a b)) ∧ w' = w := by
  go_enter Tryz.func144, Tryz.ntmps144
  go_wp2
  go_ret
  exact ⟨congrArg (fun x => Ending.returned (.int .i64 x)) (Num.times_form a b ha ha' hb hb'), rfl⟩
theorem element_calls (a : Int) (w : World) :
    Calls Tryz.prog 143 #[.int .i64 a] w fun e w' => e = .returned (.bool (Num.elB a)) ∧ w' = w := by
  by_cases h : 0 ≤ a
  · by_cases h' : a < 2305843009213693951
    · have H : Hid (Num.elB a = true) := Num.elB_yes h h'
      go_enter Tryz.func143, Tryz.ntmps143
      go_wp2
      go_ret
      exact ⟨congrArg (fun x => Ending.returned (.bool x)) H.out.symm, rfl⟩
    · have H : Hid (Num.elB a = false) := Num.elB_no (fun x => h' x.2)
      go_enter Tryz.func143, Tryz.ntmps143
      go_wp2
      go_ret
      exact ⟨congrArg (fun x => Ending.returned (.bool x)) H.out.symm, rfl⟩
  · have H : Hid (Num.elB a = false) := Num.elB_no (fun x => h x.1)
    go_enter Tryz.func143, Tryz.ntmps143
    go_wp2
    go_ret
    exact ⟨congrArg (fun x => Ending.returned (.bool x)) H.out.symm, rfl⟩
theorem client_calls (a : Int) (w : World) :
    Calls Tryz.prog 201 #[.int .i64 a] w fun e w' => e = .returned (.bool (Num.clB a)) ∧ w' = w := by
  by_cases h : 1 ≤ a
  · by_cases h' : a ≤ 12
    · have H : Hid (Num.clB a = true) := Num.clB_yes h h'
      go_enter Tryz.func201, Tryz.ntmps201
      go_wp2
      go_ret
      exact ⟨congrArg (fun x => Ending.returned (.bool x)) H.out.symm, rfl⟩
    · have H : Hid (Num.clB a = false) := Num.clB_no (fun x => h' x.2)
      go_enter Tryz.func201, Tryz.ntmps201
      go_wp2
      go_ret
      exact ⟨congrArg (fun x => Ending.returned (.bool x)) H.out.symm, rfl⟩
  · have H : Hid (Num.clB a = false) := Num.clB_no (fun x => h x.1)
    go_enter Tryz.func201, Tryz.ntmps201
    go_wp2
    go_ret
    exact ⟨congrArg (fun x => Ending.returned (.bool x)) H.out.symm, rfl⟩
theorem power_calls (a k : Int) (w : World) (ha : 0 ≤ a) (ha' : a < 2305843009213693951) (hk : k ≤ 9223372036854775807) :
    Calls Tryz.prog 147 #[.int .i64 a, .int .i64 k] w fun e w' => e = .returned (.int .i64 (Num.powP a k)) ∧ w' = w := by
  go_enter Tryz.func147, Tryz.ntmps147
  go_wp2
  go_loop [1, 5, 6] (fun k' p s => ∃ kk pp ss : Int, k' = .int .i64 kk ∧ p = .int .i64 pp ∧ s = .int .i64 ss ∧ Num.PowInv a k kk pp ss) (fun k' _ _ => (intOf k').toNat)
  case atStart => exact ⟨_, _, _, rfl, rfl, rfl, Num.powInv_start a k ha ha' hk⟩
  case round =>
    obtain ⟨kk, pp, ss, rfl, rfl, rfl, hi⟩ := hrel
    have q1 := hi.1
    have q2 := hi.2.1
    have q3 := hi.2.2.1
    have q4 := hi.2.2.2.1
    have q5 := hi.2.2.2.2.1
    have H : Hid (Num.PowInv a k kk pp ss) := hi
    clear hi
    by_cases hp : 0 < kk
    · by_cases ho : kk % 2 = 1
      · have ho' : (kk % 2 == 1) = true := by simp [ho]
        clear ho
        go_wp2_with (go_at_call 144; refine (times_calls _ _ _ (by assumption) (by assumption) (by assumption) (by assumption)).mono ?_; rintro e w' ⟨rfl, rfl⟩)
        go_round
        case rel => exact ⟨_, _, _, rfl, rfl, rfl, Num.powInv_odd H.out hp ho'⟩
        case measure => simp [intOf]; omega
      · have ho' : (kk % 2 == 1) = false := by simp [ho]
        clear ho
        go_wp2_with (go_at_call 144; refine (times_calls _ _ _ (by assumption) (by assumption) (by assumption) (by assumption)).mono ?_; rintro e w' ⟨rfl, rfl⟩)
        go_round
        case rel => exact ⟨_, _, _, rfl, rfl, rfl, Num.powInv_even H.out hp ho'⟩
        case measure => simp [intOf]; omega
    · go_wp2
      go_ret
      exact ⟨congrArg (fun x => Ending.returned (.int .i64 x)) (Num.powInv_end H.out hp), rfl⟩
end Go.Proofs.YtchideljndagjabGreat
