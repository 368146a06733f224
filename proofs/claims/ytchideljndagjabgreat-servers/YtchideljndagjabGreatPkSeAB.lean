/- A region that draws its order, whose operations only read and whose callees make new memory at most: one walk in the order of the text serves every order. -/
import Derived.WalkKit
import Derived.ProofKit
import Derived.OpenShut
import Derived.Below
import Derived.Deep.QuietTactic
import Derived.BigQuiet
import Derived.Deep.RegionWith
import Derived.Laws.AppendOwn
import Derived.Laws.OwnMore
import Derived.ChangeOld
import Derived.Test.YtchideljndagjabGreatPkSeAA
import Derived.Laws.BytesArg
import Derived.Laws.IdiomStrings
import Derived.Laws.Rows
import Derived.OwnWalk
import Derived.ArgAppend
namespace Go.Proofs.YtchideljndagjabGreat
open Go.RowKit

theorem hideG {p : Prop} (h : p) : Hid p := h

theorem wp_region_grow {P : Program} {id : Nat} {Q : Exit → Act → World → Prop} {a : Act} {w : World} {l : List Oper} (hm : P.follows .mixedOrders = true) (hB : Region.lexB .any l.toArray = true)
    (h : ∀ (I : Type) (G : I → World), Nonempty I → Hid (∀ u, Below w.heap.size w (G u)) → (∀ u b o, b < w.heap.size → (G u).cell? ⟨b, o, none⟩ = w.cell? ⟨b, o, none⟩) →
      Hid (∀ u w', Below w.heap.size (G u) w' → ∃ v, w' = G v) →
      wpQuiet P l.toArray (fun w' => ∃ u, w' = G u) (fun a' => ∀ w', (∃ u, w' = G u) → Q .normal a' w') l a) : (Code.region id l.toArray true).wp P Q a w := by
  have h1 := h { w' : World // Below w.heap.size w w' } Subtype.val ⟨⟨w, Below.refl _ _⟩⟩ (hideG fun u => u.2) (fun u b o hb => u.2.cell (p := ⟨b, o, none⟩) hb)
    (hideG fun u w' hw => ⟨⟨w', u.2.trans hw⟩, rfl⟩)
  exact wp_region_quiet (C := fun w' => ∃ u : { w' : World // Below w.heap.size w w' }, w' = u.1) hm hB ⟨⟨w.drew, (Below.refl _ _).drew⟩, rfl⟩ (by simpa using h1)

/-- A callee that makes new memory at most, met inside such a region. -/
theorem call_grow {P : Program} {f : FuncId} {args : Array Value} {W : World} {I : Type} {G : I → World} {v : Value} (hw : Hid (∀ u, Below W.heap.size W (G u))) (hn : Hid (∀ u w', Below W.heap.size (G u) w' → ∃ v, w' = G v))
    {u : I} (h : Calls P f args (G u) fun e w' => e = .returned v ∧ Below (G u).heap.size (G u) w') : Calls P f args (G u) fun e w' => e = .returned v ∧ ∃ m, w' = G m :=
  h.mono fun _ w' ⟨he, hb⟩ => ⟨he, hn.out u w' (hb.mono (hw.out u).size)⟩

theorem call_same {P : Program} {f : FuncId} {args : Array Value} {I : Type} {G : I → World} {v : Value}
    {u : I} (h : Calls P f args (G u) fun e w' => e = .returned v ∧ w' = G u) : Calls P f args (G u) fun e w' => e = .returned v ∧ ∃ m, w' = G m :=
  h.mono fun _ _ ⟨he, hb⟩ => ⟨he, u, hb⟩

end Go.Proofs.YtchideljndagjabGreat

namespace Go.Proofs.YtchideljndagjabGreat
open Go.RowKit
set_option linter.unusedVariables false

def inI (x : Int) : Prop := -9223372036854775808 ≤ x ∧ x ≤ 9223372036854775807

/-- A list of integers that came in: its numbers. -/
def ListAt (w : World) (v : Value) (zs : List Int) : Prop :=
  ∃ (a : Option Addr) (cap : Nat), v = .slice a zs.length cap ∧ zs.length ≤ cap ∧ cap ≤ maxLen ∧ (∀ z ∈ zs, inI z) ∧
    (zs = [] ∨ ∃ b off, a = some ⟨b, off, none⟩ ∧ b < w.heap.size ∧ ∀ i, i < zs.length → w.cell? ⟨b, off + i, none⟩ = some (.int .i64 (zs.getD i 0)))

theorem ListAt.below {w w' : World} {v : Value} {zs : List Int} (h : ListAt w v zs) (hb : Below w.heap.size w w') : ListAt w' v zs := by
  obtain ⟨a, cap, h1, h2, h3, h4, h5⟩ := h
  refine ⟨a, cap, h1, h2, h3, h4, ?_⟩
  rcases h5 with h5 | ⟨b, off, e1, e2, e3⟩
  · exact .inl h5
  · exact .inr ⟨b, off, e1, Nat.lt_of_lt_of_le e2 hb.size, fun i hi => by rw [hb.cell (p := ⟨b, off + i, none⟩) e2]; exact e3 i hi⟩

theorem listAt_of_owns {w : World} {B : Nat} {v : Value} {n : Nat} {zs : List Int} (h : w.ownsRow B 3 1 v n (zs.map (Value.int .i64))) (hz : ∀ z ∈ zs, inI z) : ListAt w v zs := by
  have hl : zs.length = n := by have := h.1; simpa using this
  subst hl
  have h0 := h
  rcases h.2 with ⟨rfl, hn⟩ | ⟨g, cap, cur, rfl, _, hb, hnc, hcm, _⟩
  · have hz0 : zs = [] := List.eq_nil_of_length_eq_zero hn
    subst hz0
    exact ⟨none, 0, rfl, by simp, Nat.zero_le _, hz, .inl rfl⟩
  · refine ⟨some ⟨g, 0, none⟩, cap, rfl, hnc, hcm, hz, .inr ⟨g, 0, rfl, (h0.lt g rfl).2, fun i hi => ?_⟩⟩
    have := h0.cellAt i (by omega)
    rw [Nat.zero_add, this, List.getElem?_map, List.getElem?_eq_getElem hi, List.getD_eq_getElem?_getD, List.getElem?_eq_getElem hi]
    rfl

theorem below_drewN (w : World) (n : Nat) : Below w.heap.size w (w.drewN n) := by
  induction n with
  | zero => exact Below.refl _ _
  | succ n ih => exact ⟨rfl, rfl, rfl, Nat.le_refl _, fun _ _ => rfl⟩

end Go.Proofs.YtchideljndagjabGreat

namespace Go.Proofs.YtchideljndagjabGreat
open Go.RowKit
set_option linter.unusedVariables false

end Go.Proofs.YtchideljndagjabGreat

namespace Go.Proofs.YtchideljndagjabGreat
open Go.RowKit
set_option linter.unusedVariables false

/-- Bytes in memory. -/
def BytesAt (w : World) (v : Value) (zs : List Int) : Prop :=
  ∃ (a : Option Addr) (cap : Nat), v = .slice a zs.length cap ∧ zs.length ≤ cap ∧ cap ≤ maxLen ∧ Frm.isB zs ∧
    (zs = [] ∨ ∃ b off, a = some ⟨b, off, none⟩ ∧ b < w.heap.size ∧ ∀ i, i < zs.length → w.cell? ⟨b, off + i, none⟩ = some (.int .u8 (Frm.bAt zs i)))

theorem BytesAt.below {w w' : World} {v : Value} {zs : List Int} (h : BytesAt w v zs) (hb : Below w.heap.size w w') : BytesAt w' v zs := by
  obtain ⟨a, cap, h1, h2, h3, h4, h5⟩ := h
  refine ⟨a, cap, h1, h2, h3, h4, ?_⟩
  rcases h5 with h5 | ⟨b, off, e1, e2, e3⟩
  · exact .inl h5
  · exact .inr ⟨b, off, e1, Nat.lt_of_lt_of_le e2 hb.size, fun i hi => by rw [hb.cell (p := ⟨b, off + i, none⟩) e2]; exact e3 i hi⟩

theorem bytesAt_of_owns {w : World} {B : Nat} {v : Value} {n : Nat} {zs : List Int} (h : w.ownsRow B 5 1 v n (zs.map (Value.int .u8))) (hz : Frm.isB zs) : BytesAt w v zs := by
  have hl : zs.length = n := by have := h.1; simpa using this
  subst hl
  have h0 := h
  rcases h.2 with ⟨rfl, hn⟩ | ⟨g, cap, cur, rfl, _, hb, hnc, hcm, _⟩
  · have hz0 : zs = [] := List.eq_nil_of_length_eq_zero hn
    subst hz0
    exact ⟨none, 0, rfl, by simp, Nat.zero_le _, hz, .inl rfl⟩
  · refine ⟨some ⟨g, 0, none⟩, cap, rfl, hnc, hcm, hz, .inr ⟨g, 0, rfl, (h0.lt g rfl).2, fun i hi => ?_⟩⟩
    have := h0.cellAt i (by omega)
    unfold Frm.bAt
    rw [Nat.zero_add, this, List.getElem?_map, List.getElem?_eq_getElem hi, List.getD_eq_getElem?_getD, List.getElem?_eq_getElem hi]
    rfl

/-- As the walks meet them. -/
theorem bytes_view {w : World} {v : Value} {zs : List Int} (h : BytesAt w v zs) : ∃ (a : Option Addr) (cap : Nat), v = .slice a zs.length cap ∧ zs.length ≤ cap ∧ cap ≤ 9223372036854775807 ∧ Frm.isB zs ∧
    ∀ k, k < zs.length → ∃ b off, a = some ⟨b, off, none⟩ ∧ b < w.heap.size ∧ w.cell? ⟨b, off + k, none⟩ = some (.int .u8 (Frm.bAt zs k)) := by
  obtain ⟨a, cap, h1, h2, h3, h4, h5⟩ := h
  refine ⟨a, cap, h1, h2, by unfold maxLen at h3; omega, h4, fun k hk => ?_⟩
  rcases h5 with h5 | ⟨b, off, e, hb, hc⟩
  · rw [h5] at hk; simp at hk
  · exact ⟨b, off, e, hb, hc k hk⟩

def inIt (x : Frm.It) : Prop := inI x.1 ∧ inI x.2.1 ∧ inI x.2.2.1 ∧ inI x.2.2.2

def ItemAt (w : World) (b o : Nat) (x : Frm.It) : Prop :=
  w.cell? ⟨b, o, none⟩ = some (.int .i64 x.1) ∧ w.cell? ⟨b, o + 1, none⟩ = some (.int .i64 x.2.1) ∧ w.cell? ⟨b, o + 2, none⟩ = some (.int .i64 x.2.2.1) ∧ w.cell? ⟨b, o + 3, none⟩ = some (.int .i64 x.2.2.2)

def ItemsAt (w : World) (v : Value) (l : List Frm.It) : Prop :=
  ∃ (a : Option Addr) (cap : Nat), v = .slice a l.length cap ∧ l.length ≤ cap ∧ cap ≤ maxLen ∧ (∀ x ∈ l, inIt x) ∧
    (l = [] ∨ ∃ b off, a = some ⟨b, off, none⟩ ∧ b < w.heap.size ∧ ∀ i, i < l.length → ItemAt w b (off + i * 4) (Frm.it l i))

theorem ItemAt.below {w w' : World} {b o : Nat} {x : Frm.It} (h : ItemAt w b o x) (hlt : b < w.heap.size) (hb : Below w.heap.size w w') : ItemAt w' b o x := by
  obtain ⟨h0, h1, h2, h3⟩ := h
  refine ⟨?_, ?_, ?_, ?_⟩
  · rw [hb.cell (p := ⟨b, o, none⟩) hlt]; exact h0
  · rw [hb.cell (p := ⟨b, o + 1, none⟩) hlt]; exact h1
  · rw [hb.cell (p := ⟨b, o + 2, none⟩) hlt]; exact h2
  · rw [hb.cell (p := ⟨b, o + 3, none⟩) hlt]; exact h3

theorem ItemsAt.below {w w' : World} {v : Value} {l : List Frm.It} (h : ItemsAt w v l) (hb : Below w.heap.size w w') : ItemsAt w' v l := by
  obtain ⟨a, cap, h1, h2, h3, h4, h5⟩ := h
  refine ⟨a, cap, h1, h2, h3, h4, ?_⟩
  rcases h5 with h5 | ⟨b, off, e1, e2, e3⟩
  · exact .inl h5
  · exact .inr ⟨b, off, e1, Nat.lt_of_lt_of_le e2 hb.size, fun i hi => (e3 i hi).below e2 hb⟩

theorem items_view {w : World} {v : Value} {l : List Frm.It} (h : ItemsAt w v l) : ∃ (a : Option Addr) (cap : Nat), v = .slice a l.length cap ∧ l.length ≤ cap ∧ cap ≤ 9223372036854775807 ∧ (∀ x ∈ l, inIt x) ∧
    ∀ k, k < l.length → ∃ b off, a = some ⟨b, off, none⟩ ∧ b < w.heap.size ∧ ItemAt w b (off + k * 4) (Frm.it l k) := by
  obtain ⟨a, cap, h1, h2, h3, h4, h5⟩ := h
  refine ⟨a, cap, h1, h2, by unfold maxLen at h3; omega, h4, fun k hk => ?_⟩
  rcases h5 with h5 | ⟨b, off, e, hb, hc⟩
  · rw [h5] at hk; simp at hk
  · exact ⟨b, off, e, hb, hc k hk⟩

theorem it_mem {l : List Frm.It} {i : Nat} (hi : i < l.length) : Frm.it l i ∈ l := by
  unfold Frm.it; rw [List.getD_eq_getElem?_getD, List.getElem?_eq_getElem hi]; exact List.getElem_mem hi

/-- The cells of items. -/
def flat4 : List Frm.It → List Value
  | [] => []
  | p :: l => .int .i64 p.1 :: .int .i64 p.2.1 :: .int .i64 p.2.2.1 :: .int .i64 p.2.2.2 :: flat4 l

theorem flat4_append (l m : List Frm.It) : flat4 (l ++ m) = flat4 l ++ flat4 m := by
  induction l with
  | nil => rfl
  | cons p l ih => show _ :: _ :: _ :: _ :: flat4 (l ++ m) = _ :: _ :: _ :: _ :: (flat4 l ++ flat4 m); rw [ih]
theorem flat4_get (l : List Frm.It) (i : Nat) (hi : i < l.length) : (flat4 l)[i * 4]? = some (.int .i64 (Frm.it l i).1) ∧ (flat4 l)[i * 4 + 1]? = some (.int .i64 (Frm.it l i).2.1) ∧
    (flat4 l)[i * 4 + 2]? = some (.int .i64 (Frm.it l i).2.2.1) ∧ (flat4 l)[i * 4 + 3]? = some (.int .i64 (Frm.it l i).2.2.2) := by
  induction l generalizing i with
  | nil => simp at hi
  | cons p l ih =>
    cases i with
    | zero => exact ⟨rfl, rfl, rfl, rfl⟩
    | succ i =>
      have h := ih i (by simpa using hi)
      rw [show (i + 1) * 4 = i * 4 + 1 + 1 + 1 + 1 by omega]
      exact h

theorem itemsAt_of_owns {w : World} {B : Nat} {v : Value} {l : List Frm.It} (h : w.ownsRow B 147 4 v l.length (flat4 l)) (hp : ∀ x ∈ l, inIt x) : ItemsAt w v l := by
  have h0 := h
  rcases h.2 with ⟨rfl, hn⟩ | ⟨g, cap, cur, rfl, _, hb, hnc, hcm, _⟩
  · have hz0 : l = [] := List.eq_nil_of_length_eq_zero hn
    subst hz0
    exact ⟨none, 0, rfl, by simp, Nat.zero_le _, hp, .inl rfl⟩
  · refine ⟨some ⟨g, 0, none⟩, cap, rfl, hnc, hcm, hp, .inr ⟨g, 0, rfl, (h0.lt g rfl).2, fun i hi => ?_⟩⟩
    obtain ⟨f1, f2, f3, f4⟩ := flat4_get l i hi
    rw [Nat.zero_add]
    exact ⟨(h0.cellAt (i * 4) (by omega)).trans f1, (h0.cellAt (i * 4 + 1) (by omega)).trans f2, (h0.cellAt (i * 4 + 2) (by omega)).trans f3, (h0.cellAt (i * 4 + 3) (by omega)).trans f4⟩

def bl (s : ByteArray) : List Int := s.data.toList.map fun b => (b.toNat : Int)
theorem bl_length (s : ByteArray) : (bl s).length = s.size := by unfold bl; rw [List.length_map]; rfl
theorem bl_isB (s : ByteArray) : Frm.isB (bl s) := by
  intro x hx
  unfold bl at hx
  obtain ⟨b, _, rfl⟩ := List.mem_map.1 hx
  have := b.toNat_lt
  omega
theorem bl_str {zs : List Int} (h : Frm.isB zs) : bl (strOfNums zs) = zs := by
  unfold bl
  rw [strOfNums_data, List.map_map]
  conv => rhs; rw [← List.map_id zs]
  apply List.map_congr_left
  intro z hz
  have := h z hz
  show ((UInt8.ofNat z.toNat).toNat : Int) = z
  rw [UInt8.toNat_ofNat_of_lt' (by show z.toNat < 256; omega)]
  omega
theorem str_eq {zs ys : List Int} (h1 : Frm.isB zs) (h2 : Frm.isB ys) : strOfNums zs = strOfNums ys ↔ zs = ys :=
  ⟨fun h => by have := congrArg bl h; rwa [bl_str h1, bl_str h2] at this, fun h => by rw [h]⟩

end Go.Proofs.YtchideljndagjabGreat

namespace Go.Proofs.YtchideljndagjabGreat
open Go.RowKit
set_option linter.unusedVariables false

/-- Nothing turns but the blocks of S; new blocks may come. -/
structure Chg (S : Nat → Prop) (w w' : World) : Prop where
  os : w'.os = w.os
  tape : w'.tape = w.tape
  output : w'.output = w.output
  size : w.heap.size ≤ w'.heap.size
  block : ∀ k, k < w.heap.size → ¬ S k → w'.heap[k]? = w.heap[k]?

theorem Chg.refl (S : Nat → Prop) (w : World) : Chg S w w := ⟨rfl, rfl, rfl, Nat.le_refl _, fun _ _ _ => rfl⟩
theorem Chg.mono {S S' : Nat → Prop} {w w' : World} (h : Chg S w w') (hS : ∀ b, S b → b < w.heap.size → S' b) : Chg S' w w' :=
  ⟨h.os, h.tape, h.output, h.size, fun k hk hn => h.block k hk (fun hs => hn (hS k hs hk))⟩
theorem Chg.trans {S S' : Nat → Prop} {a b c : World} (h : Chg S a b) (k : Chg S' b c) (hS : ∀ x, S' x → x < a.heap.size → S x) : Chg S a c :=
  ⟨k.os.trans h.os, k.tape.trans h.tape, k.output.trans h.output, Nat.le_trans h.size k.size, fun i hi hn =>
    (k.block i (Nat.lt_of_lt_of_le hi h.size) (fun hs => hn (hS i hs hi))).trans (h.block i hi hn)⟩
theorem Chg.setCell (w : World) (p : Addr) (u : Value) : Chg (fun b => b = p.block) w (w.setCell p u) :=
  ⟨rfl, rfl, rfl, by simp [World.setCell], fun k _ hn => Below.heap_setCell _ _ _ _ hn⟩
theorem Chg.alloc (S : Nat → Prop) (w : World) (o : Obj) : Chg S w (w.alloc o) :=
  ⟨rfl, rfl, rfl, by simp, fun k hk _ => Below.heap_alloc _ _ _ hk⟩
theorem Chg.grown {w w' : World} {row : Option Nat} (h : w.grownBy w' row) : Chg (fun b => row = some b) w w' :=
  ⟨h.os, h.tape, h.output, h.size, fun k hk hn => h.block k hk (fun e => hn e.symm)⟩
theorem Chg.of_below {S : Nat → Prop} {w w' : World} (h : Below w.heap.size w w') : Chg S w w' := ⟨h.os, h.tape, h.output, h.size, fun k hk _ => h.block k hk⟩
theorem Chg.below {S : Nat → Prop} {B : Nat} {w w' : World} (h : Chg S w w') (hB : B ≤ w.heap.size) (hS : ∀ b, S b → B ≤ b) : Below B w w' :=
  ⟨h.os, h.tape, h.output, h.size, fun k hk => h.block k (by omega) (fun hs => by have := hS k hs; omega)⟩

theorem ownsRow_chg {S : Nat → Prop} {w w' : World} {base : Nat} {e : TypeId} {size : Nat} {v : Value} {n : Nat} {xs : List Value} (h : w.ownsRow base e size v n xs) (hc : Chg S w w')
    (hS : ∀ b, v.ownBlock = some b → ¬ S b) : w'.ownsRow base e size v n xs := by
  have hlt := h.lt
  obtain ⟨h1, h2⟩ := h
  refine ⟨h1, ?_⟩
  rcases h2 with h2 | ⟨g, cap, cur, rfl, h3, h4, h5⟩
  · exact .inl h2
  · exact .inr ⟨g, cap, cur, rfl, h3, by rw [hc.block g (hlt g rfl).2 (hS g rfl)]; exact h4, h5⟩

theorem ownsRow_base {w : World} {base base' : Nat} {e : TypeId} {size : Nat} {v : Value} {n : Nat} {xs : List Value} (h : w.ownsRow base e size v n xs) (hb : base' ≤ base) : w.ownsRow base' e size v n xs := by
  obtain ⟨h1, h2⟩ := h
  refine ⟨h1, ?_⟩
  rcases h2 with h2 | ⟨g, cap, cur, h0, h3, h4⟩
  · exact .inl h2
  · exact .inr ⟨g, cap, cur, h0, by omega, h4⟩

/-- One element appended: the row grows where it stands, or moves to a new block. -/
theorem wpList_append_one {P : Program} (w : World) {ops : Array Oper} {rest : List Oper} {o : Oper} {a : Act} {Q : Exit → Act → World → Prop} (hgd : o.guard = none) (s x : Operand) (t : TypeId)
    (ho : o.op = .call { callee := .builtin .append, args := #[s, x], argTypes := #[t, t] })
    (base : Nat) (e : TypeId) (i : TypeInfo) (z : Value) (bytes : Nat) (ht : P.underlying t = some (.slice e)) (hi : P.info? e = some i) (hz : i.zero = some z)
    (hsize : i.size = 1) (hby : i.bytes = bytes) (hzs : z.cells.size = 1)
    (v : Value) (n : Nat) (xs : List Value) (hs : a.eval s = v) (hown : w.ownsRow base e 1 v n xs)
    (ad : Addr) (c : Nat) (new : Value) (hx : a.eval x = .slice (some ad) 1 c) (hnew : w.cell? ad = some new) (h1 : new.oneCell' = true)
    (h63 : n + 1 ≤ maxLen) (hbytes : (n + 1) * bytes ≤ 140737488355328) (hbase : base ≤ w.heap.size)
    (h : ∀ g' cap' w', w'.ownsRow base e 1 (.slice (some ⟨g', 0, none⟩) (n + 1) cap') (n + 1) (xs ++ [new]) → w.grownBy w' v.ownBlock → (v.ownBlock = some g' ∨ w.heap.size ≤ g') →
      wpList P ops Q rest (a.put o.dst (.slice (some ⟨g', 0, none⟩) (n + 1) cap')) w') : wpList P ops Q (o :: rest) a w := by
  have shape : ∀ (B k : Nat) (v' : Value) (w' : World) (ys : List Value), w'.ownsRow B e 1 v' (k + 1) ys → ∃ g' cap', v' = .slice (some ⟨g', 0, none⟩) (k + 1) cap' ∧ B ≤ g' := by
    intro B k v' w' ys ho'
    rcases ho'.2 with ⟨_, e0⟩ | ⟨g', cap', _, e0, e1, _⟩
    · omega
    · exact ⟨g', cap', e0, e1⟩
  have hnews : ∀ j u, ([new] : List Value)[j]? = some u → w.cell? (ad.add j) = some u := by
    intro j u hj
    match j, hj with
    | 0, hj => simp at hj; subst hj; simpa [Addr.add] using hnew
  have hone : ∀ u ∈ [new], u.oneCell' = true := by intro u hu; simp at hu; subst hu; exact h1
  have free : ∀ w', w.grownBy w' none → w.grownBy w' v.ownBlock := fun w' g => ⟨g.os, g.tape, g.output, g.size, fun k hk _ => g.block k hk (by simp)⟩
  have hown0 := hown
  obtain ⟨hl, hcase⟩ := hown
  rcases hcase with ⟨rfl, rfl⟩ | ⟨g, cap, cur, rfl, hbg, hg, hnc, hcm, hcs, htake⟩
  · have hx0 : xs = [] := List.eq_nil_of_length_eq_zero (by simpa using hl)
    subst hx0
    refine wpList_append_grows w hgd s x t ho e i z 1 bytes ht hi hz hsize hby hzs (by omega) none 0 0 [] hs (fun _ => ⟨rfl, rfl⟩) rfl (fun _ h => by cases h) ad 1 c [new] hx rfl hnews hone (by omega) h63 hbytes ?_
    intro v' w' ho' hg'
    obtain ⟨g', cap', rfl, hge⟩ := shape _ _ _ _ _ ho'
    exact h g' cap' w' (ownsRow_base ho' hbase) (free w' hg') (.inr hge)
  · by_cases hroom : n + 1 ≤ cap
    · refine wpList_append_fits w hgd s x t ho base e i 1 ht hi hsize g n cap xs hs hown0 ad 1 c [new] hx rfl hnews hone hroom ?_
      intro w' ho' hg'
      exact h g cap w' ho' hg' (.inl rfl)
    · refine wpList_append_grows w hgd s x t ho e i z 1 bytes ht hi hz hsize hby hzs (by omega) (some ⟨g, 0, none⟩) n cap xs hs (fun h => by cases h) hl
        (fun b hb => by cases hb; exact hown0.cells (g := g) rfl) ad 1 c [new] hx rfl hnews hone (by omega) h63 hbytes ?_
      intro v' w' ho' hg'
      obtain ⟨g', cap', rfl, hge⟩ := shape _ _ _ _ _ ho'
      exact h g' cap' w' (ownsRow_base ho' hbase) (free w' hg') (.inr hge)

def fArr (F : Nat → Value) : Array Value := #[F 0, F 1, F 2, F 3, F 4, F 5, F 6, F 7, F 8, F 9, F 10, F 11, F 12, F 13, F 14, F 15]
def upd (F : Nat → Value) (j : Nat) (v : Value) : Nat → Value := fun i => if i = j then v else F i
theorem upd_same (F : Nat → Value) (j : Nat) (v : Value) : upd F j v j = v := by simp [upd]
theorem upd_other (F : Nat → Value) {i j : Nat} (v : Value) (h : i ≠ j) : upd F j v i = F i := by simp [upd, h]

set_option maxRecDepth 100000 in
theorem fArr_set (F : Nat → Value) (j : Nat) (v : Value) (hj : j < 16) : (fArr F).setIfInBounds j v = fArr (upd F j v) := by
  match j, hj with
  | 0, _ => rfl
  | 1, _ => rfl
  | 2, _ => rfl
  | 3, _ => rfl
  | 4, _ => rfl
  | 5, _ => rfl
  | 6, _ => rfl
  | 7, _ => rfl
  | 8, _ => rfl
  | 9, _ => rfl
  | 10, _ => rfl
  | 11, _ => rfl
  | 12, _ => rfl
  | 13, _ => rfl
  | 14, _ => rfl
  | 15, _ => rfl
  | n + 16, h => exact absurd h (by omega)

theorem set_f {w : World} {pw : Nat} {F : Nat → Value} {T : TypeId} (j : Nat) (v : Value) (hj : j < 16) (h : w.heap[pw]? = some (.cells (fArr F) T (0, 0))) :
    (w.setCell ⟨pw, j, none⟩ v).heap[pw]? = some (.cells (fArr (upd F j v)) T (0, 0)) := by
  rw [← fArr_set F j v hj]; exact heap_setCell_same w pw j (fArr F) T v h

theorem cell_f {w : World} {pw : Nat} {F : Nat → Value} {T : TypeId} (h : w.heap[pw]? = some (.cells (fArr F) T (0, 0))) (j : Nat) (hj : j < 16) : w.cell? ⟨pw, j, none⟩ = some (F j) ∧ w.frozen? ⟨pw, j, none⟩ = false := by
  constructor
  · simp only [World.cell?, h]
    match j, hj with
    | 0, _ => rfl
    | 1, _ => rfl
    | 2, _ => rfl
    | 3, _ => rfl
    | 4, _ => rfl
    | 5, _ => rfl
    | 6, _ => rfl
    | 7, _ => rfl
    | 8, _ => rfl
    | 9, _ => rfl
    | 10, _ => rfl
    | 11, _ => rfl
    | 12, _ => rfl
    | 13, _ => rfl
    | 14, _ => rfl
    | 15, _ => rfl
    | n + 16, h => exact absurd h (by omega)
  · simp [World.frozen?, h]

end Go.Proofs.YtchideljndagjabGreat

namespace Go.Proofs.YtchideljndagjabGreat
open Go.RowKit
set_option linter.unusedVariables false

/-- A kind of lists: the World's field of the lists, of the marks; the element's type, the list's; what an element reads as, written full. -/
structure Cat where
  fi : Nat
  fm : Nat
  e : TypeId
  s : TypeId
  pat : Int → List Value

def cat : Nat → Cat
  | 0 => ⟨3, 9, 3, 33, fun m => [.int .i64 m]⟩
  | 1 => ⟨4, 10, 5, 47, fun m => [.int .u8 m]⟩
  | 2 => ⟨5, 11, 147, 63, fun m => [.int .i64 m, .int .i64 m, .int .i64 m, .int .i64 m]⟩
  | 3 => ⟨6, 12, 49, 41, fun m => [.int .i64 m, .int .i64 m, .slice none 0 0]⟩
  | 4 => ⟨7, 13, 117, 27, fun m => [.slice none 0 0, .int .i64 m, .int .i64 m, .int .i64 m, .slice none 0 0, .slice none 0 0]⟩
  | _ => ⟨8, 14, 139, 137, fun m => [.int .i64 m, .int .i64 m]⟩

theorem cat_fi (c : Nat) : 3 ≤ (cat c).fi ∧ (cat c).fi ≤ 8 := by
  unfold cat; split <;> simp
theorem cat_fm (c : Nat) : 9 ≤ (cat c).fm ∧ (cat c).fm ≤ 14 := by
  unfold cat; split <;> simp
theorem cat_fi_inj : ∀ c, c < 6 → ∀ d, d < 6 → (cat c).fi = (cat d).fi → c = d := by decide
theorem cat_fm_inj : ∀ c, c < 6 → ∀ d, d < 6 → (cat c).fm = (cat d).fm → c = d := by decide
theorem cat_s (c : Nat) : (cat c).s ≠ 3 := by
  unfold cat; split <;> decide

/-- A list that is owned: its block (none: a nil list), how many elements, the mark. -/
abbrev Ow := Option Nat × Nat × Int

def owVal (o : Ow) : Value :=
  match o.1 with
  | none => .slice none 0 0
  | some g => .slice (some ⟨g, 0, none⟩) o.2.1 o.2.1

def owCells (c : Cat) (o : Ow) : List Value := (List.replicate o.2.1 (c.pat o.2.2)).flatten

def OwnC (w : World) (pw : Nat) (c : Cat) (vs vm : Value) (l : List Ow) : Prop :=
  w.ownsRow (pw + 1) c.s 1 vs l.length (l.map owVal) ∧ w.ownsRow (pw + 1) 3 1 vm l.length (l.map fun o => Value.int .i64 o.2.2) ∧
    ∀ o ∈ l, (o.1 = none → o.2.1 = 0) ∧ (o.2.1 ≤ maxLen) ∧ ∀ g, o.1 = some g → pw < g ∧ g < w.heap.size ∧ w.heap[g]? = some (.cells (owCells c o).toArray c.e (0, 0))

structure InvW (w : World) (pw : Nat) (F : Nat → Value) (nx : Int) (ls : Nat → List Ow) : Prop where
  blk : w.heap[pw]? = some (.cells (fArr F) 89 (0, 0))
  nxt : F 15 = .int .i64 nx
  own : ∀ c, c < 6 → OwnC w pw (cat c) (F (cat c).fi) (F (cat c).fm) (ls c)
  tag : ∃ tg : Nat → Nat × Nat × Nat, (∀ c, c < 6 → ∀ b, (F (cat c).fi).ownBlock = some b → tg b = (c, 0, 0)) ∧ (∀ c, c < 6 → ∀ b, (F (cat c).fm).ownBlock = some b → tg b = (c, 1, 0)) ∧
    ∀ c, c < 6 → ∀ (i : Nat) o b, (ls c)[i]? = some o → o.1 = some b → tg b = (c, 2, i)

/-- The blocks in which what is owned lies. -/
def Foot (F : Nat → Value) (ls : Nat → List Ow) (b : Nat) : Prop :=
  ∃ c, c < 6 ∧ ((F (cat c).fi).ownBlock = some b ∨ (F (cat c).fm).ownBlock = some b ∨ ∃ o ∈ ls c, o.1 = some b)

theorem InvW.pw_lt {w : World} {pw : Nat} {F : Nat → Value} {nx : Int} {ls : Nat → List Ow} (h : InvW w pw F nx ls) : pw < w.heap.size := by
  have := h.blk
  by_cases hb : pw < w.heap.size
  · exact hb
  · rw [Array.getElem?_eq_none (by omega)] at this; cases this

theorem InvW.foot_lt {w : World} {pw : Nat} {F : Nat → Value} {nx : Int} {ls : Nat → List Ow} (h : InvW w pw F nx ls) {b : Nat} (hf : Foot F ls b) : pw < b ∧ b < w.heap.size := by
  obtain ⟨c, hc, hf⟩ := hf
  obtain ⟨h1, h2, h3⟩ := h.own c hc
  rcases hf with hf | hf | ⟨o, ho, hf⟩
  · have := h1.lt b hf; omega
  · have := h2.lt b hf; omega
  · have := (h3 o ho).2.2 b hf; omega

theorem InvW.chg {S : Nat → Prop} {w w' : World} {pw : Nat} {F : Nat → Value} {nx : Int} {ls : Nat → List Ow} (h : InvW w pw F nx ls) (hc : Chg S w w') (hS : ∀ b, S b → b ≠ pw ∧ ¬ Foot F ls b) : InvW w' pw F nx ls := by
  have hp := h.pw_lt
  refine ⟨by rw [hc.block pw hp (fun hs => (hS pw hs).1 rfl)]; exact h.blk, h.nxt, fun c hc' => ?_, h.tag⟩
  obtain ⟨h1, h2, h3⟩ := h.own c hc'
  refine ⟨ownsRow_chg h1 hc (fun b hb hs => (hS b hs).2 ⟨c, hc', .inl hb⟩), ownsRow_chg h2 hc (fun b hb hs => (hS b hs).2 ⟨c, hc', .inr (.inl hb)⟩), fun o ho => ?_⟩
  obtain ⟨k1, k0, k2⟩ := h3 o ho
  refine ⟨k1, k0, fun g hg => ?_⟩
  obtain ⟨q1, q2, q3⟩ := k2 g hg
  exact ⟨q1, Nat.lt_of_lt_of_le q2 hc.size, by rw [hc.block g q2 (fun hs => (hS g hs).2 ⟨c, hc', .inr (.inr ⟨o, ho, hg⟩)⟩)]; exact q3⟩

theorem InvW.below {w w' : World} {pw : Nat} {F : Nat → Value} {nx : Int} {ls : Nat → List Ow} (h : InvW w pw F nx ls) (hb : Below w.heap.size w w') : InvW w' pw F nx ls :=
  h.chg (S := fun _ => False) (Chg.of_below hb) (fun _ hs => hs.elim)

def updL (ls : Nat → List Ow) (c : Nat) (l : List Ow) : Nat → List Ow := fun d => if d = c then l else ls d

/-- The fields behind one list more. -/
def updF (F : Nat → Value) (c : Nat) (nx : Int) (v' m' : Value) : Nat → Value := upd (upd (upd F 15 (.int .i64 (nx + 1))) (cat c).fi v') (cat c).fm m'

theorem updF_fi (F : Nat → Value) (c : Nat) (nx : Int) (v' m' : Value) : updF F c nx v' m' (cat c).fi = v' := by
  have := cat_fi c; have := cat_fm c
  rw [updF, upd_other _ _ (by omega), upd_same]
theorem updF_fm (F : Nat → Value) (c : Nat) (nx : Int) (v' m' : Value) : updF F c nx v' m' (cat c).fm = m' := upd_same _ _ _
theorem updF_other (F : Nat → Value) (c : Nat) (nx : Int) (v' m' : Value) {j : Nat} (h1 : j ≠ (cat c).fi) (h2 : j ≠ (cat c).fm) (h3 : j ≠ 15) : updF F c nx v' m' j = F j := by
  rw [updF, upd_other _ _ h2, upd_other _ _ h1, upd_other _ _ h3]
theorem updF_nxt (F : Nat → Value) (c : Nat) (nx : Int) (v' m' : Value) : updF F c nx v' m' 15 = .int .i64 (nx + 1) := by
  have := cat_fi c; have := cat_fm c
  rw [updF, upd_other _ _ (by omega), upd_other _ _ (by omega), upd_same]

theorem own_step {w w' : World} {pw : Nat} {F : Nat → Value} {nx : Int} {ls : Nat → List Ow} (h : InvW w pw F nx ls) (c : Nat) (hc : c < 6) (o : Ow) (v' m' : Value)
    (hchg : Chg (fun b => b = pw ∨ o.1 = some b ∨ (F (cat c).fi).ownBlock = some b ∨ (F (cat c).fm).ownBlock = some b) w w')
    (hblk : w'.heap[pw]? = some (.cells (fArr (updF F c nx v' m')) 89 (0, 0)))
    (ho : w'.ownsRow (pw + 1) (cat c).s 1 v' ((ls c).length + 1) ((ls c).map owVal ++ [owVal o]))
    (hm : w'.ownsRow (pw + 1) 3 1 m' ((ls c).length + 1) (((ls c).map fun o => Value.int .i64 o.2.2) ++ [.int .i64 o.2.2]))
    (hv' : ∀ b, v'.ownBlock = some b → (F (cat c).fi).ownBlock = some b ∨ w.heap.size ≤ b)
    (hm' : ∀ b, m'.ownBlock = some b → (F (cat c).fm).ownBlock = some b ∨ w.heap.size ≤ b)
    (hg : ∀ g, o.1 = some g → ¬ Foot F ls g ∧ pw < g ∧ g < w.heap.size ∧ w'.heap[g]? = some (.cells (owCells (cat c) o).toArray (cat c).e (0, 0)))
    (hn : o.1 = none → o.2.1 = 0) (hmx : o.2.1 ≤ maxLen) :
    InvW w' pw (updF F c nx v' m') (nx + 1) (updL ls c (ls c ++ [o])) ∧
      ∀ b, b < w.heap.size → o.1 ≠ some b → ¬ Foot F ls b → ¬ Foot (updF F c nx v' m') (updL ls c (ls c ++ [o])) b := by
  obtain ⟨tg, t1, t2, t3⟩ := h.tag
  have other : ∀ d, d < 6 → d ≠ c → updF F c nx v' m' (cat d).fi = F (cat d).fi ∧ updF F c nx v' m' (cat d).fm = F (cat d).fm ∧ updL ls c (ls c ++ [o]) d = ls d := by
    intro d hd hdc
    have a1 := cat_fi d; have a2 := cat_fm d; have a3 := cat_fi c; have a4 := cat_fm c
    refine ⟨updF_other _ _ _ _ _ (fun e => hdc (cat_fi_inj d hd c hc e)) (by omega) (by omega), updF_other _ _ _ _ _ (by omega) (fun e => hdc (cat_fm_inj d hd c hc e)) (by omega), by simp [updL, hdc]⟩
  have same : updL ls c (ls c ++ [o]) c = ls c ++ [o] := by simp [updL]
  -- no block of another kind is written
  have apart : ∀ d, d < 6 → ∀ b, ((F (cat d).fi).ownBlock = some b ∧ d ≠ c ∨ (F (cat d).fm).ownBlock = some b ∧ d ≠ c ∨ ∃ x ∈ ls d, x.1 = some b) →
      ¬ (b = pw ∨ o.1 = some b ∨ (F (cat c).fi).ownBlock = some b ∨ (F (cat c).fm).ownBlock = some b) := by
    intro d hd b hb
    have hfoot : Foot F ls b := by
      rcases hb with ⟨hb, _⟩ | ⟨hb, _⟩ | hb
      · exact ⟨d, hd, .inl hb⟩
      · exact ⟨d, hd, .inr (.inl hb)⟩
      · exact ⟨d, hd, .inr (.inr hb)⟩
    have hl := h.foot_lt hfoot
    rintro (e | e | e | e)
    · omega
    · exact (hg b e).1 hfoot
    · have e1 := t1 c hc b e
      rcases hb with ⟨hb, hne⟩ | ⟨hb, hne⟩ | ⟨x, hx, hb⟩
      · rw [t1 d hd b hb] at e1; simp at e1; omega
      · rw [t2 d hd b hb] at e1; simp at e1
      · obtain ⟨i, hi⟩ := List.getElem?_of_mem hx
        rw [t3 d hd i x b hi hb] at e1; simp at e1
    · have e1 := t2 c hc b e
      rcases hb with ⟨hb, hne⟩ | ⟨hb, hne⟩ | ⟨x, hx, hb⟩
      · rw [t1 d hd b hb] at e1; simp at e1
      · rw [t2 d hd b hb] at e1; simp at e1; omega
      · obtain ⟨i, hi⟩ := List.getElem?_of_mem hx
        rw [t3 d hd i x b hi hb] at e1; simp at e1
  have keeps : ∀ d, d < 6 → ∀ x ∈ ls d, (x.1 = none → x.2.1 = 0) ∧ (x.2.1 ≤ maxLen) ∧ ∀ g, x.1 = some g → pw < g ∧ g < w'.heap.size ∧ w'.heap[g]? = some (.cells (owCells (cat d) x).toArray (cat d).e (0, 0)) := by
    intro d hd x hx
    obtain ⟨k1, k0, k2⟩ := (h.own d hd).2.2 x hx
    refine ⟨k1, k0, fun g hgx => ?_⟩
    obtain ⟨q1, q2, q3⟩ := k2 g hgx
    exact ⟨q1, Nat.lt_of_lt_of_le q2 hchg.size, by rw [hchg.block g q2 (apart d hd g (.inr (.inr ⟨x, hx, hgx⟩)))]; exact q3⟩
  have vm_ne : ∀ b, v'.ownBlock = some b → m'.ownBlock = some b → False := by
    intro b h1 h2
    rcases ho.2 with ⟨e, _⟩ | ⟨g, cap, cur, e, _, e1, _⟩
    · rw [e] at h1; cases h1
    · rcases hm.2 with ⟨f, _⟩ | ⟨g2, cap2, cur2, f, _, f1, _⟩
      · rw [f] at h2; cases h2
      · rw [e] at h1; rw [f] at h2
        have eg : g = b := by simpa [Value.ownBlock] using h1
        have eg2 : g2 = b := by simpa [Value.ownBlock] using h2
        subst eg; subst eg2
        rw [e1] at f1
        simp at f1
        exact cat_s c f1.2
  refine ⟨⟨hblk, updF_nxt _ _ _ _ _, fun d hd => ?_, ?_⟩, ?_⟩
  · by_cases hdc : d = c
    · subst hdc
      rw [updF_fi, updF_fm, same]
      refine ⟨by simpa using ho, by simpa using hm, fun x hx => ?_⟩
      rcases List.mem_append.1 hx with hx | hx
      · exact keeps d hd x hx
      · simp at hx; subst hx
        exact ⟨hn, hmx, fun g hgx => let ⟨_, q1, q2, q3⟩ := hg g hgx; ⟨q1, Nat.lt_of_lt_of_le q2 hchg.size, q3⟩⟩
    · obtain ⟨e1, e2, e3⟩ := other d hd hdc
      rw [e1, e2, e3]
      obtain ⟨h1, h2, _⟩ := h.own d hd
      exact ⟨ownsRow_chg h1 hchg (fun b hb => apart d hd b (.inl ⟨hb, hdc⟩)), ownsRow_chg h2 hchg (fun b hb => apart d hd b (.inr (.inl ⟨hb, hdc⟩))), keeps d hd⟩
  · -- the tags
    classical
    refine ⟨fun b => if v'.ownBlock = some b then (c, 0, 0) else if m'.ownBlock = some b then (c, 1, 0) else if o.1 = some b then (c, 2, (ls c).length) else tg b, ?_, ?_, ?_⟩
    · intro d hd b hb
      by_cases hdc : d = c
      · subst hdc; rw [updF_fi] at hb; simp [hb]
      · rw [(other d hd hdc).1] at hb
        have hfoot : Foot F ls b := ⟨d, hd, .inl hb⟩
        have hl := h.foot_lt hfoot
        have hna := apart d hd b (.inl ⟨hb, hdc⟩)
        have n1 : v'.ownBlock ≠ some b := fun e => by
          rcases hv' b e with e | e
          · exact hna (.inr (.inr (.inl e)))
          · omega
        have n2 : m'.ownBlock ≠ some b := fun e => by
          rcases hm' b e with e | e
          · exact hna (.inr (.inr (.inr e)))
          · omega
        have n3 : o.1 ≠ some b := fun e => hna (.inr (.inl e))
        simp only [n1, n2, n3, if_false]; exact t1 d hd b hb
    · intro d hd b hb
      by_cases hdc : d = c
      · subst hdc; rw [updF_fm] at hb
        have n1 : v'.ownBlock ≠ some b := fun e => vm_ne b e hb
        simp [hb, n1]
      · rw [(other d hd hdc).2.1] at hb
        have hfoot : Foot F ls b := ⟨d, hd, .inr (.inl hb)⟩
        have hl := h.foot_lt hfoot
        have hna := apart d hd b (.inr (.inl ⟨hb, hdc⟩))
        have n1 : v'.ownBlock ≠ some b := fun e => by
          rcases hv' b e with e | e
          · exact hna (.inr (.inr (.inl e)))
          · omega
        have n2 : m'.ownBlock ≠ some b := fun e => by
          rcases hm' b e with e | e
          · exact hna (.inr (.inr (.inr e)))
          · omega
        have n3 : o.1 ≠ some b := fun e => hna (.inr (.inl e))
        simp only [n1, n2, n3, if_false]; exact t2 d hd b hb
    · intro d hd i x b hi hb
      have old : x ∈ ls d → (ls d)[i]? = some x → (if v'.ownBlock = some b then (c, 0, 0) else if m'.ownBlock = some b then (c, 1, 0) else if o.1 = some b then (c, 2, (ls c).length) else tg b) = (d, 2, i) := by
        intro hx hi'
        have hfoot : Foot F ls b := ⟨d, hd, .inr (.inr ⟨x, hx, hb⟩)⟩
        have hl := h.foot_lt hfoot
        have hna := apart d hd b (.inr (.inr ⟨x, hx, hb⟩))
        have n1 : v'.ownBlock ≠ some b := fun e => by
          rcases hv' b e with e | e
          · exact hna (.inr (.inr (.inl e)))
          · omega
        have n2 : m'.ownBlock ≠ some b := fun e => by
          rcases hm' b e with e | e
          · exact hna (.inr (.inr (.inr e)))
          · omega
        have n3 : o.1 ≠ some b := fun e => hna (.inr (.inl e))
        simp only [n1, n2, n3, if_false]; exact t3 d hd i x b hi' hb
      by_cases hdc : d = c
      · subst hdc; rw [same] at hi
        by_cases hil : i < (ls d).length
        · rw [List.getElem?_append_left hil] at hi
          exact old (List.mem_of_getElem? hi) hi
        · rw [List.getElem?_append_right (by omega)] at hi
          have hi0 : i - (ls d).length = 0 := by
            rcases Nat.eq_zero_or_pos (i - (ls d).length) with e | e
            · exact e
            · rw [List.getElem?_eq_none (by simp; omega)] at hi; cases hi
          rw [hi0] at hi; simp at hi; subst hi
          have hgb := hg b hb
          have n1 : v'.ownBlock ≠ some b := fun e => by
            rcases hv' b e with e | e
            · exact hgb.1 ⟨d, hd, .inl e⟩
            · omega
          have n2 : m'.ownBlock ≠ some b := fun e => by
            rcases hm' b e with e | e
            · exact hgb.1 ⟨d, hd, .inr (.inl e)⟩
            · omega
          simp only [n1, n2, hb, if_false, if_true]
          rw [show i = (ls d).length by omega]
      · rw [(other d hd hdc).2.2] at hi
        exact old (List.mem_of_getElem? hi) hi
  · intro b hb hob hnf
    rintro ⟨d, hd, hf⟩
    by_cases hdc : d = c
    · subst hdc
      rw [updF_fi, updF_fm, same] at hf
      rcases hf with hf | hf | ⟨x, hx, hf⟩
      · rcases hv' b hf with e | e
        · exact hnf ⟨d, hd, .inl e⟩
        · omega
      · rcases hm' b hf with e | e
        · exact hnf ⟨d, hd, .inr (.inl e)⟩
        · omega
      · rcases List.mem_append.1 hx with hx | hx
        · exact hnf ⟨d, hd, .inr (.inr ⟨x, hx, hf⟩)⟩
        · simp at hx; subst hx; exact hob hf
    · rw [(other d hd hdc).1, (other d hd hdc).2.1, (other d hd hdc).2.2] at hf
      exact hnf ⟨d, hd, hf⟩

end Go.Proofs.YtchideljndagjabGreat

namespace Go.Proofs.YtchideljndagjabGreat
open Go.RowKit
set_option linter.unusedVariables false

section
variable {w w1 wr w3 w5 : World} {pw : Nat} {F : Nat → Value} {nx : Int} {ls : Nat → List Ow} {o : Ow}

theorem own_mid1 (h : InvW w pw F nx ls) (c : Nat) (hc : c < 6) (k1 : w1 = w.setCell ⟨pw, 15, none⟩ (.int .i64 (nx + 1))) (k2 : Chg (fun b => o.1 = some b) w1 wr)
    (hg : ∀ g, o.1 = some g → ¬ Foot F ls g ∧ pw < g) :
    wr.heap[pw]? = some (.cells (fArr (upd F 15 (.int .i64 (nx + 1)))) 89 (0, 0)) ∧ wr.ownsRow (pw + 1) (cat c).s 1 (F (cat c).fi) (ls c).length ((ls c).map owVal) ∧
      wr.ownsRow (pw + 1) 3 1 (F (cat c).fm) (ls c).length ((ls c).map fun o => Value.int .i64 o.2.2) ∧ w.heap.size ≤ wr.heap.size ∧ Chg (fun b => b = pw ∨ o.1 = some b) w wr := by
  have hp := h.pw_lt
  have s1 : w1.heap.size = w.heap.size := by rw [k1]; simp [World.setCell]
  have c1 : Chg (fun b => b = pw) w w1 := by rw [k1]; exact Chg.setCell w ⟨pw, 15, none⟩ _
  have c2 : Chg (fun b => b = pw ∨ o.1 = some b) w wr := (c1.mono (fun b e _ => .inl e)).trans k2 (fun x e _ => .inr e)
  have hn : ∀ b, Foot F ls b → ¬ (b = pw ∨ o.1 = some b) := by
    rintro b hf (e | e)
    · have := h.foot_lt hf; omega
    · exact (hg b e).1 hf
  refine ⟨?_, ownsRow_chg (h.own c hc).1 c2 (fun b hb => hn b ⟨c, hc, .inl hb⟩), ownsRow_chg (h.own c hc).2.1 c2 (fun b hb => hn b ⟨c, hc, .inr (.inl hb)⟩), c2.size, c2⟩
  rw [k2.block pw (by omega) (fun e => by have := (hg pw e).2; omega), k1]
  exact set_f 15 _ (by omega) h.blk

theorem own_mid2 (h : InvW w pw F nx ls) (c : Nat) (hc : c < 6) (hb : wr.heap[pw]? = some (.cells (fArr (upd F 15 (.int .i64 (nx + 1)))) 89 (0, 0)))
    (hm : wr.ownsRow (pw + 1) 3 1 (F (cat c).fm) (ls c).length ((ls c).map fun o => Value.int .i64 o.2.2)) (hi : wr.ownsRow (pw + 1) (cat c).s 1 (F (cat c).fi) (ls c).length ((ls c).map owVal)) {X : Obj} (k3 : (wr.alloc X).grownBy w3 (F (cat c).fi).ownBlock) :
    w3.heap[pw]? = some (.cells (fArr (upd F 15 (.int .i64 (nx + 1)))) 89 (0, 0)) ∧ w3.ownsRow (pw + 1) 3 1 (F (cat c).fm) (ls c).length ((ls c).map fun o => Value.int .i64 o.2.2) ∧ wr.heap.size < w3.heap.size ∧
      Chg (fun b => (F (cat c).fi).ownBlock = some b) wr w3 := by
  have hp : pw < wr.heap.size := by
    by_cases hb' : pw < wr.heap.size
    · exact hb'
    · rw [Array.getElem?_eq_none (by omega)] at hb; cases hb
  have cc : Chg (fun b => (F (cat c).fi).ownBlock = some b) wr w3 := (Chg.alloc _ wr X).trans (Chg.grown k3) (fun x e _ => e)
  refine ⟨?_, ownsRow_chg hm cc (fun b hb e => ?_), ?_, cc⟩
  · rw [cc.block pw hp (fun e => by have := hi.lt pw e; omega)]; exact hb
  · obtain ⟨tg, t1, t2, _⟩ := h.tag
    have e1 := t1 c hc b e
    rw [t2 c hc b hb] at e1
    simp at e1
  · have := k3.size; simp at this; omega

theorem own_mid3 (h : InvW w pw F nx ls) (c : Nat) (hb : w3.heap[pw]? = some (.cells (fArr (upd F 15 (.int .i64 (nx + 1)))) 89 (0, 0)))
    (hm : w3.ownsRow (pw + 1) 3 1 (F (cat c).fm) (ls c).length ((ls c).map fun o => Value.int .i64 o.2.2)) (v' : Value) {Y : Obj} (k5 : ((w3.setCell ⟨pw, (cat c).fi, none⟩ v').alloc Y).grownBy w5 (F (cat c).fm).ownBlock) :
    w5.heap[pw]? = some (.cells (fArr (upd (upd F 15 (.int .i64 (nx + 1))) (cat c).fi v')) 89 (0, 0)) ∧ w3.heap.size < w5.heap.size ∧ Chg (fun b => b = pw ∨ (F (cat c).fm).ownBlock = some b) w3 w5 := by
  have hp : pw < w3.heap.size := by
    by_cases hb' : pw < w3.heap.size
    · exact hb'
    · rw [Array.getElem?_eq_none (by omega)] at hb; cases hb
  have s3 : (w3.setCell ⟨pw, (cat c).fi, none⟩ v').heap.size = w3.heap.size := by simp [World.setCell]
  have b4 := set_f (cat c).fi v' (by have := cat_fi c; omega) hb
  have c4 : Chg (fun b => (F (cat c).fm).ownBlock = some b) (w3.setCell ⟨pw, (cat c).fi, none⟩ v') w5 := (Chg.alloc _ _ Y).trans (Chg.grown k5) (fun x e _ => e)
  refine ⟨?_, ?_, ?_⟩
  · rw [c4.block pw (by omega) (fun e => by have := hm.lt pw e; omega)]; exact b4
  · have := k5.size; simp at this; omega
  · exact ((Chg.setCell w3 ⟨pw, (cat c).fi, none⟩ v').mono (fun b e _ => .inl e)).trans c4 (fun x e _ => .inr e)

theorem own_finish (h : InvW w pw F nx ls) (c : Nat) (hc : c < 6) (v' m' : Value) (k1 : w1 = w.setCell ⟨pw, 15, none⟩ (.int .i64 (nx + 1))) (k2 : Chg (fun b => o.1 = some b) w1 wr)
    {X Y : Obj} (k3 : (wr.alloc X).grownBy w3 (F (cat c).fi).ownBlock) (o3 : w3.ownsRow (pw + 1) (cat c).s 1 v' ((ls c).length + 1) ((ls c).map owVal ++ [owVal o]))
    (v3 : ∀ b, v'.ownBlock = some b → (F (cat c).fi).ownBlock = some b ∨ (wr.alloc X).heap.size ≤ b)
    (k5 : ((w3.setCell ⟨pw, (cat c).fi, none⟩ v').alloc Y).grownBy w5 (F (cat c).fm).ownBlock) (o5 : w5.ownsRow (pw + 1) 3 1 m' ((ls c).length + 1) (((ls c).map fun o => Value.int .i64 o.2.2) ++ [.int .i64 o.2.2]))
    (v5 : ∀ b, m'.ownBlock = some b → (F (cat c).fm).ownBlock = some b ∨ ((w3.setCell ⟨pw, (cat c).fi, none⟩ v').alloc Y).heap.size ≤ b)
    (hg : ∀ g, o.1 = some g → ¬ Foot F ls g ∧ pw < g ∧ g < w.heap.size ∧ wr.heap[g]? = some (.cells (owCells (cat c) o).toArray (cat c).e (0, 0)))
    (hn : o.1 = none → o.2.1 = 0) (hmx : o.2.1 ≤ maxLen) :
    InvW (w5.setCell ⟨pw, (cat c).fm, none⟩ m') pw (updF F c nx v' m') (nx + 1) (updL ls c (ls c ++ [o])) ∧
      (∀ b, b < w.heap.size → o.1 ≠ some b → ¬ Foot F ls b → ¬ Foot (updF F c nx v' m') (updL ls c (ls c ++ [o])) b) ∧ (∀ j, j < 3 → updF F c nx v' m' j = F j) ∧
      Chg (fun b => b = pw ∨ o.1 = some b ∨ Foot F ls b) w (w5.setCell ⟨pw, (cat c).fm, none⟩ m') := by
  obtain ⟨m1, m2, m3, m4, m5⟩ := own_mid1 h c hc k1 k2 (fun g e => ⟨(hg g e).1, (hg g e).2.1⟩)
  obtain ⟨p1, p2, p3, p4⟩ := own_mid2 h c hc m1 m3 m2 k3
  obtain ⟨q1, q2, q3⟩ := own_mid3 h c p1 p2 v' k5
  have a3 := cat_fi c
  have a4 := cat_fm c
  have hp := h.pw_lt
  have s3 : (w3.setCell ⟨pw, (cat c).fi, none⟩ v').heap.size = w3.heap.size := by simp [World.setCell]
  have s6 : (w5.setCell ⟨pw, (cat c).fm, none⟩ m').heap.size = w5.heap.size := by simp [World.setCell]
  have all : Chg (fun b => b = pw ∨ o.1 = some b ∨ (F (cat c).fi).ownBlock = some b ∨ (F (cat c).fm).ownBlock = some b) w (w5.setCell ⟨pw, (cat c).fm, none⟩ m') :=
    ((((m5.mono (S' := fun b => b = pw ∨ o.1 = some b ∨ (F (cat c).fi).ownBlock = some b ∨ (F (cat c).fm).ownBlock = some b) (fun b e _ => by rcases e with e | e; exact .inl e; exact .inr (.inl e))).trans p4
      (fun x e _ => .inr (.inr (.inl e)))).trans q3 (fun x e _ => by rcases e with e | e; exact .inl e; exact .inr (.inr (.inr e))))).trans (Chg.setCell w5 ⟨pw, (cat c).fm, none⟩ m') (fun x e _ => .inl e)
  -- the new rows' blocks are none of the old ones
  have vpw : ∀ b, v'.ownBlock = some b → b ≠ pw := fun b hb e => by have := o3.lt b hb; omega
  have v_m : ∀ b, v'.ownBlock = some b → (F (cat c).fm).ownBlock ≠ some b := by
    intro b hb e
    have hlt := m3.lt b e
    rcases v3 b hb with e' | e'
    · obtain ⟨tg, t1, t2, _⟩ := h.tag
      have e1 := t1 c hc b e'
      rw [t2 c hc b e] at e1
      simp at e1
    · simp at e'; omega
  have o3' : (w5.setCell ⟨pw, (cat c).fm, none⟩ m').ownsRow (pw + 1) (cat c).s 1 v' ((ls c).length + 1) ((ls c).map owVal ++ [owVal o]) :=
    ownsRow_chg o3 (q3.trans (Chg.setCell w5 ⟨pw, (cat c).fm, none⟩ m') (fun x e _ => .inl e)) (fun b hb e => by
      rcases e with e | e
      · exact vpw b hb e
      · exact v_m b hb e)
  have o5' : (w5.setCell ⟨pw, (cat c).fm, none⟩ m').ownsRow (pw + 1) 3 1 m' ((ls c).length + 1) (((ls c).map fun o => Value.int .i64 o.2.2) ++ [.int .i64 o.2.2]) :=
    ownsRow_chg o5 (Chg.setCell w5 ⟨pw, (cat c).fm, none⟩ m') (fun b hb e => by have := o5.lt b hb; simp at e; omega)
  have step := own_step h c hc o v' m' all (by rw [updF]; exact set_f (cat c).fm m' (by omega) q1) o3' o5'
    (fun b hb => by
      rcases v3 b hb with e | e
      · exact .inl e
      · simp at e; exact .inr (by omega))
    (fun b hb => by
      rcases v5 b hb with e | e
      · exact .inl e
      · rw [show ((w3.setCell ⟨pw, (cat c).fi, none⟩ v').alloc Y).heap.size = w3.heap.size + 1 by simp [World.setCell]] at e; exact .inr (by omega))
    (fun g e => by
      obtain ⟨g1, g2, g3, g4⟩ := hg g e
      refine ⟨g1, g2, g3, ?_⟩
      have n1 : (F (cat c).fi).ownBlock ≠ some g := fun e' => g1 ⟨c, hc, .inl e'⟩
      have n2 : (F (cat c).fm).ownBlock ≠ some g := fun e' => g1 ⟨c, hc, .inr (.inl e')⟩
      rw [(Chg.setCell w5 ⟨pw, (cat c).fm, none⟩ m').block g (by omega) (by simp; omega), q3.block g (by omega) (by rintro (e' | e'); omega; exact n2 e'), p4.block g (by omega) n1]
      exact g4) hn hmx
  refine ⟨step.1, step.2, fun j hj => updF_other _ _ _ _ _ (by omega) (by omega) (by omega), all.mono (fun b e _ => ?_)⟩
  rcases e with e | e | e | e
  · exact .inl e
  · exact .inr (.inl e)
  · exact .inr (.inr ⟨c, hc, .inl e⟩)
  · exact .inr (.inr ⟨c, hc, .inr (.inl e)⟩)
end
end Go.Proofs.YtchideljndagjabGreat
