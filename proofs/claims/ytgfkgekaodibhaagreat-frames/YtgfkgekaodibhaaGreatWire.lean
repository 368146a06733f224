/- Bytes and items in memory; strings as bytes. -/
import Derived.Test.YtgfkgekaodibhaaGreatLists
import Derived.Test.YtgfkgekaodibhaaGreatFrm
import Derived.Laws.BytesArg
import Derived.Laws.IdiomStrings
namespace Go.Proofs.YtgfkgekaodibhaaGreat
open Go.RowKit
set_option linter.unusedVariables false

/-- Bytes in memory. -/
def BytesAt (w : World) (v : Value) (zs : List Int) : Prop :=
  ∃ (a : Option Addr) (cap : Nat), v = .slice a zs.length cap ∧ zs.length ≤ cap ∧ cap ≤ maxLen ∧ Frm.isB zs ∧
    (zs = [] ∨ ∃ b off, a = some ⟨b, off, none⟩ ∧ b < w.heap.size ∧ ∀ i, i < zs.length → w.cell? ⟨b, off + i, none⟩ = some (.int .u8 (Frm.bAt zs i)))

theorem BytesAt.below {w w' : World} {v : Value} {zs : List Int} (h : BytesAt w v zs) (hb : Below w.heap.size w w') : BytesAt w' v zs := by
  obtain ⟨a, cap, h1, h2, h3, h4, h5⟩ := h
  refine ⟨a, cap, h1, h2, h3, h4, ?_⟩
  rcases h5 with h5 | ⟨b, off, e1, e2, e3⟩
  · exact .inl h5
  · exact .inr ⟨b, off, e1, Nat.lt_of_lt_of_le e2 hb.size, fun i hi => by rw [hb.cell (p := ⟨b, off + i, none⟩) e2]; exact e3 i hi⟩

theorem bytesAt_of_owns {w : World} {B : Nat} {v : Value} {n : Nat} {zs : List Int} (h : w.ownsRow B 5 1 v n (zs.map (Value.int .u8))) (hz : Frm.isB zs) : BytesAt w v zs := by
  have hl : zs.length = n := by have := h.1; simpa using this
  subst hl
  have h0 := h
  rcases h.2 with ⟨rfl, hn⟩ | ⟨g, cap, cur, rfl, _, hb, hnc, hcm, _⟩
  · have hz0 : zs = [] := List.eq_nil_of_length_eq_zero hn
    subst hz0
    exact ⟨none, 0, rfl, by simp, Nat.zero_le _, hz, .inl rfl⟩
  · refine ⟨some ⟨g, 0, none⟩, cap, rfl, hnc, hcm, hz, .inr ⟨g, 0, rfl, (h0.lt g rfl).2, fun i hi => ?_⟩⟩
    have := h0.cellAt i (by omega)
    unfold Frm.bAt
    rw [Nat.zero_add, this, List.getElem?_map, List.getElem?_eq_getElem hi, List.getD_eq_getElem?_getD, List.getElem?_eq_getElem hi]
    rfl

/-- As the walks meet them. -/
theorem bytes_view {w : World} {v : Value} {zs : List Int} (h : BytesAt w v zs) : ∃ (a : Option Addr) (cap : Nat), v = .slice a zs.length cap ∧ zs.length ≤ cap ∧ cap ≤ 9223372036854775807 ∧ Frm.isB zs ∧
    ∀ k, k < zs.length → ∃ b off, a = some ⟨b, off, none⟩ ∧ b < w.heap.size ∧ w.cell? ⟨b, off + k, none⟩ = some (.int .u8 (Frm.bAt zs k)) := by
  obtain ⟨a, cap, h1, h2, h3, h4, h5⟩ := h
  refine ⟨a, cap, h1, h2, by unfold maxLen at h3; omega, h4, fun k hk => ?_⟩
  rcases h5 with h5 | ⟨b, off, e, hb, hc⟩
  · rw [h5] at hk; simp at hk
  · exact ⟨b, off, e, hb, hc k hk⟩

/-! ### Items -/
def inIt (x : Frm.It) : Prop := inI x.1 ∧ inI x.2.1 ∧ inI x.2.2.1 ∧ inI x.2.2.2

def ItemAt (w : World) (b o : Nat) (x : Frm.It) : Prop :=
  w.cell? ⟨b, o, none⟩ = some (.int .i64 x.1) ∧ w.cell? ⟨b, o + 1, none⟩ = some (.int .i64 x.2.1) ∧ w.cell? ⟨b, o + 2, none⟩ = some (.int .i64 x.2.2.1) ∧ w.cell? ⟨b, o + 3, none⟩ = some (.int .i64 x.2.2.2)

def ItemsAt (w : World) (v : Value) (l : List Frm.It) : Prop :=
  ∃ (a : Option Addr) (cap : Nat), v = .slice a l.length cap ∧ l.length ≤ cap ∧ cap ≤ maxLen ∧ (∀ x ∈ l, inIt x) ∧
    (l = [] ∨ ∃ b off, a = some ⟨b, off, none⟩ ∧ b < w.heap.size ∧ ∀ i, i < l.length → ItemAt w b (off + i * 4) (Frm.it l i))

theorem ItemAt.below {w w' : World} {b o : Nat} {x : Frm.It} (h : ItemAt w b o x) (hlt : b < w.heap.size) (hb : Below w.heap.size w w') : ItemAt w' b o x := by
  obtain ⟨h0, h1, h2, h3⟩ := h
  refine ⟨?_, ?_, ?_, ?_⟩
  · rw [hb.cell (p := ⟨b, o, none⟩) hlt]; exact h0
  · rw [hb.cell (p := ⟨b, o + 1, none⟩) hlt]; exact h1
  · rw [hb.cell (p := ⟨b, o + 2, none⟩) hlt]; exact h2
  · rw [hb.cell (p := ⟨b, o + 3, none⟩) hlt]; exact h3

theorem ItemsAt.below {w w' : World} {v : Value} {l : List Frm.It} (h : ItemsAt w v l) (hb : Below w.heap.size w w') : ItemsAt w' v l := by
  obtain ⟨a, cap, h1, h2, h3, h4, h5⟩ := h
  refine ⟨a, cap, h1, h2, h3, h4, ?_⟩
  rcases h5 with h5 | ⟨b, off, e1, e2, e3⟩
  · exact .inl h5
  · exact .inr ⟨b, off, e1, Nat.lt_of_lt_of_le e2 hb.size, fun i hi => (e3 i hi).below e2 hb⟩

theorem items_view {w : World} {v : Value} {l : List Frm.It} (h : ItemsAt w v l) : ∃ (a : Option Addr) (cap : Nat), v = .slice a l.length cap ∧ l.length ≤ cap ∧ cap ≤ 9223372036854775807 ∧ (∀ x ∈ l, inIt x) ∧
    ∀ k, k < l.length → ∃ b off, a = some ⟨b, off, none⟩ ∧ b < w.heap.size ∧ ItemAt w b (off + k * 4) (Frm.it l k) := by
  obtain ⟨a, cap, h1, h2, h3, h4, h5⟩ := h
  refine ⟨a, cap, h1, h2, by unfold maxLen at h3; omega, h4, fun k hk => ?_⟩
  rcases h5 with h5 | ⟨b, off, e, hb, hc⟩
  · rw [h5] at hk; simp at hk
  · exact ⟨b, off, e, hb, hc k hk⟩

theorem it_mem {l : List Frm.It} {i : Nat} (hi : i < l.length) : Frm.it l i ∈ l := by
  unfold Frm.it; rw [List.getD_eq_getElem?_getD, List.getElem?_eq_getElem hi]; exact List.getElem_mem hi

/-- The cells of items. -/
def flat4 : List Frm.It → List Value
  | [] => []
  | p :: l => .int .i64 p.1 :: .int .i64 p.2.1 :: .int .i64 p.2.2.1 :: .int .i64 p.2.2.2 :: flat4 l

theorem flat4_append (l m : List Frm.It) : flat4 (l ++ m) = flat4 l ++ flat4 m := by
  induction l with
  | nil => rfl
  | cons p l ih => show _ :: _ :: _ :: _ :: flat4 (l ++ m) = _ :: _ :: _ :: _ :: (flat4 l ++ flat4 m); rw [ih]
theorem flat4_length (l : List Frm.It) : (flat4 l).length = l.length * 4 := by
  induction l with
  | nil => rfl
  | cons p l ih => show (flat4 l).length + 1 + 1 + 1 + 1 = (l.length + 1) * 4; rw [ih]; omega
theorem flat4_get (l : List Frm.It) (i : Nat) (hi : i < l.length) : (flat4 l)[i * 4]? = some (.int .i64 (Frm.it l i).1) ∧ (flat4 l)[i * 4 + 1]? = some (.int .i64 (Frm.it l i).2.1) ∧
    (flat4 l)[i * 4 + 2]? = some (.int .i64 (Frm.it l i).2.2.1) ∧ (flat4 l)[i * 4 + 3]? = some (.int .i64 (Frm.it l i).2.2.2) := by
  induction l generalizing i with
  | nil => simp at hi
  | cons p l ih =>
    cases i with
    | zero => exact ⟨rfl, rfl, rfl, rfl⟩
    | succ i =>
      have h := ih i (by simpa using hi)
      rw [show (i + 1) * 4 = i * 4 + 1 + 1 + 1 + 1 by omega]
      exact h

theorem itemsAt_of_owns {w : World} {B : Nat} {v : Value} {l : List Frm.It} (h : w.ownsRow B 133 4 v l.length (flat4 l)) (hp : ∀ x ∈ l, inIt x) : ItemsAt w v l := by
  have h0 := h
  rcases h.2 with ⟨rfl, hn⟩ | ⟨g, cap, cur, rfl, _, hb, hnc, hcm, _⟩
  · have hz0 : l = [] := List.eq_nil_of_length_eq_zero hn
    subst hz0
    exact ⟨none, 0, rfl, by simp, Nat.zero_le _, hp, .inl rfl⟩
  · refine ⟨some ⟨g, 0, none⟩, cap, rfl, hnc, hcm, hp, .inr ⟨g, 0, rfl, (h0.lt g rfl).2, fun i hi => ?_⟩⟩
    obtain ⟨f1, f2, f3, f4⟩ := flat4_get l i hi
    rw [Nat.zero_add]
    exact ⟨(h0.cellAt (i * 4) (by omega)).trans f1, (h0.cellAt (i * 4 + 1) (by omega)).trans f2, (h0.cellAt (i * 4 + 2) (by omega)).trans f3, (h0.cellAt (i * 4 + 3) (by omega)).trans f4⟩

/-! ### Strings as bytes -/
def bl (s : ByteArray) : List Int := s.data.toList.map fun b => (b.toNat : Int)
theorem bl_length (s : ByteArray) : (bl s).length = s.size := by unfold bl; rw [List.length_map]; rfl
theorem bl_isB (s : ByteArray) : Frm.isB (bl s) := by
  intro x hx
  unfold bl at hx
  obtain ⟨b, _, rfl⟩ := List.mem_map.1 hx
  have := b.toNat_lt
  omega
theorem bl_str {zs : List Int} (h : Frm.isB zs) : bl (strOfNums zs) = zs := by
  unfold bl
  rw [strOfNums_data, List.map_map]
  conv => rhs; rw [← List.map_id zs]
  apply List.map_congr_left
  intro z hz
  have := h z hz
  show ((UInt8.ofNat z.toNat).toNat : Int) = z
  rw [UInt8.toNat_ofNat_of_lt' (by show z.toNat < 256; omega)]
  omega
theorem str_bl (s : ByteArray) : strOfNums (bl s) = s := by
  have : s = ⟨s.data⟩ := rfl
  rw [this]
  unfold strOfNums bl
  congr 1
  rw [List.map_map]
  have e : (List.map ((fun n : Int => UInt8.ofNat n.toNat) ∘ fun b : UInt8 => (b.toNat : Int)) s.data.toList) = s.data.toList := by
    conv => rhs; rw [← List.map_id s.data.toList]
    apply List.map_congr_left
    intro b _
    show UInt8.ofNat ((b.toNat : Int)).toNat = b
    rw [Int.toNat_natCast]
    exact UInt8.ofNat_toNat
  rw [e]
theorem str_eq {zs ys : List Int} (h1 : Frm.isB zs) (h2 : Frm.isB ys) : strOfNums zs = strOfNums ys ↔ zs = ys :=
  ⟨fun h => by have := congrArg bl h; rwa [bl_str h1, bl_str h2] at this, fun h => by rw [h]⟩

end Go.Proofs.YtgfkgekaodibhaaGreat
