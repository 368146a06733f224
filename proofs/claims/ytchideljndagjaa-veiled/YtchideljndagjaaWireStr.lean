/- Strings made of bytes, bytes made of strings: the walks' equations. Bytes that are too long or too short. -/
import Derived.Test.YtchideljndagjaaMemAll
import Derived.Test.YtchideljndagjaaRows
import Derived.Laws.Concat
namespace Go.Proofs.Ytchideljndagjaa
open Go.RowKit
set_option linter.unusedVariables false

theorem conv_str {w : World} {v : Value} {zs : List Int} (h : BytesAt w v zs) : (convert 54 9 v).run Try.prog w = .ok (.string (strOfNums zs)) w := by
  obtain ⟨a, cap, rfl, h2, h3, h4, h5⟩ := h
  rcases h5 with rfl | ⟨b, off, rfl, _, hc⟩
  · cases a with
    | none => exact run_convert_bytes_nil w 54 5 Try.underlying54 Try.underlying5 0 cap 9 Try.underlying9
    | some x =>
      rw [List.length_nil, run_convert_bytes_string w 54 9 5 (some x) 0 cap Try.underlying54 Try.underlying5 Try.underlying9,
        run_bytesToString w x 0 cap [] (by simpa using run_loadCells_list (P := Try.prog) w x [] (by simp))]
      rfl
  · exact run_convert_bytes_arg w 54 5 Try.underlying54 Try.underlying5 b off zs.length cap zs rfl (fun i hi => hc i hi) 9 Try.underlying9

/-- The new block of '[]byte(s)'. -/
def strBlk (w : World) (s : ByteArray) : Obj := .cells (bytesRow s (grownCap w s.size 0 5)) 5 ((bytesRow s (grownCap w s.size 0 5)).size, (bytesRow s (grownCap w s.size 0 5)).size + 1)

theorem conv_bytes (w : World) (s : ByteArray) : (convert 9 54 (.string s)).run Try.prog w = .ok (.slice (some ⟨w.heap.size, 0, none⟩) s.size (grownCap w s.size 0 5)) (w.drew.alloc (strBlk w s)) :=
  run_bytes_of_string w 9 54 5 s Try.underlying9 Try.underlying54 Try.underlying5

theorem bytesAt_new (w : World) (s : ByteArray) (hs : s.size ≤ maxLen) : BytesAt (w.drew.alloc (strBlk w s)) (.slice (some ⟨w.heap.size, 0, none⟩) s.size (grownCap w s.size 0 5)) (bl s) := by
  refine ⟨_, _, by rw [bl_length], by rw [bl_length]; exact grownCap_ge _ _ _ _, grownCap_le_maxLen _ _ _ _ hs, bl_isB s, .inr ⟨w.heap.size, 0, rfl, (by show w.heap.size < (w.drew.heap.push _).size; rw [Array.size_push]; exact Nat.lt_succ_self _), fun i hi => ?_⟩⟩
  rw [bl_length] at hi
  have hi' : i < s.data.size := hi
  have := World.cell?_alloc_mark w.drew (bytesRow s (grownCap w s.size 0 5)) 5 ((bytesRow s (grownCap w s.size 0 5)).size, (bytesRow s (grownCap w s.size 0 5)).size + 1) i
  rw [Nat.zero_add]
  refine this.trans ?_
  rw [bytesRow_at s _ i hi']
  unfold Frm.bAt bl
  rw [List.getD_eq_getElem?_getD, List.getElem?_map, Array.getElem?_toList, Array.getElem?_eq_getElem hi']
  rfl

theorem below_bytes (w : World) (s : ByteArray) : Below w.heap.size w (w.drew.alloc (strBlk w s)) := ((Below.refl _ _).drew).alloc (Nat.le_refl _) _

theorem conv_ex (w : World) (s : ByteArray) (hs : s.size ≤ maxLen) : ∃ v w', (convert 9 54 (.string s)).run Try.prog w = .ok v w' ∧ BytesAt w' v (bl s) ∧ Below w.heap.size w w' :=
  ⟨_, _, conv_bytes w s, bytesAt_new w s hs, below_bytes w s⟩

theorem str_app (xs ys : List Int) : strOfNums xs ++ strOfNums ys = strOfNums (xs ++ ys) := by
  unfold strOfNums
  rw [List.map_append]
  apply ByteArray.ext
  simp [ByteArray.data_append]

theorem str_take (xs : List Int) (n : Nat) (hn : n ≤ xs.length) : (strOfNums xs).extract 0 n = strOfNums (xs.take n) := by
  unfold strOfNums
  apply ByteArray.ext
  rw [ByteArray.data_extract]
  apply Array.ext'
  simp [List.map_take]

/-! ### One byte more, one byte less -/
theorem dec_len {b : List Int} (h : b.length ≠ 3 + (Frm.bAt b 2).toNat * Frm.size (Frm.bAt b 0)) : Frm.decF b = none := by
  unfold Frm.decF
  rw [if_neg h, ite_self]

theorem dec_long {k fr : Int} {l : List Frm.It} (x : Int) : Frm.decF (Frm.encF k fr l ++ [x]) = none := by
  apply dec_len
  have b0 : Frm.bAt (Frm.encF k fr l ++ [x]) 0 = k := rfl
  have b2 : Frm.bAt (Frm.encF k fr l ++ [x]) 2 = (l.length : Int) := rfl
  rw [b0, b2, Int.toNat_natCast, List.length_append, Frm.encF_length]
  simp

theorem dec_short {k fr : Int} {l : List Frm.It} : Frm.decF ((Frm.encF k fr l).take ((Frm.encF k fr l).length - 1)) = none := by
  have hl := Frm.encF_length k fr l
  by_cases h3 : (Frm.encF k fr l).length - 1 < 3
  · unfold Frm.decF
    rw [if_pos (by rw [List.length_take]; omega)]
  · apply dec_len
    have g : ∀ i, i < 3 → Frm.bAt ((Frm.encF k fr l).take ((Frm.encF k fr l).length - 1)) i = Frm.bAt (Frm.encF k fr l) i := fun i hi => by
      unfold Frm.bAt
      rw [List.getD_eq_getElem?_getD, List.getD_eq_getElem?_getD, List.getElem?_take_of_lt (by omega)]
    have b0 : Frm.bAt (Frm.encF k fr l) 0 = k := rfl
    have b2 : Frm.bAt (Frm.encF k fr l) 2 = (l.length : Int) := rfl
    rw [g 0 (by omega), g 2 (by omega), b0, b2, Int.toNat_natCast, List.length_take]
    omega

theorem bytesN_isB (v : Int) : Frm.isB (Frm.bytesN v) := by
  intro x hx
  unfold Frm.bytesN at hx
  simp only [List.mem_cons, List.not_mem_nil, or_false] at hx
  omega

theorem encF_isB {k fr : Int} {l : List Frm.It} (h : Frm.okF k fr l = true) : Frm.isB (Frm.encF k fr l) := by
  obtain ⟨o1, o2, o3, o4, o5, o6⟩ := Frm.okF_bounds h
  intro x hx
  unfold Frm.encF at hx
  simp only [List.mem_cons] at hx
  rcases hx with rfl | rfl | rfl | hx
  · omega
  · omega
  · omega
  · obtain ⟨y, hy, hx⟩ := List.mem_flatten.1 hx
    obtain ⟨t, ht, rfl⟩ := List.mem_map.1 hy
    obtain ⟨i, hi, rfl⟩ := List.getElem_of_mem ht
    have hid := o6 i hi
    have e : Frm.it l i = l[i] := by unfold Frm.it; rw [List.getD_eq_getElem?_getD, List.getElem?_eq_getElem hi]; rfl
    rw [e] at hid
    unfold Frm.encI at hx
    rcases List.mem_cons.1 hx with rfl | hx
    · omega
    · obtain ⟨z, hz, hx⟩ := List.mem_flatten.1 hx
      obtain ⟨q, _, rfl⟩ := List.mem_map.1 hz
      exact bytesN_isB q x hx

end Go.Proofs.Ytchideljndagjaa
