/- A script that came in, opened, with its strings and frames; played. -/
import Derived.Test.YtchideljndagjaaGreatOpenScr
import Derived.Test.YtchideljndagjaaGreatMemAll
namespace Go.Proofs.YtchideljndagjaaGreat
open Go.ChangeShapes Go.WideShapes Go.ChangeAt Go.RowKit Go.Deep
set_option linter.unusedVariables false

def StrIs (v : Value) : Prop := ∃ s : ByteArray, v = .string s ∧ s.size ≤ 140737488351232
def ItemsIs (w : World) (v : Value) : Prop := ∃ l, ItemsAt w v l ∧ l.length * 32 ≤ 140737488351232
/-- What is known of a step of a script, its string and its frame too. -/
def OpIs2 (w : World) (kd x y z : Int) (r : Nat → Value) : Prop :=
  OpIs w kd x y z r ∧ StrIs (r 1) ∧ (∃ k fr : Int, r 2 = .int .i64 k ∧ r 3 = .int .i64 fr) ∧ ItemsIs w (r 4)

/-- A script in memory: each step's fourteen cells. -/
def Scr2 (w : World) (a : Option Addr) (len : Nat) : Prop :=
  len * 168 ≤ 140737488351232 ∧ (len = 0 ∨ ∃ b off, a = some ⟨b, off, none⟩ ∧ b < w.heap.size ∧ ∀ i, i < len → ∃ kd x y z r, OpIs2 w kd x y z r ∧
    ∀ j, j < 14 → w.cell? ⟨b, off + i * 14 + j, none⟩ = some ((opCells kd x y z r).getD j undef))

theorem cellsItem : Tryz.prog.cellsOf 142 = 4 := by kernel_rfl
theorem bytesItem : Tryz.prog.bytesOf 142 = 32 := by kernel_rfl
theorem cellsFrame : Tryz.prog.cellsOf 40 = 3 := by kernel_rfl
theorem cellsStr : Tryz.prog.cellsOf 9 = 1 := by kernel_rfl
theorem cellsItems : Tryz.prog.cellsOf 38 = 1 := by kernel_rfl

section
variable {H : Type} {enc : TypeId × Value → H} {w : World} {spare : Nat → Bool} {held : Bool}

set_option maxRecDepth 100000 in
theorem item_of {n : Nat} {cs : List Value} {y : DataW H × List MemPlace} (h : DataW.trod enc Tryz.prog w 0 spare held n 142 cs = some y) :
    ∃ x : Frm.It, inIt x ∧ cs = [.int .i64 x.1, .int .i64 x.2.1, .int .i64 x.2.2.1, .int .i64 x.2.2.2] := by
  obtain ⟨xs, m, _, hy, hl, hlen, hf⟩ := DataW.trod_struct Tryz.underlying142 h
  rw [cellsItem] at hl
  match cs, hl with
  | [c0, c1, c2, c3], _ =>
    have f0 := hf 0 _ rfl
    have f1 := hf 1 _ rfl
    have f2 := hf 2 _ rfl
    have f3 := hf 3 _ rfl
    simp [cellsInt] at f0 f1 f2 f3
    have hlen4 : xs.length = 4 := hlen
    rw [List.getElem?_eq_getElem (by omega)] at f0 f1 f2 f3
    obtain ⟨a, rfl, k0⟩ := int_of f0
    obtain ⟨b, rfl, k1⟩ := int_of f1
    obtain ⟨c, rfl, k2⟩ := int_of f2
    obtain ⟨d, rfl, k3⟩ := int_of f3
    exact ⟨(a, b, c, d), ⟨k0, k1, k2, k3⟩, rfl⟩

theorem items_of {n : Nat} {c : Value} {y : DataW H × List MemPlace} (h : DataW.trod enc Tryz.prog w 0 spare held n 38 [c] = some y) (hw : ∀ n ∈ y.1.weights Tryz.prog 38, n ≤ reachBytes) : ItemsIs w c := by
  rcases open_slice Tryz.underlying38 h with ⟨hcs, _⟩ | ⟨x, l, cp, m, n', D, Pl, hcs, _, hl, hm, hmm, hy, hx⟩
  · simp at hcs
    exact ⟨[], ⟨none, 0, hcs, by simp, by unfold maxLen; omega, by simp, .inl rfl⟩, by simp⟩
  · simp at hcs
    have hbytes := hw _ (by rw [hy]; simp only [DataW.weights, Tryz.underlying38]; exact List.mem_cons_self)
    rw [bytesItem] at hbytes
    simp only [List.length_map, List.length_range, reachBytes] at hbytes
    have hlm : l ≤ m := by rw [hmm]; split <;> omega
    rw [cellsItem] at hx
    have hit : ∀ i, i < l → ∃ t : Frm.It, inIt t ∧ ∀ j, j < 4 → w.cell? (x.add (i * 4 + j)) = some (([.int .i64 t.1, .int .i64 t.2.1, .int .i64 t.2.2.1, .int .i64 t.2.2.2] : List Value).getD j undef) := by
      intro i hi
      obtain ⟨cs, e1, e2⟩ := hx i (by omega)
      obtain ⟨_, e3, e4⟩ := World.cells?_some e1
      obtain ⟨t, ht, hcs'⟩ := item_of e2
      refine ⟨t, ht, fun j hj => ?_⟩
      have e5 := e4 j hj
      rw [List.getElem?_eq_getElem (by omega)] at e5
      rw [← hcs', List.getD_eq_getElem?_getD, List.getElem?_eq_getElem (by omega), Option.getD_some, ← e5, Deep.add_add]
    let T : Nat → Frm.It := fun i => if hi : i < l then (hit i hi).choose else (0, 0, 0, 0)
    have hT : ∀ i, i < l → inIt (T i) ∧ ∀ j, j < 4 → w.cell? (x.add (i * 4 + j)) = some (([.int .i64 (T i).1, .int .i64 (T i).2.1, .int .i64 (T i).2.2.1, .int .i64 (T i).2.2.2] : List Value).getD j undef) := fun i hi => by
      have e : T i = (hit i hi).choose := dif_pos hi
      rw [e]; exact (hit i hi).choose_spec
    have hlen : ((List.range l).map T).length = l := by simp
    refine ⟨(List.range l).map T, ⟨some x, cp, by rw [hlen]; exact hcs, by rw [hlen]; omega, hm, fun t ht => ?_, ?_⟩, by rw [hlen]; omega⟩
    · obtain ⟨i, hi, rfl⟩ := List.mem_map.1 ht
      exact (hT i (List.mem_range.1 hi)).1
    · rcases Nat.eq_zero_or_pos l with h0 | h0
      · exact .inl (by rw [h0]; rfl)
      · right
        obtain ⟨b, off, spot⟩ := x
        have q00 := (hT 0 h0).2 0 (by omega)
        have hspot : spot = none := by simpa [Addr.add] using World.cell?_spot q00
        subst hspot
        refine ⟨b, off, rfl, by simpa [Addr.add] using cell_block q00, fun i hi => ?_⟩
        rw [hlen] at hi
        have hadd : ∀ j, (⟨b, off, none⟩ : Addr).add j = ⟨b, off + j, none⟩ := fun j => by unfold Addr.add; by_cases hz : j = 0 <;> simp [hz]
        have e : Frm.it ((List.range l).map T) i = T i := Frm.it_range l T i hi
        rw [e]
        have g := (hT i hi).2
        have g0 := g 0 (by omega)
        have g1 := g 1 (by omega)
        have g2 := g 2 (by omega)
        have g3 := g 3 (by omega)
        rw [hadd] at g0 g1 g2 g3
        exact ⟨by rw [Nat.add_zero] at g0; exact g0, by rw [Nat.add_assoc]; exact g1, by rw [Nat.add_assoc]; exact g2, by rw [Nat.add_assoc]; exact g3⟩

set_option maxRecDepth 100000 in
theorem frame_of {n : Nat} {cs : List Value} {y : DataW H × List MemPlace} (h : DataW.trod enc Tryz.prog w 0 spare held n 40 cs = some y) (hw : ∀ n ∈ y.1.weights Tryz.prog 40, n ≤ reachBytes) :
    ∃ (k fr : Int) (v : Value), cs = [.int .i64 k, .int .i64 fr, v] ∧ ItemsIs w v := by
  obtain ⟨xs, m, _, hy, hl, hlen, hf⟩ := DataW.trod_struct Tryz.underlying40 h
  rw [cellsFrame] at hl
  match cs, hl with
  | [c0, c1, c2], _ =>
    have f0 := hf 0 _ rfl
    have f1 := hf 1 _ rfl
    have f2 := hf 2 _ rfl
    simp [cellsInt, cellsItems] at f0 f1 f2
    have hlen3 : xs.length = 3 := hlen
    rw [List.getElem?_eq_getElem (by omega)] at f0 f1 f2
    obtain ⟨a, rfl, k0⟩ := int_of f0
    obtain ⟨b, rfl, k1⟩ := int_of f1
    refine ⟨a, b, c2, rfl, items_of f2 (fun n hn => hw n (by
      rw [hy]
      simp only [DataW.weights, Tryz.underlying40]
      refine DataW.weights_mem_each (j := 2) (t := 38) (d := (xs[2]).1) rfl ?_ n hn
      rw [List.getElem?_map, List.getElem?_eq_getElem (by omega)]; rfl))⟩

theorem str_of {n : Nat} {c : Value} {y : DataW H × List MemPlace} (h : DataW.trod enc Tryz.prog w 0 spare held n 9 [c] = some y) (hw : ∀ n ∈ y.1.weights Tryz.prog 9, n ≤ reachBytes) : StrIs c := by
  obtain ⟨s, e, hy, hs⟩ := DataW.trod_string Tryz.underlying9 h
  simp at e
  have hb := hw s.size (by rw [hy]; simp [DataW.weights])
  exact ⟨s, e, hb⟩

set_option maxRecDepth 100000 in
theorem op_of2 {n : Nat} {cs : List Value} {y : DataW H × List MemPlace} (h : DataW.trod enc Tryz.prog w 0 spare held n 45 cs = some y) (hw : ∀ n ∈ y.1.weights Tryz.prog 45, n ≤ reachBytes) :
    ∃ kd x y z r, OpIs2 w kd x y z r ∧ cs = opCells kd x y z r := by
  obtain ⟨xs, m, _, hy, hl, hlen, hf⟩ := DataW.trod_struct Tryz.underlying45 h
  rw [cellsOp] at hl
  match cs, hl with
  | [c0, c1, c2, c3, c4, c5, c6, c7, c8, c9, c10, c11, c12, c13], _ =>
    have f0 := hf 0 _ rfl
    have f1 := hf 1 _ rfl
    have f2 := hf 2 _ rfl
    have f3 := hf 3 _ rfl
    have f4 := hf 4 _ rfl
    have f5 := hf 5 _ rfl
    have f6 := hf 6 _ rfl
    simp [cellsInt, cellsInts, cellsStr, cellsFrame] at f0 f1 f2 f3 f4 f5 f6
    have hlen9 : xs.length = 9 := hlen
    rw [List.getElem?_eq_getElem (by omega)] at f0 f1 f2 f3 f4 f5 f6
    obtain ⟨kd, rfl, k0⟩ := int_of f0
    obtain ⟨x, rfl, k1⟩ := int_of f1
    obtain ⟨y, rfl, k2⟩ := int_of f2
    obtain ⟨z, rfl, k3⟩ := int_of f3
    have hw4 : ∀ n ∈ (xs[4]).1.weights Tryz.prog 35, n ≤ reachBytes := fun n hn => hw n (by
      rw [hy]
      simp only [DataW.weights, Tryz.underlying45]
      refine DataW.weights_mem_each (j := 4) (t := 35) (d := (xs[4]).1) rfl ?_ n hn
      rw [List.getElem?_map, List.getElem?_eq_getElem (by omega)]; rfl)
    have hw5 : ∀ n ∈ (xs[5]).1.weights Tryz.prog 9, n ≤ reachBytes := fun n hn => hw n (by
      rw [hy]
      simp only [DataW.weights, Tryz.underlying45]
      refine DataW.weights_mem_each (j := 5) (t := 9) (d := (xs[5]).1) rfl ?_ n hn
      rw [List.getElem?_map, List.getElem?_eq_getElem (by omega)]; rfl)
    have hw6 : ∀ n ∈ (xs[6]).1.weights Tryz.prog 40, n ≤ reachBytes := fun n hn => hw n (by
      rw [hy]
      simp only [DataW.weights, Tryz.underlying45]
      refine DataW.weights_mem_each (j := 6) (t := 40) (d := (xs[6]).1) rfl ?_ n hn
      rw [List.getElem?_map, List.getElem?_eq_getElem (by omega)]; rfl)
    obtain ⟨fk, ff, fv, hfr, hfi⟩ := frame_of f6 hw6
    simp only [List.cons.injEq, and_true] at hfr
    obtain ⟨h6, h7, h8⟩ := hfr
    exact ⟨kd, x, y, z, fun j => [c4, c5, c6, c7, c8, c9, c10, c11, c12, c13].getD j undef, ⟨⟨k0, k1, k2, k3, list_of f4 hw4⟩, str_of f5 hw5, ⟨fk, ff, h6, h7⟩, by show ItemsIs w c8; rw [h8]; exact hfi⟩, rfl⟩

theorem scr_of2 {n : Nat} {a : Option Addr} {len cap : Nat} {y : DataW H × List MemPlace} (h : DataW.trod enc Tryz.prog w 0 spare held n 22 [.slice a len cap] = some y) (hw : ∀ n ∈ y.1.weights Tryz.prog 22, n ≤ reachBytes) : Scr2 w a len := by
  rcases open_slice Tryz.underlying22 h with ⟨hcs, _⟩ | ⟨x, l, c, m, n', D, Pl, hcs, _, hl, hm, hmm, hy, hx⟩
  · simp at hcs
    obtain ⟨rfl, rfl, rfl⟩ := hcs
    exact ⟨by omega, .inl rfl⟩
  · simp at hcs
    obtain ⟨rfl, rfl, rfl⟩ := hcs
    have hbytes := hw _ (by rw [hy]; simp only [DataW.weights, Tryz.underlying22]; exact List.mem_cons_self)
    rw [bytesOp] at hbytes
    simp only [List.length_map, List.length_range, reachBytes] at hbytes
    refine ⟨by omega, ?_⟩
    rcases Nat.eq_zero_or_pos len with h0 | h0
    · exact .inl h0
    · right
      have hlm : len ≤ m := by rw [hmm]; split <;> omega
      rw [cellsOp] at hx
      obtain ⟨b, off, spot⟩ := x
      obtain ⟨cs0, g1, g2⟩ := hx 0 (by omega)
      obtain ⟨_, l0, q0⟩ := World.cells?_some g1
      have q00 := q0 0 (by omega)
      rw [List.getElem?_eq_getElem (by omega)] at q00
      have hspot : spot = none := by simpa [Addr.add] using World.cell?_spot q00
      subst hspot
      refine ⟨b, off, rfl, by simpa [Addr.add] using cell_block q00, fun i hi => ?_⟩
      obtain ⟨cs, e1, e2⟩ := hx i (by omega)
      obtain ⟨_, e3, e4⟩ := World.cells?_some e1
      obtain ⟨kd, x, y', z, r, ho, hcs⟩ := op_of2 e2 (fun n hn => hw n (by
        rw [hy]; simp only [DataW.weights, Tryz.underlying22]
        refine List.mem_cons_of_mem _ (List.mem_append.2 (.inl (mem_all (List.mem_map.2 ⟨i, List.mem_range.2 hi, rfl⟩) n hn)))))
      refine ⟨kd, x, y', z, r, ho, fun j hj => ?_⟩
      have e5 := e4 j hj
      rw [List.getElem?_eq_getElem (by omega)] at e5
      rw [← hcs, List.getD_eq_getElem?_getD, List.getElem?_eq_getElem (by omega), Option.getD_some, ← e5, Deep.add_add]
      unfold Addr.add
      by_cases hz : i * 14 + j = 0
      · rw [if_pos hz, show off + i * 14 + j = off by omega]
      · rw [if_neg hz, show off + i * 14 + j = off + (i * 14 + j) by omega]

end

set_option maxHeartbeats 1000000 in
set_option maxRecDepth 100000 in
theorem plays_any2 (lo hi : Int) (a : Option Addr) (len cap : Nat) (w : World) (hs : Scr2 w a len) (J : Nat → World → Prop)
    (h0 : J 0 (w.alloc (.cells #[.slice none 0 0, .slice none 0 0, .slice none 0 0, .slice none 0 0, .slice none 0 0, .slice none 0 0, .slice none 0 0, .slice none 0 0, .slice none 0 0, .slice none 0 0, .slice none 0 0, .slice none 0 0, .slice none 0 0, .slice none 0 0, .slice none 0 0, .int .i64 0] 37)))
    (hB : ∀ k wr, J k wr → Below w.heap.size w wr)
    (hskip : ∀ k wr, J k wr → J (k + 1) wr)
    (hstep : ∀ k wr kd x y z r, k < len → J k wr → lo ≤ kd → kd ≤ hi → OpIs2 w kd x y z r → Calls Tryz.prog 9 #[.pointer (some ⟨w.heap.size, 0, none⟩), .agg #[.int .i64 kd, .int .i64 x, .int .i64 y, .int .i64 z, r 0, r 1, r 2, r 3, r 4, r 5, r 6, r 7, r 8, r 9]] wr fun e w' => e = .returned (.bool true) ∧ J (k + 1) w')
    (hend : ∀ wr, J len wr → Calls Tryz.prog 10 #[.pointer (some ⟨w.heap.size, 0, none⟩)] wr fun e w' => e = .returned (.bool true) ∧ J len w')
    (hlook : ∀ wr, J len wr → Calls Tryz.prog 11 #[.pointer (some ⟨w.heap.size, 0, none⟩)] wr fun e w' => e = .returned (.bool true) ∧ Below w.heap.size w w') :
    Calls Tryz.prog 8 #[.slice a len cap, .int .i64 lo, .int .i64 hi] w fun e w' => e = .returned (.bool true) ∧ Below w.heap.size w w' := by
  obtain ⟨hl, hs⟩ := hs
  have HS := hideH hs
  have H0 := hideH h0
  have HB := hideH hB
  have HK := hideH hskip
  have HT := hideH hstep
  have HE := hideH hend
  have HL := hideH hlook
  clear hs h0 hB hskip hstep hend hlook
  go_enter Tryz.func8, Tryz.ntmps8
  go_wp2_with fail
  go_loopw [8] (fun i wr => ∃ k : Nat, k ≤ len ∧ i = .int .i64 k ∧ J k wr) (fun i _ => len - (intOf i).toNat)
  case atStart => exact ⟨0, Nat.zero_le _, rfl, H0.out⟩
  case round =>
    obtain ⟨k, hk, rfl, hj⟩ := hrel
    have HJ := hideH hj
    clear hj
    by_cases hlt : k < len
    · obtain ⟨b, off, rfl, hblk, hops⟩ : ∃ b off, a = some ⟨b, off, none⟩ ∧ b < w.heap.size ∧ ∀ i, i < len → ∃ kd x y z r, OpIs2 w kd x y z r ∧
          ∀ j, j < 14 → w.cell? ⟨b, off + i * 14 + j, none⟩ = some ((opCells kd x y z r).getD j undef) := by
        rcases HS.out with h | h
        · omega
        · exact h
      obtain ⟨kd, x, y, z, r, hop, hc0⟩ := hops k hlt
      have HOP := hideH hop
      have hc : ∀ j, j < 14 → wr.cell? ⟨b, off + k * 14 + j, none⟩ = some ((opCells kd x y z r).getD j undef) := fun j hj => by
        rw [(HB.out _ _ HJ.out).cell (p := ⟨b, off + k * 14 + j, none⟩) hblk]; exact hc0 j hj
      clear hc0 hops hop HS
      have c0 := hc 0 (by omega)
      have c1 := hc 1 (by omega)
      have c2 := hc 2 (by omega)
      have c3 := hc 3 (by omega)
      have c4 := hc 4 (by omega)
      have c5 := hc 5 (by omega)
      have c6 := hc 6 (by omega)
      have c7 := hc 7 (by omega)
      have c8 := hc 8 (by omega)
      have c9 := hc 9 (by omega)
      have c10 := hc 10 (by omega)
      have c11 := hc 11 (by omega)
      have c12 := hc 12 (by omega)
      have c13 := hc 13 (by omega)
      simp only [opCells, List.getD_cons_zero, List.getD_cons_succ, Nat.add_zero] at c0 c1 c2 c3 c4 c5 c6 c7 c8 c9 c10 c11 c12 c13
      clear hc
      by_cases k1 : lo ≤ kd
      · by_cases k2 : kd ≤ hi
        · go_wp2_with fail
          refine (HT.out k _ kd x y z r hlt HJ.out k1 k2 HOP.out).mono ?_
          rintro e w' ⟨rfl, hj2⟩
          have HJ2 := hideH hj2
          clear hj2
          go_wp2_with fail
          go_roundw
          case rel => exact ⟨k + 1, by omega, by go_num, HJ2.out⟩
          case measure => simp [intOf]; omega
        · go_wp2_with fail
          go_roundw
          case rel => exact ⟨k + 1, by omega, by go_num, HK.out _ _ HJ.out⟩
          case measure => simp [intOf]; omega
      · go_wp2_with fail
        go_roundw
        case rel => exact ⟨k + 1, by omega, by go_num, HK.out _ _ HJ.out⟩
        case measure => simp [intOf]; omega
    · have ek : k = len := by omega
      subst ek
      go_wp2_with fail
      refine (HE.out _ HJ.out).mono ?_
      rintro e w' ⟨rfl, hj2⟩
      have HJ2 := hideH hj2
      clear hj2
      go_wp2_with fail
      refine (HL.out _ HJ2.out).mono ?_
      rintro e w' ⟨rfl, hb⟩
      have HBB := hideH hb
      clear hb
      go_wp2_with fail
      go_ret
      exact ⟨rfl, HBB.out⟩

end Go.Proofs.YtchideljndagjaaGreat
