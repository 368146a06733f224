/- Lists of items that are handed in: giveItems and stillItems; two lists of items compared. -/
import Derived.Test.YtchideljndagjaaGreatPkClAW
import Derived.Test.YtchideljndagjaaGreatPkClAE
import Derived.Test.YtchideljndagjaaGreatPkClAB
import Derived.Test.YtchideljndagjaaGreatPkClAI
import Derived.Lib.BufferWrite
namespace Go.Proofs.YtchideljndagjaaGreat
open Go.RowKit
set_option linter.unusedVariables false

abbrev z4 : Frm.It := (0, 0, 0, 0)
abbrev m4 : Frm.It := (77, 77, 77, 77)

/-- An item is like itself. -/
theorem sameItem_same (x y z u : Int) (w : World) :
    Calls Tryz.prog 100 #[.agg #[.int .i64 x, .int .i64 y, .int .i64 z, .int .i64 u], .agg #[.int .i64 x, .int .i64 y, .int .i64 z, .int .i64 u]] w fun e w' => e = .returned (.bool true) ∧ Below w.heap.size w w' := by
  have e0 : (x == x) = true := by simp
  have e1 : (y == y) = true := by simp
  have e2 : (z == z) = true := by simp
  have e3 : (u == u) = true := by simp
  go_enter Tryz.func100, Tryz.ntmps100
  go_wp2_with fail
  go_ret
  exact ⟨rfl, ((Below.refl _ _).alloc (Nat.le_refl _) _).alloc (by simp) _⟩

set_option maxHeartbeats 1000000 in
set_option maxRecDepth 100000 in
theorem sameItems_same (va vb : Value) (l : List Frm.It) (w : World) (ha : ItemsAt w va l) (hb : ItemsAt w vb l) :
    Calls Tryz.prog 44 #[va, vb] w fun e w' => e = .returned (.bool true) ∧ Below w.heap.size w w' := by
  obtain ⟨a, ca, rfl, a2, a3, _, hA⟩ := items_view ha
  obtain ⟨b, cb, rfl, b2, b3, _, hB⟩ := items_view hb
  have HA := hideG hA
  have HB := hideG hB
  clear hA hB ha hb
  have el : ((l.length : Int) != (l.length : Int)) = false := by simp
  generalize hn : l.length = n at *
  clear hn
  go_enter Tryz.func44, Tryz.ntmps44
  go_wp2_with fail
  go_loopw [5] (fun i wr => ∃ k : Nat, k ≤ n ∧ i = .int .i64 k ∧ Below w.heap.size w wr) (fun i _ => n - (intOf i).toNat)
  case atStart => exact ⟨0, by omega, rfl, Below.refl _ _⟩
  case round =>
    obtain ⟨k, hk, rfl, hbel⟩ := hrel
    have BL := hideG hbel
    have hsz := hbel.size
    by_cases hlt : k < n
    · obtain ⟨g1, o1, rfl, l1, i1⟩ := HA.out k hlt
      obtain ⟨g2, o2, rfl, l2, i2⟩ := HB.out k hlt
      obtain ⟨p0, p1, p2, p3⟩ := i1.below l1 hbel
      obtain ⟨q0, q1, q2, q3⟩ := i2.below l2 hbel
      have l1' : g1 < wr.heap.size := by omega
      have l2' : g2 < wr.heap.size := by omega
      generalize (Frm.it l k).1 = z0 at *
      generalize (Frm.it l k).2.1 = z1 at *
      generalize (Frm.it l k).2.2.1 = z2 at *
      generalize (Frm.it l k).2.2.2 = z3 at *
      have hk0 : (0 : Int) ≤ (k : Int) := by omega
      have hk1 : (k : Int) < (n : Int) := by omega
      clear hbel i1 i2
      go_wp2_with fail
      refine wp_region_grow (by kernel_rfl) (by kernel_rfl) ?_
      intro I G hI hG hGc hGn
      repeat (go_big_quiet_step (first | (go_at_call 100; exact call_grow hG hGn (sameItem_same _ _ _ _ _))))
      refine wpQuiet_nil ?_
      intro w2 hw'
      obtain ⟨u, hw''⟩ := hw'
      have hw1 := hG.out u
      rw [← hw''] at hw1
      have B2 := hideG hw1
      clear hw'' hGc hGn hG u hI G I hw1
      go_wp2_with fail
      go_roundw
      case rel => exact ⟨k + 1, by omega, by go_num, BL.out.trans (B2.out.mono hsz)⟩
      case measure => simp [intOf]; omega
    · clear hbel
      go_wp2_with fail
      go_ret
      exact ⟨rfl, BL.out⟩

end Go.Proofs.YtchideljndagjaaGreat

namespace Go.Proofs.YtchideljndagjaaGreat
open Go.RowKit
set_option linter.unusedVariables false

theorem infoGb : (Tryz.prog.info? 5).map (fun i => (i.zero, i.size, i.bytes)) = some (some (.int .u8 0), 1, 1) := by kernel_rfl
theorem sizeGb : (Tryz.prog.info? 5).map (·.size) = some 1 := by kernel_rfl

theorem wpList_copy_str {P : Program} {w : World} {ops : Array Oper} {rest : List Oper} {o : Oper} {a : Act} {Q : Exit → Act → World → Prop} (hgd : o.guard = none) (d s : Operand) (dT sT : TypeId)
    (ho : o.op = .call { callee := .builtin .copy, args := #[d, s], argTypes := #[dT, sT] }) (elem : TypeId) (hu : P.underlying dT = some (.slice elem)) (hsz : (P.info? elem).map (·.size) = some 1)
    (g dLen dCap : Nat) (str : ByteArray) (hd : a.eval d = .slice (some ⟨g, 0, none⟩) dLen dCap) (hs : a.eval s = .string str)
    (cur : List Value) (t : TypeId) (hg : w.heap[g]? = some (.cells cur.toArray t (0, 0))) (hle : str.size ≤ dLen) (hfit : str.size ≤ cur.length) (B : Nat) (w0 : World) (hb : Below B w0 w) (hBg : B ≤ g)
    (h : ∀ w', Hid (w'.heap[g]? = some (.cells ((bl str).map (Value.int .u8) ++ cur.drop str.size).toArray t (0, 0))) → Below B w0 w' → wpList P ops Q rest (a.put o.dst (goInt str.size)) w') :
    wpList P ops Q (o :: rest) a w := by
  refine wpList_plain hgd fun K hK => ?_
  have hrun := Lib.run_copy_row_string (P := P) w dT sT o.type elem g 0 dLen dCap str cur.toArray t hu hsz hg hle (by simpa using hfit)
  unfold Oper.wp
  simp only [execOp, ho, resolve, invoke, builtin]
  simp [hd, hs, hrun, Result.andThen]
  refine hK _ _ (h _ ?_ (below_setRow hb hBg _))
  show _ = _
  rw [setRow_heap w g _ _ t _ hg]
  have e : Lib.byteCells str.data.toList = (bl str).map (Value.int .u8) := by
    unfold bl; rw [List.map_map]; rfl
  simp [e]

/-- The bytes, and behind them k marks and what is left of three noughts. -/
def bgiven (zs : List Int) (k : Nat) : List Value := zs.map (Value.int .u8) ++ (List.replicate k (.int .u8 77) ++ List.replicate (3 - k) (.int .u8 0))

theorem bgiven_length (zs : List Int) (k : Nat) (hk : k ≤ 3) : (bgiven zs k).length = zs.length + 3 := by simp [bgiven]; omega

theorem bgiven_set (zs : List Int) (k : Nat) (hk : k < 3) : (bgiven zs k).set (zs.length + k) (.int .u8 77) = bgiven zs (k + 1) := by
  unfold bgiven
  rw [List.set_append_right _ _ (by simp)]
  simp only [List.length_map, Nat.add_sub_cancel_left]
  rcases (show k = 0 ∨ k = 1 ∨ k = 2 by omega) with rfl | rfl | rfl <;> rfl

set_option maxHeartbeats 1000000 in
set_option maxRecDepth 100000 in
theorem giveBytes_calls (s : ByteArray) (w : World) (hb : s.size ≤ 140737488351232) :
    Calls Tryz.prog 41 #[.string s] w fun e w' => ∃ g, w.heap.size ≤ g ∧ e = .returned (.slice (some ⟨g, 0, none⟩) s.size (s.size + 3)) ∧
      w'.heap[g]? = some (.cells (bgiven (bl s) 3).toArray 5 (0, 0)) ∧ Below w.heap.size w w' := by
  obtain ⟨i0, hi, hz0, hz1, hz2⟩ := info_parts infoGb
  have HN := hideG (bl_length s)
  obtain ⟨n, hn⟩ : ∃ n, n = s.size := ⟨_, rfl⟩
  have hn' : s.size = n := hn.symm
  rw [hn'] at HN
  rw [hn'] at hb
  rw [hn']
  clear hn
  have en : ((n : Int) + 3).toNat = n + 3 := by omega
  go_enter Tryz.func41, Tryz.ntmps41
  go_wp2_with (at_make; refine wpList_make_full _ rfl _ _ 67 rfl w.heap.size 5 i0 (.int .u8 0) 1 Tryz.underlying67 hi hz0 hz1 _ _ _ _ (n + 3) rfl rfl (by omega) (by omega) ?m1 ?m2 ?m3 ?_)
  case m1 => rw [hz2]; omega
  case m2 => unfold maxLen; omega
  case m3 => exact Nat.le_refl _
  intro w2 hown2 hgrow2
  have hr := row_of_full hown2
  have hb2 : Below w.heap.size w w2 := (Below.refl _ _).grown hgrow2 (Nat.le_refl _) (by simp)
  rw [toList_madeCells_one] at hr
  have HR := hideG hr
  have HB := hideG hb2
  clear hr hb2 hown2 hgrow2
  generalize hg : w.heap.size = B at *
  have HG := hideG hg
  go_wp2_with (refine wpList_copy_str rfl _ _ 67 9 rfl 5 Tryz.underlying67 sizeGb B _ _ s rfl rfl _ 5 HR.out ?c1 ?c2 B w HB.out (Nat.le_refl _) ?_)
  case c1 => omega
  case c2 => simp; omega
  intro w3 HR3 hb3
  have HB3 := hideG hb3
  clear hb3
  have hr3 : w3.heap[B]? = some (.cells (bgiven (bl s) 0).toArray 5 (0, 0)) := HR3.out
  have HR3' := hideG hr3
  clear hr3 HR3
  go_wp2_with fail
  go_loopw [4] (fun i wr => ∃ j : Nat, n ≤ j ∧ j ≤ n + 3 ∧ i = .int .i64 j ∧ wr.heap[B]? = some (.cells (bgiven (bl s) (j - n)).toArray 5 (0, 0)) ∧ Below B w wr) (fun i _ => n + 3 - (intOf i).toNat)
  case atStart => exact ⟨n, Nat.le_refl _, by omega, rfl, by rw [Nat.sub_self]; exact HR3'.out, HB3.out⟩
  case round =>
    obtain ⟨j, hj1, hj2, rfl, hr, hbel⟩ := hrel
    have HR4 := hideG hr
    have HB4 := hideG hbel
    by_cases hlt : j < n + 3
    · obtain ⟨c1, c2⟩ := row_cell hr j (by rw [bgiven_length _ _ (by omega), HN.out]; exact hlt)
      obtain ⟨u, hu⟩ : ∃ u, (bgiven (bl s) (j - n))[j]? = some u := ⟨_, List.getElem?_eq_getElem (by rw [bgiven_length _ _ (by omega), HN.out]; exact hlt)⟩
      rw [hu] at c1
      clear hr hbel hu
      go_wp2_with fail
      go_roundw
      case rel =>
        have R := row_set HR4.out j (.int .u8 77)
        have e := bgiven_set (bl s) (j - n) (by omega)
        rw [HN.out, show n + (j - n) = j by omega, show j - n + 1 = j + 1 - n by omega] at e
        rw [e] at R
        exact ⟨j + 1, by omega, by omega, by go_num, R, HB4.out.setCell (p := ⟨B, j, none⟩) (Nat.le_refl _) _⟩
      case measure => simp [intOf]; omega
    · have ej : j = n + 3 := by omega
      subst ej
      clear hr hbel
      go_wp2_with fail
      go_ret
      have R := HR4.out
      rw [Nat.add_sub_cancel_left] at R
      exact ⟨B, by rw [HG.out]; exact Nat.le_refl _, rfl, R, by rw [HG.out]; exact HB4.out⟩

theorem bgiven_bytes {w : World} {g : Nat} {s : ByteArray} (hg : w.heap[g]? = some (.cells (bgiven (bl s) 3).toArray 5 (0, 0))) (hb : s.size ≤ 140737488351232) :
    BytesAt w (.slice (some ⟨g, 0, none⟩) s.size (s.size + 3)) (bl s) := by
  refine ⟨_, _, by rw [bl_length], by rw [bl_length]; omega, by unfold maxLen; omega, bl_isB s, .inr ⟨g, 0, rfl, ?_, fun i hi => ?_⟩⟩
  · by_cases h : g < w.heap.size
    · exact h
    · rw [Array.getElem?_eq_none (by omega)] at hg; cases hg
  · rw [Nat.zero_add, (row_cell hg i (by rw [bgiven_length _ _ (Nat.le_refl _)]; omega)).1]
    unfold bgiven Frm.bAt
    rw [List.getElem?_append_left (by simpa using hi), List.getElem?_map, List.getElem?_eq_getElem hi, List.getD_eq_getElem?_getD, List.getElem?_eq_getElem hi]; rfl

theorem index_str (s : ByteArray) (k : Nat) (hk : k < s.size) (w : World) : (Instr.index 9 (.string s) (.int .i64 (k : Int))).run Tryz.prog w = .ok (.int .u8 (Frm.bAt (bl s) k)) w := by
  have hi : 0 ≤ (k : Int) ∧ (k : Int) < s.size := ⟨by omega, by omega⟩
  rw [run_index_string w 9 s .i64 (k : Int) Tryz.underlying9, dif_pos hi]
  have hk' : k < s.data.size := hk
  congr 2
  unfold Frm.bAt bl
  rw [List.getD_eq_getElem?_getD, List.getElem?_map, Array.getElem?_toList, Array.getElem?_eq_getElem hk']
  rfl

set_option maxHeartbeats 1000000 in
set_option maxRecDepth 100000 in
/-- Bytes that were handed in are as they were. -/
theorem stillBytes_calls (s : ByteArray) (w : World) (g : Nat) (hb : s.size ≤ 140737488351232) (hg : w.heap[g]? = some (.cells (bgiven (bl s) 3).toArray 5 (0, 0))) :
    Calls Tryz.prog 45 #[.slice (some ⟨g, 0, none⟩) s.size (s.size + 3), .string s] w fun e w' => e = .returned (.bool true) ∧ ∃ nq, w' = w.drewN nq := by
  have hcell : ∀ i, i < s.size + 3 → w.cell? ⟨g, i, none⟩ = some (.int .u8 (if i < s.size then Frm.bAt (bl s) i else 77)) := by
    intro i hi
    have hl := bl_length s
    rw [(row_cell hg i (by rw [bgiven_length _ _ (Nat.le_refl _)]; omega)).1]
    unfold bgiven Frm.bAt
    by_cases h1 : i < s.size
    · rw [if_pos h1, List.getElem?_append_left (by simp; omega), List.getElem?_map, List.getElem?_eq_getElem (by omega), List.getD_eq_getElem?_getD, List.getElem?_eq_getElem (by omega)]; rfl
    · rw [if_neg h1, List.getElem?_append_right (by simp; omega)]
      rw [List.getElem?_append_left (by simp; omega), List.getElem?_replicate, if_pos (by simp; omega)]
  have HC := hideG hcell
  have HIX := hideG (fun k hk W => index_str s k hk W)
  clear hcell hg
  obtain ⟨n, hn⟩ : ∃ n, n = s.size := ⟨_, rfl⟩
  have hn' : s.size = n := hn.symm
  rw [hn'] at hb HC HIX
  rw [hn']
  clear hn
  have en : ((n : Int) + 3).toNat = n + 3 := by omega
  go_enter Tryz.func45, Tryz.ntmps45
  go_wp2_with fail
  go_loopw [6] (fun i wr => ∃ k nq : Nat, k ≤ n + 3 ∧ i = .int .i64 k ∧ wr = w.drewN nq) (fun i _ => n + 3 - (intOf i).toNat)
  case atStart => exact ⟨0, 0, by omega, rfl, rfl⟩
  case round =>
    obtain ⟨k, nq, hk, rfl, rfl⟩ := hrel
    by_cases hlt : k < n + 3
    · have c1 := HC.out k hlt
      by_cases hlt2 : k < n
      · rw [if_pos hlt2] at c1
        have hix := HIX.out k hlt2
        generalize Frm.bAt (bl s) k = z at *
        have ez : (z != z) = false := by simp
        have hk0 : (0 : Int) ≤ (k : Int) := by omega
        have hk1 : (k : Int) < (n : Int) := by omega
        have hk2 : (k : Int) < (n : Int) + 3 := by omega
        have hd : decide (n ≤ k) = false := by simp; omega
        go_wp2_with fail
        go_quiet (fail)
        go_wp2_with fail
        go_roundw
        case rel => exact ⟨k + 1, _, by omega, by go_num, rfl⟩
        case measure => simp [intOf]; omega
      · rw [if_neg hlt2] at c1
        have hk0 : (0 : Int) ≤ (k : Int) := by omega
        have hk1 : ¬ ((k : Int) < (n : Int)) := by omega
        have hk2 : (k : Int) < (n : Int) + 3 := by omega
        have hk3 : (n : Int) ≤ (k : Int) := by omega
        have hd : decide (n ≤ k) = true := by simp; omega
        have hd2 : decide (k < n) = false := by simp; omega
        go_wp2_with fail
        go_quiet (fail)
        go_wp2_with fail
        go_roundw
        case rel => exact ⟨k + 1, _, by omega, by go_num, rfl⟩
        case measure => simp [intOf]; omega
    · go_wp2_with fail
      go_ret
      exact ⟨rfl, nq, rfl⟩

end Go.Proofs.YtchideljndagjaaGreat

namespace Go.Proofs.YtchideljndagjaaGreat
open Go.ChangeShapes Go.WideShapes Go.ChangeAt Go.RowKit
set_option linter.unusedVariables false

theorem infoBL : (Tryz.prog.info? 67).map (fun i => (i.zero, i.size, i.bytes)) = some (some (.slice none 0 0), 1, 24) := by kernel_rfl
theorem infoIL : (Tryz.prog.info? 38).map (fun i => (i.zero, i.size, i.bytes)) = some (some (.slice none 0 0), 1, 24) := by kernel_rfl

theorem owCells_bytes (b : Option Nat) (n : Nat) (m : Int) : owCells (cat 1) (b, n, m) = List.replicate n (.int .u8 m) := by
  show (List.replicate n [Value.int .u8 m]).flatten = _
  induction n with
  | zero => rfl
  | succ n ih => rw [List.replicate_succ, List.flatten_cons, ih, List.replicate_succ]; rfl

theorem filled_end1 {w wr : World} {g : Nat} {e : TypeId} {n : Nat} {m : Int} (h : Filled w g e n (.int .u8 m) n wr) : wr.heap[g]? = some (.cells (owCells (cat 1) (some g, n, m)).toArray e (0, 0)) := by
  obtain ⟨_, cur, h1, h2, h3⟩ := h
  rw [h1]
  have e1 := owCells_bytes (some g) n m
  rw [e1]
  congr 2
  apply Array.ext_getElem?
  intro i
  by_cases hi : i < n
  · rw [h3 i hi]; simp [hi]
  · rw [Array.getElem?_eq_none (by omega), Array.getElem?_eq_none (by simp; omega)]

/-- Row g, items: the first k are written full; nothing else has turned. -/
def Filled4 (w : World) (g : Nat) (n : Nat) (m : Int) (k : Nat) (wr : World) : Prop :=
  Chg (fun b => b = g) w wr ∧ ∃ cur : Array Value, wr.heap[g]? = some (.cells cur 142 (0, 0)) ∧ cur.size = n * 4 ∧ ∀ i, i < k * 4 → cur[i]? = some (.int .i64 m)

theorem filled4_start {w : World} {g : Nat} {n : Nat} {m : Int} {cur : Array Value} (h : w.heap[g]? = some (.cells cur 142 (0, 0))) (hs : cur.size = n * 4) : Filled4 w g n m 0 w :=
  ⟨Chg.refl _ _, cur, h, hs, fun i hi => by omega⟩

theorem filled4_cell {w wr : World} {g : Nat} {n : Nat} {m : Int} {k : Nat} (h : Filled4 w g n m k wr) (j : Nat) (hj : j < n) :
    (∃ v, wr.cell? ⟨g, j * 4, none⟩ = some v) ∧ wr.frozen? ⟨g, j * 4, none⟩ = false ∧ (∃ v, wr.cell? ⟨g, j * 4 + 1, none⟩ = some v) ∧ wr.frozen? ⟨g, j * 4 + 1, none⟩ = false ∧
    (∃ v, wr.cell? ⟨g, j * 4 + 2, none⟩ = some v) ∧ wr.frozen? ⟨g, j * 4 + 2, none⟩ = false ∧ (∃ v, wr.cell? ⟨g, j * 4 + 3, none⟩ = some v) ∧ wr.frozen? ⟨g, j * 4 + 3, none⟩ = false := by
  obtain ⟨_, cur, h1, h2, _⟩ := h
  have key : ∀ o, o < n * 4 → (∃ v, wr.cell? ⟨g, o, none⟩ = some v) ∧ wr.frozen? ⟨g, o, none⟩ = false := fun o ho =>
    ⟨⟨cur[o]'(by omega), by simp only [World.cell?, h1]; simp [h2, ho]⟩, by simp [World.frozen?, h1]⟩
  have k0 := key (j * 4) (by omega)
  have k1 := key (j * 4 + 1) (by omega)
  have k2 := key (j * 4 + 2) (by omega)
  have k3 := key (j * 4 + 3) (by omega)
  exact ⟨k0.1, k0.2, k1.1, k1.2, k2.1, k2.2, k3.1, k3.2⟩

theorem filled4_next {w wr : World} {g : Nat} {n : Nat} {m : Int} {k : Nat} (h : Filled4 w g n m k wr) (hk : k < n) : Filled4 w g n m (k + 1) ((((wr.setCell ⟨g, k * 4, none⟩ (.int .i64 m)).setCell ⟨g, k * 4 + 1, none⟩ (.int .i64 m)).setCell ⟨g, k * 4 + 2, none⟩ (.int .i64 m)).setCell ⟨g, k * 4 + 3, none⟩ (.int .i64 m)) := by
  obtain ⟨h0, cur, h1, h2, h3⟩ := h
  have e1 := heap_setCell_same wr g (k * 4) cur 142 (.int .i64 m) h1
  have e2 := heap_setCell_same _ g (k * 4 + 1) _ 142 (.int .i64 m) e1
  have e3 := heap_setCell_same _ g (k * 4 + 2) _ 142 (.int .i64 m) e2
  have e4 := heap_setCell_same _ g (k * 4 + 3) _ 142 (.int .i64 m) e3
  refine ⟨(((h0.trans (Chg.setCell _ _ _) (fun x e _ => e)).trans (Chg.setCell _ _ _) (fun x e _ => e)).trans (Chg.setCell _ _ _) (fun x e _ => e)).trans (Chg.setCell _ _ _) (fun x e _ => e), _, e4, by simp [h2], fun i hi => ?_⟩
  rw [Array.getElem?_setIfInBounds, Array.getElem?_setIfInBounds, Array.getElem?_setIfInBounds, Array.getElem?_setIfInBounds]
  by_cases q3 : k * 4 + 3 = i
  · rw [if_pos q3, if_pos (by simp; omega)]
  rw [if_neg q3]
  by_cases q2 : k * 4 + 2 = i
  · rw [if_pos q2, if_pos (by simp; omega)]
  rw [if_neg q2]
  by_cases q1 : k * 4 + 1 = i
  · rw [if_pos q1, if_pos (by simp; omega)]
  rw [if_neg q1]
  by_cases q0 : k * 4 = i
  · rw [if_pos q0, if_pos (by omega)]
  rw [if_neg q0]
  exact h3 i (by omega)

theorem owCells_items (b : Option Nat) (n : Nat) (m : Int) : owCells (cat 2) (b, n, m) = List.replicate (n * 4) (.int .i64 m) := by
  induction n with
  | zero => rfl
  | succ n ih =>
    unfold owCells at ih ⊢
    rw [List.replicate_succ, List.flatten_cons, ih, show (n + 1) * 4 = n * 4 + 1 + 1 + 1 + 1 by omega, List.replicate_succ, List.replicate_succ, List.replicate_succ, List.replicate_succ]
    rfl

theorem filled4_end {w wr : World} {g : Nat} {n : Nat} {m : Int} (h : Filled4 w g n m n wr) : wr.heap[g]? = some (.cells (owCells (cat 2) (some g, n, m)).toArray 142 (0, 0)) := by
  obtain ⟨_, cur, h1, h2, h3⟩ := h
  rw [h1, owCells_items]
  congr 2
  apply Array.ext_getElem?
  intro i
  by_cases hi : i < n * 4
  · rw [h3 i hi]; simp [hi]
  · rw [Array.getElem?_eq_none (by omega), Array.getElem?_eq_none (by simp; omega)]

set_option maxHeartbeats 1000000 in
set_option maxRecDepth 100000 in
theorem ownBytes_calls (pw : Nat) (F : Nat → Value) (nx : Int) (ls : Nat → List Ow) (g n cap : Nat) (cur : Array Value) (w : World) (h : InvW w pw F nx ls) (h0 : 0 ≤ nx) (h1 : nx ≤ 1000000000000000000)
    (hlen : ((ls 1).length + 1) * 24 ≤ 140737488355328) (hg : w.heap[g]? = some (.cells cur 5 (0, 0))) (hcs : cur.size = cap) (hnc : n ≤ cap) (hcm : cap ≤ maxLen) (hpg : pw < g) (hfoot : ¬ Foot F ls g) :
    Calls Tryz.prog 40 #[.pointer (some ⟨pw, 0, none⟩), .slice (some ⟨g, 0, none⟩) n cap] w fun e w' => e = .returned (.tuple #[]) ∧ ∃ F', InvW w' pw F' (nx + 1) (updL ls 1 (ls 1 ++ [(some g, cap, mkN nx)])) ∧
      (∀ b, b < w.heap.size → g ≠ b → ¬ Foot F ls b → ¬ Foot F' (updL ls 1 (ls 1 ++ [(some g, cap, mkN nx)])) b) ∧ (∀ j, j < 3 → F' j = F j) ∧
      Chg (fun b => b = pw ∨ g = b ∨ Foot F ls b) w w' := by
  obtain ⟨i0, hi, hz0, hz1, hz2⟩ := info_parts infoI
  obtain ⟨i1, hi1, hy0, hy1, hy2⟩ := info_parts infoBL
  unfold maxLen at hcm
  have m1 := mkN_lo nx
  have m2 := mkN_hi nx
  have hgl : g < w.heap.size := by
    by_cases hb : g < w.heap.size
    · exact hb
    · rw [Array.getElem?_eq_none (by omega)] at hg; cases hg
  have hpl := h.pw_lt
  have HI := hideG h
  have HF := hideG hfoot
  have HG := hideG hg
  have HC := hideG hcs
  clear h hfoot hg hcs
  go_enter Tryz.func40, Tryz.ntmps40
  go_wp2_with fail
  refine (mark_calls pw F nx ls _ HI.out h0 h1).mono ?_
  rintro e w1 ⟨rfl, hw1⟩
  have g1 : w1.heap[g]? = some (.cells cur 5 (0, 0)) := by rw [hw1, Below.heap_setCell _ _ _ _ (by simp; omega)]; exact HG.out
  have W1 := hideG hw1
  have G1 := hideG g1
  clear hw1 g1
  generalize hm : mkN nx = m at *
  have HM := hideG hm
  clear hm
  go_wp2_with fail
  go_loopw [6] (fun i wr => ∃ k : Nat, k ≤ cap ∧ i = .int .i64 k ∧ Filled w1 g 5 cap (.int .u8 m) k wr) (fun i _ => cap - (intOf i).toNat)
  case atStart => exact ⟨0, by omega, rfl, filled_start G1.out HC.out⟩
  case round =>
    obtain ⟨k, hk, rfl, hfill⟩ := hrel
    have FI := hideG hfill
    by_cases hlt : k < cap
    · obtain ⟨⟨v, c1⟩, c2⟩ := filled_cell hfill k hlt
      clear hfill
      go_wp2_with fail
      go_roundw
      case rel => exact ⟨k + 1, by omega, by go_num, filled_next FI.out hlt⟩
      case measure => simp [intOf]; omega
    · have ek : k = cap := by omega
      subst ek
      clear hfill
      have k2 := FI.out.1.mono (S' := fun b => ((some g, k, m) : Ow).1 = some b) (fun b e _ => by rw [e])
      have K2 := hideG k2
      obtain ⟨a1, a2, a3, a4, a5⟩ := own_mid1 HI.out 1 (by omega) W1.out k2 (fun x e => by cases e; exact ⟨HF.out, hpg⟩)
      obtain ⟨c3, c3f⟩ := cell_f a1 4 (by omega)
      rw [upd_other _ _ (by omega)] at c3
      have A1 := hideG a1
      have A2 := hideG a2
      have A3 := hideG a3
      clear a1 a2 a3 a5 k2
      go_wp2_with (at_builtin; refine wpList_append_one _ rfl _ _ 30 rfl (pw + 1) 67 i1 (.slice none 0 0) 24 Tryz.underlying30 hi1 hy0 hy1 hy2 rfl (F 4) (ls 1).length ((ls 1).map owVal) rfl (A2.out.alloc _) ⟨wr.heap.size, 0, none⟩ 1 (.slice (some ⟨g, 0, none⟩) k k) rfl (by simp [go_sem]) rfl (by unfold maxLen; omega) hlen (by simp; omega) ?_)
      intro g3 cap3 w3 ho3 hg3 hv3
      obtain ⟨p1, p2, p3, p4⟩ := own_mid2 HI.out 1 (by omega) A1.out A3.out A2.out hg3
      obtain ⟨c9, c9f⟩ := cell_f p1 10 (by omega)
      rw [upd_other _ _ (by omega)] at c9
      obtain ⟨d3, d3f⟩ := cell_f p1 4 (by omega)
      rw [upd_other _ _ (by omega)] at d3
      have O3 := hideG ho3
      have K3 := hideG hg3
      have V3 := hideG (own_one (n := (ls 1).length + 1) (c := cap3) hv3)
      have P1 := hideG p1
      have P2 := hideG p2
      clear ho3 hg3 hv3 p1 p2 p4 c3 c3f
      go_wp2_with (at_builtin; (refine wpList_append_one _ rfl _ _ 35 rfl (pw + 1) 3 i0 (.int .i64 0) 8 Tryz.underlying35 hi hz0 hz1 hz2 rfl (F 10) (ls 1).length ((ls 1).map fun o => Value.int .i64 o.2.2) rfl ((ownsRow_setCell_below P2.out (by simp) _).alloc _) ⟨w3.heap.size, 0, none⟩ 1 (.int .i64 m) rfl (by simp [go_sem]) rfl (by unfold maxLen; omega) (by omega) (by simp [World.setCell]; omega) ?_))
      intro g5 cap5 w5 ho5 hg5 hv5
      obtain ⟨q1, q2, q3⟩ := own_mid3 HI.out 1 P1.out P2.out (.slice (some ⟨g3, 0, none⟩) ((ls 1).length + 1) cap3) hg5
      obtain ⟨f9, f9f⟩ := cell_f q1 10 (by omega)
      have O5 := hideG ho5
      have K5 := hideG hg5
      have V5 := hideG (own_one (n := (ls 1).length + 1) (c := cap5) hv5)
      clear ho5 hg5 hv5 q1 q3 d3 d3f c9 c9f
      go_wp2_with fail
      go_end0
      have R := own_finish HI.out 1 (by omega) (o := (some g, k, m)) (.slice (some ⟨g3, 0, none⟩) ((ls 1).length + 1) cap3) (.slice (some ⟨g5, 0, none⟩) ((ls 1).length + 1) cap5) W1.out K2.out K3.out O3.out (fun b hb => by simpa [cat] using V3.out b hb) K5.out O5.out (fun b hb => by simpa [World.setCell, cat] using V5.out b hb) (fun x e => by cases e; exact ⟨HF.out, hpg, hgl, filled_end1 FI.out⟩) (fun e => by cases e) (by first | exact Nat.zero_le _ | (show k ≤ maxLen; unfold maxLen; omega))
      rw [HM.out]
      exact ⟨rfl, _, R.1, fun b hb hne hf => R.2.1 b hb (by simpa using hne) hf, R.2.2.1, R.2.2.2.mono (fun b e _ => by simpa using e)⟩

set_option maxHeartbeats 1000000 in
set_option maxRecDepth 100000 in
theorem ownBytes_calls_nil (pw : Nat) (F : Nat → Value) (nx : Int) (ls : Nat → List Ow) (w : World) (h : InvW w pw F nx ls) (h0 : 0 ≤ nx) (h1 : nx ≤ 1000000000000000000)
    (hlen : ((ls 1).length + 1) * 24 ≤ 140737488355328) :
    Calls Tryz.prog 40 #[.pointer (some ⟨pw, 0, none⟩), .slice none 0 0] w fun e w' => e = .returned (.tuple #[]) ∧ ∃ F', InvW w' pw F' (nx + 1) (updL ls 1 (ls 1 ++ [(none, 0, mkN nx)])) ∧
      (∀ b, b < w.heap.size → ¬ Foot F ls b → ¬ Foot F' (updL ls 1 (ls 1 ++ [(none, 0, mkN nx)])) b) ∧ (∀ j, j < 3 → F' j = F j) ∧
      Chg (fun b => b = pw ∨ Foot F ls b) w w' := by
  obtain ⟨i0, hi, hz0, hz1, hz2⟩ := info_parts infoI
  obtain ⟨i1, hi1, hy0, hy1, hy2⟩ := info_parts infoBL
  have m1 := mkN_lo nx
  have m2 := mkN_hi nx
  have hpl := h.pw_lt
  have HI := hideG h
  clear h
  go_enter Tryz.func40, Tryz.ntmps40
  go_wp2_with fail
  refine (mark_calls pw F nx ls _ HI.out h0 h1).mono ?_
  rintro e wr ⟨rfl, hw1⟩
  have W1 := hideG hw1
  clear hw1
  generalize hm : mkN nx = m at *
  have HM := hideG hm
  clear hm
  have k2 : Chg (fun b => ((none, 0, m) : Ow).1 = some b) wr wr := Chg.refl _ _
  have K2 := hideG k2
  obtain ⟨a1, a2, a3, a4, a5⟩ := own_mid1 HI.out 1 (by omega) W1.out k2 (fun x e => by cases e)
  obtain ⟨c3, c3f⟩ := cell_f a1 4 (by omega)
  rw [upd_other _ _ (by omega)] at c3
  have A1 := hideG a1
  have A2 := hideG a2
  have A3 := hideG a3
  clear a1 a2 a3 a5 k2
  go_wp2_with fail
  go_loop [6] (fun i => i = .int .i64 0) (fun _ => 0)
  case atStart => rfl
  case round =>
    subst hrel
    go_wp2_with (at_builtin; refine wpList_append_one _ rfl _ _ 30 rfl (pw + 1) 67 i1 (.slice none 0 0) 24 Tryz.underlying30 hi1 hy0 hy1 hy2 rfl (F 4) (ls 1).length ((ls 1).map owVal) rfl (A2.out.alloc _) ⟨wr.heap.size, 0, none⟩ 1 (.slice none 0 0) rfl (by simp [go_sem]) rfl (by unfold maxLen; omega) hlen (by simp; omega) ?_)
    intro g3 cap3 w3 ho3 hg3 hv3
    obtain ⟨p1, p2, p3, p4⟩ := own_mid2 HI.out 1 (by omega) A1.out A3.out A2.out hg3
    obtain ⟨c9, c9f⟩ := cell_f p1 10 (by omega)
    rw [upd_other _ _ (by omega)] at c9
    obtain ⟨d3, d3f⟩ := cell_f p1 4 (by omega)
    rw [upd_other _ _ (by omega)] at d3
    have O3 := hideG ho3
    have K3 := hideG hg3
    have V3 := hideG (own_one (n := (ls 1).length + 1) (c := cap3) hv3)
    have P1 := hideG p1
    have P2 := hideG p2
    clear ho3 hg3 hv3 p1 p2 p4 c3 c3f
    go_wp2_with (at_builtin; (refine wpList_append_one _ rfl _ _ 35 rfl (pw + 1) 3 i0 (.int .i64 0) 8 Tryz.underlying35 hi hz0 hz1 hz2 rfl (F 10) (ls 1).length ((ls 1).map fun o => Value.int .i64 o.2.2) rfl ((ownsRow_setCell_below P2.out (by simp) _).alloc _) ⟨w3.heap.size, 0, none⟩ 1 (.int .i64 m) rfl (by simp [go_sem]) rfl (by unfold maxLen; omega) (by omega) (by simp [World.setCell]; omega) ?_))
    intro g5 cap5 w5 ho5 hg5 hv5
    obtain ⟨q1, q2, q3⟩ := own_mid3 HI.out 1 P1.out P2.out (.slice (some ⟨g3, 0, none⟩) ((ls 1).length + 1) cap3) hg5
    obtain ⟨f9, f9f⟩ := cell_f q1 10 (by omega)
    have O5 := hideG ho5
    have K5 := hideG hg5
    have V5 := hideG (own_one (n := (ls 1).length + 1) (c := cap5) hv5)
    clear ho5 hg5 hv5 q1 q3 d3 d3f c9 c9f
    go_wp2_with fail
    go_end0
    have R := own_finish HI.out 1 (by omega) (o := (none, 0, m)) (.slice (some ⟨g3, 0, none⟩) ((ls 1).length + 1) cap3) (.slice (some ⟨g5, 0, none⟩) ((ls 1).length + 1) cap5) W1.out K2.out K3.out O3.out (fun b hb => by simpa [cat] using V3.out b hb) K5.out O5.out (fun b hb => by simpa [World.setCell, cat] using V5.out b hb) (fun x e => by cases e) (fun _ => rfl) (Nat.zero_le _)
    rw [HM.out]
    exact ⟨rfl, _, R.1, fun b hb hf => R.2.1 b hb (by simp) hf, R.2.2.1, R.2.2.2.mono (fun b e _ => by simpa using e)⟩

set_option maxHeartbeats 1000000 in
set_option maxRecDepth 100000 in
theorem ownItems_calls (pw : Nat) (F : Nat → Value) (nx : Int) (ls : Nat → List Ow) (g n cap : Nat) (cur : Array Value) (w : World) (h : InvW w pw F nx ls) (h0 : 0 ≤ nx) (h1 : nx ≤ 1000000000000000000)
    (hlen : ((ls 2).length + 1) * 24 ≤ 140737488355328) (hg : w.heap[g]? = some (.cells cur 142 (0, 0))) (hcs : cur.size = cap * 4) (hnc : n ≤ cap) (hcm : cap ≤ maxLen) (hpg : pw < g) (hfoot : ¬ Foot F ls g) :
    Calls Tryz.prog 39 #[.pointer (some ⟨pw, 0, none⟩), .slice (some ⟨g, 0, none⟩) n cap] w fun e w' => e = .returned (.tuple #[]) ∧ ∃ F', InvW w' pw F' (nx + 1) (updL ls 2 (ls 2 ++ [(some g, cap, mkN nx)])) ∧
      (∀ b, b < w.heap.size → g ≠ b → ¬ Foot F ls b → ¬ Foot F' (updL ls 2 (ls 2 ++ [(some g, cap, mkN nx)])) b) ∧ (∀ j, j < 3 → F' j = F j) ∧
      Chg (fun b => b = pw ∨ g = b ∨ Foot F ls b) w w' := by
  obtain ⟨i0, hi, hz0, hz1, hz2⟩ := info_parts infoI
  obtain ⟨i1, hi1, hy0, hy1, hy2⟩ := info_parts infoIL
  unfold maxLen at hcm
  have m1 := mkN_lo nx
  have m2 := mkN_hi nx
  have hgl : g < w.heap.size := by
    by_cases hb : g < w.heap.size
    · exact hb
    · rw [Array.getElem?_eq_none (by omega)] at hg; cases hg
  have hpl := h.pw_lt
  have HI := hideG h
  have HF := hideG hfoot
  have HG := hideG hg
  have HC := hideG hcs
  clear h hfoot hg hcs
  go_enter Tryz.func39, Tryz.ntmps39
  go_wp2_with fail
  refine (mark_calls pw F nx ls _ HI.out h0 h1).mono ?_
  rintro e w1 ⟨rfl, hw1⟩
  have g1 : w1.heap[g]? = some (.cells cur 142 (0, 0)) := by rw [hw1, Below.heap_setCell _ _ _ _ (by simp; omega)]; exact HG.out
  have W1 := hideG hw1
  have G1 := hideG g1
  clear hw1 g1
  generalize hm : mkN nx = m at *
  have HM := hideG hm
  clear hm
  go_wp2_with fail
  go_loopw [6] (fun i wr => ∃ k : Nat, k ≤ cap ∧ i = .int .i64 k ∧ Filled4 w1 g cap m k wr) (fun i _ => cap - (intOf i).toNat)
  case atStart => exact ⟨0, by omega, rfl, filled4_start G1.out HC.out⟩
  case round =>
    obtain ⟨k, hk, rfl, hfill⟩ := hrel
    have FI := hideG hfill
    by_cases hlt : k < cap
    · obtain ⟨⟨v, c1⟩, c2, ⟨v', c3⟩, c4, ⟨v2, c5⟩, c6, ⟨v3, c7⟩, c8⟩ := filled4_cell hfill k hlt
      clear hfill
      go_wp2_with fail
      go_roundw
      case rel => exact ⟨k + 1, by omega, by go_num, filled4_next FI.out hlt⟩
      case measure => simp [intOf]; omega
    · have ek : k = cap := by omega
      subst ek
      clear hfill
      have k2 := FI.out.1.mono (S' := fun b => ((some g, k, m) : Ow).1 = some b) (fun b e _ => by rw [e])
      have K2 := hideG k2
      obtain ⟨a1, a2, a3, a4, a5⟩ := own_mid1 HI.out 2 (by omega) W1.out k2 (fun x e => by cases e; exact ⟨HF.out, hpg⟩)
      obtain ⟨c3, c3f⟩ := cell_f a1 5 (by omega)
      rw [upd_other _ _ (by omega)] at c3
      have A1 := hideG a1
      have A2 := hideG a2
      have A3 := hideG a3
      clear a1 a2 a3 a5 k2
      go_wp2_with (at_builtin; refine wpList_append_one _ rfl _ _ 31 rfl (pw + 1) 38 i1 (.slice none 0 0) 24 Tryz.underlying31 hi1 hy0 hy1 hy2 rfl (F 5) (ls 2).length ((ls 2).map owVal) rfl (A2.out.alloc _) ⟨wr.heap.size, 0, none⟩ 1 (.slice (some ⟨g, 0, none⟩) k k) rfl (by simp [go_sem]) rfl (by unfold maxLen; omega) hlen (by simp; omega) ?_)
      intro g3 cap3 w3 ho3 hg3 hv3
      obtain ⟨p1, p2, p3, p4⟩ := own_mid2 HI.out 2 (by omega) A1.out A3.out A2.out hg3
      obtain ⟨c9, c9f⟩ := cell_f p1 11 (by omega)
      rw [upd_other _ _ (by omega)] at c9
      obtain ⟨d3, d3f⟩ := cell_f p1 5 (by omega)
      rw [upd_other _ _ (by omega)] at d3
      have O3 := hideG ho3
      have K3 := hideG hg3
      have V3 := hideG (own_one (n := (ls 2).length + 1) (c := cap3) hv3)
      have P1 := hideG p1
      have P2 := hideG p2
      clear ho3 hg3 hv3 p1 p2 p4 c3 c3f
      go_wp2_with (at_builtin; (refine wpList_append_one _ rfl _ _ 35 rfl (pw + 1) 3 i0 (.int .i64 0) 8 Tryz.underlying35 hi hz0 hz1 hz2 rfl (F 11) (ls 2).length ((ls 2).map fun o => Value.int .i64 o.2.2) rfl ((ownsRow_setCell_below P2.out (by simp) _).alloc _) ⟨w3.heap.size, 0, none⟩ 1 (.int .i64 m) rfl (by simp [go_sem]) rfl (by unfold maxLen; omega) (by omega) (by simp [World.setCell]; omega) ?_))
      intro g5 cap5 w5 ho5 hg5 hv5
      obtain ⟨q1, q2, q3⟩ := own_mid3 HI.out 2 P1.out P2.out (.slice (some ⟨g3, 0, none⟩) ((ls 2).length + 1) cap3) hg5
      obtain ⟨f9, f9f⟩ := cell_f q1 11 (by omega)
      have O5 := hideG ho5
      have K5 := hideG hg5
      have V5 := hideG (own_one (n := (ls 2).length + 1) (c := cap5) hv5)
      clear ho5 hg5 hv5 q1 q3 d3 d3f c9 c9f
      go_wp2_with fail
      go_end0
      have R := own_finish HI.out 2 (by omega) (o := (some g, k, m)) (.slice (some ⟨g3, 0, none⟩) ((ls 2).length + 1) cap3) (.slice (some ⟨g5, 0, none⟩) ((ls 2).length + 1) cap5) W1.out K2.out K3.out O3.out (fun b hb => by simpa [cat] using V3.out b hb) K5.out O5.out (fun b hb => by simpa [World.setCell, cat] using V5.out b hb) (fun x e => by cases e; exact ⟨HF.out, hpg, hgl, filled4_end FI.out⟩) (fun e => by cases e) (by first | exact Nat.zero_le _ | (show k ≤ maxLen; unfold maxLen; omega))
      rw [HM.out]
      exact ⟨rfl, _, R.1, fun b hb hne hf => R.2.1 b hb (by simpa using hne) hf, R.2.2.1, R.2.2.2.mono (fun b e _ => by simpa using e)⟩


set_option maxHeartbeats 1000000 in
set_option maxRecDepth 100000 in
theorem ownItems_calls_nil (pw : Nat) (F : Nat → Value) (nx : Int) (ls : Nat → List Ow) (w : World) (h : InvW w pw F nx ls) (h0 : 0 ≤ nx) (h1 : nx ≤ 1000000000000000000)
    (hlen : ((ls 2).length + 1) * 24 ≤ 140737488355328) :
    Calls Tryz.prog 39 #[.pointer (some ⟨pw, 0, none⟩), .slice none 0 0] w fun e w' => e = .returned (.tuple #[]) ∧ ∃ F', InvW w' pw F' (nx + 1) (updL ls 2 (ls 2 ++ [(none, 0, mkN nx)])) ∧
      (∀ b, b < w.heap.size → ¬ Foot F ls b → ¬ Foot F' (updL ls 2 (ls 2 ++ [(none, 0, mkN nx)])) b) ∧ (∀ j, j < 3 → F' j = F j) ∧
      Chg (fun b => b = pw ∨ Foot F ls b) w w' := by
  obtain ⟨i0, hi, hz0, hz1, hz2⟩ := info_parts infoI
  obtain ⟨i1, hi1, hy0, hy1, hy2⟩ := info_parts infoIL
  have m1 := mkN_lo nx
  have m2 := mkN_hi nx
  have hpl := h.pw_lt
  have HI := hideG h
  clear h
  go_enter Tryz.func39, Tryz.ntmps39
  go_wp2_with fail
  refine (mark_calls pw F nx ls _ HI.out h0 h1).mono ?_
  rintro e wr ⟨rfl, hw1⟩
  have W1 := hideG hw1
  clear hw1
  generalize hm : mkN nx = m at *
  have HM := hideG hm
  clear hm
  have k2 : Chg (fun b => ((none, 0, m) : Ow).1 = some b) wr wr := Chg.refl _ _
  have K2 := hideG k2
  obtain ⟨a1, a2, a3, a4, a5⟩ := own_mid1 HI.out 2 (by omega) W1.out k2 (fun x e => by cases e)
  obtain ⟨c3, c3f⟩ := cell_f a1 5 (by omega)
  rw [upd_other _ _ (by omega)] at c3
  have A1 := hideG a1
  have A2 := hideG a2
  have A3 := hideG a3
  clear a1 a2 a3 a5 k2
  go_wp2_with fail
  go_loop [6] (fun i => i = .int .i64 0) (fun _ => 0)
  case atStart => rfl
  case round =>
    subst hrel
    go_wp2_with (at_builtin; refine wpList_append_one _ rfl _ _ 31 rfl (pw + 1) 38 i1 (.slice none 0 0) 24 Tryz.underlying31 hi1 hy0 hy1 hy2 rfl (F 5) (ls 2).length ((ls 2).map owVal) rfl (A2.out.alloc _) ⟨wr.heap.size, 0, none⟩ 1 (.slice none 0 0) rfl (by simp [go_sem]) rfl (by unfold maxLen; omega) hlen (by simp; omega) ?_)
    intro g3 cap3 w3 ho3 hg3 hv3
    obtain ⟨p1, p2, p3, p4⟩ := own_mid2 HI.out 2 (by omega) A1.out A3.out A2.out hg3
    obtain ⟨c9, c9f⟩ := cell_f p1 11 (by omega)
    rw [upd_other _ _ (by omega)] at c9
    obtain ⟨d3, d3f⟩ := cell_f p1 5 (by omega)
    rw [upd_other _ _ (by omega)] at d3
    have O3 := hideG ho3
    have K3 := hideG hg3
    have V3 := hideG (own_one (n := (ls 2).length + 1) (c := cap3) hv3)
    have P1 := hideG p1
    have P2 := hideG p2
    clear ho3 hg3 hv3 p1 p2 p4 c3 c3f
    go_wp2_with (at_builtin; (refine wpList_append_one _ rfl _ _ 35 rfl (pw + 1) 3 i0 (.int .i64 0) 8 Tryz.underlying35 hi hz0 hz1 hz2 rfl (F 11) (ls 2).length ((ls 2).map fun o => Value.int .i64 o.2.2) rfl ((ownsRow_setCell_below P2.out (by simp) _).alloc _) ⟨w3.heap.size, 0, none⟩ 1 (.int .i64 m) rfl (by simp [go_sem]) rfl (by unfold maxLen; omega) (by omega) (by simp [World.setCell]; omega) ?_))
    intro g5 cap5 w5 ho5 hg5 hv5
    obtain ⟨q1, q2, q3⟩ := own_mid3 HI.out 2 P1.out P2.out (.slice (some ⟨g3, 0, none⟩) ((ls 2).length + 1) cap3) hg5
    obtain ⟨f9, f9f⟩ := cell_f q1 11 (by omega)
    have O5 := hideG ho5
    have K5 := hideG hg5
    have V5 := hideG (own_one (n := (ls 2).length + 1) (c := cap5) hv5)
    clear ho5 hg5 hv5 q1 q3 d3 d3f c9 c9f
    go_wp2_with fail
    go_end0
    have R := own_finish HI.out 2 (by omega) (o := (none, 0, m)) (.slice (some ⟨g3, 0, none⟩) ((ls 2).length + 1) cap3) (.slice (some ⟨g5, 0, none⟩) ((ls 2).length + 1) cap5) W1.out K2.out K3.out O3.out (fun b hb => by simpa [cat] using V3.out b hb) K5.out O5.out (fun b hb => by simpa [World.setCell, cat] using V5.out b hb) (fun x e => by cases e) (fun _ => rfl) (Nat.zero_le _)
    rw [HM.out]
    exact ⟨rfl, _, R.1, fun b hb hf => R.2.1 b hb (by simp) hf, R.2.2.1, R.2.2.2.mono (fun b e _ => by simpa using e)⟩


/-- Bytes in a row of their own, owned. -/
theorem own_bytes (pw : Nat) (F : Nat → Value) (nx : Int) (ls : Nat → List Ow) (v : Value) (n : Nat) (xs : List Value) (B : Nat) (w : World) (h : InvW w pw F nx ls) (h0 : 0 ≤ nx) (h1 : nx ≤ 1000000000000000000)
    (hlen : ((ls 1).length + 1) * 24 ≤ 140737488355328) (hown : w.ownsRow B 5 1 v n xs) (hB : pw < B) (hfoot : ∀ b, v.ownBlock = some b → ¬ Foot F ls b) :
    Calls Tryz.prog 40 #[.pointer (some ⟨pw, 0, none⟩), v] w fun e w' => e = .returned (.tuple #[]) ∧ ∃ F' o, InvW w' pw F' (nx + 1) (updL ls 1 (ls 1 ++ [o])) ∧
      (∀ b, b < w.heap.size → v.ownBlock ≠ some b → ¬ Foot F ls b → ¬ Foot F' (updL ls 1 (ls 1 ++ [o])) b) ∧ (∀ j, j < 3 → F' j = F j) ∧
      Chg (fun b => b = pw ∨ v.ownBlock = some b ∨ Foot F ls b) w w' ∧ 0 ≤ o.2.2 ∧ o.2.2 ≤ 255 := by
  have m1 := mkN_lo nx
  have m2 := mkN_hi nx
  rcases hown.2 with ⟨rfl, rfl⟩ | ⟨g, cap, cur, rfl, hg, hblk, hnc, hcm, hcs, _⟩
  · refine (ownBytes_calls_nil pw F nx ls w h h0 h1 hlen).mono ?_
    rintro e w' ⟨rfl, F', i1, i2, i3, i4⟩
    exact ⟨rfl, F', _, i1, fun b hb _ hf => i2 b hb hf, i3, i4.mono (fun b e _ => by rcases e with e | e; exact .inl e; exact .inr (.inr e)), by show 0 ≤ mkN nx; omega, by show mkN nx ≤ 255; omega⟩
  · refine (ownBytes_calls pw F nx ls g n cap cur w h h0 h1 hlen hblk (by omega) hnc hcm (by omega) (hfoot g rfl)).mono ?_
    rintro e w' ⟨rfl, F', i1, i2, i3, i4⟩
    refine ⟨rfl, F', _, i1, fun b hb hne hf => i2 b hb (fun e => hne (by rw [e]; rfl)) hf, i3, i4.mono (fun b e _ => ?_), by show 0 ≤ mkN nx; omega, by show mkN nx ≤ 255; omega⟩
    rcases e with e | e | e
    · exact .inl e
    · exact .inr (.inl (by rw [e]; rfl))
    · exact .inr (.inr e)

/-- Items in a row of their own, owned. -/
theorem own_items (pw : Nat) (F : Nat → Value) (nx : Int) (ls : Nat → List Ow) (v : Value) (n : Nat) (xs : List Value) (B : Nat) (w : World) (h : InvW w pw F nx ls) (h0 : 0 ≤ nx) (h1 : nx ≤ 1000000000000000000)
    (hlen : ((ls 2).length + 1) * 24 ≤ 140737488355328) (hown : w.ownsRow B 142 4 v n xs) (hB : pw < B) (hfoot : ∀ b, v.ownBlock = some b → ¬ Foot F ls b) :
    Calls Tryz.prog 39 #[.pointer (some ⟨pw, 0, none⟩), v] w fun e w' => e = .returned (.tuple #[]) ∧ ∃ F' o, InvW w' pw F' (nx + 1) (updL ls 2 (ls 2 ++ [o])) ∧
      (∀ b, b < w.heap.size → v.ownBlock ≠ some b → ¬ Foot F ls b → ¬ Foot F' (updL ls 2 (ls 2 ++ [o])) b) ∧ (∀ j, j < 3 → F' j = F j) ∧
      Chg (fun b => b = pw ∨ v.ownBlock = some b ∨ Foot F ls b) w w' := by
  rcases hown.2 with ⟨rfl, rfl⟩ | ⟨g, cap, cur, rfl, hg, hblk, hnc, hcm, hcs, _⟩
  · refine (ownItems_calls_nil pw F nx ls w h h0 h1 hlen).mono ?_
    rintro e w' ⟨rfl, F', i1, i2, i3, i4⟩
    exact ⟨rfl, F', _, i1, fun b hb _ hf => i2 b hb hf, i3, i4.mono (fun b e _ => by rcases e with e | e; exact .inl e; exact .inr (.inr e))⟩
  · refine (ownItems_calls pw F nx ls g n cap cur w h h0 h1 hlen hblk (by omega) hnc hcm (by omega) (hfoot g rfl)).mono ?_
    rintro e w' ⟨rfl, F', i1, i2, i3, i4⟩
    refine ⟨rfl, F', _, i1, fun b hb hne hf => i2 b hb (fun e => hne (by rw [e]; rfl)) hf, i3, i4.mono (fun b e _ => ?_)⟩
    rcases e with e | e | e
    · exact .inl e
    · exact .inr (.inl (by rw [e]; rfl))
    · exact .inr (.inr e)

end Go.Proofs.YtchideljndagjaaGreat
