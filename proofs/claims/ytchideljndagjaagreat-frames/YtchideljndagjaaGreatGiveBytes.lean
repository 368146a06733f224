/- Bytes that are handed in: giveBytes and stillBytes. -/
import Derived.Test.YtchideljndagjaaGreatGiveInts
import Derived.Test.YtchideljndagjaaGreatWireStr
import Derived.Lib.BufferWrite
namespace Go.Proofs.YtchideljndagjaaGreat
open Go.RowKit
set_option linter.unusedVariables false

theorem infoGb : (Tryz.prog.info? 5).map (fun i => (i.zero, i.size, i.bytes)) = some (some (.int .u8 0), 1, 1) := by kernel_rfl
theorem sizeGb : (Tryz.prog.info? 5).map (·.size) = some 1 := by kernel_rfl

theorem wpList_copy_str {P : Program} {w : World} {ops : Array Oper} {rest : List Oper} {o : Oper} {a : Act} {Q : Exit → Act → World → Prop} (hgd : o.guard = none) (d s : Operand) (dT sT : TypeId)
    (ho : o.op = .call { callee := .builtin .copy, args := #[d, s], argTypes := #[dT, sT] }) (elem : TypeId) (hu : P.underlying dT = some (.slice elem)) (hsz : (P.info? elem).map (·.size) = some 1)
    (g dLen dCap : Nat) (str : ByteArray) (hd : a.eval d = .slice (some ⟨g, 0, none⟩) dLen dCap) (hs : a.eval s = .string str)
    (cur : List Value) (t : TypeId) (hg : w.heap[g]? = some (.cells cur.toArray t (0, 0))) (hle : str.size ≤ dLen) (hfit : str.size ≤ cur.length) (B : Nat) (w0 : World) (hb : Below B w0 w) (hBg : B ≤ g)
    (h : ∀ w', Hid (w'.heap[g]? = some (.cells ((bl str).map (Value.int .u8) ++ cur.drop str.size).toArray t (0, 0))) → Below B w0 w' → wpList P ops Q rest (a.put o.dst (goInt str.size)) w') :
    wpList P ops Q (o :: rest) a w := by
  refine wpList_plain hgd fun K hK => ?_
  have hrun := Lib.run_copy_row_string (P := P) w dT sT o.type elem g 0 dLen dCap str cur.toArray t hu hsz hg hle (by simpa using hfit)
  unfold Oper.wp
  simp only [execOp, ho, resolve, invoke, builtin]
  simp [hd, hs, hrun, Result.andThen]
  refine hK _ _ (h _ ?_ (below_setRow hb hBg _))
  show _ = _
  rw [setRow_heap w g _ _ t _ hg]
  have e : Lib.byteCells str.data.toList = (bl str).map (Value.int .u8) := by
    unfold bl; rw [List.map_map]; rfl
  simp [e]

/-- The bytes, and behind them k marks and what is left of three noughts. -/
def bgiven (zs : List Int) (k : Nat) : List Value := zs.map (Value.int .u8) ++ (List.replicate k (.int .u8 77) ++ List.replicate (3 - k) (.int .u8 0))

theorem bgiven_length (zs : List Int) (k : Nat) (hk : k ≤ 3) : (bgiven zs k).length = zs.length + 3 := by simp [bgiven]; omega

theorem bgiven_set (zs : List Int) (k : Nat) (hk : k < 3) : (bgiven zs k).set (zs.length + k) (.int .u8 77) = bgiven zs (k + 1) := by
  unfold bgiven
  rw [List.set_append_right _ _ (by simp)]
  simp only [List.length_map, Nat.add_sub_cancel_left]
  rcases (show k = 0 ∨ k = 1 ∨ k = 2 by omega) with rfl | rfl | rfl <;> rfl

set_option maxHeartbeats 1000000 in
set_option maxRecDepth 100000 in
theorem giveBytes_calls (s : ByteArray) (w : World) (hb : s.size ≤ 140737488351232) :
    Calls Tryz.prog 41 #[.string s] w fun e w' => ∃ g, w.heap.size ≤ g ∧ e = .returned (.slice (some ⟨g, 0, none⟩) s.size (s.size + 3)) ∧
      w'.heap[g]? = some (.cells (bgiven (bl s) 3).toArray 5 (0, 0)) ∧ Below w.heap.size w w' := by
  obtain ⟨i0, hi, hz0, hz1, hz2⟩ := info_parts infoGb
  have HN := hideG (bl_length s)
  obtain ⟨n, hn⟩ : ∃ n, n = s.size := ⟨_, rfl⟩
  have hn' : s.size = n := hn.symm
  rw [hn'] at HN
  rw [hn'] at hb
  rw [hn']
  clear hn
  have en : ((n : Int) + 3).toNat = n + 3 := by omega
  go_enter Tryz.func41, Tryz.ntmps41
  go_wp2_with (at_make; refine wpList_make_full _ rfl _ _ 67 rfl w.heap.size 5 i0 (.int .u8 0) 1 Tryz.underlying67 hi hz0 hz1 _ _ _ _ (n + 3) rfl rfl (by omega) (by omega) ?m1 ?m2 ?m3 ?_)
  case m1 => rw [hz2]; omega
  case m2 => unfold maxLen; omega
  case m3 => exact Nat.le_refl _
  intro w2 hown2 hgrow2
  have hr := row_of_full hown2
  have hb2 : Below w.heap.size w w2 := (Below.refl _ _).grown hgrow2 (Nat.le_refl _) (by simp)
  rw [toList_madeCells_one] at hr
  have HR := hideG hr
  have HB := hideG hb2
  clear hr hb2 hown2 hgrow2
  generalize hg : w.heap.size = B at *
  have HG := hideG hg
  go_wp2_with (refine wpList_copy_str rfl _ _ 67 9 rfl 5 Tryz.underlying67 sizeGb B _ _ s rfl rfl _ 5 HR.out ?c1 ?c2 B w HB.out (Nat.le_refl _) ?_)
  case c1 => omega
  case c2 => simp; omega
  intro w3 HR3 hb3
  have HB3 := hideG hb3
  clear hb3
  have hr3 : w3.heap[B]? = some (.cells (bgiven (bl s) 0).toArray 5 (0, 0)) := HR3.out
  have HR3' := hideG hr3
  clear hr3 HR3
  go_wp2_with fail
  go_loopw [4] (fun i wr => ∃ j : Nat, n ≤ j ∧ j ≤ n + 3 ∧ i = .int .i64 j ∧ wr.heap[B]? = some (.cells (bgiven (bl s) (j - n)).toArray 5 (0, 0)) ∧ Below B w wr) (fun i _ => n + 3 - (intOf i).toNat)
  case atStart => exact ⟨n, Nat.le_refl _, by omega, rfl, by rw [Nat.sub_self]; exact HR3'.out, HB3.out⟩
  case round =>
    obtain ⟨j, hj1, hj2, rfl, hr, hbel⟩ := hrel
    have HR4 := hideG hr
    have HB4 := hideG hbel
    by_cases hlt : j < n + 3
    · obtain ⟨c1, c2⟩ := row_cell hr j (by rw [bgiven_length _ _ (by omega), HN.out]; exact hlt)
      obtain ⟨u, hu⟩ : ∃ u, (bgiven (bl s) (j - n))[j]? = some u := ⟨_, List.getElem?_eq_getElem (by rw [bgiven_length _ _ (by omega), HN.out]; exact hlt)⟩
      rw [hu] at c1
      clear hr hbel hu
      go_wp2_with fail
      go_roundw
      case rel =>
        have R := row_set HR4.out j (.int .u8 77)
        have e := bgiven_set (bl s) (j - n) (by omega)
        rw [HN.out, show n + (j - n) = j by omega, show j - n + 1 = j + 1 - n by omega] at e
        rw [e] at R
        exact ⟨j + 1, by omega, by omega, by go_num, R, HB4.out.setCell (p := ⟨B, j, none⟩) (Nat.le_refl _) _⟩
      case measure => simp [intOf]; omega
    · have ej : j = n + 3 := by omega
      subst ej
      clear hr hbel
      go_wp2_with fail
      go_ret
      have R := HR4.out
      rw [Nat.add_sub_cancel_left] at R
      exact ⟨B, by rw [HG.out]; exact Nat.le_refl _, rfl, R, by rw [HG.out]; exact HB4.out⟩

theorem bgiven_bytes {w : World} {g : Nat} {s : ByteArray} (hg : w.heap[g]? = some (.cells (bgiven (bl s) 3).toArray 5 (0, 0))) (hb : s.size ≤ 140737488351232) :
    BytesAt w (.slice (some ⟨g, 0, none⟩) s.size (s.size + 3)) (bl s) := by
  refine ⟨_, _, by rw [bl_length], by rw [bl_length]; omega, by unfold maxLen; omega, bl_isB s, .inr ⟨g, 0, rfl, ?_, fun i hi => ?_⟩⟩
  · by_cases h : g < w.heap.size
    · exact h
    · rw [Array.getElem?_eq_none (by omega)] at hg; cases hg
  · rw [Nat.zero_add, (row_cell hg i (by rw [bgiven_length _ _ (Nat.le_refl _)]; omega)).1]
    unfold bgiven Frm.bAt
    rw [List.getElem?_append_left (by simpa using hi), List.getElem?_map, List.getElem?_eq_getElem hi, List.getD_eq_getElem?_getD, List.getElem?_eq_getElem hi]; rfl

theorem index_str (s : ByteArray) (k : Nat) (hk : k < s.size) (w : World) : (Instr.index 9 (.string s) (.int .i64 (k : Int))).run Tryz.prog w = .ok (.int .u8 (Frm.bAt (bl s) k)) w := by
  have hi : 0 ≤ (k : Int) ∧ (k : Int) < s.size := ⟨by omega, by omega⟩
  rw [run_index_string w 9 s .i64 (k : Int) Tryz.underlying9, dif_pos hi]
  have hk' : k < s.data.size := hk
  congr 2
  unfold Frm.bAt bl
  rw [List.getD_eq_getElem?_getD, List.getElem?_map, Array.getElem?_toList, Array.getElem?_eq_getElem hk']
  rfl

set_option maxHeartbeats 1000000 in
set_option maxRecDepth 100000 in
/-- Bytes that were handed in are as they were. -/
theorem stillBytes_calls (s : ByteArray) (w : World) (g : Nat) (hb : s.size ≤ 140737488351232) (hg : w.heap[g]? = some (.cells (bgiven (bl s) 3).toArray 5 (0, 0))) :
    Calls Tryz.prog 45 #[.slice (some ⟨g, 0, none⟩) s.size (s.size + 3), .string s] w fun e w' => e = .returned (.bool true) ∧ ∃ nq, w' = w.drewN nq := by
  have hcell : ∀ i, i < s.size + 3 → w.cell? ⟨g, i, none⟩ = some (.int .u8 (if i < s.size then Frm.bAt (bl s) i else 77)) := by
    intro i hi
    have hl := bl_length s
    rw [(row_cell hg i (by rw [bgiven_length _ _ (Nat.le_refl _)]; omega)).1]
    unfold bgiven Frm.bAt
    by_cases h1 : i < s.size
    · rw [if_pos h1, List.getElem?_append_left (by simp; omega), List.getElem?_map, List.getElem?_eq_getElem (by omega), List.getD_eq_getElem?_getD, List.getElem?_eq_getElem (by omega)]; rfl
    · rw [if_neg h1, List.getElem?_append_right (by simp; omega)]
      rw [List.getElem?_append_left (by simp; omega), List.getElem?_replicate, if_pos (by simp; omega)]
  have HC := hideG hcell
  have HIX := hideG (fun k hk W => index_str s k hk W)
  clear hcell hg
  obtain ⟨n, hn⟩ : ∃ n, n = s.size := ⟨_, rfl⟩
  have hn' : s.size = n := hn.symm
  rw [hn'] at hb HC HIX
  rw [hn']
  clear hn
  have en : ((n : Int) + 3).toNat = n + 3 := by omega
  go_enter Tryz.func45, Tryz.ntmps45
  go_wp2_with fail
  go_loopw [6] (fun i wr => ∃ k nq : Nat, k ≤ n + 3 ∧ i = .int .i64 k ∧ wr = w.drewN nq) (fun i _ => n + 3 - (intOf i).toNat)
  case atStart => exact ⟨0, 0, by omega, rfl, rfl⟩
  case round =>
    obtain ⟨k, nq, hk, rfl, rfl⟩ := hrel
    by_cases hlt : k < n + 3
    · have c1 := HC.out k hlt
      by_cases hlt2 : k < n
      · rw [if_pos hlt2] at c1
        have hix := HIX.out k hlt2
        generalize Frm.bAt (bl s) k = z at *
        have ez : (z != z) = false := by simp
        have hk0 : (0 : Int) ≤ (k : Int) := by omega
        have hk1 : (k : Int) < (n : Int) := by omega
        have hk2 : (k : Int) < (n : Int) + 3 := by omega
        have hd : decide (n ≤ k) = false := by simp; omega
        go_wp2_with fail
        go_quiet (fail)
        go_wp2_with fail
        go_roundw
        case rel => exact ⟨k + 1, _, by omega, by go_num, rfl⟩
        case measure => simp [intOf]; omega
      · rw [if_neg hlt2] at c1
        have hk0 : (0 : Int) ≤ (k : Int) := by omega
        have hk1 : ¬ ((k : Int) < (n : Int)) := by omega
        have hk2 : (k : Int) < (n : Int) + 3 := by omega
        have hk3 : (n : Int) ≤ (k : Int) := by omega
        have hd : decide (n ≤ k) = true := by simp; omega
        have hd2 : decide (k < n) = false := by simp; omega
        go_wp2_with fail
        go_quiet (fail)
        go_wp2_with fail
        go_roundw
        case rel => exact ⟨k + 1, _, by omega, by go_num, rfl⟩
        case measure => simp [intOf]; omega
    · go_wp2_with fail
      go_ret
      exact ⟨rfl, nq, rfl⟩

end Go.Proofs.YtchideljndagjaaGreat
