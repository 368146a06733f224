/- Contracts of the program's server: the items of the frames that it sends. -/
import Derived.Test.YtchideljndagjabGreatPkQuAT
namespace Go.Proofs.YtchideljndagjabGreat
open Go.ChangeShapes Go.WideShapes Go.ChangeAt Go.RowKit
set_option linter.unusedVariables false

def keyG (p : Nat → Bool) (L : Nat → List Frm.It) (n : Nat) : List Frm.It := (Srv.lstN p n).map fun v : Nat => ((v : Int), (Cli.itemOf (L v) v).2.1, (Cli.itemOf (L v) v).2.2.1, (0 : Int))
def boxG (p : Nat → Bool) (L : Nat → List Frm.It) (u : Nat) (n : Nat) : List Frm.It := (Srv.lstN (Srv.without p u) n).map fun v : Nat => ((v : Int), (Cli.itemOf (L v) u).2.1, (Cli.itemOf (L v) u).2.2.1, (Cli.itemOf (L v) u).2.2.2)
def askG (p : Nat → Bool) (n : Nat) : List Frm.It := (Srv.lstN p n).map fun v : Nat => ((v : Int), (0 : Int), (0 : Int), (0 : Int))
theorem keyG_succ (p : Nat → Bool) (L : Nat → List Frm.It) (n : Nat) : keyG p L (n + 1) = keyG p L n ++ (if p n = true then [((n : Int), (Cli.itemOf (L n) n).2.1, (Cli.itemOf (L n) n).2.2.1, (0 : Int))] else []) := by
  unfold keyG; rw [Srv.lstN_succ, List.map_append]; split <;> rfl
theorem boxG_succ (p : Nat → Bool) (L : Nat → List Frm.It) (u n : Nat) : boxG p L u (n + 1) = boxG p L u n ++ (if Srv.without p u n = true then [((n : Int), (Cli.itemOf (L n) u).2.1, (Cli.itemOf (L n) u).2.2.1, (Cli.itemOf (L n) u).2.2.2)] else []) := by
  unfold boxG; rw [Srv.lstN_succ, List.map_append]; split <;> rfl
theorem askG_succ (p : Nat → Bool) (n : Nat) : askG p (n + 1) = askG p n ++ (if p n = true then [((n : Int), (0 : Int), (0 : Int), (0 : Int))] else []) := by
  unfold askG; rw [Srv.lstN_succ, List.map_append]; split <;> rfl
theorem keyG_len (p : Nat → Bool) (L : Nat → List Frm.It) (n : Nat) : (keyG p L n).length ≤ n := by unfold keyG; rw [List.length_map]; exact Srv.lstN_le _ _
theorem boxG_len (p : Nat → Bool) (L : Nat → List Frm.It) (u n : Nat) : (boxG p L u n).length ≤ n := by unfold boxG; rw [List.length_map]; exact Srv.lstN_le _ _
theorem askG_len (p : Nat → Bool) (n : Nat) : (askG p n).length ≤ n := by unfold askG; rw [List.length_map]; exact Srv.lstN_le _ _
theorem items_form {w : World} {v : Value} {l : List Frm.It} (h : ItemsAt w v l) : ∃ a n c, v = .slice a n c := by
  obtain ⟨a, cap, e, _⟩ := h; exact ⟨a, _, cap, e⟩

set_option maxHeartbeats 2000000 in
set_option maxRecDepth 100000 in
theorem keys_calls (b : Nat) (S : SS) (L : Nat → List Frm.It) (w : World) (h : SSAt w b S) (hL : ∀ v, v < 13 → ItemsAt w (S.it v) (L v)) :
    Calls Tryz.prog 286 #[.pointer (some ⟨b, 0, none⟩)] w fun e w' => ∃ va, e = .returned va ∧ w'.ownsRow w.heap.size 147 4 va (keyG S.ct L 13).length (flat4 (keyG S.ct L 13)) ∧ Below w.heap.size w w' := by
  obtain ⟨i1, hi1, hy0, hy1, hy2⟩ := info_parts infoIt
  have hbl := h.lt
  have HRG := hideG h.allct
  have LX := hideG (bl13_length S.ct)
  have HIX := hideG (ix_mem S.ct)
  have HIT := hideG (fun (w1 : World) (k : Nat) (hk : k < 13) (hb : Below w.heap.size w w1) => (h.below hb).cit k hk)
  have HFO := hideG (fun (k : Nat) (hk : k < 13) => items_form (hL k hk))
  have HCI := hideG (fun (w1 : World) (k : Nat) (hk : k < 13) (hb : Below w.heap.size w w1) => sItemOf_calls (S.it k) (L k) (k : Int) w1 ((hL k hk).below hb))
  clear h hL
  generalize S.ct = p at *
  generalize S.it = it at *
  obtain ⟨CS, hCS⟩ : ∃ CS, CS = bl13 p := ⟨_, rfl⟩
  rw [← hCS] at HRG LX HIX
  clear hCS
  go_enter Tryz.func286, Tryz.ntmps286
  go_wp2_with (refine wpList_load_mid rfl 101 _ rfl b 19 rfl CS _ HRG.out Tryz.underlying101 rfl ?z ?_)
  case z => rw [size_mem, LX.out]
  go_wp2_with fail
  go_loopw [3, 11] (fun ro i wr => ∃ k : Nat, k ≤ 13 ∧ i = .int .i64 k ∧ wr.ownsRow w.heap.size 147 4 ro (keyG p L k).length (flat4 (keyG p L k)) ∧ Below w.heap.size w wr) (fun _ i _ => 13 - (intOf i).toNat)
  case atStart => exact ⟨0, by omega, rfl, World.ownsRow_nil _ _ _ _, Below.refl _ _⟩
  case round =>
    obtain ⟨k, hk, rfl, hown, hbel⟩ := hrel
    have HO := hideG hown
    have HB := hideG hbel
    have hsz := hbel.size
    obtain ⟨a3, c3, hv3⟩ := owns_form hown
    subst hv3
    clear hown hbel
    have hl13 := keyG_len p L k
    have HSU := hideG (keyG_succ p L k)
    by_cases hlt : k < 13
    · have hlt' : (k : Int) < 13 := by omega
      have hix := HIX.out k hlt
      cases q : p k
      · rw [q] at hix
        have HS2 := hideG (show keyG p L (k + 1) = keyG p L k by rw [HSU.out, q]; simp)
        clear q
        go_wp2_with fail
        go_roundw
        case rel => exact ⟨k + 1, by omega, by go_num, by rw [HS2.out]; exact HO.out, HB.out⟩
        case measure => simp [intOf]; omega
      · rw [q] at hix
        have HS2 := hideG (show keyG p L (k + 1) = keyG p L k ++ [((k : Int), (Cli.itemOf (L k) (k : Int)).2.1, (Cli.itemOf (L k) (k : Int)).2.2.1, (0 : Int))] by rw [HSU.out, q]; simp)
        clear q
        have ci := HIT.out wr k hlt HB.out
        have CI := hideG (HCI.out wr k hlt HB.out)
        obtain ⟨fa, fn, fc, hf⟩ := HFO.out k hlt
        rw [hf] at ci CI
        clear hf
        unfold itmV at CI
        obtain ⟨y0, y1, y2, y3, hy⟩ : ∃ y0 y1 y2 y3, Cli.itemOf (L k) (k : Int) = (y0, y1, y2, y3) := ⟨_, _, _, _, rfl⟩
        rw [hy] at CI HS2
        clear hy
        go_wp2_with fail
        refine CI.out.mono ?_
        rintro e w1 ⟨rfl, hb1⟩
        have s1 := hb1.size
        have B1 := hideG (HB.out.trans (hb1.mono HB.out.size))
        have O1 := hideG (ownsRow_chg (S := fun _ => False) HO.out (Chg.of_below hb1) (fun _ _ h => h))
        clear hb1
        go_wp2_with (at_builtin; refine wpList_append_own _ rfl _ _ 63 rfl w.heap.size 147 i1 (.agg #[.int .i64 0, .int .i64 0, .int .i64 0, .int .i64 0]) 4 32 Tryz.underlying63 hi1 hy0 hy1 hy2 rfl (by decide) _ _ _ rfl ((O1.out.alloc _).alloc _) ⟨w1.heap.size + 1, 0, none⟩ 1 1 [.int .i64 k, .int .i64 y1, .int .i64 y2, .int .i64 0] rfl rfl ?c1 ?c2 ?c3 ?c4 ?c5 ?_)
        case c1 => have := cell_four_new (w1.alloc (.cells #[.int .i64 y0, .int .i64 y1, .int .i64 y2, .int .i64 y3] 147)) (.int .i64 k) (.int .i64 y1) (.int .i64 y2) (.int .i64 0) 147; simpa using this
        case c2 => intro u hu; simp at hu; rcases hu with rfl | rfl | rfl | rfl <;> rfl
        case c3 => unfold maxLen; omega
        case c4 => omega
        case c5 => simp; omega
        intro v' w4 hown' hgrow' _
        have hb4 := ((B1.out.alloc (by omega) _).alloc (by simp; omega) _).grown hgrow' (by simp; omega) (fun y hy => (O1.out.lt y hy).1)
        have B4 := hideG hb4
        have O4 := hideG (show w4.ownsRow w.heap.size 147 4 v' (keyG p L (k + 1)).length (flat4 (keyG p L (k + 1))) by
          rw [HS2.out, flat4_append, List.length_append]; exact hown')
        clear hown' hgrow' hb4
        go_wp2_with fail
        go_roundw
        case rel => exact ⟨k + 1, by omega, by go_num, O4.out, B4.out⟩
        case measure => simp [intOf]; omega
    · have ek : k = 13 := by omega
      subst ek
      go_wp2_with fail
      go_ret
      exact ⟨_, rfl, HO.out, HB.out⟩

set_option maxHeartbeats 2000000 in
set_option maxRecDepth 100000 in
theorem boxFor_calls (b : Nat) (S : SS) (L : Nat → List Frm.It) (u : Nat) (w : World) (h : SSAt w b S) (hL : ∀ v, v < 13 → ItemsAt w (S.it v) (L v)) :
    Calls Tryz.prog 287 #[.pointer (some ⟨b, 0, none⟩), .int .i64 (u : Int)] w fun e w' => ∃ va, e = .returned va ∧ w'.ownsRow w.heap.size 147 4 va (boxG S.ct L u 13).length (flat4 (boxG S.ct L u 13)) ∧ Below w.heap.size w w' := by
  obtain ⟨i1, hi1, hy0, hy1, hy2⟩ := info_parts infoIt
  have hbl := h.lt
  have HRG := hideG h.allct
  have LX := hideG (bl13_length S.ct)
  have HIX := hideG (ix_mem S.ct)
  have HIT := hideG (fun (w1 : World) (k : Nat) (hk : k < 13) (hb : Below w.heap.size w w1) => (h.below hb).cit k hk)
  have HFO := hideG (fun (k : Nat) (hk : k < 13) => items_form (hL k hk))
  have HCI := hideG (fun (w1 : World) (k : Nat) (hk : k < 13) (hb : Below w.heap.size w w1) => sItemOf_calls (S.it k) (L k) (u : Int) w1 ((hL k hk).below hb))
  clear h hL
  generalize S.ct = p at *
  generalize S.it = it at *
  obtain ⟨CS, hCS⟩ : ∃ CS, CS = bl13 p := ⟨_, rfl⟩
  rw [← hCS] at HRG LX HIX
  clear hCS
  go_enter Tryz.func287, Tryz.ntmps287
  go_wp2_with (refine wpList_load_mid rfl 101 _ rfl b 19 rfl CS _ HRG.out Tryz.underlying101 rfl ?z ?_)
  case z => rw [size_mem, LX.out]
  go_wp2_with fail
  go_loopw [5, 13] (fun ro i wr => ∃ k : Nat, k ≤ 13 ∧ i = .int .i64 k ∧ wr.ownsRow w.heap.size 147 4 ro (boxG p L u k).length (flat4 (boxG p L u k)) ∧ Below w.heap.size w wr) (fun _ i _ => 13 - (intOf i).toNat)
  case atStart => exact ⟨0, by omega, rfl, World.ownsRow_nil _ _ _ _, Below.refl _ _⟩
  case round =>
    obtain ⟨k, hk, rfl, hown, hbel⟩ := hrel
    have HO := hideG hown
    have HB := hideG hbel
    have hsz := hbel.size
    obtain ⟨a3, c3, hv3⟩ := owns_form hown
    subst hv3
    clear hown hbel
    have hl13 := boxG_len p L u k
    have HSU := hideG (boxG_succ p L u k)
    by_cases hlt : k < 13
    · have hlt' : (k : Int) < 13 := by omega
      have hix := HIX.out k hlt
      cases q : p k
      · rw [q] at hix
        have HS2 := hideG (show boxG p L u (k + 1) = boxG p L u k by rw [HSU.out]; unfold Srv.without; rw [q]; simp)
        clear q
        go_wp2_with fail
        go_roundw
        case rel => exact ⟨k + 1, by omega, by go_num, by rw [HS2.out]; exact HO.out, HB.out⟩
        case measure => simp [intOf]; omega
      rw [q] at hix
      by_cases q2 : (k : Int) = (u : Int)
      · have q2' : ((k : Int) != (u : Int)) = false := by simpa using q2
        have HS2 := hideG (show boxG p L u (k + 1) = boxG p L u k by rw [HSU.out]; unfold Srv.without; rw [decide_eq_false (by omega), Bool.and_false]; simp)
        clear q q2
        go_wp2_with fail
        go_roundw
        case rel => exact ⟨k + 1, by omega, by go_num, by rw [HS2.out]; exact HO.out, HB.out⟩
        case measure => simp [intOf]; omega
      · have q2' : ((k : Int) != (u : Int)) = true := by simpa using q2
        have HS2 := hideG (show boxG p L u (k + 1) = boxG p L u k ++ [((k : Int), (Cli.itemOf (L k) (u : Int)).2.1, (Cli.itemOf (L k) (u : Int)).2.2.1, (Cli.itemOf (L k) (u : Int)).2.2.2)] by rw [HSU.out]; unfold Srv.without; rw [q, decide_eq_true (by omega)]; simp)
        clear q q2
        have ci := HIT.out wr k hlt HB.out
        have CI := hideG (HCI.out wr k hlt HB.out)
        obtain ⟨fa, fn, fc, hf⟩ := HFO.out k hlt
        rw [hf] at ci CI
        clear hf
        unfold itmV at CI
        obtain ⟨y0, y1, y2, y3, hy⟩ : ∃ y0 y1 y2 y3, Cli.itemOf (L k) (u : Int) = (y0, y1, y2, y3) := ⟨_, _, _, _, rfl⟩
        rw [hy] at CI HS2
        clear hy
        go_wp2_with fail
        refine CI.out.mono ?_
        rintro e w1 ⟨rfl, hb1⟩
        have s1 := hb1.size
        have B1 := hideG (HB.out.trans (hb1.mono HB.out.size))
        have O1 := hideG (ownsRow_chg (S := fun _ => False) HO.out (Chg.of_below hb1) (fun _ _ h => h))
        clear hb1
        go_wp2_with (at_builtin; refine wpList_append_own _ rfl _ _ 63 rfl w.heap.size 147 i1 (.agg #[.int .i64 0, .int .i64 0, .int .i64 0, .int .i64 0]) 4 32 Tryz.underlying63 hi1 hy0 hy1 hy2 rfl (by decide) _ _ _ rfl ((O1.out.alloc _).alloc _) ⟨w1.heap.size + 1, 0, none⟩ 1 1 [.int .i64 k, .int .i64 y1, .int .i64 y2, .int .i64 y3] rfl rfl ?c1 ?c2 ?c3 ?c4 ?c5 ?_)
        case c1 => have := cell_four_new (w1.alloc (.cells #[.int .i64 y0, .int .i64 y1, .int .i64 y2, .int .i64 y3] 147)) (.int .i64 k) (.int .i64 y1) (.int .i64 y2) (.int .i64 y3) 147; simpa using this
        case c2 => intro u hu; simp at hu; rcases hu with rfl | rfl | rfl | rfl <;> rfl
        case c3 => unfold maxLen; omega
        case c4 => omega
        case c5 => simp; omega
        intro v' w4 hown' hgrow' _
        have hb4 := ((B1.out.alloc (by omega) _).alloc (by simp; omega) _).grown hgrow' (by simp; omega) (fun y hy => (O1.out.lt y hy).1)
        have B4 := hideG hb4
        have O4 := hideG (show w4.ownsRow w.heap.size 147 4 v' (boxG p L u (k + 1)).length (flat4 (boxG p L u (k + 1))) by
          rw [HS2.out, flat4_append, List.length_append]; exact hown')
        clear hown' hgrow' hb4
        go_wp2_with fail
        go_roundw
        case rel => exact ⟨k + 1, by omega, by go_num, O4.out, B4.out⟩
        case measure => simp [intOf]; omega
    · have ek : k = 13 := by omega
      subst ek
      go_wp2_with fail
      go_ret
      exact ⟨_, rfl, HO.out, HB.out⟩

set_option maxHeartbeats 2000000 in
set_option maxRecDepth 100000 in
theorem ask_calls (b : Nat) (S : SS) (w : World) (h : SSAt w b S) :
    Calls Tryz.prog 288 #[.pointer (some ⟨b, 0, none⟩)] w fun e w' => ∃ va, e = .returned va ∧ w'.ownsRow w.heap.size 147 4 va (askG S.ct 13).length (flat4 (askG S.ct 13)) ∧ Below w.heap.size w w' := by
  obtain ⟨i1, hi1, hy0, hy1, hy2⟩ := info_parts infoIt
  have hbl := h.lt
  have HRG := hideG h.allct
  have LX := hideG (bl13_length S.ct)
  have HIX := hideG (ix_mem S.ct)
  clear h
  generalize S.ct = p at *
  generalize S.it = it at *
  obtain ⟨CS, hCS⟩ : ∃ CS, CS = bl13 p := ⟨_, rfl⟩
  rw [← hCS] at HRG LX HIX
  clear hCS
  go_enter Tryz.func288, Tryz.ntmps288
  go_wp2_with (refine wpList_load_mid rfl 101 _ rfl b 19 rfl CS _ HRG.out Tryz.underlying101 rfl ?z ?_)
  case z => rw [size_mem, LX.out]
  go_wp2_with fail
  go_loopw [3, 10] (fun ro i wr => ∃ k : Nat, k ≤ 13 ∧ i = .int .i64 k ∧ wr.ownsRow w.heap.size 147 4 ro (askG p k).length (flat4 (askG p k)) ∧ Below w.heap.size w wr) (fun _ i _ => 13 - (intOf i).toNat)
  case atStart => exact ⟨0, by omega, rfl, World.ownsRow_nil _ _ _ _, Below.refl _ _⟩
  case round =>
    obtain ⟨k, hk, rfl, hown, hbel⟩ := hrel
    have HO := hideG hown
    have HB := hideG hbel
    have hsz := hbel.size
    obtain ⟨a3, c3, hv3⟩ := owns_form hown
    subst hv3
    clear hown hbel
    have hl13 := askG_len p k
    have HSU := hideG (askG_succ p k)
    by_cases hlt : k < 13
    · have hlt' : (k : Int) < 13 := by omega
      have hix := HIX.out k hlt
      cases q : p k
      · rw [q] at hix
        have HS2 := hideG (show askG p (k + 1) = askG p k by rw [HSU.out, q]; simp)
        clear q
        go_wp2_with fail
        go_roundw
        case rel => exact ⟨k + 1, by omega, by go_num, by rw [HS2.out]; exact HO.out, HB.out⟩
        case measure => simp [intOf]; omega
      · rw [q] at hix
        have HS2 := hideG (show askG p (k + 1) = askG p k ++ [((k : Int), (0 : Int), (0 : Int), (0 : Int))] by rw [HSU.out, q]; simp)
        clear q
        go_wp2_with (at_builtin; refine wpList_append_own _ rfl _ _ 63 rfl w.heap.size 147 i1 (.agg #[.int .i64 0, .int .i64 0, .int .i64 0, .int .i64 0]) 4 32 Tryz.underlying63 hi1 hy0 hy1 hy2 rfl (by decide) _ _ _ rfl (HO.out.alloc _) ⟨wr.heap.size, 0, none⟩ 1 1 [.int .i64 k, .int .i64 0, .int .i64 0, .int .i64 0] rfl rfl ?c1 ?c2 ?c3 ?c4 ?c5 ?_)
        case c1 => exact cell_four_new _ _ _ _ _ _
        case c2 => intro u hu; simp at hu; rcases hu with rfl | rfl | rfl | rfl <;> rfl
        case c3 => unfold maxLen; omega
        case c4 => omega
        case c5 => simp; omega
        intro v' w4 hown' hgrow' _
        have hb4 := (HB.out.alloc hsz _).grown hgrow' (by simp; omega) (fun y hy => (HO.out.lt y hy).1)
        have B4 := hideG hb4
        have O4 := hideG (show w4.ownsRow w.heap.size 147 4 v' (askG p (k + 1)).length (flat4 (askG p (k + 1))) by
          rw [HS2.out, flat4_append, List.length_append]; exact hown')
        clear hown' hgrow' hb4
        go_wp2_with fail
        go_roundw
        case rel => exact ⟨k + 1, by omega, by go_num, O4.out, B4.out⟩
        case measure => simp [intOf]; omega
    · have ek : k = 13 := by omega
      subst ek
      go_wp2_with fail
      go_ret
      exact ⟨_, rfl, HO.out, HB.out⟩

end Go.Proofs.YtchideljndagjabGreat

namespace Go.Proofs.YtchideljndagjabGreat
open Go.ChangeShapes Go.WideShapes Go.ChangeAt Go.RowKit
set_option linter.unusedVariables false

/-- A block that holds thirteen values and nothing else. -/
def V13At (w : World) (b : Nat) (T : TypeId) (f : Nat → Value) : Prop := w.heap[b]? = some (.cells (v13 f).toArray T (0, 0))
section
variable {w w' : World} {b : Nat} {T : TypeId} {f g : Nat → Value}
theorem V13At.lt (h : V13At w b T f) : b < w.heap.size := by
  by_cases hb : b < w.heap.size
  · exact hb
  · unfold V13At at h; rw [Array.getElem?_eq_none (by omega)] at h; cases h
theorem V13At.cell (h : V13At w b T f) (v : Nat) (hv : v < 13) : w.cell? ⟨b, v, none⟩ = some (f v) := by
  rw [cell_of_row w b v _ T (0, 0) h]; simp only [List.getElem?_toArray]; exact v13_get f v hv
theorem V13At.froz (h : V13At w b T f) (v : Nat) : w.frozen? ⟨b, v, none⟩ = false := frozen_of_row w b v _ T h
theorem V13At.set (h : V13At w b T f) (v : Nat) (hv : v < 13) (x : Value) : V13At (w.setCell ⟨b, v, none⟩ x) b T (updV f v x) := by
  have := heap_setCell_same w b v _ T x h
  rw [List.setIfInBounds_toArray, v13_set f v hv x] at this
  exact this
theorem V13At.block (h : V13At w b T f) (e : w'.heap[b]? = w.heap[b]?) : V13At w' b T f := e.trans h
theorem V13At.below {B : Nat} (h : V13At w b T f) (hb : Below B w w') (hB : b < B) : V13At w' b T f := h.block (hb.block b hB)
theorem V13At.ext (h : V13At w b T f) (e : ∀ v, v < 13 → f v = g v) : V13At w b T g := by unfold V13At at h ⊢; rw [← v13_ext e]; exact h
theorem V13At.range (h : V13At w b T f) : w.rangeAt b 0 (v13 f) := by
  intro j v hv
  rw [Nat.zero_add, cell_of_row w b j _ _ (0, 0) h]
  simpa using hv
end

theorem ix_lists0 (f : Nat → Value) (w : World) : (Instr.index 103 (.agg (v13 f).toArray) (.int .i64 ((0 : Nat) : Int))).run Tryz.prog w = .ok (f 0) w := by kernel_rfl
theorem ix_lists1 (f : Nat → Value) (w : World) : (Instr.index 103 (.agg (v13 f).toArray) (.int .i64 ((1 : Nat) : Int))).run Tryz.prog w = .ok (f 1) w := by kernel_rfl
theorem ix_lists2 (f : Nat → Value) (w : World) : (Instr.index 103 (.agg (v13 f).toArray) (.int .i64 ((2 : Nat) : Int))).run Tryz.prog w = .ok (f 2) w := by kernel_rfl
theorem ix_lists3 (f : Nat → Value) (w : World) : (Instr.index 103 (.agg (v13 f).toArray) (.int .i64 ((3 : Nat) : Int))).run Tryz.prog w = .ok (f 3) w := by kernel_rfl
theorem ix_lists4 (f : Nat → Value) (w : World) : (Instr.index 103 (.agg (v13 f).toArray) (.int .i64 ((4 : Nat) : Int))).run Tryz.prog w = .ok (f 4) w := by kernel_rfl
theorem ix_lists5 (f : Nat → Value) (w : World) : (Instr.index 103 (.agg (v13 f).toArray) (.int .i64 ((5 : Nat) : Int))).run Tryz.prog w = .ok (f 5) w := by kernel_rfl
theorem ix_lists6 (f : Nat → Value) (w : World) : (Instr.index 103 (.agg (v13 f).toArray) (.int .i64 ((6 : Nat) : Int))).run Tryz.prog w = .ok (f 6) w := by kernel_rfl
theorem ix_lists7 (f : Nat → Value) (w : World) : (Instr.index 103 (.agg (v13 f).toArray) (.int .i64 ((7 : Nat) : Int))).run Tryz.prog w = .ok (f 7) w := by kernel_rfl
theorem ix_lists8 (f : Nat → Value) (w : World) : (Instr.index 103 (.agg (v13 f).toArray) (.int .i64 ((8 : Nat) : Int))).run Tryz.prog w = .ok (f 8) w := by kernel_rfl
theorem ix_lists9 (f : Nat → Value) (w : World) : (Instr.index 103 (.agg (v13 f).toArray) (.int .i64 ((9 : Nat) : Int))).run Tryz.prog w = .ok (f 9) w := by kernel_rfl
theorem ix_lists10 (f : Nat → Value) (w : World) : (Instr.index 103 (.agg (v13 f).toArray) (.int .i64 ((10 : Nat) : Int))).run Tryz.prog w = .ok (f 10) w := by kernel_rfl
theorem ix_lists11 (f : Nat → Value) (w : World) : (Instr.index 103 (.agg (v13 f).toArray) (.int .i64 ((11 : Nat) : Int))).run Tryz.prog w = .ok (f 11) w := by kernel_rfl
theorem ix_lists12 (f : Nat → Value) (w : World) : (Instr.index 103 (.agg (v13 f).toArray) (.int .i64 ((12 : Nat) : Int))).run Tryz.prog w = .ok (f 12) w := by kernel_rfl
theorem ix_lists (f : Nat → Value) (k : Nat) (hk : k < 13) (w : World) : (Instr.index 103 (.agg (v13 f).toArray) (.int .i64 (k : Int))).run Tryz.prog w = .ok (f k) w := by
  rcases thirteen hk with rfl | rfl | rfl | rfl | rfl | rfl | rfl | rfl | rfl | rfl | rfl | rfl | rfl
  · exact ix_lists0 f w
  · exact ix_lists1 f w
  · exact ix_lists2 f w
  · exact ix_lists3 f w
  · exact ix_lists4 f w
  · exact ix_lists5 f w
  · exact ix_lists6 f w
  · exact ix_lists7 f w
  · exact ix_lists8 f w
  · exact ix_lists9 f w
  · exact ix_lists10 f w
  · exact ix_lists11 f w
  · exact ix_lists12 f w

theorem field_A (y0 y1 y2 y3 : Value) (w : World) : (Instr.field 147 (.agg #[y0, y1, y2, y3]) 1).run Tryz.prog w = .ok y1 w := by kernel_rfl
theorem field_B (y0 y1 y2 y3 : Value) (w : World) : (Instr.field 147 (.agg #[y0, y1, y2, y3]) 2).run Tryz.prog w = .ok y2 w := by kernel_rfl
theorem SSAt.allit {w : World} {b : Nat} {S : SS} (h : SSAt w b S) : w.rangeAt b 32 (v13 S.it) := h.rit.range
theorem itemsV_one (f : Nat → Int) : ∀ v ∈ v13 (fun u => .int .i64 (f u)), v.oneCell' = true := v13_all (P := fun v => v.oneCell' = true) (fun v _ => rfl)

set_option maxHeartbeats 2000000 in
set_option maxRecDepth 100000 in
theorem maskPublics_calls (b : Nat) (S : SS) (L : Nat → List Frm.It) (w : World) (h : SSAt w b S) (hL : ∀ v, v < 13 → ItemsAt w (S.it v) (L v)) :
    Calls Tryz.prog 251 #[.pointer (some ⟨b, 0, none⟩)] w fun e w' => e = .returned (.agg (v13 fun u : Nat => .int .i64 (Cli.itemOf (L u) u).2.2.1).toArray) ∧ Below w.heap.size w w' := by
  have hbl := h.lt
  have BW : Below w.heap.size w ((w.alloc (.cells (v13 fun _ => .int .i64 0).toArray 104)).alloc (.cells (v13 fun _ => .int .i64 0).toArray 104)) := ((Below.refl _ _).alloc (Nat.le_refl _) _).alloc (by simp) _
  have HRG := hideG (h.below BW).allit
  have BB := hideG BW
  have HA := hideG (heap_alloc2_old w (.cells (v13 fun _ => .int .i64 0).toArray 104) (.cells (v13 fun _ => .int .i64 0).toArray 104))
  have HBn := hideG (heap_alloc2_new w (.cells (v13 fun _ => .int .i64 0).toArray 104) (.cells (v13 fun _ => .int .i64 0).toArray 104))
  have LX := hideG (v13_length S.it)
  have HIX := hideG (ix_lists S.it)
  have HFO := hideG (fun (k : Nat) (hk : k < 13) => items_form (hL k hk))
  have HCI := hideG (fun (w1 : World) (k : Nat) (hk : k < 13) (hb : Below w.heap.size w w1) => sItemOf_calls (S.it k) (L k) (k : Int) w1 ((hL k hk).below hb))
  clear h hL BW
  generalize S.it = it at *
  obtain ⟨CS, hCS⟩ : ∃ CS, CS = v13 it := ⟨_, rfl⟩
  rw [← hCS] at HRG LX HIX
  clear hCS
  have HSL := hideG (show (Tryz.prog.info? 103).map (·.size) = some CS.length by rw [size_lists, LX.out])
  obtain ⟨W, hW⟩ : ∃ W, W = (w.alloc (.cells #[.int .i64 0, .int .i64 0, .int .i64 0, .int .i64 0, .int .i64 0, .int .i64 0, .int .i64 0, .int .i64 0, .int .i64 0, .int .i64 0, .int .i64 0, .int .i64 0, .int .i64 0] 104)).alloc (.cells #[.int .i64 0, .int .i64 0, .int .i64 0, .int .i64 0, .int .i64 0, .int .i64 0, .int .i64 0, .int .i64 0, .int .i64 0, .int .i64 0, .int .i64 0, .int .i64 0, .int .i64 0] 104) := ⟨_, rfl⟩
  change Hid (World.rangeAt ((w.alloc (.cells #[.int .i64 0, .int .i64 0, .int .i64 0, .int .i64 0, .int .i64 0, .int .i64 0, .int .i64 0, .int .i64 0, .int .i64 0, .int .i64 0, .int .i64 0, .int .i64 0, .int .i64 0] 104)).alloc (.cells #[.int .i64 0, .int .i64 0, .int .i64 0, .int .i64 0, .int .i64 0, .int .i64 0, .int .i64 0, .int .i64 0, .int .i64 0, .int .i64 0, .int .i64 0, .int .i64 0, .int .i64 0] 104)) b 32 CS) at HRG
  have BB2 := hideG (show Below w.heap.size w W by rw [hW]; exact BB.out)
  have VA := hideG (show V13At W w.heap.size 104 (fun _ => .int .i64 0) by rw [hW]; exact HA.out)
  have VB := hideG (show V13At W (w.heap.size + 1) 104 (fun _ => .int .i64 0) by rw [hW]; exact HBn.out)
  rw [← hW] at HRG
  have HW := hideG hW
  clear hW BB HA HBn
  go_enter Tryz.func251, Tryz.ntmps251
  go_upto_region 2 with fail
  rw [← HW.out]
  go_wp2_with (refine wpList_load_mid rfl 103 _ rfl b 32 rfl CS _ HRG.out Tryz.underlying103 rfl HSL.out ?_)
  go_loopw [10] (fun i wr => ∃ k : Nat, k ≤ 13 ∧ i = .int .i64 k ∧ V13At wr (w.heap.size + 1) 104 (fun u : Nat => if u < k then .int .i64 (Cli.itemOf (L u) u).2.2.1 else .int .i64 0) ∧ V13At wr w.heap.size 104 (fun _ => .int .i64 0) ∧ Below w.heap.size w wr) (fun i _ => 13 - (intOf i).toNat)
  case atStart => exact ⟨0, by omega, rfl, VB.out.ext (fun v _ => by simp), VA.out, BB2.out⟩
  case round =>
    obtain ⟨k, hk, rfl, hvb, hva, hbel⟩ := hrel
    have HVB := hideG hvb
    have HVA := hideG hva
    have HB := hideG hbel
    have hs1 := hvb.lt
    clear hvb hva hbel
    by_cases hlt : k < 13
    · have hlt' : (k : Int) < 13 := by omega
      have hix := HIX.out k hlt
      have CI := hideG (HCI.out wr k hlt HB.out)
      obtain ⟨fa, fn, fc, hf⟩ := HFO.out k hlt
      rw [hf] at hix CI
      clear hf
      unfold itmV at CI
      obtain ⟨y0, y1, y2, y3, hy⟩ : ∃ y0 y1 y2 y3, Cli.itemOf (L k) (k : Int) = (y0, y1, y2, y3) := ⟨_, _, _, _, rfl⟩
      rw [hy] at CI
      have HY := hideG (show (Cli.itemOf (L k) (k : Int)).2.2.1 = y2 by rw [hy])
      clear hy
      go_wp2_with fail
      refine CI.out.mono ?_
      rintro e w1 ⟨rfl, hb1⟩
      have s1 := hb1.size
      have z0 := (HVB.out.below hb1 hs1).cell k hlt
      have zf := (HVB.out.below hb1 hs1).froz k
      have HV2 := hideG (show V13At (w1.setCell ⟨w.heap.size + 1, k, none⟩ (.int .i64 y2)) (w.heap.size + 1) 104 (fun u : Nat => if u < k + 1 then .int .i64 (Cli.itemOf (L u) u).2.2.1 else .int .i64 0) from
        ((HVB.out.below hb1 hs1).set k hlt (.int .i64 y2)).ext (fun v hv => by
          unfold updV
          by_cases e : v = k
          · subst e; rw [if_pos rfl, if_pos (by omega), HY.out]
          · rw [if_neg e]
            by_cases c : v < k
            · show (if v < k then _ else _) = _
              rw [if_pos c, if_pos (by omega)]
            · show (if v < k then _ else _) = _
              rw [if_neg c, if_neg (by omega)]))
      have HA2 := hideG (show V13At (w1.setCell ⟨w.heap.size + 1, k, none⟩ (.int .i64 y2)) w.heap.size 104 (fun _ => .int .i64 0) from (HVA.out.below hb1 (by omega)).block (Below.heap_setCell _ _ _ _ (by simp)))
      have HB2 := hideG ((HB.out.trans (hb1.mono HB.out.size)).setCell (p := ⟨w.heap.size + 1, k, none⟩) (by show w.heap.size ≤ w.heap.size + 1; omega) (.int .i64 y2))
      clear hb1
      have hfl := field_B (.int .i64 y0) (.int .i64 y1) (.int .i64 y2) (.int .i64 y3) w1
      go_wp2_with fail
      go_roundw
      case rel => exact ⟨k + 1, by omega, by go_num, HV2.out, HA2.out, HB2.out⟩
      case measure => simp [intOf]; omega
    · have ek : k = 13 := by omega
      subst ek
      have HST := hideG (show V13At wr (w.heap.size + 1) 104 (fun u : Nat => .int .i64 (Cli.itemOf (L u) u).2.2.1) from HVB.out.ext (fun v hv => by rw [if_pos hv]))
      have RG := hideG HST.out.range
      have LY := hideG (v13_length (fun u : Nat => .int .i64 (Cli.itemOf (L u) u).2.2.1))
      have HON := hideG (all_oneCell_toArray (itemsV_one (fun u : Nat => (Cli.itemOf (L u) u).2.2.1)))
      have HTH := hideG (show wr.there w.heap.size 0 (v13 (fun u : Nat => .int .i64 (Cli.itemOf (L u) u).2.2.1)).toArray.size from fun i hi => by
        rw [List.size_toArray, v13_length] at hi
        exact ⟨by rw [Nat.zero_add, HVA.out.cell i hi]; rfl, by rw [Nat.zero_add]; exact HVA.out.froz i⟩)
      have HROW := hideG (show (wr.setCells w.heap.size 0 (v13 (fun u : Nat => .int .i64 (Cli.itemOf (L u) u).2.2.1))).heap[w.heap.size]? = some (.cells (v13 (fun u : Nat => .int .i64 (Cli.itemOf (L u) u).2.2.1)).toArray 104 (0, 0)) by
        have := heap_setCells w.heap.size 104 (v13 (fun u : Nat => .int .i64 (Cli.itemOf (L u) u).2.2.1)) [] (v13 fun _ => .int .i64 0) [] wr rfl (by rw [List.append_nil]; exact HVA.out)
        rw [List.append_nil] at this
        exact this)
      have BF := hideG (show Below w.heap.size w (wr.setCells w.heap.size 0 (v13 (fun u : Nat => .int .i64 (Cli.itemOf (L u) u).2.2.1))) from below_setCells (Nat.le_refl _) _ _ _ HB.out)
      obtain ⟨CU, hCU⟩ : ∃ CU, CU = v13 (fun u : Nat => .int .i64 (Cli.itemOf (L u) u).2.2.1) := ⟨_, rfl⟩
      rw [← hCU] at RG LY HON HTH HROW BF
      have HCU := hideG hCU
      clear hCU
      have HSZ := hideG (show (Tryz.prog.info? 104).map (·.size) = some CU.toArray.size by rw [size_nums, List.size_toArray, LY.out])
      have HSU := hideG (show (Tryz.prog.info? 104).map (·.size) = some CU.length by rw [size_nums, LY.out])
      go_wp2_with (first | refine wpList_load_mid rfl 104 _ rfl (w.heap.size + 1) 0 rfl CU _ RG.out Tryz.underlying104 rfl HSU.out ?_ | refine wpList_store_mid rfl 104 _ _ rfl w.heap.size 0 CU.toArray rfl rfl HTH.out HSZ.out HON.out ?_)
      refine bodyPost_ret (results_cell_row rfl _ _ w.heap.size 104 CU.toArray (0, 0) _ rfl HROW.out Tryz.underlying104 rfl HSZ.out) rfl ?_
      exact ⟨by rw [HCU.out], BF.out⟩

/-- The numbers of one place, of the first n lists, added up. -/
def addG (L : Nat → List Frm.It) (i n : Nat) : Int := ((List.range n).map fun v => (Cli.itemOf (L v) ((i : Int) + 1)).2.1).sum
theorem addG_succ (L : Nat → List Frm.It) (i n : Nat) : addG L i (n + 1) = addG L i n + (Cli.itemOf (L n) ((i : Int) + 1)).2.1 := by
  unfold addG; rw [List.range_succ, List.map_append, Srv.sum_app]; simp
theorem addG_bd (L : Nat → List Frm.It) (hw : ∀ (v : Nat) (x : Int), 0 ≤ (Cli.itemOf (L v) x).2.1 ∧ (Cli.itemOf (L v) x).2.1 < 4294967296) (i : Nat) : ∀ n, 0 ≤ addG L i n ∧ addG L i n ≤ 4294967296 * n
  | 0 => by simp [addG]
  | n + 1 => by
    have h1 := addG_bd L hw i n
    have h2 := hw n ((i : Int) + 1)
    rw [addG_succ]
    omega
def sumsG (L : Nat → List Frm.It) (n : Nat) : List Int := (List.range n).map fun i => addG L i 13 % 4294967296
theorem sumsG_succ (L : Nat → List Frm.It) (n : Nat) : sumsG L (n + 1) = sumsG L n ++ [addG L n 13 % 4294967296] := by unfold sumsG; rw [List.range_succ, List.map_append]; rfl
set_option maxHeartbeats 2000000 in
set_option maxRecDepth 100000 in
theorem maskedSum_calls (b : Nat) (S : SS) (L : Nat → List Frm.It) (M : Nat) (w : World) (h : SSAt w b S) (hL : ∀ v, v < 13 → ItemsAt w (S.it v) (L v)) (hm : S.m = (M : Int)) (hM : M ≤ 12) (hw : ∀ (v : Nat) (x : Int), 0 ≤ (Cli.itemOf (L v) x).2.1 ∧ (Cli.itemOf (L v) x).2.1 < 4294967296) :
    Calls Tryz.prog 252 #[.pointer (some ⟨b, 0, none⟩)] w fun e w' => ∃ va, e = .returned va ∧ w'.ownsRow w.heap.size 3 1 va M ((sumsG L M).map (Value.int .i64)) ∧ Below w.heap.size w w' := by
  obtain ⟨i0, hi, hz0, hz1, hz2⟩ := info_parts infoIn
  have hbl := h.lt
  have HC2 := hideG (fun (w1 : World) (hb : Below w.heap.size w w1) => (show w1.cell? ⟨b, 2, none⟩ = some (.int .i64 (M : Int)) by rw [← hm]; exact (h.below hb).m))
  have HRG := hideG (fun (w1 : World) (hb : Below w.heap.size w w1) => (h.below hb).allit)
  have LX := hideG (v13_length S.it)
  have HIX := hideG (ix_lists S.it)
  have HFO := hideG (fun (k : Nat) (hk : k < 13) => items_form (hL k hk))
  have HCI := hideG (fun (w1 : World) (k : Nat) (x : Int) (hk : k < 13) (hb : Below w.heap.size w w1) => sItemOf_calls (S.it k) (L k) x w1 ((hL k hk).below hb))
  have HWD := hideG hw
  have HBD := hideG (addG_bd L hw)
  clear h hL hw hm
  generalize S.it = it at *
  obtain ⟨CS, hCS⟩ : ∃ CS, CS = v13 it := ⟨_, rfl⟩
  rw [← hCS] at HRG LX HIX
  clear hCS
  have HSL := hideG (show (Tryz.prog.info? 103).map (·.size) = some CS.length by rw [size_lists, LX.out])
  go_enter Tryz.func252, Tryz.ntmps252
  go_wp2_with fail
  go_loopw [3, 4] (fun ro i wr => ∃ k : Nat, k ≤ M ∧ i = .int .i64 ((k : Int) + 1) ∧ wr.ownsRow w.heap.size 3 1 ro k ((sumsG L k).map (Value.int .i64)) ∧ Below w.heap.size w wr) (fun _ i _ => M + 1 - (intOf i).toNat)
  case atStart => exact ⟨0, by omega, rfl, World.ownsRow_nil _ _ _ _, Below.refl _ _⟩
  case round =>
    obtain ⟨k, hk, rfl, hown, hbel⟩ := hrel
    have HO := hideG hown
    have HB := hideG hbel
    have hsz := hbel.size
    obtain ⟨a3, c3, hv3⟩ := owns_form hown
    subst hv3
    have c2 := HC2.out wr hbel
    have RG := hideG (HRG.out wr hbel)
    clear hown hbel
    by_cases hlt : k < M
    · have hle : (k : Int) + 1 ≤ (M : Int) := by omega
      go_wp2_with (refine wpList_load_mid rfl 103 _ rfl b 32 rfl CS _ RG.out Tryz.underlying103 rfl HSL.out ?_)
      go_loopw [5, 21] (fun x j wq => ∃ m : Nat, m ≤ 13 ∧ j = .int .i64 (m : Int) ∧ x = .int .i64 (addG L k m) ∧ wq.ownsRow w.heap.size 3 1 (.slice a3 k c3) k ((sumsG L k).map (Value.int .i64)) ∧ Below w.heap.size w wq) (fun _ j _ => 13 - (intOf j).toNat)
      case atStart => exact ⟨0, by omega, rfl, rfl, HO.out, HB.out⟩
      case round =>
        obtain ⟨m, hm, rfl, rfl, hown, hbel⟩ := hrel
        have HO1 := hideG hown
        have HB1 := hideG hbel
        have hsz1 := hbel.size
        clear hown hbel
        obtain ⟨bd1, bd2⟩ := HBD.out k m
        have HSU := hideG (addG_succ L k m)
        by_cases hlt2 : m < 13
        · have hlt2' : (m : Int) < 13 := by omega
          have hix := HIX.out m hlt2
          have CI := hideG (HCI.out _ m ((k : Int) + 1) hlt2 HB1.out)
          obtain ⟨fa, fn, fc, hf⟩ := HFO.out m hlt2
          rw [hf] at hix CI
          clear hf
          unfold itmV at CI
          obtain ⟨wd1, wd2⟩ := HWD.out m ((k : Int) + 1)
          obtain ⟨y0, y1, y2, y3, hy⟩ : ∃ y0 y1 y2 y3, Cli.itemOf (L m) ((k : Int) + 1) = (y0, y1, y2, y3) := ⟨_, _, _, _, rfl⟩
          rw [hy] at CI wd1 wd2 HSU
          clear hy
          obtain ⟨t, ht⟩ : ∃ t, t = addG L k m := ⟨_, rfl⟩
          rw [← ht] at bd1 bd2 HSU ⊢
          clear ht
          have wd1' : 0 ≤ y1 := wd1
          have wd2' : y1 < 4294967296 := wd2
          clear wd1 wd2
          have hmm : (m : Int) ≤ 13 := by omega
          go_wp2_with fail
          refine CI.out.mono ?_
          rintro e w1 ⟨rfl, hb1⟩
          have B2 := hideG (HB1.out.trans (hb1.mono HB1.out.size))
          have O2 := hideG (ownsRow_chg (S := fun _ => False) HO1.out (Chg.of_below hb1) (fun _ _ h => h))
          clear hb1
          have hfl := field_A (.int .i64 y0) (.int .i64 y1) (.int .i64 y2) (.int .i64 y3) w1
          go_wp2_with fail
          go_roundw
          case rel => exact ⟨m + 1, by omega, by go_num, by rw [HSU.out], O2.out, B2.out⟩
          case measure => simp [intOf]; omega
        · have em : m = 13 := by omega
          subst em
          have HSS := hideG (sumsG_succ L k)
          obtain ⟨t, ht⟩ : ∃ t, t = addG L k 13 := ⟨_, rfl⟩
          rw [← ht] at bd1 bd2 HSS ⊢
          clear ht HSU
          have bd3 : t ≤ 55834574848 := by omega
          clear bd2
          obtain ⟨R, hR⟩ : ∃ R, R = t % 4294967296 := ⟨_, rfl⟩
          have hR' : t % 4294967296 = R := hR.symm
          have HRR := hideG hR'
          clear hR
          go_wp2_with (at_builtin; refine wpList_append_own _ rfl _ _ 33 rfl w.heap.size 3 i0 (.int .i64 0) 1 8 Tryz.underlying33 hi hz0 hz1 hz2 rfl (by decide) _ _ _ rfl (HO1.out.alloc _) ⟨wr.heap.size, 0, none⟩ 1 1 [.int .i64 R] rfl rfl ?c1 ?c2 ?c3 ?c4 ?c5 ?_)
          case c1 => exact cell_one_new _ _ _
          case c2 => intro u hu; simp at hu; subst hu; rfl
          case c3 => unfold maxLen; omega
          case c4 => omega
          case c5 => simp; omega
          intro v' w2 hown' hgrow' _
          have hb2 := (HB1.out.alloc hsz1 _).grown hgrow' (by simp; omega) (fun x h => (HO1.out.lt x h).1)
          have B2 := hideG hb2
          have O2 := hideG (show w2.ownsRow w.heap.size 3 1 v' (k + 1) ((sumsG L (k + 1)).map (Value.int .i64)) by
            rw [HSS.out, List.map_append, HRR.out]; exact hown')
          clear hown' hgrow' hb2
          go_wp2_with fail
          go_roundw
          case rel => exact ⟨k + 1, by omega, by go_num, O2.out, B2.out⟩
          case measure => simp [intOf]; omega
    · have ek : k = M := by omega
      subst ek
      go_wp2_with fail
      go_ret
      exact ⟨_, rfl, HO.out, HB.out⟩

end Go.Proofs.YtchideljndagjabGreat
