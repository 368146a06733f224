/- ownBytes, ownItems: lists are written full and owned. -/
import Derived.Test.YtchideljndagjabGreatPkSeAF
import Derived.Test.YtchideljndagjabGreatPkSeAC
import Derived.Test.YtchideljndagjabGreatPkSeAA
import Derived.Test.YtchideljndagjabGreatPkSeAB
import Derived.Deep.MidRow
import Derived.Deep.WholeRow
import Derived.WalkSpells
import Derived.RegionTactic
import Derived.BigRegion
import Derived.Test.YtchideljndagjabGreatRows
import Derived.Laws.Concat
namespace Go.Proofs.YtchideljndagjabGreat
open Go.ChangeShapes Go.WideShapes Go.ChangeAt Go.RowKit
set_option linter.unusedVariables false

theorem infoBL : (Tryz.prog.info? 47).map (fun i => (i.zero, i.size, i.bytes)) = some (some (.slice none 0 0), 1, 24) := by kernel_rfl
theorem owCells_bytes (b : Option Nat) (n : Nat) (m : Int) : owCells (cat 1) (b, n, m) = List.replicate n (.int .u8 m) := by
  show (List.replicate n [Value.int .u8 m]).flatten = _
  induction n with
  | zero => rfl
  | succ n ih => rw [List.replicate_succ, List.flatten_cons, ih, List.replicate_succ]; rfl

theorem filled_end1 {w wr : World} {g : Nat} {e : TypeId} {n : Nat} {m : Int} (h : Filled w g e n (.int .u8 m) n wr) : wr.heap[g]? = some (.cells (owCells (cat 1) (some g, n, m)).toArray e (0, 0)) := by
  obtain ⟨_, cur, h1, h2, h3⟩ := h
  rw [h1]
  have e1 := owCells_bytes (some g) n m
  rw [e1]
  congr 2
  apply Array.ext_getElem?
  intro i
  by_cases hi : i < n
  · rw [h3 i hi]; simp [hi]
  · rw [Array.getElem?_eq_none (by omega), Array.getElem?_eq_none (by simp; omega)]

set_option maxHeartbeats 1000000 in
set_option maxRecDepth 100000 in
theorem ownBytes_calls (pw : Nat) (F : Nat → Value) (nx : Int) (ls : Nat → List Ow) (g n cap : Nat) (cur : Array Value) (w : World) (h : InvW w pw F nx ls) (h0 : 0 ≤ nx) (h1 : nx ≤ 1000000000000000000)
    (hlen : ((ls 1).length + 1) * 24 ≤ 140737488355328) (hg : w.heap[g]? = some (.cells cur 5 (0, 0))) (hcs : cur.size = cap) (hnc : n ≤ cap) (hcm : cap ≤ maxLen) (hpg : pw < g) (hfoot : ¬ Foot F ls g) :
    Calls Tryz.prog 95 #[.pointer (some ⟨pw, 0, none⟩), .slice (some ⟨g, 0, none⟩) n cap] w fun e w' => e = .returned (.tuple #[]) ∧ ∃ F', InvW w' pw F' (nx + 1) (updL ls 1 (ls 1 ++ [(some g, cap, mkN nx)])) ∧
      (∀ b, b < w.heap.size → g ≠ b → ¬ Foot F ls b → ¬ Foot F' (updL ls 1 (ls 1 ++ [(some g, cap, mkN nx)])) b) ∧ (∀ j, j < 3 → F' j = F j) ∧
      Chg (fun b => b = pw ∨ g = b ∨ Foot F ls b) w w' := by
  obtain ⟨i0, hi, hz0, hz1, hz2⟩ := info_parts infoI
  obtain ⟨i1, hi1, hy0, hy1, hy2⟩ := info_parts infoBL
  unfold maxLen at hcm
  have m1 := mkN_lo nx
  have m2 := mkN_hi nx
  have hgl : g < w.heap.size := by
    by_cases hb : g < w.heap.size
    · exact hb
    · rw [Array.getElem?_eq_none (by omega)] at hg; cases hg
  have hpl := h.pw_lt
  have HI := hideG h
  have HF := hideG hfoot
  have HG := hideG hg
  have HC := hideG hcs
  clear h hfoot hg hcs
  go_enter Tryz.func95, Tryz.ntmps95
  go_wp2_with fail
  refine (mark_calls pw F nx ls _ HI.out h0 h1).mono ?_
  rintro e w1 ⟨rfl, hw1⟩
  have g1 : w1.heap[g]? = some (.cells cur 5 (0, 0)) := by rw [hw1, Below.heap_setCell _ _ _ _ (by simp; omega)]; exact HG.out
  have W1 := hideG hw1
  have G1 := hideG g1
  clear hw1 g1
  generalize hm : mkN nx = m at *
  have HM := hideG hm
  clear hm
  go_wp2_with fail
  go_loopw [6] (fun i wr => ∃ k : Nat, k ≤ cap ∧ i = .int .i64 k ∧ Filled w1 g 5 cap (.int .u8 m) k wr) (fun i _ => cap - (intOf i).toNat)
  case atStart => exact ⟨0, by omega, rfl, filled_start G1.out HC.out⟩
  case round =>
    obtain ⟨k, hk, rfl, hfill⟩ := hrel
    have FI := hideG hfill
    by_cases hlt : k < cap
    · obtain ⟨⟨v, c1⟩, c2⟩ := filled_cell hfill k hlt
      clear hfill
      go_wp2_with fail
      go_roundw
      case rel => exact ⟨k + 1, by omega, by go_num, filled_next FI.out hlt⟩
      case measure => simp [intOf]; omega
    · have ek : k = cap := by omega
      subst ek
      clear hfill
      have k2 := FI.out.1.mono (S' := fun b => ((some g, k, m) : Ow).1 = some b) (fun b e _ => by rw [e])
      have K2 := hideG k2
      obtain ⟨a1, a2, a3, a4, a5⟩ := own_mid1 HI.out 1 (by omega) W1.out k2 (fun x e => by cases e; exact ⟨HF.out, hpg⟩)
      obtain ⟨c3, c3f⟩ := cell_f a1 4 (by omega)
      rw [upd_other _ _ (by omega)] at c3
      have A1 := hideG a1
      have A2 := hideG a2
      have A3 := hideG a3
      clear a1 a2 a3 a5 k2
      go_wp2_with (at_builtin; refine wpList_append_one _ rfl _ _ 83 rfl (pw + 1) 47 i1 (.slice none 0 0) 24 Tryz.underlying83 hi1 hy0 hy1 hy2 rfl (F 4) (ls 1).length ((ls 1).map owVal) rfl (A2.out.alloc _) ⟨wr.heap.size, 0, none⟩ 1 (.slice (some ⟨g, 0, none⟩) k k) rfl (by simp [go_sem]) rfl (by unfold maxLen; omega) hlen (by simp; omega) ?_)
      intro g3 cap3 w3 ho3 hg3 hv3
      obtain ⟨p1, p2, p3, p4⟩ := own_mid2 HI.out 1 (by omega) A1.out A3.out A2.out hg3
      obtain ⟨c9, c9f⟩ := cell_f p1 10 (by omega)
      rw [upd_other _ _ (by omega)] at c9
      obtain ⟨d3, d3f⟩ := cell_f p1 4 (by omega)
      rw [upd_other _ _ (by omega)] at d3
      have O3 := hideG ho3
      have K3 := hideG hg3
      have V3 := hideG (own_one (n := (ls 1).length + 1) (c := cap3) hv3)
      have P1 := hideG p1
      have P2 := hideG p2
      clear ho3 hg3 hv3 p1 p2 p4 c3 c3f
      go_wp2_with (at_builtin; (refine wpList_append_one _ rfl _ _ 33 rfl (pw + 1) 3 i0 (.int .i64 0) 8 Tryz.underlying33 hi hz0 hz1 hz2 rfl (F 10) (ls 1).length ((ls 1).map fun o => Value.int .i64 o.2.2) rfl ((ownsRow_setCell_below P2.out (by simp) _).alloc _) ⟨w3.heap.size, 0, none⟩ 1 (.int .i64 m) rfl (by simp [go_sem]) rfl (by unfold maxLen; omega) (by omega) (by simp [World.setCell]; omega) ?_))
      intro g5 cap5 w5 ho5 hg5 hv5
      obtain ⟨q1, q2, q3⟩ := own_mid3 HI.out 1 P1.out P2.out (.slice (some ⟨g3, 0, none⟩) ((ls 1).length + 1) cap3) hg5
      obtain ⟨f9, f9f⟩ := cell_f q1 10 (by omega)
      have O5 := hideG ho5
      have K5 := hideG hg5
      have V5 := hideG (own_one (n := (ls 1).length + 1) (c := cap5) hv5)
      clear ho5 hg5 hv5 q1 q3 d3 d3f c9 c9f
      go_wp2_with fail
      go_end0
      have R := own_finish HI.out 1 (by omega) (o := (some g, k, m)) (.slice (some ⟨g3, 0, none⟩) ((ls 1).length + 1) cap3) (.slice (some ⟨g5, 0, none⟩) ((ls 1).length + 1) cap5) W1.out K2.out K3.out O3.out (fun b hb => by simpa [cat] using V3.out b hb) K5.out O5.out (fun b hb => by simpa [World.setCell, cat] using V5.out b hb) (fun x e => by cases e; exact ⟨HF.out, hpg, hgl, filled_end1 FI.out⟩) (fun e => by cases e) (by first | exact Nat.zero_le _ | (show k ≤ maxLen; unfold maxLen; omega))
      rw [HM.out]
      exact ⟨rfl, _, R.1, fun b hb hne hf => R.2.1 b hb (by simpa using hne) hf, R.2.2.1, R.2.2.2.mono (fun b e _ => by simpa using e)⟩

set_option maxHeartbeats 1000000 in
set_option maxRecDepth 100000 in
theorem ownBytes_calls_nil (pw : Nat) (F : Nat → Value) (nx : Int) (ls : Nat → List Ow) (w : World) (h : InvW w pw F nx ls) (h0 : 0 ≤ nx) (h1 : nx ≤ 1000000000000000000)
    (hlen : ((ls 1).length + 1) * 24 ≤ 140737488355328) :
    Calls Tryz.prog 95 #[.pointer (some ⟨pw, 0, none⟩), .slice none 0 0] w fun e w' => e = .returned (.tuple #[]) ∧ ∃ F', InvW w' pw F' (nx + 1) (updL ls 1 (ls 1 ++ [(none, 0, mkN nx)])) ∧
      (∀ b, b < w.heap.size → ¬ Foot F ls b → ¬ Foot F' (updL ls 1 (ls 1 ++ [(none, 0, mkN nx)])) b) ∧ (∀ j, j < 3 → F' j = F j) ∧
      Chg (fun b => b = pw ∨ Foot F ls b) w w' := by
  obtain ⟨i0, hi, hz0, hz1, hz2⟩ := info_parts infoI
  obtain ⟨i1, hi1, hy0, hy1, hy2⟩ := info_parts infoBL
  have m1 := mkN_lo nx
  have m2 := mkN_hi nx
  have hpl := h.pw_lt
  have HI := hideG h
  clear h
  go_enter Tryz.func95, Tryz.ntmps95
  go_wp2_with fail
  refine (mark_calls pw F nx ls _ HI.out h0 h1).mono ?_
  rintro e wr ⟨rfl, hw1⟩
  have W1 := hideG hw1
  clear hw1
  generalize hm : mkN nx = m at *
  have HM := hideG hm
  clear hm
  have k2 : Chg (fun b => ((none, 0, m) : Ow).1 = some b) wr wr := Chg.refl _ _
  have K2 := hideG k2
  obtain ⟨a1, a2, a3, a4, a5⟩ := own_mid1 HI.out 1 (by omega) W1.out k2 (fun x e => by cases e)
  obtain ⟨c3, c3f⟩ := cell_f a1 4 (by omega)
  rw [upd_other _ _ (by omega)] at c3
  have A1 := hideG a1
  have A2 := hideG a2
  have A3 := hideG a3
  clear a1 a2 a3 a5 k2
  go_wp2_with fail
  go_loop [6] (fun i => i = .int .i64 0) (fun _ => 0)
  case atStart => rfl
  case round =>
    subst hrel
    go_wp2_with (at_builtin; refine wpList_append_one _ rfl _ _ 83 rfl (pw + 1) 47 i1 (.slice none 0 0) 24 Tryz.underlying83 hi1 hy0 hy1 hy2 rfl (F 4) (ls 1).length ((ls 1).map owVal) rfl (A2.out.alloc _) ⟨wr.heap.size, 0, none⟩ 1 (.slice none 0 0) rfl (by simp [go_sem]) rfl (by unfold maxLen; omega) hlen (by simp; omega) ?_)
    intro g3 cap3 w3 ho3 hg3 hv3
    obtain ⟨p1, p2, p3, p4⟩ := own_mid2 HI.out 1 (by omega) A1.out A3.out A2.out hg3
    obtain ⟨c9, c9f⟩ := cell_f p1 10 (by omega)
    rw [upd_other _ _ (by omega)] at c9
    obtain ⟨d3, d3f⟩ := cell_f p1 4 (by omega)
    rw [upd_other _ _ (by omega)] at d3
    have O3 := hideG ho3
    have K3 := hideG hg3
    have V3 := hideG (own_one (n := (ls 1).length + 1) (c := cap3) hv3)
    have P1 := hideG p1
    have P2 := hideG p2
    clear ho3 hg3 hv3 p1 p2 p4 c3 c3f
    go_wp2_with (at_builtin; (refine wpList_append_one _ rfl _ _ 33 rfl (pw + 1) 3 i0 (.int .i64 0) 8 Tryz.underlying33 hi hz0 hz1 hz2 rfl (F 10) (ls 1).length ((ls 1).map fun o => Value.int .i64 o.2.2) rfl ((ownsRow_setCell_below P2.out (by simp) _).alloc _) ⟨w3.heap.size, 0, none⟩ 1 (.int .i64 m) rfl (by simp [go_sem]) rfl (by unfold maxLen; omega) (by omega) (by simp [World.setCell]; omega) ?_))
    intro g5 cap5 w5 ho5 hg5 hv5
    obtain ⟨q1, q2, q3⟩ := own_mid3 HI.out 1 P1.out P2.out (.slice (some ⟨g3, 0, none⟩) ((ls 1).length + 1) cap3) hg5
    obtain ⟨f9, f9f⟩ := cell_f q1 10 (by omega)
    have O5 := hideG ho5
    have K5 := hideG hg5
    have V5 := hideG (own_one (n := (ls 1).length + 1) (c := cap5) hv5)
    clear ho5 hg5 hv5 q1 q3 d3 d3f c9 c9f
    go_wp2_with fail
    go_end0
    have R := own_finish HI.out 1 (by omega) (o := (none, 0, m)) (.slice (some ⟨g3, 0, none⟩) ((ls 1).length + 1) cap3) (.slice (some ⟨g5, 0, none⟩) ((ls 1).length + 1) cap5) W1.out K2.out K3.out O3.out (fun b hb => by simpa [cat] using V3.out b hb) K5.out O5.out (fun b hb => by simpa [World.setCell, cat] using V5.out b hb) (fun x e => by cases e) (fun _ => rfl) (Nat.zero_le _)
    rw [HM.out]
    exact ⟨rfl, _, R.1, fun b hb hf => R.2.1 b hb (by simp) hf, R.2.2.1, R.2.2.2.mono (fun b e _ => by simpa using e)⟩

/-- Bytes in a row of their own, owned. -/
theorem own_bytes (pw : Nat) (F : Nat → Value) (nx : Int) (ls : Nat → List Ow) (v : Value) (n : Nat) (xs : List Value) (B : Nat) (w : World) (h : InvW w pw F nx ls) (h0 : 0 ≤ nx) (h1 : nx ≤ 1000000000000000000)
    (hlen : ((ls 1).length + 1) * 24 ≤ 140737488355328) (hown : w.ownsRow B 5 1 v n xs) (hB : pw < B) (hfoot : ∀ b, v.ownBlock = some b → ¬ Foot F ls b) :
    Calls Tryz.prog 95 #[.pointer (some ⟨pw, 0, none⟩), v] w fun e w' => e = .returned (.tuple #[]) ∧ ∃ F' o, InvW w' pw F' (nx + 1) (updL ls 1 (ls 1 ++ [o])) ∧
      (∀ b, b < w.heap.size → v.ownBlock ≠ some b → ¬ Foot F ls b → ¬ Foot F' (updL ls 1 (ls 1 ++ [o])) b) ∧ (∀ j, j < 3 → F' j = F j) ∧
      Chg (fun b => b = pw ∨ v.ownBlock = some b ∨ Foot F ls b) w w' ∧ 0 ≤ o.2.2 ∧ o.2.2 ≤ 255 := by
  have m1 := mkN_lo nx
  have m2 := mkN_hi nx
  rcases hown.2 with ⟨rfl, rfl⟩ | ⟨g, cap, cur, rfl, hg, hblk, hnc, hcm, hcs, _⟩
  · refine (ownBytes_calls_nil pw F nx ls w h h0 h1 hlen).mono ?_
    rintro e w' ⟨rfl, F', i1, i2, i3, i4⟩
    exact ⟨rfl, F', _, i1, fun b hb _ hf => i2 b hb hf, i3, i4.mono (fun b e _ => by rcases e with e | e; exact .inl e; exact .inr (.inr e)), by show 0 ≤ mkN nx; omega, by show mkN nx ≤ 255; omega⟩
  · refine (ownBytes_calls pw F nx ls g n cap cur w h h0 h1 hlen hblk (by omega) hnc hcm (by omega) (hfoot g rfl)).mono ?_
    rintro e w' ⟨rfl, F', i1, i2, i3, i4⟩
    refine ⟨rfl, F', _, i1, fun b hb hne hf => i2 b hb (fun e => hne (by rw [e]; rfl)) hf, i3, i4.mono (fun b e _ => ?_), by show 0 ≤ mkN nx; omega, by show mkN nx ≤ 255; omega⟩
    rcases e with e | e | e
    · exact .inl e
    · exact .inr (.inl (by rw [e]; rfl))
    · exact .inr (.inr e)

end Go.Proofs.YtchideljndagjabGreat

namespace Go.Proofs.YtchideljndagjabGreat
open Go.RowKit
set_option linter.unusedVariables false

def prCells (p : Cli.Pr) : List Value := [.bool p.mem, .int .i64 p.ck, .int .i64 p.mq, .int .i64 p.ms, .int .i64 p.ss]
def circN (f : Nat → Cli.Pr) : Nat → List Value
  | 0 => []
  | n + 1 => circN f n ++ prCells (f n)
def circ (f : Nat → Cli.Pr) : List Value := circN f 13
theorem circN_length (f : Nat → Cli.Pr) (n : Nat) : (circN f n).length = n * 5 := by
  induction n with
  | zero => rfl
  | succ n ih => show (circN f n ++ prCells (f n)).length = _; rw [List.length_append, ih]; show n * 5 + 5 = _; omega
theorem circ_length (f : Nat → Cli.Pr) : (circ f).length = 65 := circN_length f 13
theorem circN_get (f : Nat → Cli.Pr) (n v i : Nat) (hv : v < n) (hi : i < 5) : (circN f n)[v * 5 + i]? = (prCells (f v))[i]? := by
  induction n with
  | zero => omega
  | succ n ih =>
    show (circN f n ++ prCells (f n))[v * 5 + i]? = _
    by_cases e : v = n
    · subst e
      rw [List.getElem?_append_right (by rw [circN_length]; omega), circN_length]
      congr 1; omega
    · rw [List.getElem?_append_left (by rw [circN_length]; omega)]
      exact ih (by omega)
theorem circN_upd_ge (f : Nat → Cli.Pr) (v : Nat) (p : Cli.Pr) (n : Nat) (h : n ≤ v) : circN (Cli.updP f v p) n = circN f n := by
  induction n with
  | zero => rfl
  | succ n ih => show circN _ n ++ prCells _ = circN f n ++ prCells (f n); rw [ih (by omega), Cli.updP_other _ _ _ (by omega)]
theorem circN_upd (f : Nat → Cli.Pr) (v : Nat) (p : Cli.Pr) (n : Nat) (h : v < n) : circN (Cli.updP f v p) n = circN f v ++ (prCells p ++ (circN f n).drop (v * 5 + 5)) := by
  induction n with
  | zero => omega
  | succ n ih =>
    show circN (Cli.updP f v p) n ++ prCells (Cli.updP f v p n) = circN f v ++ (prCells p ++ (circN f n ++ prCells (f n)).drop (v * 5 + 5))
    by_cases e : v = n
    · subst e
      rw [circN_upd_ge f v p v (Nat.le_refl _), Cli.updP_same]
      rw [List.drop_of_length_le (by rw [List.length_append, circN_length]; exact Nat.le_refl _), List.append_nil]
    · rw [ih (by omega), Cli.updP_other _ _ _ (by omega), List.drop_append_of_le_length (by rw [circN_length]; omega)]
      simp
theorem circN_split (f : Nat → Cli.Pr) (v n : Nat) (h : v < n) : circN f n = circN f v ++ (prCells (f v) ++ (circN f n).drop (v * 5 + 5)) := by
  have e : Cli.updP f v (f v) = f := by funext u; unfold Cli.updP; split; (rename_i q; rw [q]); rfl
  have := circN_upd f v (f v) n h
  rwa [e] at this
/-- A row of cells in the middle of a block, replaced. -/
theorem heap_setCells (b : Nat) (T : TypeId) : ∀ (vs : List Value) (pre mid post : List Value) (w : World), mid.length = vs.length → w.heap[b]? = some (.cells (pre ++ (mid ++ post)).toArray T (0, 0)) →
    (w.setCells b pre.length vs).heap[b]? = some (.cells (pre ++ (vs ++ post)).toArray T (0, 0))
  | [], pre, mid, post, w, hl, h => by
    have : mid = [] := List.eq_nil_of_length_eq_zero hl
    subst this
    exact h
  | v :: vs, pre, mid, post, w, hl, h => by
    obtain ⟨m, ms, rfl⟩ : ∃ m ms, mid = m :: ms := by cases mid with | nil => simp at hl | cons m ms => exact ⟨m, ms, rfl⟩
    have h1 := heap_setCell_same w b pre.length _ T v h
    rw [List.setIfInBounds_toArray, List.set_append_right _ _ (Nat.le_refl _), Nat.sub_self] at h1
    have h2 := heap_setCells b T vs (pre ++ [v]) ms post (w.setCell ⟨b, pre.length, none⟩ v) (by simpa using hl) (by simpa using h1)
    rw [World.setCells]
    rw [List.length_append] at h2
    simpa using h2

theorem chg_setCells (b : Nat) : ∀ (vs : List Value) (o : Nat) (w : World), Chg (fun x => x = b) w (w.setCells b o vs)
  | [], o, w => Chg.refl _ _
  | v :: vs, o, w => by
    rw [World.setCells]
    exact (Chg.setCell w ⟨b, o, none⟩ v).trans (chg_setCells b vs (o + 1) _) (fun x h _ => h)

structure PS where
  id : Int
  ph : Int
  cp : Int
  mp : Int
  n : Int
  t : Int
  inp : Value
  ch : Int
  ms : Int
  sd : Int
  sm : Value
  ss : Value
  f : Nat → Cli.Pr
  told : Value

def psHead (s : PS) : List Value := [.int .i64 s.id, .int .i64 s.ph, .int .i64 s.cp, .int .i64 s.mp, .int .i64 s.n, .int .i64 s.t, s.inp, .int .i64 s.ch, .int .i64 s.ms, .int .i64 s.sd, s.sm, s.ss]
def psCells (s : PS) : List Value := psHead s ++ (circ s.f ++ [s.told])
def PSAt (w : World) (b : Nat) (T : TypeId) (s : PS) : Prop := w.heap[b]? = some (.cells (psCells s).toArray T (0, 0))

theorem PSAt.lt {w : World} {b : Nat} {T : TypeId} {s : PS} (h : PSAt w b T s) : b < w.heap.size := by
  by_cases hb : b < w.heap.size
  · exact hb
  · unfold PSAt at h; rw [Array.getElem?_eq_none (by omega)] at h; cases h
theorem psCells_length (s : PS) : (psCells s).length = 78 := by
  unfold psCells; rw [List.length_append, List.length_append, circ_length]; rfl

theorem PSAt.cell {w : World} {b : Nat} {T : TypeId} {s : PS} (h : PSAt w b T s) (i : Nat) : w.cell? ⟨b, i, none⟩ = (psCells s)[i]? := by
  rw [cell_of_row w b i _ T (0, 0) h]; simp
theorem PSAt.froz {w : World} {b : Nat} {T : TypeId} {s : PS} (h : PSAt w b T s) (i : Nat) : w.frozen? ⟨b, i, none⟩ = false := frozen_of_row w b i _ T h

theorem PSAt.c0 {w : World} {b : Nat} {T : TypeId} {s : PS} (h : PSAt w b T s) : w.cell? ⟨b, 0, none⟩ = some (.int .i64 s.id) := h.cell 0
theorem PSAt.c1 {w : World} {b : Nat} {T : TypeId} {s : PS} (h : PSAt w b T s) : w.cell? ⟨b, 1, none⟩ = some (.int .i64 s.ph) := h.cell 1
theorem PSAt.c2 {w : World} {b : Nat} {T : TypeId} {s : PS} (h : PSAt w b T s) : w.cell? ⟨b, 2, none⟩ = some (.int .i64 s.cp) := h.cell 2
theorem PSAt.c3 {w : World} {b : Nat} {T : TypeId} {s : PS} (h : PSAt w b T s) : w.cell? ⟨b, 3, none⟩ = some (.int .i64 s.mp) := h.cell 3
theorem PSAt.c4 {w : World} {b : Nat} {T : TypeId} {s : PS} (h : PSAt w b T s) : w.cell? ⟨b, 4, none⟩ = some (.int .i64 s.n) := h.cell 4
theorem PSAt.c5 {w : World} {b : Nat} {T : TypeId} {s : PS} (h : PSAt w b T s) : w.cell? ⟨b, 5, none⟩ = some (.int .i64 s.t) := h.cell 5
theorem PSAt.c6 {w : World} {b : Nat} {T : TypeId} {s : PS} (h : PSAt w b T s) : w.cell? ⟨b, 6, none⟩ = some s.inp := h.cell 6
theorem PSAt.c7 {w : World} {b : Nat} {T : TypeId} {s : PS} (h : PSAt w b T s) : w.cell? ⟨b, 7, none⟩ = some (.int .i64 s.ch) := h.cell 7
theorem PSAt.c8 {w : World} {b : Nat} {T : TypeId} {s : PS} (h : PSAt w b T s) : w.cell? ⟨b, 8, none⟩ = some (.int .i64 s.ms) := h.cell 8
theorem PSAt.c9 {w : World} {b : Nat} {T : TypeId} {s : PS} (h : PSAt w b T s) : w.cell? ⟨b, 9, none⟩ = some (.int .i64 s.sd) := h.cell 9
theorem PSAt.c10 {w : World} {b : Nat} {T : TypeId} {s : PS} (h : PSAt w b T s) : w.cell? ⟨b, 10, none⟩ = some s.sm := h.cell 10
theorem PSAt.c11 {w : World} {b : Nat} {T : TypeId} {s : PS} (h : PSAt w b T s) : w.cell? ⟨b, 11, none⟩ = some s.ss := h.cell 11
theorem PSAt.range {w : World} {b : Nat} {T : TypeId} {s : PS} (h : PSAt w b T s) : w.rangeAt b 12 (circ s.f) := by
  intro j v hv
  rw [h.cell (12 + j)]
  have hj : j < 65 := by have := (List.getElem?_eq_some_iff.1 hv).1; rwa [circ_length] at this
  unfold psCells
  rw [List.getElem?_append_right (by show 12 ≤ 12 + j; omega)]
  show (circ s.f ++ [s.told])[12 + j - 12]? = _
  rw [Nat.add_sub_cancel_left, List.getElem?_append_left (by rw [circ_length]; exact hj)]
  exact hv
theorem PSAt.there {w : World} {b : Nat} {T : TypeId} {s : PS} (h : PSAt w b T s) (o n : Nat) (ho : o + n ≤ 78) : w.there b o n := by
  intro j hj
  refine ⟨?_, h.froz _⟩
  rw [h.cell, List.getElem?_eq_getElem (by rw [psCells_length]; omega)]; rfl
/-- A peer, cell by cell. -/
def PrAt (w : World) (b o : Nat) (p : Cli.Pr) : Prop :=
  w.cell? ⟨b, o, none⟩ = some (.bool p.mem) ∧ w.cell? ⟨b, o + 1, none⟩ = some (.int .i64 p.ck) ∧ w.cell? ⟨b, o + 2, none⟩ = some (.int .i64 p.mq) ∧ w.cell? ⟨b, o + 3, none⟩ = some (.int .i64 p.ms) ∧ w.cell? ⟨b, o + 4, none⟩ = some (.int .i64 p.ss)
theorem prAt_of_range {w : World} {b o : Nat} {f : Nat → Cli.Pr} (h : w.rangeAt b o (circ f)) (v : Nat) (hv : v < 13) : PrAt w b (o + v * 5) (f v) := by
  have g : ∀ i, i < 5 → ∀ x, (prCells (f v))[i]? = some x → w.cell? ⟨b, o + v * 5 + i, none⟩ = some x := fun i hi x hx => by
    rw [Nat.add_assoc]; exact h (v * 5 + i) x (by unfold circ; rw [circN_get f 13 v i hv hi]; exact hx)
  exact ⟨g 0 (by omega) _ rfl, g 1 (by omega) _ rfl, g 2 (by omega) _ rfl, g 3 (by omega) _ rfl, g 4 (by omega) _ rfl⟩
theorem PSAt.peer {w : World} {b : Nat} {T : TypeId} {s : PS} (h : PSAt w b T s) (v : Nat) (hv : v < 13) : PrAt w b (12 + v * 5) (s.f v) := prAt_of_range h.range v hv

theorem PSAt.setAll {w : World} {b : Nat} {T : TypeId} {s : PS} (h : PSAt w b T s) (s' : PS) : PSAt (w.setCells b 0 (psCells s')) b T s' := by
  have := heap_setCells b T (psCells s') [] (psCells s) [] w (by rw [psCells_length, psCells_length]) (by rw [List.append_nil]; exact h)
  rw [List.append_nil] at this
  exact this
theorem PSAt.block {w w' : World} {b : Nat} {T : TypeId} {s : PS} (h : PSAt w b T s) (e : w'.heap[b]? = w.heap[b]?) : PSAt w' b T s := e.trans h
theorem PSAt.below {w w' : World} {b : Nat} {T : TypeId} {s : PS} (h : PSAt w b T s) (hb : Below w.heap.size w w') : PSAt w' b T s := h.block (hb.block b h.lt)

theorem ListAt.keep {w w' : World} {v : Value} {zs : List Int} (h : ListAt w v zs) (hs : w.heap.size ≤ w'.heap.size) (hb : ∀ x, v.ownBlock = some x → w'.heap[x]? = w.heap[x]?) : ListAt w' v zs := by
  obtain ⟨a, cap, h1, h2, h3, h4, h5⟩ := h
  refine ⟨a, cap, h1, h2, h3, h4, ?_⟩
  rcases h5 with h5 | ⟨b, off, e1, e2, e3⟩
  · exact .inl h5
  · refine .inr ⟨b, off, e1, Nat.lt_of_lt_of_le e2 hs, fun i hi => ?_⟩
    rw [← e3 i hi]
    exact World.cell?_of_block (w := w) (hb b (by rw [h1, e1]; rfl))
theorem ItemsAt.keep {w w' : World} {v : Value} {l : List Frm.It} (h : ItemsAt w v l) (hs : w.heap.size ≤ w'.heap.size) (hb : ∀ x, v.ownBlock = some x → w'.heap[x]? = w.heap[x]?) : ItemsAt w' v l := by
  obtain ⟨a, cap, h1, h2, h3, h4, h5⟩ := h
  refine ⟨a, cap, h1, h2, h3, h4, ?_⟩
  rcases h5 with h5 | ⟨b, off, e1, e2, e3⟩
  · exact .inl h5
  · refine .inr ⟨b, off, e1, Nat.lt_of_lt_of_le e2 hs, fun i hi => ?_⟩
    have hc : ∀ o, w'.cell? ⟨b, o, none⟩ = w.cell? ⟨b, o, none⟩ := fun o => World.cell?_of_block (w := w) (hb b (by rw [h1, e1]; rfl))
    obtain ⟨i0, i1, i2, i3⟩ := e3 i hi
    exact ⟨(hc _).trans i0, (hc _).trans i1, (hc _).trans i2, (hc _).trans i3⟩

/-- The blocks of a client. -/
def CFoot (b : Nat) (s : PS) (x : Nat) : Prop := x = b ∨ s.inp.ownBlock = some x ∨ s.sm.ownBlock = some x ∨ s.ss.ownBlock = some x ∨ s.told.ownBlock = some x

/-- A client in memory, at a phase. -/
structure CliAt (w : World) (b : Nat) (c : Cli.Cl) (s : Cli.St) (S : PS) : Prop where
  at_ : PSAt w b 231 S
  ph : 0 ≤ s.1 ∧ s.1 ≤ 4
  eid : S.id = c.id
  eph : S.ph = s.1
  ecp : S.cp = Cli.pubA c
  emp : S.mp = Cli.pubB c
  one : s.1 = 1 → S.n = c.N ∧ S.ch = c.ch ∧ S.ms = c.ms ∧ ListAt w S.sm c.sm ∧ ListAt w S.ss c.ss
  mid : 1 ≤ s.1 → s.1 ≤ 2 → ListAt w S.inp c.inp ∧ S.sd = c.sd
  et : 1 ≤ s.1 → s.1 ≤ 3 → S.t = c.T
  two : s.1 = 2 → (∀ v, v < 13 → S.f v = Cli.firstP c s.2.1 v) ∧ Frm.riseB s.2.1 = true ∧ Cli.keysAgree c s.2.1 = true ∧ (∀ x ∈ s.2.1, 0 ≤ x.2.1 ∧ x.2.1 < 2305843009213693951 ∧ 0 ≤ x.2.2.1 ∧ x.2.2.1 < 2305843009213693951)
  three : s.1 = 3 → (∀ v, v < 13 → S.f v = Cli.secondP c s.2.1 s.2.2.1 v) ∧ Frm.riseB s.2.2.1 = true ∧ Cli.boxAgree c s.2.1 s.2.2.1 = true
  nil : s.1 ≠ 4 → S.told = .slice none 0 0
  four : s.1 = 4 → ItemsAt w S.told (Cli.tells c s.2.1 s.2.2.1 s.2.2.2)
  apart : S.inp.ownBlock ≠ some b ∧ S.sm.ownBlock ≠ some b ∧ S.ss.ownBlock ≠ some b ∧ S.told.ownBlock ≠ some b

/-- Nobody turned its blocks: it is as it was. -/
theorem CliAt.keep {w w' : World} {b : Nat} {c : Cli.Cl} {s : Cli.St} {S : PS} (h : CliAt w b c s S) (hs : w.heap.size ≤ w'.heap.size) (hb : ∀ x, CFoot b S x → w'.heap[x]? = w.heap[x]?) : CliAt w' b c s S where
  at_ := h.at_.block (hb b (.inl rfl))
  ph := h.ph
  eid := h.eid
  eph := h.eph
  ecp := h.ecp
  emp := h.emp
  one := fun e => by
    obtain ⟨a1, a2, a3, a4, a5⟩ := h.one e
    exact ⟨a1, a2, a3, a4.keep hs (fun x hx => hb x (.inr (.inr (.inl hx)))), a5.keep hs (fun x hx => hb x (.inr (.inr (.inr (.inl hx)))))⟩
  mid := fun e e' => by
    obtain ⟨a1, a2⟩ := h.mid e e'
    exact ⟨a1.keep hs (fun x hx => hb x (.inr (.inl hx))), a2⟩
  et := h.et
  two := h.two
  three := h.three
  nil := h.nil
  four := fun e => (h.four e).keep hs (fun x hx => hb x (.inr (.inr (.inr (.inr hx)))))
  apart := h.apart
end Go.Proofs.YtchideljndagjabGreat

namespace Go.Proofs.YtchideljndagjabGreat
open Go.RowKit
set_option linter.unusedVariables false

/-- A block that holds peers and nothing else. -/
def CircAt (w : World) (b : Nat) (f : Nat → Cli.Pr) : Prop := w.heap[b]? = some (.cells (circ f).toArray 203 (0, 0))

theorem CircAt.lt {w : World} {b : Nat} {f : Nat → Cli.Pr} (h : CircAt w b f) : b < w.heap.size := by
  by_cases hb : b < w.heap.size
  · exact hb
  · unfold CircAt at h; rw [Array.getElem?_eq_none (by omega)] at h; cases h
theorem CircAt.range {w : World} {b : Nat} {f : Nat → Cli.Pr} (h : CircAt w b f) : w.rangeAt b 0 (circ f) := by
  intro j v hv
  rw [Nat.zero_add, cell_of_row w b j _ _ (0, 0) h]
  simpa using hv
theorem CircAt.there {w : World} {b : Nat} {f : Nat → Cli.Pr} (h : CircAt w b f) (o n : Nat) (ho : o + n ≤ 65) : w.there b o n := by
  intro j hj
  refine ⟨?_, frozen_of_row w b _ _ _ h⟩
  rw [cell_of_row w b _ _ _ (0, 0) h]
  simp only [List.getElem?_toArray]
  rw [List.getElem?_eq_getElem (by rw [circ_length]; omega)]; rfl
theorem CircAt.set {w : World} {b : Nat} {f : Nat → Cli.Pr} (h : CircAt w b f) (u : Nat) (hu : u < 13) (p : Cli.Pr) : CircAt (w.setCells b (u * 5) (prCells p)) b (Cli.updP f u p) := by
  have e := circN_split f u 13 hu
  unfold CircAt circ at h ⊢
  rw [e] at h
  have := heap_setCells b _ (prCells p) (circN f u) (prCells (f u)) _ w rfl h
  rw [circN_length] at this
  rw [circN_upd f u p 13 hu]
  exact this
theorem CircAt.all {w : World} {b : Nat} {f : Nat → Cli.Pr} (h : CircAt w b f) (g : Nat → Cli.Pr) : CircAt (w.setCells b 0 (circ g)) b g := by
  unfold CircAt at h ⊢
  have := heap_setCells b 203 (circ g) [] (circ f) [] w (by rw [circ_length, circ_length]) (by rw [List.append_nil]; exact h)
  rw [List.append_nil] at this
  exact this
theorem CircAt.block {w w' : World} {b : Nat} {f : Nat → Cli.Pr} (h : CircAt w b f) (e : w'.heap[b]? = w.heap[b]?) : CircAt w' b f := e.trans h
theorem CircAt.below {w w' : World} {b B : Nat} {f : Nat → Cli.Pr} (h : CircAt w b f) (hb : Below B w w') (hB : b < B) : CircAt w' b f := h.block (hb.block b hB)

theorem below_setCells {B : Nat} {a : World} {b : Nat} (hb : B ≤ b) : ∀ (vs : List Value) (o : Nat) (w : World), Below B a w → Below B a (w.setCells b o vs)
  | [], o, w, h => h
  | v :: vs, o, w, h => by
    rw [World.setCells]
    exact below_setCells hb vs (o + 1) _ (h.setCell (p := ⟨b, o, none⟩) hb v)
end Go.Proofs.YtchideljndagjabGreat

namespace Go.Proofs.YtchideljndagjabGreat
open Go.RowKit
set_option linter.unusedVariables false

end Go.Proofs.YtchideljndagjabGreat

namespace Go.Proofs.YtchideljndagjabGreat
open Go.RowKit
set_option linter.unusedVariables false

def bl13 (f : Nat → Bool) : List Value := [.bool (f 0), .bool (f 1), .bool (f 2), .bool (f 3), .bool (f 4), .bool (f 5), .bool (f 6), .bool (f 7), .bool (f 8), .bool (f 9), .bool (f 10), .bool (f 11), .bool (f 12)]
def updB (f : Nat → Bool) (v : Nat) (p : Bool) : Nat → Bool := fun u => if u = v then p else f u
theorem bl13_length (f : Nat → Bool) : (bl13 f).length = 13 := rfl
theorem bl13_get (f : Nat → Bool) (v : Nat) (hv : v < 13) : (bl13 f)[v]? = some (.bool (f v)) := by
  have hd : v = 0 ∨ v = 1 ∨ v = 2 ∨ v = 3 ∨ v = 4 ∨ v = 5 ∨ v = 6 ∨ v = 7 ∨ v = 8 ∨ v = 9 ∨ v = 10 ∨ v = 11 ∨ v = 12 := by omega
  rcases hd with rfl | rfl | rfl | rfl | rfl | rfl | rfl | rfl | rfl | rfl | rfl | rfl | rfl <;> rfl
theorem bl13_set (f : Nat → Bool) (v : Nat) (hv : v < 13) (p : Bool) : (bl13 f).set v (.bool p) = bl13 (updB f v p) := by
  have hd : v = 0 ∨ v = 1 ∨ v = 2 ∨ v = 3 ∨ v = 4 ∨ v = 5 ∨ v = 6 ∨ v = 7 ∨ v = 8 ∨ v = 9 ∨ v = 10 ∨ v = 11 ∨ v = 12 := by omega
  rcases hd with rfl | rfl | rfl | rfl | rfl | rfl | rfl | rfl | rfl | rfl | rfl | rfl | rfl <;> rfl
theorem bl13_ext {f g : Nat → Bool} (h : ∀ v, v < 13 → f v = g v) : bl13 f = bl13 g := by
  unfold bl13
  rw [h 0 (by omega), h 1 (by omega), h 2 (by omega), h 3 (by omega), h 4 (by omega), h 5 (by omega), h 6 (by omega), h 7 (by omega), h 8 (by omega), h 9 (by omega), h 10 (by omega), h 11 (by omega), h 12 (by omega)]
theorem bl13_one (f : Nat → Bool) : ∀ v ∈ bl13 f, v.oneCell' = true := by
  intro v hv
  simp only [bl13, List.mem_cons, List.not_mem_nil, or_false] at hv
  rcases hv with rfl | rfl | rfl | rfl | rfl | rfl | rfl | rfl | rfl | rfl | rfl | rfl | rfl <;> rfl

/-- A block that holds thirteen bools and nothing else. -/
def BoolsAt (w : World) (b : Nat) (T : TypeId) (f : Nat → Bool) : Prop := w.heap[b]? = some (.cells (bl13 f).toArray T (0, 0))
theorem BoolsAt.lt {w : World} {b : Nat} {T : TypeId} {f : Nat → Bool} (h : BoolsAt w b T f) : b < w.heap.size := by
  by_cases hb : b < w.heap.size
  · exact hb
  · unfold BoolsAt at h; rw [Array.getElem?_eq_none (by omega)] at h; cases h
theorem BoolsAt.cell {w : World} {b : Nat} {T : TypeId} {f : Nat → Bool} (h : BoolsAt w b T f) (v : Nat) (hv : v < 13) : w.cell? ⟨b, v, none⟩ = some (.bool (f v)) := by
  rw [cell_of_row w b v _ T (0, 0) h]; simp only [List.getElem?_toArray]; exact bl13_get f v hv
theorem BoolsAt.froz {w : World} {b : Nat} {T : TypeId} {f : Nat → Bool} (h : BoolsAt w b T f) (v : Nat) : w.frozen? ⟨b, v, none⟩ = false := frozen_of_row w b v _ T h
theorem BoolsAt.set {w : World} {b : Nat} {T : TypeId} {f : Nat → Bool} (h : BoolsAt w b T f) (v : Nat) (hv : v < 13) (p : Bool) : BoolsAt (w.setCell ⟨b, v, none⟩ (.bool p)) b T (updB f v p) := by
  have := heap_setCell_same w b v _ T (.bool p) h
  rw [List.setIfInBounds_toArray, bl13_set f v hv p] at this
  exact this
theorem BoolsAt.block {w w' : World} {b : Nat} {T : TypeId} {f : Nat → Bool} (h : BoolsAt w b T f) (e : w'.heap[b]? = w.heap[b]?) : BoolsAt w' b T f := e.trans h
theorem BoolsAt.below {w w' : World} {b B : Nat} {T : TypeId} {f : Nat → Bool} (h : BoolsAt w b T f) (hb : Below B w w') (hB : b < B) : BoolsAt w' b T f := h.block (hb.block b hB)
theorem BoolsAt.ext {w : World} {b : Nat} {T : TypeId} {f g : Nat → Bool} (h : BoolsAt w b T f) (e : ∀ v, v < 13 → f v = g v) : BoolsAt w b T g := by
  unfold BoolsAt at h ⊢; rw [← bl13_ext e]; exact h
theorem BoolsAt.range {w : World} {b : Nat} {T : TypeId} {f : Nat → Bool} (h : BoolsAt w b T f) : w.rangeAt b 0 (bl13 f) := by
  intro j v hv
  rw [Nat.zero_add, cell_of_row w b j _ _ (0, 0) h]
  simpa using hv

/-- The Ids of the first items, one more. -/
theorem has_upd (l : List Frm.It) (j : Nat) (hj : j < l.length) (u : Nat) (hu : (Frm.it l j).1 = (u : Int)) : (fun v : Nat => Cli.hasI (l.take (j + 1)) v) = updB (fun v : Nat => Cli.hasI (l.take j) v) u true := by
  funext v
  unfold updB
  rw [Cli.hasI_take_succ l j hj, hu]
  by_cases e : v = u
  · subst e; simp
  · rw [if_neg e, decide_eq_false (by omega), Bool.or_false]

end Go.Proofs.YtchideljndagjabGreat

namespace Go.Proofs.YtchideljndagjabGreat
open Go.ChangeShapes Go.WideShapes Go.ChangeAt Go.RowKit
set_option linter.unusedVariables false

end Go.Proofs.YtchideljndagjabGreat

namespace Go.Proofs.YtchideljndagjabGreat
open Go.RowKit
set_option linter.unusedVariables false

theorem conv_str {w : World} {v : Value} {zs : List Int} (h : BytesAt w v zs) : (convert 47 9 v).run Tryz.prog w = .ok (.string (strOfNums zs)) w := by
  obtain ⟨a, cap, rfl, h2, h3, h4, h5⟩ := h
  rcases h5 with rfl | ⟨b, off, rfl, _, hc⟩
  · cases a with
    | none => exact run_convert_bytes_nil w 47 5 Tryz.underlying47 Tryz.underlying5 0 cap 9 Tryz.underlying9
    | some x =>
      rw [List.length_nil, run_convert_bytes_string w 47 9 5 (some x) 0 cap Tryz.underlying47 Tryz.underlying5 Tryz.underlying9,
        run_bytesToString w x 0 cap [] (by simpa using run_loadCells_list (P := Tryz.prog) w x [] (by simp))]
      rfl
  · exact run_convert_bytes_arg w 47 5 Tryz.underlying47 Tryz.underlying5 b off zs.length cap zs rfl (fun i hi => hc i hi) 9 Tryz.underlying9

/-- The new block of '[]byte(s)'. -/
def strBlk (w : World) (s : ByteArray) : Obj := .cells (bytesRow s (grownCap w s.size 0 5)) 5 ((bytesRow s (grownCap w s.size 0 5)).size, (bytesRow s (grownCap w s.size 0 5)).size + 1)

theorem conv_bytes (w : World) (s : ByteArray) : (convert 9 47 (.string s)).run Tryz.prog w = .ok (.slice (some ⟨w.heap.size, 0, none⟩) s.size (grownCap w s.size 0 5)) (w.drew.alloc (strBlk w s)) :=
  run_bytes_of_string w 9 47 5 s Tryz.underlying9 Tryz.underlying47 Tryz.underlying5

theorem bytesAt_new (w : World) (s : ByteArray) (hs : s.size ≤ maxLen) : BytesAt (w.drew.alloc (strBlk w s)) (.slice (some ⟨w.heap.size, 0, none⟩) s.size (grownCap w s.size 0 5)) (bl s) := by
  refine ⟨_, _, by rw [bl_length], by rw [bl_length]; exact grownCap_ge _ _ _ _, grownCap_le_maxLen _ _ _ _ hs, bl_isB s, .inr ⟨w.heap.size, 0, rfl, (by show w.heap.size < (w.drew.heap.push _).size; rw [Array.size_push]; exact Nat.lt_succ_self _), fun i hi => ?_⟩⟩
  rw [bl_length] at hi
  have hi' : i < s.data.size := hi
  have := World.cell?_alloc_mark w.drew (bytesRow s (grownCap w s.size 0 5)) 5 ((bytesRow s (grownCap w s.size 0 5)).size, (bytesRow s (grownCap w s.size 0 5)).size + 1) i
  rw [Nat.zero_add]
  refine this.trans ?_
  rw [bytesRow_at s _ i hi']
  unfold Frm.bAt bl
  rw [List.getD_eq_getElem?_getD, List.getElem?_map, Array.getElem?_toList, Array.getElem?_eq_getElem hi']
  rfl

theorem below_bytes (w : World) (s : ByteArray) : Below w.heap.size w (w.drew.alloc (strBlk w s)) := ((Below.refl _ _).drew).alloc (Nat.le_refl _) _

theorem conv_ex (w : World) (s : ByteArray) (hs : s.size ≤ maxLen) : ∃ v w', (convert 9 47 (.string s)).run Tryz.prog w = .ok v w' ∧ BytesAt w' v (bl s) ∧ Below w.heap.size w w' :=
  ⟨_, _, conv_bytes w s, bytesAt_new w s hs, below_bytes w s⟩

theorem bytesN_isB (v : Int) : Frm.isB (Frm.bytesN v) := by
  intro x hx
  unfold Frm.bytesN at hx
  simp only [List.mem_cons, List.not_mem_nil, or_false] at hx
  omega

theorem encF_isB {k fr : Int} {l : List Frm.It} (h : Frm.okF k fr l = true) : Frm.isB (Frm.encF k fr l) := by
  obtain ⟨o1, o2, o3, o4, o5, o6⟩ := Frm.okF_bounds h
  intro x hx
  unfold Frm.encF at hx
  simp only [List.mem_cons] at hx
  rcases hx with rfl | rfl | rfl | hx
  · omega
  · omega
  · omega
  · obtain ⟨y, hy, hx⟩ := List.mem_flatten.1 hx
    obtain ⟨t, ht, rfl⟩ := List.mem_map.1 hy
    obtain ⟨i, hi, rfl⟩ := List.getElem_of_mem ht
    have hid := o6 i hi
    have e : Frm.it l i = l[i] := by unfold Frm.it; rw [List.getD_eq_getElem?_getD, List.getElem?_eq_getElem hi]; rfl
    rw [e] at hid
    unfold Frm.encI at hx
    rcases List.mem_cons.1 hx with rfl | hx
    · omega
    · obtain ⟨z, hz, hx⟩ := List.mem_flatten.1 hx
      obtain ⟨q, _, rfl⟩ := List.mem_map.1 hz
      exact bytesN_isB q x hx

end Go.Proofs.YtchideljndagjabGreat

namespace Go.Proofs.YtchideljndagjabGreat
open Go.RowKit
set_option linter.unusedVariables false

theorem ListAt.chg {P : Nat → Prop} {w w' : World} {v : Value} {zs : List Int} (h : ListAt w v zs) (hc : Chg P w w') (hn : ∀ x, v.ownBlock = some x → ¬ P x) : ListAt w' v zs := by
  obtain ⟨a, cap, h1, h2, h3, h4, h5⟩ := h
  refine ⟨a, cap, h1, h2, h3, h4, ?_⟩
  rcases h5 with h5 | ⟨b, off, e1, e2, e3⟩
  · exact .inl h5
  · refine .inr ⟨b, off, e1, Nat.lt_of_lt_of_le e2 hc.size, fun i hi => ?_⟩
    rw [← e3 i hi]
    exact World.cell?_of_block (w := w) (hc.block b e2 (hn b (by rw [h1, e1]; rfl)))
theorem BytesAt.chg {P : Nat → Prop} {w w' : World} {v : Value} {zs : List Int} (h : BytesAt w v zs) (hc : Chg P w w') (hn : ∀ x, v.ownBlock = some x → ¬ P x) : BytesAt w' v zs := by
  obtain ⟨a, cap, h1, h2, h3, h4, h5⟩ := h
  refine ⟨a, cap, h1, h2, h3, h4, ?_⟩
  rcases h5 with h5 | ⟨b, off, e1, e2, e3⟩
  · exact .inl h5
  · refine .inr ⟨b, off, e1, Nat.lt_of_lt_of_le e2 hc.size, fun i hi => ?_⟩
    rw [← e3 i hi]
    exact World.cell?_of_block (w := w) (hc.block b e2 (hn b (by rw [h1, e1]; rfl)))
theorem ItemsAt.chg {P : Nat → Prop} {w w' : World} {v : Value} {l : List Frm.It} (h : ItemsAt w v l) (hc : Chg P w w') (hn : ∀ x, v.ownBlock = some x → ¬ P x) : ItemsAt w' v l := by
  obtain ⟨a, cap, h1, h2, h3, h4, h5⟩ := h
  refine ⟨a, cap, h1, h2, h3, h4, ?_⟩
  rcases h5 with h5 | ⟨b, off, e1, e2, e3⟩
  · exact .inl h5
  · refine .inr ⟨b, off, e1, Nat.lt_of_lt_of_le e2 hc.size, fun i hi => ?_⟩
    have hcl : ∀ o, w'.cell? ⟨b, o, none⟩ = w.cell? ⟨b, o, none⟩ := fun o => World.cell?_of_block (w := w) (hc.block b e2 (hn b (by rw [h1, e1]; rfl)))
    obtain ⟨i0, i1, i2, i3⟩ := e3 i hi
    exact ⟨(hcl _).trans i0, (hcl _).trans i1, (hcl _).trans i2, (hcl _).trans i3⟩
theorem Chg.drew (S : Nat → Prop) (w : World) : Chg S w w.drew := ⟨rfl, rfl, rfl, Nat.le_refl _, fun _ _ _ => rfl⟩
theorem Chg.also {S : Nat → Prop} {a b c : World} (h : Chg S a b) (k : Chg S b c) : Chg S a c := h.trans k (fun _ e _ => e)
theorem Chg.grow {S : Nat → Prop} {a b c : World} (h : Chg S a b) (k : Below b.heap.size b c) : Chg S a c := h.trans (Chg.of_below (S := S) k) (fun _ e _ => e)

/-- The items of a frame fit. -/
theorem okF_in {k fr : Int} {l : List Frm.It} (h : Frm.okF k fr l = true) : ∀ x ∈ l, inIt x := fun x hx => by
  obtain ⟨i, hi, rfl⟩ := List.getElem_of_mem hx
  have hok := (Frm.okF_parts h).2.2.2.2 i hi
  have hid := (Frm.okF_bounds h).2.2.2.2.2 i hi
  obtain ⟨n1, n2, n3⟩ := Frm.okI_named hok
  rw [Cli.it_get l i hi] at hid n1 n2 n3
  refine ⟨?_, ?_, ?_, ?_⟩ <;> unfold inI <;> omega
/-- A client in memory, its blocks all there. -/
structure CliW (w : World) (b : Nat) (c : Cli.Cl) (s : Cli.St) (S : PS) : Prop where
  cli : CliAt w b c s S
  low : ∀ x, CFoot b S x → x < w.heap.size
theorem CliW.keep {w w' : World} {b : Nat} {c : Cli.Cl} {s : Cli.St} {S : PS} (h : CliW w b c s S) (hs : w.heap.size ≤ w'.heap.size) (hb : ∀ x, CFoot b S x → w'.heap[x]? = w.heap[x]?) : CliW w' b c s S :=
  ⟨h.cli.keep hs hb, fun x hx => Nat.lt_of_lt_of_le (h.low x hx) hs⟩
theorem CliW.below {w w' : World} {b : Nat} {c : Cli.Cl} {s : Cli.St} {S : PS} (h : CliW w b c s S) (hb : Below w.heap.size w w') : CliW w' b c s S := h.keep hb.size (fun x hx => hb.block x (h.low x hx))
theorem CliW.chg {P : Nat → Prop} {w w' : World} {b : Nat} {c : Cli.Cl} {s : Cli.St} {S : PS} (h : CliW w b c s S) (hc : Chg P w w') (hn : ∀ x, CFoot b S x → ¬ P x) : CliW w' b c s S := h.keep hc.size (fun x hx => hc.block x (h.low x hx) (hn x hx))

/-- What a client's Take leaves: the client, in its own block; nothing else has turned; its lists are as they were, or new. -/
structure Took (w w' : World) (b : Nat) (c : Cli.Cl) (s' : Cli.St) (S S' : PS) : Prop where
  cli : CliW w' b c s' S'
  chg : Chg (fun x => x = b) w w'
  foot : ∀ x, CFoot b S' x → CFoot b S x ∨ w.heap.size ≤ x
/-- The answer: nothing, or the bytes of a frame, in a block that is new and not the client's. -/
def Ans (w w' : World) (b : Nat) (S' : PS) (va : Value) : Option Cli.Fr → Prop
  | none => va = .slice none 0 0
  | some f => w'.ownsRow w.heap.size 5 1 va (Frm.encF f.1 f.2.1 f.2.2).length ((Frm.encF f.1 f.2.1 f.2.2).map (Value.int .u8)) ∧ ∀ x, va.ownBlock = some x → ¬ CFoot b S' x

theorem nil_own : (Value.slice none 0 0).ownBlock = none := rfl
end Go.Proofs.YtchideljndagjabGreat
