/- Contracts of a World's marks and of its owning a list of integers. -/
import Derived.Test.YtchideljndagjabGreatRows
import Derived.Test.YtchideljndagjabGreatPkSeAB
import Derived.WalkSpells
import Derived.Test.YtchideljndagjabGreatPkSeAA
import Derived.WalkKit
import Derived.ProofKit
import Derived.OpenShut
import Derived.Laws.CopyOwn
import Derived.Laws.MakeOwn
namespace Go.Proofs.YtchideljndagjabGreat
open Go.ChangeShapes Go.WideShapes Go.ChangeAt Go.RowKit
set_option linter.unusedVariables false

theorem infoI : (Tryz.prog.info? 3).map (fun i => (i.zero, i.size, i.bytes)) = some (some (.int .i64 0), 1, 8) := by kernel_rfl
theorem infoL : (Tryz.prog.info? 33).map (fun i => (i.zero, i.size, i.bytes)) = some (some (.slice none 0 0), 1, 24) := by kernel_rfl

/-- The mark that comes next. -/
def mkN (nx : Int) : Int := (nx + 1) % 250 + 1
theorem mkN_lo (nx : Int) : 1 ≤ mkN nx := by unfold mkN; omega
theorem mkN_hi (nx : Int) : mkN nx ≤ 250 := by unfold mkN; omega

theorem mark_calls (pw : Nat) (F : Nat → Value) (nx : Int) (ls : Nat → List Ow) (w : World) (h : InvW w pw F nx ls) (h0 : 0 ≤ nx) (h1 : nx ≤ 1000000000000000000) :
    Calls Tryz.prog 160 #[.pointer (some ⟨pw, 0, none⟩)] w fun e w' => e = .returned (.int .i64 (mkN nx)) ∧ w' = w.setCell ⟨pw, 15, none⟩ (.int .i64 (nx + 1)) := by
  obtain ⟨c1, c2⟩ := cell_f h.blk 15 (by omega)
  rw [h.nxt] at c1
  clear h
  go_enter Tryz.func160, Tryz.ntmps160
  go_wp2
  go_ret
  exact ⟨rfl, rfl⟩

theorem own_one {v : Value} {N g n c : Nat} (h : v.ownBlock = some g ∨ N ≤ g) : ∀ b, (Value.slice (some ⟨g, 0, none⟩) n c).ownBlock = some b → v.ownBlock = some b ∨ N ≤ b := by
  intro b hb
  simp [Value.ownBlock] at hb
  subst hb
  exact h

/-- A block whose first k cells have been written full. -/
def Filled (w : World) (g : Nat) (e : TypeId) (n : Nat) (u : Value) (k : Nat) (wr : World) : Prop :=
  Chg (fun b => b = g) w wr ∧ ∃ cur : Array Value, wr.heap[g]? = some (.cells cur e (0, 0)) ∧ cur.size = n ∧ ∀ j, j < k → cur[j]? = some u

theorem filled_start {w : World} {g : Nat} {e : TypeId} {n : Nat} {u : Value} {cur : Array Value} (h : w.heap[g]? = some (.cells cur e (0, 0))) (hs : cur.size = n) : Filled w g e n u 0 w :=
  ⟨Chg.refl _ _, cur, h, hs, fun j hj => absurd hj (by omega)⟩

theorem filled_cell {w wr : World} {g : Nat} {e : TypeId} {n : Nat} {u : Value} {k : Nat} (h : Filled w g e n u k wr) (j : Nat) (hj : j < n) : (∃ v, wr.cell? ⟨g, j, none⟩ = some v) ∧ wr.frozen? ⟨g, j, none⟩ = false := by
  obtain ⟨_, cur, h1, h2, _⟩ := h
  refine ⟨⟨cur[j]'(by omega), ?_⟩, by simp [World.frozen?, h1]⟩
  simp only [World.cell?, h1]
  simp [h2, hj]

theorem filled_next {w wr : World} {g : Nat} {e : TypeId} {n : Nat} {u : Value} {k : Nat} (h : Filled w g e n u k wr) (hk : k < n) : Filled w g e n u (k + 1) (wr.setCell ⟨g, k, none⟩ u) := by
  obtain ⟨h0, cur, h1, h2, h3⟩ := h
  refine ⟨h0.trans (Chg.setCell wr ⟨g, k, none⟩ u) (fun x hx _ => hx), cur.setIfInBounds k u, heap_setCell_same wr g k cur e u h1, by simp [h2], fun j hj => ?_⟩
  rw [Array.getElem?_setIfInBounds]
  by_cases e : k = j
  · subst e; simp; omega
  · rw [if_neg e]; exact h3 j (by omega)

theorem owCells_ints (b : Option Nat) (n : Nat) (m : Int) : owCells (cat 0) (b, n, m) = List.replicate n (.int .i64 m) := by
  show (List.replicate n [Value.int .i64 m]).flatten = _
  induction n with
  | zero => rfl
  | succ n ih => rw [List.replicate_succ, List.flatten_cons, ih, List.replicate_succ]; rfl

theorem filled_end {w wr : World} {g : Nat} {e : TypeId} {n : Nat} {m : Int} (h : Filled w g e n (.int .i64 m) n wr) : wr.heap[g]? = some (.cells (owCells (cat 0) (some g, n, m)).toArray e (0, 0)) := by
  obtain ⟨_, cur, h1, h2, h3⟩ := h
  rw [h1]
  have e1 := owCells_ints (some g) n m
  rw [e1]
  congr 2
  apply Array.ext_getElem?
  intro i
  by_cases hi : i < n
  · rw [h3 i hi]; simp [hi]
  · rw [Array.getElem?_eq_none (by omega), Array.getElem?_eq_none (by simp; omega)]

set_option maxHeartbeats 1000000 in
set_option maxRecDepth 100000 in
theorem ownInts_calls (pw : Nat) (F : Nat → Value) (nx : Int) (ls : Nat → List Ow) (g n cap : Nat) (cur : Array Value) (w : World) (h : InvW w pw F nx ls) (h0 : 0 ≤ nx) (h1 : nx ≤ 1000000000000000000)
    (hlen : ((ls 0).length + 1) * 24 ≤ 140737488355328) (hg : w.heap[g]? = some (.cells cur 3 (0, 0))) (hcs : cur.size = cap) (hnc : n ≤ cap) (hcm : cap ≤ maxLen) (hpg : pw < g) (hfoot : ¬ Foot F ls g) :
    Calls Tryz.prog 88 #[.pointer (some ⟨pw, 0, none⟩), .slice (some ⟨g, 0, none⟩) n cap] w fun e w' => e = .returned (.tuple #[]) ∧ ∃ F', InvW w' pw F' (nx + 1) (updL ls 0 (ls 0 ++ [(some g, cap, mkN nx)])) ∧
      (∀ b, b < w.heap.size → g ≠ b → ¬ Foot F ls b → ¬ Foot F' (updL ls 0 (ls 0 ++ [(some g, cap, mkN nx)])) b) ∧ (∀ j, j < 3 → F' j = F j) ∧
      Chg (fun b => b = pw ∨ g = b ∨ Foot F ls b) w w' := by
  obtain ⟨i0, hi, hz0, hz1, hz2⟩ := info_parts infoI
  obtain ⟨i1, hi1, hy0, hy1, hy2⟩ := info_parts infoL
  unfold maxLen at hcm
  have m1 := mkN_lo nx
  have m2 := mkN_hi nx
  have hgl : g < w.heap.size := by
    by_cases hb : g < w.heap.size
    · exact hb
    · rw [Array.getElem?_eq_none (by omega)] at hg; cases hg
  have hpl := h.pw_lt
  have HI := hideG h
  have HF := hideG hfoot
  have HG := hideG hg
  have HC := hideG hcs
  clear h hfoot hg hcs
  go_enter Tryz.func88, Tryz.ntmps88
  go_wp2_with fail
  refine (mark_calls pw F nx ls _ HI.out h0 h1).mono ?_
  rintro e w1 ⟨rfl, hw1⟩
  have g1 : w1.heap[g]? = some (.cells cur 3 (0, 0)) := by rw [hw1, Below.heap_setCell _ _ _ _ (by simp; omega)]; exact HG.out
  have W1 := hideG hw1
  have G1 := hideG g1
  clear hw1 g1
  generalize hm : mkN nx = m at *
  have HM := hideG hm
  clear hm
  go_wp2_with fail
  go_loopw [6] (fun i wr => ∃ k : Nat, k ≤ cap ∧ i = .int .i64 k ∧ Filled w1 g 3 cap (.int .i64 m) k wr) (fun i _ => cap - (intOf i).toNat)
  case atStart => exact ⟨0, by omega, rfl, filled_start G1.out HC.out⟩
  case round =>
    obtain ⟨k, hk, rfl, hfill⟩ := hrel
    have FI := hideG hfill
    by_cases hlt : k < cap
    · obtain ⟨⟨v, c1⟩, c2⟩ := filled_cell hfill k hlt
      clear hfill
      go_wp2_with fail
      go_roundw
      case rel => exact ⟨k + 1, by omega, by go_num, filled_next FI.out hlt⟩
      case measure => simp [intOf]; omega
    · have ek : k = cap := by omega
      subst ek
      clear hfill
      have k2 := FI.out.1.mono (S' := fun b => ((some g, k, m) : Ow).1 = some b) (fun b e _ => by rw [e])
      have K2 := hideG k2
      obtain ⟨a1, a2, a3, a4, a5⟩ := own_mid1 HI.out 0 (by omega) W1.out k2 (fun x e => by cases e; exact ⟨HF.out, hpg⟩)
      obtain ⟨c3, c3f⟩ := cell_f a1 3 (by omega)
      rw [upd_other _ _ (by omega)] at c3
      have A1 := hideG a1
      have A2 := hideG a2
      have A3 := hideG a3
      clear a1 a2 a3 a5 k2
      go_wp2_with (at_builtin; refine wpList_append_one _ rfl _ _ 82 rfl (pw + 1) 33 i1 (.slice none 0 0) 24 Tryz.underlying82 hi1 hy0 hy1 hy2 rfl (F 3) (ls 0).length ((ls 0).map owVal) rfl (A2.out.alloc _) ⟨wr.heap.size, 0, none⟩ 1 (.slice (some ⟨g, 0, none⟩) k k) rfl (by simp [go_sem]) rfl (by unfold maxLen; omega) hlen (by simp; omega) ?_)
      intro g3 cap3 w3 ho3 hg3 hv3
      obtain ⟨p1, p2, p3, p4⟩ := own_mid2 HI.out 0 (by omega) A1.out A3.out A2.out hg3
      obtain ⟨c9, c9f⟩ := cell_f p1 9 (by omega)
      rw [upd_other _ _ (by omega)] at c9
      obtain ⟨d3, d3f⟩ := cell_f p1 3 (by omega)
      rw [upd_other _ _ (by omega)] at d3
      have O3 := hideG ho3
      have K3 := hideG hg3
      have V3 := hideG (own_one (n := (ls 0).length + 1) (c := cap3) hv3)
      have P1 := hideG p1
      have P2 := hideG p2
      clear ho3 hg3 hv3 p1 p2 p4 c3 c3f
      go_wp2_with (at_builtin; (refine wpList_append_one _ rfl _ _ 33 rfl (pw + 1) 3 i0 (.int .i64 0) 8 Tryz.underlying33 hi hz0 hz1 hz2 rfl (F 9) (ls 0).length ((ls 0).map fun o => Value.int .i64 o.2.2) rfl ((ownsRow_setCell_below P2.out (by simp) _).alloc _) ⟨w3.heap.size, 0, none⟩ 1 (.int .i64 m) rfl (by simp [go_sem]) rfl (by unfold maxLen; omega) (by omega) (by simp [World.setCell]; omega) ?_))
      intro g5 cap5 w5 ho5 hg5 hv5
      obtain ⟨q1, q2, q3⟩ := own_mid3 HI.out 0 P1.out P2.out (.slice (some ⟨g3, 0, none⟩) ((ls 0).length + 1) cap3) hg5
      obtain ⟨f9, f9f⟩ := cell_f q1 9 (by omega)
      have O5 := hideG ho5
      have K5 := hideG hg5
      have V5 := hideG (own_one (n := (ls 0).length + 1) (c := cap5) hv5)
      clear ho5 hg5 hv5 q1 q3 d3 d3f c9 c9f
      go_wp2_with fail
      go_end0
      have R := own_finish HI.out 0 (by omega) (o := (some g, k, m)) (.slice (some ⟨g3, 0, none⟩) ((ls 0).length + 1) cap3) (.slice (some ⟨g5, 0, none⟩) ((ls 0).length + 1) cap5) W1.out K2.out K3.out O3.out (fun b hb => by simpa [cat] using V3.out b hb) K5.out O5.out (fun b hb => by simpa [World.setCell, cat] using V5.out b hb) (fun x e => by cases e; exact ⟨HF.out, hpg, hgl, filled_end FI.out⟩) (fun e => by cases e) (by first | exact Nat.zero_le _ | (show k ≤ maxLen; unfold maxLen; omega))
      rw [HM.out]
      exact ⟨rfl, _, R.1, fun b hb hne hf => R.2.1 b hb (by simpa using hne) hf, R.2.2.1, R.2.2.2.mono (fun b e _ => by simpa using e)⟩

set_option maxHeartbeats 1000000 in
set_option maxRecDepth 100000 in
theorem ownNil_calls (pw : Nat) (F : Nat → Value) (nx : Int) (ls : Nat → List Ow) (w : World) (h : InvW w pw F nx ls) (h0 : 0 ≤ nx) (h1 : nx ≤ 1000000000000000000)
    (hlen : ((ls 0).length + 1) * 24 ≤ 140737488355328) :
    Calls Tryz.prog 88 #[.pointer (some ⟨pw, 0, none⟩), .slice none 0 0] w fun e w' => e = .returned (.tuple #[]) ∧ ∃ F', InvW w' pw F' (nx + 1) (updL ls 0 (ls 0 ++ [(none, 0, mkN nx)])) ∧
      (∀ b, b < w.heap.size → ¬ Foot F ls b → ¬ Foot F' (updL ls 0 (ls 0 ++ [(none, 0, mkN nx)])) b) ∧ (∀ j, j < 3 → F' j = F j) ∧
      Chg (fun b => b = pw ∨ Foot F ls b) w w' := by
  obtain ⟨i0, hi, hz0, hz1, hz2⟩ := info_parts infoI
  obtain ⟨i1, hi1, hy0, hy1, hy2⟩ := info_parts infoL
  have m1 := mkN_lo nx
  have m2 := mkN_hi nx
  have hpl := h.pw_lt
  have HI := hideG h
  clear h
  go_enter Tryz.func88, Tryz.ntmps88
  go_wp2_with fail
  refine (mark_calls pw F nx ls _ HI.out h0 h1).mono ?_
  rintro e wr ⟨rfl, hw1⟩
  have W1 := hideG hw1
  clear hw1
  generalize hm : mkN nx = m at *
  have HM := hideG hm
  clear hm
  have k2 : Chg (fun b => ((none, 0, m) : Ow).1 = some b) wr wr := Chg.refl _ _
  have K2 := hideG k2
  obtain ⟨a1, a2, a3, a4, a5⟩ := own_mid1 HI.out 0 (by omega) W1.out k2 (fun x e => by cases e)
  obtain ⟨c3, c3f⟩ := cell_f a1 3 (by omega)
  rw [upd_other _ _ (by omega)] at c3
  have A1 := hideG a1
  have A2 := hideG a2
  have A3 := hideG a3
  clear a1 a2 a3 a5 k2
  go_wp2_with fail
  go_loop [6] (fun i => i = .int .i64 0) (fun _ => 0)
  case atStart => rfl
  case round =>
    subst hrel
    go_wp2_with (at_builtin; refine wpList_append_one _ rfl _ _ 82 rfl (pw + 1) 33 i1 (.slice none 0 0) 24 Tryz.underlying82 hi1 hy0 hy1 hy2 rfl (F 3) (ls 0).length ((ls 0).map owVal) rfl (A2.out.alloc _) ⟨wr.heap.size, 0, none⟩ 1 (.slice none 0 0) rfl (by simp [go_sem]) rfl (by unfold maxLen; omega) hlen (by simp; omega) ?_)
    intro g3 cap3 w3 ho3 hg3 hv3
    obtain ⟨p1, p2, p3, p4⟩ := own_mid2 HI.out 0 (by omega) A1.out A3.out A2.out hg3
    obtain ⟨c9, c9f⟩ := cell_f p1 9 (by omega)
    rw [upd_other _ _ (by omega)] at c9
    obtain ⟨d3, d3f⟩ := cell_f p1 3 (by omega)
    rw [upd_other _ _ (by omega)] at d3
    have O3 := hideG ho3
    have K3 := hideG hg3
    have V3 := hideG (own_one (n := (ls 0).length + 1) (c := cap3) hv3)
    have P1 := hideG p1
    have P2 := hideG p2
    clear ho3 hg3 hv3 p1 p2 p4 c3 c3f
    go_wp2_with (at_builtin; (refine wpList_append_one _ rfl _ _ 33 rfl (pw + 1) 3 i0 (.int .i64 0) 8 Tryz.underlying33 hi hz0 hz1 hz2 rfl (F 9) (ls 0).length ((ls 0).map fun o => Value.int .i64 o.2.2) rfl ((ownsRow_setCell_below P2.out (by simp) _).alloc _) ⟨w3.heap.size, 0, none⟩ 1 (.int .i64 m) rfl (by simp [go_sem]) rfl (by unfold maxLen; omega) (by omega) (by simp [World.setCell]; omega) ?_))
    intro g5 cap5 w5 ho5 hg5 hv5
    obtain ⟨q1, q2, q3⟩ := own_mid3 HI.out 0 P1.out P2.out (.slice (some ⟨g3, 0, none⟩) ((ls 0).length + 1) cap3) hg5
    obtain ⟨f9, f9f⟩ := cell_f q1 9 (by omega)
    have O5 := hideG ho5
    have K5 := hideG hg5
    have V5 := hideG (own_one (n := (ls 0).length + 1) (c := cap5) hv5)
    clear ho5 hg5 hv5 q1 q3 d3 d3f c9 c9f
    go_wp2_with fail
    go_end0
    have R := own_finish HI.out 0 (by omega) (o := (none, 0, m)) (.slice (some ⟨g3, 0, none⟩) ((ls 0).length + 1) cap3) (.slice (some ⟨g5, 0, none⟩) ((ls 0).length + 1) cap5) W1.out K2.out K3.out O3.out (fun b hb => by simpa [cat] using V3.out b hb) K5.out O5.out (fun b hb => by simpa [World.setCell, cat] using V5.out b hb) (fun x e => by cases e) (fun _ => rfl) (Nat.zero_le _)
    rw [HM.out]
    exact ⟨rfl, _, R.1, fun b hb hf => R.2.1 b hb (by simp) hf, R.2.2.1, R.2.2.2.mono (fun b e _ => by simpa using e)⟩

end Go.Proofs.YtchideljndagjabGreat

namespace Go.Proofs.YtchideljndagjabGreat
open Go.ChangeShapes Go.WideShapes Go.ChangeAt Go.RowKit

theorem plus_calls (a b : Int) (w : World) (ha : 0 ≤ a) (ha' : a < 2305843009213693951) (hb : 0 ≤ b) (hb' : b < 2305843009213693951) :
    Calls Tryz.prog 268 #[.int .i64 a, .int .i64 b] w fun e w' => e = .returned (.int .i64 (Num.addP a b)) ∧ w' = w := by
  go_enter Tryz.func268, Tryz.ntmps268
  go_wp2
  go_ret
  exact ⟨rfl, rfl⟩

theorem minus_calls (a b : Int) (w : World) (ha : 0 ≤ a) (ha' : a < 2305843009213693951) (hb : 0 ≤ b) (hb' : b < 2305843009213693951) :
    Calls Tryz.prog 273 #[.int .i64 a, .int .i64 b] w fun e w' => e = .returned (.int .i64 (Num.subP a b)) ∧ w' = w := by
  go_enter Tryz.func273, Tryz.ntmps273
  go_wp2
  go_ret
  exact ⟨rfl, rfl⟩

theorem times_calls (a b : Int) (w : World) (ha : 0 ≤ a) (ha' : a < 2305843009213693951) (hb : 0 ≤ b) (hb' : b < 2305843009213693951) :
    Calls Tryz.prog 144 #[.int .i64 a, .int .i64 b] w fun e w' => e = .returned (.int .i64 (Num.mulP a b)) ∧ w' = w := by
  go_enter Tryz.func144, Tryz.ntmps144
  go_wp2
  go_ret
  exact ⟨congrArg (fun x => Ending.returned (.int .i64 x)) (Num.times_form a b ha ha' hb hb'), rfl⟩

theorem element_calls (a : Int) (w : World) :
    Calls Tryz.prog 143 #[.int .i64 a] w fun e w' => e = .returned (.bool (Num.elB a)) ∧ w' = w := by
  by_cases h : 0 ≤ a
  · by_cases h' : a < 2305843009213693951
    · have H : Hid (Num.elB a = true) := Num.elB_yes h h'
      go_enter Tryz.func143, Tryz.ntmps143
      go_wp2
      go_ret
      exact ⟨congrArg (fun x => Ending.returned (.bool x)) H.out.symm, rfl⟩
    · have H : Hid (Num.elB a = false) := Num.elB_no (fun x => h' x.2)
      go_enter Tryz.func143, Tryz.ntmps143
      go_wp2
      go_ret
      exact ⟨congrArg (fun x => Ending.returned (.bool x)) H.out.symm, rfl⟩
  · have H : Hid (Num.elB a = false) := Num.elB_no (fun x => h x.1)
    go_enter Tryz.func143, Tryz.ntmps143
    go_wp2
    go_ret
    exact ⟨congrArg (fun x => Ending.returned (.bool x)) H.out.symm, rfl⟩

theorem client_calls (a : Int) (w : World) :
    Calls Tryz.prog 201 #[.int .i64 a] w fun e w' => e = .returned (.bool (Num.clB a)) ∧ w' = w := by
  by_cases h : 1 ≤ a
  · by_cases h' : a ≤ 12
    · have H : Hid (Num.clB a = true) := Num.clB_yes h h'
      go_enter Tryz.func201, Tryz.ntmps201
      go_wp2
      go_ret
      exact ⟨congrArg (fun x => Ending.returned (.bool x)) H.out.symm, rfl⟩
    · have H : Hid (Num.clB a = false) := Num.clB_no (fun x => h' x.2)
      go_enter Tryz.func201, Tryz.ntmps201
      go_wp2
      go_ret
      exact ⟨congrArg (fun x => Ending.returned (.bool x)) H.out.symm, rfl⟩
  · have H : Hid (Num.clB a = false) := Num.clB_no (fun x => h x.1)
    go_enter Tryz.func201, Tryz.ntmps201
    go_wp2
    go_ret
    exact ⟨congrArg (fun x => Ending.returned (.bool x)) H.out.symm, rfl⟩

theorem power_calls (a k : Int) (w : World) (ha : 0 ≤ a) (ha' : a < 2305843009213693951) (hk : k ≤ 9223372036854775807) :
    Calls Tryz.prog 147 #[.int .i64 a, .int .i64 k] w fun e w' => e = .returned (.int .i64 (Num.powP a k)) ∧ w' = w := by
  go_enter Tryz.func147, Tryz.ntmps147
  go_wp2
  go_loop [1, 5, 6] (fun k' p s => ∃ kk pp ss : Int, k' = .int .i64 kk ∧ p = .int .i64 pp ∧ s = .int .i64 ss ∧ Num.PowInv a k kk pp ss) (fun k' _ _ => (intOf k').toNat)
  case atStart => exact ⟨_, _, _, rfl, rfl, rfl, Num.powInv_start a k ha ha' hk⟩
  case round =>
    obtain ⟨kk, pp, ss, rfl, rfl, rfl, hi⟩ := hrel
    have q1 := hi.1
    have q2 := hi.2.1
    have q3 := hi.2.2.1
    have q4 := hi.2.2.2.1
    have q5 := hi.2.2.2.2.1
    have H : Hid (Num.PowInv a k kk pp ss) := hi
    clear hi
    by_cases hp : 0 < kk
    · by_cases ho : kk % 2 = 1
      · have ho' : (kk % 2 == 1) = true := by simp [ho]
        clear ho
        go_wp2_with (go_at_call 144; refine (times_calls _ _ _ (by assumption) (by assumption) (by assumption) (by assumption)).mono ?_; rintro e w' ⟨rfl, rfl⟩)
        go_round
        case rel => exact ⟨_, _, _, rfl, rfl, rfl, Num.powInv_odd H.out hp ho'⟩
        case measure => simp [intOf]; omega
      · have ho' : (kk % 2 == 1) = false := by simp [ho]
        clear ho
        go_wp2_with (go_at_call 144; refine (times_calls _ _ _ (by assumption) (by assumption) (by assumption) (by assumption)).mono ?_; rintro e w' ⟨rfl, rfl⟩)
        go_round
        case rel => exact ⟨_, _, _, rfl, rfl, rfl, Num.powInv_even H.out hp ho'⟩
        case measure => simp [intOf]; omega
    · go_wp2
      go_ret
      exact ⟨congrArg (fun x => Ending.returned (.int .i64 x)) (Num.powInv_end H.out hp), rfl⟩

end Go.Proofs.YtchideljndagjabGreat

namespace Go.Proofs.YtchideljndagjabGreat
open Go.ChangeShapes Go.WideShapes Go.ChangeAt Go.RowKit

end Go.Proofs.YtchideljndagjabGreat

namespace Go.Proofs.YtchideljndagjabGreat
open Go.ChangeShapes Go.WideShapes Go.ChangeAt Go.RowKit

theorem hideH {p : Prop} (h : p) : Hid p := h

theorem rplus_calls (a b : Int) (w : World) (ha : 0 ≤ a) (ha' : a < 2305843009213693951) (hb : 0 ≤ b) (hb' : b < 2305843009213693951) :
    Calls Tryz.prog 209 #[.int .i64 a, .int .i64 b] w fun e w' => e = .returned (.int .i64 (Num.addP a b)) ∧ w' = w := by
  by_cases h : a + b < 2305843009213693951
  · have H : Hid (a + b = Num.addP a b) := by show _ = (a + b) % 2305843009213693951; omega
    go_enter Tryz.func209, Tryz.ntmps209
    go_wp2
    go_ret
    exact ⟨congrArg (fun x => Ending.returned (.int .i64 x)) H.out, rfl⟩
  · have H : Hid (a + b - 2305843009213693951 = Num.addP a b) := by show _ = (a + b) % 2305843009213693951; omega
    go_enter Tryz.func209, Tryz.ntmps209
    go_wp2
    go_ret
    exact ⟨congrArg (fun x => Ending.returned (.int .i64 x)) H.out, rfl⟩

theorem rless_calls (a b : Int) (w : World) (ha : 0 ≤ a) (ha' : a < 2305843009213693951) (hb : 0 ≤ b) (hb' : b < 2305843009213693951) :
    Calls Tryz.prog 215 #[.int .i64 a, .int .i64 b] w fun e w' => e = .returned (.int .i64 (Num.subP a b)) ∧ w' = w := by
  by_cases h : a < b
  · have H : Hid (a + 2305843009213693951 - b = Num.subP a b) := by show _ = (a - b + 2305843009213693951) % 2305843009213693951; omega
    go_enter Tryz.func215, Tryz.ntmps215
    go_wp2
    go_ret
    exact ⟨congrArg (fun x => Ending.returned (.int .i64 x)) H.out, rfl⟩
  · have H : Hid (a - b = Num.subP a b) := by show _ = (a - b + 2305843009213693951) % 2305843009213693951; omega
    go_enter Tryz.func215, Tryz.ntmps215
    go_wp2
    go_ret
    exact ⟨congrArg (fun x => Ending.returned (.int .i64 x)) H.out, rfl⟩

set_option maxHeartbeats 400000 in
theorem product_calls (a b : Int) (w : World) (ha : 0 ≤ a) (ha' : a < 2305843009213693951) (hb : 0 ≤ b) (hb' : b < 2305843009213693951) :
    Calls Tryz.prog 146 #[.int .i64 a, .int .i64 b] w fun e w' => e = .returned (.int .i64 (Num.mulP a b)) ∧ w' = w := by
  go_enter Tryz.func146, Tryz.ntmps146
  go_wp2
  go_loop [5, 6] (fun r i => ∃ ii rr : Int, -1 ≤ ii ∧ ii ≤ 60 ∧ i = .int .i64 ii ∧ r = .int .i64 rr ∧ rr = Num.mulP a (b / 2 ^ (ii + 1).toNat)) (fun _ i => (intOf i + 1).toNat)
  case atStart => exact ⟨60, 0, by omega, by omega, rfl, rfl, Num.bit_first a b 61 hb (by omega)⟩
  case round =>
    obtain ⟨ii, rr, hn, hn', rfl, rfl, hr⟩ := hrel
    have r1 : 0 ≤ rr := by rw [hr]; exact Num.mulP_lo _ _
    have r2 : rr < 2305843009213693951 := by rw [hr]; exact Num.mulP_hi _ _
    by_cases h : 0 ≤ ii
    · have HR : Hid (rr = Num.mulP a (b / 2 ^ (ii.toNat + 1))) := by rw [show ii.toNat + 1 = (ii + 1).toNat by omega]; exact hr
      clear hr
      have e1 : (ii - 1 + 1).toNat = ii.toNat := by omega
      have E1 : Hid ((ii - 1 + 1).toNat = ii.toNat) := e1
      clear e1
      go_wp2_with fail
      refine (rplus_calls _ _ _ r1 r2 r1 r2).mono ?_
      rintro e w' ⟨rfl, rfl⟩
      cases ht : ((b / 2 ^ ii.toNat).tmod 2 == 1)
      · go_wp2_with fail
        go_round
        case rel => exact ⟨ii - 1, _, by omega, by omega, rfl, rfl, by rw [E1.out]; exact Num.bit_even a b rr _ hb HR.out ht⟩
        case measure => simp [intOf]; omega
      · go_wp2_with fail
        refine (rplus_calls _ _ _ (Num.addP_lo _ _) (Num.addP_hi _ _) ha ha').mono ?_
        rintro e w' ⟨rfl, rfl⟩
        go_wp2_with fail
        go_round
        case rel => exact ⟨ii - 1, _, by omega, by omega, rfl, rfl, by rw [E1.out]; exact Num.bit_odd a b rr _ hb HR.out ht⟩
        case measure => simp [intOf]; omega
    · have HR : Hid (rr = Num.mulP a b) := by
        show rr = Num.mulP a b
        rw [hr, show (ii + 1).toNat = 0 by omega]; exact Num.bit_last a b
      clear hr
      go_wp2
      go_ret
      exact ⟨congrArg (fun x => Ending.returned (.int .i64 x)) HR.out, rfl⟩

theorem raised_calls (a : Int) (ha : 0 ≤ a) (ha' : a < 2305843009213693951) : ∀ (n : Nat) (k : Int) (w : World), k.toNat ≤ n → k ≤ 9223372036854775807 →
    Calls Tryz.prog 148 #[.int .i64 a, .int .i64 k] w fun e w' => e = .returned (.int .i64 (Num.powP a k)) ∧ w' = w := by
  intro n
  induction n with
  | zero =>
    intro k w hk hk'
    have hp : k ≤ 0 := by omega
    have H : Hid (1 = Num.powP a k) := by show 1 = Num.powP a k; exact (Num.pow_neg a k hp).symm
    go_enter Tryz.func148, Tryz.ntmps148
    go_wp2_with fail
    go_ret
    exact ⟨congrArg (fun x => Ending.returned (.int .i64 x)) H.out, rfl⟩
  | succ n ih =>
    intro k w hk hk'
    have IH : Hid _ := hideH ih
    clear ih
    by_cases hp : k ≤ 0
    · have H : Hid (1 = Num.powP a k) := by show 1 = Num.powP a k; exact (Num.pow_neg a k hp).symm
      go_enter Tryz.func148, Tryz.ntmps148
      go_wp2_with fail
      go_ret
      exact ⟨congrArg (fun x => Ending.returned (.int .i64 x)) H.out, rfl⟩
    · cases ho : (k % 2 == 1)
      · have H : Hid (Num.mulP (Num.powP a (k / 2)) (Num.powP a (k / 2)) = Num.powP a k) := Num.pow_even a k (by omega) ho
        go_enter Tryz.func148, Tryz.ntmps148
        go_wp2_with fail
        refine (IH.out _ _ (by omega) (by omega)).mono ?_
        rintro e w' ⟨rfl, rfl⟩
        go_wp2_with fail
        refine (product_calls _ _ _ (Num.powP_lo _ _) (Num.powP_hi _ _) (Num.powP_lo _ _) (Num.powP_hi _ _)).mono ?_
        rintro e w' ⟨rfl, rfl⟩
        go_wp2_with fail
        go_ret
        exact ⟨congrArg (fun x => Ending.returned (.int .i64 x)) H.out, rfl⟩
      · have H : Hid (Num.mulP (Num.mulP (Num.powP a (k / 2)) (Num.powP a (k / 2))) a = Num.powP a k) := Num.pow_odd a k (by omega) ho
        go_enter Tryz.func148, Tryz.ntmps148
        go_wp2_with fail
        refine (IH.out _ _ (by omega) (by omega)).mono ?_
        rintro e w' ⟨rfl, rfl⟩
        go_wp2_with fail
        refine (product_calls _ _ _ (Num.powP_lo _ _) (Num.powP_hi _ _) (Num.powP_lo _ _) (Num.powP_hi _ _)).mono ?_
        rintro e w' ⟨rfl, rfl⟩
        go_wp2_with fail
        refine (product_calls _ _ _ (Num.mulP_lo _ _) (Num.mulP_hi _ _) ha ha').mono ?_
        rintro e w' ⟨rfl, rfl⟩
        go_wp2_with fail
        go_ret
        exact ⟨congrArg (fun x => Ending.returned (.int .i64 x)) H.out, rfl⟩

theorem relement_calls (a : Int) (w : World) :
    Calls Tryz.prog 145 #[.int .i64 a] w fun e w' => e = .returned (.bool (Num.elB a)) ∧ w' = w := by
  by_cases h : 0 ≤ a
  · by_cases h' : a < 2305843009213693951
    · have H : Hid (Num.elB a = true) := Num.elB_yes h h'
      go_enter Tryz.func145, Tryz.ntmps145
      go_wp2
      go_ret
      exact ⟨congrArg (fun x => Ending.returned (.bool x)) H.out.symm, rfl⟩
    · have H : Hid (Num.elB a = false) := Num.elB_no (fun x => h' x.2)
      go_enter Tryz.func145, Tryz.ntmps145
      go_wp2
      go_ret
      exact ⟨congrArg (fun x => Ending.returned (.bool x)) H.out.symm, rfl⟩
  · have H : Hid (Num.elB a = false) := Num.elB_no (fun x => h x.1)
    go_enter Tryz.func145, Tryz.ntmps145
    go_wp2
    go_ret
    exact ⟨congrArg (fun x => Ending.returned (.bool x)) H.out.symm, rfl⟩

theorem rparty_calls (a : Int) (w : World) :
    Calls Tryz.prog 219 #[.int .i64 a] w fun e w' => e = .returned (.bool (Num.clB a)) ∧ w' = w := by
  by_cases h : 1 ≤ a
  · by_cases h' : a ≤ 12
    · have H : Hid (Num.clB a = true) := Num.clB_yes h h'
      go_enter Tryz.func219, Tryz.ntmps219
      go_wp2
      go_ret
      exact ⟨congrArg (fun x => Ending.returned (.bool x)) H.out.symm, rfl⟩
    · have H : Hid (Num.clB a = false) := Num.clB_no (fun x => h' x.2)
      go_enter Tryz.func219, Tryz.ntmps219
      go_wp2
      go_ret
      exact ⟨congrArg (fun x => Ending.returned (.bool x)) H.out.symm, rfl⟩
  · have H : Hid (Num.clB a = false) := Num.clB_no (fun x => h x.1)
    go_enter Tryz.func219, Tryz.ntmps219
    go_wp2
    go_ret
    exact ⟨congrArg (fun x => Ending.returned (.bool x)) H.out.symm, rfl⟩

end Go.Proofs.YtchideljndagjabGreat

namespace Go.Proofs.YtchideljndagjabGreat
open Go.ChangeShapes Go.WideShapes Go.ChangeAt Go.RowKit
set_option linter.unusedVariables false

theorem num_calls (a : Int) (w : World) :
    Calls Tryz.prog 80 #[.int .i64 a] w fun e w' => e = .returned (.int .i64 a) ∧ w' = w := by
  go_enter Tryz.func80, Tryz.ntmps80
  go_wp2
  go_ret
  exact ⟨rfl, rfl⟩

end Go.Proofs.YtchideljndagjabGreat

namespace Go.Proofs.YtchideljndagjabGreat
open Go.ChangeShapes Go.WideShapes Go.ChangeAt Go.RowKit
set_option linter.unusedVariables false

theorem row_view {w : World} {B : Nat} {e : TypeId} {v : Value} {n : Nat} {xs : List Value} (h : w.ownsRow B e 1 v n xs) :
    ∃ (a : Option Addr) (c : Nat), v = .slice a n c ∧ n ≤ c ∧ c ≤ maxLen ∧ ∀ i, i < n → ∃ g, a = some ⟨g, 0, none⟩ ∧ w.cell? ⟨g, i, none⟩ = xs[i]? := by
  have h0 := h
  rcases h.2 with ⟨rfl, rfl⟩ | ⟨g, cap, cur, rfl, _, _, hnc, hcm, _⟩
  · exact ⟨none, 0, rfl, Nat.le_refl _, Nat.zero_le _, fun i hi => absurd hi (by omega)⟩
  · exact ⟨some ⟨g, 0, none⟩, cap, rfl, hnc, hcm, fun i hi => ⟨g, rfl, h0.cellAt i (by omega)⟩⟩

theorem len_view {w : World} {pw : Nat} {F : Nat → Value} {nx : Int} {ls : Nat → List Ow} (h : InvW w pw F nx ls) (c : Nat) (hc : c < 6) : ∃ a cap, F (cat c).fi = .slice a (ls c).length cap ∧ (ls c).length ≤ cap ∧ cap ≤ maxLen := by
  obtain ⟨a, cap, e, l, m, _⟩ := row_view (h.own c hc).1
  exact ⟨a, cap, e, l, m⟩

end Go.Proofs.YtchideljndagjabGreat

namespace Go.Proofs.YtchideljndagjabGreat
open Go.ChangeShapes Go.WideShapes Go.ChangeAt Go.RowKit

theorem number_calls (k q : Int) (w : World) (ha : 0 ≤ k) (ha' : k < 2305843009213693951) (hb : 0 ≤ q) (hb' : q < 2305843009213693951) :
    Calls Tryz.prog 269 #[.int .i64 k, .int .i64 q] w fun e w' => e = .returned (.int .i64 (Num.padN k q)) ∧ w' = w := by
  go_enter Tryz.func269, Tryz.ntmps269
  go_wp2_with fail
  refine (times_calls _ _ _ hb hb' (by omega) (by omega)).mono ?_
  rintro e w' ⟨rfl, rfl⟩
  go_wp2_with fail
  refine (plus_calls _ _ _ ha ha' (Num.mulP_lo _ _) (Num.mulP_hi _ _)).mono ?_
  rintro e w' ⟨rfl, rfl⟩
  go_wp2_with fail
  refine (times_calls _ _ _ (Num.addP_lo _ _) (Num.addP_hi _ _) (Num.addP_lo _ _) (Num.addP_hi _ _)).mono ?_
  rintro e w' ⟨rfl, rfl⟩
  go_wp2_with fail
  refine (times_calls _ _ _ (Num.mulP_lo _ _) (Num.mulP_hi _ _) (Num.addP_lo _ _) (Num.addP_hi _ _)).mono ?_
  rintro e w' ⟨rfl, rfl⟩
  go_wp2_with fail
  go_ret
  exact ⟨rfl, rfl⟩

end Go.Proofs.YtchideljndagjabGreat

namespace Go.Proofs.YtchideljndagjabGreat
open Go.ChangeShapes Go.WideShapes Go.ChangeAt Go.RowKit

end Go.Proofs.YtchideljndagjabGreat

namespace Go.Proofs.YtchideljndagjabGreat
open Go.ChangeShapes Go.WideShapes Go.ChangeAt Go.RowKit

end Go.Proofs.YtchideljndagjabGreat

namespace Go.Proofs.YtchideljndagjabGreat
open Go.ChangeShapes Go.WideShapes Go.ChangeAt Go.RowKit

theorem maskNumber_calls (k : Int) (i : Nat) (w : World) (ha : 0 ≤ k) (ha' : k < 2305843009213693951) (hi : i ≤ 12) :
    Calls Tryz.prog 217 #[.int .i64 k, .int .i64 ((i : Int) + 1)] w fun e w' => e = .returned (.int .i64 (Num.strAt k i)) ∧ w' = w := by
  go_enter Tryz.func217, Tryz.ntmps217
  go_wp2_with fail
  refine (number_calls _ _ _ ha ha' (by omega) (by omega)).mono ?_
  rintro e w' ⟨rfl, rfl⟩
  obtain ⟨p, hp⟩ : ∃ p, p = Num.padN k ((i : Int) + 1) := ⟨_, rfl⟩
  rw [← hp]
  have p1 : 0 ≤ p := by rw [hp]; exact Num.padN_lo _ _
  have p2 : p < 2305843009213693951 := by rw [hp]; exact Num.padN_hi _ _
  have HP := hideG hp
  clear hp
  have HQ := hideG (show Num.strAt k i = p / 1048576 % 4294967296 by rw [HP.out]; rfl)
  go_wp2_with fail
  go_ret
  rw [HQ.out]
  exact ⟨rfl, rfl⟩

end Go.Proofs.YtchideljndagjabGreat

namespace Go.Proofs.YtchideljndagjabGreat
open Go.ChangeShapes Go.WideShapes Go.ChangeAt Go.RowKit
set_option linter.unusedVariables false

theorem rpad_calls (k q : Int) (w : World) (hk : 0 ≤ k) (hk' : k < 2305843009213693951) (hq : 0 ≤ q) (hq' : q ≤ 1000) :
    Calls Tryz.prog 159 #[.int .i64 k, .int .i64 q] w fun e w' => e = .returned (.int .i64 (Num.padN k q)) ∧ w' = w := by
  go_enter Tryz.func159, Tryz.ntmps159
  go_wp2_with fail
  go_loop [5, 6] (fun v i => ∃ n : Int, 0 ≤ n ∧ n ≤ q ∧ i = .int .i64 n ∧ v = .int .i64 (Num.addP k (Num.mulP n 1099511627777))) (fun _ i => (q - intOf i).toNat)
  case atStart => exact ⟨0, by omega, hq, rfl, by rw [Num.stepped_zero k hk hk']⟩
  case round =>
    obtain ⟨n, n1, n2, rfl, rfl⟩ := hrel
    have l1 := Num.addP_lo k (Num.mulP n 1099511627777)
    have l2 := Num.addP_hi k (Num.mulP n 1099511627777)
    by_cases hlt : n < q
    · have H := hideH (Num.stepped k n)
      go_wp2_with fail
      refine (rplus_calls _ _ _ l1 l2 (by omega) (by omega)).mono ?_
      rintro e w' ⟨rfl, rfl⟩
      go_wp2_with fail
      go_round
      case rel => exact ⟨n + 1, by omega, by omega, rfl, by rw [H.out]⟩
      case measure => simp [intOf]; omega
    · have en : n = q := by omega
      subst en
      have H := hideH (Num.cube (Num.addP k (Num.mulP n 1099511627777)))
      go_wp2_with fail
      refine (raised_calls _ l1 l2 _ _ _ (Nat.le_refl _) (by omega)).mono ?_
      rintro e w' ⟨rfl, rfl⟩
      go_wp2_with fail
      go_ret
      exact ⟨congrArg (fun x => Ending.returned (.int .i64 x)) H.out, rfl⟩

end Go.Proofs.YtchideljndagjabGreat

namespace Go.Proofs.YtchideljndagjabGreat
open Go.ChangeShapes Go.WideShapes Go.ChangeAt Go.RowKit
set_option linter.unusedVariables false

theorem infoInt : (Tryz.prog.info? 3).map (fun i => (i.zero, i.size, i.bytes)) = some (some (.int .i64 0), 1, 8) := by kernel_rfl

set_option maxHeartbeats 1000000 in
set_option maxRecDepth 100000 in
theorem rstretch_yes (seed : Int) (n : Nat) (w : World) (hseed : 0 ≤ seed) (hseed' : seed < 2305843009213693951) (hn : n ≤ 12) :
    Calls Tryz.prog 86 #[.int .i64 seed, .int .i64 (n : Int)] w fun e w' => ∃ v, e = .returned (.tuple #[v, .int .i64 0]) ∧ w'.ownsRow w.heap.size 3 1 v n ((Num.strL seed n).map (Value.int .i64)) ∧ Below w.heap.size w w' := by
  obtain ⟨i0, hi, hz0, hz1, hz2⟩ := info_parts infoInt
  have q1 := Num.elB_yes hseed hseed'
  go_enter Tryz.func86, Tryz.ntmps86
  go_wp2_with fail
  refine (relement_calls _ _).mono ?_
  rintro e w ⟨rfl, rfl⟩
  go_wp2_with fail
  clear q1
  go_loopw [6, 7] (fun v i wr => ∃ k : Nat, k ≤ n ∧ i = .int .i64 ((k : Int) + 1) ∧ wr.ownsRow w.heap.size 3 1 v k ((Num.strL seed k).map (Value.int .i64)) ∧ Below w.heap.size w wr) (fun _ i _ => n + 1 - (intOf i).toNat)
  case atStart => exact ⟨0, by omega, rfl, World.ownsRow_nil _ _ _ _, Below.refl _ _⟩
  case round =>
    obtain ⟨k, hk, rfl, hown, hbel⟩ := hrel
    have HO := hideG hown
    have HB := hideG hbel
    have hsz := hbel.size
    clear hown hbel
    by_cases hlt : k < n
    · go_wp2_with fail
      refine (rpad_calls _ _ _ hseed hseed' (by omega) (by omega)).mono ?_
      rintro e wr ⟨rfl, rfl⟩
      obtain ⟨p, hp⟩ : ∃ p, p = Num.padN seed ((k : Int) + 1) := ⟨_, rfl⟩
      rw [← hp]
      have p1 : 0 ≤ p := by rw [hp]; exact Num.padN_lo _ _
      have p2 : p < 2305843009213693951 := by rw [hp]; exact Num.padN_hi _ _
      have HP := hideG hp
      clear hp
      go_wp2_with (at_builtin; refine wpList_append_own _ rfl _ _ 33 rfl w.heap.size 3 i0 (.int .i64 0) 1 8 Tryz.underlying33 hi hz0 hz1 hz2 rfl (by decide) _ _ _ rfl (HO.out.alloc _) ⟨wr.heap.size, 0, none⟩ 1 1 [.int .i64 (p / 1048576 % 4294967296)] rfl rfl ?c1 ?c2 ?c3 ?c4 ?c5 ?_)
      case c1 => exact cell_one_new _ _ _
      case c2 => intro u hu; simp at hu; subst hu; rfl
      case c3 => unfold maxLen; omega
      case c4 => omega
      case c5 => simp; omega
      intro v' w2 hown' hgrow' _
      have hbk := fun x (h : Value.ownBlock _ = some x) => HO.out.lt x h
      have hb2 := (HB.out.alloc hsz _).grown hgrow' (by simp; omega) (fun x h => (hbk x h).1)
      have HB2 := hideG hb2
      have ho2 : w2.ownsRow w.heap.size 3 1 v' (k + 1) ((Num.strL seed (k + 1)).map (Value.int .i64)) := by
        rw [Num.strL_succ, List.map_append]; rw [show Num.strAt seed k = p / 1048576 % 4294967296 by rw [HP.out]; rfl]; exact hown'
      have HO2 := hideG ho2
      clear hown' hgrow' hbk hb2 ho2
      go_wp2_with fail
      go_roundw
      case rel => exact ⟨k + 1, by omega, by go_num, HO2.out, HB2.out⟩
      case measure => simp [intOf]; omega
    · have ek : k = n := by omega
      subst ek
      go_wp2_with fail
      go_ret2
      exact ⟨_, rfl, HO.out, HB.out⟩

end Go.Proofs.YtchideljndagjabGreat

namespace Go.Proofs.YtchideljndagjabGreat
open Go.ChangeShapes Go.WideShapes Go.ChangeAt Go.RowKit
set_option linter.unusedVariables false

def ListIs (w : World) (v : Value) : Prop := ∃ zs, ListAt w v zs ∧ zs.length * 8 ≤ 140737488351232

/-- What is known of a step of a script. -/
def OpIs (w : World) (kd x y z : Int) (r : Nat → Value) : Prop := inI kd ∧ inI x ∧ inI y ∧ inI z ∧ ListIs w (r 0)

/-- The cells of a step: four integers and ten values more. -/
def opCells (kd x y z : Int) (r : Nat → Value) : List Value :=
  [.int .i64 kd, .int .i64 x, .int .i64 y, .int .i64 z, r 0, r 1, r 2, r 3, r 4, r 5, r 6, r 7, r 8, r 9]

end Go.Proofs.YtchideljndagjabGreat

namespace Go.Proofs.YtchideljndagjabGreat
open Go.ChangeShapes Go.WideShapes Go.ChangeAt Go.RowKit
set_option linter.unusedVariables false

set_option maxHeartbeats 1000000 in
theorem sameInts_same (va vb : Value) (zs : List Int) (w : World) (ha : ListAt w va zs) (hb : ListAt w vb zs) :
    Calls Tryz.prog 87 #[va, vb] w fun e w' => e = .returned (.bool true) ∧ ∃ nq, w' = w.drewN nq := by
  obtain ⟨a, ca, rfl, a2, a3, a4, a5⟩ := ha
  obtain ⟨b, cb, rfl, b2, b3, b4, b5⟩ := hb
  unfold maxLen at a3 b3
  have hA : Hid (zs = [] ∨ ∃ g off, a = some ⟨g, off, none⟩ ∧ ∀ i, i < zs.length → w.cell? ⟨g, off + i, none⟩ = some (.int .i64 (zs.getD i 0))) := by
    rcases a5 with h | ⟨g, off, h1, _, h2⟩
    · exact .inl h
    · exact .inr ⟨g, off, h1, h2⟩
  have hB : Hid (zs = [] ∨ ∃ g off, b = some ⟨g, off, none⟩ ∧ ∀ i, i < zs.length → w.cell? ⟨g, off + i, none⟩ = some (.int .i64 (zs.getD i 0))) := by
    rcases b5 with h | ⟨g, off, h1, _, h2⟩
    · exact .inl h
    · exact .inr ⟨g, off, h1, h2⟩
  clear a4 a5 b4 b5
  have el : ((zs.length : Int) != (zs.length : Int)) = false := by simp
  generalize hn : zs.length = n at *
  have HN := hideG hn
  clear hn
  go_enter Tryz.func87, Tryz.ntmps87
  go_wp2_with fail
  go_loopw [5] (fun i wr => ∃ k nq : Nat, k ≤ n ∧ i = .int .i64 k ∧ wr = w.drewN nq) (fun i _ => n - (intOf i).toNat)
  case atStart => exact ⟨0, 0, by omega, rfl, rfl⟩
  case round =>
    obtain ⟨k, nq, hk, rfl, rfl⟩ := hrel
    by_cases hlt : k < n
    · obtain ⟨g1, o1, rfl, q1⟩ : ∃ g off, a = some ⟨g, off, none⟩ ∧ w.cell? ⟨g, off + k, none⟩ = some (.int .i64 (zs.getD k 0)) := by
        rcases hA.out with h | ⟨g, off, h1, h2⟩
        · have := HN.out; rw [h] at this; simp at this; omega
        · exact ⟨g, off, h1, h2 k hlt⟩
      obtain ⟨g2, o2, rfl, q2⟩ : ∃ g off, b = some ⟨g, off, none⟩ ∧ w.cell? ⟨g, off + k, none⟩ = some (.int .i64 (zs.getD k 0)) := by
        rcases hB.out with h | ⟨g, off, h1, h2⟩
        · have := HN.out; rw [h] at this; simp at this; omega
        · exact ⟨g, off, h1, h2 k hlt⟩
      generalize zs.getD k 0 = z at *
      have ez : (z != z) = false := by simp
      go_wp2_with fail
      go_quiet (fail)
      go_wp2_with fail
      go_roundw
      case rel => exact ⟨k + 1, _, by omega, by go_num, rfl⟩
      case measure => simp [intOf]; omega
    · go_wp2_with fail
      go_ret
      exact ⟨rfl, nq, rfl⟩

end Go.Proofs.YtchideljndagjabGreat

namespace Go.Proofs.YtchideljndagjabGreat
open Go.RowKit
set_option linter.unusedVariables false

/-- The list, and behind it k marks and what is left of three noughts. -/
def given (zs : List Int) (k : Nat) : List Value := zs.map (Value.int .i64) ++ (List.replicate k (.int .i64 77) ++ List.replicate (3 - k) (.int .i64 0))

theorem row_of_full {w : World} {B g n : Nat} {e : TypeId} {xs : List Value} (h : w.ownsRow B e 1 (.slice (some ⟨g, 0, none⟩) n n) n xs) : w.heap[g]? = some (.cells xs.toArray e (0, 0)) := by
  have hl := h.1
  rcases h.2 with ⟨e0, _⟩ | ⟨g', cap, cur, e0, _, hg, _, _, hcs, htake⟩
  · cases e0
  · cases e0
    rw [hg]
    congr 2
    have : cur.toList.take (n * 1) = cur.toList := List.take_of_length_le (by simp; omega)
    rw [this] at htake
    rw [← htake]

theorem row_set {w : World} {g : Nat} {e : TypeId} {xs : List Value} (h : w.heap[g]? = some (.cells xs.toArray e (0, 0))) (k : Nat) (u : Value) :
    (w.setCell ⟨g, k, none⟩ u).heap[g]? = some (.cells (xs.set k u).toArray e (0, 0)) := by
  rw [setCell_eq_setRow w g k _ e (0, 0) u h, setRow_heap w g _ _ e _ h]
  simp

theorem row_cell {w : World} {g : Nat} {e : TypeId} {xs : List Value} (h : w.heap[g]? = some (.cells xs.toArray e (0, 0))) (k : Nat) (hk : k < xs.length) :
    w.cell? ⟨g, k, none⟩ = xs[k]? ∧ w.frozen? ⟨g, k, none⟩ = false := by
  constructor
  · simp [World.cell?, h]
  · simp [World.frozen?, h]

end Go.Proofs.YtchideljndagjabGreat
