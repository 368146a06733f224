/- A row of numbers in a block of its own. -/
import Derived.Test.YtchideljndagjabGreatPkLiAC
import Derived.Laws.MakeOwn
import Derived.Laws.OwnMore
import Derived.Test.YtchideljndagjabGreatPkLiBL
import Derived.Test.YtchideljndagjabGreatPkLiBE
import Derived.Maps.AppendAt
import Derived.Test.YtchideljndagjabGreatPkLiAT
import Derived.Test.YtchideljndagjabGreatPkLiBG
import Derived.Test.YtchideljndagjabGreatPkLiAB
import Derived.Deep.Strs
import Derived.ChangeOld
import Derived.ShutString
import Derived.Deep.Slices
import Derived.Test.YtchideljndagjabGreatRows
import Derived.JoinedOf
namespace Go.Proofs.YtchideljndagjabGreat
open Go.ChangeShapes Go.WideShapes Go.ChangeAt Go.RowKit
set_option linter.unusedVariables false

def IntsRow (w : World) (g n : Nat) (r : Nat → Int) : Prop := w.heap[g]? = some (.cells ((List.range n).map fun t => Value.int .i64 (r t)).toArray 3 (0, 0))
theorem rowF_get (n : Nat) (r : Nat → Int) (t : Nat) (ht : t < n) : ((List.range n).map fun t => Value.int .i64 (r t))[t]? = some (.int .i64 (r t)) := by
  rw [List.getElem?_map, List.getElem?_range ht]; rfl
theorem IntsRow.cell {w : World} {g n : Nat} {r : Nat → Int} (h : IntsRow w g n r) (t : Nat) (ht : t < n) : w.cell? ⟨g, t, none⟩ = some (.int .i64 (r t)) := by
  rw [cell_of_row w g t _ _ (0, 0) h, List.getElem?_toArray]; exact rowF_get n r t ht
theorem IntsRow.froz {w : World} {g n : Nat} {r : Nat → Int} (h : IntsRow w g n r) (t : Nat) : w.frozen? ⟨g, t, none⟩ = false := frozen_of_row w g t _ _ h
theorem IntsRow.lt {w : World} {g n : Nat} {r : Nat → Int} (h : IntsRow w g n r) : g < w.heap.size := by
  by_cases hb : g < w.heap.size
  · exact hb
  · unfold IntsRow at h; rw [Array.getElem?_eq_none (by omega)] at h; cases h
theorem IntsRow.block {w w' : World} {g n : Nat} {r : Nat → Int} (h : IntsRow w g n r) (e : w'.heap[g]? = w.heap[g]?) : IntsRow w' g n r := e.trans h
theorem IntsRow.ext {w : World} {g n : Nat} {r r' : Nat → Int} (h : IntsRow w g n r) (e : ∀ t, t < n → r t = r' t) : IntsRow w g n r' := by
  unfold IntsRow at h ⊢
  rw [h]
  congr 3
  apply List.map_congr_left
  intro t ht
  rw [e t (List.mem_range.1 ht)]
theorem IntsRow.set {w : World} {g n : Nat} {r r' : Nat → Int} (h : IntsRow w g n r) (t : Nat) (ht : t < n) (z : Int) (hz : r' t = z) (e : ∀ u, u < n → u ≠ t → r' u = r u) : IntsRow (w.setCell ⟨g, t, none⟩ (.int .i64 z)) g n r' := by
  have := heap_setCell_same w g t _ _ (.int .i64 z) h
  unfold IntsRow
  rw [this, List.setIfInBounds_toArray]
  congr 3
  apply List.ext_getElem?
  intro u
  rw [List.getElem?_set]
  by_cases hu : u < n
  · rw [rowF_get n r' u hu]
    by_cases ee : t = u
    · subst ee; rw [if_pos rfl, if_pos (by simpa using ht), hz]
    · rw [if_neg ee, rowF_get n r u hu, e u hu (fun x => ee x.symm)]
  · rw [List.getElem?_eq_none (by simp; omega)]
    by_cases ee : t = u
    · omega
    · rw [if_neg ee, List.getElem?_eq_none (by simp; omega)]

theorem rrow_of_full {w : World} {B g n : Nat} {e : TypeId} {xs : List Value} (h : w.ownsRow B e 1 (.slice (some ⟨g, 0, none⟩) n n) n xs) : w.heap[g]? = some (.cells xs.toArray e (0, 0)) := by
  have hl := h.1
  rcases h.2 with ⟨e0, _⟩ | ⟨g', cap, cur, e0, _, hg, _, _, hcs, htake⟩
  · cases e0
  · cases e0
    rw [hg]
    congr 2
    have : cur.toList.take (n * 1) = cur.toList := List.take_of_length_le (by simp; omega)
    rw [this] at htake
    rw [← htake]
theorem rep_range (n : Nat) (x : Value) : List.replicate n x = (List.range n).map fun _ => x := by rw [List.map_const', List.length_range]
theorem chg_drew {S : Nat → Prop} {a b : World} (h : Chg S a b) : Chg S a b.drew := h.trans (S' := fun _ => False) ⟨rfl, rfl, rfl, Nat.le_refl _, fun _ _ _ => rfl⟩ (fun _ e _ => e.elim)
theorem IntsRow.drew {w : World} {g n : Nat} {r : Nat → Int} (h : IntsRow w g n r) : IntsRow w.drew g n r := h

end Go.Proofs.YtchideljndagjabGreat

namespace Go.Proofs.YtchideljndagjabGreat
open Go.ChangeShapes Go.WideShapes Go.ChangeAt Go.RowKit
set_option linter.unusedVariables false

theorem inL_succ (f : Nat → Bool) (k : Nat) : inL (k + 1) f = inL k f ++ (if f (k + 1) = true then [(k : Int) + 1] else []) := by
  unfold inL
  rw [List.range_succ, List.filter_append, List.map_append]
  congr 1
  by_cases q : f (k + 1) = true
  · rw [if_pos q, List.filter_cons, if_pos q]; rfl
  · rw [if_neg q, List.filter_cons, if_neg q]; rfl
theorem inS_yes (cl : Nat → Cli.Cl) (f : Nat → Bool) (k i : Nat) (q : f (k + 1) = true) : inS cl (k + 1) f i = (inS cl k f i + (cl k).inp.getD i 0) % 4294967296 := by
  unfold inS
  rw [List.range_succ, List.filter_append, List.map_append, List.filter_cons, if_pos q, Srv.sum_app]
  show (_ + ((cl k).inp.getD i 0 + 0)) % _ = _
  omega
theorem inS_no (cl : Nat → Cli.Cl) (f : Nat → Bool) (k i : Nat) (q : f (k + 1) = false) : inS cl (k + 1) f i = inS cl k f i := by
  unfold inS
  rw [List.range_succ, List.filter_append, List.map_append, List.filter_cons, if_neg (by rw [q]; exact Bool.false_ne_true), Srv.sum_app]
  show (_ + 0) % _ = _
  omega
theorem inS_zero (cl : Nat → Cli.Cl) (f : Nat → Bool) (i : Nat) : inS cl 0 f i = 0 := rfl
theorem inS_bd (cl : Nat → Cli.Cl) (f : Nat → Bool) (k i : Nat) : 0 ≤ inS cl k f i ∧ inS cl k f i < 4294967296 := by unfold inS; omega
theorem inL_in (f : Nat → Bool) (k : Nat) (hk : k ≤ 12) : ∀ z ∈ inL k f, inI z := by
  intro z hz
  unfold inL at hz
  obtain ⟨i, hi, rfl⟩ := List.mem_map.1 hz
  have := List.mem_range.1 (List.mem_filter.1 hi).1
  unfold inI; omega
theorem inL_len (f : Nat → Bool) (k : Nat) : (inL k f).length ≤ k := by
  unfold inL
  rw [List.length_map]
  exact Nat.le_trans (List.length_filter_le _ _) (by rw [List.length_range]; exact Nat.le_refl _)
theorem listAt_row {w : World} {g n : Nat} {r : Nat → Int} (h : IntsRow w g n r) (hn : n ≤ 12) (hr : ∀ t, t < n → inI (r t)) : ListAt w (.slice (some ⟨g, 0, none⟩) n n) ((List.range n).map r) := by
  refine ⟨some ⟨g, 0, none⟩, n, by rw [List.length_map, List.length_range], by rw [List.length_map, List.length_range]; exact Nat.le_refl _, by unfold maxLen; omega, ?_, .inr ⟨g, 0, rfl, h.lt, fun i hi => ?_⟩⟩
  · intro z hz
    obtain ⟨t, ht, rfl⟩ := List.mem_map.1 hz
    exact hr t (List.mem_range.1 ht)
  · rw [List.length_map, List.length_range] at hi
    rw [Nat.zero_add, h.cell i hi, List.getD_eq_getElem?_getD, List.getElem?_map, List.getElem?_range hi]
    rfl

set_option maxHeartbeats 4000000 in
set_option maxRecDepth 100000 in
theorem ksum_calls (T D : Int) (n m : Nat) (hn : n ≤ 12) (hm : 1 ≤ m ∧ m ≤ 12) (f : Nat → Bool) (cl : Nat → Cli.Cl) (a : Option Addr) (c : Nat) (vi vm vs : Nat → Value) (Dd : Nat → DD) (w : World) (hD : DrawsAt w a n c vi vm vs Dd) (hcl : ∀ k, k < n → (cl k).inp = (Dd k).inp) (hlen : ∀ k, k < n → (Dd k).inp.length = m) (hin : ∀ k, k < n → ∀ i, i < m → 0 ≤ (Dd k).inp.getD i 0 ∧ (Dd k).inp.getD i 0 < 4294967296) :
    Calls Tryz.prog 19 #[.agg #[.int .i64 (n : Int), .int .i64 T, .int .i64 (m : Int), .int .i64 D], .slice a n c, setV f] w fun e w' => ∃ v1 v2, e = .returned (.tuple #[v1, v2]) ∧ ListAt w' v1 (inL n f) ∧ ListAt w' v2 ((List.range m).map (inS cl n f)) ∧ (∀ x, v1.ownBlock = some x ∨ v2.ownBlock = some x → w.heap.size ≤ x ∧ x < w'.heap.size) ∧ Below w.heap.size w w' := by
  obtain ⟨i0, hi, hz0, hz1, hz2⟩ := info_parts infoIn
  have HD := hideG (fun (W : World) (hb : Below w.heap.size w W) => hD.below hb)
  have hle := hD.le
  have hmx := hD.mx
  have HCL := hideG hcl
  have HLEN := hideG hlen
  have HIN := hideG hin
  clear hD hcl hlen hin
  unfold setV
  obtain ⟨W1, hW1⟩ : ∃ W1, W1 = (w.alloc (.cells #[.int .i64 (n : Int), .int .i64 T, .int .i64 (m : Int), .int .i64 D] 26)).alloc (.cells (bl13 f).toArray 37) := ⟨_, rfl⟩
  have B1 : Below w.heap.size w W1 := by rw [hW1]; exact ((Below.refl _ _).alloc (Nat.le_refl _) _).alloc (by simp) _
  have z1 : W1.heap.size = w.heap.size + 2 := by rw [hW1]; simp
  have HR := hideG (show W1.heap[w.heap.size]? = some (.cells #[.int .i64 (n : Int), .int .i64 T, .int .i64 (m : Int), .int .i64 D] 26 (0, 0)) by
    rw [hW1]
    rw [((Below.refl _ (w.alloc (.cells #[.int .i64 (n : Int), .int .i64 T, .int .i64 (m : Int), .int .i64 D] 26))).alloc (Nat.le_refl _) _).block w.heap.size (by simp)]
    exact heap_alloc_new w _)
  have HS := hideG (show BoolsAt W1 (w.heap.size + 1) 37 f by
    have := bools_box (w.alloc (.cells #[.int .i64 (n : Int), .int .i64 T, .int .i64 (m : Int), .int .i64 D] 26)) 37 f
    rw [hW1]; simpa using this)
  have BB := hideG B1
  obtain ⟨X, hX⟩ : ∃ X, X = (bl13 f).toArray := ⟨_, rfl⟩
  rw [← hX] at hW1 ⊢
  have HW1 := hideG hW1
  have Z1 := hideG z1
  clear hX hW1 B1 z1
  obtain ⟨⟨x0, x1, x2, x3⟩, -⟩ := cells_four HR.out
  go_enter Tryz.func19, Tryz.ntmps19
  go_upto_region 1 with fail
  rw [← HW1.out]
  go_upto_region 2 with (at_make; refine wpList_make_full _ rfl _ _ 33 rfl W1.heap.size 3 i0 (.int .i64 0) 1 Tryz.underlying33 hi hz0 hz1 _ _ _ _ m rfl rfl (by omega) (by omega) ?m1 ?m2 ?m3 ?_)
  case m1 => rw [hz2]; omega
  case m2 => unfold maxLen; omega
  case m3 => exact Nat.le_refl _
  intro w1 hown1 hgrow1
  have hr := rrow_of_full hown1
  have hb1 : Below W1.heap.size W1 w1 := (Below.refl _ _).grown hgrow1 (Nat.le_refl _) (by simp)
  rw [toList_madeCells_one, rep_range] at hr
  have R1 := hideG (show IntsRow w1 W1.heap.size m (inS cl 0 f) from IntsRow.ext (show IntsRow w1 W1.heap.size m (fun _ => 0) from hr) (fun t _ => (inS_zero cl f t).symm))
  have g1 := R1.out.lt
  have B2 := hideG hb1
  clear hr hb1 hown1 hgrow1 x0 x1 x2 x3
  obtain ⟨gR, hgR⟩ : ∃ gR, gR = W1.heap.size := ⟨_, rfl⟩
  rw [← hgR] at R1 B2 g1 ⊢
  have HG2 := hideG (show gR = w.heap.size + 2 by rw [hgR]; exact Z1.out)
  have hg2 : w.heap.size + 1 < gR := by have := HG2.out; omega
  have KEEP := hideG (fun (W : World) (hb : Below gR W1 W) => (show W.heap[w.heap.size]? = some (.cells #[.int .i64 (n : Int), .int .i64 T, .int .i64 (m : Int), .int .i64 D] 26 (0, 0)) ∧ BoolsAt W (w.heap.size + 1) 37 f ∧ Below w.heap.size w W from
    ⟨(hb.block _ (by omega)).trans HR.out, HS.out.block (hb.block _ (by omega)), BB.out.trans (hb.mono (by omega))⟩))
  clear hgR
  go_wp2_with fail
  go_loopw [9, 10] (fun l u wr => ∃ k : Nat, k ≤ n ∧ u = .int .i64 ((k : Int) + 1) ∧ wr.ownsRow w1.heap.size 3 1 l (inL k f).length ((inL k f).map (Value.int .i64)) ∧ IntsRow wr gR m (inS cl k f) ∧ Below gR W1 wr ∧ w1.heap.size ≤ wr.heap.size) (fun _ u _ => (n + 1) - (intOf u).toNat)
  case atStart => exact ⟨0, Nat.zero_le _, rfl, World.ownsRow_nil _ _ _ _, R1.out, B2.out, Nat.le_refl _⟩
  case round =>
    obtain ⟨k, hk, rfl, hown, hrow, hbel, hw1r⟩ := hrel
    have HO := hideG hown
    have HI := hideG hrow
    have HB := hideG hbel
    have hgl := hrow.lt
    have hsz := hbel.size
    obtain ⟨al, cc, hvl⟩ := owns_form hown
    subst hvl
    obtain ⟨kc, ks, kb⟩ := KEEP.out wr hbel
    have KBW := hideG kb
    have KS := hideG ks
    obtain ⟨⟨x0, x1, x2, x3⟩, -⟩ := cells_four kc
    clear hown hrow hbel kc ks kb
    have hln := inL_len f k
    have HLS := hideG (inL_succ f k)
    by_cases hlt : k < n
    · have hb13 := KS.out.cell (k + 1) (by omega)
      have hlt' : (k : Int) + 1 ≤ (n : Int) := by omega
      have hk13 : (k : Int) + 1 < 13 := by omega
      cases q : f (k + 1)
      · rw [q] at hb13
        have FO := hideG (show wr.ownsRow w1.heap.size 3 1 (.slice al (inL k f).length cc) (inL (k + 1) f).length ((inL (k + 1) f).map (Value.int .i64)) by
          rw [HLS.out, q, if_neg Bool.false_ne_true, List.append_nil]; exact HO.out)
        have FI := hideG (HI.out.ext (r' := inS cl (k + 1) f) (fun t _ => (inS_no cl f k t q).symm))
        clear q
        generalize (inL k f).length = nl at *
        go_wp2_with fail
        go_roundw
        case rel => exact ⟨k + 1, by omega, by go_num, FO.out, FI.out, HB.out, hw1r⟩
        case measure => simp [intOf]; omega
      · rw [q] at hb13
        have HL2 := hideG (show inL (k + 1) f = inL k f ++ [(k : Int) + 1] by rw [HLS.out, q, if_pos rfl])
        have HSY := hideG (fun t => inS_yes cl f k t q)
        have HBD := hideG (fun t => inS_bd cl f k t)
        clear q
        go_upto_region 8 with (at_builtin; refine wpList_append_own _ rfl _ _ 33 rfl w1.heap.size 3 i0 (.int .i64 0) 1 8 Tryz.underlying33 hi hz0 hz1 hz2 rfl (by decide) _ _ _ rfl (HO.out.alloc _) ⟨wr.heap.size, 0, none⟩ 1 1 [.int .i64 ((k : Int) + 1)] rfl rfl ?c1 ?c2 ?c3 ?c4 ?c5 ?_)
        case c1 => exact cell_one_new _ _ _
        case c2 => intro u hu; simp at hu; subst hu; rfl
        case c3 => unfold maxLen; omega
        case c4 => omega
        case c5 => simp; omega
        intro v' w3 hown' hgrow' _
        have hbk := fun x (h : Value.ownBlock _ = some x) => HO.out.lt x h
        have hb3 : Below w1.heap.size wr w3 := ((Below.refl w1.heap.size wr).alloc hw1r _).grown hgrow' (by simp; omega) (fun x h => (hbk x h).1)
        have O3 := hideG (show w3.ownsRow w1.heap.size 3 1 v' (inL (k + 1) f).length ((inL (k + 1) f).map (Value.int .i64)) by
          rw [HL2.out, List.length_append, List.map_append]; exact hown')
        have I3 := hideG ((HI.out.block (hb3.block gR g1)).ext (r' := fun x => if x < 0 then inS cl (k + 1) f x else inS cl k f x) (fun t _ => by rw [if_neg (Nat.not_lt_zero t)]))
        have B3 := hideG (HB.out.trans (hb3.mono (by omega)))
        have s3 := hb3.size
        have hgl3 : gR < w3.heap.size := by omega
        have KQ := hideG (fun (W : World) (hc : Chg (fun x => x = gR) w3 W) => (show Below gR W1 W from B3.out.trans (hc.below (by omega) (fun x e => by omega))))
        have DK := hideG (fun (W : World) (hb : Below w.heap.size w W) => And.intro ((HD.out W hb).cells k hlt) ((HD.out W hb).its k hlt).1)
        have LK := hideG (HLEN.out k hlt)
        have NK := hideG (HIN.out k hlt)
        have CK := hideG (HCL.out k hlt)
        have hkn : (k : Int) < (n : Int) := by omega
        clear hown' hgrow' hbk hb3 x0 x1 x2 x3 hb13 HLS HD HLEN HIN HCL HL2
        obtain ⟨av, cv, hvv⟩ := owns_form O3.out
        rw [hvv] at O3 ⊢
        clear hvv
        generalize hnl : (inL (k + 1) f).length = nl at *
        go_wp2_with fail
        go_loopw [11] (fun i wq => ∃ t : Nat, t ≤ m ∧ i = .int .i64 (t : Int) ∧ IntsRow wq gR m (fun x => if x < t then inS cl (k + 1) f x else inS cl k f x) ∧ Chg (fun x => x = gR) w3 wq) (fun i _ => m - (intOf i).toNat)
        case atStart => exact ⟨0, Nat.zero_le _, rfl, I3.out, Chg.refl _ _⟩
        case round =>
          obtain ⟨t, ht, rfl, hrow, hchg⟩ := hrel
          have HRW := hideG hrow
          have HCH := hideG hchg
          obtain ⟨kc, ks, kb⟩ := KEEP.out _ (KQ.out _ hchg)
          obtain ⟨⟨x0, x1, x2, x3⟩, -⟩ := cells_four kc
          obtain ⟨⟨db, dof, rfl, dl, d0, -⟩, dli⟩ := DK.out _ kb
          have hglq := hrow.lt
          have szq := hchg.size
          have KQB := hideG (KQ.out _ hchg)
          clear kc ks kb hrow hchg
          by_cases htm : t < m
          · have c0 := HRW.out.cell t htm
            have c1 := HRW.out.froz t
            rw [if_neg (Nat.lt_irrefl t)] at c0
            obtain ⟨ai, ci, hvi, l1, l2, -, l4⟩ := dli
            rw [hvi] at d0
            rw [LK.out] at d0 l1 l4
            rcases l4 with l4 | ⟨ib, io, rfl, il, ic⟩
            · have := LK.out; rw [l4] at this; simp at this; omega
            have j0 := ic t htm
            obtain ⟨n1, n2⟩ := NK.out t htm
            obtain ⟨p1, p2⟩ := HBD.out t
            obtain ⟨Y, hY⟩ : ∃ Y, Y = (Dd k).inp.getD t 0 := ⟨_, rfl⟩
            obtain ⟨A, hA⟩ : ∃ A, A = inS cl k f t := ⟨_, rfl⟩
            have hRv : inS cl (k + 1) f t = (A + Y) % 4294967296 := by rw [HSY.out t, CK.out, hA, hY]
            rw [← hY] at j0 n1 n2
            rw [← hA] at p1 p2 c0
            obtain ⟨R, hR⟩ : ∃ R, R = (A + Y) % 4294967296 := ⟨_, rfl⟩
            have hwr : IntKind.i64.wrap (A + Y) = A + Y := by rw [IntWalk.i64_left, IntWalk.wrap64_in _ (by omega)]
            have hmd : (A + Y).tmod 4294967296 = R := by rw [hR, Int.tmod_eq_emod_of_nonneg (by omega)]
            have hRb : 0 ≤ R ∧ R < 4294967296 := by omega
            have FIN := hideG (fun (W : World) (hW : IntsRow W gR m (fun x => if x < t then inS cl (k + 1) f x else inS cl k f x)) => (show IntsRow (W.setCell ⟨gR, t, none⟩ (.int .i64 R)) gR m (fun x => if x < t + 1 then inS cl (k + 1) f x else inS cl k f x) from
              hW.set t htm R (by show (if t < t + 1 then inS cl (k + 1) f t else inS cl k f t) = _; rw [if_pos (Nat.lt_succ_self t), hRv, hR]) (fun x hx hne => by
                show (if x < t + 1 then inS cl (k + 1) f x else inS cl k f x) = (if x < t then inS cl (k + 1) f x else inS cl k f x)
                by_cases e : x < t
                · rw [if_pos e, if_pos (by omega)]
                · rw [if_neg e, if_neg (by omega)])))
            clear hY hA hR hRv hvi HSY HBD CK NK LK DK ic
            have htm' : (t : Int) < (m : Int) := by omega
            go_wp2_with fail
            go_region
            go_wp2_with fail
            go_roundw
            case rel => exact ⟨t + 1, by omega, by go_num, (FIN.out _ HRW.out).drew, chg_drew (HCH.out.also (Chg.setCell wr ⟨gR, t, none⟩ _))⟩
            case measure => simp [intOf]; omega
          · have htm' : ¬ (t : Int) < (m : Int) := by omega
            have etm : t = m := by omega
            have FI := hideG (HRW.out.ext (r' := inS cl (k + 1) f) (fun x hx => by rw [if_pos (by omega)]))
            have FO := hideG (ownsRow_chg O3.out HCH.out (fun x hx e => by
              have h1 := (O3.out.lt x hx).1
              have h2 : x = gR := e
              omega))
            clear d0 dli etm
            go_wp2_with fail
            go_roundw
            case rel => exact ⟨k + 1, by omega, by go_num, by rw [hnl]; exact FO.out, FI.out, KQB.out, by omega⟩
            case measure => simp [intOf]; omega
    · have ek : k = n := by omega
      have FO := hideG (show ListAt wr (.slice al (inL k f).length cc) (inL n f) by
        have e : inL n f = inL k f := by rw [ek]
        rw [e]; exact listAt_of_owns HO.out (inL_in f k (by omega)))
      have FR := hideG (listAt_row HI.out hm.2 (fun t _ => by have := inS_bd cl f k t; unfold inI; omega))
      have FB := hideG (fun x (hx : Value.ownBlock _ = some x) => HO.out.lt x hx)
      rw [ek] at FR
      have hnk : ¬ (k : Int) + 1 ≤ (n : Int) := by omega
      clear ek
      generalize (inL k f).length = nl at *
      go_wp2_with fail
      go_ret2
      refine ⟨_, _, rfl, FO.out, FR.out, fun x hx => ?_, KBW.out⟩
      rcases hx with hx | hx
      · have := FB.out x hx; omega
      · have e : gR = x := by injection hx
        omega

end Go.Proofs.YtchideljndagjabGreat

namespace Go.Proofs.YtchideljndagjabGreat
open Go.RowKit
set_option linter.unusedVariables false

theorem act_q {C : Srv.Cf} {cl : Nat → Cli.Cl} {n : Nat} {s : Sn} (f : Bool) {o : Stp} (h5 : o.k ≠ 5) : (actN C cl n f s o).q.out = s.q.out := by
  unfold actN
  rw [if_neg h5]
  split
  · split
    · rfl
    · unfold deliverN; split
      · split
        · rfl
        · exact (rcv_q C cl n _ _ _).1
      · rfl
  · split
    · split
      · rfl
      · unfold dropN; split <;> rfl
    · split
      · split
        · rfl
        · unfold doubleN; split
          · split
            · split <;> rfl
            · rfl
          · rfl
      · split
        · split
          · unfold injectN; split
            · exact (rcv_q C cl n _ _ _).1
            · rfl
          · rfl
        · split
          · unfold crashU; split <;> rfl
          · rfl
theorem OutOk.act {C : Srv.Cf} {cl : Nat → Cli.Cl} {n : Nat} {s : Sn} (ok : SnOk C cl n s) (h : OutOk C s.q.out) (f : Bool) (o : Stp) : OutOk C (actN C cl n f s o).q.out := by
  by_cases h5 : o.k = 5
  · have e : actN C cl n f s o = tickN C s := by unfold actN; rw [if_neg (by omega), if_neg (by omega), if_neg (by omega), if_neg (by omega), if_pos h5]
    rw [e]; exact OutOk.tick ok.gc ok.sok h
  · rw [act_q f h5]; exact h
end Go.Proofs.YtchideljndagjabGreat

namespace Go.Proofs.YtchideljndagjabGreat
open Go.ChangeShapes Go.WideShapes Go.ChangeAt Go.RowKit Go.Deep
set_option linter.unusedVariables false

theorem acellsInt : Tryz.prog.cellsOf 3 = 1 := by kernel_rfl
theorem acellsInts : Tryz.prog.cellsOf 33 = 1 := by kernel_rfl
theorem acellsCfg : Tryz.prog.cellsOf 26 = 4 := by kernel_rfl
theorem acellsDraw : Tryz.prog.cellsOf 117 = 6 := by kernel_rfl

theorem arr4 {cs : Array Value} (h : cs.size = 4) : ∃ a b c d, cs = #[a, b, c, d] := by
  obtain ⟨l⟩ := cs
  match l, h with
  | [a, b, c, d], _ => exact ⟨a, b, c, d, rfl⟩
section
variable {H : Type} {enc : TypeId × Value → H} {w : World} {spare : Nat → Bool} {held : Bool} {r : Reach} {b0 : Nat}

theorem aint_of {n : Nat} {c : Value} {y : DataW H × List MemPlace} (h : DataW.trod enc Tryz.prog w 0 spare held n 3 [c] = some y) : ∃ x : Int, c = .int .i64 x ∧ inI x := by
  obtain ⟨x, e, _, hx⟩ := DataW.trod_int Tryz.underlying3 h
  simp at e
  exact ⟨x, e, bounds_i64 hx⟩
theorem alist_of {n : Nat} {c : Value} {y : DataW H × List MemPlace} (h : DataW.trod enc Tryz.prog w 0 (fun _ => true) held n 33 [c] = some y) : ∃ zs, ListAt w c zs := by
  rcases open_ints Tryz.underlying33 Tryz.underlying3 acellsInt h with ⟨hcs, _⟩ | ⟨x, l, c', zs, hcs, _, hl, hm, hz, _, hcell, hwz⟩
  · simp at hcs
    subst hcs
    exact ⟨_, (rowed (zs := []) (.inl ⟨rfl, rfl, rfl, rfl⟩)).1⟩
  · simp at hcs
    subst hcs
    exact ⟨_, (rowed (zs := zs) (.inr ⟨_, rfl, hl, hm, by simpa using hz, hcell, hwz⟩)).1⟩

set_option maxRecDepth 100000 in
theorem cfg_open {v : Value} {d : DataW H} {p : List MemPlace} (hv : Value.okWide Tryz.prog w r b0 26 v) (h : DataW.Trod enc Tryz.prog w 0 (fun _ => true) held 26 v d p) :
    ∃ N T M D : Int, v = .agg #[.int .i64 N, .int .i64 T, .int .i64 M, .int .i64 D] := by
  obtain ⟨cs, rfl, hsz⟩ := okWide_struct Tryz.underlying26 hv
  rw [acellsCfg] at hsz
  obtain ⟨c0, c1, c2, c3, rfl⟩ := arr4 hsz
  obtain ⟨fuel, hf⟩ := h
  obtain ⟨xs, m, _, hy, hl, hlen, hf⟩ := DataW.trod_struct Tryz.underlying26 hf
  have f0 := hf 0 _ rfl
  have f1 := hf 1 _ rfl
  have f2 := hf 2 _ rfl
  have f3 := hf 3 _ rfl
  simp [acellsInt, Value.cells] at f0 f1 f2 f3
  have hlen4 : xs.length = 4 := hlen
  rw [List.getElem?_eq_getElem (by omega)] at f0 f1 f2 f3
  obtain ⟨a, rfl, _⟩ := aint_of f0
  obtain ⟨b, rfl, _⟩ := aint_of f1
  obtain ⟨c, rfl, _⟩ := aint_of f2
  obtain ⟨e, rfl, _⟩ := aint_of f3
  exact ⟨a, b, c, e, rfl⟩

end
end Go.Proofs.YtchideljndagjabGreat

namespace Go.Proofs.YtchideljndagjabGreat
open Go.ChangeShapes Go.WideShapes Go.ChangeAt Go.RowKit Go.Deep
set_option linter.unusedVariables false

section
variable {H : Type} {enc : TypeId × Value → H} {w : World} {held : Bool}

set_option maxRecDepth 100000 in
theorem adraw_of {n : Nat} {cs : List Value} {y : DataW H × List MemPlace} (h : DataW.trod enc Tryz.prog w 0 (fun _ => true) held n 117 cs = some y) :
    ∃ vi vm vs d, cs = [vi, .int .i64 (d : DD).ch, .int .i64 d.ms, .int .i64 d.sd, vm, vs] ∧ DrawIs w vi vm vs d := by
  obtain ⟨xs, m, _, hy, hl, hlen, hf⟩ := DataW.trod_struct Tryz.underlying117 h
  rw [acellsDraw] at hl
  match cs, hl with
  | [c0, c1, c2, c3, c4, c5], _ =>
    have f0 := hf 0 _ rfl
    have f1 := hf 1 _ rfl
    have f2 := hf 2 _ rfl
    have f3 := hf 3 _ rfl
    have f4 := hf 4 _ rfl
    have f5 := hf 5 _ rfl
    simp [acellsInt, acellsInts] at f0 f1 f2 f3 f4 f5
    have hlen6 : xs.length = 6 := hlen
    rw [List.getElem?_eq_getElem (by omega)] at f0 f1 f2 f3 f4 f5
    obtain ⟨a, rfl, k1⟩ := aint_of f1
    obtain ⟨b, rfl, k2⟩ := aint_of f2
    obtain ⟨c, rfl, k3⟩ := aint_of f3
    obtain ⟨z0, l0⟩ := alist_of f0
    obtain ⟨z4, l4⟩ := alist_of f4
    obtain ⟨z5, l5⟩ := alist_of f5
    exact ⟨c0, c4, c5, ⟨z0, a, b, c, z4, z5⟩, rfl, l0, l4, l5, k1, k2, k3⟩

theorem adraws_of {n : Nat} {c : Value} {y : DataW H × List MemPlace} (h : DataW.trod enc Tryz.prog w 0 (fun _ => true) held n 27 [c] = some y) : ∃ (a : Option Addr) (n cap : Nat) (vi vm vs : Nat → Value) (D : Nat → DD), c = .slice a n cap ∧ DrawsAt w a n cap vi vm vs D := by
  rcases open_slice Tryz.underlying27 h with ⟨hcs, _⟩ | ⟨x, l, cp, m, n', D, Pl, hcs, _, hl, hm, hmm, hy, hx⟩
  · simp at hcs
    exact ⟨none, 0, 0, fun _ => undef, fun _ => undef, fun _ => undef, fun _ => ⟨[], 0, 0, 0, [], []⟩, hcs, ⟨Nat.le_refl _, by omega, fun i hi => by omega, fun i hi => by omega⟩⟩
  · simp at hcs
    have hlm : l ≤ m := by rw [hmm]; split <;> omega
    rw [acellsDraw] at hx
    have hit : ∀ i, i < l → ∃ t : Value × Value × Value × DD, (DrawIs w t.1 t.2.1 t.2.2.1 t.2.2.2) ∧ ∀ j, j < 6 → w.cell? (x.add (i * 6 + j)) = some (([t.1, .int .i64 t.2.2.2.ch, .int .i64 t.2.2.2.ms, .int .i64 t.2.2.2.sd, t.2.1, t.2.2.1] : List Value).getD j undef) := by
      intro i hi
      obtain ⟨cs, e1, e2⟩ := hx i (by omega)
      obtain ⟨_, e3, e4⟩ := World.cells?_some e1
      obtain ⟨vi, vm, vs, d, hcs', hd⟩ := adraw_of e2
      refine ⟨(vi, vm, vs, d), hd, fun j hj => ?_⟩
      have e5 := e4 j hj
      rw [List.getElem?_eq_getElem (by omega)] at e5
      show _ = some (([vi, .int .i64 d.ch, .int .i64 d.ms, .int .i64 d.sd, vm, vs] : List Value).getD j undef)
      rw [← hcs', List.getD_eq_getElem?_getD, List.getElem?_eq_getElem (by omega), Option.getD_some, ← e5, Deep.add_add]
    let T : Nat → Value × Value × Value × DD := fun i => if hi : i < l then (hit i hi).choose else (undef, undef, undef, ⟨[], 0, 0, 0, [], []⟩)
    have hT : ∀ i, i < l → (DrawIs w (T i).1 (T i).2.1 (T i).2.2.1 (T i).2.2.2) ∧ ∀ j, j < 6 → w.cell? (x.add (i * 6 + j)) = some (([(T i).1, .int .i64 (T i).2.2.2.ch, .int .i64 (T i).2.2.2.ms, .int .i64 (T i).2.2.2.sd, (T i).2.1, (T i).2.2.1] : List Value).getD j undef) := fun i hi => by
      have e : T i = (hit i hi).choose := dif_pos hi
      rw [e]; exact (hit i hi).choose_spec
    have hcpm : cp ≤ 9223372036854775807 := by unfold maxLen at hm; omega
    refine ⟨some x, l, cp, fun i => (T i).1, fun i => (T i).2.1, fun i => (T i).2.2.1, fun i => (T i).2.2.2, hcs, ⟨by omega, hcpm, fun i hi => ?_, fun i hi => (hT i hi).1⟩⟩
    obtain ⟨b, off, spot⟩ := x
    have q000 := (hT 0 (by omega)).2 0 (by omega)
    have hspot : spot = none := by simpa [Addr.add] using World.cell?_spot q000
    have q00 := (hT i hi).2 0 (by omega)
    subst hspot
    have hadd : ∀ j, (⟨b, off, none⟩ : Addr).add j = ⟨b, off + j, none⟩ := fun j => by unfold Addr.add; by_cases hz : j = 0 <;> simp [hz]
    have g := (hT i hi).2
    have g0 := g 0 (by omega)
    have g1 := g 1 (by omega)
    have g2 := g 2 (by omega)
    have g3 := g 3 (by omega)
    have g4 := g 4 (by omega)
    have g5 := g 5 (by omega)
    rw [hadd] at g0 g1 g2 g3 g4 g5 q00
    refine ⟨b, off, rfl, cell_in q00, ?_, ?_, ?_, ?_, ?_, ?_⟩
    · rw [Nat.add_zero] at g0; exact g0
    · rw [Nat.add_assoc]; exact g1
    · rw [Nat.add_assoc]; exact g2
    · rw [Nat.add_assoc]; exact g3
    · rw [Nat.add_assoc]; exact g4
    · rw [Nat.add_assoc]; exact g5


/-- Steps in memory. -/
structure Stps where
  k : Nat → Int
  n : Nat → Int
  m : Nat → Int
  s : Nat → ByteArray
structure StepsAt (w : World) (a : Option Addr) (n cap : Nat) (S : Stps) : Prop where
  le : n ≤ cap
  mx : cap ≤ 9223372036854775807
  each : ∀ i, i < n → inI (S.k i) ∧ inI (S.n i) ∧ inI (S.m i) ∧ (S.s i).size ≤ maxLen
  cells : ∀ i, i < n → ∃ b off, a = some ⟨b, off, none⟩ ∧ b < w.heap.size ∧ w.cell? ⟨b, off + i * 4, none⟩ = some (.int .i64 (S.k i)) ∧ w.cell? ⟨b, off + i * 4 + 1, none⟩ = some (.int .i64 (S.n i)) ∧ w.cell? ⟨b, off + i * 4 + 2, none⟩ = some (.int .i64 (S.m i)) ∧ w.cell? ⟨b, off + i * 4 + 3, none⟩ = some (.string (S.s i))
theorem StepsAt.below {w w' : World} {a : Option Addr} {n cap : Nat} {S : Stps} (h : StepsAt w a n cap S) (hb : Below w.heap.size w w') : StepsAt w' a n cap S :=
  ⟨h.le, h.mx, h.each, fun i hi => by
    obtain ⟨b, off, e1, e2, e3, e4, e5, e6⟩ := h.cells i hi
    exact ⟨b, off, e1, Nat.lt_of_lt_of_le e2 hb.size, (hb.cell (p := ⟨b, off + i * 4, none⟩) e2).trans e3, (hb.cell (p := ⟨b, off + i * 4 + 1, none⟩) e2).trans e4, (hb.cell (p := ⟨b, off + i * 4 + 2, none⟩) e2).trans e5, (hb.cell (p := ⟨b, off + i * 4 + 3, none⟩) e2).trans e6⟩⟩

theorem draws_open {v : Value} {d : DataW H} {p : List MemPlace} {a : Option Addr} {n cap : Nat} (hv : v = .slice a n cap) (h : DataW.Trod enc Tryz.prog w 0 (fun _ => true) held 27 v d p) : ∃ vi vm vs D, DrawsAt w a n cap vi vm vs D := by
  obtain ⟨fuel, hf⟩ := h
  rw [hv] at hf
  obtain ⟨a', n', c', vi, vm, vs, D, e, hd⟩ := adraws_of hf
  injection e with e1 e2 e3
  subst e1; subst e2; subst e3
  exact ⟨vi, vm, vs, D, hd⟩
end

end Go.Proofs.YtchideljndagjabGreat

namespace Go.Proofs.YtchideljndagjabGreat.lively
open Go.ChangeShapes Go.WideShapes Go.ChangeAt Go.RowKit
set_option linter.unusedVariables false

theorem band {a b : Bool} (h : a = true) (k : b = true) : (a && b) = true := by rw [h, k]; rfl
theorem k1 : (Rows.livelyRow.wf (OpenSpec.ofChange Rows.livelySpec)) = true := by kernel_rfl
theorem k2 : (laidOutB Tryz.prog) = true := by kernel_rfl
theorem k3 : (mapsRowed Tryz.prog) = true := by kernel_rfl
theorem k4 : (Tryz.f6.params.all (Tryz.prog.readableRec ·)) = true := by kernel_rfl
theorem k5 : (namedTie Tryz.prog Rows.livelyRow.named Rows.livelySpec.vars) = true := by kernel_rfl
theorem k6 : ((Rows.livelyRow.stops == [])) = true := by kernel_rfl
theorem k7 : ((Tryz.prog.stops == [])) = true := by kernel_rfl
theorem k8 : ((Rows.livelyRow.knobs == [])) = true := by kernel_rfl
theorem k9 : ((Tryz.prog.stopKnobs == [])) = true := by kernel_rfl
theorem k10 : ((Rows.livelyRow.inPlace == Tryz.prog.inPlace 6)) = true := by kernel_rfl
theorem k11 : ((Rows.livelyRow.unfollowed == Tryz.prog.unfollowed 6)) = true := by kernel_rfl
theorem k12 : ((Rows.livelyRow.recurses == Tryz.prog.recurses 6)) = true := by kernel_rfl
theorem k13 : ((Rows.livelyRow.named == Tryz.prog.varsNamed 6)) = true := by kernel_rfl
theorem k14 : ((Rows.livelyRow.maps == (Tryz.f6.params.toList ++ Rows.livelySpec.plain.varTypes Tryz.prog).any (Tryz.prog.mapsRec ·))) = true := by kernel_rfl
theorem k15 : ((Rows.livelyRow.ifaces == (Tryz.f6.params.toList ++ Rows.livelySpec.plain.varTypes Tryz.prog).any (Tryz.prog.ifacesRec ·))) = true := by kernel_rfl
theorem k16 : ((Rows.livelyRow.mapsOut == Tryz.prog.mapsAmong Tryz.f6.resultTypes.toList)) = true := by kernel_rfl
theorem k17 : ((Rows.livelyRow.loops == (Tryz.f6.params.toList ++ Rows.livelySpec.plain.varTypes Tryz.prog).any (Tryz.prog.loopsFrom ·))) = true := by kernel_rfl
theorem k18 : ((Rows.livelyRow.wideKeys == (Tryz.f6.params.toList ++ Rows.livelySpec.plain.varTypes Tryz.prog ++ Tryz.f6.resultTypes.toList).any (Tryz.prog.wideKeysFrom ·))) = true := by kernel_rfl
theorem k19 : (Rows.livelySpec.vars.all (Tryz.prog.varReadable ·)) = true := by kernel_rfl
theorem k20 : (Tryz.f6.resultTypes.all (fun t => Tryz.prog.readableRec t && decide (t < Tryz.prog.types.size))) = true := by kernel_rfl
theorem k21 : ((Rows.livelyRow.ifacesOut == Tryz.f6.resultTypes.toList.any (Tryz.prog.ifacesRec ·))) = true := by kernel_rfl
theorem k22 : ((Rows.livelyRow.loopsOut == Tryz.f6.resultTypes.toList.any (Tryz.prog.loopsFrom ·))) = true := by kernel_rfl
theorem k23 : ((Rows.livelyRow.plainKeys == Tryz.prog.plainKeys)) = true := by kernel_rfl
theorem k24 : (Rows.livelyRow.shortTexts.isNone) = true := by kernel_rfl
theorem k25 : (Tryz.prog.stopsHeard) = true := by kernel_rfl
theorem k26 : (Tryz.prog.mayEnter) = true := by kernel_rfl
theorem k27 : ((Rows.livelyRow.lifted == Tryz.prog.liftsFinal)) = true := by kernel_rfl
theorem k28 : ((Tryz.prog.make == some Rows.livelyRow.make)) = true := by kernel_rfl
theorem k30 : ((Rows.livelyRow.pinned == Rows.livelyRow.pinnedBy)) = true := by kernel_rfl
theorem k31 : ((Rows.livelyRow.veiled == (Tryz.f6.params.toList ++ Rows.livelySpec.plain.varTypes Tryz.prog ++ Tryz.f6.resultTypes.toList).any (Tryz.prog.veiledRec ·))) = true := by kernel_rfl
theorem k32 : (Rows.livelyRow.veiledFits Tryz.prog Tryz.f6.params.toList (Tryz.f6.params.toList ++ Rows.livelySpec.plain.varTypes Tryz.prog ++ Tryz.f6.resultTypes.toList)) = true := by kernel_rfl
set_option maxRecDepth 100000 in
theorem closed : joinedFacts Tryz.prog 6 Tryz.f6 Rows.livelySpec Rows.livelyRow = true := by
  unfold joinedFacts
  exact (band (band (band (band (band (band (band (band (band (band (band (band (band (band (band (band (band (band (band (band (band (band (band (band (band (band (band (band (band (band (band k1 k2) k3) k4) k5) k6) k7) k8) k9) k10) k11) k12) k13) k14) k15) k16) k17) k18) k19) k20) k21) k22) k23) k24) k25) k26) k27) k28) (by kernel_rfl)) k30) k31) k32)

end Go.Proofs.YtchideljndagjabGreat.lively
