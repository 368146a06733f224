/- sum: of the inputs of those who are in. -/
import Derived.Test.YtchideljndagjabGreatPkIdBM
import Derived.Test.YtchideljndagjabGreatPkIdBE
import Derived.Maps.AppendAt
import Derived.Test.YtchideljndagjabGreatPkIdAT
import Derived.Test.YtchideljndagjabGreatPkIdBH
import Derived.Test.YtchideljndagjabGreatPkIdAB
import Derived.Test.YtchideljndagjabGreatPkIdAC
import Derived.Deep.Strs
import Derived.ChangeOld
import Derived.ShutString
namespace Go.Proofs.YtchideljndagjabGreat
open Go.ChangeShapes Go.WideShapes Go.ChangeAt Go.RowKit
set_option linter.unusedVariables false
theorem inL_succ (f : Nat → Bool) (k : Nat) : inL (k + 1) f = inL k f ++ (if f (k + 1) = true then [(k : Int) + 1] else []) := by
  unfold inL
  rw [List.range_succ, List.filter_append, List.map_append]
  congr 1
  by_cases q : f (k + 1) = true
  · rw [if_pos q, List.filter_cons, if_pos q]; rfl
  · rw [if_neg q, List.filter_cons, if_neg q]; rfl
theorem inS_yes (cl : Nat → Cli.Cl) (f : Nat → Bool) (k i : Nat) (q : f (k + 1) = true) : inS cl (k + 1) f i = (inS cl k f i + (cl k).inp.getD i 0) % 4294967296 := by
  unfold inS
  rw [List.range_succ, List.filter_append, List.map_append, List.filter_cons, if_pos q, Srv.sum_app]
  show (_ + ((cl k).inp.getD i 0 + 0)) % _ = _
  omega
theorem inS_no (cl : Nat → Cli.Cl) (f : Nat → Bool) (k i : Nat) (q : f (k + 1) = false) : inS cl (k + 1) f i = inS cl k f i := by
  unfold inS
  rw [List.range_succ, List.filter_append, List.map_append, List.filter_cons, if_neg (by rw [q]; exact Bool.false_ne_true), Srv.sum_app]
  show (_ + 0) % _ = _
  omega
theorem inS_zero (cl : Nat → Cli.Cl) (f : Nat → Bool) (i : Nat) : inS cl 0 f i = 0 := rfl
theorem inS_bd (cl : Nat → Cli.Cl) (f : Nat → Bool) (k i : Nat) : 0 ≤ inS cl k f i ∧ inS cl k f i < 4294967296 := by unfold inS; omega
theorem inL_in (f : Nat → Bool) (k : Nat) (hk : k ≤ 12) : ∀ z ∈ inL k f, inI z := by
  intro z hz
  unfold inL at hz
  obtain ⟨i, hi, rfl⟩ := List.mem_map.1 hz
  have := List.mem_range.1 (List.mem_filter.1 hi).1
  unfold inI; omega
theorem inL_len (f : Nat → Bool) (k : Nat) : (inL k f).length ≤ k := by
  unfold inL
  rw [List.length_map]
  exact Nat.le_trans (List.length_filter_le _ _) (by rw [List.length_range]; exact Nat.le_refl _)
theorem listAt_row {w : World} {g n : Nat} {r : Nat → Int} (h : IntsRow w g n r) (hn : n ≤ 12) (hr : ∀ t, t < n → inI (r t)) : ListAt w (.slice (some ⟨g, 0, none⟩) n n) ((List.range n).map r) := by
  refine ⟨some ⟨g, 0, none⟩, n, by rw [List.length_map, List.length_range], by rw [List.length_map, List.length_range]; exact Nat.le_refl _, by unfold maxLen; omega, ?_, .inr ⟨g, 0, rfl, h.lt, fun i hi => ?_⟩⟩
  · intro z hz
    obtain ⟨t, ht, rfl⟩ := List.mem_map.1 hz
    exact hr t (List.mem_range.1 ht)
  · rw [List.length_map, List.length_range] at hi
    rw [Nat.zero_add, h.cell i hi, List.getD_eq_getElem?_getD, List.getElem?_map, List.getElem?_range hi]
    rfl
set_option maxHeartbeats 4000000 in
set_option maxRecDepth 100000 in
theorem ksum_calls (T D : Int) (n m : Nat) (hn : n ≤ 12) (hm : 1 ≤ m ∧ m ≤ 12) (f : Nat → Bool) (cl : Nat → Cli.Cl) (a : Option Addr) (c : Nat) (vi vm vs : Nat → Value) (Dd : Nat → DD) (w : World) (hD : DrawsAt w a n c vi vm vs Dd) (hcl : ∀ k, k < n → (cl k).inp = (Dd k).inp) (hlen : ∀ k, k < n → (Dd k).inp.length = m) (hin : ∀ k, k < n → ∀ i, i < m → 0 ≤ (Dd k).inp.getD i 0 ∧ (Dd k).inp.getD i 0 < 4294967296) :
    Calls Tryz.prog 19 #[.agg #[.int .i64 (n : Int), .int .i64 T, .int .i64 (m : Int), .int .i64 D], .slice a n c, setV f] w fun e w' => ∃ v1 v2, e = .returned (.tuple #[v1, v2]) ∧ ListAt w' v1 (inL n f) ∧ ListAt w' v2 ((List.range m).map (inS cl n f)) ∧ (∀ x, v1.ownBlock = some x ∨ v2.ownBlock = some x → w.heap.size ≤ x ∧ x < w'.heap.size) ∧ Below w.heap.size w w' := by
  obtain ⟨i0, hi, hz0, hz1, hz2⟩ := info_parts infoIn
  have HD := hideG (fun (W : World) (hb : Below w.heap.size w W) => hD.below hb)
  have hle := hD.le
  have hmx := hD.mx
  have HCL := hideG hcl
  have HLEN := hideG hlen
  have HIN := hideG hin
  clear hD hcl hlen hin
  unfold setV
  obtain ⟨W1, hW1⟩ : ∃ W1, W1 = (w.alloc (.cells #[.int .i64 (n : Int), .int .i64 T, .int .i64 (m : Int), .int .i64 D] 26)).alloc (.cells (bl13 f).toArray 37) := ⟨_, rfl⟩
  have B1 : Below w.heap.size w W1 := by rw [hW1]; exact ((Below.refl _ _).alloc (Nat.le_refl _) _).alloc (by simp) _
  have z1 : W1.heap.size = w.heap.size + 2 := by rw [hW1]; simp
  have HR := hideG (show W1.heap[w.heap.size]? = some (.cells #[.int .i64 (n : Int), .int .i64 T, .int .i64 (m : Int), .int .i64 D] 26 (0, 0)) by
    rw [hW1]
    rw [((Below.refl _ (w.alloc (.cells #[.int .i64 (n : Int), .int .i64 T, .int .i64 (m : Int), .int .i64 D] 26))).alloc (Nat.le_refl _) _).block w.heap.size (by simp)]
    exact heap_alloc_new w _)
  have HS := hideG (show BoolsAt W1 (w.heap.size + 1) 37 f by
    have := bools_box (w.alloc (.cells #[.int .i64 (n : Int), .int .i64 T, .int .i64 (m : Int), .int .i64 D] 26)) 37 f
    rw [hW1]; simpa using this)
  have BB := hideG B1
  obtain ⟨X, hX⟩ : ∃ X, X = (bl13 f).toArray := ⟨_, rfl⟩
  rw [← hX] at hW1 ⊢
  have HW1 := hideG hW1
  have Z1 := hideG z1
  clear hX hW1 B1 z1
  obtain ⟨⟨x0, x1, x2, x3⟩, -⟩ := cells_four HR.out
  go_enter Tryz.func19, Tryz.ntmps19
  go_upto_region 1 with fail
  rw [← HW1.out]
  go_upto_region 2 with (at_make; refine wpList_make_full _ rfl _ _ 33 rfl W1.heap.size 3 i0 (.int .i64 0) 1 Tryz.underlying33 hi hz0 hz1 _ _ _ _ m rfl rfl (by omega) (by omega) ?m1 ?m2 ?m3 ?_)
  case m1 => rw [hz2]; omega
  case m2 => unfold maxLen; omega
  case m3 => exact Nat.le_refl _
  intro w1 hown1 hgrow1
  have hr := rrow_of_full hown1
  have hb1 : Below W1.heap.size W1 w1 := (Below.refl _ _).grown hgrow1 (Nat.le_refl _) (by simp)
  rw [toList_madeCells_one, rep_range] at hr
  have R1 := hideG (show IntsRow w1 W1.heap.size m (inS cl 0 f) from IntsRow.ext (show IntsRow w1 W1.heap.size m (fun _ => 0) from hr) (fun t _ => (inS_zero cl f t).symm))
  have g1 := R1.out.lt
  have B2 := hideG hb1
  clear hr hb1 hown1 hgrow1 x0 x1 x2 x3
  obtain ⟨gR, hgR⟩ : ∃ gR, gR = W1.heap.size := ⟨_, rfl⟩
  rw [← hgR] at R1 B2 g1 ⊢
  have HG2 := hideG (show gR = w.heap.size + 2 by rw [hgR]; exact Z1.out)
  have hg2 : w.heap.size + 1 < gR := by have := HG2.out; omega
  have KEEP := hideG (fun (W : World) (hb : Below gR W1 W) => (show W.heap[w.heap.size]? = some (.cells #[.int .i64 (n : Int), .int .i64 T, .int .i64 (m : Int), .int .i64 D] 26 (0, 0)) ∧ BoolsAt W (w.heap.size + 1) 37 f ∧ Below w.heap.size w W from
    ⟨(hb.block _ (by omega)).trans HR.out, HS.out.block (hb.block _ (by omega)), BB.out.trans (hb.mono (by omega))⟩))
  clear hgR
  go_wp2_with fail
  go_loopw [9, 10] (fun l u wr => ∃ k : Nat, k ≤ n ∧ u = .int .i64 ((k : Int) + 1) ∧ wr.ownsRow w1.heap.size 3 1 l (inL k f).length ((inL k f).map (Value.int .i64)) ∧ IntsRow wr gR m (inS cl k f) ∧ Below gR W1 wr ∧ w1.heap.size ≤ wr.heap.size) (fun _ u _ => (n + 1) - (intOf u).toNat)
  case atStart => exact ⟨0, Nat.zero_le _, rfl, World.ownsRow_nil _ _ _ _, R1.out, B2.out, Nat.le_refl _⟩
  case round =>
    obtain ⟨k, hk, rfl, hown, hrow, hbel, hw1r⟩ := hrel
    have HO := hideG hown
    have HI := hideG hrow
    have HB := hideG hbel
    have hgl := hrow.lt
    have hsz := hbel.size
    obtain ⟨al, cc, hvl⟩ := owns_form hown
    subst hvl
    obtain ⟨kc, ks, kb⟩ := KEEP.out wr hbel
    have KBW := hideG kb
    have KS := hideG ks
    obtain ⟨⟨x0, x1, x2, x3⟩, -⟩ := cells_four kc
    clear hown hrow hbel kc ks kb
    have hln := inL_len f k
    have HLS := hideG (inL_succ f k)
    by_cases hlt : k < n
    · have hb13 := KS.out.cell (k + 1) (by omega)
      have hlt' : (k : Int) + 1 ≤ (n : Int) := by omega
      have hk13 : (k : Int) + 1 < 13 := by omega
      cases q : f (k + 1)
      · rw [q] at hb13
        have FO := hideG (show wr.ownsRow w1.heap.size 3 1 (.slice al (inL k f).length cc) (inL (k + 1) f).length ((inL (k + 1) f).map (Value.int .i64)) by
          rw [HLS.out, q, if_neg Bool.false_ne_true, List.append_nil]; exact HO.out)
        have FI := hideG (HI.out.ext (r' := inS cl (k + 1) f) (fun t _ => (inS_no cl f k t q).symm))
        clear q
        generalize (inL k f).length = nl at *
        go_wp2_with fail
        go_roundw
        case rel => exact ⟨k + 1, by omega, by go_num, FO.out, FI.out, HB.out, hw1r⟩
        case measure => simp [intOf]; omega
      · rw [q] at hb13
        have HL2 := hideG (show inL (k + 1) f = inL k f ++ [(k : Int) + 1] by rw [HLS.out, q, if_pos rfl])
        have HSY := hideG (fun t => inS_yes cl f k t q)
        have HBD := hideG (fun t => inS_bd cl f k t)
        clear q
        go_upto_region 8 with (at_builtin; refine wpList_append_own _ rfl _ _ 33 rfl w1.heap.size 3 i0 (.int .i64 0) 1 8 Tryz.underlying33 hi hz0 hz1 hz2 rfl (by decide) _ _ _ rfl (HO.out.alloc _) ⟨wr.heap.size, 0, none⟩ 1 1 [.int .i64 ((k : Int) + 1)] rfl rfl ?c1 ?c2 ?c3 ?c4 ?c5 ?_)
        case c1 => exact cell_one_new _ _ _
        case c2 => intro u hu; simp at hu; subst hu; rfl
        case c3 => unfold maxLen; omega
        case c4 => omega
        case c5 => simp; omega
        intro v' w3 hown' hgrow' _
        have hbk := fun x (h : Value.ownBlock _ = some x) => HO.out.lt x h
        have hb3 : Below w1.heap.size wr w3 := ((Below.refl w1.heap.size wr).alloc hw1r _).grown hgrow' (by simp; omega) (fun x h => (hbk x h).1)
        have O3 := hideG (show w3.ownsRow w1.heap.size 3 1 v' (inL (k + 1) f).length ((inL (k + 1) f).map (Value.int .i64)) by
          rw [HL2.out, List.length_append, List.map_append]; exact hown')
        have I3 := hideG ((HI.out.block (hb3.block gR g1)).ext (r' := fun x => if x < 0 then inS cl (k + 1) f x else inS cl k f x) (fun t _ => by rw [if_neg (Nat.not_lt_zero t)]))
        have B3 := hideG (HB.out.trans (hb3.mono (by omega)))
        have s3 := hb3.size
        have hgl3 : gR < w3.heap.size := by omega
        have KQ := hideG (fun (W : World) (hc : Chg (fun x => x = gR) w3 W) => (show Below gR W1 W from B3.out.trans (hc.below (by omega) (fun x e => by omega))))
        have DK := hideG (fun (W : World) (hb : Below w.heap.size w W) => And.intro ((HD.out W hb).cells k hlt) ((HD.out W hb).its k hlt).1)
        have LK := hideG (HLEN.out k hlt)
        have NK := hideG (HIN.out k hlt)
        have CK := hideG (HCL.out k hlt)
        have hkn : (k : Int) < (n : Int) := by omega
        clear hown' hgrow' hbk hb3 x0 x1 x2 x3 hb13 HLS HD HLEN HIN HCL HL2
        obtain ⟨av, cv, hvv⟩ := owns_form O3.out
        rw [hvv] at O3 ⊢
        clear hvv
        generalize hnl : (inL (k + 1) f).length = nl at *
        go_wp2_with fail
        go_loopw [11] (fun i wq => ∃ t : Nat, t ≤ m ∧ i = .int .i64 (t : Int) ∧ IntsRow wq gR m (fun x => if x < t then inS cl (k + 1) f x else inS cl k f x) ∧ Chg (fun x => x = gR) w3 wq) (fun i _ => m - (intOf i).toNat)
        case atStart => exact ⟨0, Nat.zero_le _, rfl, I3.out, Chg.refl _ _⟩
        case round =>
          obtain ⟨t, ht, rfl, hrow, hchg⟩ := hrel
          have HRW := hideG hrow
          have HCH := hideG hchg
          obtain ⟨kc, ks, kb⟩ := KEEP.out _ (KQ.out _ hchg)
          obtain ⟨⟨x0, x1, x2, x3⟩, -⟩ := cells_four kc
          obtain ⟨⟨db, dof, rfl, dl, d0, -⟩, dli⟩ := DK.out _ kb
          have hglq := hrow.lt
          have szq := hchg.size
          have KQB := hideG (KQ.out _ hchg)
          clear kc ks kb hrow hchg
          by_cases htm : t < m
          · have c0 := HRW.out.cell t htm
            have c1 := HRW.out.froz t
            rw [if_neg (Nat.lt_irrefl t)] at c0
            obtain ⟨ai, ci, hvi, l1, l2, -, l4⟩ := dli
            rw [hvi] at d0
            rw [LK.out] at d0 l1 l4
            rcases l4 with l4 | ⟨ib, io, rfl, il, ic⟩
            · have := LK.out; rw [l4] at this; simp at this; omega
            have j0 := ic t htm
            obtain ⟨n1, n2⟩ := NK.out t htm
            obtain ⟨p1, p2⟩ := HBD.out t
            obtain ⟨Y, hY⟩ : ∃ Y, Y = (Dd k).inp.getD t 0 := ⟨_, rfl⟩
            obtain ⟨A, hA⟩ : ∃ A, A = inS cl k f t := ⟨_, rfl⟩
            have hRv : inS cl (k + 1) f t = (A + Y) % 4294967296 := by rw [HSY.out t, CK.out, hA, hY]
            rw [← hY] at j0 n1 n2
            rw [← hA] at p1 p2 c0
            obtain ⟨R, hR⟩ : ∃ R, R = (A + Y) % 4294967296 := ⟨_, rfl⟩
            have hwr : IntKind.i64.wrap (A + Y) = A + Y := by rw [IntWalk.i64_left, IntWalk.wrap64_in _ (by omega)]
            have hmd : (A + Y).tmod 4294967296 = R := by rw [hR, Int.tmod_eq_emod_of_nonneg (by omega)]
            have hRb : 0 ≤ R ∧ R < 4294967296 := by omega
            have FIN := hideG (fun (W : World) (hW : IntsRow W gR m (fun x => if x < t then inS cl (k + 1) f x else inS cl k f x)) => (show IntsRow (W.setCell ⟨gR, t, none⟩ (.int .i64 R)) gR m (fun x => if x < t + 1 then inS cl (k + 1) f x else inS cl k f x) from
              hW.set t htm R (by show (if t < t + 1 then inS cl (k + 1) f t else inS cl k f t) = _; rw [if_pos (Nat.lt_succ_self t), hRv, hR]) (fun x hx hne => by
                show (if x < t + 1 then inS cl (k + 1) f x else inS cl k f x) = (if x < t then inS cl (k + 1) f x else inS cl k f x)
                by_cases e : x < t
                · rw [if_pos e, if_pos (by omega)]
                · rw [if_neg e, if_neg (by omega)])))
            clear hY hA hR hRv hvi HSY HBD CK NK LK DK ic
            have htm' : (t : Int) < (m : Int) := by omega
            go_wp2_with fail
            go_region
            go_wp2_with fail
            go_roundw
            case rel => exact ⟨t + 1, by omega, by go_num, (FIN.out _ HRW.out).drew, chg_drew (HCH.out.also (Chg.setCell wr ⟨gR, t, none⟩ _))⟩
            case measure => simp [intOf]; omega
          · have htm' : ¬ (t : Int) < (m : Int) := by omega
            have etm : t = m := by omega
            have FI := hideG (HRW.out.ext (r' := inS cl (k + 1) f) (fun x hx => by rw [if_pos (by omega)]))
            have FO := hideG (ownsRow_chg O3.out HCH.out (fun x hx e => by
              have h1 := (O3.out.lt x hx).1
              have h2 : x = gR := e
              omega))
            clear d0 dli etm
            go_wp2_with fail
            go_roundw
            case rel => exact ⟨k + 1, by omega, by go_num, by rw [hnl]; exact FO.out, FI.out, KQB.out, by omega⟩
            case measure => simp [intOf]; omega
    · have ek : k = n := by omega
      have FO := hideG (show ListAt wr (.slice al (inL k f).length cc) (inL n f) by
        have e : inL n f = inL k f := by rw [ek]
        rw [e]; exact listAt_of_owns HO.out (inL_in f k (by omega)))
      have FR := hideG (listAt_row HI.out hm.2 (fun t _ => by have := inS_bd cl f k t; unfold inI; omega))
      have FB := hideG (fun x (hx : Value.ownBlock _ = some x) => HO.out.lt x hx)
      rw [ek] at FR
      have hnk : ¬ (k : Int) + 1 ≤ (n : Int) := by omega
      clear ek
      generalize (inL k f).length = nl at *
      go_wp2_with fail
      go_ret2
      refine ⟨_, _, rfl, FO.out, FR.out, fun x hx => ?_, KBW.out⟩
      rcases hx with hx | hx
      · have := FB.out x hx; omega
      · have e : gR = x := by injection hx
        omega
end Go.Proofs.YtchideljndagjabGreat
namespace Go.Proofs.YtchideljndagjabGreat
open Go.ChangeShapes Go.WideShapes Go.ChangeAt Go.RowKit
set_option linter.unusedVariables false
theorem szN_cnt (f : Nat → Bool) : ∀ n, szN f n = cntN f n
  | 0 => rfl
  | n + 1 => by show szN f n + _ = cntN f n + _; rw [szN_cnt f n]
section
variable {w : World} {g : Nat} {C : Srv.Cf} {vd va vb : Value} {I : Idl}
theorem IdAt.setT (h : IdAt w g C vd va vb I) (z : Int) : IdAt (w.setCell ⟨g, 5, none⟩ (.int .i64 z)) g C vd va vb { I with tm := z } :=
  FRow.upd h 5 (by omega) _ rfl (fun u _ hne => by unfold idV; simp only [hne, if_false])
theorem IdAt.setR (h : IdAt w g C vd va vb I) (r : Nat) : IdAt (w.setCell ⟨g, 10, none⟩ (.int .i64 (r : Int))) g C vd va vb { I with rd := r } :=
  FRow.upd h 10 (by omega) _ rfl (fun u _ hne => by unfold idV; simp only [hne, if_false])
theorem IdAt.setO (h : IdAt w g C vd va vb I) (s r : Int) (va' vb' : Value) (ls us : List Int) : IdAt ((((w.setCell ⟨g, 6, none⟩ (.int .i64 s)).setCell ⟨g, 7, none⟩ (.int .i64 r)).setCell ⟨g, 8, none⟩ va').setCell ⟨g, 9, none⟩ vb') g C vd va' vb' { I with out := (s, r, ls, us) } := by
  have h1 : IdAt (w.setCell ⟨g, 6, none⟩ (.int .i64 s)) g C vd va vb { I with out := (s, I.out.2.1, ls, us) } := FRow.upd h 6 (by omega) _ rfl (fun u _ hne => by unfold idV; simp only [hne, if_false])
  have h2 : IdAt ((w.setCell ⟨g, 6, none⟩ (.int .i64 s)).setCell ⟨g, 7, none⟩ (.int .i64 r)) g C vd va vb { I with out := (s, r, ls, us) } := FRow.upd h1 7 (by omega) _ rfl (fun u _ hne => by unfold idV; simp only [hne, if_false])
  have h3 : IdAt (((w.setCell ⟨g, 6, none⟩ (.int .i64 s)).setCell ⟨g, 7, none⟩ (.int .i64 r)).setCell ⟨g, 8, none⟩ va') g C vd va' vb { I with out := (s, r, ls, us) } := FRow.upd h2 8 (by omega) _ rfl (fun u _ hne => by unfold idV; simp only [hne, if_false])
  exact FRow.upd h3 9 (by omega) _ rfl (fun u _ hne => by unfold idV; simp only [hne, if_false])
end
theorem chg_idO {w w1 : World} {g : Nat} (h : Chg (fun x => x = g) w w1) (x y u v : Value) : Chg (fun x => x = g) w ((((w1.setCell ⟨g, 6, none⟩ x).setCell ⟨g, 7, none⟩ y).setCell ⟨g, 8, none⟩ u).setCell ⟨g, 9, none⟩ v) :=
  (((h.also (Chg.setCell _ ⟨g, 6, none⟩ _)).also (Chg.setCell _ ⟨g, 7, none⟩ _)).also (Chg.setCell _ ⟨g, 8, none⟩ _)).also (Chg.setCell _ ⟨g, 9, none⟩ _)
def Tickd (w w' : World) (g : Nat) (C : Srv.Cf) (vd va vb : Value) (I : Idl) : Prop := ∃ va' vb', IdAt w' g C vd va' vb' I ∧ Chg (fun x => x = g) w w' ∧ ListAt w' va' I.out.2.2.1 ∧ ListAt w' vb' I.out.2.2.2 ∧ ∀ x, (va'.ownBlock = some x ∨ vb'.ownBlock = some x) → ((va.ownBlock = some x ∨ vb.ownBlock = some x) ∨ (w.heap.size ≤ x ∧ x < w'.heap.size))
set_option maxHeartbeats 4000000 in
set_option maxRecDepth 100000 in
theorem kticks_calls {w : World} {g : Nat} {T D : Int} {n m : Nat} (hn : 1 ≤ n ∧ n ≤ 12) (hm : 1 ≤ m ∧ m ≤ 12) (hT : 0 ≤ T ∧ T ≤ 12) (hDb : 1 ≤ D ∧ D ≤ 1000) (cl : Nat → Cli.Cl) {a : Option Addr} {c : Nat} {vi vm vs : Nat → Value} {Dd : Nat → DD} (hD : DrawsAt w a n c vi vm vs Dd) (hcl : ∀ k, k < n → (cl k).inp = (Dd k).inp) (hlen : ∀ k, k < n → (Dd k).inp.length = m) (hin : ∀ k, k < n → ∀ i, i < m → 0 ≤ (Dd k).inp.getD i 0 ∧ (Dd k).inp.getD i 0 < 4294967296)
    (hgd : ∀ W, Chg (fun x => x = g) w W → DrawsAt W a n c vi vm vs Dd) {va vb : Value} {I : Idl} (h : IdAt w g ⟨(n : Int), T, (m : Int), D⟩ (.slice a n c) va vb I) (hla : ListAt w va I.out.2.2.1) (hlb : ListAt w vb I.out.2.2.2) (hna : ∀ x, (va.ownBlock = some x ∨ vb.ownBlock = some x) → x ≠ g) (hrun : I.out.1 = 0 → I.rd ≤ 3 ∧ 0 ≤ I.tm ∧ I.tm ≤ 100000) :
    Calls Tryz.prog 14 #[.pointer (some ⟨g, 0, none⟩)] w fun e w' => e = .returned (.tuple #[]) ∧ Tickd w w' g ⟨(n : Int), T, (m : Int), D⟩ (.slice a n c) va vb (ticksN ⟨(n : Int), T, (m : Int), D⟩ cl n I) := by
  have H0 := hideG h
  have hgl := h.lt
  have LA := hideG hla
  have LB := hideG hlb
  obtain ⟨i0, i1, i2, i3, i4, i5, i6, i7, i8, i9, i10⟩ := h.cells
  have hfz := h.froz
  have HFZ := hideG hfz
  obtain ⟨tm, rd, ⟨st, ro, ls, us⟩, got⟩ := I
  dsimp only at i0 i1 i2 i3 i5 i6 i7 i10 hrun LA LB
  have HTN := hideG (show ticksN ⟨(n : Int), T, (m : Int), D⟩ cl n ⟨tm, rd, (st, ro, ls, us), got⟩ = if st = 0 then
    if tm + 1 < D * ((rd : Int) + 1) then ⟨tm + 1, rd, (st, ro, ls, us), got⟩
    else if (szN (got rd) 12 : Int) < T then ⟨tm + 1, rd, (2, (rd : Int), [], []), got⟩
    else if rd + 1 = 4 then ⟨tm + 1, 4, doneO ⟨(n : Int), T, (m : Int), D⟩ cl n (got 2), got⟩
    else ⟨tm + 1, rd + 1, (st, ro, ls, us), got⟩ else ⟨tm, rd, (st, ro, ls, us), got⟩ from rfl)
  clear hla hlb h hfz
  by_cases c1 : st = 0
  rotate_left
  · have c1' : (st != 0) = true := by simpa using c1
    have E := hideG (HTN.out.trans (if_neg c1))
    have FIN := hideG (show Tickd w w g ⟨(n : Int), T, (m : Int), D⟩ (.slice a n c) va vb ⟨tm, rd, (st, ro, ls, us), got⟩ from ⟨va, vb, H0.out, Chg.refl _ _, LA.out, LB.out, fun x hx => .inl hx⟩)
    clear c1
    go_enter Tryz.func14, Tryz.ntmps14
    go_wp2_with fail
    (try simp only [Exit.inBlock, Exit.then])
    refine bodyPost_ret (results_none rfl _ _ _) rfl ?_
    exact ⟨rfl, by rw [E.out]; exact FIN.out⟩
  · have c1' : (st != 0) = false := by simpa using c1
    obtain ⟨r3, t0, t1⟩ := hrun c1
    have HT1 := hideG (HTN.out.trans (if_pos c1))
    obtain ⟨Wt, hWt⟩ : ∃ Wt, Wt = w.setCell ⟨g, 5, none⟩ (.int .i64 (tm + 1)) := ⟨_, rfl⟩
    have IT := hideG (show IdAt Wt g ⟨(n : Int), T, (m : Int), D⟩ (.slice a n c) va vb ⟨tm + 1, rd, (st, ro, ls, us), got⟩ by rw [hWt]; exact H0.out.setT (tm + 1))
    have CT := hideG (show Chg (fun x => x = g) w Wt by rw [hWt]; exact Chg.setCell w ⟨g, 5, none⟩ _)
    have f5 := HFZ.out 5
    have HWt := hideG hWt
    clear hWt c1 hrun
    go_enter Tryz.func14, Tryz.ntmps14
    go_upto_region 2 with fail
    rw [← HWt.out]
    clear i0 i1 i2 i3 i4 i5 i6 i7 i8 i9 i10 f5 HFZ
    obtain ⟨i0, i1, i2, i3, i4, i5, i6, i7, i8, i9, i10⟩ := IT.out.cells
    dsimp only at i0 i1 i2 i3 i5 i6 i7 i10
    have hgl2 := IT.out.lt
    have hdm : 0 ≤ D * ((rd : Int) + 1) ∧ D * ((rd : Int) + 1) ≤ 4000 := ⟨Int.mul_nonneg (by omega) (by omega), Int.le_trans (Int.mul_le_mul hDb.2 (show (rd : Int) + 1 ≤ 4 by omega) (by omega) (by omega)) (by omega)⟩
    by_cases c2 : tm + 1 < D * ((rd : Int) + 1)
    · have c2' : decide (tm + 1 < D * ((rd : Int) + 1)) = true := decide_eq_true c2
      have E := hideG (HT1.out.trans (if_pos c2))
      go_quiet (fail)
      go_wp2_with fail
      (try simp only [Exit.inBlock, Exit.then])
      refine bodyPost_ret (results_none rfl _ _ _) rfl ?_
      refine ⟨rfl, ?_⟩
      rw [E.out]
      exact ⟨va, vb, IT.out.below (below_drewN _ _), CT.out.grow (below_drewN _ _), LA.out.chg (CT.out.grow (below_drewN _ _)) (fun x hx => hna x (.inl hx)), LB.out.chg (CT.out.grow (below_drewN _ _)) (fun x hx => hna x (.inr hx)), fun x hx => .inl hx⟩
    · have c2' : decide (tm + 1 < D * ((rd : Int) + 1)) = false := decide_eq_false c2
      have HT2 := hideG (HT1.out.trans (if_neg c2))
      clear c2
      go_quiet (fail)
      go_upto_region 3 with fail
      rename Nat => nq
      have I2 := hideG (IT.out.below (below_drewN Wt nq))
      have C2 := hideG (CT.out.grow (below_drewN Wt nq))
      obtain ⟨W2, hW2⟩ : ∃ W2, W2 = Wt.drewN nq := ⟨_, rfl⟩
      rw [← hW2] at I2 C2 ⊢
      clear i0 i1 i2 i3 i4 i5 i6 i7 i8 i9 i10 hgl2 c2' hW2
      obtain ⟨i0, i1, i2, i3, i4, i5, i6, i7, i8, i9, i10⟩ := I2.out.cells
      dsimp only at i0 i1 i2 i3 i5 i6 i7 i10
      have hgl2 := I2.out.lt
      have hr4 : (rd : Int) < 4 := by omega
      have k0 := I2.out.got rd 0 (by omega) (by omega)
      have k1 := I2.out.got rd 1 (by omega) (by omega)
      have k2 := I2.out.got rd 2 (by omega) (by omega)
      have k3 := I2.out.got rd 3 (by omega) (by omega)
      have k4 := I2.out.got rd 4 (by omega) (by omega)
      have k5 := I2.out.got rd 5 (by omega) (by omega)
      have k6 := I2.out.got rd 6 (by omega) (by omega)
      have k7 := I2.out.got rd 7 (by omega) (by omega)
      have k8 := I2.out.got rd 8 (by omega) (by omega)
      have k9 := I2.out.got rd 9 (by omega) (by omega)
      have k10 := I2.out.got rd 10 (by omega) (by omega)
      have k11 := I2.out.got rd 11 (by omega) (by omega)
      have k12 := I2.out.got rd 12 (by omega) (by omega)
      rw [Nat.add_zero] at k0
      dsimp only at k0 k1 k2 k3 k4 k5 k6 k7 k8 k9 k10 k11 k12
      have HK := hideG (fun (W : World) (hb : Below W2.heap.size W2 W) => (ksize_calls (got rd) W).mono (fun e w' (hq : e = .returned (.int .i64 (cntN (got rd) 12 : Int)) ∧ Below W.heap.size W w') => (show e = .returned (.int .i64 (cntN (got rd) 12 : Int)) ∧ Below W2.heap.size W2 w' from ⟨hq.1, hb.trans (hq.2.mono hb.size)⟩)))
      unfold setV bl13 at HK
      rw [szN_cnt] at HT2
      have hcn := cntN_le (got rd) 12
      obtain ⟨sz, hsz⟩ : ∃ sz, sz = cntN (got rd) 12 := ⟨_, rfl⟩
      rw [← hsz] at HK HT2 hcn
      clear hsz
      go_cut [2] from 34 to 43 (fun q wc => q = .int .i64 (sz : Int) ∧ Below W2.heap.size W2 wc)
      case first =>
        go_region_with (go_at_call 37; (first | refine (HK.out _ (Below.refl W2.heap.size W2).drew).mono ?_ | refine (HK.out _ (Below.refl W2.heap.size W2)).mono ?_); rintro e w3 ⟨rfl, hb3⟩)
        all_goals (go_wp2_with fail; go_meet; exact ⟨rfl, by assumption⟩)
      case rest =>
        obtain ⟨hq, hb3⟩ := hcut
        subst hq
        have I3 := hideG (I2.out.below hb3)
        have C3 := hideG (C2.out.grow hb3)
        have z3 := hb3.size
        clear i0 i1 i2 i3 i4 i5 i6 i7 i8 i9 i10 HK hb3 k0 k1 k2 k3 k4 k5 k6 k7 k8 k9 k10 k11 k12
        obtain ⟨i0, i1, i2, i3, i4, i5, i6, i7, i8, i9, i10⟩ := I3.out.cells
        dsimp only at i0 i1 i2 i3 i5 i6 i7 i10
        have hgl3 := I3.out.lt
        have fz := I3.out.froz
        have f6 := fz 6
        have f7 := fz 7
        have f8 := fz 8
        have f9 := fz 9
        have f10 := fz 10
        clear fz
        by_cases c3 : (sz : Int) < T
        · have E := hideG (HT2.out.trans (if_pos c3))
          go_wp2_with fail
          (try simp only [Exit.inBlock, Exit.then])
          refine bodyPost_ret (results_none rfl _ _ _) rfl ?_
          refine ⟨rfl, ?_⟩
          rw [E.out]
          exact ⟨_, _, I3.out.setO 2 (rd : Int) _ _ [] [], chg_idO C3.out _ _ _ _, list_nil _, list_nil _, fun x hx => (by rcases hx with hx | hx <;> cases hx)⟩
        · have HT3 := hideG (HT2.out.trans (if_neg c3))
          obtain ⟨W4, hW4⟩ : ∃ W4, W4 = wc.setCell ⟨g, 10, none⟩ (.int .i64 ((rd : Int) + 1)) := ⟨_, rfl⟩
          have I4 := hideG (show IdAt W4 g ⟨(n : Int), T, (m : Int), D⟩ (.slice a n c) va vb ⟨tm + 1, rd + 1, (st, ro, ls, us), got⟩ by
            have := I3.out.setR (rd + 1)
            rw [show ((rd + 1 : Nat) : Int) = (rd : Int) + 1 by omega] at this
            rw [hW4]; exact this)
          have C4 := hideG (show Chg (fun x => x = g) w W4 by rw [hW4]; exact C3.out.also (Chg.setCell _ ⟨g, 10, none⟩ _))
          have HW4 := hideG hW4
          clear hW4
          go_upto_region 7 with fail
          rw [← HW4.out]
          clear i0 i1 i2 i3 i4 i5 i6 i7 i8 i9 i10 f6 f7 f8 f9 f10
          obtain ⟨i0, i1, i2, i3, i4, i5, i6, i7, i8, i9, i10⟩ := I4.out.cells
          dsimp only at i0 i1 i2 i3 i5 i6 i7 i10
          rw [show ((rd + 1 : Nat) : Int) = (rd : Int) + 1 by omega] at i10
          have hgl4 := I4.out.lt
          by_cases c4 : rd + 1 = 4
          · have c4' : (rd : Int) + 1 = 4 := by omega
            have E := hideG (HT3.out.trans (if_pos c4))
            rw [c4] at I4
            have k0 : W4.cell? ⟨g, 37, none⟩ = some (.bool (got 2 0)) := I4.out.got 2 0 (by omega) (by omega)
            have k1 : W4.cell? ⟨g, 38, none⟩ = some (.bool (got 2 1)) := I4.out.got 2 1 (by omega) (by omega)
            have k2 : W4.cell? ⟨g, 39, none⟩ = some (.bool (got 2 2)) := I4.out.got 2 2 (by omega) (by omega)
            have k3 : W4.cell? ⟨g, 40, none⟩ = some (.bool (got 2 3)) := I4.out.got 2 3 (by omega) (by omega)
            have k4 : W4.cell? ⟨g, 41, none⟩ = some (.bool (got 2 4)) := I4.out.got 2 4 (by omega) (by omega)
            have k5 : W4.cell? ⟨g, 42, none⟩ = some (.bool (got 2 5)) := I4.out.got 2 5 (by omega) (by omega)
            have k6 : W4.cell? ⟨g, 43, none⟩ = some (.bool (got 2 6)) := I4.out.got 2 6 (by omega) (by omega)
            have k7 : W4.cell? ⟨g, 44, none⟩ = some (.bool (got 2 7)) := I4.out.got 2 7 (by omega) (by omega)
            have k8 : W4.cell? ⟨g, 45, none⟩ = some (.bool (got 2 8)) := I4.out.got 2 8 (by omega) (by omega)
            have k9 : W4.cell? ⟨g, 46, none⟩ = some (.bool (got 2 9)) := I4.out.got 2 9 (by omega) (by omega)
            have k10 : W4.cell? ⟨g, 47, none⟩ = some (.bool (got 2 10)) := I4.out.got 2 10 (by omega) (by omega)
            have k11 : W4.cell? ⟨g, 48, none⟩ = some (.bool (got 2 11)) := I4.out.got 2 11 (by omega) (by omega)
            have k12 : W4.cell? ⟨g, 49, none⟩ = some (.bool (got 2 12)) := I4.out.got 2 12 (by omega) (by omega)
            have HK := hideG (fun (W : World) (hb : Below W4.heap.size W4 W) => (ksum_calls T D n m hn.2 hm (got 2) cl a c vi vm vs Dd W (hgd W (C4.out.grow hb)) hcl hlen hin).mono (fun e w' ⟨v1, v2, h1, h2, h3, h4, h5⟩ => (show ∃ v1 v2, e = Ending.returned (.tuple #[v1, v2]) ∧ ListAt w' v1 (inL n (got 2)) ∧ ListAt w' v2 ((List.range m).map (inS cl n (got 2))) ∧ (∀ x, v1.ownBlock = some x ∨ v2.ownBlock = some x → W4.heap.size ≤ x ∧ x < w'.heap.size) ∧ Below W4.heap.size W4 w' from ⟨v1, v2, h1, h2, h3, fun x hx => by have h6 := h4 x hx; have h7 := hb.size; omega, hb.trans (h5.mono hb.size)⟩)))
            unfold setV bl13 at HK
            clear c4
            have HLM := hideG (show ((List.range m).map (inS cl n (got 2))).length = m by rw [List.length_map, List.length_range])
            go_upto_region 8 with fail
            clear c4'
            go_cut [3, 4] from 71 to 87 (fun q r wd => ∃ v1 v2, q = v1 ∧ r = v2 ∧ (∃ a1 n1 c1, v1 = .slice a1 n1 c1) ∧ (∃ a2 n2 c2, v2 = .slice a2 n2 c2) ∧ ListAt wd v1 (inL n (got 2)) ∧ ListAt wd v2 ((List.range m).map (inS cl n (got 2))) ∧ (∀ x, v1.ownBlock = some x ∨ v2.ownBlock = some x → W4.heap.size ≤ x ∧ x < wd.heap.size) ∧ Below W4.heap.size W4 wd)
            case first =>
              go_region_with (go_at_call 19; (first | refine (HK.out _ (Below.refl W4.heap.size W4).drew).mono ?_ | refine (HK.out _ (Below.refl W4.heap.size W4)).mono ?_); rintro e w5 ⟨v1, v2, rfl, h1, h2, h3, h4⟩; obtain ⟨a1, k1, e1⟩ := klist_form h1; obtain ⟨a2, k2, e2⟩ := klist_form h2; rw [HLM.out] at e2; have HFIN := hideG (And.intro h1 (And.intro h2 (And.intro h3 h4))); rw [e1, e2] at HFIN ⊢; clear h1 h2 h3 h4 e1 e2)
              all_goals (go_wp2_with fail; go_meet; exact ⟨_, _, rfl, rfl, ⟨_, _, _, rfl⟩, ⟨_, _, _, rfl⟩, HFIN.out⟩)
            case rest =>
              obtain ⟨v1, v2, rfl, rfl, ⟨a1, n1, c1, rfl⟩, ⟨a2, n2, c2, rfl⟩, hl1, hl2, hbk, hb5⟩ := hcut
              have I5 := hideG (I4.out.below hb5)
              have C5 := hideG (C4.out.grow hb5)
              have z4 := C4.out.size
              have BK := hideG hbk
              have LL1 := hideG hl1
              have LL2 := hideG hl2
              have gw : g < w.heap.size := H0.out.lt
              clear i0 i1 i2 i3 i4 i5 i6 i7 i8 i9 i10 HK hb5 hbk hl1 hl2 k0 k1 k2 k3 k4 k5 k6 k7 k8 k9 k10 k11 k12
              obtain ⟨i0, i1, i2, i3, i4, i5, i6, i7, i8, i9, i10⟩ := I5.out.cells
              dsimp only at i0 i1 i2 i3 i5 i6 i7 i10
              have hgl5 := I5.out.lt
              have fz := I5.out.froz
              have f6 := fz 6
              have f7 := fz 7
              have f8 := fz 8
              have f9 := fz 9
              clear fz
              go_wp2_with fail
              go_end0
              refine ⟨rfl, ?_⟩
              rw [E.out]
              have CF := chg_idO C5.out (.int .i64 1) (.int .i64 0) (.slice a1 n1 c1) (.slice a2 n2 c2)
              have C1 : Chg (fun x => x = g) wc ((((wc.setCell ⟨g, 6, none⟩ (.int .i64 1)).setCell ⟨g, 7, none⟩ (.int .i64 0)).setCell ⟨g, 8, none⟩ (.slice a1 n1 c1)).setCell ⟨g, 9, none⟩ (.slice a2 n2 c2)) := chg_idO (Chg.refl _ _) _ _ _ _
              refine ⟨_, _, I5.out.setO 1 0 (.slice a1 n1 c1) (.slice a2 n2 c2) (inL n (got 2)) ((List.range m).map (inS cl n (got 2))), CF, LL1.out.chg C1 (fun x hx => ?_), LL2.out.chg C1 (fun x hx => ?_), fun x hx => .inr ?_⟩
              · have := BK.out x (.inl hx); show ¬ x = g; omega
              · have := BK.out x (.inr hx); show ¬ x = g; omega
              · have h1 := BK.out x hx
                have h2 := C1.size
                omega
          · have c4' : ¬ (rd : Int) + 1 = 4 := by omega
            have E := hideG (HT3.out.trans (if_neg c4))
            clear c4
            go_wp2_with fail
            (try simp only [Exit.inBlock, Exit.then])
            go_end0
            refine ⟨rfl, ?_⟩
            rw [E.out]
            exact ⟨va, vb, I4.out, C4.out, LA.out.chg C4.out (fun x hx => hna x (.inl hx)), LB.out.chg C4.out (fun x hx => hna x (.inr hx)), fun x hx => .inl hx⟩
theorem kticks_go {N T M D : Int} {n : Nat} {cl : Nat → Cli.Cl} (hC : Cast ⟨N, T, M, D⟩ cl n) {w : World} {g : Nat} {a : Option Addr} {c : Nat} {vi vm vs : Nat → Value} {Dd : Nat → DD} (hD : DrawsAt w a n c vi vm vs Dd) (hcl : ∀ k, k < n → (cl k).inp = (Dd k).inp)
    (hgd : ∀ W, Chg (fun x => x = g) w W → DrawsAt W a n c vi vm vs Dd) {va vb : Value} {I : Idl} (h : IdAt w g ⟨N, T, M, D⟩ (.slice a n c) va vb I) (hla : ListAt w va I.out.2.2.1) (hlb : ListAt w vb I.out.2.2.2) (hna : ∀ x, (va.ownBlock = some x ∨ vb.ownBlock = some x) → x ≠ g) (hrun : I.out.1 = 0 → I.rd ≤ 3 ∧ 0 ≤ I.tm ∧ I.tm ≤ 100000) :
    Calls Tryz.prog 14 #[.pointer (some ⟨g, 0, none⟩)] w fun e w' => e = .returned (.tuple #[]) ∧ Tickd w w' g ⟨N, T, M, D⟩ (.slice a n c) va vb (ticksN ⟨N, T, M, D⟩ cl n I) := by
  have h1 := hC.gc.n
  have h2 := hC.gc.t
  have h3 := hC.gc.m
  have h4 := hC.gc.d
  have h5 := hC.num
  have hn := hC.le
  dsimp only at h1 h2 h3 h4 h5
  have hg := hC.good
  have hM := hC.M
  obtain ⟨m, rfl⟩ : ∃ m : Nat, M = (m : Int) := ⟨M.toNat, by omega⟩
  subst h5
  refine kticks_calls hn (by omega) (by omega) (by omega) cl hD hcl (fun k hk => ?_) (fun k hk i hi => ?_) hgd h hla hlb hna hrun
  · have e1 := (hg k hk).len
    have e2 := hM k hk
    dsimp only at e2
    rw [e2, hcl k hk] at e1
    omega
  · have e1 := (hg k hk).len
    have e2 := hM k hk
    dsimp only at e2
    rw [e2, hcl k hk] at e1
    have hl : i < (Dd k).inp.length := by omega
    have e3 := (hg k hk).inp ((Dd k).inp.getD i 0) (by rw [hcl k hk, List.getD_eq_getElem?_getD, List.getElem?_eq_getElem hl]; exact List.getElem_mem hl)
    exact e3
end Go.Proofs.YtchideljndagjabGreat
namespace Go.Proofs.YtchideljndagjabGreat
open Go.RowKit
set_option linter.unusedVariables false
theorem act_q {C : Srv.Cf} {cl : Nat → Cli.Cl} {n : Nat} {s : Sn} (f : Bool) {o : Stp} (h5 : o.k ≠ 5) : (actN C cl n f s o).q.out = s.q.out := by
  unfold actN
  rw [if_neg h5]
  split
  · split
    · rfl
    · unfold deliverN; split
      · split
        · rfl
        · exact (rcv_q C cl n _ _ _).1
      · rfl
  · split
    · split
      · rfl
      · unfold dropN; split <;> rfl
    · split
      · split
        · rfl
        · unfold doubleN; split
          · split
            · split <;> rfl
            · rfl
          · rfl
      · split
        · split
          · unfold injectN; split
            · exact (rcv_q C cl n _ _ _).1
            · rfl
          · rfl
        · split
          · unfold crashU; split <;> rfl
          · rfl
theorem OutOk.act {C : Srv.Cf} {cl : Nat → Cli.Cl} {n : Nat} {s : Sn} (ok : SnOk C cl n s) (h : OutOk C s.q.out) (f : Bool) (o : Stp) : OutOk C (actN C cl n f s o).q.out := by
  by_cases h5 : o.k = 5
  · have e : actN C cl n f s o = tickN C s := by unfold actN; rw [if_neg (by omega), if_neg (by omega), if_neg (by omega), if_neg (by omega), if_pos h5]
    rw [e]; exact OutOk.tick ok.gc ok.sok h
  · rw [act_q f h5]; exact h
theorem OutOk.ints {C : Srv.Cf} (hc : Srv.GoodC C) {o : Int × Int × List Int × List Int} (h : OutOk C o) : (∀ z ∈ o.2.2.1, 0 ≤ z ∧ z ≤ 4294967296) ∧ ∀ z ∈ o.2.2.2, 0 ≤ z ∧ z ≤ 4294967296 := by
  have hn := hc.n
  rcases h with ⟨_, _, e3, e4⟩ | ⟨_, _, _, e3, e4⟩ | ⟨_, _, _, _, e5, _, e7⟩
  · rw [e3, e4]; exact ⟨fun z hz => (by cases hz), fun z hz => (by cases hz)⟩
  · rw [e3, e4]; exact ⟨fun z hz => (by cases hz), fun z hz => (by cases hz)⟩
  · exact ⟨fun z hz => by have := e5 z hz; omega, fun z hz => by have := e7 z hz; omega⟩
theorem outOk_beg (C : Srv.Cf) (cl : Nat → Cli.Cl) (n : Nat) : OutOk C (beg cl n).q.out := .inl ⟨rfl, rfl, rfl, rfl⟩
end Go.Proofs.YtchideljndagjabGreat
namespace Go.Proofs.YtchideljndagjabGreat
open Go.ChangeShapes Go.WideShapes Go.ChangeAt Go.RowKit Go.Deep
set_option linter.unusedVariables false
theorem acellsInt : Tryz.prog.cellsOf 3 = 1 := by kernel_rfl
theorem acellsInts : Tryz.prog.cellsOf 33 = 1 := by kernel_rfl
theorem acellsStr : Tryz.prog.cellsOf 9 = 1 := by kernel_rfl
theorem acellsCfg : Tryz.prog.cellsOf 26 = 4 := by kernel_rfl
theorem acellsDraw : Tryz.prog.cellsOf 117 = 6 := by kernel_rfl
theorem arr4 {cs : Array Value} (h : cs.size = 4) : ∃ a b c d, cs = #[a, b, c, d] := by
  obtain ⟨l⟩ := cs
  match l, h with
  | [a, b, c, d], _ => exact ⟨a, b, c, d, rfl⟩
section
variable {H : Type} {enc : TypeId × Value → H} {w : World} {spare : Nat → Bool} {held : Bool} {r : Reach} {b0 : Nat}
theorem aint_of {n : Nat} {c : Value} {y : DataW H × List MemPlace} (h : DataW.trod enc Tryz.prog w 0 spare held n 3 [c] = some y) : ∃ x : Int, c = .int .i64 x ∧ inI x := by
  obtain ⟨x, e, _, hx⟩ := DataW.trod_int Tryz.underlying3 h
  simp at e
  exact ⟨x, e, bounds_i64 hx⟩
theorem alist_of {n : Nat} {c : Value} {y : DataW H × List MemPlace} (h : DataW.trod enc Tryz.prog w 0 (fun _ => true) held n 33 [c] = some y) : ∃ zs, ListAt w c zs := by
  rcases open_ints Tryz.underlying33 Tryz.underlying3 acellsInt h with ⟨hcs, _⟩ | ⟨x, l, c', zs, hcs, _, hl, hm, hz, _, hcell, hwz⟩
  · simp at hcs
    subst hcs
    exact ⟨_, (rowed (zs := []) (.inl ⟨rfl, rfl, rfl, rfl⟩)).1⟩
  · simp at hcs
    subst hcs
    exact ⟨_, (rowed (zs := zs) (.inr ⟨_, rfl, hl, hm, by simpa using hz, hcell, hwz⟩)).1⟩
set_option maxRecDepth 100000 in
theorem cfg_open {v : Value} {d : DataW H} {p : List MemPlace} (hv : Value.okWide Tryz.prog w r b0 26 v) (h : DataW.Trod enc Tryz.prog w 0 (fun _ => true) held 26 v d p) :
    ∃ N T M D : Int, v = .agg #[.int .i64 N, .int .i64 T, .int .i64 M, .int .i64 D] := by
  obtain ⟨cs, rfl, hsz⟩ := okWide_struct Tryz.underlying26 hv
  rw [acellsCfg] at hsz
  obtain ⟨c0, c1, c2, c3, rfl⟩ := arr4 hsz
  obtain ⟨fuel, hf⟩ := h
  obtain ⟨xs, m, _, hy, hl, hlen, hf⟩ := DataW.trod_struct Tryz.underlying26 hf
  have f0 := hf 0 _ rfl
  have f1 := hf 1 _ rfl
  have f2 := hf 2 _ rfl
  have f3 := hf 3 _ rfl
  simp [acellsInt, Value.cells] at f0 f1 f2 f3
  have hlen4 : xs.length = 4 := hlen
  rw [List.getElem?_eq_getElem (by omega)] at f0 f1 f2 f3
  obtain ⟨a, rfl, _⟩ := aint_of f0
  obtain ⟨b, rfl, _⟩ := aint_of f1
  obtain ⟨c, rfl, _⟩ := aint_of f2
  obtain ⟨e, rfl, _⟩ := aint_of f3
  exact ⟨a, b, c, e, rfl⟩

end
end Go.Proofs.YtchideljndagjabGreat
