/- Contracts of the program's server: a secret, joined of what was told; the masks that are left because of one client. -/
import Derived.Test.YtchideljndagjabGreatPkIdAV
import Derived.Test.YtchideljndagjabGreatPkIdAG
import Derived.Test.YtchideljndagjabGreatPkIdAC
import Derived.Test.YtchideljndagjabGreatPkIdAU
namespace Go.Proofs.YtchideljndagjabGreat
open Go.ChangeShapes Go.WideShapes Go.ChangeAt Go.RowKit
set_option linter.unusedVariables false
theorem infoPn : (Tryz.prog.info? 139).map (fun i => (i.zero, i.size, i.bytes)) = some (some (.agg #[.int .i64 0, .int .i64 0]), 2, 16) := by kernel_rfl
theorem infoMs : (Tryz.prog.info? 292).map (fun i => (i.zero, i.size, i.bytes)) = some (some (.agg #[.int .i64 0, .bool false]), 2, 16) := by kernel_rfl
def flatV (l : List (Value × Value)) : List Value := (l.map fun p => [p.1, p.2]).flatten
theorem flatV_append (l m : List (Value × Value)) : flatV (l ++ m) = flatV l ++ flatV m := by unfold flatV; rw [List.map_append, List.flatten_append]
theorem flatV_length : ∀ l : List (Value × Value), (flatV l).length = l.length * 2
  | [] => rfl
  | p :: l => by show (flatV l).length + 1 + 1 = (l.length + 1) * 2; rw [flatV_length l]; omega
theorem flatV_get : ∀ (l : List (Value × Value)) (i : Nat) (p : Value × Value), l[i]? = some p → (flatV l)[i * 2]? = some p.1 ∧ (flatV l)[i * 2 + 1]? = some p.2
  | [], i, p, h => by simp at h
  | q :: l, 0, p, h => by simp at h; subst h; exact ⟨rfl, rfl⟩
  | q :: l, i + 1, p, h => by
    have := flatV_get l i p (by simpa using h)
    have e : ∀ j, (flatV (q :: l))[(i + 1) * 2 + j]? = (flatV l)[i * 2 + j]? := fun j => by
      show (_ :: _ :: flatV l)[(i + 1) * 2 + j]? = _
      rw [show (i + 1) * 2 + j = i * 2 + j + 1 + 1 by omega]; rfl
    exact ⟨(e 0).trans this.1, (e 1).trans this.2⟩
theorem owns_cells {w : World} {B : Nat} {e : TypeId} {m : Nat} {v : Value} {n : Nat} {xs : List Value} (h : w.ownsRow B e m v n xs) (hn : 0 < n) :
    ∃ g cap, v = .slice (some ⟨g, 0, none⟩) n cap ∧ B ≤ g ∧ g < w.heap.size ∧ n ≤ cap ∧ cap ≤ maxLen ∧ ∀ j x, xs[j]? = some x → w.cell? ⟨g, j, none⟩ = some x := by
  have hlt := h.lt
  obtain ⟨h1, h2⟩ := h
  rcases h2 with ⟨_, h2⟩ | ⟨g, cap, cur, hv, hb, hc, h3, h4, h5, h6⟩
  · omega
  · refine ⟨g, cap, hv, hb, (hlt g (by rw [hv]; rfl)).2, h3, h4, fun j x hx => ?_⟩
    rw [cell_of_row w g j _ _ (0, 0) hc]
    rw [← h6] at hx
    rw [List.getElem?_take] at hx
    split at hx
    · rw [← Array.getElem?_toList]; exact hx
    · cases hx
theorem cell_two_n (w : World) (x y : Value) (t : TypeId) : ∀ j c, ([x, y] : List Value)[j]? = some c → (w.alloc (.cells #[x, y] t)).cell? ((⟨w.heap.size, 0, none⟩ : Addr).add j) = some c := by
  intro j c hj
  match j, hj with
  | 0, hj => simp at hj; subst hj; simp [Addr.add]
  | 1, hj => simp at hj; subst hj; simp [Addr.add]
def ptV (p : Int × Int) : Value × Value := (.int .i64 p.1, .int .i64 p.2)
def mkV (p : Int × Bool) : Value × Value := (.int .i64 p.1, .bool p.2)
theorem ptsAt_owns {w : World} {B : Nat} {v : Value} {ps : List (Int × Int)} (h : w.ownsRow B 139 2 v ps.length (flatV (ps.map ptV))) (hn : 0 < ps.length) (hi : ∀ p ∈ ps, inI p.1 ∧ inI p.2) : PtsAt w v ps := by
  obtain ⟨g, cap, hv, hb, hl, h3, h4, hc⟩ := owns_cells h hn
  refine ⟨_, _, hv, h3, h4, hi, .inr ⟨g, 0, rfl, hl, fun i hi => ?_⟩⟩
  have e : (ps.map ptV)[i]? = some (ptV ps[i]) := by rw [List.getElem?_map, List.getElem?_eq_getElem hi]; rfl
  have eg : ps.getD i (0, 0) = ps[i] := by rw [List.getD_eq_getElem?_getD, List.getElem?_eq_getElem hi]; rfl
  obtain ⟨e1, e2⟩ := flatV_get _ i _ e
  rw [eg, Nat.zero_add]
  exact ⟨hc _ _ e1, hc _ _ e2⟩
def tellG (p : Nat → Bool) (L : Nat → List Frm.It) (v n : Nat) : List (Int × Int) := (Srv.lstN p n).map fun x : Nat => ((x : Int), (Cli.itemOf (L x) v).2.2.1)
theorem tellG_succ (p : Nat → Bool) (L : Nat → List Frm.It) (v n : Nat) : tellG p L v (n + 1) = tellG p L v n ++ (if p n = true then [((n : Int), (Cli.itemOf (L n) v).2.2.1)] else []) := by
  unfold tellG; rw [Srv.lstN_succ, List.map_append]; split <;> rfl
theorem tellG_len (p : Nat → Bool) (L : Nat → List Frm.It) (v n : Nat) : (tellG p L v n).length ≤ n := by unfold tellG; rw [List.length_map]; exact Srv.lstN_le _ _
set_option maxHeartbeats 2000000 in
set_option maxRecDepth 100000 in
theorem secretOf_calls (b : Nat) (S : SS) (L : Nat → List Frm.It) (v : Nat) (w : World) (h : SSAt w b S) (hL : ∀ v, v < 13 → ItemsAt w (S.it v) (L v)) (hp : ptsB (tellG S.ct L v 13) = true) :
    Calls Tryz.prog 296 #[.pointer (some ⟨b, 0, none⟩), .int .i64 (v : Int)] w fun e w' => e = .returned (.int .i64 (Lag.joinN (tellG S.ct L v 13))) ∧ Below w.heap.size w w' := by
  obtain ⟨i1, hi1, hy0, hy1, hy2⟩ := info_parts infoPn
  have hbl := h.lt
  have HRG := hideG h.allct
  have LX := hideG (bl13_length S.ct)
  have HIX := hideG (ix_mem S.ct)
  have HIT := hideG (fun (w1 : World) (k : Nat) (hk : k < 13) (hb : Below w.heap.size w w1) => (h.below hb).cit k hk)
  have HFO := hideG (fun (k : Nat) (hk : k < 13) => items_form (hL k hk))
  have HCI := hideG (fun (w1 : World) (k : Nat) (hk : k < 13) (hb : Below w.heap.size w w1) => sItemOf_calls (S.it k) (L k) (v : Int) w1 ((hL k hk).below hb))
  have HJ := hideG (fun (w1 : World) (x : Value) (hx : PtsAt w1 x (tellG S.ct L v 13)) => join_yes x _ w1 hx hp)
  obtain ⟨g1, g2, g3, g4⟩ := ptsB_good hp
  have HPT := hideG (fun (w1 : World) (x : Value) (hx : w1.ownsRow w.heap.size 139 2 x (tellG S.ct L v 13).length (flatV ((tellG S.ct L v 13).map ptV))) => ptsAt_owns hx (by omega) (fun p hpp => by
    have q1 := g1.1 p.1 (List.mem_map.2 ⟨p, hpp, rfl⟩)
    have q2 := g4 p hpp
    unfold Lag.small at q1
    unfold inI
    exact ⟨by omega, by omega⟩))
  clear h hL hp g1 g2 g3 g4
  generalize S.ct = p at *
  generalize S.it = it at *
  obtain ⟨CS, hCS⟩ : ∃ CS, CS = bl13 p := ⟨_, rfl⟩
  rw [← hCS] at HRG LX HIX
  clear hCS
  go_enter Tryz.func296, Tryz.ntmps296
  go_wp2_with (refine wpList_load_mid rfl 101 _ rfl b 19 rfl CS _ HRG.out Tryz.underlying101 rfl ?z ?_)
  case z => rw [size_mem, LX.out]
  go_wp2_with fail
  go_loopw [5, 14] (fun ro i wr => ∃ k : Nat, k ≤ 13 ∧ i = .int .i64 k ∧ wr.ownsRow w.heap.size 139 2 ro (tellG p L v k).length (flatV ((tellG p L v k).map ptV)) ∧ Below w.heap.size w wr) (fun _ i _ => 13 - (intOf i).toNat)
  case atStart => exact ⟨0, by omega, rfl, World.ownsRow_nil _ _ _ _, Below.refl _ _⟩
  case round =>
    obtain ⟨k, hk, rfl, hown, hbel⟩ := hrel
    have HO := hideG hown
    have HB := hideG hbel
    have hsz := hbel.size
    obtain ⟨a3, c3, hv3⟩ := owns_form hown
    subst hv3
    clear hown hbel
    have hl13 := tellG_len p L v k
    have HSU := hideG (tellG_succ p L v k)
    by_cases hlt : k < 13
    · have hlt' : (k : Int) < 13 := by omega
      have hix := HIX.out k hlt
      cases q : p k
      · rw [q] at hix
        have HS2 := hideG (show tellG p L v (k + 1) = tellG p L v k by rw [HSU.out, q]; simp)
        clear q
        go_wp2_with fail
        go_roundw
        case rel => exact ⟨k + 1, by omega, by go_num, by rw [HS2.out]; exact HO.out, HB.out⟩
        case measure => simp [intOf]; omega
      · rw [q] at hix
        have HS2 := hideG (show tellG p L v (k + 1) = tellG p L v k ++ [((k : Int), (Cli.itemOf (L k) v).2.2.1)] by rw [HSU.out, q]; simp)
        clear q
        have ci := HIT.out wr k hlt HB.out
        have CI := hideG (HCI.out wr k hlt HB.out)
        obtain ⟨fa, fn, fc, hf⟩ := HFO.out k hlt
        rw [hf] at ci CI
        clear hf
        unfold itmV at CI
        obtain ⟨y0, y1, y2, y3, hy⟩ : ∃ y0 y1 y2 y3, Cli.itemOf (L k) (v : Int) = (y0, y1, y2, y3) := ⟨_, _, _, _, rfl⟩
        rw [hy] at CI HS2
        clear hy
        go_wp2_with fail
        refine CI.out.mono ?_
        rintro e w1 ⟨rfl, hb1⟩
        have s1 := hb1.size
        have B1 := hideG (HB.out.trans (hb1.mono HB.out.size))
        have O1 := hideG (ownsRow_chg (S := fun _ => False) HO.out (Chg.of_below hb1) (fun _ _ h => h))
        clear hb1
        have hfl := field_B (.int .i64 y0) (.int .i64 y1) (.int .i64 y2) (.int .i64 y3) w1
        go_wp2_with (at_builtin; refine wpList_append_own _ rfl _ _ 137 rfl w.heap.size 139 i1 (.agg #[.int .i64 0, .int .i64 0]) 2 16 Tryz.underlying137 hi1 hy0 hy1 hy2 rfl (by decide) _ _ _ rfl (O1.out.alloc _) ⟨w1.heap.size, 0, none⟩ 1 1 [.int .i64 k, .int .i64 y2] rfl rfl ?c1 ?c2 ?c3 ?c4 ?c5 ?_)
        case c1 => exact cell_two_n _ _ _ _
        case c2 => intro u hu; simp at hu; rcases hu with rfl | rfl <;> rfl
        case c3 => unfold maxLen; omega
        case c4 => omega
        case c5 => simp; omega
        intro v' w4 hown' hgrow' _
        have hb4 := (B1.out.alloc (by omega) _).grown hgrow' (by simp; omega) (fun y hy => (O1.out.lt y hy).1)
        have B4 := hideG hb4
        have O4 := hideG (show w4.ownsRow w.heap.size 139 2 v' (tellG p L v (k + 1)).length (flatV ((tellG p L v (k + 1)).map ptV)) by
          rw [HS2.out, List.map_append, flatV_append, List.length_append]; exact hown')
        clear hown' hgrow' hb4
        go_wp2_with fail
        go_roundw
        case rel => exact ⟨k + 1, by omega, by go_num, O4.out, B4.out⟩
        case measure => simp [intOf]; omega
    · have ek : k = 13 := by omega
      subst ek
      have JJ := hideG (HJ.out wr _ (HPT.out wr _ HO.out))
      go_wp2_with fail
      refine JJ.out.mono ?_
      rintro e w1 ⟨rfl, hb1⟩
      have B1 := hideG (HB.out.trans (hb1.mono HB.out.size))
      clear hb1
      go_wp2_with fail
      go_ret
      exact ⟨rfl, B1.out⟩
def mwG (sn : Nat → Bool) (pb : Nat → Int) (v : Nat) (sec : Int) (n : Nat) : List (Int × Bool) := (Srv.lstN sn n).map fun u : Nat => (Num.powP (pb u) sec, decide (u < v))
theorem mwG_succ (sn : Nat → Bool) (pb : Nat → Int) (v : Nat) (sec : Int) (n : Nat) : mwG sn pb v sec (n + 1) = mwG sn pb v sec n ++ (if sn n = true then [(Num.powP (pb n) sec, decide (n < v))] else []) := by
  unfold mwG; rw [Srv.lstN_succ, List.map_append]; split <;> rfl
theorem mwG_len (sn : Nat → Bool) (pb : Nat → Int) (v : Nat) (sec : Int) (n : Nat) : (mwG sn pb v sec n).length ≤ n := by unfold mwG; rw [List.length_map]; exact Srv.lstN_le _ _
def withG (sn : Nat → Bool) (pb : Nat → Int) (v : Nat) (sec : Int) : List (Int × Bool) := if sn v = true then [(sec, true)] else mwG sn pb v sec 13
set_option maxHeartbeats 2000000 in
set_option maxRecDepth 100000 in
theorem masksWith_calls (b : Nat) (S : SS) (v : Nat) (sec : Int) (w : World) (h : SSAt w b S) (hv : v < 13) (hs : 0 ≤ sec) (hs' : sec < 2305843009213693951) (hpb : ∀ u, u < 13 → 0 ≤ S.pb u ∧ S.pb u < 2305843009213693951) :
    Calls Tryz.prog 297 #[.pointer (some ⟨b, 0, none⟩), .int .i64 (v : Int), .int .i64 sec] w fun e w' => ∃ va, e = .returned va ∧ w'.ownsRow w.heap.size 292 2 va (withG S.sn S.pb v sec).length (flatV ((withG S.sn S.pb v sec).map mkV)) ∧ Below w.heap.size w w' := by
  obtain ⟨i1, hi1, hy0, hy1, hy2⟩ := info_parts infoMs
  have hbl := h.lt
  have hv' : (v : Int) < 13 := by omega
  have cv := h.csn v hv
  have HRG := hideG h.allsn
  have LX := hideG (bl13_length S.sn)
  have HIX := hideG (ix_mem S.sn)
  have HPB := hideG (fun (w1 : World) (k : Nat) (hk : k < 13) (hb : Below w.heap.size w w1) => (h.below hb).cpb k hk)
  have HPW := hideG (fun (w1 : World) (k : Nat) (hk : k < 13) => power_calls (S.pb k) sec w1 (hpb k hk).1 (hpb k hk).2 (by omega))
  clear h hpb
  unfold withG
  generalize S.pb = pb at *
  cases q : S.sn v
  · rw [q] at cv
    rw [if_neg Bool.false_ne_true]
    clear q
    generalize S.sn = p at *
    obtain ⟨CS, hCS⟩ : ∃ CS, CS = bl13 p := ⟨_, rfl⟩
    rw [← hCS] at HRG LX HIX
    clear hCS
    go_enter Tryz.func297, Tryz.ntmps297
    go_wp2_with (refine wpList_load_mid rfl 101 _ rfl b 6 rfl CS _ HRG.out Tryz.underlying101 rfl ?z ?_)
    case z => rw [size_mem, LX.out]
    go_wp2_with fail
    go_loopw [7, 24] (fun ro i wr => ∃ k : Nat, k ≤ 13 ∧ i = .int .i64 k ∧ wr.ownsRow w.heap.size 292 2 ro (mwG p pb v sec k).length (flatV ((mwG p pb v sec k).map mkV)) ∧ Below w.heap.size w wr) (fun _ i _ => 13 - (intOf i).toNat)
    case atStart => exact ⟨0, by omega, rfl, World.ownsRow_nil _ _ _ _, Below.refl _ _⟩
    case round =>
      obtain ⟨k, hk, rfl, hown, hbel⟩ := hrel
      have HO := hideG hown
      have HB := hideG hbel
      have hsz := hbel.size
      obtain ⟨a3, c3, hv3⟩ := owns_form hown
      subst hv3
      clear hown hbel
      have hl13 := mwG_len p pb v sec k
      have HSU := hideG (mwG_succ p pb v sec k)
      by_cases hlt : k < 13
      · have hlt' : (k : Int) < 13 := by omega
        have hix := HIX.out k hlt
        cases q : p k
        · rw [q] at hix
          have HS2 := hideG (show mwG p pb v sec (k + 1) = mwG p pb v sec k by rw [HSU.out, q]; simp)
          clear q
          go_wp2_with fail
          go_roundw
          case rel => exact ⟨k + 1, by omega, by go_num, by rw [HS2.out]; exact HO.out, HB.out⟩
          case measure => simp [intOf]; omega
        · rw [q] at hix
          have HS2 := hideG (show mwG p pb v sec (k + 1) = mwG p pb v sec k ++ [(Num.powP (pb k) sec, decide (k < v))] by rw [HSU.out, q]; simp)
          clear q
          have cp := HPB.out wr k hlt HB.out
          have PW := hideG (HPW.out wr k hlt)
          obtain ⟨K, hK⟩ : ∃ K, K = Num.powP (pb k) sec := ⟨_, rfl⟩
          rw [← hK] at PW HS2
          clear hK
          go_wp2_with fail
          refine PW.out.mono ?_
          rintro e w1 ⟨rfl, rfl⟩
          go_wp2_with (at_builtin; refine wpList_append_own _ rfl _ _ 285 rfl w.heap.size 292 i1 (.agg #[.int .i64 0, .bool false]) 2 16 Tryz.underlying285 hi1 hy0 hy1 hy2 rfl (by decide) _ _ _ rfl (HO.out.alloc _) ⟨w1.heap.size, 0, none⟩ 1 1 [.int .i64 K, .bool (decide (k < v))] rfl rfl ?c1 ?c2 ?c3 ?c4 ?c5 ?_)
          case c1 => exact cell_two_n _ _ _ _
          case c2 => intro u hu; simp at hu; rcases hu with rfl | rfl <;> rfl
          case c3 => unfold maxLen; omega
          case c4 => omega
          case c5 => simp; omega
          intro v' w4 hown' hgrow' _
          have hb4 := (HB.out.alloc (by omega) _).grown hgrow' (by simp; omega) (fun y hy => (HO.out.lt y hy).1)
          have B4 := hideG hb4
          have O4 := hideG (show w4.ownsRow w.heap.size 292 2 v' (mwG p pb v sec (k + 1)).length (flatV ((mwG p pb v sec (k + 1)).map mkV)) by
            rw [HS2.out, List.map_append, flatV_append, List.length_append]; exact hown')
          clear hown' hgrow' hb4
          go_wp2_with fail
          go_roundw
          case rel => exact ⟨k + 1, by omega, by go_num, O4.out, B4.out⟩
          case measure => simp [intOf]; omega
      · have ek : k = 13 := by omega
        subst ek
        go_wp2_with fail
        go_ret
        exact ⟨_, rfl, HO.out, HB.out⟩
  · rw [q] at cv
    rw [if_pos rfl]
    clear q
    go_enter Tryz.func297, Tryz.ntmps297
    go_wp2_with fail
    go_ret
    refine ⟨_, rfl, ⟨rfl, .inr ⟨w.heap.size, 1, #[.int .i64 sec, .bool true], rfl, Nat.le_refl _, heap_alloc_new w _, Nat.le_refl _, by unfold maxLen; omega, rfl, rfl⟩⟩, (Below.refl _ _).alloc (Nat.le_refl _) _⟩
end Go.Proofs.YtchideljndagjabGreat
namespace Go.Proofs.YtchideljndagjabGreat
open Go.RowKit
set_option linter.unusedVariables false

abbrev Pk := Int × Int × List Int
def packV : List Pk → List Value → List Value
  | p :: ps, v :: vs => .int .i64 p.1 :: .int .i64 p.2.1 :: v :: packV ps vs
  | _, _ => []
theorem packV_snoc : ∀ (ps : List Pk) (vs : List Value) (p : Pk) (v : Value), vs.length = ps.length → packV (ps ++ [p]) (vs ++ [v]) = packV ps vs ++ [.int .i64 p.1, .int .i64 p.2.1, v]
  | [], [], p, v, _ => rfl
  | q :: ps, x :: vs, p, v, h => by
    show _ :: _ :: _ :: packV (ps ++ [p]) (vs ++ [v]) = _
    rw [packV_snoc ps vs p v (by simpa using h)]; rfl
  | [], x :: vs, p, v, h => by simp at h
  | q :: ps, [], p, v, h => by simp at h
theorem packV_length : ∀ (ps : List Pk) (vs : List Value), vs.length = ps.length → (packV ps vs).length = ps.length * 3
  | [], [], _ => rfl
  | q :: ps, x :: vs, h => by
    show (packV ps vs).length + 1 + 1 + 1 = (ps.length + 1) * 3
    rw [packV_length ps vs (by simpa using h)]; omega
  | [], x :: vs, h => by simp at h
  | q :: ps, [], h => by simp at h
theorem packV_get : ∀ (ps : List Pk) (vs : List Value) (i : Nat) (p : Pk) (v : Value), ps[i]? = some p → vs[i]? = some v → (packV ps vs)[i * 3]? = some (.int .i64 p.1) ∧ (packV ps vs)[i * 3 + 1]? = some (.int .i64 p.2.1) ∧ (packV ps vs)[i * 3 + 2]? = some v
  | [], vs, i, p, v, h, _ => by simp at h
  | q :: ps, [], i, p, v, _, h => by simp at h
  | q :: ps, x :: vs, 0, p, v, h, k => by
    simp at h k; subst h; subst k; exact ⟨rfl, rfl, rfl⟩
  | q :: ps, x :: vs, i + 1, p, v, h, k => by
    have := packV_get ps vs i p v (by simpa using h) (by simpa using k)
    have e : ∀ j, (packV (q :: ps) (x :: vs))[(i + 1) * 3 + j]? = (packV ps vs)[i * 3 + j]? := fun j => by
      show (_ :: _ :: _ :: packV ps vs)[(i + 1) * 3 + j]? = _
      rw [show (i + 1) * 3 + j = i * 3 + j + 1 + 1 + 1 by omega]; rfl
    exact ⟨(e 0).trans this.1, (e 1).trans this.2.1, (e 2).trans this.2.2⟩
def bytesV (zs : List Int) : List Value := zs.map (Value.int .u8)
structure Packs (w : World) (B : Nat) (v : Value) (vs : List Value) (ps : List Pk) : Prop where
  len : vs.length = ps.length
  row : w.ownsRow B 49 3 v ps.length (packV ps vs)
  each : ∀ (i : Nat) (x : Value) (p : Pk), vs[i]? = some x → ps[i]? = some p → w.ownsRow B 5 1 x p.2.2.length (bytesV p.2.2)
  pw : ∀ (i j : Nat) (x y : Value), i < j → vs[i]? = some x → vs[j]? = some y → ∀ g, x.ownBlock = some g → y.ownBlock ≠ some g
theorem packs_nil (w : World) (B : Nat) : Packs w B (.slice none 0 0) [] [] := ⟨rfl, World.ownsRow_nil _ _ _ _, fun i x p h => by simp at h, fun i j x y _ h => by simp at h⟩
def PkFoot (v : Value) (vs : List Value) (x : Nat) : Prop := v.ownBlock = some x ∨ ∃ y ∈ vs, y.ownBlock = some x
theorem Packs.chg {S : Nat → Prop} {w w' : World} {B : Nat} {v : Value} {vs : List Value} {ps : List Pk} (h : Packs w B v vs ps) (hc : Chg S w w') (hS : ∀ x, PkFoot v vs x → ¬ S x) : Packs w' B v vs ps :=
  ⟨h.len, ownsRow_chg h.row hc (fun b hb => hS b (.inl hb)), fun i x p h1 h2 => ownsRow_chg (h.each i x p h1 h2) hc (fun b hb => hS b (.inr ⟨x, List.mem_of_getElem? h1, hb⟩)), h.pw⟩
theorem Packs.below {w w' : World} {B : Nat} {v : Value} {vs : List Value} {ps : List Pk} (h : Packs w B v vs ps) (hb : Below w.heap.size w w') : Packs w' B v vs ps := h.chg (S := fun _ => False) (Chg.of_below hb) (fun _ _ h => h)
theorem Packs.low {w : World} {B : Nat} {v : Value} {vs : List Value} {ps : List Pk} (h : Packs w B v vs ps) : ∀ x, PkFoot v vs x → B ≤ x ∧ x < w.heap.size := by
  intro x hx
  rcases hx with hx | ⟨y, hy, hx⟩
  · exact h.row.lt x hx
  · obtain ⟨i, hi, e⟩ := List.getElem_of_mem hy
    exact (h.each i y (ps[i]'(by rw [← h.len]; exact hi)) (by rw [List.getElem?_eq_getElem hi, e]) (List.getElem?_eq_getElem _)).lt x hx
theorem Packs.base {w : World} {B B' : Nat} {v : Value} {vs : List Value} {ps : List Pk} (h : Packs w B v vs ps) (hb : B' ≤ B) : Packs w B' v vs ps :=
  ⟨h.len, ownsRow_base h.row hb, fun i x p h1 h2 => ownsRow_base (h.each i x p h1 h2) hb, h.pw⟩
theorem owns_type {w : World} {B B' : Nat} {e e' : TypeId} {m m' : Nat} {v v' : Value} {n n' : Nat} {xs xs' : List Value} (h : w.ownsRow B e m v n xs) (h' : w.ownsRow B' e' m' v' n' xs') (hne : e ≠ e') : ∀ x, v.ownBlock = some x → v'.ownBlock ≠ some x := by
  intro x hx hx'
  obtain ⟨_, h⟩ := h
  obtain ⟨_, h'⟩ := h'
  rcases h with ⟨rfl, _⟩ | ⟨g, cap, cur, rfl, _, h3, _⟩
  · cases hx
  rcases h' with ⟨rfl, _⟩ | ⟨g', cap', cur', rfl, _, h3', _⟩
  · cases hx'
  have e1 : g = x := Option.some.inj hx
  have e2 : g' = x := Option.some.inj hx'
  subst e1
  subst e2
  rw [h3] at h3'
  have := Option.some.inj h3'
  injection this with a b
  exact hne b
theorem Packs.snoc {w w' : World} {B : Nat} {v v' : Value} {vs : List Value} {ps : List Pk} {p : Pk} {vb : Value} (h : Packs w B v vs ps) (hb : w.ownsRow B 5 1 vb p.2.2.length (bytesV p.2.2)) (hnew : ∀ x, vb.ownBlock = some x → ∀ y ∈ vs, y.ownBlock ≠ some x)
    (hrow : w'.ownsRow B 49 3 v' (ps.length + 1) (packV ps vs ++ [.int .i64 p.1, .int .i64 p.2.1, vb])) (hg : Chg (fun x => v.ownBlock = some x) w w') : Packs w' B v' (vs ++ [vb]) (ps ++ [p]) := by
  have hT : (49 : TypeId) ≠ 5 := by decide
  refine ⟨by simp [h.len], ?_, ?_, ?_⟩
  · rw [packV_snoc ps vs p vb h.len, List.length_append]; exact hrow
  · intro i x q h1 h2
    by_cases hi : i < vs.length
    · rw [List.getElem?_append_left hi] at h1
      rw [List.getElem?_append_left (by rw [← h.len]; exact hi)] at h2
      have ho := h.each i x q h1 h2
      exact ownsRow_chg ho hg (fun b hb1 hb2 => owns_type h.row ho hT b hb2 hb1)
    · have ei : i = vs.length := by
        have := (List.getElem?_eq_some_iff.1 h1).1
        simp at this; omega
      subst ei
      rw [List.getElem?_append_right (Nat.le_refl _), Nat.sub_self] at h1
      rw [h.len, List.getElem?_append_right (Nat.le_refl _), Nat.sub_self] at h2
      simp at h1 h2
      subst h1; subst h2
      exact ownsRow_chg hb hg (fun b hb1 hb2 => owns_type h.row hb hT b hb2 hb1)
  · intro i j x y hij h1 h2 g hx hy
    have hj := (List.getElem?_eq_some_iff.1 h2).1
    simp at hj
    have hi : i < vs.length := by omega
    rw [List.getElem?_append_left hi] at h1
    by_cases hjl : j < vs.length
    · rw [List.getElem?_append_left hjl] at h2
      exact h.pw i j x y hij h1 h2 g hx hy
    · have ej : j = vs.length := by omega
      subst ej
      rw [List.getElem?_append_right (Nat.le_refl _), Nat.sub_self] at h2
      simp at h2
      subst h2
      exact hnew g hy x (List.mem_of_getElem? h1) hx
end Go.Proofs.YtchideljndagjabGreat
namespace Go.Proofs.YtchideljndagjabGreat
open Go.ChangeShapes Go.WideShapes Go.ChangeAt Go.RowKit
set_option linter.unusedVariables false
theorem size_frame3 : (Tryz.prog.info? 65).map (·.size) = some 3 := by kernel_rfl
theorem infoPk : (Tryz.prog.info? 49).map (fun i => (i.zero, i.size, i.bytes)) = some (some (.agg #[.int .i64 0, .int .i64 0, .slice none 0 0]), 3, 40) := by kernel_rfl
def frG (p : Nat → Bool) (L : Nat → List Frm.It) (rd u : Nat) : List Frm.It := if rd = 0 then keyG p L 13 else if rd = 1 then boxG p L u 13 else askG p 13
def pksG (p : Nat → Bool) (L : Nat → List Frm.It) (rd n : Nat) : List Pk := (Srv.lstN p n).map fun u : Nat => ((0 : Int), (u : Int), Frm.encF (2 * (rd : Int) + 2) 0 (frG p L rd u))
theorem pksG_succ (p : Nat → Bool) (L : Nat → List Frm.It) (rd n : Nat) : pksG p L rd (n + 1) = pksG p L rd n ++ (if p n = true then [((0 : Int), (n : Int), Frm.encF (2 * (rd : Int) + 2) 0 (frG p L rd n))] else []) := by
  unfold pksG; rw [Srv.lstN_succ, List.map_append]; split <;> rfl
theorem pksG_len (p : Nat → Bool) (L : Nat → List Frm.It) (rd n : Nat) : (pksG p L rd n).length ≤ n := by unfold pksG; rw [List.length_map]; exact Srv.lstN_le _ _
theorem row_three {w : World} {b : Nat} {T : TypeId} {x0 x1 x2 : Value} (h : w.heap[b]? = some (.cells #[x0, x1, x2] T (0, 0))) (y0 y1 y2 : Value) : (((w.setCell ⟨b, 0, none⟩ y0).setCell ⟨b, 1, none⟩ y1).setCell ⟨b, 2, none⟩ y2).heap[b]? = some (.cells #[y0, y1, y2] T (0, 0)) :=
  heap_setCell_same _ _ 2 #[y0, y1, x2] _ _ (heap_setCell_same _ _ 1 #[y0, x1, x2] _ _ (heap_setCell_same _ _ 0 _ _ _ h))
theorem below_three {B : Nat} {w0 w : World} {b : Nat} (h : Below B w0 w) (hb : B ≤ b) (y0 y1 y2 : Value) : Below B w0 (((w.setCell ⟨b, 0, none⟩ y0).setCell ⟨b, 1, none⟩ y1).setCell ⟨b, 2, none⟩ y2) :=
  ((h.setCell (p := ⟨b, 0, none⟩) hb _).setCell (p := ⟨b, 1, none⟩) hb _).setCell (p := ⟨b, 2, none⟩) hb _
theorem chg_three (w : World) (b : Nat) (y0 y1 y2 : Value) : Chg (fun x => x = b) w (((w.setCell ⟨b, 0, none⟩ y0).setCell ⟨b, 1, none⟩ y1).setCell ⟨b, 2, none⟩ y2) :=
  ((Chg.setCell w ⟨b, 0, none⟩ y0).also (Chg.setCell _ ⟨b, 1, none⟩ y1)).also (Chg.setCell _ ⟨b, 2, none⟩ y2)
set_option maxHeartbeats 2000000 in
set_option maxRecDepth 100000 in
theorem frameFor_calls (b : Nat) (S : SS) (L : Nat → List Frm.It) (rd u : Nat) (w : World) (h : SSAt w b S) (hL : ∀ v, v < 13 → ItemsAt w (S.it v) (L v)) (hrd : S.rd = (rd : Int)) (hr : rd < 3) :
    Calls Tryz.prog 250 #[.pointer (some ⟨b, 0, none⟩), .int .i64 (u : Int)] w fun e w' => ∃ va, e = .returned (.agg #[.int .i64 (2 * (rd : Int) + 2), .int .i64 0, va]) ∧ w'.ownsRow w.heap.size 147 4 va (frG S.ct L rd u).length (flat4 (frG S.ct L rd u)) ∧ Below w.heap.size w w' := by
  obtain ⟨W, hW⟩ : ∃ W, W = w.alloc (.cells #[.int .i64 0, .int .i64 0, .slice none 0 0] 65) := ⟨_, rfl⟩
  have B0 := hideG (show Below w.heap.size w W by rw [hW]; exact (Below.refl _ _).alloc (Nat.le_refl _) _)
  have R0 := hideG (show W.heap[w.heap.size]? = some (.cells #[.int .i64 0, .int .i64 0, .slice none 0 0] 65 (0, 0)) by rw [hW]; exact heap_alloc_new w _)
  have hsz : w.heap.size < W.heap.size := by rw [hW]; simp
  have HS := hideG (h.below B0.out)
  have HL := hideG (fun v hv => (hL v hv).below B0.out)
  have c5 : W.cell? ⟨b, 5, none⟩ = some (.int .i64 (rd : Int)) := by rw [← hrd]; exact HS.out.rd
  have hlt := h.lt
  have HW := hideG hW
  have HE := hideG (fun (w1 : World) (hb : Below W.heap.size W w1) => (show w1.heap[w.heap.size]? = some (.cells #[.int .i64 0, .int .i64 0, .slice none 0 0] 65 (0, 0)) from (hb.block _ hsz).trans R0.out))
  clear hW h hL
  have hd : rd = 0 ∨ rd = 1 ∨ rd = 2 := by omega
  have HF := hideG (show frG S.ct L rd u = (if rd = 0 then keyG S.ct L 13 else if rd = 1 then boxG S.ct L u 13 else askG S.ct 13) from rfl)
  have fin : ∀ (w1 : World) (va : Value) (G : List Frm.It), w1.ownsRow W.heap.size 147 4 va G.length (flat4 G) → Below W.heap.size W w1 → ∀ (k : Value),
      ((((w1.setCell ⟨w.heap.size, 0, none⟩ k).setCell ⟨w.heap.size, 1, none⟩ (.int .i64 0)).setCell ⟨w.heap.size, 2, none⟩ va).heap[w.heap.size]? = some (.cells #[k, .int .i64 0, va] 65 (0, 0))) ∧
      (((w1.setCell ⟨w.heap.size, 0, none⟩ k).setCell ⟨w.heap.size, 1, none⟩ (.int .i64 0)).setCell ⟨w.heap.size, 2, none⟩ va).ownsRow w.heap.size 147 4 va G.length (flat4 G) ∧
      Below w.heap.size w (((w1.setCell ⟨w.heap.size, 0, none⟩ k).setCell ⟨w.heap.size, 1, none⟩ (.int .i64 0)).setCell ⟨w.heap.size, 2, none⟩ va) := by
    intro w1 va G ho hb k
    refine ⟨row_three (HE.out w1 hb) _ _ _, ?_, below_three (B0.out.trans (hb.mono B0.out.size)) (Nat.le_refl _) _ _ _⟩
    refine ownsRow_base (ownsRow_chg ho (chg_three _ _ _ _ _) (fun x hx e => ?_)) B0.out.size
    have := (ho.lt x hx).1
    omega
  have FIN := hideG fin
  have YC := hideG (fun (w1 : World) (hb : Below W.heap.size W w1) => (show (w1.cell? ⟨w.heap.size, 0, none⟩ = some (.int .i64 0) ∧ w1.cell? ⟨w.heap.size, 1, none⟩ = some (.int .i64 0) ∧ w1.cell? ⟨w.heap.size, 2, none⟩ = some (.slice none 0 0)) ∧ ∀ i, w1.frozen? ⟨w.heap.size, i, none⟩ = false from
    ⟨⟨by rw [cell_of_row w1 w.heap.size 0 _ _ (0, 0) (HE.out w1 hb)]; rfl, by rw [cell_of_row w1 w.heap.size 1 _ _ (0, 0) (HE.out w1 hb)]; rfl, by rw [cell_of_row w1 w.heap.size 2 _ _ (0, 0) (HE.out w1 hb)]; rfl⟩, fun i => frozen_of_row w1 w.heap.size i _ _ (HE.out w1 hb)⟩))
  clear fin
  rcases hd with rfl | rfl | rfl
  · have C := hideG (keys_calls b S L W HS.out HL.out)
    rw [HF.out]
    go_enter Tryz.func250, Tryz.ntmps250
    go_upto_region 1 with fail
    rw [← HW.out]
    go_wp2_with fail
    refine C.out.mono ?_
    rintro e w1 ⟨va, rfl, hown, hb1⟩
    obtain ⟨a3, c3, hv3⟩ := owns_form hown
    have F1 := hideG (FIN.out w1 va _ hown hb1 (.int .i64 2))
    obtain ⟨⟨y0, y1, y2⟩, yf⟩ := YC.out w1 hb1
    clear hb1 hown
    rw [hv3] at F1 ⊢
    clear hv3
    go_wp2_with fail
    refine bodyPost_ret (results_cell_row rfl _ _ w.heap.size 65 #[.int .i64 2, .int .i64 0, _] (0, 0) _ rfl F1.out.1 Tryz.underlying65 rfl size_frame3) rfl ?_
    exact ⟨_, rfl, F1.out.2.1, F1.out.2.2⟩
  · have C := hideG (boxFor_calls b S L u W HS.out HL.out)
    rw [HF.out]
    go_enter Tryz.func250, Tryz.ntmps250
    go_upto_region 1 with fail
    rw [← HW.out]
    go_wp2_with fail
    refine C.out.mono ?_
    rintro e w1 ⟨va, rfl, hown, hb1⟩
    obtain ⟨a3, c3, hv3⟩ := owns_form hown
    have F1 := hideG (FIN.out w1 va _ hown hb1 (.int .i64 4))
    obtain ⟨⟨y0, y1, y2⟩, yf⟩ := YC.out w1 hb1
    clear hb1 hown
    rw [hv3] at F1 ⊢
    clear hv3
    go_wp2_with fail
    refine bodyPost_ret (results_cell_row rfl _ _ w.heap.size 65 #[.int .i64 4, .int .i64 0, _] (0, 0) _ rfl F1.out.1 Tryz.underlying65 rfl size_frame3) rfl ?_
    exact ⟨_, rfl, F1.out.2.1, F1.out.2.2⟩
  · have C := hideG (ask_calls b S W HS.out)
    rw [HF.out]
    go_enter Tryz.func250, Tryz.ntmps250
    go_upto_region 1 with fail
    rw [← HW.out]
    go_wp2_with fail
    refine C.out.mono ?_
    rintro e w1 ⟨va, rfl, hown, hb1⟩
    obtain ⟨a3, c3, hv3⟩ := owns_form hown
    have F1 := hideG (FIN.out w1 va _ hown hb1 (.int .i64 6))
    obtain ⟨⟨y0, y1, y2⟩, yf⟩ := YC.out w1 hb1
    clear hb1 hown
    rw [hv3] at F1 ⊢
    clear hv3
    go_wp2_with fail
    refine bodyPost_ret (results_cell_row rfl _ _ w.heap.size 65 #[.int .i64 6, .int .i64 0, _] (0, 0) _ rfl F1.out.1 Tryz.underlying65 rfl size_frame3) rfl ?_
    exact ⟨_, rfl, F1.out.2.1, F1.out.2.2⟩
set_option maxHeartbeats 2000000 in
set_option maxRecDepth 100000 in
theorem parcels_calls (b : Nat) (S : SS) (L : Nat → List Frm.It) (rd : Nat) (w : World) (h : SSAt w b S) (hL : ∀ v, v < 13 → ItemsAt w (S.it v) (L v)) (hrd : S.rd = (rd : Int)) (hr : rd < 3) (hok : ∀ u, u < 13 → S.ct u = true → Frm.okF (2 * (rd : Int) + 2) 0 (frG S.ct L rd u) = true) :
    Calls Tryz.prog 198 #[.pointer (some ⟨b, 0, none⟩)] w fun e w' => ∃ v vs, e = .returned v ∧ Packs w' w.heap.size v vs (pksG S.ct L rd 13) ∧ Below w.heap.size w w' := by
  obtain ⟨i1, hi1, hy0, hy1, hy2⟩ := info_parts infoPk
  have hbl := h.lt
  have HRG := hideG h.allct
  have LX := hideG (bl13_length S.ct)
  have HIX := hideG (ix_mem S.ct)
  have HFF := hideG (fun (w1 : World) (u : Nat) (hb : Below w.heap.size w w1) => frameFor_calls b S L rd u w1 (h.below hb) (fun v hv => (hL v hv).below hb) hrd hr)
  have HOK := hideG hok
  clear h hL hok hrd
  generalize S.ct = p at *
  obtain ⟨CS, hCS⟩ : ∃ CS, CS = bl13 p := ⟨_, rfl⟩
  rw [← hCS] at HRG LX HIX
  clear hCS
  obtain ⟨kd, hkd⟩ : ∃ kd : Int, kd = 2 * (rd : Int) + 2 := ⟨_, rfl⟩
  rw [← hkd] at HFF HOK
  have HKD := hideG hkd
  clear hkd
  go_enter Tryz.func198, Tryz.ntmps198
  go_wp2_with (refine wpList_load_mid rfl 101 _ rfl b 19 rfl CS _ HRG.out Tryz.underlying101 rfl ?z ?_)
  case z => rw [size_mem, LX.out]
  go_wp2_with fail
  go_loopw [3, 13] (fun ro i wr => ∃ (k : Nat) (vs : List Value), k ≤ 13 ∧ i = .int .i64 k ∧ Packs wr w.heap.size ro vs (pksG p L rd k) ∧ Below w.heap.size w wr) (fun _ i _ => 13 - (intOf i).toNat)
  case atStart => exact ⟨0, [], by omega, rfl, packs_nil _ _, Below.refl _ _⟩
  case round =>
    obtain ⟨k, vs, hk, rfl, hpk, hbel⟩ := hrel
    have HO := hideG hpk
    have HB := hideG hbel
    have hsz := hbel.size
    obtain ⟨a3, c3, hv3⟩ := owns_form hpk.row
    subst hv3
    clear hpk hbel
    have hl13 := pksG_len p L rd k
    have HSU := hideG (pksG_succ p L rd k)
    by_cases hlt : k < 13
    · have hlt' : (k : Int) < 13 := by omega
      have hix := HIX.out k hlt
      cases q : p k
      · rw [q] at hix
        have HS2 := hideG (show pksG p L rd (k + 1) = pksG p L rd k by rw [HSU.out, q]; simp)
        clear q
        go_wp2_with fail
        go_roundw
        case rel => exact ⟨k + 1, vs, by omega, by go_num, by rw [HS2.out]; exact HO.out, HB.out⟩
        case measure => simp [intOf]; omega
      · rw [q] at hix
        have OK := hideG (HOK.out k hlt q)
        have HS2 := hideG (show pksG p L rd (k + 1) = pksG p L rd k ++ [((0 : Int), (k : Int), Frm.encF kd 0 (frG p L rd k))] by rw [HSU.out, q, HKD.out]; simp)
        clear q
        obtain ⟨G, hG⟩ : ∃ G, G = frG p L rd k := ⟨_, rfl⟩
        have FF := hideG (HFF.out wr k HB.out)
        rw [← hG] at OK HS2 FF
        clear hG
        go_wp2_with fail
        refine FF.out.mono ?_
        rintro e w1 ⟨va, rfl, hown, hb1⟩
        have s1 := hb1.size
        obtain ⟨a4, c4, hv4⟩ := owns_form hown
        subst hv4
        have I1 := hideG (itemsAt_of_owns hown (okF_in OK.out))
        have B1 := hideG (HB.out.trans (hb1.mono HB.out.size))
        have O1 := hideG (HO.out.below hb1)
        clear hb1 hown
        obtain ⟨W1, hW1⟩ : ∃ W1, W1 = w1.alloc (.cells #[.int .i64 kd, .int .i64 0, .slice a4 G.length c4] 65) := ⟨_, rfl⟩
        have sW : W1.heap.size = w1.heap.size + 1 := by rw [hW1]; simp
        have x0 : W1.cell? ⟨w1.heap.size, 0, none⟩ = some (.int .i64 kd) := by rw [hW1]; simp
        have x1 : W1.cell? ⟨w1.heap.size, 1, none⟩ = some (.int .i64 0) := by rw [hW1]; simp
        have x2 : W1.cell? ⟨w1.heap.size, 2, none⟩ = some (.slice a4 G.length c4) := by rw [hW1]; simp
        have bA : Below w1.heap.size w1 W1 := by rw [hW1]; exact (Below.refl _ _).alloc (Nat.le_refl _) _
        have B2 := hideG (B1.out.trans (bA.mono B1.out.size))
        have O2 := hideG (O1.out.below bA)
        have EN := hideG (encode_yes kd 0 _ G W1 (I1.out.below bA) OK.out)
        have sW' : w.heap.size ≤ W1.heap.size := B2.out.size
        have HW1 := hideG hW1
        clear hW1 bA sW
        go_upto_region 7 with fail
        rw [← HW1.out]
        go_wp2_with fail
        refine EN.out.mono ?_
        rintro e w2 ⟨vb, rfl, hob, hb2⟩
        have s2 := hb2.size
        obtain ⟨a5, c5, hv5⟩ := owns_form hob
        subst hv5
        have B3 := hideG (B2.out.trans (hb2.mono B2.out.size))
        have O3 := hideG (O2.out.below hb2)
        have HOB := hideG hob
        have NEW := hideG (fun x (hx : (Value.slice a5 (Frm.encF kd 0 G).length c5).ownBlock = some x) y (hy : y ∈ vs) (e : y.ownBlock = some x) => (show False by
          have q1 := (hob.lt x hx).1
          have q2 := (O2.out.low x (.inr ⟨y, hy, e⟩)).2
          omega))
        have BAS := hideG (ownsRow_base hob sW')
        have h10 : (Frm.encF kd 0 G).length ≤ 303 := by
          have q1 := (Frm.okF_parts OK.out).1
          have q2 := Frm.wid_le kd
          rw [Frm.encF_length]; unfold Frm.size
          have : G.length * (1 + 8 * Frm.wid kd) ≤ 12 * 25 := Nat.mul_le_mul q1 (by omega)
          omega
        clear hb2 hob x0 x1 x2
        generalize Frm.encF kd 0 G = bs at *
        go_wp2_with (at_builtin; refine wpList_append_own _ rfl _ _ 41 rfl w.heap.size 49 i1 (.agg #[.int .i64 0, .int .i64 0, .slice none 0 0]) 3 40 Tryz.underlying41 hi1 hy0 hy1 hy2 rfl (by decide) _ _ _ rfl (O3.out.row.alloc _) ⟨w2.heap.size, 0, none⟩ 1 1 [.int .i64 0, .int .i64 k, .slice a5 bs.length c5] rfl rfl ?c1 ?c2 ?c3 ?c4 ?c5 ?_)
        case c1 => exact cell_three_new _ _ _ _ _
        case c2 => intro u hu; simp at hu; rcases hu with rfl | rfl | rfl <;> rfl
        case c3 => unfold maxLen; omega
        case c4 => omega
        case c5 => simp; omega
        intro v' w4 hown' hgrow' _
        have hb4 := (B3.out.alloc (by omega) _).grown hgrow' (by simp; omega) (fun y hy => (O3.out.row.lt y hy).1)
        have B4 := hideG hb4
        have hal : Below w2.heap.size w2 (w2.alloc (.cells #[.int .i64 0, .int .i64 k, .slice a5 bs.length c5] 49)) := (Below.refl _ _).alloc (Nat.le_refl _) _
        have O4 := hideG (show Packs w4 w.heap.size v' (vs ++ [.slice a5 bs.length c5]) (pksG p L rd (k + 1)) by
          rw [HS2.out]
          exact (O3.out.below hal).snoc (p := ((0 : Int), (k : Int), bs)) (ownsRow_chg (S := fun _ => False) BAS.out (Chg.of_below hal) (fun _ _ h => h)) (fun x hx y hy e => NEW.out x hx y hy e) hown' (Chg.grown hgrow'))
        clear hown' hgrow' hb4 hal
        go_wp2_with fail
        go_roundw
        case rel => exact ⟨k + 1, _, by omega, by go_num, O4.out, B4.out⟩
        case measure => simp [intOf]; omega
    · have ek : k = 13 := by omega
      subst ek
      go_wp2_with fail
      go_ret
      exact ⟨_, vs, rfl, HO.out, HB.out⟩
end Go.Proofs.YtchideljndagjabGreat
