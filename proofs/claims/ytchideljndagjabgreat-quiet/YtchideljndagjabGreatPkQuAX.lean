/- Contracts of the program's server: all masks that are left; the sum without them; finish. -/
import Derived.Test.YtchideljndagjabGreatPkQuAV
import Derived.Test.YtchideljndagjabGreatPkQuAW
import Derived.Test.YtchideljndagjabGreatPkQuAH
import Derived.Test.YtchideljndagjabGreatPkQuAG
namespace Go.Proofs.YtchideljndagjabGreat
open Go.ChangeShapes Go.WideShapes Go.ChangeAt Go.RowKit
set_option linter.unusedVariables false

def allG (sn sh : Nat → Bool) (pb : Nat → Int) (sec : Nat → Int) (n : Nat) : List (Int × Bool) := ((Srv.lstN sh n).map fun v => withG sn pb v (sec v)).flatten
theorem allG_succ (sn sh : Nat → Bool) (pb : Nat → Int) (sec : Nat → Int) (n : Nat) : allG sn sh pb sec (n + 1) = allG sn sh pb sec n ++ (if sh n = true then withG sn pb n (sec n) else []) := by
  unfold allG; rw [Srv.lstN_succ, List.map_append, List.flatten_append]; split <;> simp
theorem withG_len (sn : Nat → Bool) (pb : Nat → Int) (v : Nat) (sec : Int) : (withG sn pb v sec).length ≤ 13 := by
  unfold withG; split
  · simp
  · exact mwG_len _ _ _ _ _
theorem withG_pos (sn : Nat → Bool) (pb : Nat → Int) (v : Nat) (sec : Int) (h : Srv.lst sn ≠ []) : 0 < (withG sn pb v sec).length := by
  unfold withG; split
  · simp
  · unfold mwG; rw [List.length_map]; exact List.length_pos_iff.2 h
theorem allG_len (sn sh : Nat → Bool) (pb : Nat → Int) (sec : Nat → Int) : ∀ n, (allG sn sh pb sec n).length ≤ n * 13
  | 0 => by simp [allG, Srv.lstN]
  | n + 1 => by
    have h1 := allG_len sn sh pb sec n
    have h2 := withG_len sn pb n (sec n)
    rw [allG_succ, List.length_append]
    split
    · omega
    · simp; omega
theorem mkV_one (l : List (Int × Bool)) : ∀ v ∈ flatV (l.map mkV), v.oneCell' = true := by
  intro v hv
  unfold flatV at hv
  obtain ⟨x, hx, hv⟩ := List.mem_flatten.1 hv
  obtain ⟨p, hp, rfl⟩ := List.mem_map.1 hx
  obtain ⟨q, hq, rfl⟩ := List.mem_map.1 hp
  simp only [List.mem_cons, List.not_mem_nil, or_false] at hv
  rcases hv with rfl | rfl <;> rfl

theorem addr_zero (g j : Nat) : (⟨g, 0, none⟩ : Addr).add j = ⟨g, j, none⟩ := by
  cases j with
  | zero => simp [Addr.add]
  | succ j => simp [Addr.add]

set_option maxHeartbeats 2000000 in
set_option maxRecDepth 100000 in
theorem smasks_calls (b : Nat) (S : SS) (L : Nat → List Frm.It) (w : World) (h : SSAt w b S) (hL : ∀ v, v < 13 → ItemsAt w (S.it v) (L v)) (hp : ∀ v, v < 13 → S.sh v = true → ptsB (tellG S.ct L v 13) = true) (hne : Srv.lst S.sn ≠ []) (hpb : ∀ u, u < 13 → 0 ≤ S.pb u ∧ S.pb u < 2305843009213693951) :
    Calls Tryz.prog 284 #[.pointer (some ⟨b, 0, none⟩)] w fun e w' => ∃ va, e = .returned va ∧ w'.ownsRow w.heap.size 292 2 va (allG S.sn S.sh S.pb (fun v => Lag.joinN (tellG S.ct L v 13)) 13).length (flatV ((allG S.sn S.sh S.pb (fun v => Lag.joinN (tellG S.ct L v 13)) 13).map mkV)) ∧ Below w.heap.size w w' := by
  obtain ⟨i1, hi1, hy0, hy1, hy2⟩ := info_parts infoMs
  have hbl := h.lt
  have HRG := hideG h.allsh
  have LX := hideG (bl13_length S.sh)
  have HIX := hideG (ix_mem S.sh)
  have HSE := hideG (fun (w1 : World) (k : Nat) (hk : k < 13) (hq : S.sh k = true) (hb : Below w.heap.size w w1) => secretOf_calls b S L k w1 (h.below hb) (fun v hv => (hL v hv).below hb) (hp k hk hq))
  have HMW := hideG (fun (w1 : World) (k : Nat) (hk : k < 13) (hb : Below w.heap.size w w1) => masksWith_calls b S k (Lag.joinN (tellG S.ct L k 13)) w1 (h.below hb) hk (Lag.joinN_lo _) (Lag.joinN_hi _) hpb)
  have HPO := hideG (fun (k : Nat) => withG_pos S.sn S.pb k (Lag.joinN (tellG S.ct L k 13)) hne)
  clear h hL hp hne hpb
  obtain ⟨sec, hsec⟩ : ∃ sec : Nat → Int, sec = fun v => Lag.joinN (tellG S.ct L v 13) := ⟨_, rfl⟩
  have e1 : ∀ k, Lag.joinN (tellG S.ct L k 13) = sec k := fun k => by rw [hsec]
  simp only [e1] at HSE HMW HPO ⊢
  clear hsec e1
  generalize S.sn = sn at *
  generalize S.pb = pb at *
  generalize S.sh = p at *
  obtain ⟨CS, hCS⟩ : ∃ CS, CS = bl13 p := ⟨_, rfl⟩
  rw [← hCS] at HRG LX HIX
  clear hCS
  go_enter Tryz.func284, Tryz.ntmps284
  go_wp2_with (refine wpList_load_mid rfl 101 _ rfl b 58 rfl CS _ HRG.out Tryz.underlying101 rfl ?z ?_)
  case z => rw [size_mem, LX.out]
  go_wp2_with fail
  go_loopw [3, 12] (fun ro i wr => ∃ k : Nat, k ≤ 13 ∧ i = .int .i64 k ∧ wr.ownsRow w.heap.size 292 2 ro (allG sn p pb sec k).length (flatV ((allG sn p pb sec k).map mkV)) ∧ Below w.heap.size w wr) (fun _ i _ => 13 - (intOf i).toNat)
  case atStart => exact ⟨0, by omega, rfl, World.ownsRow_nil _ _ _ _, Below.refl _ _⟩
  case round =>
    obtain ⟨k, hk, rfl, hown, hbel⟩ := hrel
    have HO := hideG hown
    have HB := hideG hbel
    have hsz := hbel.size
    obtain ⟨a3, c3, hv3⟩ := owns_form hown
    subst hv3
    clear hown hbel
    have hl13 : (allG sn p pb sec k).length ≤ 169 := by have := allG_len sn p pb sec k; omega
    have HSU := hideG (allG_succ sn p pb sec k)
    by_cases hlt : k < 13
    · have hlt' : (k : Int) < 13 := by omega
      have hix := HIX.out k hlt
      cases q : p k
      · rw [q] at hix
        have HS2 := hideG (show allG sn p pb sec (k + 1) = allG sn p pb sec k by rw [HSU.out, q]; simp)
        clear q
        go_wp2_with fail
        go_roundw
        case rel => exact ⟨k + 1, by omega, by go_num, by rw [HS2.out]; exact HO.out, HB.out⟩
        case measure => simp [intOf]; omega
      · rw [q] at hix
        have HS2 := hideG (show allG sn p pb sec (k + 1) = allG sn p pb sec k ++ withG sn pb k (sec k) by rw [HSU.out, q]; simp)
        have SE := hideG (HSE.out wr k hlt q HB.out)
        clear q
        go_wp2_with fail
        refine SE.out.mono ?_
        rintro e w1 ⟨rfl, hb1⟩
        have B1 := hideG (HB.out.trans (hb1.mono HB.out.size))
        have O1 := hideG (ownsRow_chg (S := fun _ => False) HO.out (Chg.of_below hb1) (fun _ _ h => h))
        clear hb1
        have MW := hideG (HMW.out w1 k hlt B1.out)
        go_wp2_with fail
        refine MW.out.mono ?_
        rintro e w2 ⟨va, rfl, hva, hb2⟩
        have s2 := hb2.size
        have B2 := hideG (B1.out.trans (hb2.mono B1.out.size))
        have O2 := hideG (ownsRow_chg (S := fun _ => False) O1.out (Chg.of_below hb2) (fun _ _ h => h))
        have wl := withG_len sn pb k (sec k)
        obtain ⟨g, cap, hvv, _, hgl, hc1, hc2, hcc⟩ := owns_cells hva (HPO.out k)
        subst hvv
        have HCC := hideG hcc
        have HL2 := hideG (show (flatV ((withG sn pb k (sec k)).map mkV)).length = (withG sn pb k (sec k)).length * 2 by rw [flatV_length, List.length_map])
        have HO2 := hideG (mkV_one (withG sn pb k (sec k)))
        clear hb2 hva hcc
        have sB := B2.out.size
        generalize withG sn pb k (sec k) = lf at *
        go_wp2_with (at_builtin; refine wpList_append_own _ rfl _ _ 285 rfl w.heap.size 292 i1 (.agg #[.int .i64 0, .bool false]) 2 16 Tryz.underlying285 hi1 hy0 hy1 hy2 rfl (by decide) _ _ _ rfl O2.out ⟨g, 0, none⟩ lf.length cap (flatV (lf.map mkV)) rfl HL2.out ?c1 HO2.out ?c3 ?c4 ?c5 ?_)
        case c1 => intro j u hu; rw [addr_zero]; exact HCC.out j u hu
        case c3 => unfold maxLen; omega
        case c4 => omega
        case c5 => omega
        intro v' w4 hown' hgrow' _
        have hb4 := B2.out.grown hgrow' sB (fun y hy => (O2.out.lt y hy).1)
        have B4 := hideG hb4
        have O4 := hideG (show w4.ownsRow w.heap.size 292 2 v' (allG sn p pb sec (k + 1)).length (flatV ((allG sn p pb sec (k + 1)).map mkV)) by
          rw [HS2.out, List.map_append, flatV_append, List.length_append]; exact hown')
        clear hown' hgrow' hb4
        go_wp2_with fail
        go_roundw
        case rel => exact ⟨k + 1, by omega, by go_num, O4.out, B4.out⟩
        case measure => simp [intOf]; omega
    · have ek : k = 13 := by omega
      subst ek
      go_wp2_with fail
      go_ret
      exact ⟨_, rfl, HO.out, HB.out⟩

def MsAt (w : World) (v : Value) (ms : List (Int × Bool)) : Prop :=
  ∃ (a : Option Addr) (cap : Nat), v = .slice a ms.length cap ∧ ms.length ≤ cap ∧ cap ≤ 9223372036854775807 ∧
    ∀ i, i < ms.length → ∃ b off, a = some ⟨b, off, none⟩ ∧ b < w.heap.size ∧ w.cell? ⟨b, off + i * 2, none⟩ = some (.int .i64 (ms.getD i (0, false)).1) ∧ w.cell? ⟨b, off + i * 2 + 1, none⟩ = some (.bool (ms.getD i (0, false)).2)
theorem MsAt.below {w w' : World} {v : Value} {ms : List (Int × Bool)} (h : MsAt w v ms) (hb : Below w.heap.size w w') : MsAt w' v ms := by
  obtain ⟨a, cap, h1, h2, h3, h4⟩ := h
  refine ⟨a, cap, h1, h2, h3, fun i hi => ?_⟩
  obtain ⟨b, off, e1, e2, e3, e4⟩ := h4 i hi
  exact ⟨b, off, e1, Nat.lt_of_lt_of_le e2 hb.size, (hb.cell (p := ⟨b, off + i * 2, none⟩) e2).trans e3, (hb.cell (p := ⟨b, off + i * 2 + 1, none⟩) e2).trans e4⟩
theorem msAt_owns {w : World} {B : Nat} {v : Value} {ms : List (Int × Bool)} (h : w.ownsRow B 292 2 v ms.length (flatV (ms.map mkV))) : MsAt w v ms := by
  by_cases hn : 0 < ms.length
  · obtain ⟨g, cap, hv, hb, hl, h3, h4, hc⟩ := owns_cells h hn
    refine ⟨_, _, hv, h3, by unfold maxLen at h4; omega, fun i hi => ⟨g, 0, rfl, hl, ?_⟩⟩
    have e : (ms.map mkV)[i]? = some (mkV ms[i]) := by rw [List.getElem?_map, List.getElem?_eq_getElem hi]; rfl
    have eg : ms.getD i (0, false) = ms[i] := by rw [List.getD_eq_getElem?_getD, List.getElem?_eq_getElem hi]; rfl
    obtain ⟨e1, e2⟩ := flatV_get _ i _ e
    rw [eg, Nat.zero_add]
    exact ⟨hc _ _ e1, hc _ _ e2⟩
  · obtain ⟨a, cap, e⟩ := owns_form h
    obtain ⟨_, h2⟩ := h
    rcases h2 with ⟨h2, h3⟩ | ⟨g, cap', cur, hv, _, _, h3, h4, _⟩
    · exact ⟨none, 0, by rw [h2, h3], by omega, by omega, fun i hi => by omega⟩
    · exact ⟨_, cap', hv, h3, by unfold maxLen at h4; omega, fun i hi => by omega⟩
theorem offN_take (ms : List (Int × Bool)) (i k : Nat) (hk : k < ms.length) : Srv.offN (ms.take (k + 1)) i = Srv.offN (ms.take k) i + Srv.offI i (ms.getD k (0, false)) := by
  have e : ms.take (k + 1) = ms.take k ++ [ms.getD k (0, false)] := by rw [List.take_succ_eq_append_getElem hk, List.getD_eq_getElem?_getD, List.getElem?_eq_getElem hk]; rfl
  rw [e, Srv.offN_app]; simp [Srv.offN]

set_option maxHeartbeats 1000000 in
set_option maxRecDepth 100000 in
theorem takenOff_calls (v : Value) (ms : List (Int × Bool)) (i : Nat) (w : World) (h : MsAt w v ms) (hl : ms.length ≤ 169) (hi : i ≤ 12) (hel : ∀ k, k < ms.length → 0 ≤ (ms.getD k (0, false)).1 ∧ (ms.getD k (0, false)).1 < 2305843009213693951) :
    Calls Tryz.prog 285 #[v, .int .i64 ((i : Int) + 1)] w fun e w' => e = .returned (.int .i64 (Srv.offN ms i)) ∧ Below w.heap.size w w' := by
  obtain ⟨a, cap, rfl, h2, h3, hc⟩ := h
  have HC := hideG hc
  have HEL := hideG hel
  have HTK := hideG (offN_take ms i)
  have HBD := hideG (fun k => Srv.offN_bd i (ms.take k))
  have HTL := hideG (show ms.take ms.length = ms from List.take_length)
  have HLT := hideG (fun k => (show (ms.take k).length ≤ 169 by rw [List.length_take]; omega))
  clear hc hel
  generalize ms.length = n at *
  go_enter Tryz.func285, Tryz.ntmps285
  go_wp2_with fail
  go_loopw [5, 10] (fun x j wr => ∃ k : Nat, k ≤ n ∧ j = .int .i64 (k : Int) ∧ x = .int .i64 (Srv.offN (ms.take k) i) ∧ Below w.heap.size w wr) (fun _ j _ => n - (intOf j).toNat)
  case atStart => exact ⟨0, Nat.zero_le _, rfl, rfl, Below.refl _ _⟩
  case round =>
    obtain ⟨k, hk, rfl, rfl, hbel⟩ := hrel
    have HB := hideG hbel
    have hsz := hbel.size
    clear hbel
    have bd := HBD.out k
    have lt := HLT.out k
    by_cases hlt : k < n
    · obtain ⟨b', off, rfl, hb, d0, d1⟩ := HC.out k hlt
      have d0' := (HB.out.cell (p := ⟨b', off + k * 2, none⟩) hb).trans d0
      have d1' := (HB.out.cell (p := ⟨b', off + k * 2 + 1, none⟩) hb).trans d1
      clear d0 d1
      obtain ⟨el1, el2⟩ := HEL.out k hlt
      have HT := hideG (HTK.out k hlt)
      obtain ⟨t, ht⟩ : ∃ t, t = Srv.offN (ms.take k) i := ⟨_, rfl⟩
      have tb : 0 ≤ t ∧ t ≤ 725849473024 := by rw [ht]; omega
      rw [← ht] at HT ⊢
      clear ht bd lt
      obtain ⟨tb1, tb2⟩ := tb
      obtain ⟨sd, ad, hm⟩ : ∃ sd ad, ms.getD k (0, false) = (sd, ad) := ⟨_, _, rfl⟩
      rw [hm] at d0' d1' el1 el2 HT
      clear hm
      have MN := hideG (fun (w1 : World) => maskNumber_calls sd i w1 el1 el2 hi)
      obtain ⟨sr1, sr2⟩ := Cli.strAt_range sd i
      have HT2 := hideG (show Srv.offI i (sd, ad) = if ad = true then 4294967296 - Num.strAt sd i else Num.strAt sd i from rfl)
      obtain ⟨m, hmm⟩ : ∃ m, m = Num.strAt sd i := ⟨_, rfl⟩
      rw [← hmm] at MN sr1 sr2 HT2
      clear hmm
      have B1 := hideG (HB.out.alloc (by omega) (.cells #[.int .i64 sd, .bool ad] 292))
      cases ad
      · have HT3 := hideG (show Srv.offN (ms.take (k + 1)) i = t + m by rw [HT.out, HT2.out]; simp)
        go_wp2_with fail
        refine (MN.out _).mono ?_
        rintro e w2 ⟨rfl, rfl⟩
        go_wp2_with fail
        go_roundw
        case rel => exact ⟨k + 1, by omega, by go_num, by rw [HT3.out], B1.out⟩
        case measure => simp [intOf]; omega
      · have HT3 := hideG (show Srv.offN (ms.take (k + 1)) i = t + 4294967296 - m by rw [HT.out, HT2.out]; simp; omega)
        go_wp2_with fail
        refine (MN.out _).mono ?_
        rintro e w2 ⟨rfl, rfl⟩
        go_wp2_with fail
        go_roundw
        case rel => exact ⟨k + 1, by omega, by go_num, by rw [HT3.out], B1.out⟩
        case measure => simp [intOf]; omega
    · have ek : k = n := by omega
      subst ek
      go_wp2_with fail
      go_ret
      exact ⟨ret_i64 (by rw [HTL.out]), HB.out⟩

end Go.Proofs.YtchideljndagjabGreat

namespace Go.Proofs.YtchideljndagjabGreat
open Go.ChangeShapes Go.WideShapes Go.ChangeAt Go.RowKit
set_option linter.unusedVariables false

def unG (zs : List Int) (ms : List (Int × Bool)) (n : Nat) : List Int := (List.range n).map fun i => (zs.getD i 0 + Srv.offN ms i) % 4294967296
theorem unG_succ (zs : List Int) (ms : List (Int × Bool)) (n : Nat) : unG zs ms (n + 1) = unG zs ms n ++ [(zs.getD n 0 + Srv.offN ms n) % 4294967296] := by unfold unG; rw [List.range_succ, List.map_append]; rfl
theorem withG_el (sn : Nat → Bool) (pb : Nat → Int) (v : Nat) (sec : Int) (h : 0 ≤ sec ∧ sec < 2305843009213693951) : ∀ m ∈ withG sn pb v sec, 0 ≤ m.1 ∧ m.1 < 2305843009213693951 := by
  intro m hm
  unfold withG at hm
  split at hm
  · simp at hm; subst hm; exact h
  · unfold mwG at hm
    obtain ⟨u, _, rfl⟩ := List.mem_map.1 hm
    exact ⟨Num.powP_lo _ _, Num.powP_hi _ _⟩
theorem allG_el (sn sh : Nat → Bool) (pb : Nat → Int) (sec : Nat → Int) (h : ∀ v, 0 ≤ sec v ∧ sec v < 2305843009213693951) (n : Nat) : ∀ k, k < (allG sn sh pb sec n).length → 0 ≤ ((allG sn sh pb sec n).getD k (0, false)).1 ∧ ((allG sn sh pb sec n).getD k (0, false)).1 < 2305843009213693951 := by
  intro k hk
  rw [List.getD_eq_getElem?_getD, List.getElem?_eq_getElem hk]
  have hm : (allG sn sh pb sec n)[k] ∈ allG sn sh pb sec n := List.getElem_mem hk
  unfold allG at hm
  obtain ⟨l, hl, hm⟩ := List.mem_flatten.1 hm
  obtain ⟨v, _, rfl⟩ := List.mem_map.1 hl
  exact withG_el sn pb v (sec v) (h v) _ hm

set_option maxHeartbeats 2000000 in
set_option maxRecDepth 100000 in
theorem unmasked_calls (b : Nat) (S : SS) (L : Nat → List Frm.It) (zs : List Int) (w : World) (h : SSAt w b S) (hL : ∀ v, v < 13 → ItemsAt w (S.it v) (L v)) (hp : ∀ v, v < 13 → S.sh v = true → ptsB (tellG S.ct L v 13) = true) (hne : Srv.lst S.sn ≠ []) (hpb : ∀ u, u < 13 → 0 ≤ S.pb u ∧ S.pb u < 2305843009213693951)
    (hml : ListAt w S.ml zs) (hz : ∀ z ∈ zs, 0 ≤ z ∧ z < 4294967296) (hn : zs.length ≤ 12) :
    Calls Tryz.prog 249 #[.pointer (some ⟨b, 0, none⟩)] w fun e w' => ∃ va, e = .returned va ∧ w'.ownsRow w.heap.size 3 1 va zs.length ((unG zs (allG S.sn S.sh S.pb (fun v => Lag.joinN (tellG S.ct L v 13)) 13) zs.length).map (Value.int .i64)) ∧ Below w.heap.size w w' := by
  obtain ⟨i0, hi, hz0, hz1, hz2⟩ := info_parts infoIn
  have hbl := h.lt
  have MC := hideG (smasks_calls b S L w h hL hp hne hpb)
  have HEL := hideG (allG_el S.sn S.sh S.pb (fun v => Lag.joinN (tellG S.ct L v 13)) (fun v => ⟨Lag.joinN_lo _, Lag.joinN_hi _⟩) 13)
  have HAL := hideG (show (allG S.sn S.sh S.pb (fun v => Lag.joinN (tellG S.ct L v 13)) 13).length ≤ 169 from allG_len _ _ _ _ 13)
  obtain ⟨a1, c1, hv1, l1, l2, hcl⟩ := list_view hml
  have HC7 := hideG (fun (w1 : World) (hb : Below w.heap.size w w1) => (show w1.cell? ⟨b, 71, none⟩ = some (.slice a1 zs.length c1) by rw [← hv1]; exact (h.below hb).ml))
  have HC := hideG hcl
  have HZ := hideG (fun k (hk : k < zs.length) => hz (zs.getD k 0) (by rw [List.getD_eq_getElem?_getD, List.getElem?_eq_getElem hk]; exact List.getElem_mem hk))
  clear h hL hp hne hpb hml hz hv1 hcl
  generalize allG S.sn S.sh S.pb (fun v => Lag.joinN (tellG S.ct L v 13)) 13 = ms at *
  have HSU := hideG (unG_succ zs ms)
  generalize zs.length = n at *
  go_enter Tryz.func249, Tryz.ntmps249
  go_wp2_with fail
  refine MC.out.mono ?_
  rintro e w0 ⟨vm, rfl, hvm, hb0⟩
  have s0 := hb0.size
  obtain ⟨am, cm, hmv⟩ := owns_form hvm
  have HMS := hideG (msAt_owns hvm)
  subst hmv
  have c71 := HC7.out w0 hb0
  have B0 := hideG hb0
  clear hvm hb0
  have HTO := hideG (fun (w1 : World) (k : Nat) (hk : k ≤ 12) (hb : Below w0.heap.size w0 w1) => takenOff_calls _ ms k w1 (HMS.out.below hb) HAL.out hk HEL.out)
  have HBD := hideG (fun k => Srv.offN_bd k ms)
  have HML := hideG HAL.out
  go_wp2_with fail
  go_loopw [4, 15] (fun ro j wr => ∃ k : Nat, k ≤ n ∧ j = .int .i64 (k : Int) ∧ wr.ownsRow w0.heap.size 3 1 ro k ((unG zs ms k).map (Value.int .i64)) ∧ Below w0.heap.size w0 wr ∧ Below w.heap.size w wr) (fun _ j _ => n - (intOf j).toNat)
  case atStart => exact ⟨0, Nat.zero_le _, rfl, World.ownsRow_nil _ _ _ _, Below.refl _ _, B0.out⟩
  case round =>
    obtain ⟨k, hk, rfl, hown, hbel, hbw⟩ := hrel
    have HO := hideG hown
    have HB := hideG hbel
    have HBW := hideG hbw
    have hsz := hbel.size
    have hszw := hbw.size
    obtain ⟨a3, c3, hv3⟩ := owns_form hown
    subst hv3
    clear hown hbel hbw
    by_cases hlt : k < n
    · obtain ⟨b', off, hbe, d0⟩ := HC.out k hlt
      subst hbe
      have hb : b' < w.heap.size := World.block_lt_of_cell? w ⟨b', off + k, none⟩ d0
      have d0' := (HBW.out.cell (p := ⟨b', off + k, none⟩) hb).trans d0
      clear d0
      obtain ⟨z1, z2⟩ := HZ.out k hlt
      have HS2 := hideG (HSU.out k)
      have TO := hideG (HTO.out wr k (by omega) HB.out)
      obtain ⟨q1, q2⟩ := HBD.out k
      have q3 : Srv.offN ms k ≤ 725849473024 := by have := HML.out; omega
      obtain ⟨t, ht⟩ : ∃ t, t = Srv.offN ms k := ⟨_, rfl⟩
      rw [← ht] at TO q1 q3 HS2
      clear ht q2
      obtain ⟨z, hzz⟩ : ∃ z, z = zs.getD k 0 := ⟨_, rfl⟩
      rw [← hzz] at d0' z1 z2 HS2
      clear hzz
      go_wp2_with fail
      refine TO.out.mono ?_
      rintro e w1 ⟨rfl, hb1⟩
      have s1 := hb1.size
      have B1 := hideG (HB.out.trans (hb1.mono HB.out.size))
      have BW1 := hideG (HBW.out.trans (hb1.mono HBW.out.size))
      have O1 := hideG (ownsRow_chg (S := fun _ => False) HO.out (Chg.of_below hb1) (fun _ _ h => h))
      clear hb1
      obtain ⟨R, hR⟩ : ∃ R, R = (z + t) % 4294967296 := ⟨_, rfl⟩
      have hR' : (z + t) % 4294967296 = R := hR.symm
      have HRR := hideG hR'
      clear hR
      go_wp2_with (at_builtin; refine wpList_append_own _ rfl _ _ 33 rfl w0.heap.size 3 i0 (.int .i64 0) 1 8 Tryz.underlying33 hi hz0 hz1 hz2 rfl (by decide) _ _ _ rfl (O1.out.alloc _) ⟨w1.heap.size, 0, none⟩ 1 1 [.int .i64 R] rfl rfl ?c1 ?c2 ?c3 ?c4 ?c5 ?_)
      case c1 => exact cell_one_new _ _ _
      case c2 => intro u hu; simp at hu; subst hu; rfl
      case c3 => unfold maxLen; omega
      case c4 => omega
      case c5 => simp; omega
      intro v' w2 hown' hgrow' _
      have hb2 := (BW1.out.alloc (by omega) _).grown hgrow' (by simp; omega) (fun x h => Nat.le_trans s0 (O1.out.lt x h).1)
      have hb3 : Below w0.heap.size w0 w2 := (B1.out.alloc (by omega) _).grown hgrow' (by simp; omega) (fun x h => (O1.out.lt x h).1)
      have BW2 := hideG hb2
      have B2 := hideG hb3
      have O2 := hideG (show w2.ownsRow w0.heap.size 3 1 v' (k + 1) ((unG zs ms (k + 1)).map (Value.int .i64)) by
        rw [HS2.out, List.map_append, HRR.out]; exact hown')
      clear hown' hgrow' hb2 hb3
      go_wp2_with fail
      go_roundw
      case rel => exact ⟨k + 1, by omega, by go_num, O2.out, B2.out, BW2.out⟩
      case measure => simp [intOf]; omega
    · have ek : k = n := by omega
      subst ek
      go_wp2_with fail
      go_ret
      exact ⟨_, rfl, ownsRow_base HO.out s0, HBW.out⟩

end Go.Proofs.YtchideljndagjabGreat

namespace Go.Proofs.YtchideljndagjabGreat
open Go.ChangeShapes Go.WideShapes Go.ChangeAt Go.RowKit
set_option linter.unusedVariables false

set_option maxHeartbeats 2000000 in
set_option maxRecDepth 100000 in
theorem finish_calls (b : Nat) (S : SS) (L : Nat → List Frm.It) (zs : List Int) (w : World) (h : SSAt w b S) (hL : ∀ v, v < 13 → ItemsAt w (S.it v) (L v)) (hp : ∀ v, v < 13 → S.sh v = true → ptsB (tellG S.ct L v 13) = true) (hne : Srv.lst S.sn ≠ []) (hpb : ∀ u, u < 13 → 0 ≤ S.pb u ∧ S.pb u < 2305843009213693951)
    (hml : ListAt w S.ml zs) (hz : ∀ z ∈ zs, 0 ≤ z ∧ z < 4294967296) (hn : zs.length ≤ 12) :
    Calls Tryz.prog 197 #[.pointer (some ⟨b, 0, none⟩)] w fun e w' => e = .returned (.tuple #[]) ∧ ∃ va vb, w'.ownsRow w.heap.size 3 1 va (Srv.lst S.sn).length (natsV (Srv.lst S.sn)) ∧
      w'.ownsRow w.heap.size 3 1 vb zs.length ((unG zs (allG S.sn S.sh S.pb (fun v => Lag.joinN (tellG S.ct L v 13)) 13) zs.length).map (Value.int .i64)) ∧ SSAt w' b (overS 1 0 va vb) ∧ Turn w w' b := by
  have hbl := h.lt
  have HRG := hideG h.allsn
  have LX := hideG (bl13_length S.sn)
  have HLI := hideG (listed_calls S.sn w)
  have HUN := hideG (fun (w1 : World) (hb : Below w.heap.size w w1) => unmasked_calls b S L zs w1 (h.below hb) (fun v hv => (hL v hv).below hb) hp hne hpb (hml.below hb) hz hn)
  have HS := hideG (fun (w1 : World) (hb : Below w.heap.size w w1) => h.below hb)
  clear h hL hp hne hpb hml hz
  obtain ⟨us, hus⟩ : ∃ us, us = unG zs (allG S.sn S.sh S.pb (fun v => Lag.joinN (tellG S.ct L v 13)) 13) zs.length := ⟨_, rfl⟩
  rw [← hus] at HUN ⊢
  clear hus
  unfold memV at HLI
  obtain ⟨ls, hls⟩ : ∃ ls, ls = Srv.lst S.sn := ⟨_, rfl⟩
  rw [← hls] at HLI ⊢
  clear hls
  obtain ⟨CS, hCS⟩ : ∃ CS, CS = bl13 S.sn := ⟨_, rfl⟩
  rw [← hCS] at HRG LX HLI
  clear hCS
  go_enter Tryz.func197, Tryz.ntmps197
  go_wp2_with (refine wpList_load_mid rfl 101 _ rfl b 6 rfl CS _ HRG.out Tryz.underlying101 rfl ?z ?_)
  case z => rw [size_mem, LX.out]
  go_wp2_with fail
  refine HLI.out.mono ?_
  rintro e w1 ⟨va, rfl, hva, hb1⟩
  have s1 := hb1.size
  obtain ⟨a3, c3, hv3⟩ := owns_form hva
  subst hv3
  have B1 := hideG hb1
  have O1 := hideG hva
  clear hb1 hva
  have UN := hideG (HUN.out w1 B1.out)
  go_wp2_with fail
  refine UN.out.mono ?_
  rintro e w2 ⟨vb, rfl, hvb, hb2⟩
  have s2 := hb2.size
  obtain ⟨a4, c4, hv4⟩ := owns_form hvb
  subst hv4
  have B2 := hideG (B1.out.trans (hb2.mono B1.out.size))
  have O2 := hideG (ownsRow_chg (S := fun _ => False) O1.out (Chg.of_below hb2) (fun _ _ h => h))
  have P2 := hideG (ownsRow_base hvb s1)
  clear hb2 hvb
  have h2 := HS.out w2 B2.out
  have hst := stcl Tryz.prog b 0 (ssCells (overS 1 0 (.slice a3 ls.length c3) (.slice a4 zs.length c4))) w2 (h2.there 0 76 (by omega)) (ssCells_one _ (fun _ _ => rfl) rfl rfl rfl)
  have hst2 : (storeCells ⟨b, 0, none⟩ ((((Tryz.zeroCells106.toList.set 72 (Value.int IntKind.i64 1)).set 73 (Value.int IntKind.i64 0)).set 74 (.slice a3 ls.length c3)).set 75 (.slice a4 zs.length c4)) 0).run Tryz.prog w2 = .ok () (w2.setCells b 0 (ssCells (overS 1 0 (.slice a3 ls.length c3) (.slice a4 zs.length c4)))) := hst
  have HE := hideG (show SSAt (w2.setCells b 0 (ssCells (overS 1 0 (.slice a3 ls.length c3) (.slice a4 zs.length c4)))) b (overS 1 0 (.slice a3 ls.length c3) (.slice a4 zs.length c4)) ∧ Turn w2 (w2.setCells b 0 (ssCells (overS 1 0 (.slice a3 ls.length c3) (.slice a4 zs.length c4)))) b from ⟨h2.setAll _, Turn.cells w2 b 0 _ (by rw [ssCells_length]; omega)⟩)
  clear hst h2
  obtain ⟨cs, hcs⟩ : ∃ cs, cs = ssCells (overS 1 0 (.slice a3 ls.length c3) (.slice a4 zs.length c4)) := ⟨_, rfl⟩
  rw [← hcs] at hst2 HE
  clear hcs
  go_wp2_with fail
  go_end0
  refine ⟨rfl, _, _, ?_, ?_, HE.out.1, (Turn.grow B2.out hbl).trans HE.out.2⟩
  · exact ownsRow_chg O2.out HE.out.2.chg (fun x hx e => by have := (O2.out.lt x hx).1; omega)
  · exact ownsRow_chg P2.out HE.out.2.chg (fun x hx e => by have := (P2.out.lt x hx).1; omega)

theorem lstN_ext {p q : Nat → Bool} (h : ∀ u, u < 13 → p u = q u) : Srv.lstN p 13 = Srv.lstN q 13 := Srv.lst_ext h
theorem frG_eq {G : Srv.Tab} {p : Nat → Bool} {rd : Nat} (h : ∀ u, u < 13 → p u = Srv.mem (G rd) u) (hr : rd < 3) (u : Nat) : frG p (Srv.its (G rd)) rd u = Srv.sendsL G rd u := by
  have hd : rd = 0 ∨ rd = 1 ∨ rd = 2 := by omega
  rcases hd with rfl | rfl | rfl
  · show keyG p (Srv.its (G 0)) 13 = Srv.keysN G 13
    unfold keyG Srv.keysN; rw [lstN_ext h]; rfl
  · show boxG p (Srv.its (G 1)) u 13 = Srv.boxN G u 13
    unfold boxG Srv.boxN
    rw [lstN_ext (p := Srv.without p u) (q := Srv.without (Srv.mem (G 1)) u) (fun v hv => by unfold Srv.without; rw [h v hv])]; rfl
  · show askG p 13 = Srv.askN G 13
    unfold askG Srv.askN; rw [lstN_ext h]; rfl
def tickK (C : Srv.Cf) (s : Srv.Sv) : List Pk := (Srv.tickP C s).map fun p => ((0 : Int), p.1, p.2)
theorem pksG_eq {G : Srv.Tab} {p : Nat → Bool} {rd : Nat} (h : ∀ u, u < 13 → p u = Srv.mem (G rd) u) (hr : rd < 3) : pksG p (Srv.its (G rd)) rd 13 = ((Srv.lst (Srv.mem (G rd))).map fun u : Nat => ((u : Int), Frm.encF (2 * (rd : Int) + 2) 0 (Srv.sendsL G rd u))).map fun p => ((0 : Int), p.1, p.2) := by
  unfold pksG
  rw [lstN_ext h, List.map_map]
  apply List.map_congr_left
  intro u _
  show ((0 : Int), (u : Int), Frm.encF (2 * (rd : Int) + 2) 0 (frG p (Srv.its (G rd)) rd u)) = _
  rw [frG_eq h hr u]; rfl
theorem tellG_eq {G : Srv.Tab} {p : Nat → Bool} (h : ∀ u, u < 13 → p u = Srv.mem (G 3) u) (v : Nat) : tellG p (Srv.its (G 3)) v 13 = Srv.tellPts G v := by
  unfold tellG Srv.tellPts Srv.tellN; rw [lstN_ext h]
theorem allG_eq {G : Srv.Tab} {ct sn sh : Nat → Bool} {pb : Nat → Int} (hc : ∀ u, u < 13 → ct u = Srv.mem (G 3) u) (hn : ∀ u, u < 13 → sn u = Srv.mem (G 2) u) (hh : ∀ u, u < 13 → sh u = Srv.mem (G 1) u) (hb : ∀ u, u < 13 → pb u = Srv.pub G u) : allG sn sh pb (fun v => Lag.joinN (tellG ct (Srv.its (G 3)) v 13)) 13 = Srv.masksL G := by
  unfold allG Srv.masksL Srv.masksN
  rw [lstN_ext hh]
  congr 1
  apply List.map_congr_left
  intro v hv
  have v13 : v < 13 := (Srv.mem_lst.1 hv).1
  show withG sn pb v (Lag.joinN (tellG ct (Srv.its (G 3)) v 13)) = Srv.masksOf G v
  rw [tellG_eq hc v]
  unfold withG Srv.masksOf Srv.secret
  rw [hn v v13]
  split
  · rfl
  · unfold mwG
    show (Srv.lst sn).map _ = (Srv.lst (Srv.mem (G 2))).map _
    rw [Srv.lst_ext hn]
    apply List.map_congr_left
    intro u hu
    rw [hb u (Srv.mem_lst.1 hu).1]
theorem unG_eq (G : Srv.Tab) (M : Nat) : unG ((List.range M).map fun i => Srv.msk G i % 4294967296) (Srv.masksL G) M = (List.range M).map (Srv.totP G) := by
  unfold unG
  apply List.map_congr_left
  intro i hi
  have hi' := List.mem_range.1 hi
  have e : ((List.range M).map fun i => Srv.msk G i % 4294967296).getD i 0 = Srv.msk G i % 4294967296 := by
    rw [List.getD_eq_getElem?_getD, List.getElem?_map, List.getElem?_range hi']; rfl
  rw [e]; rfl
theorem tell_ok {C : Srv.Cf} {G : Srv.Tab} (h : Srv.GoodT C G) (hn : 1 ≤ Srv.sizeR (G 3)) (v : Nat) : ptsB (Srv.tellPts G v) = true := by
  unfold ptsB
  have e : (Srv.tellPts G v).length = Srv.sizeR (G 3) := by unfold Srv.tellPts Srv.tellN; rw [List.length_map]; rfl
  have hx : Lag.xs (Srv.tellPts G v) = (Srv.lst (Srv.mem (G 3))).map fun w : Nat => (w : Int) := by
    unfold Lag.xs Srv.tellPts Srv.tellN; rw [List.map_map]; rfl
  have hm : ∀ u ∈ Srv.lst (Srv.mem (G 3)), 1 ≤ u ∧ u ≤ 12 := fun u hu => by
    have := h.mem (Srv.mem_lst.1 hu).2
    exact ⟨this.2.1, this.2.2.2.1⟩
  have hlen : Srv.sizeR (G 3) ≤ 12 := by
    unfold Srv.sizeR
    have hz := h.zero 3
    unfold Srv.lst Srv.lstN
    have e0 : List.range 13 = 0 :: (List.range 12).map Nat.succ := List.range_succ_eq_map
    rw [e0, List.filter_cons, hz]
    refine Nat.le_trans (List.length_filter_le _ _) ?_
    simp
  have a1 : decide (1 ≤ (Srv.tellPts G v).length ∧ (Srv.tellPts G v).length ≤ 12) = true := decide_eq_true (by rw [e]; exact ⟨hn, hlen⟩)
  have a2 : (Srv.tellPts G v).all okP = true := by
    rw [List.all_eq_true]
    intro p hp
    unfold Srv.tellPts Srv.tellN at hp
    obtain ⟨u, hu, rfl⟩ := List.mem_map.1 hp
    have := hm u hu
    have el := Srv.tell_el h u (v : Int)
    show (Num.clB (u : Int) && Num.elB _) = true
    rw [Num.clB_yes (by omega) (by omega), Num.elB_yes el.1 el.2]; rfl
  have a3 : decide (Lag.xs (Srv.tellPts G v)).Nodup = true := decide_eq_true (by
    rw [hx]
    unfold List.Nodup
    rw [List.pairwise_map]
    exact (Srv.lst_pair _).imp (fun {a b} h => by omega))
  rw [a1, a2, a3]; rfl

end Go.Proofs.YtchideljndagjabGreat

namespace Go.Proofs.YtchideljndagjabGreat
open Go.RowKit
set_option linter.unusedVariables false

theorem srvAt_tm {w w' : World} {b : Nat} {C : Srv.Cf} {s : Srv.Sv} {S : SS} (h : SrvAt w b C s S) (x : Int) (hw : SSAt w' b { S with tm := x }) (hs : w.heap.size ≤ w'.heap.size) (hb : ∀ y, y ≠ b → SFoot b S y → w'.heap[y]? = w.heap[y]?) : SrvAt w' b C { s with tm := x } { S with tm := x } where
  at_ := hw
  st := h.st
  ro := h.ro
  set := h.set.keep hs fun y hy => hb y (fun e => h.apart2.2.1 (e ▸ hy)) (.inr (.inr (.inr (.inl hy))))
  sum := h.sum.keep hs fun y hy => hb y (fun e => h.apart2.2.2 (e ▸ hy)) (.inr (.inr (.inr (.inr hy))))
  apart := h.apart
  apart2 := h.apart2
  zero := h.zero
  rdz := h.rdz
  cfg := h.cfg
  now := fun p => ⟨rfl, (h.now p).2⟩
  sn := h.sn
  ct := h.ct
  it := fun p v hv => (h.it p v hv).keep hs fun y hy => hb y (fun e => h.apart v hv (e ▸ hy)) (.inr (.inl ⟨v, hv, hy⟩))
  pb := h.pb
  sh := h.sh
  ml := fun p r => (h.ml p r).keep hs fun y hy => hb y (fun e => h.apart2.1 (e ▸ hy)) (.inr (.inr (.inl hy)))

theorem items_nil (w : World) : ItemsAt w (.slice none 0 0) [] := ⟨none, 0, rfl, Nat.le_refl _, Nat.zero_le _, fun x hx => (by cases hx), .inl rfl⟩
theorem list_nil (w : World) : ListAt w (.slice none 0 0) [] := ⟨none, 0, rfl, Nat.le_refl _, Nat.zero_le _, fun x hx => (by cases hx), .inl rfl⟩

theorem srvAt_over {w' : World} {b : Nat} (C : Srv.Cf) (tm : Int) (rd : Nat) (G : Srv.Tab) {st ro : Int} {va vb : Value} {ls us : List Int} (hw : SSAt w' b (overS st ro va vb)) (h1 : ListAt w' va ls) (h2 : ListAt w' vb us) (ha : va.ownBlock ≠ some b) (hb : vb.ownBlock ≠ some b) (hst : st ≠ 0) : SrvAt w' b C ⟨tm, rd, G, (st, ro, ls, us)⟩ (overS st ro va vb) where
  at_ := hw
  st := rfl
  ro := rfl
  set := h1
  sum := h2
  apart := fun v _ => by show (Value.slice none 0 0).ownBlock ≠ some b; intro e; cases e
  apart2 := ⟨(by show (Value.slice none 0 0).ownBlock ≠ some b; intro e; cases e), ha, hb⟩
  zero := fun p => absurd p hst
  rdz := fun _ => rfl
  cfg := fun p => absurd p hst
  now := fun p => absurd p hst
  sn := fun p => absurd p hst
  ct := fun p => absurd p hst
  it := fun p => absurd p hst
  pb := fun p => absurd p hst
  sh := fun p => absurd p hst
  ml := fun p => absurd p hst

theorem srvAt_next {w w' : World} {b : Nat} {C : Srv.Cf} {s : Srv.Sv} {S : SS} (h : SrvAt w b C s S) (hp : s.out.1 = 0) (hr : s.rd < 3) (hl : ∀ r, s.rd < r → s.G r = fun _ => none) (x : Int) {pb : Nat → Int} {sh : Nat → Bool} {ml : Value} (hw : SSAt w' b (nextS { S with tm := x } pb sh ml))
    (hpb : ∀ u, u < 13 → pb u = Srv.pub s.G u) (hsh : 1 ≤ s.rd → ∀ u, u < 13 → sh u = Srv.mem (s.G 1) u) (hml : s.rd = 2 → ListAt w' ml ((List.range C.M.toNat).map fun i => Srv.msk s.G i % 4294967296)) (hmb : ml.ownBlock ≠ some b) :
    SrvAt w' b C { s with tm := x, rd := s.rd + 1 } (nextS { S with tm := x } pb sh ml) where
  at_ := hw
  st := h.st
  ro := h.ro
  set := by
    have := h.zero hp
    show ListAt w' S.set s.out.2.2.1
    rw [this.2.1, this.1]; exact list_nil _
  sum := by
    have := h.zero hp
    show ListAt w' S.sum s.out.2.2.2
    rw [this.2.2, this.1]; exact list_nil _
  apart := fun v _ => by show (Value.slice none 0 0).ownBlock ≠ some b; intro e; cases e
  apart2 := ⟨hmb, h.apart2.2.1, h.apart2.2.2⟩
  zero := h.zero
  rdz := fun p => absurd hp p
  cfg := h.cfg
  now := fun p => ⟨rfl, by show S.rd + 1 = ((s.rd + 1 : Nat) : Int); rw [(h.now hp).2]; rfl⟩
  sn := fun _ v hv => by
    show S.ct v = if s.rd + 1 = 0 then _ else Srv.mem (s.G (s.rd + 1 - 1)) v
    rw [if_neg (by omega), Nat.add_sub_cancel]; exact h.ct hp v hv
  ct := fun _ v hv => by
    show false = Srv.mem (s.G (s.rd + 1)) v
    rw [hl (s.rd + 1) (by omega)]; rfl
  it := fun _ v hv => by
    show ItemsAt w' (.slice none 0 0) (Srv.its (s.G (s.rd + 1)) v)
    rw [hl (s.rd + 1) (by omega)]; exact items_nil _
  pb := fun _ _ v hv => hpb v hv
  sh := fun _ r v hv => hsh (by have : 2 ≤ s.rd + 1 := r; omega) v hv
  ml := fun _ r => hml (by have : s.rd + 1 = 3 := r; omega)

theorem STook.of_turn {w w' : World} {b : Nat} {C : Srv.Cf} {s' : Srv.Sv} {S S' : SS} (h : SrvAt w' b C s' S') (ht : Turn w w' b) (hb : b < w.heap.size) (hf : ∀ x, x ≠ b → SFoot b S' x → (SFoot b S x ∨ w.heap.size ≤ x) ∧ x < w'.heap.size) : STook w w' b C s' S S' :=
  ⟨⟨h, fun x hx => by
      by_cases e : x = b
      · subst e; exact h.at_.lt
      · exact (hf x e hx).2⟩, ht.chg, fun x hx => by
      by_cases e : x = b
      · exact .inl (.inl e)
      · exact (hf x e hx).1, ht.rest⟩

end Go.Proofs.YtchideljndagjabGreat
