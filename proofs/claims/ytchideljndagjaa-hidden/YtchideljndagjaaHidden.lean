/- PROVED: veilkeep.Hidden answers true at every input, and each argument reads afterwards as it read before: as many shares as there are draws say nothing about the secret. No condition. -/
import Derived.Test.YtchideljndagjaaRows
import Derived.WalkKit
import Derived.ProofKit
import Derived.OpenShut
import Derived.ShutString
import Derived.ChangeOld
import Derived.Below
import Derived.Test.YtchideljndagjaaMay
import Derived.Test.YtchideljndagjaaZeros
import Derived.Test.YtchideljndagjaaMemAll
namespace Go.Proofs.Ytchideljndagjaa.hidden
open Go.ChangeShapes Go.WideShapes Go.ChangeAt Go.RowKit
open Go.ChangeMaps (open_string shut_string)
set_option linter.unusedVariables false

theorem own : ownKnob Try.prog.godebug = none := by kernel_rfl
theorem laidOut : laidOutB Try.prog = true := by kernel_rfl

/-- WHAT THE WALK IS TOLD OF A SLICE OF INTEGERS THAT CAME IN: it is nil; or it leads to a row of 'cap' cells, the numbers 'zs' (the first 'len' are its elements, the rest its spare room), each fitting its kind. -/
def IsRow (k : IntKind) (w : World) (a : Option Addr) (len cap : Nat) (zs : List Int) : Prop :=
  (a = none ∧ len = 0 ∧ cap = 0 ∧ zs = []) ∨
  ∃ x, a = some x ∧ len ≤ cap ∧ cap ≤ maxLen ∧ zs.length = cap ∧ (∀ i, i < zs.length → w.cell? (x.add i) = some (.int k (zs.getD i 0))) ∧ ∀ n ∈ zs, (Lit.int k n).wf = true

/-! ### STEP 1: THE WALK: the Go text returns true, AND WRITES NOTHING THAT WAS THERE: 'Below w.heap.size w w'' (Derived/Below.lean: '.refl', '.alloc', '.drew', '.setCell' at a new block, '.trans'). Open each 'IsRow' by 'rcases' AHEAD of 'go_enter'; part every test ahead of the walk. -/

set_option maxHeartbeats 4000000 in
set_option maxRecDepth 100000 in
theorem core (secret other : Int) (v : Value) (zs : List Int) (n : Nat) (who : Int) (w : World) (hl : ListAt w v zs) (hall : zs.all Num.elB = true) (hs : 0 ≤ secret) (hs' : secret < 2305843009213693951) (hn : n ≤ 12) (hzn : zs.length < n)
    (ho : -9223372036854775808 ≤ other) (ho' : other ≤ 9223372036854775807) (hw : -9223372036854775808 ≤ who) (hw' : who ≤ 9223372036854775807) :
    Calls Try.prog 5 #[.int .i64 secret, .int .i64 other, v, .int .i64 (n : Int), .int .i64 who] w fun e w' => e = .returned (.bool true) ∧ Below w.heap.size w w' := by
  obtain ⟨i0, hi, hz0, hz1, hz2⟩ := info_parts infoSp
  obtain ⟨a, cap, hv, l2, l3, hc⟩ := list_view hl
  have HC := hideG hc
  have HL := hideG hl
  have HA := hideG hall
  have hsp : spB secret zs (n : Int) = true := by
    unfold spB; rw [decide_eq_true (by omega), Num.elB_yes hs hs', hall]; rfl
  have HSP := hideG hsp
  clear hc hl hall hsp
  rw [hv] at HL ⊢
  clear hv
  go_enter Try.func5, Try.ntmps5
  go_wp2_with fail
  refine (veilSplit secret _ _ _ (fun u c w' => c = .int .i64 0 ∧ w'.ownsRow w.heap.size 3 1 u n ((Pol.shL secret zs n).map (Value.int .i64)) ∧ Below w.heap.size w w') ((split_yes secret _ zs n w HL.out HA.out hs hs' hn hzn).mono ?_)).mono ?_
  · rintro e w' ⟨u, rfl, ho, hb⟩; exact ⟨_, _, rfl, rfl, ho, hb⟩
  rintro e w1 ⟨ua, c, rfl, rfl, hoa, hb1⟩
  obtain ⟨ga, ca, rfl, lca, mca⟩ := own_shape hoa (by omega)
  have OA := hideG hoa
  have B1 := hideG hb1
  have z1 := hb1.size
  unfold maxLen at mca
  clear hoa hb1
  go_wp2_with fail
  refine (mayShare_calls secret _ zs _ _ (HL.out.below B1.out)).mono ?_
  rintro e w1 ⟨rfl, rfl⟩
  rw [HSP.out]
  go_wp2_with fail
  refine (pick_calls _ _ _ ho ho' (by omega) (by omega)).mono ?_
  rintro e w1 ⟨rfl, rfl⟩
  have s1 := Num.pickN_lo other 2305843009213693951 (by omega)
  have s2 := Num.pickN_hi other 2305843009213693951 (by omega)
  generalize Num.pickN other 2305843009213693951 = s at *
  go_wp2_with fail
  have ez : ((zs.length : Nat) : Int) = (zs.length : Int) := rfl
  refine (exactly_calls n who zs.length _ hn (by omega) hw hw').mono ?_
  rintro e w2 ⟨gi, rfl, bs, hbr, hb0, hcnt, hb2⟩
  have z2 : w1.heap.size + 1 ≤ w2.heap.size := by have := hb2.size; simp at this; omega
  have cbad : w2.cell? ⟨w1.heap.size, 0, none⟩ = some (.bool false) := by rw [hb2.cell (p := ⟨w1.heap.size, 0, none⟩) (by simp)]; simp [go_sem]
  have BR := hideG hbr
  have BZ := hideG hb0
  have BC := hideG hcnt
  have B2 := hideG (((Below.refl w1.heap.size w1).alloc (Nat.le_refl _) _).trans (hb2.mono (by simp)))
  have hgi := hbr.lt
  clear hbr hb0 hcnt hb2
  go_wp2_with fail
  refine (zeros_calls _ gi n bs _ _ BR.out BZ.out hn).mono ?_
  rintro e w3 ⟨gq, q, rfl, hq, hzi, hb3⟩
  have z3 := hb3.size
  have hql : q.length = zs.length + 1 := by
    have h1 := hzi.1
    rw [List.take_of_length_le (by rw [BR.out.1]; exact Nat.le_refl _), BC.out] at h1
    exact h1
  have HQ := hideG hq
  have HZ := hideG hzi
  have B3 := hideG hb3
  have cbad3 : w3.cell? ⟨w1.heap.size, 0, none⟩ = some (.bool false) := by rw [hb3.cell (p := ⟨w1.heap.size, 0, none⟩) (by show w1.heap.size < w2.heap.size; omega)]; exact cbad
  have hgq := hq.lt
  clear hq hzi hb3 cbad
  rw [hql]
  go_wp2_with fail
  refine (kless_calls _ _ _ s1 s2 hs hs').mono ?_
  rintro e w3 ⟨rfl, rfl⟩
  have d1 := Num.subP_lo s secret
  have d2 := Num.subP_hi s secret
  have HD := hideG (show Num.subP s secret = Num.subP s secret from rfl)
  generalize hd : Num.subP s secret = d at *
  have HDD := hideG hd
  clear hd HD
  have B13 := hideG (B2.out.trans (B3.out.mono (by omega)))
  have L3 := hideG ((HL.out.below B1.out).below B13.out)
  have OA3 := hideG (own_below OA.out B13.out)
  have BR3 := hideG (BR.out.below B3.out)
  go_wp2_with fail
  go_loopw [19, 20] (fun u i wr => ∃ k : Nat, k ≤ zs.length ∧ i = .int .i64 k ∧ wr.ownsRow w3.heap.size 3 1 u k ((Pol.shiftL d q zs k).map (Value.int .i64)) ∧ Below w3.heap.size w3 wr) (fun _ i _ => zs.length - (intOf i).toNat)
  case atStart => exact ⟨0, by omega, rfl, World.ownsRow_nil _ _ _ _, Below.refl _ _⟩
  case round =>
    obtain ⟨k, hk, rfl, hown, hbel⟩ := hrel
    have HO := hideG hown
    have HB := hideG hbel
    have hsz := hbel.size
    clear hown hbel
    by_cases hlt : k < zs.length
    · obtain ⟨b, off, ea, ck⟩ := HC.out k hlt
      subst ea
      obtain ⟨y, hy⟩ : ∃ y, y = zs.getD k 0 := ⟨_, rfl⟩
      have yel := all_el HA.out k hlt
      rw [← hy] at ck yel
      have hbw := L3.out
      have ckr : wr.cell? ⟨b, off + k, none⟩ = some (.int .i64 y) := by
        obtain ⟨a', cap', e1, _, _, _, e5⟩ := L3.out.below HB.out
        rcases e5 with e5 | ⟨b', off', e6, _, e7⟩
        · rw [e5] at hlt; simp at hlt
        · simp at e1
          rw [e6] at e1
          have h7 := e7 k hlt
          rw [← hy] at h7
          have : b = b' ∧ off = off' := by simpa using e1.1
          rw [this.1, this.2]; exact h7
      have cq : wr.cell? ⟨gq, k + 1, none⟩ = some (.int .i64 (q.getD (k + 1) 0)) := ((HQ.out.below HB.out).cell (k + 1) (by omega)).1
      have qel := all_el HZ.out.2.1 (k + 1) (by omega)
      obtain ⟨x, hx⟩ : ∃ x, x = q.getD (k + 1) 0 := ⟨_, rfl⟩
      rw [← hx] at cq qel
      obtain ⟨y1, y2⟩ := yel
      obtain ⟨x1, x2⟩ := qel
      have HX := hideG hx
      have HY := hideG hy
      clear hx hy ck hbw
      go_wp2_with fail
      refine (ctimes_calls _ _ _ _ d1 d2 x1 x2).mono ?_
      rintro e wr ⟨rfl, rfl⟩
      have m1 := Num.mulP_lo d x
      have m2 := Num.mulP_hi d x
      go_wp2_with fail
      refine (kplus_calls _ _ _ y1 y2 m1 m2).mono ?_
      rintro e wr ⟨rfl, rfl⟩
      obtain ⟨p, hp⟩ : ∃ p, p = Num.addP y (Num.mulP d x) := ⟨_, rfl⟩
      rw [← hp]
      have HP := hideG hp
      clear hp
      go_wp2_with (at_builtin; refine wpList_append_own _ rfl _ _ 28 rfl w3.heap.size 3 i0 (.int .i64 0) 1 8 Try.underlying28 hi hz0 hz1 hz2 rfl (by decide) _ _ _ rfl (HO.out.alloc _) ⟨wr.heap.size, 0, none⟩ 1 1 [.int .i64 p] rfl rfl ?c1 ?c2 ?c3 ?c4 ?c5 ?_)
      case c1 => exact cell_one_new _ _ _
      case c2 => intro u hu; simp at hu; subst hu; rfl
      case c3 => unfold maxLen; omega
      case c4 => omega
      case c5 => simp; omega
      intro v' w5 hown' hgrow' _
      have hbk := fun x (h : Value.ownBlock _ = some x) => HO.out.lt x h
      have hb5 := (HB.out.alloc hsz _).grown hgrow' (by simp; omega) (fun x h => (hbk x h).1)
      have HB5 := hideG hb5
      have ho5 : w5.ownsRow w3.heap.size 3 1 v' (k + 1) ((Pol.shiftL d q zs (k + 1)).map (Value.int .i64)) := by
        rw [Pol.shiftL_succ, List.map_append]; rw [show Pol.shiftAt d q zs k = p by rw [HP.out, HY.out, HX.out]; rfl]; exact hown'
      have HO5 := hideG ho5
      clear hown' hgrow' hbk hb5 ho5
      go_wp2_with fail
      go_roundw
      case rel => exact ⟨k + 1, by omega, by go_num, HO5.out, HB5.out⟩
      case measure => simp [intOf]; omega
    · have ek : k = zs.length := by omega
      subst ek
      have sl := Pol.shiftL_length d q zs zs.length
      have LS := hideG (listAt_of_owns HO.out (el_inI fun z hz => Num.elB_iff.1 (List.all_eq_true.1 (Pol.shiftL_el d q zs zs.length) z hz)))
      go_wp2_with fail
      refine (veilSplit s _ _ _ (fun u c w' => c = .int .i64 0 ∧ w'.ownsRow wr.heap.size 3 1 u n ((Pol.shL s (Pol.shiftL d q zs zs.length) n).map (Value.int .i64)) ∧ Below wr.heap.size wr w') ((split_yes s _ _ n wr LS.out (Pol.shiftL_el _ _ _ _) s1 s2 hn (by omega)).mono ?_)).mono ?_
      · rintro e w' ⟨u, rfl, ho, hb⟩; exact ⟨_, _, rfl, rfl, ho, hb⟩
      rintro e w6 ⟨ub, c, rfl, rfl, hob, hb6⟩
      obtain ⟨gb, cb, rfl, lcb, mcb⟩ := own_shape hob (by omega)
      have OB := hideG hob
      have B6 := hideG (HB.out.trans (hb6.mono hsz))
      have z6 := hb6.size
      unfold maxLen at mcb
      have cbad6 : w6.cell? ⟨w1.heap.size, 0, none⟩ = some (.bool false) := by rw [B6.out.cell (p := ⟨w1.heap.size, 0, none⟩) (by show w1.heap.size < w3.heap.size; omega)]; exact cbad3
      have en : ((n : Int) != (n : Int)) = false := by simp
      clear hob hb6 sl
      have OA6 := hideG (own_below OA3.out B6.out)
      have BR6 := hideG (BR3.out.below B6.out)
      go_wp2_with fail
      go_loopw [24] (fun u wx => ∃ (uu nq : Nat), 1 ≤ uu ∧ uu ≤ n + 1 ∧ u = .int .i64 uu ∧ wx = w6.drewN nq) (fun u _ => n + 1 - (intOf u).toNat)
      case atStart => exact ⟨1, 0, by omega, by omega, rfl, rfl⟩
      case round =>
        obtain ⟨uu, nq, u1, u2, rfl, rfl⟩ := hrel
        by_cases hu : uu < n + 1
        · obtain ⟨t, rfl⟩ : ∃ t, uu = t + 1 := ⟨uu - 1, by omega⟩
          have xa := OA6.out.cellAt t (by omega)
          have xb := OB.out.cellAt t (by omega)
          rw [List.getElem?_map] at xa xb
          have ga' : (Pol.shL secret zs n)[t]? = some (Pol.polyP secret zs ((t : Int) + 1)) := by unfold Pol.shL; rw [List.getElem?_map, List.getElem?_range (by omega)]; rfl
          have gb' : (Pol.shL s (Pol.shiftL d q zs zs.length) n)[t]? = some (Pol.polyP s (Pol.shiftL d q zs zs.length) ((t : Int) + 1)) := by unfold Pol.shL; rw [List.getElem?_map, List.getElem?_range (by omega)]; rfl
          rw [ga'] at xa
          rw [gb'] at xb
          have xc := (BR6.out.cell (t + 1) (by omega)).1
          have hsame := Pol.shares_alike s secret q zs bs (t + 1) (by rw [BR6.out.1]; exact HZ.out) hql s1 s2 hs hs' (by omega) (by rw [BR6.out.1]; omega) (by omega)
          rw [HDD.out] at hsame
          rw [show (((t + 1 : Nat)) : Int) = (t : Int) + 1 by omega] at hsame
          simp only [Option.map_some] at xa xb
          generalize Pol.polyP secret zs ((t : Int) + 1) = A at *
          generalize Pol.polyP s (Pol.shiftL d q zs zs.length) ((t : Int) + 1) = C at *
          clear ga' gb'
          have ht0 : (0 : Int) ≤ (t : Int) := by omega
          have htn : (t : Int) < (n : Int) := by omega
          cases hbv : bs.getD (t + 1) false <;> cases hsv : (s == secret)
          all_goals
            rw [hbv] at xc hsame
            rw [hsv] at hsame
            simp only [Bool.or_false, Bool.or_true] at hsame
            clear hbv
            go_wp2_with fail
            go_quiet (fail)
            go_wp2_with fail
            go_roundw
            case rel => exact ⟨t + 1 + 1, _, by omega, by omega, by go_num, rfl⟩
            case measure => simp [intOf]; omega
        · go_wp2_with fail
          go_ret
          exact ⟨rfl, (B1.out.trans (B13.out.mono z1)).trans ((B6.out.mono (by omega)).trans ((below_drewN w6 nq).mono (by omega)))⟩

theorem walk (a0 : Int) (a1 : Int) (a2 : Option Addr) (len2 cap2 : Nat) (z2 : List Int) (a3 : Int) (a4 : Int) (w : World) (w0 : (Lit.int .i64 a0).wf = true) (w1 : (Lit.int .i64 a1).wf = true) (w2 : IsRow .i64 w a2 len2 cap2 z2) (w3 : (Lit.int .i64 a3).wf = true) (w4 : (Lit.int .i64 a4).wf = true) :
    Calls Try.prog 5 #[.int .i64 a0, .int .i64 a1, .slice a2 len2 cap2, .int .i64 a3, .int .i64 a4] w fun e w' => e = .returned (.bool true) ∧ Below w.heap.size w w' := by
  have b1 := bounds_i64 w1
  have b3 := bounds_i64 w3
  have b4 := bounds_i64 w4
  obtain ⟨hl, hlen⟩ := rowed (a := a2) (len := len2) (cap := cap2) (zs := z2) w2
  generalize z2.take len2 = zs at *
  cases hsp : spB a0 zs a3
  · have HL := hideG hl
    have HN := hideG hsp
    clear hl hsp w0 w1 w2 w3 w4
    go_enter Try.func5, Try.ntmps5
    go_wp2_with fail
    refine (veilSplit a0 _ _ _ (fun u c w' => u = .slice none 0 0 ∧ c = .int .i64 1 ∧ w' = w) ((split_no a0 _ zs a3 w HL.out HN.out).mono ?_)).mono ?_
    · rintro e w' ⟨rfl, rfl⟩; exact ⟨_, _, rfl, rfl, rfl, rfl⟩
    rintro e w' ⟨u, c, rfl, rfl, rfl, hw⟩
    rw [hw]
    clear hw w'
    go_wp2_with fail
    refine (mayShare_calls a0 _ zs a3 _ HL.out).mono ?_
    rintro e w' ⟨rfl, rfl⟩
    rw [HN.out]
    go_wp2_with fail
    go_ret
    exact ⟨rfl, Below.refl _ _⟩
  · have h1 : (1 ≤ a3 ∧ a3 ≤ 12 ∧ (zs.length : Int) < a3) ∧ Num.elB a0 = true ∧ zs.all Num.elB = true := by
      unfold spB at hsp
      rw [Bool.and_eq_true, Bool.and_eq_true, decide_eq_true_iff] at hsp
      exact hsp
    obtain ⟨⟨g1, g2, g3⟩, g4, g5⟩ := h1
    obtain ⟨n, rfl⟩ := Int.eq_ofNat_of_zero_le (show 0 ≤ a3 by omega)
    have g6 := Num.elB_iff.1 g4
    exact core a0 a1 _ zs n a4 w hl g5 g6.1 g6.2 (by omega) (by omega) b1.1 b1.2 b4.1 b4.2

/-! ### THE ROW's STEP: WRITTEN OUT: LEAVE IT -/
set_option maxRecDepth 100000 in
theorem lifted (os : Os) (started : os.Started) (H : Type) (enc : TypeId × Value → H) :
    ReturnsInHanded {} Try.checked os 5 .any (Rows.hiddenSpec.pre6 enc Try.prog Try.f5 Rows.hiddenRow.domain false) (Rows.hiddenSpec.post enc Try.prog Try.f5 false true false false) := by
  refine returnsInHanded_of_change (C := Try.checked) own started (by kernel_rfl) Try.func5
    (ChangeSpec.witness6 (enc := enc) (C := Try.checked) false ⟨#[], #[.int .i64 0, .int .i64 0, .slice none 0 0, .int .i64 0, .int .i64 0], []⟩ 8 (by kernel_rfl) (by kernel_rfl) (by kernel_rfl) (by kernel_rfl)) ?_
  intro W base args ds gs before hval0 hW hcnd _
  have hval : ∀ (j : Nat) t v, Try.f5.params[j]? = some t → args[j]? = some v → Value.okWide Try.prog W .any base t v := hval0
  have hW' := hW
  obtain ⟨p, q, hA0, hV, rfl, hfz, hnd⟩ := hW
  have hA : DataW.TrodAll enc Try.prog W 0 (fun _ => true) true Try.f5.params.toList args.toList ds p := hA0
  rw [Try.params5] at hA hval
  obtain ⟨v0, vs0, d0, ds0, p0, q0, hargs, rfl, rfl, h0, r0⟩ := trodAll_cons hA
  obtain ⟨v1, vs1, d1, ds1, p1, q1, rfl, rfl, rfl, h1, r1⟩ := trodAll_cons r0
  obtain ⟨v2, vs2, d2, ds2, p2, q2, rfl, rfl, rfl, h2, r2⟩ := trodAll_cons r1
  obtain ⟨v3, vs3, d3, ds3, p3, q3, rfl, rfl, rfl, h3, r3⟩ := trodAll_cons r2
  obtain ⟨v4, vs4, d4, ds4, p4, q4, rfl, rfl, rfl, h4, r4⟩ := trodAll_cons r3
  obtain ⟨rfl, rfl, rfl⟩ := trodAll_nil r4
  obtain rfl : args = #[v0, v1, v2, v3, v4] := by cases args; simp_all
  obtain ⟨rfl, rfl⟩ := trodVars_none hV
  obtain ⟨a0, rfl, rfl, rfl, w0⟩ := open_int Try.underlying3 (hval 0 3 v0 rfl rfl) h0
  obtain ⟨a1, rfl, rfl, rfl, w1⟩ := open_int Try.underlying3 (hval 1 3 v1 rfl rfl) h1
  obtain ⟨a2, len2, cap2, rfl⟩ := okWide_slice Try.underlying28 (hval 2 28 v2 rfl rfl)
  have k2 := h2
  have lt2 : ∀ x ∈ p2, x.block < W.heap.size := by obtain ⟨m, hm⟩ := k2; exact DataW.trod_lt m _ _ _ hm
  obtain ⟨z2, w2⟩ : ∃ zs, IsRow .i64 W a2 len2 cap2 zs := by
    obtain ⟨fuel, hf⟩ := h2
    rcases open_ints Try.underlying28 Try.underlying3 (by kernel_rfl) hf with ⟨hcs, _⟩ | ⟨x, l, c, zs, hcs, _, hl, hm, hz, _, hcell, hwz⟩
    · simp [Value.cells] at hcs
      obtain ⟨rfl, rfl, rfl⟩ := hcs
      exact ⟨[], .inl ⟨rfl, rfl, rfl, rfl⟩⟩
    · simp [Value.cells] at hcs
      obtain ⟨rfl, rfl, rfl⟩ := hcs
      exact ⟨zs, .inr ⟨_, rfl, hl, hm, by simpa using hz, hcell, hwz⟩⟩
  obtain ⟨a3, rfl, rfl, rfl, w3⟩ := open_int Try.underlying3 (hval 3 3 v3 rfl rfl) h3
  obtain ⟨a4, rfl, rfl, rfl, w4⟩ := open_int Try.underlying3 (hval 4 3 v4 rfl rfl) h4
  clear hA0 hval0
  refine (walk a0 a1 a2 len2 cap2 z2 a3 a4 W w0 w1 w2 w3 w4).mono fun e W' ⟨he, bel⟩ => ?_
  subst he
  exact ⟨_, rfl, _, _, _, [], _, [], hW', trodAll_mk1 (shut_bool Try.underlying4 _), (trodAll_cons_mk (shut_int Try.underlying3 w0) (trodAll_cons_mk (shut_int Try.underlying3 w1) (trodAll_cons_mk (Below.trod laidOut (by kernel_rfl) (of_decide_eq_true (by kernel_rfl)) k2 bel lt2) (trodAll_cons_mk (shut_int Try.underlying3 w3) (trodAll_cons_mk (shut_int Try.underlying3 w4) trodAll_mk0))))), rfl, bel.frame _, fun h => by cases h⟩

theorem over : Rows.hiddenRow.holds Try.pinned (OpenSpec.ofChange Rows.hiddenSpec) :=
  OpenClaim.holds_of_wide 5 Try.f5 rfl rfl rfl rfl rfl rfl rfl ⟨rfl, rfl, rfl, rfl, rfl⟩ rfl rfl rfl rfl rfl (by kernel_rfl) Try.func5 (by kernel_rfl)
    (of_decide_eq_true (by kernel_rfl)) (by unfold Func.isWrapper; first | (rw [if_pos (by decide +kernel)]; kernel_rfl) | (rw [if_neg (by decide +kernel)]; exact ⟨rfl, rfl⟩))
    (fun os started H enc _ => lifted os started H enc)

end Go.Proofs.Ytchideljndagjaa.hidden
namespace Go.Proofs.Ytchideljndagjaa

/-- The statement. -/
theorem hidden_holds : Rows.HiddenSaid := hidden.over
#print axioms hidden_holds
end Go.Proofs.Ytchideljndagjaa
