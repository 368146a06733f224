/- PROVED: veilkeep.Rebuilt answers true at every input, and each argument reads afterwards as it read before: enough shares give the secret back, and with one of them turned another comes out. No condition. -/
import Derived.Test.YtchideljndagjaaRows
import Derived.WalkKit
import Derived.ProofKit
import Derived.OpenShut
import Derived.ShutString
import Derived.ChangeOld
import Derived.Below
import Derived.Test.YtchideljndagjaaMay
import Derived.Test.YtchideljndagjaaChosen
import Derived.Test.YtchideljndagjaaJoin
import Derived.Test.YtchideljndagjaaMemAll
import Derived.Deep.RegionWith
namespace Go.Proofs.Ytchideljndagjaa.rebuilt
open Go.ChangeShapes Go.WideShapes Go.ChangeAt Go.RowKit
open Go.ChangeMaps (open_string shut_string)
set_option linter.unusedVariables false

theorem own : ownKnob Try.prog.godebug = none := by kernel_rfl
theorem laidOut : laidOutB Try.prog = true := by kernel_rfl

/-- WHAT THE WALK IS TOLD OF A SLICE OF INTEGERS THAT CAME IN: it is nil; or it leads to a row of 'cap' cells, the numbers 'zs' (the first 'len' are its elements, the rest its spare room), each fitting its kind. -/
def IsRow (k : IntKind) (w : World) (a : Option Addr) (len cap : Nat) (zs : List Int) : Prop :=
  (a = none ∧ len = 0 ∧ cap = 0 ∧ zs = []) ∨
  ∃ x, a = some x ∧ len ≤ cap ∧ cap ≤ maxLen ∧ zs.length = cap ∧ (∀ i, i < zs.length → w.cell? (x.add i) = some (.int k (zs.getD i 0))) ∧ ∀ n ∈ zs, (Lit.int k n).wf = true

/-! ### STEP 1: THE WALK: the Go text returns true, AND WRITES NOTHING THAT WAS THERE: 'Below w.heap.size w w'' (Derived/Below.lean: '.refl', '.alloc', '.drew', '.setCell' at a new block, '.trans'). Open each 'IsRow' by 'rcases' AHEAD of 'go_enter'; part every test ahead of the walk. -/

theorem chTo_all (s : Int) (ds : List Int) (n fr : Nat) (bs : List Bool) : chTo (Pol.shL s ds n) n fr n bs = Lag.pts (Pol.polyP s ds) (chX n fr bs) := by
  unfold chTo Lag.pts chX
  rw [List.take_of_length_le (by rw [rot_length]; exact Nat.le_refl _), List.map_map]
  apply List.map_congr_left
  intro u hu
  have hm := rot_mem n fr u (List.mem_filter.1 hu).1
  show ((u : Int), (Pol.shL s ds n).getD (u - 1) 0) = ((u : Int), Pol.polyP s ds (u : Int))
  rw [Pol.shL_get s ds n (u - 1) (by omega)]
  unfold Pol.shAt
  rw [show (((u - 1 : Nat)) : Int) + 1 = (u : Int) by omega]

theorem chX_length (n fr : Nat) (bs : List Bool) (hl : bs.length = n + 1) (h0 : bs.getD 0 false = false) : (chX n fr bs).length = bs.count true := by
  unfold chX; rw [List.length_map]; exact rot_count n fr bs hl h0

theorem pts_ok (s : Int) (ds X : List Int) (hg : Lag.goodX X) (h1 : 1 ≤ X.length) (h2 : X.length ≤ 12) : ptsB (Lag.pts (Pol.polyP s ds) X) = true := by
  refine ptsB_done _ (by simp [Lag.pts]; omega) (by simp [Lag.pts]; omega) ?_ (by rw [Lag.xs_pts]; exact hg.2)
  rw [List.all_eq_true]
  intro p hp
  obtain ⟨x, hx, rfl⟩ := List.mem_map.1 hp
  have := hg.1 x hx
  unfold Lag.small at this
  show (Num.clB x && Num.elB (Pol.polyP s ds x)) = true
  rw [Num.clB_yes this.1 this.2, Num.elB_yes (Pol.polyP_lo _ _ _) (Pol.polyP_hi _ _ _)]; rfl

theorem set_ok (ps : List (Int × Int)) (i : Nat) (hi : i < ps.length) (y : Int) (hb : ptsB ps = true) (hy : 0 ≤ y) (hy' : y < 2305843009213693951) : ptsB (ps.set i ((ps.getD i (0, 0)).1, y)) = true := by
  have eg : ps.getD i (0, 0) = ps[i] := by rw [List.getD_eq_getElem?_getD, List.getElem?_eq_getElem hi]; rfl
  obtain ⟨g, h1, h2, h3⟩ := ptsB_good hb
  rw [eg]
  refine ptsB_done _ (by rw [List.length_set]; exact h1) (by rw [List.length_set]; exact h2) ?_ (by rw [Lag.xs_set ps i hi y]; exact g.2)
  rw [List.all_eq_true]
  intro p hp
  rcases List.mem_or_eq_of_mem_set hp with e | e
  · have a := g.1 p.1 (List.mem_map.2 ⟨p, e, rfl⟩)
    have b := h3 p e
    unfold Lag.small at a
    show (Num.clB p.1 && Num.elB p.2) = true
    rw [Num.clB_yes a.1 a.2, Num.elB_yes b.1 b.2]; rfl
  · have a := g.1 (ps[i]).1 (List.mem_map.2 ⟨ps[i], List.getElem_mem hi, rfl⟩)
    unfold Lag.small at a
    rw [e]
    show (Num.clB (ps[i]).1 && Num.elB y) = true
    rw [Num.clB_yes a.1 a.2, Num.elB_yes hy hy']; rfl

theorem join_secret (s : Int) (ds X : List Int) (hg : Lag.goodX X) (hl : ds.length < X.length) (hs : 0 ≤ s) (hs' : s < 2305843009213693951) : Lag.joinN (Lag.pts (Pol.polyP s ds) X) = s := by
  have := Lag.lam_poly s ds X hl hg
  unfold Lag.joinN
  rw [Lag.cg_iff] at this
  rw [this]; omega

theorem join_turned (ps : List (Int × Int)) (i : Nat) (hi : i < ps.length) (t : Int) (hb : ptsB ps = true) (ht : 0 ≤ t) (ht' : t < 2305843009213693950) : Lag.joinN (ps.set i ((ps.getD i (0, 0)).1, Num.addP (ps.getD i (0, 0)).2 (1 + t))) ≠ Lag.joinN ps := by
  have eg : ps.getD i (0, 0) = ps[i] := by rw [List.getD_eq_getElem?_getD, List.getElem?_eq_getElem hi]; rfl
  obtain ⟨g, h1, h2, h3⟩ := ptsB_good hb
  rw [eg]
  have hy := h3 _ (List.getElem_mem hi)
  intro e
  refine Lag.lam_set ps g i hi _ ?_ (Lag.cg_iff.2 e)
  have := Num.turned (ps[i]).2 t hy.1 hy.2 ht ht'
  have a := Num.addP_lo (ps[i]).2 (1 + t)
  have b := Num.addP_hi (ps[i]).2 (1 + t)
  unfold Lag.Cg
  omega

theorem _root_.Go.Proofs.Ytchideljndagjaa.PtsAt.like {w w' : World} {v : Value} {ps : List (Int × Int)} (h : PtsAt w v ps) (e : w'.heap = w.heap) : PtsAt w' v ps := by
  obtain ⟨a, cap, h1, h2, h3, h4, h5⟩ := h
  refine ⟨a, cap, h1, h2, h3, h4, ?_⟩
  rcases h5 with h5 | ⟨b, off, e1, e2, e3⟩
  · exact .inl h5
  · refine .inr ⟨b, off, e1, by rw [e]; exact e2, fun i hi => ?_⟩
    have := e3 i hi
    simp only [World.cell?, e] at *
    exact this

theorem below_heap {B : Nat} {w a b : World} (h : Below B w a) (e : b.heap = a.heap) (e1 : b.os = a.os) (e2 : b.tape = a.tape) (e3 : b.output = a.output) : Below B w b :=
  ⟨e1.trans h.os, e2.trans h.tape, e3.trans h.output, by rw [e]; exact h.size, fun k hk => by rw [e]; exact h.block k hk⟩

theorem pts_inI {ps : List (Int × Int)} (hb : ptsB ps = true) : ∀ p ∈ ps, inI p.1 ∧ inI p.2 := by
  obtain ⟨g, h1, h2, h3⟩ := ptsB_good hb
  intro p hp
  have a := g.1 p.1 (List.mem_map.2 ⟨p, hp, rfl⟩)
  have b := h3 p hp
  unfold Lag.small at a
  unfold inI
  omega

set_option maxHeartbeats 4000000 in
set_option maxRecDepth 100000 in
theorem core (secret : Int) (v : Value) (zs : List Int) (n : Nat) (who turn : Int) (w : World) (hl : ListAt w v zs) (hall : zs.all Num.elB = true) (hs : 0 ≤ secret) (hs' : secret < 2305843009213693951) (hn : n ≤ 12) (hzn : zs.length < n)
    (ho : -9223372036854775808 ≤ who) (ho' : who ≤ 9223372036854775807) (hw : -9223372036854775808 ≤ turn) (hw' : turn ≤ 9223372036854775807) :
    Calls Try.prog 4 #[.int .i64 secret, v, .int .i64 (n : Int), .int .i64 who, .int .i64 turn] w fun e w' => e = .returned (.bool true) ∧ Below w.heap.size w w' := by
  obtain ⟨a, cap, hv, l2, l3, hc⟩ := list_view hl
  have HL := hideG hl
  have HA := hideG hall
  have hsp : spB secret zs (n : Int) = true := by
    unfold spB; rw [decide_eq_true (by omega), Num.elB_yes hs hs', hall]; rfl
  have HSP := hideG hsp
  clear hc hl hall hsp
  rw [hv] at HL ⊢
  clear hv
  go_enter Try.func4, Try.ntmps4
  go_wp2_with fail
  refine (veilSplit secret _ _ _ (fun u c w' => c = .int .i64 0 ∧ w'.ownsRow w.heap.size 3 1 u n ((Pol.shL secret zs n).map (Value.int .i64)) ∧ Below w.heap.size w w') ((split_yes secret _ zs n w HL.out HA.out hs hs' hn hzn).mono ?_)).mono ?_
  · rintro e w' ⟨u, rfl, ho, hb⟩; exact ⟨_, _, rfl, rfl, ho, hb⟩
  rintro e w1 ⟨ua, c, rfl, rfl, hoa, hb1⟩
  obtain ⟨ga, ca, rfl, lca, mca⟩ := own_shape hoa (by omega)
  have OA := hideG hoa
  have B1 := hideG hb1
  have z1 := hb1.size
  unfold maxLen at mca
  have en : ((n : Int) != (n : Int)) = false := by simp
  clear hoa hb1
  have sl := Pol.shL_length secret zs n
  have LA := hideG (listAt_of_owns OA.out (el_inI (Pol.shL_el secret zs n)))
  have hel : (Pol.shL secret zs n).all Num.elB = true := by
    rw [List.all_eq_true]; intro z hz; exact Num.elB_iff.2 (Pol.shL_el secret zs n z hz)
  have HEL := hideG hel
  clear hel
  go_wp2_with fail
  refine (mayShare_calls secret _ zs _ _ (HL.out.below B1.out)).mono ?_
  rintro e w1 ⟨rfl, rfl⟩
  rw [HSP.out]
  go_wp2_with fail
  refine (kelements_list _ (Pol.shL secret zs n) _ LA.out).mono ?_
  rintro e w1 ⟨rfl, rfl⟩
  rw [HEL.out]
  go_wp2_with fail
  refine (some_calls n who (zs.length + 1) _ hn (by omega) ho ho').mono ?_
  rintro e w2 ⟨gi, rfl, bs, hbr, hb0, hcnt, hb2⟩
  have z2 := hb2.size
  have BR := hideG hbr
  have BZ := hideG hb0
  have B2 := hideG hb2
  have hXl := hideG (show zs.length < (chX n (Num.pickN turn n).toNat bs).length by rw [chX_length n _ bs hbr.1 hb0]; omega)
  have hXn := hideG (show (chX n (Num.pickN turn n).toNat bs).length ≤ n by rw [chX_length n _ bs hbr.1 hb0]; exact count_le_n bs n hbr.1 hb0)
  clear hbr hb0 hcnt hb2
  go_wp2_with fail
  refine (chosen_calls _ (Pol.shL secret zs n) gi n bs _ turn _ (LA.out.below B2.out) sl (by omega) hn BR.out hw hw').mono ?_
  rintro e w3 ⟨vp, rfl, hop, hb3⟩
  have z3 := hb3.size
  rw [chTo_all] at hop
  have hgX := chX_good n (Num.pickN turn n).toNat bs hn
  have hb := pts_ok secret zs (chX n (Num.pickN turn n).toNat bs) hgX (by have := hXl.out; omega) (by have := hXn.out; omega)
  have hjs := join_secret secret zs (chX n (Num.pickN turn n).toNat bs) hgX hXl.out hs hs'
  have hpl : (Lag.pts (Pol.polyP secret zs) (chX n (Num.pickN turn n).toNat bs)).length ≤ 12 ∧ 1 ≤ (Lag.pts (Pol.polyP secret zs) (chX n (Num.pickN turn n).toNat bs)).length := by
    have := hXl.out; have := hXn.out; simp [Lag.pts]; omega
  generalize Lag.pts (Pol.polyP secret zs) (chX n (Num.pickN turn n).toNat bs) = ps at *
  obtain ⟨pl1, pl2⟩ := hpl
  obtain ⟨gp, cp, rfl, lcp, mcp⟩ : ∃ g cap, vp = .slice (some ⟨g, 0, none⟩) ps.length cap ∧ ps.length ≤ cap ∧ cap ≤ maxLen := by
    rcases hop.2 with ⟨_, e0⟩ | ⟨g', cap', _, e0, _, _, e1, e2, _⟩
    · omega
    · exact ⟨g', cap', e0, e1, e2⟩
  unfold maxLen at mcp
  have OP := hideG hop
  have B3 := hideG hb3
  have HPB := hideG hb
  have HJS := hideG hjs
  have hgp := hop.lt gp rfl
  have PA := hideG (ptsAt_of_owns hop (pts_inI hb))
  clear hop hb3 hb hjs hgX sl
  go_wp2_with fail
  refine (veilJoin _ _ _ _ (join_yes _ ps _ PA.out HPB.out)).mono ?_
  rintro e w4 ⟨rfl, hb4⟩
  rw [HJS.out]
  have z4 := hb4.size
  have B4 := hideG hb4
  have e1 : (secret != secret) = false := by simp
  clear hb4
  go_wp2_with fail
  refine (pick_calls _ _ _ hw hw' (by omega) (by omega)).mono ?_
  rintro e w4 ⟨rfl, rfl⟩
  have i1 := Num.pickN_lo turn (ps.length : Int) (by omega)
  have i2 := Num.pickN_hi turn (ps.length : Int) (by omega)
  generalize Num.pickN turn (ps.length : Int) = ix at *
  obtain ⟨ii, rfl⟩ := Int.eq_ofNat_of_zero_le i1
  have hii : ii < ps.length := by omega
  have OP4 := hideG (own_below OP.out B4.out)
  have cY : w4.cell? ⟨gp, ii * 2 + 1, none⟩ = some (.int .i64 (ps.getD ii (0, 0)).2) := (OP4.out.cellAt (ii * 2 + 1) (by omega)).trans (flat_get ps ii hii).2
  have cF : w4.frozen? ⟨gp, ii * 2 + 1, none⟩ = false := OP4.out.frozenAt (ii * 2 + 1)
  have hyel : 0 ≤ (ps.getD ii (0, 0)).2 ∧ (ps.getD ii (0, 0)).2 < 2305843009213693951 := by
    refine (ptsB_good HPB.out).2.2.2 _ ?_
    rw [List.getD_eq_getElem?_getD, List.getElem?_eq_getElem hii]; exact List.getElem_mem hii
  have q1 := Num.pickN_lo who 2305843009213693950 (by omega)
  have q2 := Num.pickN_hi who 2305843009213693950 (by omega)
  have HT := hideG (join_turned ps ii hii (Num.pickN who 2305843009213693950) HPB.out q1 q2)
  have HOK := hideG (set_ok ps ii hii (Num.addP (ps.getD ii (0, 0)).2 (1 + Num.pickN who 2305843009213693950)) HPB.out (Num.addP_lo _ _) (Num.addP_hi _ _))
  have HFS := hideG (flat_set ps ii hii (Num.addP (ps.getD ii (0, 0)).2 (1 + Num.pickN who 2305843009213693950)))
  generalize (ps.getD ii (0, 0)).2 = yy at *
  have PP : Hid (PtsAt (w4.setCell ⟨gp, ii * 2 + 1, none⟩ (.int .i64 (Num.addP yy (1 + Num.pickN who 2305843009213693950)))) (.slice (some ⟨gp, 0, none⟩) ps.length cp) (ps.set ii ((ps.getD ii (0, 0)).1, Num.addP yy (1 + Num.pickN who 2305843009213693950)))) := by
    have st := (OP4.out.stored (ii * 2 + 1) (.int .i64 (Num.addP yy (1 + Num.pickN who 2305843009213693950)))).1
    rw [HFS.out] at st
    have ll : (ps.set ii ((ps.getD ii (0, 0)).1, Num.addP yy (1 + Num.pickN who 2305843009213693950))).length = ps.length := List.length_set
    refine ptsAt_of_owns (B := w2.heap.size) ?_ (pts_inI HOK.out)
    rw [ll]; exact st
  have BW := hideG (((((B1.out.trans (B2.out.mono z1)).trans (B3.out.mono (by omega))).trans (B4.out.mono (by omega)))).setCell (p := ⟨gp, ii * 2 + 1, none⟩) (by show w.heap.size ≤ gp; omega) (.int .i64 (Num.addP yy (1 + Num.pickN who 2305843009213693950))))
  obtain ⟨y1, y2⟩ := hyel
  have hwr : IntKind.i64.wrap (1 + Num.pickN who 2305843009213693950) = 1 + Num.pickN who 2305843009213693950 := by rw [IntWalk.i64_left, IntWalk.wrap64_in _ (by omega)]
  go_wp2_with fail
  go_region_with (first | (go_at_call 10; refine (pick_calls _ _ _ ho ho' (by omega) (by omega)).mono ?_; rintro e w' ⟨rfl, rfl⟩) | (go_at_call 20; refine (kplus_calls _ _ _ y1 y2 (by omega) (by omega)).mono ?_; rintro e w' ⟨rfl, rfl⟩))
  all_goals
    go_wp2_with fail
    refine (veilJoin _ _ _ _ (join_yes _ (ps.set ii ((ps.getD ii (0, 0)).1, Num.addP yy (1 + Num.pickN who 2305843009213693950))) _ (by exact PP.out.like rfl) HOK.out)).mono ?_
    rintro e w6 ⟨rfl, hb6⟩
    obtain ⟨jv, hjv⟩ : ∃ jv, jv = Lag.joinN (ps.set ii ((ps.getD ii (0, 0)).1, Num.addP yy (1 + Num.pickN who 2305843009213693950))) := ⟨_, rfl⟩
    rw [← hjv]
    have hne : (jv != secret) = true := by rw [hjv, bne_iff_ne, ← HJS.out]; exact HT.out
    clear hjv
    have B6 := hideG hb6
    clear hb6
    go_wp2_with fail
    go_ret
    exact ⟨rfl, BW.out.drew.trans (B6.out.mono (by have hz := BW.out.drew.size; exact hz))⟩

theorem walk (a0 : Int) (a1 : Option Addr) (len1 cap1 : Nat) (z1 : List Int) (a2 : Int) (a3 : Int) (a4 : Int) (w : World) (w0 : (Lit.int .i64 a0).wf = true) (w1 : IsRow .i64 w a1 len1 cap1 z1) (w2 : (Lit.int .i64 a2).wf = true) (w3 : (Lit.int .i64 a3).wf = true) (w4 : (Lit.int .i64 a4).wf = true) :
    Calls Try.prog 4 #[.int .i64 a0, .slice a1 len1 cap1, .int .i64 a2, .int .i64 a3, .int .i64 a4] w fun e w' => e = .returned (.bool true) ∧ Below w.heap.size w w' := by
  have b2 := bounds_i64 w2
  have b3 := bounds_i64 w3
  have b4 := bounds_i64 w4
  obtain ⟨hl, hlen⟩ := rowed (a := a1) (len := len1) (cap := cap1) (zs := z1) w1
  generalize z1.take len1 = zs at *
  cases hsp : spB a0 zs a2
  · have HL := hideG hl
    have HN := hideG hsp
    clear hl hsp w0 w1 w2 w3 w4
    go_enter Try.func4, Try.ntmps4
    go_wp2_with fail
    refine (veilSplit a0 _ _ _ (fun u c w' => u = .slice none 0 0 ∧ c = .int .i64 1 ∧ w' = w) ((split_no a0 _ zs a2 w HL.out HN.out).mono ?_)).mono ?_
    · rintro e w' ⟨rfl, rfl⟩; exact ⟨_, _, rfl, rfl, rfl, rfl⟩
    rintro e w' ⟨u, c, rfl, rfl, rfl, hw⟩
    rw [hw]
    clear hw w'
    go_wp2_with fail
    refine (mayShare_calls a0 _ zs a2 _ HL.out).mono ?_
    rintro e w' ⟨rfl, rfl⟩
    rw [HN.out]
    go_wp2_with fail
    go_ret
    exact ⟨rfl, Below.refl _ _⟩
  · have h1 : (1 ≤ a2 ∧ a2 ≤ 12 ∧ (zs.length : Int) < a2) ∧ Num.elB a0 = true ∧ zs.all Num.elB = true := by
      unfold spB at hsp
      rw [Bool.and_eq_true, Bool.and_eq_true, decide_eq_true_iff] at hsp
      exact hsp
    obtain ⟨⟨g1, g2, g3⟩, g4, g5⟩ := h1
    obtain ⟨n, rfl⟩ := Int.eq_ofNat_of_zero_le (show 0 ≤ a2 by omega)
    have g6 := Num.elB_iff.1 g4
    exact core a0 _ zs n a3 a4 w hl g5 g6.1 g6.2 (by omega) (by omega) b3.1 b3.2 b4.1 b4.2

/-! ### THE ROW's STEP: WRITTEN OUT: LEAVE IT -/
set_option maxRecDepth 100000 in
theorem lifted (os : Os) (started : os.Started) (H : Type) (enc : TypeId × Value → H) :
    ReturnsInHanded {} Try.checked os 4 .any (Rows.rebuiltSpec.pre6 enc Try.prog Try.f4 Rows.rebuiltRow.domain false) (Rows.rebuiltSpec.post enc Try.prog Try.f4 false true false false) := by
  refine returnsInHanded_of_change (C := Try.checked) own started (by kernel_rfl) Try.func4
    (ChangeSpec.witness6 (enc := enc) (C := Try.checked) false ⟨#[], #[.int .i64 0, .slice none 0 0, .int .i64 0, .int .i64 0, .int .i64 0], []⟩ 8 (by kernel_rfl) (by kernel_rfl) (by kernel_rfl) (by kernel_rfl)) ?_
  intro W base args ds gs before hval0 hW hcnd _
  have hval : ∀ (j : Nat) t v, Try.f4.params[j]? = some t → args[j]? = some v → Value.okWide Try.prog W .any base t v := hval0
  have hW' := hW
  obtain ⟨p, q, hA0, hV, rfl, hfz, hnd⟩ := hW
  have hA : DataW.TrodAll enc Try.prog W 0 (fun _ => true) true Try.f4.params.toList args.toList ds p := hA0
  rw [Try.params4] at hA hval
  obtain ⟨v0, vs0, d0, ds0, p0, q0, hargs, rfl, rfl, h0, r0⟩ := trodAll_cons hA
  obtain ⟨v1, vs1, d1, ds1, p1, q1, rfl, rfl, rfl, h1, r1⟩ := trodAll_cons r0
  obtain ⟨v2, vs2, d2, ds2, p2, q2, rfl, rfl, rfl, h2, r2⟩ := trodAll_cons r1
  obtain ⟨v3, vs3, d3, ds3, p3, q3, rfl, rfl, rfl, h3, r3⟩ := trodAll_cons r2
  obtain ⟨v4, vs4, d4, ds4, p4, q4, rfl, rfl, rfl, h4, r4⟩ := trodAll_cons r3
  obtain ⟨rfl, rfl, rfl⟩ := trodAll_nil r4
  obtain rfl : args = #[v0, v1, v2, v3, v4] := by cases args; simp_all
  obtain ⟨rfl, rfl⟩ := trodVars_none hV
  obtain ⟨a0, rfl, rfl, rfl, w0⟩ := open_int Try.underlying3 (hval 0 3 v0 rfl rfl) h0
  obtain ⟨a1, len1, cap1, rfl⟩ := okWide_slice Try.underlying28 (hval 1 28 v1 rfl rfl)
  have k1 := h1
  have lt1 : ∀ x ∈ p1, x.block < W.heap.size := by obtain ⟨m, hm⟩ := k1; exact DataW.trod_lt m _ _ _ hm
  obtain ⟨z1, w1⟩ : ∃ zs, IsRow .i64 W a1 len1 cap1 zs := by
    obtain ⟨fuel, hf⟩ := h1
    rcases open_ints Try.underlying28 Try.underlying3 (by kernel_rfl) hf with ⟨hcs, _⟩ | ⟨x, l, c, zs, hcs, _, hl, hm, hz, _, hcell, hwz⟩
    · simp [Value.cells] at hcs
      obtain ⟨rfl, rfl, rfl⟩ := hcs
      exact ⟨[], .inl ⟨rfl, rfl, rfl, rfl⟩⟩
    · simp [Value.cells] at hcs
      obtain ⟨rfl, rfl, rfl⟩ := hcs
      exact ⟨zs, .inr ⟨_, rfl, hl, hm, by simpa using hz, hcell, hwz⟩⟩
  obtain ⟨a2, rfl, rfl, rfl, w2⟩ := open_int Try.underlying3 (hval 2 3 v2 rfl rfl) h2
  obtain ⟨a3, rfl, rfl, rfl, w3⟩ := open_int Try.underlying3 (hval 3 3 v3 rfl rfl) h3
  obtain ⟨a4, rfl, rfl, rfl, w4⟩ := open_int Try.underlying3 (hval 4 3 v4 rfl rfl) h4
  clear hA0 hval0
  refine (walk a0 a1 len1 cap1 z1 a2 a3 a4 W w0 w1 w2 w3 w4).mono fun e W' ⟨he, bel⟩ => ?_
  subst he
  exact ⟨_, rfl, _, _, _, [], _, [], hW', trodAll_mk1 (shut_bool Try.underlying4 _), (trodAll_cons_mk (shut_int Try.underlying3 w0) (trodAll_cons_mk (Below.trod laidOut (by kernel_rfl) (of_decide_eq_true (by kernel_rfl)) k1 bel lt1) (trodAll_cons_mk (shut_int Try.underlying3 w2) (trodAll_cons_mk (shut_int Try.underlying3 w3) (trodAll_cons_mk (shut_int Try.underlying3 w4) trodAll_mk0))))), rfl, bel.frame _, fun h => by cases h⟩

theorem over : Rows.rebuiltRow.holds Try.pinned (OpenSpec.ofChange Rows.rebuiltSpec) :=
  OpenClaim.holds_of_wide 4 Try.f4 rfl rfl rfl rfl rfl rfl rfl ⟨rfl, rfl, rfl, rfl, rfl⟩ rfl rfl rfl rfl rfl (by kernel_rfl) Try.func4 (by kernel_rfl)
    (of_decide_eq_true (by kernel_rfl)) (by unfold Func.isWrapper; first | (rw [if_pos (by decide +kernel)]; kernel_rfl) | (rw [if_neg (by decide +kernel)]; exact ⟨rfl, rfl⟩))
    (fun os started H enc _ => lifted os started H enc)

end Go.Proofs.Ytchideljndagjaa.rebuilt
namespace Go.Proofs.Ytchideljndagjaa

/-- The statement. -/
theorem rebuilt_holds : Rows.RebuiltSaid := rebuilt.over
#print axioms rebuilt_holds
end Go.Proofs.Ytchideljndagjaa
