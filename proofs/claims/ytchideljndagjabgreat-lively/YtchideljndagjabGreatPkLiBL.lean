/- What Lively holds in memory; others. -/
import Derived.Test.YtchideljndagjabGreatPkLiBK
import Derived.Deep.DeepCutAuto
import Derived.Test.YtchideljndagjabGreatPkLiAC
import Derived.Test.YtchideljndagjabGreatPkLiAG
import Derived.WalkSpells
import Derived.Test.YtchideljndagjabGreatPkLiBI
import Derived.Test.YtchideljndagjabGreatPkLiBD
import Derived.BigQuiet
namespace Go.Proofs.YtchideljndagjabGreat
open Go.ChangeShapes Go.WideShapes Go.ChangeAt Go.RowKit
set_option linter.unusedVariables false

/-- What was turned: the session's own blocks, and the choices'. -/
structure LTook (w w' : World) (b n gr : Nat) (C : Srv.Cf) (cl : Nat → Cli.Cl) (s' : Sn) (m m' : SM) : Prop where
  ses : SesAt w' b n C cl s' m'
  chg : Chg (fun x => SesOwn b m x ∨ x = gr) w w'
  own : ∀ x, SesOwn b m' x → SesOwn b m x ∨ w.heap.size ≤ x
  foot : ∀ x, SesFoot b n m' x → SesFoot b n m x ∨ w.heap.size ≤ x
section
variable {w w1 w2 : World} {b n gr : Nat} {C : Srv.Cf} {cl : Nat → Cli.Cl} {s s1 s2 : Sn} {m m1 m2 : SM}
theorem lTook_same (h : SesAt w b n C cl s m) (hb : Below w.heap.size w w1) : LTook w w1 b n gr C cl s m m := ⟨h.below hb, Chg.of_below hb, fun _ hx => .inl hx, fun _ hx => .inl hx⟩
theorem LTook.trans (t : LTook w w1 b n gr C cl s1 m m1) (u : LTook w1 w2 b n gr C cl s2 m1 m2) : LTook w w2 b n gr C cl s2 m m2 := by
  have z := t.chg.size
  refine ⟨u.ses, t.chg.trans u.chg (fun x e hx => ?_), fun x hx => ?_, fun x hx => ?_⟩
  · rcases e with e | e
    · rcases t.own x e with q | q
      · exact .inl q
      · omega
    · exact .inr e
  · rcases u.own x hx with q | q
    · exact t.own x q
    · exact .inr (by omega)
  · rcases u.foot x hx with q | q
    · exact t.foot x q
    · exact .inr (by omega)
theorem lTook_ses (h : SesTook w w1 b n C cl s1 m m1) : LTook w w1 b n gr C cl s1 m m1 := ⟨h.ses, h.chg.mono (fun x e _ => .inl e), h.own, h.foot⟩
theorem lTook_cho (h : SesAt w b n C cl s m) (hg : ¬ SesFoot b n m gr) (hc : Chg (fun x => x = gr) w w1) : LTook w w1 b n gr C cl s m m :=
  ⟨h.keep hc.size (fun x hx => hc.block x (h.low hx) (fun e => hg (by rw [← e]; exact hx))), hc.mono (fun x e _ => .inr e), fun _ hx => .inl hx, fun _ hx => .inl hx⟩
end

structure LvM (w0 wr : World) (b n gi gr gc : Nat) (C : Srv.Cf) (cl : Nat → Cli.Cl) (s : Sn) (m : SM) (v : Value) (cs : List Int) (z : Nat) (bs : List Bool) : Prop where
  ses : SesAt wr b n C cl s m
  row : BRow wr w0.heap.size gi (n + 1) bs
  ch : ChAt wr gr v z
  cfg : wr.heap[gc]? = some (.cells #[.int .i64 C.N, .int .i64 C.T, .int .i64 C.M, .int .i64 C.D] 26 (0, 0))
  gin : ¬ SesFoot b n m gi ∧ gi ≠ gr
  grn : ¬ SesFoot b n m gr ∧ w0.heap.size ≤ gr
  gcn : ¬ SesFoot b n m gc ∧ gc ≠ gr
  lo : ∀ z, SesOwn b m z → w0.heap.size ≤ z
  bel : Below w0.heap.size w0 wr
  lst : ListAt w0 v cs
section
variable {w0 wr w1 : World} {b n gi gr gc : Nat} {C : Srv.Cf} {cl : Nat → Cli.Cl} {s s' : Sn} {m m' : SM} {v : Value} {cs : List Int} {z z' : Nat} {bs : List Bool}
theorem LvM.gcl (h : LvM w0 wr b n gi gr gc C cl s m v cs z bs) : gc < wr.heap.size := by
  by_cases q : gc < wr.heap.size
  · exact q
  · have := h.cfg; rw [Array.getElem?_eq_none (by omega)] at this; cases this
theorem BRow.blk {w w' : World} {B g n : Nat} {bs : List Bool} (h : BRow w B g n bs) (e : w'.heap[g]? = w.heap[g]?) : BRow w' B g n bs :=
  ⟨h.1, row_keep h.2 (fun x hx => by have e1 : g = x := by injection hx
                                     rw [← e1]; exact e)⟩
theorem LvM.turn (h : LvM w0 wr b n gi gr gc C cl s m v cs z bs) (t : LTook wr w1 b n gr C cl s' m m') (c : ChAt w1 gr v z') : LvM w0 w1 b n gi gr gc C cl s' m' v cs z' bs := by
  have hz := t.chg.size
  have gil := h.row.lt.2
  have gcl := h.gcl
  have grl := h.ch.lt
  have far : ∀ x, x < wr.heap.size → ¬ SesFoot b n m x → ¬ SesFoot b n m' x := fun x hx hn e => by
    rcases t.foot x e with q | q
    · exact hn q
    · omega
  refine ⟨t.ses, h.row.blk (t.chg.block gi gil (fun e => ?_)), c, (t.chg.block gc gcl (fun e => ?_)).trans h.cfg, ⟨far gi gil h.gin.1, h.gin.2⟩, ⟨far gr grl h.grn.1, h.grn.2⟩, ⟨far gc gcl h.gcn.1, h.gcn.2⟩, fun x hx => ?_, h.bel.trans (t.chg.below h.bel.size (fun x e => ?_)), h.lst⟩
  · rcases e with e | e
    · exact h.gin.1 (.inl e)
    · exact h.gin.2 e
  · rcases e with e | e
    · exact h.gcn.1 (.inl e)
    · exact h.gcn.2 e
  · rcases t.own x hx with q | q
    · exact h.lo x q
    · have := h.bel.size; omega
  · rcases e with e | e
    · exact h.lo x e
    · rw [e]; exact h.grn.2
theorem LvM.below (h : LvM w0 wr b n gi gr gc C cl s m v cs z bs) (hb : Below wr.heap.size wr w1) : LvM w0 w1 b n gi gr gc C cl s m v cs z bs := h.turn (lTook_same h.ses hb) (h.ch.below hb)
/-- The configuration in a new block. -/
theorem LvM.box (h : LvM w0 wr b n gi gr gc C cl s m v cs z bs) (hb : Below wr.heap.size wr w1) (hr : w1.heap[wr.heap.size]? = some (.cells #[.int .i64 C.N, .int .i64 C.T, .int .i64 C.M, .int .i64 C.D] 26 (0, 0))) : LvM w0 w1 b n gi gr wr.heap.size C cl s m v cs z bs :=
  { h.below hb with cfg := hr, gcn := ⟨fun e => by have := h.ses.low e; omega, by have := h.ch.lt; omega⟩ }
theorem LvM.list (h : LvM w0 wr b n gi gr gc C cl s m v cs z bs) : ListAt wr v cs := h.lst.below h.bel
end

/-- What a parcel in flight can be. -/
theorem fp_bd {C : Srv.Cf} {cl : Nat → Cli.Cl} {n : Nat} {s : Sn} {ph : Nat → Nat} (h : HI C cl n s ph) (hC : Cast C cl n) : ∀ p ∈ s.fl, (0 ≤ p.1 ∧ p.1 ≤ 100) ∧ (0 ≤ p.2.1 ∧ p.2.1 ≤ 100) := fun p hp => by
  have hn := hC.le.2
  rcases h.fl p hp with ⟨i, r, hi, hr, rfl⟩ | ⟨i, r, hi, hr, hm, rfl⟩
  · show (0 ≤ (i : Int) + 1 ∧ (i : Int) + 1 ≤ 100) ∧ ((0 : Int) ≤ 0 ∧ (0 : Int) ≤ 100); omega
  · show ((0 : Int) ≤ 0 ∧ (0 : Int) ≤ 100) ∧ (0 ≤ (i : Int) + 1 ∧ (i : Int) + 1 ≤ 100); omega
theorem deliverN_at {C : Srv.Cf} {cl : Nat → Cli.Cl} {n : Nat} {s : Sn} {j : Nat} {p : Pk} (h : s.fl[j]? = some p) : deliverN C cl n s (j : Int) = rcv C cl n { s with fl := s.fl.eraseIdx j } p.2.1 p.2.2 ∧ deliverE s (j : Int) = 0 := by
  have hj := (List.getElem?_eq_some_iff.1 h).1
  unfold deliverN deliverE
  rw [if_pos (show 0 ≤ (j : Int) ∧ (j : Int) < (s.fl.length : Int) by omega), if_pos (show 0 ≤ (j : Int) ∧ (j : Int) < (s.fl.length : Int) by omega), show ((j : Int)).toNat = j by omega, h]
  exact ⟨rfl, rfl⟩
theorem dropN_at {s : Sn} {j : Nat} {p : Pk} (h : s.fl[j]? = some p) : dropN s (j : Int) = { s with fl := s.fl.eraseIdx j } := by
  have hj := (List.getElem?_eq_some_iff.1 h).1
  unfold dropN
  rw [if_pos (show 0 ≤ (j : Int) ∧ (j : Int) < (s.fl.length : Int) by omega), show ((j : Int)).toNat = j by omega]

end Go.Proofs.YtchideljndagjabGreat

namespace Go.Proofs.YtchideljndagjabGreat
open Go.ChangeShapes Go.WideShapes Go.ChangeAt Go.RowKit
set_option linter.unusedVariables false

/-- The session has gone on within the round. -/
structure LvD (w w' : World) (b n gr : Nat) (C : Srv.Cf) (cl : Nat → Cli.Cl) (f : Nat → Bool) (k : Nat) (v : Value) (s s' : Sn) (ph' : Nat → Nat) (m m' : SM) (z' zz : Nat) : Prop where
  took : LTook w w' b n gr C cl s' m m'
  ch : ChAt w' gr v z'
  zl : z' ≤ zz
  li : LI C cl n f k s' ph'
  tm : s'.q.tm = s.q.tm
  phi : Phi n f s'.fl ≤ Phi n f s.fl
section
variable {w w1 w2 : World} {b n gr : Nat} {C : Srv.Cf} {cl : Nat → Cli.Cl} {f : Nat → Bool} {k : Nat} {v : Value} {s s1 s2 : Sn} {ph ph1 ph2 : Nat → Nat} {m m1 m2 : SM} {z z1 z2 zz zy : Nat}
theorem LvD.grow (h : LvD w w1 b n gr C cl f k v s s1 ph1 m m1 z zz) (hb : Below w1.heap.size w1 w2) : LvD w w2 b n gr C cl f k v s s1 ph1 m m1 z zz :=
  ⟨h.took.trans (lTook_same h.took.ses hb), h.ch.below hb, h.zl, h.li, h.tm, h.phi⟩
theorem LvD.cho (h : LvD w w1 b n gr C cl f k v s s1 ph1 m m1 z zz) (hg : ¬ SesFoot b n m1 gr) (hc : Chg (fun x => x = gr) w1 w2) (c : ChAt w2 gr v z1) (hz : z1 ≤ zy) : LvD w w2 b n gr C cl f k v s s1 ph1 m m1 z1 zy :=
  ⟨h.took.trans (lTook_cho h.took.ses hg hc), c, hz, h.li, h.tm, h.phi⟩
theorem LvD.on (h : LvD w w1 b n gr C cl f k v s s1 ph1 m m1 z zz) (hg : ¬ SesFoot b n m1 gr) (ht : SesTook w1 w2 b n C cl s2 m1 m2) (li : LI C cl n f k s2 ph2) (tm : s2.q.tm = s1.q.tm) (phi : Phi n f s2.fl ≤ Phi n f s1.fl) : LvD w w2 b n gr C cl f k v s s2 ph2 m m2 z zz :=
  ⟨h.took.trans (lTook_ses ht), h.ch.block (ht.chg.block gr h.ch.lt (fun e => hg (.inl e))), h.zl, li, tm.trans h.tm, Nat.le_trans phi h.phi⟩
end

set_option maxHeartbeats 4000000 in
set_option maxRecDepth 100000 in
theorem kothers_calls {w0 w : World} {b n gi gr gc : Nat} {N T M D : Int} {cl : Nat → Cli.Cl} {s : Sn} {m : SM} {v : Value} {cs : List Int} {z : Nat} {bs : List Bool} {k : Nat} {ph : Nat → Nat} (hC : Cast ⟨N, T, M, D⟩ cl n) (h : LvM w0 w b n gi gr gc ⟨N, T, M, D⟩ cl s m v cs z bs) (li : LI ⟨N, T, M, D⟩ cl n (fun u => bs.getD u false) k s ph) (hz : z ≤ 100000) :
    Calls Tryz.prog 41 #[.pointer (some ⟨b, 0, none⟩), .agg #[.int .i64 N, .int .i64 T, .int .i64 M, .int .i64 D], .slice (some ⟨gi, 0, none⟩) (n + 1) (n + 1), .pointer (some ⟨gr, 0, none⟩)] w fun e w' => e = .returned (.tuple #[]) ∧ ∃ s' ph' m' z', LvD w w' b n gr ⟨N, T, M, D⟩ cl (fun u => bs.getD u false) k v s s' ph' m m' z' (z + 4) := by
  have hn := hC.le.2
  have HNN := hideG (show N = (n : Int) from hC.num)
  have hN : 1 ≤ N ∧ N ≤ 12 := hC.gc.n
  have HC := hideG hC
  have HLI := hideG li
  have hfl : s.fl.length ≤ 300 := by have := li.hi.ok.fl; omega
  have HPB := hideG (fp_bd li.hi hC)
  obtain ⟨W0, hW0⟩ : ∃ W0, W0 = w.alloc (.cells #[.int .i64 N, .int .i64 T, .int .i64 M, .int .i64 D] 26) := ⟨_, rfl⟩
  have b0 : Below w.heap.size w W0 := by rw [hW0]; exact (Below.refl _ _).alloc (Nat.le_refl _) _
  have z0 : w.heap.size < W0.heap.size := by rw [hW0]; simp
  have hr0 : W0.heap[w.heap.size]? = some (.cells #[.int .i64 N, .int .i64 T, .int .i64 M, .int .i64 D] 26 (0, 0)) := by rw [hW0]; exact heap_alloc_new w _
  have M0 := hideG (h.box b0 hr0)
  have D0 := hideG (show LvD w W0 b n gr ⟨N, T, M, D⟩ cl (fun u => bs.getD u false) k v s s ph m m z z from ⟨lTook_same h.ses b0, h.ch.below b0, Nat.le_refl _, li, rfl, Nat.le_refl _⟩)
  have HFL := hideG (flight_at M0.out.ses li.hi.ok (Below.refl W0.heap.size W0))
  have hgrl : gr < w.heap.size := h.ch.lt
  have HW0 := hideG hW0
  obtain ⟨gk, hgk⟩ : ∃ gk, gk = w.heap.size := ⟨_, rfl⟩
  rw [← hgk] at M0
  clear hC li h hW0 b0 hr0
  go_enter Tryz.func41, Tryz.ntmps41
  go_upto_region 1 with fail
  rw [← HW0.out, ← hgk]
  clear hgk
  go_wp2_with fail
  refine HFL.out.mono ?_
  rintro e w1 ⟨v1, vs1, rfl, hpk, hb1⟩
  have M1 := hideG (M0.out.below hb1)
  have D1 := hideG (D0.out.grow hb1)
  have PK1 := hideG hpk
  obtain ⟨a1, c1, hv1, l1, l2, -⟩ := hpk.viewK
  rw [hv1] at PK1 ⊢
  obtain ⟨L, hL⟩ : ∃ L, L = s.fl.length := ⟨_, rfl⟩
  rw [← hL] at hfl l1 PK1 ⊢
  have HL := hideG hL
  have HN1 := hideG (knext_calls M1.out.ch M1.out.list (by omega) (L : Int) ⟨by omega, by omega⟩)
  clear hpk hb1 hv1 hL
  go_wp2_with fail
  refine HN1.out.mono ?_
  rintro e w2 ⟨x, rfl, z1, c2, hz1, hx1, hx2, hc2⟩
  have M2 := hideG (M1.out.turn (lTook_cho M1.out.ses M1.out.grn.1 hc2) c2)
  have D2 := hideG (D1.out.cho M1.out.grn.1 hc2 c2 (show z1 ≤ z + 1 by omega))
  have PK2 := hideG (PK1.out.chg hc2 (fun y hy e => by
    have hy1 := (PK1.out.low y hy).1
    have hy2 : y = gr := e
    omega))
  have hxb : 0 ≤ x ∧ x ≤ 300 := by
    by_cases q : 1 ≤ (L : Int)
    · have := hx1 q; omega
    · have := hx2 (by omega); omega
  have HN2 := hideG (knextOf_calls hn M2.out.row PK2.out (by have := HL.out; omega) HPB.out false x hxb)
  clear c2 hx1 hx2 hc2
  go_wp2_with fail
  refine HN2.out.mono ?_
  rintro e w3 ⟨zi, rfl, hzi, hb3⟩
  have M3 := hideG (M2.out.below hb3)
  have D3 := hideG (D2.out.grow hb3)
  have HZI := hideG hzi
  have HN3 := hideG (knext_calls M3.out.ch M3.out.list (by omega) 5 ⟨by decide, by decide⟩)
  clear hb3 hzi
  go_wp2_with fail
  refine HN3.out.mono ?_
  rintro e w4 ⟨wh, rfl, z2, c4, hz2, hw1, -, hc4⟩
  have hwb := hw1 (by decide)
  have M4 := hideG (M3.out.turn (lTook_cho M3.out.ses M3.out.grn.1 hc4) c4)
  have D4 := hideG (D3.out.cho M3.out.grn.1 hc4 c4 (show z2 ≤ z + 2 by omega))
  clear hw1 c4 hc4
  have HDV := hideG (fun (j : Nat) (p : Pk) (hj : s.fl[j]? = some p) => (show Calls Tryz.prog 32 #[.pointer (some ⟨b, 0, none⟩), .int .i64 (j : Int)] w4 (fun e w' => e = .returned (.int .i64 0) ∧ ∃ s' ph' m', LvM w0 w' b n gi gr gk ⟨N, T, M, D⟩ cl s' m' v cs z2 bs ∧ LvD w w' b n gr ⟨N, T, M, D⟩ cl (fun u => bs.getD u false) k v s s' ph' m m' z2 (z + 2)) from
    (vDeliver M4.out.ses HLI.out.hi.ok (j : Int)).mono (fun e w' ⟨h1, m', h2⟩ => by
      rw [(deliverN_at (C := ⟨N, T, M, D⟩) (cl := cl) (n := n) hj).2] at h1
      rw [(deliverN_at hj).1] at h2
      obtain ⟨ph', q1, q2, q3⟩ := HLI.out.deliver HC.out hj
      have DD := D4.out.on M4.out.grn.1 h2 q1 q2 (by omega)
      exact ⟨h1, _, ph', m', M4.out.turn (lTook_ses h2) DD.ch, DD⟩)))
  go_upto_region 4 with fail
  go_cut [28] from 23 to 27 (fun q wg => q = .bool (decide (0 ≤ zi) && decide (wh < 2)) ∧ w4 = wg)
  case first =>
    by_cases q1 : 0 ≤ zi
    · by_cases q2 : wh < 2
      · go_wp2_with fail
        go_meet
        exact ⟨by rw [decide_eq_true (by omega), decide_eq_true (by omega)]; rfl, rfl⟩
      · go_wp2_with fail
        go_meet
        exact ⟨by rw [decide_eq_true q1, decide_eq_false (by omega)]; rfl, rfl⟩
    · go_wp2_with fail
      go_meet
      exact ⟨by rw [decide_eq_false (by omega)]; rfl, rfl⟩
  case rest =>
  obtain ⟨hq, hwg⟩ := hcut
  subst hwg
  obtain ⟨cb, hcb⟩ : ∃ cb, (decide (0 ≤ zi) && decide (wh < 2)) = cb := ⟨_, rfl⟩
  rw [hcb] at hq
  subst hq
  have HCB := hideG hcb
  clear hcb
  go_upto_if 28 with fail
  go_cut [9, 10] from 29 to 31 (fun q r wd => q = .int .i64 zi ∧ r = .int .i64 wh ∧ ∃ s' ph' m', LvM w0 wd b n gi gr gk ⟨N, T, M, D⟩ cl s' m' v cs z2 bs ∧ LvD w wd b n gr ⟨N, T, M, D⟩ cl (fun u => bs.getD u false) k v s s' ph' m m' z2 (z + 2) ∧ (2 ≤ wh → s' = s))
  case first =>
    have FIN := hideG (show ∃ s' ph' m', LvM w0 w4 b n gi gr gk ⟨N, T, M, D⟩ cl s' m' v cs z2 bs ∧ LvD w w4 b n gr ⟨N, T, M, D⟩ cl (fun u => bs.getD u false) k v s s' ph' m m' z2 (z + 2) ∧ (2 ≤ wh → s' = s) from ⟨s, _, m, M4.out, D4.out, fun _ => rfl⟩)
    cases cb
    rotate_left
    · have q12 : 0 ≤ zi ∧ wh < 2 := by simpa using HCB.out
      have q1 := q12.1
      have q2 := q12.2
      · obtain ⟨j, p, hj, hp, -⟩ : ∃ (j : Nat) (p : Pk), zi = (j : Int) ∧ s.fl[j]? = some p ∧ ofB n (fun u => bs.getD u false) p = false := by
          rcases HZI.out with ⟨q, _⟩ | q
          · omega
          · exact q
        subst hj
        have HDJ := hideG (HDV.out j p hp)
        clear hp
        go_wp2_with fail
        refine HDJ.out.mono ?_
        rintro e w5 ⟨rfl, s', ph', m', r1, r2⟩
        have FIN2 := hideG (show ∃ s' ph' m', LvM w0 w5 b n gi gr gk ⟨N, T, M, D⟩ cl s' m' v cs z2 bs ∧ LvD w w5 b n gr ⟨N, T, M, D⟩ cl (fun u => bs.getD u false) k v s s' ph' m m' z2 (z + 2) ∧ (2 ≤ wh → s' = s) from ⟨s', ph', m', r1, r2, fun e => absurd e (by omega)⟩)
        clear r1 r2
        go_wp2_with fail
        go_meet
        exact ⟨rfl, rfl, FIN2.out⟩
    · go_wp2_with fail
      go_meet
      exact ⟨rfl, rfl, FIN.out⟩
  case rest =>
    obtain ⟨hq, hr, s1, ph1, m1, hM5, hD5, hs5⟩ := hcut
    subst hq
    subst hr
    have M5 := hideG hM5
    have D5 := hideG hD5
    have HS5 := hideG hs5
    clear hM5 hD5 hs5
    have HDR := hideG (fun (j : Nat) (p : Pk) (e2 : wh = 2) (hj : s.fl[j]? = some p) (ho : ofB n (fun u => bs.getD u false) p = false) => (show Calls Tryz.prog 33 #[.pointer (some ⟨b, 0, none⟩), .int .i64 (j : Int)] wc (fun e w' => e = .returned (.int .i64 0) ∧ ∃ s' ph' m', LvM w0 w' b n gi gr gk ⟨N, T, M, D⟩ cl s' m' v cs z2 bs ∧ LvD w w' b n gr ⟨N, T, M, D⟩ cl (fun u => bs.getD u false) k v s s' ph' m m' z2 (z + 2)) from by
      have es : s1 = s := HS5.out (by omega)
      have hj1 : s1.fl[j]? = some p := by rw [es]; exact hj
      exact (vDrop M5.out.ses D5.out.li.hi.ok (j : Int)).mono (fun e w' ⟨h1, m', h2⟩ => by
        rw [(deliverN_at (C := ⟨N, T, M, D⟩) (cl := cl) (n := n) hj1).2] at h1
        rw [dropN_at hj1] at h2
        obtain ⟨r1, r2⟩ := D5.out.li.drop hj1 ho
        have DD := D5.out.on M5.out.grn.1 h2 r1 rfl r2
        exact ⟨h1, _, _, m', M5.out.turn (lTook_ses h2) DD.ch, DD⟩)))
    go_upto_region 6 with fail
    go_cut [37] from 32 to 36 (fun q wg => q = .bool (decide (0 ≤ zi) && decide (wh = 2)) ∧ wc = wg)
    case first =>
      by_cases q1 : 0 ≤ zi
      · by_cases q2 : wh = 2
        · subst q2
          go_wp2_with fail
          go_meet
          exact ⟨by rw [decide_eq_true (by omega)]; rfl, rfl⟩
        · have q2' : (wh == 2) = false := by simpa using q2
          go_wp2_with fail
          go_meet
          exact ⟨by rw [decide_eq_true q1, decide_eq_false (by omega)]; rfl, rfl⟩
      · go_wp2_with fail
        go_meet
        exact ⟨by rw [decide_eq_false (by omega)]; rfl, rfl⟩
    case rest =>
    obtain ⟨hq, hwg⟩ := hcut
    subst hwg
    obtain ⟨cd, hcd⟩ : ∃ cd, (decide (0 ≤ zi) && decide (wh = 2)) = cd := ⟨_, rfl⟩
    rw [hcd] at hq
    subst hq
    have HCD := hideG hcd
    clear hcd
    go_upto_if 37 with fail
    go_cut [10] from 38 to 40 (fun r wd => r = .int .i64 wh ∧ ∃ s' ph' m', LvM w0 wd b n gi gr gk ⟨N, T, M, D⟩ cl s' m' v cs z2 bs ∧ LvD w wd b n gr ⟨N, T, M, D⟩ cl (fun u => bs.getD u false) k v s s' ph' m m' z2 (z + 2))
    case first =>
      have FIN := hideG (show ∃ s' ph' m', LvM w0 wc b n gi gr gk ⟨N, T, M, D⟩ cl s' m' v cs z2 bs ∧ LvD w wc b n gr ⟨N, T, M, D⟩ cl (fun u => bs.getD u false) k v s s' ph' m m' z2 (z + 2) from ⟨s1, ph1, m1, M5.out, D5.out⟩)
      cases cd
      rotate_left
      · have q12 : 0 ≤ zi ∧ wh = 2 := by simpa using HCD.out
        have q1 := q12.1
        have q2 := q12.2
        · obtain ⟨j, p, hj, hp, ho⟩ : ∃ (j : Nat) (p : Pk), zi = (j : Int) ∧ s.fl[j]? = some p ∧ ofB n (fun u => bs.getD u false) p = false := by
            rcases HZI.out with ⟨q, _⟩ | q
            · omega
            · exact q
          subst hj
          have HDJ := hideG (HDR.out j p q2 hp ho)
          subst q2
          clear hp ho
          go_wp2_with fail
          refine HDJ.out.mono ?_
          rintro e w5 ⟨rfl, r1⟩
          have FIN2 := hideG r1
          clear r1
          go_wp2_with fail
          go_meet
          exact ⟨rfl, FIN2.out⟩
      · go_wp2_with fail
        go_meet
        exact ⟨rfl, FIN.out⟩
    case rest =>
      obtain ⟨hr, s2, ph2, m2, hM6, hD6⟩ := hcut
      subst hr
      have M6 := hideG hM6
      have D6 := hideG hD6
      obtain ⟨⟨x0, -⟩, -⟩ := cells_four hM6.cfg
      have hgl6 := hM6.gcl
      have HN4 := hideG (knext_calls hM6.ch hM6.list (by omega) N ⟨by omega, by omega⟩)
      clear hM6 hD6
      go_wp2_with fail
      refine HN4.out.mono ?_
      rintro e w7 ⟨y, rfl, z3, c7, hz3, hy1, -, hc7⟩
      have hyb := hy1 (by omega)
      have M7 := hideG (M6.out.turn (lTook_cho M6.out.ses M6.out.grn.1 hc7) c7)
      have D7 := hideG (D6.out.cho M6.out.grn.1 hc7 c7 (show z3 ≤ z + 3 by omega))
      obtain ⟨u, hu⟩ : ∃ u : Nat, 1 + y = ((u + 1 : Nat) : Int) := ⟨y.toNat, by omega⟩
      have hu12 : u + 1 < n + 1 := by have := HNN.out; omega
      obtain ⟨b0, -⟩ := M7.out.row.cell (u + 1) hu12
      have HFU := hideG (show bs.getD (u + 1) false = bs.getD (u + 1) false from rfl)
      obtain ⟨uu, huu⟩ : ∃ uu, uu = u + 1 := ⟨_, rfl⟩
      have HUU := hideG huu
      rw [← huu] at b0 HFU hu12 hu
      have hgi := M7.out.row.lt.2
      have hu' : (uu : Int) < ((n + 1 : Nat) : Int) := by omega
      clear hy1 c7 hc7 x0 huu
      obtain ⟨bb, hbb⟩ : ∃ bb, bb = bs.getD uu false := ⟨_, rfl⟩
      rw [← hbb] at b0
      have HBB := hideG hbb
      have FIN := hideG (show ∃ s' ph' m' z', LvD w w7 b n gr ⟨N, T, M, D⟩ cl (fun u => bs.getD u false) k v s s' ph' m m' z' (z + 4) from ⟨s2, ph2, m2, z3, { D7.out with zl := by have := D7.out.zl; omega }⟩)
      have HN5 := hideG (knext_calls M7.out.ch M7.out.list (by omega) 4 ⟨by decide, by decide⟩)
      have HCR := hideG (fun (w8 : World) (z4 : Nat) (c8 : ChAt w8 gr v z4) (hz4 : z4 ≤ z + 4) (hc8 : Chg (fun x => x = gr) w7 w8) (hb0 : bb = false) => (show Calls Tryz.prog 36 #[.pointer (some ⟨b, 0, none⟩), .int .i64 (uu : Int)] w8 (fun e w' => e = .returned (.int .i64 0) ∧ ∃ s' ph' m' z', LvD w w' b n gr ⟨N, T, M, D⟩ cl (fun u => bs.getD u false) k v s s' ph' m m' z' (z + 4)) from by
        have D8 := D7.out.cho M7.out.grn.1 hc8 c8 hz4
        have M8 := M7.out.turn (lTook_cho M7.out.ses M7.out.grn.1 hc8) c8
        refine (vCrash M8.ses D8.li.hi.ok (uu : Int)).mono (fun e w' ⟨h1, m', h2⟩ => ?_)
        have hb : 1 ≤ (uu : Int) ∧ (uu : Int) ≤ (n : Int) := by have := HUU.out; omega
        have e1 : crashE n (uu : Int) = 0 := if_pos hb
        have e2 : crashU n s2 (uu : Int) = crashN s2 u := by unfold crashU; rw [if_pos hb, show ((uu : Int)).toNat - 1 = u by have := HUU.out; omega]
        rw [e1] at h1
        rw [e2] at h2
        have hl := D8.li.crash u (by show bs.getD (u + 1) false = false; rw [← HUU.out, ← HBB.out]; exact hb0)
        exact ⟨h1, _, _, m', z4, D8.on M8.grn.1 h2 hl rfl (Nat.le_refl _)⟩))
      have FINC := hideG (fun (w8 : World) (z4 : Nat) (c8 : ChAt w8 gr v z4) (hz4 : z4 ≤ z + 4) (hc8 : Chg (fun x => x = gr) w7 w8) => (show ∃ s' ph' m' z', LvD w w8 b n gr ⟨N, T, M, D⟩ cl (fun u => bs.getD u false) k v s s' ph' m m' z' (z + 4) from ⟨s2, ph2, m2, z4, D7.out.cho M7.out.grn.1 hc8 c8 hz4⟩))
      clear hbb
      go_upto_region 9 with fail
      (try rw [hu])
      by_cases q3 : wh = 3
      · subst q3
        cases bb
        · go_wp2_with fail
          refine HN5.out.mono ?_
          rintro e w8 ⟨y4, rfl, z4, c8, hz4, -, -, hc8⟩
          have HCX := hideG (HCR.out w8 z4 c8 (by omega) hc8 (by first | exact trivial | rfl))
          have FX := hideG (FINC.out w8 z4 c8 (by omega) hc8)
          clear c8 hc8
          by_cases q4 : y4 = 0
          · subst q4
            go_wp2_with fail
            refine HCX.out.mono ?_
            rintro e w9 ⟨rfl, r1⟩
            have FIN3 := hideG r1
            clear r1
            go_wp2_with fail
            go_end0
            exact ⟨rfl, FIN3.out⟩
          · go_wp2_with fail
            go_end0
            exact ⟨rfl, FX.out⟩
        · go_wp2_with fail
          go_end0
          exact ⟨rfl, FIN.out⟩
      · go_wp2_with fail
        go_end0
        exact ⟨rfl, FIN.out⟩

end Go.Proofs.YtchideljndagjabGreat

namespace Go.Proofs.YtchideljndagjabGreat
open Go.ChangeShapes Go.WideShapes Go.ChangeAt Go.RowKit
set_option linter.unusedVariables false

/-- What a round leaves of the session. -/
def RdEnd (C : Srv.Cf) (cl : Nat → Cli.Cl) (n : Nat) (f : Nat → Bool) (k : Nat) (s : Sn) : Prop :=
  (k < 3 ∧ ∃ ph, LI C cl n f (k + 1) s ph ∧ s.q.tm = C.D * ((k + 1 : Nat) : Int) ∧ Phi n f s.fl ≤ 2 * n) ∨ (k = 3 ∧ SnOk C cl n s ∧ ∃ G : Nat → Bool, s.q.out = doneO C cl n G ∧ ∀ i, i < n → f (i + 1) = true → G (i + 1) = true)
section
variable {C : Srv.Cf} {cl : Nat → Cli.Cl} {n : Nat} {f : Nat → Bool} {k : Nat} {s : Sn} {ph : Nat → Nat}
theorem rd_end (hC : Cast C cl n) (h : LI C cl n f k s ph) (h0 : Phi n f s.fl = 0) (hT : C.T ≤ (szN f n : Int)) (ht : s.q.tm + 1 = C.D * ((k : Int) + 1)) (hk : k ≤ 3) : RdEnd C cl n f k (tickN C s) := by
  by_cases c : k < 3
  · obtain ⟨a1, a2, a3⟩ := h.next hC h0 hT ht c
    refine .inl ⟨c, ph, a1, ?_, a3⟩
    rw [a2, ht]
    rfl
  · have e : k = 3 := by omega
    subst e
    obtain ⟨a1, a2⟩ := h.last hC h0 hT ht
    obtain ⟨b1, _⟩ := h.hi.tick hC
    exact .inr ⟨rfl, b1.ok, _, a1, a2⟩
end

set_option maxHeartbeats 4000000 in
set_option maxRecDepth 100000 in
theorem kround_calls {w0 w : World} {b n gi gr gc : Nat} {N T M D : Int} {cl : Nat → Cli.Cl} {s : Sn} {m : SM} {v : Value} {cs : List Int} {z : Nat} {bs : List Bool} {k : Nat} {ph : Nat → Nat} (hC : Cast ⟨N, T, M, D⟩ cl n) (h : LvM w0 w b n gi gr gc ⟨N, T, M, D⟩ cl s m v cs z bs) (li : LI ⟨N, T, M, D⟩ cl n (fun u => bs.getD u false) k s ph) (hz : z ≤ 50000) (hk : k ≤ 3) (htm : s.q.tm = D * (k : Int)) (hphi : Phi n (fun u => bs.getD u false) s.fl ≤ 2 * n) (hT : T ≤ (szN (fun u => bs.getD u false) n : Int)) :
    Calls Tryz.prog 18 #[.pointer (some ⟨b, 0, none⟩), .agg #[.int .i64 N, .int .i64 T, .int .i64 M, .int .i64 D], .slice (some ⟨gi, 0, none⟩) (n + 1) (n + 1), .pointer (some ⟨gr, 0, none⟩)] w fun e w' => e = .returned (.bool true) ∧ ∃ s' m' z', LTook w w' b n gr ⟨N, T, M, D⟩ cl s' m m' ∧ ChAt w' gr v z' ∧ z' ≤ z + 1000 ∧ RdEnd ⟨N, T, M, D⟩ cl n (fun u => bs.getD u false) k s' := by
  have hn := hC.le.2
  have HNN := hideG (show N = (n : Int) from hC.num)
  have hN : 1 ≤ N ∧ N ≤ 12 := hC.gc.n
  have hD : 1 ≤ D ∧ D ≤ 50 := hC.gc.d
  have HC := hideG hC
  have HT := hideG hT
  have hdk : D * ((k : Int) + 1) = D * (k : Int) + D := by rw [Int.mul_add, Int.mul_one]
  have HDK := hideG hdk
  obtain ⟨DK, hDK⟩ : ∃ DK, DK = D * (k : Int) := ⟨_, rfl⟩
  have HDE := hideG hDK
  have hDKb : 0 ≤ DK ∧ DK ≤ 150 := by
    rw [hDK]
    exact ⟨Int.mul_nonneg (by omega) (by omega), Int.le_trans (Int.mul_le_mul hD.2 (show (k : Int) ≤ 3 by omega) (by omega) (by omega)) (by omega)⟩
  rw [← hDK] at htm
  obtain ⟨W0, hW0⟩ : ∃ W0, W0 = w.alloc (.cells #[.int .i64 N, .int .i64 T, .int .i64 M, .int .i64 D] 26) := ⟨_, rfl⟩
  have b0 : Below w.heap.size w W0 := by rw [hW0]; exact (Below.refl _ _).alloc (Nat.le_refl _) _
  have z0 : w.heap.size < W0.heap.size := by rw [hW0]; simp
  have hr0 : W0.heap[w.heap.size]? = some (.cells #[.int .i64 N, .int .i64 T, .int .i64 M, .int .i64 D] 26 (0, 0)) := by rw [hW0]; exact heap_alloc_new w _
  have M0 := hideG (h.box b0 hr0)
  have T0 := hideG (show LTook w W0 b n gr ⟨N, T, M, D⟩ cl s m m from lTook_same h.ses b0)
  have HW0 := hideG hW0
  have HLI := hideG li
  have HPH := hideG hphi
  obtain ⟨gk, hgk⟩ : ∃ gk, gk = w.heap.size := ⟨_, rfl⟩
  rw [← hgk] at M0
  obtain ⟨⟨x0, x1, x2, x3⟩, -⟩ := cells_four M0.out.cfg
  have hgl0 := M0.out.gcl
  have HN1 := hideG (knext_calls M0.out.ch M0.out.list (by omega) D ⟨by omega, by omega⟩)
  clear hC h li hW0 b0 hr0 hphi hT hdk hDK
  go_enter Tryz.func18, Tryz.ntmps18
  go_upto_region 1 with fail
  rw [← HW0.out, ← hgk]
  clear hgk
  go_wp2_with fail
  refine HN1.out.mono ?_
  rintro e w1 ⟨wt, rfl, z1, c1, hz1, hw1, -, hc1⟩
  have hwb := hw1 (by omega)
  have M1 := hideG (M0.out.turn (lTook_cho M0.out.ses M0.out.grn.1 hc1) c1)
  have T1 := hideG (T0.out.trans (lTook_cho M0.out.ses M0.out.grn.1 hc1))
  clear hw1 c1 hc1 x0 x1 x2 x3
  go_wp2_with fail
  go_loopw [10] (fun i wr => ∃ (t : Nat) (s1 : Sn) (m1 : SM), (t : Int) ≤ wt ∧ i = .int .i64 (t : Int) ∧ LvM w0 wr b n gi gr gk ⟨N, T, M, D⟩ cl s1 m1 v cs z1 bs ∧ LTook w wr b n gr ⟨N, T, M, D⟩ cl s1 m m1 ∧ LI ⟨N, T, M, D⟩ cl n (fun u => bs.getD u false) k s1 ph ∧ s1.q.tm = DK + t ∧ s1.fl = s.fl) (fun i _ => wt.toNat - (intOf i).toNat)
  case atStart => exact ⟨0, s, m, by omega, rfl, M1.out, T1.out, HLI.out, by omega, rfl⟩
  case round =>
    obtain ⟨t, s1, m1, ht, rfl, hM, hTk, hL, htm1, hfl1⟩ := hrel
    have MR := hideG hM
    have TR := hideG hTk
    have LR := hideG hL
    have FR := hideG hfl1
    clear hM hTk hL hfl1
    by_cases hlt : (t : Int) < wt
    · have HTI := hideG (vTick MR.out.ses LR.out.hi.ok)
      have HST := hideG (LR.out.tick HC.out (show s1.q.tm + 1 < D * ((k : Int) + 1) by rw [HDK.out, ← HDE.out]; omega))
      go_wp2_with fail
      refine HTI.out.mono ?_
      rintro e w2 ⟨rfl, m2, ht2⟩
      have FIN := hideG (show LvM w0 w2 b n gi gr gk ⟨N, T, M, D⟩ cl (tickN ⟨N, T, M, D⟩ s1) m2 v cs z1 bs ∧ LTook w w2 b n gr ⟨N, T, M, D⟩ cl (tickN ⟨N, T, M, D⟩ s1) m m2 ∧ LI ⟨N, T, M, D⟩ cl n (fun u => bs.getD u false) k (tickN ⟨N, T, M, D⟩ s1) ph ∧ (tickN ⟨N, T, M, D⟩ s1).q.tm = DK + ((t + 1 : Nat) : Int) ∧ (tickN ⟨N, T, M, D⟩ s1).fl = s.fl from by
        obtain ⟨r1, r2, r3⟩ := HST.out
        exact ⟨MR.out.turn (lTook_ses ht2) (MR.out.ch.block (ht2.chg.block gr MR.out.ch.lt (fun e => MR.out.grn.1 (.inl e)))), TR.out.trans (lTook_ses ht2), r1, by rw [r2, htm1]; omega, r3.trans FR.out⟩)
      clear ht2
      go_wp2_with fail
      go_roundw
      case rel => exact ⟨t + 1, _, m2, by omega, by go_num, FIN.out⟩
      case measure => simp [intOf]; omega
    · have htw : (t : Int) = wt := by omega
      have START := hideG (show LvM w0 wr b n gi gr gk ⟨N, T, M, D⟩ cl s1 m1 v cs z1 bs ∧ LTook w wr b n gr ⟨N, T, M, D⟩ cl s1 m m1 ∧ LI ⟨N, T, M, D⟩ cl n (fun u => bs.getD u false) k s1 ph ∧ s1.q.tm = DK + wt ∧ 0 + Phi n (fun u => bs.getD u false) s1.fl ≤ 2 * n from ⟨MR.out, TR.out, LR.out, by rw [htm1, htw], by rw [FR.out]; have := HPH.out; omega⟩)
      clear htm1 MR TR LR FR
      go_wp2_with fail
      go_loopw [11, 12] (fun en i wq => ∃ (eb : Bool) (j : Nat) (s2 : Sn) (ph2 : Nat → Nat) (m2 : SM) (z2 : Nat), en = .bool eb ∧ i = .int .i64 (j : Int) ∧ j ≤ 2 * n + 1 ∧ z2 ≤ z + 1 + 5 * j ∧ LvM w0 wq b n gi gr gk ⟨N, T, M, D⟩ cl s2 m2 v cs z2 bs ∧ LTook w wq b n gr ⟨N, T, M, D⟩ cl s2 m m2 ∧ LI ⟨N, T, M, D⟩ cl n (fun u => bs.getD u false) k s2 ph2 ∧ s2.q.tm = DK + wt ∧ (eb = false → j + Phi n (fun u => bs.getD u false) s2.fl ≤ 2 * n) ∧ (eb = true → Phi n (fun u => bs.getD u false) s2.fl = 0)) (fun en i _ => 2 * n + 2 - (intOf i).toNat)
      case atStart =>
        obtain ⟨r1, r2, r3, r4, r5⟩ := START.out
        exact ⟨false, 0, s1, ph, m1, z1, rfl, rfl, by omega, by omega, r1, r2, r3, r4, fun _ => r5, fun e => by cases e⟩
      case round =>
        obtain ⟨eb, j, s2, ph2, m2, z2, rfl, rfl, hj, hz2, hM, hTk, hL, htm2, hf, ht2⟩ := hrel
        have MR := hideG hM
        have TR := hideG hTk
        have LR := hideG hL
        have FF := hideG hf
        have FT := hideG ht2
        obtain ⟨⟨x0, x1, x2, x3⟩, -⟩ := cells_four hM.cfg
        have hgl2 := hM.gcl
        clear hM hTk hL hf ht2
        have hj40 : (j : Int) < 40 * (N + 1) := by have := HNN.out; omega
        cases eb
        · have hp2 := FF.out rfl
          have HOT := hideG (kothers_calls HC.out MR.out LR.out (by omega))
          go_wp2_with fail
          refine HOT.out.mono ?_
          rintro e w3 ⟨rfl, s3, ph3, m3, z3, hD3⟩
          have D3 := hideG hD3
          have M3 := hideG (MR.out.turn hD3.took hD3.ch)
          have T3 := hideG (TR.out.trans hD3.took)
          have hz3 : z3 ≤ z + 1 + 5 * j + 4 := by have := hD3.zl; omega
          have hp3 : j + Phi n (fun u => bs.getD u false) s3.fl ≤ 2 * n := by have := hD3.phi; omega
          have HFL := hideG (flight_at M3.out.ses hD3.li.hi.ok (Below.refl w3.heap.size w3))
          have HPB := hideG (fp_bd hD3.li.hi HC.out)
          have hfl : s3.fl.length ≤ 300 := by have := hD3.li.hi.ok.fl; omega
          clear hD3 x0 x1 x2 x3
          go_wp2_with fail
          refine HFL.out.mono ?_
          rintro e w4 ⟨v4, vs4, rfl, hpk, hb4⟩
          have M4 := hideG (M3.out.below hb4)
          have T4 := hideG (T3.out.trans (lTook_same M3.out.ses hb4))
          have PK4 := hideG hpk
          obtain ⟨a4, c4, hv4, l1, l2, -⟩ := hpk.viewK
          rw [hv4] at PK4 ⊢
          obtain ⟨L, hL⟩ : ∃ L, L = s3.fl.length := ⟨_, rfl⟩
          rw [← hL] at hfl l1 PK4 ⊢
          have HL := hideG hL
          have HN2 := hideG (knext_calls M4.out.ch M4.out.list (by omega) (L : Int) ⟨by omega, by omega⟩)
          have hgr4 : gr < w3.heap.size := M3.out.ch.lt
          clear hpk hb4 hv4 hL
          go_wp2_with fail
          refine HN2.out.mono ?_
          rintro e w5 ⟨x, rfl, z5, c5, hz5, hx1, hx2, hc5⟩
          have M5 := hideG (M4.out.turn (lTook_cho M4.out.ses M4.out.grn.1 hc5) c5)
          have T5 := hideG (T4.out.trans (lTook_cho M4.out.ses M4.out.grn.1 hc5))
          have PK5 := hideG (PK4.out.chg hc5 (fun y hy e => by
            have hy1 := (PK4.out.low y hy).1
            have hy2 : y = gr := e
            omega))
          have hxb : 0 ≤ x ∧ x ≤ 300 := by
            by_cases q : 1 ≤ (L : Int)
            · have := hx1 q; omega
            · have := hx2 (by omega); omega
          have HN3 := hideG (knextOf_calls hn M5.out.row PK5.out (by have := HL.out; omega) HPB.out true x hxb)
          clear c5 hx1 hx2 hc5
          go_wp2_with fail
          refine HN3.out.mono ?_
          rintro e w6 ⟨zi, rfl, hzi, hb6⟩
          have M6 := hideG (M5.out.below hb6)
          have T6 := hideG (T5.out.trans (lTook_same M5.out.ses hb6))
          clear hb6
          by_cases hneg : zi < 0
          · have hnone : ∀ p ∈ s3.fl, ofB n (fun u => bs.getD u false) p ≠ true := by
              rcases hzi with ⟨_, q⟩ | ⟨q, p, hq, _⟩
              · exact q
              · omega
            have FIN := hideG (show Phi n (fun u => bs.getD u false) s3.fl = 0 from Phi_none (fun p hp => by
                cases q : ofB n (fun u => bs.getD u false) p
                · rfl
                · exact absurd q (hnone p hp)))
            have HTM := hideG (D3.out.tm.trans htm2)
            clear hzi hnone
            go_wp2_with fail
            go_roundw
            case rel => exact ⟨true, j + 1, s3, ph3, m3, z5, rfl, by go_num, by omega, by omega, M6.out, T6.out, D3.out.li, HTM.out, fun e => (by cases e), fun _ => FIN.out⟩
            case measure => simp [intOf]; omega
          · obtain ⟨i, p, hi, hp, ho⟩ : ∃ (i : Nat) (p : Pk), zi = (i : Int) ∧ s3.fl[i]? = some p ∧ ofB n (fun u => bs.getD u false) p = true := by
              rcases hzi with ⟨q, _⟩ | q
              · omega
              · exact q
            have HDV := hideG (show Calls Tryz.prog 32 #[.pointer (some ⟨b, 0, none⟩), .int .i64 zi] w6 (fun e w' => e = .returned (.int .i64 0) ∧ ∃ s' ph' m', LvM w0 w' b n gi gr gk ⟨N, T, M, D⟩ cl s' m' v cs z5 bs ∧ LTook w w' b n gr ⟨N, T, M, D⟩ cl s' m m' ∧ LI ⟨N, T, M, D⟩ cl n (fun u => bs.getD u false) k s' ph' ∧ s'.q.tm = DK + wt ∧ (j + 1) + Phi n (fun u => bs.getD u false) s'.fl ≤ 2 * n) from by
              rw [hi]
              refine (vDeliver M6.out.ses D3.out.li.hi.ok (i : Int)).mono (fun e w' ⟨h1, m', h2⟩ => ?_)
              rw [(deliverN_at (C := ⟨N, T, M, D⟩) (cl := cl) (n := n) hp).2] at h1
              rw [(deliverN_at hp).1] at h2
              obtain ⟨ph', q1, q2, q3⟩ := D3.out.li.deliver HC.out hp
              rw [if_pos ho] at q3
              exact ⟨h1, _, ph', m', M6.out.turn (lTook_ses h2) (M6.out.ch.block (h2.chg.block gr M6.out.ch.lt (fun e => M6.out.grn.1 (.inl e)))), T6.out.trans (lTook_ses h2), q1, q2.trans (D3.out.tm.trans htm2), by omega⟩)
            clear hzi hi hp ho
            go_wp2_with fail
            refine HDV.out.mono ?_
            rintro e w7 ⟨rfl, s7, ph7, m7, hfin⟩
            have FIN := hideG hfin
            clear hfin
            go_wp2_with fail
            go_roundw
            case rel =>
              obtain ⟨r1, r2, r3, r4, r5⟩ := FIN.out
              exact ⟨false, j + 1, s7, ph7, m7, z5, rfl, by go_num, by omega, by omega, r1, r2, r3, r4, fun _ => r5, fun e => (by cases e)⟩
            case measure => simp [intOf]; omega
        · have hph0 := FT.out rfl
          have ZZ := hideG (show z2 ≤ z + 1000 by omega)
          clear hz2
          go_wp2_with fail
          go_loopw [16] (fun i wq => ∃ (t : Nat) (s3 : Sn) (m3 : SM), (t : Int) ≤ D ∧ i = .int .i64 (t : Int) ∧ LvM w0 wq b n gi gr gk ⟨N, T, M, D⟩ cl s3 m3 v cs z2 bs ∧ LTook w wq b n gr ⟨N, T, M, D⟩ cl s3 m m3 ∧ ((t : Int) < D → LI ⟨N, T, M, D⟩ cl n (fun u => bs.getD u false) k s3 ph2 ∧ s3.q.tm = DK + t ∧ Phi n (fun u => bs.getD u false) s3.fl = 0) ∧ ((t : Int) = D → RdEnd ⟨N, T, M, D⟩ cl n (fun u => bs.getD u false) k s3)) (fun i _ => D.toNat - (intOf i).toNat)
          case atStart => exact ⟨wt.toNat, s2, m2, by omega, by rw [show ((wt.toNat : Nat) : Int) = wt by omega], MR.out, TR.out, fun _ => ⟨LR.out, by rw [htm2]; omega, hph0⟩, fun e => by omega⟩
          case round =>
            obtain ⟨t, s3, m3, ht, rfl, hM, hTk, h1, h2⟩ := hrel
            have M3 := hideG hM
            have T3 := hideG hTk
            have H2 := hideG h2
            have H1 := hideG h1
            obtain ⟨⟨x0, x1, x2, x3⟩, -⟩ := cells_four hM.cfg
            have hgl3 := hM.gcl
            clear hM hTk h1 h2
            by_cases hlt : (t : Int) < D
            · have HTI := hideG (vTick M3.out.ses (H1.out hlt).1.hi.ok)
              have FINX := hideG (fun (w4 : World) (m4 : SM) (ht4 : SesTook wr w4 b n ⟨N, T, M, D⟩ cl (tickN ⟨N, T, M, D⟩ s3) m3 m4) => (show LvM w0 w4 b n gi gr gk ⟨N, T, M, D⟩ cl (tickN ⟨N, T, M, D⟩ s3) m4 v cs z2 bs ∧ LTook w w4 b n gr ⟨N, T, M, D⟩ cl (tickN ⟨N, T, M, D⟩ s3) m m4 ∧ (((t + 1 : Nat) : Int) < D → LI ⟨N, T, M, D⟩ cl n (fun u => bs.getD u false) k (tickN ⟨N, T, M, D⟩ s3) ph2 ∧ (tickN ⟨N, T, M, D⟩ s3).q.tm = DK + ((t + 1 : Nat) : Int) ∧ Phi n (fun u => bs.getD u false) (tickN ⟨N, T, M, D⟩ s3).fl = 0) ∧ (((t + 1 : Nat) : Int) = D → RdEnd ⟨N, T, M, D⟩ cl n (fun u => bs.getD u false) k (tickN ⟨N, T, M, D⟩ s3)) from by
                obtain ⟨r1, r2, r3⟩ := H1.out hlt
                refine ⟨M3.out.turn (lTook_ses ht4) (M3.out.ch.block (ht4.chg.block gr M3.out.ch.lt (fun e => M3.out.grn.1 (.inl e)))), T3.out.trans (lTook_ses ht4), fun e => ?_, fun e => ?_⟩
                · obtain ⟨q1, q2, q3⟩ := r1.tick HC.out (show s3.q.tm + 1 < D * ((k : Int) + 1) by rw [HDK.out, ← HDE.out]; omega)
                  exact ⟨q1, by rw [q2, r2]; omega, by rw [q3]; exact r3⟩
                · exact rd_end HC.out r1 r3 HT.out (show s3.q.tm + 1 = D * ((k : Int) + 1) by rw [HDK.out, ← HDE.out]; omega) hk))
              go_wp2_with fail
              refine HTI.out.mono ?_
              rintro e w4 ⟨rfl, m4, ht4⟩
              have FIN := hideG (FINX.out w4 m4 ht4)
              clear ht4
              go_wp2_with fail
              go_roundw
              case rel => exact ⟨t + 1, _, m4, by omega, by go_num, FIN.out⟩
              case measure => simp [intOf]; omega
            · have FIN := hideG (show ∃ s' m' z', LTook w wr b n gr ⟨N, T, M, D⟩ cl s' m m' ∧ ChAt wr gr v z' ∧ z' ≤ z + 1000 ∧ RdEnd ⟨N, T, M, D⟩ cl n (fun u => bs.getD u false) k s' from ⟨s3, m3, z2, T3.out, M3.out.ch, ZZ.out, H2.out (by omega)⟩)
              go_wp2_with fail
              go_ret
              obtain ⟨s', m', z', r1, r2, r3, r4⟩ := FIN.out
              exact ⟨rfl, by first | exact ⟨s', m', z', r1, r2, r3, r4⟩ | exact ⟨s', ⟨m', r1⟩, z', r2, r3, r4⟩⟩

end Go.Proofs.YtchideljndagjabGreat

namespace Go.Proofs.YtchideljndagjabGreat
open Go.ChangeShapes Go.WideShapes Go.ChangeAt Go.RowKit
set_option linter.unusedVariables false

def setV (f : Nat → Bool) : Value := .agg (bl13 f).toArray
theorem size_set : (Tryz.prog.info? 37).map (·.size) = some 13 := by kernel_rfl

theorem bools_box (w : World) (T : TypeId) (f : Nat → Bool) : BoolsAt (w.alloc (.cells (bl13 f).toArray T)) w.heap.size T f := heap_alloc_new w _

end Go.Proofs.YtchideljndagjabGreat

namespace Go.Proofs.YtchideljndagjabGreat
open Go.ChangeShapes Go.WideShapes Go.ChangeAt Go.RowKit
set_option linter.unusedVariables false

section
variable {w : World} {b n : Nat} {C : Srv.Cf} {cl : Nat → Cli.Cl} {s : Sn} {m : SM}

end

end Go.Proofs.YtchideljndagjabGreat

namespace Go.Proofs.YtchideljndagjabGreat
open Go.ChangeShapes Go.WideShapes Go.ChangeAt Go.RowKit
set_option linter.unusedVariables false

section
variable {w : World} {b n : Nat} {C : Srv.Cf} {cl : Nat → Cli.Cl} {s : Sn} {m : SM}
end

end Go.Proofs.YtchideljndagjabGreat

namespace Go.Proofs.YtchideljndagjabGreat
open Go.ChangeShapes Go.WideShapes Go.ChangeAt Go.RowKit
set_option linter.unusedVariables false

def idV (C : Srv.Cf) (vd va vb : Value) (I : Idl) (t : Nat) : Value :=
  if t = 0 then .int .i64 C.N else if t = 1 then .int .i64 C.T else if t = 2 then .int .i64 C.M else if t = 3 then .int .i64 C.D
  else if t = 4 then vd else if t = 5 then .int .i64 I.tm else if t = 6 then .int .i64 I.out.1 else if t = 7 then .int .i64 I.out.2.1
  else if t = 8 then va else if t = 9 then vb else if t = 10 then .int .i64 (I.rd : Int) else .bool (I.got ((t - 11) / 13) ((t - 11) % 13))
def IdAt (w : World) (g : Nat) (C : Srv.Cf) (vd va vb : Value) (I : Idl) : Prop := FRow w g 40 63 (idV C vd va vb I)
section
variable {w w' : World} {g : Nat} {C : Srv.Cf} {vd va vb : Value} {I : Idl}
theorem IdAt.lt (h : IdAt w g C vd va vb I) : g < w.heap.size := FRow.lt h
theorem IdAt.block (h : IdAt w g C vd va vb I) (e : w'.heap[g]? = w.heap[g]?) : IdAt w' g C vd va vb I := FRow.block h e
theorem IdAt.below (h : IdAt w g C vd va vb I) (hb : Below w.heap.size w w') : IdAt w' g C vd va vb I := h.block (hb.block g h.lt)
theorem IdAt.cells (h : IdAt w g C vd va vb I) : w.cell? ⟨g, 0, none⟩ = some (.int .i64 C.N) ∧ w.cell? ⟨g, 1, none⟩ = some (.int .i64 C.T) ∧ w.cell? ⟨g, 2, none⟩ = some (.int .i64 C.M) ∧ w.cell? ⟨g, 3, none⟩ = some (.int .i64 C.D) ∧ w.cell? ⟨g, 4, none⟩ = some vd ∧ w.cell? ⟨g, 5, none⟩ = some (.int .i64 I.tm) ∧ w.cell? ⟨g, 6, none⟩ = some (.int .i64 I.out.1) ∧ w.cell? ⟨g, 7, none⟩ = some (.int .i64 I.out.2.1) ∧ w.cell? ⟨g, 8, none⟩ = some va ∧ w.cell? ⟨g, 9, none⟩ = some vb ∧ w.cell? ⟨g, 10, none⟩ = some (.int .i64 (I.rd : Int)) :=
  ⟨FRow.cell h 0 (by omega), FRow.cell h 1 (by omega), FRow.cell h 2 (by omega), FRow.cell h 3 (by omega), FRow.cell h 4 (by omega), FRow.cell h 5 (by omega), FRow.cell h 6 (by omega), FRow.cell h 7 (by omega), FRow.cell h 8 (by omega), FRow.cell h 9 (by omega), FRow.cell h 10 (by omega)⟩
theorem idV_got (C : Srv.Cf) (vd va vb : Value) (I : Idl) (r u : Nat) (hu : u < 13) : idV C vd va vb I (11 + r * 13 + u) = .bool (I.got r u) := by
  unfold idV
  rw [if_neg (by omega), if_neg (by omega), if_neg (by omega), if_neg (by omega), if_neg (by omega), if_neg (by omega), if_neg (by omega), if_neg (by omega), if_neg (by omega), if_neg (by omega), if_neg (by omega), show (11 + r * 13 + u - 11) / 13 = r by omega, show (11 + r * 13 + u - 11) % 13 = u by omega]
theorem IdAt.got (h : IdAt w g C vd va vb I) (r u : Nat) (hr : r < 4) (hu : u < 13) : w.cell? ⟨g, 11 + r * 13 + u, none⟩ = some (.bool (I.got r u)) := by
  rw [FRow.cell h _ (by omega), idV_got _ _ _ _ _ _ _ hu]
theorem IdAt.froz (h : IdAt w g C vd va vb I) (t : Nat) : w.frozen? ⟨g, t, none⟩ = false := FRow.froz h t
/-- A round of it, as a row. -/
theorem IdAt.row (h : IdAt w g C vd va vb I) (r : Nat) (hr : r < 4) : w.rangeAt g (11 + r * 13) (bl13 (I.got r)) := by
  intro j v hv
  have hj : j < 13 := by
    by_cases c : j < 13
    · exact c
    · rw [List.getElem?_eq_none (by rw [bl13_length]; omega)] at hv; cases hv
  rw [h.got r j hr hj, ← bl13_get _ j hj, hv]
end

end Go.Proofs.YtchideljndagjabGreat
