/- Contracts of the program's session: Flight. -/
import Derived.Test.YtchideljndagjabGreatPkIdBB
namespace Go.Proofs.YtchideljndagjabGreat
open Go.ChangeShapes Go.WideShapes Go.ChangeAt Go.RowKit
set_option linter.unusedVariables false
theorem infoU8s : (Tryz.prog.info? 5).map (fun i => (i.zero, i.size, i.bytes)) = some (some (.int .u8 0), 1, 1) := by kernel_rfl
theorem copied_bytes (w : World) (v : Value) (zs : List Int) (h : BytesAt w v zs) (hl : zs.length ≤ 400) : Copied Tryz.prog w 47 5 1 v zs.length (bytesV zs) := by
  obtain ⟨i1, hi1, hy0, hy1, hy2⟩ := info_parts infoU8s
  obtain ⟨a, cap, rfl, h2, h3, h4, h5⟩ := h
  cases a with
  | none =>
    have : zs = [] := by
      rcases h5 with h5 | ⟨b, off, e, _⟩
      · exact h5
      · cases e
    subst this
    exact copied_nil w _ _ i1 1 cap Tryz.underlying47 hi1
  | some ad =>
    refine copied_row w _ _ i1 (.int .u8 0) 1 1 Tryz.underlying47 hi1 hy0 hy1 hy2 rfl (by decide) ad zs.length cap _ (by unfold bytesV; simp) ?_ ?_ (by unfold maxLen; omega) (by omega)
    · intro j u hj
      rcases h5 with h5 | ⟨b, off, e, hb, hc⟩
      · subst h5; simp [bytesV] at hj
      · cases e
        have hjl : j < zs.length := by have := (List.getElem?_eq_some_iff.1 hj).1; simpa [bytesV] using this
        rw [Addr.add_mid, hc j hjl]
        unfold bytesV at hj
        rw [List.getElem?_map, List.getElem?_eq_getElem hjl] at hj
        unfold Frm.bAt
        rw [List.getD_eq_getElem?_getD, List.getElem?_eq_getElem hjl]
        exact hj
    · intro u hu
      obtain ⟨_, _, rfl⟩ := List.mem_map.1 hu
      rfl
set_option maxHeartbeats 2000000 in
set_option maxRecDepth 100000 in
theorem flight_calls (b n : Nat) (C : Srv.Cf) (cl : Nat → Cli.Cl) (s : Sn) (m : SM) (w : World) (h : SesAt w b n C cl s m) (hlen : s.fl.length ≤ 2000) (hbl : ∀ p ∈ s.fl, p.2.2.length ≤ 400) :
    Calls Tryz.prog 64 #[.pointer (some ⟨b, 0, none⟩)] w fun e w' => ∃ v vs, e = .returned v ∧ Packs w' w.heap.size v vs s.fl ∧ Below w.heap.size w w' := by
  have c77 := h.c77
  have hb := h.blt
  obtain ⟨a, c, hv, hkc, hcm, hel⟩ := h.fl.view
  rw [hv] at c77
  obtain ⟨ps, hps⟩ : ∃ ps, ps = s.fl := ⟨_, rfl⟩
  rw [← hps] at c77 hkc hel hlen hbl ⊢
  have HEL := hideG hel
  have HBL := hideG hbl
  have HYL := hideG (fun (j : Nat) (y : Value) (hy : m.vs[j]? = some y) (x : Nat) (hx : y.ownBlock = some x) => h.fl.low y (List.mem_of_getElem? hy) x hx)
  obtain ⟨i1, hi1, hy0, hy1, hy2⟩ := info_parts infoPk
  clear h hv hel hps hbl
  obtain ⟨k, hk⟩ : ∃ k, k = ps.length := ⟨_, rfl⟩
  rw [← hk] at c77 hkc hlen
  have HK := hideG hk
  clear hk
  go_enter Tryz.func64, Tryz.ntmps64
  go_wp2_with fail
  go_loopw [3, 11] (fun r x wr => ∃ (j : Nat) (vs : List Value), j ≤ k ∧ x = .int .i64 j ∧ Packs wr w.heap.size r vs (ps.take j) ∧ Below w.heap.size w wr) (fun _ x _ => k - (intOf x).toNat)
  case atStart => exact ⟨0, [], Nat.zero_le _, rfl, packs_nil _ _, Below.refl _ _⟩
  case round =>
    obtain ⟨j, vs, hj, rfl, hpk, hbw⟩ := hrel
    have HO := hideG hpk
    have HB := hideG hbw
    have sw := hbw.size
    obtain ⟨ar, cr, hvr⟩ := owns_form hpk.row
    obtain ⟨nr, hnr⟩ : ∃ nr, nr = (ps.take j).length := ⟨_, rfl⟩
    rw [← hnr] at hvr
    subst hvr
    have HNR := hideG hnr
    clear hpk hbw hnr
    by_cases hlt : j < k
    · have hjp : j < ps.length := by rw [← HK.out]; exact hlt
      obtain ⟨g, y, hag, hgl, hyv, x0, x1, x2, hyb⟩ := HEL.out j _ (List.getElem?_eq_getElem hjp)
      subst hag
      have hyl := HYL.out j y hyv
      obtain ⟨p, hp⟩ : ∃ p, p = ps[j] := ⟨_, rfl⟩
      rw [← hp] at x0 x1 hyb
      have hl400 := HBL.out p (by rw [hp]; exact List.getElem_mem hjp)
      have HTK := hideG (show ps.take (j + 1) = ps.take j ++ [p] by rw [List.take_succ_eq_append_getElem hjp, hp])
      have HTL := hideG (show (ps.take j).length = j by rw [List.length_take]; omega)
      obtain ⟨ay, cy, hyy, -⟩ := bytes_view hyb
      have d0 := (HB.out.cell (p := ⟨g, j * 3, none⟩) hgl).trans x0
      have d1 := (HB.out.cell (p := ⟨g, j * 3 + 1, none⟩) hgl).trans x1
      have d2 := (HB.out.cell (p := ⟨g, j * 3 + 2, none⟩) hgl).trans x2
      have hgr : g < wr.heap.size := by omega
      rw [hyy] at d2
      have hyW : ∀ ob, BytesAt (wr.alloc ob) y p.2.2 := fun ob => hyb.keepS (by simp; omega) (fun x hx => (HB.out.alloc sw ob).block x (hyl x hx))
      have HCP := hideG (fun ob => copied_bytes (wr.alloc ob) y p.2.2 (hyW ob) hl400)
      rw [hyy] at HCP
      have hj0 : (0 : Int) ≤ (j : Int) := by omega
      have hjk : (j : Int) < (k : Int) := by omega
      clear x0 x1 x2 hyv hyb hp hyy hyl hyW
      obtain ⟨p1, hp1⟩ : ∃ p1, p1 = p.1 := ⟨_, rfl⟩
      obtain ⟨p2, hp2⟩ : ∃ p2, p2 = p.2.1 := ⟨_, rfl⟩
      obtain ⟨nb, hnb⟩ : ∃ nb, nb = p.2.2.length := ⟨_, rfl⟩
      rw [← hp1] at d0
      rw [← hp2] at d1
      rw [← hnb] at d2 HCP hl400
      have HPP := hideG (And.intro hp1 (And.intro hp2 hnb))
      clear hp1 hp2 hnb
      obtain ⟨W1, hW1⟩ : ∃ W1, W1 = wr.alloc (.cells #[.int .i64 p1, .int .i64 p2, .slice ay nb cy] 49) := ⟨_, rfl⟩
      have r1 : W1.heap[wr.heap.size]? = some (.cells #[.int .i64 p1, .int .i64 p2, .slice ay nb cy] 49 (0, 0)) := by rw [hW1]; exact heap_alloc_new wr _
      have z1 : wr.heap.size < W1.heap.size := by rw [hW1]; simp
      have hbW : Below wr.heap.size wr W1 := by rw [hW1]; exact (Below.refl _ _).alloc (Nat.le_refl _) _
      have CP := hideG (show Copied Tryz.prog W1 47 5 1 (.slice ay nb cy) nb (bytesV p.2.2) by rw [hW1]; exact HCP.out _)
      have O1 := hideG (HO.out.below hbW)
      have B1 := hideG (HB.out.trans (hbW.mono sw))
      have R1 := hideG r1
      have u0 : W1.cell? ⟨wr.heap.size, 0, none⟩ = some (.int .i64 p1) := (cell_of_row W1 wr.heap.size 0 _ _ (0, 0) r1).trans rfl
      have u1 : W1.cell? ⟨wr.heap.size, 1, none⟩ = some (.int .i64 p2) := (cell_of_row W1 wr.heap.size 1 _ _ (0, 0) r1).trans rfl
      have u2 : W1.cell? ⟨wr.heap.size, 2, none⟩ = some (.slice ay nb cy) := (cell_of_row W1 wr.heap.size 2 _ _ (0, 0) r1).trans rfl
      have HW1 := hideG hW1
      clear hW1 r1 hbW
      go_upto_region 5 with fail
      rw [← HW1.out]
      go_wp2_with (at_builtin; refine wpList_append_copy _ rfl _ _ 47 rfl rfl (.slice ay nb cy) rfl 5 1 nb (bytesV p.2.2) CP.out ?_)
      intro v2 w2 hown2 hb2
      obtain ⟨a5, c5, hv5⟩ := owns_form hown2
      subst hv5
      have z2 := hb2.size
      have R2 := hideG ((hb2.block wr.heap.size z1).trans R1.out)
      have t0 := (cell_of_row w2 wr.heap.size 0 _ _ (0, 0) R2.out).trans (show _ = some (Value.int .i64 p1) from rfl)
      have t1 := (cell_of_row w2 wr.heap.size 1 _ _ (0, 0) R2.out).trans (show _ = some (Value.int .i64 p2) from rfl)
      have t2 := (cell_of_row w2 wr.heap.size 2 _ _ (0, 0) R2.out).trans (show _ = some (Value.slice ay nb cy) from rfl)
      have tf := frozen_of_row w2 wr.heap.size 2 _ _ R2.out
      have O2 := hideG (O1.out.below hb2)
      have HOW := hideG hown2
      have B2 := hideG (B1.out.trans (hb2.mono (by omega)))
      have hwl2 : wr.heap.size < w2.heap.size := by omega
      have LOW := hideG (fun x (hx : PkFoot (.slice ar nr cr) vs x) => (HO.out.low x hx).2)
      clear hown2 hb2 u0 u1 u2
      go_upto_region 6 with fail
      obtain ⟨w3, hw3⟩ : ∃ w3, w3 = w2.setCell ⟨wr.heap.size, 2, none⟩ (.slice a5 nb c5) := ⟨_, rfl⟩
      rw [← hw3]
      have z3 : w3.heap.size = w2.heap.size := by rw [hw3]; simp [World.setCell]
      have c23 : Chg (fun x => x = wr.heap.size) w2 w3 := by rw [hw3]; exact Chg.setCell w2 ⟨wr.heap.size, 2, none⟩ _
      have s0 : w3.cell? ⟨wr.heap.size, 0, none⟩ = some (.int .i64 p1) := by rw [hw3, World.cell?_setCell_other _ _ _ _ (by intro q; injection q with q1 q2 q3; omega)]; exact t0
      have s1 : w3.cell? ⟨wr.heap.size, 1, none⟩ = some (.int .i64 p2) := by rw [hw3, World.cell?_setCell_other _ _ _ _ (by intro q; injection q with q1 q2 q3; omega)]; exact t1
      have s2 : w3.cell? ⟨wr.heap.size, 2, none⟩ = some (.slice a5 nb c5) := by rw [hw3]; exact World.cell?_setCell_same _ _ _ t2
      have O3 := hideG (O2.out.chg c23 (fun x hx e => by have := LOW.out x hx; omega))
      have HO3 := hideG (ownsRow_chg HOW.out c23 (fun x hx e => by have := (HOW.out.lt x hx).1; omega))
      have B3 := hideG (show Below w.heap.size w w3 by rw [hw3]; exact B2.out.setCell (p := ⟨wr.heap.size, 2, none⟩) sw _)
      have hwl3 : wr.heap.size < w3.heap.size := by omega
      have hsw3 : w.heap.size ≤ w3.heap.size := by omega
      have BAS := hideG (show w3.ownsRow w.heap.size 5 1 (.slice a5 nb c5) p.2.2.length (bytesV p.2.2) by rw [← HPP.out.2.2]; exact ownsRow_base HO3.out (by omega))
      have NEW := hideG (fun x (hx : (Value.slice a5 nb c5).ownBlock = some x) y (hy : y ∈ vs) (e : y.ownBlock = some x) => (show False by
        have q1 := (HO3.out.lt x hx).1
        have q2 := LOW.out x (.inr ⟨y, hy, e⟩)
        omega))
      have hl1 : (ps.take j).length ≤ 2000 := by rw [HTL.out]; omega
      have O3R := hideG (show w3.ownsRow w.heap.size 49 3 (.slice ar nr cr) nr (packV (ps.take j) vs) by have := O3.out.row; rw [← HNR.out] at this; exact this)
      rw [← HNR.out] at hl1
      clear hw3 c23 t0 t1 t2 tf z3
      go_wp2_with (at_builtin; refine wpList_append_own _ rfl _ _ 41 rfl w.heap.size 49 i1 (.agg #[.int .i64 0, .int .i64 0, .slice none 0 0]) 3 40 Tryz.underlying41 hi1 hy0 hy1 hy2 rfl (by decide) _ _ _ rfl (O3R.out.alloc _) ⟨w3.heap.size, 0, none⟩ 1 1 [.int .i64 p1, .int .i64 p2, .slice a5 nb c5] rfl rfl ?c1 ?c2 ?c3 ?c4 ?c5 ?_)
      case c1 => exact cell_three_new _ _ _ _ _
      case c2 => intro u hu; simp at hu; rcases hu with rfl | rfl | rfl <;> rfl
      case c3 => unfold maxLen; omega
      case c4 => omega
      case c5 => simp; omega
      intro v' w4 hown' hgrow' _
      have hb4 := (B3.out.alloc hsw3 _).grown hgrow' (by simp; omega) (fun y hy => (O3R.out.lt y hy).1)
      have B4 := hideG hb4
      have hal : Below w3.heap.size w3 (w3.alloc (.cells #[.int .i64 p1, .int .i64 p2, .slice a5 nb c5] 49)) := (Below.refl _ _).alloc (Nat.le_refl _) _
      have O4 := hideG (show Packs w4 w.heap.size v' (vs ++ [.slice a5 nb c5]) (ps.take (j + 1)) by
        rw [HTK.out]
        have hcg : Chg (fun x => (Value.slice ar nr cr).ownBlock = some x) (w3.alloc (.cells #[.int .i64 p1, .int .i64 p2, .slice a5 nb c5] 49)) w4 := Chg.grown hgrow'
        exact (O3.out.below hal).snoc (p := p) (ownsRow_chg (S := fun _ => False) BAS.out (Chg.of_below hal) (fun _ _ h => h)) (fun x hx y hy e => NEW.out x hx y hy e) (by rw [← HPP.out.1, ← HPP.out.2.1, ← HNR.out]; exact hown') hcg)
      obtain ⟨a6, c6, hv6⟩ := owns_form hown'
      subst hv6
      clear hown' hgrow' hb4 hal
      go_wp2_with fail
      go_roundw
      case rel => exact ⟨j + 1, _, by omega, by go_num, O4.out, B4.out⟩
      case measure => simp [intOf]; omega
    · have ej : j = k := by omega
      have HTA := hideG (show ps.take j = ps by rw [ej, HK.out]; exact List.take_length)
      clear ej
      have FIN := hideG (show Packs wr w.heap.size (.slice ar nr cr) vs ps by have := HO.out; rw [HTA.out] at this; exact this)
      go_wp2_with fail
      go_ret
      exact ⟨_, vs, rfl, FIN.out, HB.out⟩
end Go.Proofs.YtchideljndagjabGreat
namespace Go.Proofs.YtchideljndagjabGreat
open Go.ChangeShapes Go.WideShapes Go.ChangeAt Go.RowKit
set_option linter.unusedVariables false
theorem vDeliver_of (b : Nat) (u : Int) (w : World) (Q : Int → World → Prop) (h : Calls Tryz.prog 65 #[.pointer (some ⟨b, 0, none⟩), .int .i64 u] w fun e w' => ∃ k, e = .returned (.int .i64 k) ∧ Q k w') :
    Calls Tryz.prog 32 #[.pointer (some ⟨b, 0, none⟩), .int .i64 u] w fun e w' => ∃ k, e = .returned (.int .i64 k) ∧ Q k w' := by
  have H := hideG h
  clear h
  go_enter Tryz.func32, Tryz.ntmps32
  go_wp2_with fail
  refine H.out.mono ?_
  rintro e w1 ⟨k, rfl, hq⟩
  have HQ := hideG hq
  clear hq
  go_wp2_with fail
  go_ret
  exact ⟨k, rfl, HQ.out⟩
theorem vDrop_of (b : Nat) (u : Int) (w : World) (Q : Int → World → Prop) (h : Calls Tryz.prog 66 #[.pointer (some ⟨b, 0, none⟩), .int .i64 u] w fun e w' => ∃ k, e = .returned (.int .i64 k) ∧ Q k w') :
    Calls Tryz.prog 33 #[.pointer (some ⟨b, 0, none⟩), .int .i64 u] w fun e w' => ∃ k, e = .returned (.int .i64 k) ∧ Q k w' := by
  have H := hideG h
  clear h
  go_enter Tryz.func33, Tryz.ntmps33
  go_wp2_with fail
  refine H.out.mono ?_
  rintro e w1 ⟨k, rfl, hq⟩
  have HQ := hideG hq
  clear hq
  go_wp2_with fail
  go_ret
  exact ⟨k, rfl, HQ.out⟩
theorem vDouble_of (b : Nat) (u : Int) (w : World) (Q : Int → World → Prop) (h : Calls Tryz.prog 67 #[.pointer (some ⟨b, 0, none⟩), .int .i64 u] w fun e w' => ∃ k, e = .returned (.int .i64 k) ∧ Q k w') :
    Calls Tryz.prog 34 #[.pointer (some ⟨b, 0, none⟩), .int .i64 u] w fun e w' => ∃ k, e = .returned (.int .i64 k) ∧ Q k w' := by
  have H := hideG h
  clear h
  go_enter Tryz.func34, Tryz.ntmps34
  go_wp2_with fail
  refine H.out.mono ?_
  rintro e w1 ⟨k, rfl, hq⟩
  have HQ := hideG hq
  clear hq
  go_wp2_with fail
  go_ret
  exact ⟨k, rfl, HQ.out⟩
theorem vCrash_of (b : Nat) (u : Int) (w : World) (Q : Int → World → Prop) (h : Calls Tryz.prog 69 #[.pointer (some ⟨b, 0, none⟩), .int .i64 u] w fun e w' => ∃ k, e = .returned (.int .i64 k) ∧ Q k w') :
    Calls Tryz.prog 36 #[.pointer (some ⟨b, 0, none⟩), .int .i64 u] w fun e w' => ∃ k, e = .returned (.int .i64 k) ∧ Q k w' := by
  have H := hideG h
  clear h
  go_enter Tryz.func36, Tryz.ntmps36
  go_wp2_with fail
  refine H.out.mono ?_
  rintro e w1 ⟨k, rfl, hq⟩
  have HQ := hideG hq
  clear hq
  go_wp2_with fail
  go_ret
  exact ⟨k, rfl, HQ.out⟩
theorem vInject_of (b : Nat) (u : Int) (a : Option Addr) (n c : Nat) (w : World) (Q : Int → World → Prop) (h : Calls Tryz.prog 44 #[.pointer (some ⟨b, 0, none⟩), .int .i64 u, .slice a n c] w fun e w' => ∃ k, e = .returned (.int .i64 k) ∧ Q k w') :
    Calls Tryz.prog 22 #[.pointer (some ⟨b, 0, none⟩), .int .i64 u, .slice a n c] w fun e w' => ∃ k, e = .returned (.int .i64 k) ∧ Q k w' := by
  have H := hideG h
  clear h
  go_enter Tryz.func22, Tryz.ntmps22
  go_wp2_with fail
  refine H.out.mono ?_
  rintro e w1 ⟨k, rfl, hq⟩
  have HQ := hideG hq
  clear hq
  go_wp2_with fail
  go_ret
  exact ⟨k, rfl, HQ.out⟩
theorem vFlight_of (b : Nat) (w : World) (Q : Value → World → Prop) (h : Calls Tryz.prog 64 #[.pointer (some ⟨b, 0, none⟩)] w fun e w' => ∃ a n c, e = .returned (.slice a n c) ∧ Q (.slice a n c) w') :
    Calls Tryz.prog 30 #[.pointer (some ⟨b, 0, none⟩)] w fun e w' => ∃ a n c, e = .returned (.slice a n c) ∧ Q (.slice a n c) w' := by
  have H := hideG h
  clear h
  go_enter Tryz.func30, Tryz.ntmps30
  go_wp2_with fail
  refine H.out.mono ?_
  rintro e w1 ⟨a, n, c, rfl, hq⟩
  have HQ := hideG hq
  clear hq
  go_wp2_with fail
  go_ret
  exact ⟨a, n, c, rfl, HQ.out⟩
theorem vTick_of (b : Nat) (w : World) (Q : World → Prop) (h : Calls Tryz.prog 68 #[.pointer (some ⟨b, 0, none⟩)] w fun e w' => e = .returned (.tuple #[]) ∧ Q w') :
    Calls Tryz.prog 35 #[.pointer (some ⟨b, 0, none⟩)] w fun e w' => e = .returned (.tuple #[]) ∧ Q w' := by
  have H := hideG h
  clear h
  go_enter Tryz.func35, Tryz.ntmps35
  go_wp2_with fail
  refine H.out.mono ?_
  rintro e w1 ⟨rfl, hq⟩
  have HQ := hideG hq
  clear hq
  go_wp2_with fail
  go_end0
  exact ⟨rfl, HQ.out⟩

section
variable {w : World} {b n : Nat} {C : Srv.Cf} {cl : Nat → Cli.Cl} {s : Sn} {m : SM}
def deliverE (s : Sn) (u : Int) : Int := if 0 ≤ u ∧ u < (s.fl.length : Int) then 0 else 7
def deliverN (C : Srv.Cf) (cl : Nat → Cli.Cl) (n : Nat) (s : Sn) (u : Int) : Sn := if 0 ≤ u ∧ u < (s.fl.length : Int) then (match s.fl[u.toNat]? with | none => s | some p => rcv C cl n { s with fl := s.fl.eraseIdx u.toNat } p.2.1 p.2.2) else s
def dropN (s : Sn) (u : Int) : Sn := if 0 ≤ u ∧ u < (s.fl.length : Int) then { s with fl := s.fl.eraseIdx u.toNat } else s
def doubleE (s : Sn) (u : Int) : Int := if 0 ≤ u ∧ u < (s.fl.length : Int) then (if s.fl.length < 200 then 0 else 8) else 7
def doubleN (s : Sn) (u : Int) : Sn := if 0 ≤ u ∧ u < (s.fl.length : Int) then (if s.fl.length < 200 then (match s.fl[u.toNat]? with | none => s | some p => { s with fl := s.fl ++ [p] }) else s) else s
def injectE (n : Nat) (u : Int) : Int := if 0 ≤ u ∧ u ≤ (n : Int) then 0 else 7
def injectN (C : Srv.Cf) (cl : Nat → Cli.Cl) (n : Nat) (s : Sn) (u : Int) (zs : List Int) : Sn := if 0 ≤ u ∧ u ≤ (n : Int) then rcv C cl n s u zs else s
def crashE (n : Nat) (u : Int) : Int := if 1 ≤ u ∧ u ≤ (n : Int) then 0 else 7
def crashU (n : Nat) (s : Sn) (u : Int) : Sn := if 1 ≤ u ∧ u ≤ (n : Int) then crashN s (u.toNat - 1) else s
theorem vDeliver (h : SesAt w b n C cl s m) (ok : SnOk C cl n s) (u : Int) : Calls Tryz.prog 32 #[.pointer (some ⟨b, 0, none⟩), .int .i64 u] w fun e w' => e = .returned (.int .i64 (deliverE s u)) ∧ ∃ m', SesTook w w' b n C cl (deliverN C cl n s u) m m' := by
  refine (vDeliver_of b u w (fun k w' => k = deliverE s u ∧ ∃ m', SesTook w w' b n C cl (deliverN C cl n s u) m m') ?_).mono (fun e w' ⟨k, h1, h2, h3⟩ => ⟨by rw [h1, h2], h3⟩)
  unfold deliverE deliverN
  by_cases hu : 0 ≤ u ∧ u < (s.fl.length : Int)
  · obtain ⟨i, rfl⟩ : ∃ i : Nat, u = (i : Int) := ⟨u.toNat, by omega⟩
    have hi : i < s.fl.length := by omega
    rw [if_pos hu, if_pos hu, show ((i : Int)).toNat = i by omega, List.getElem?_eq_getElem hi]
    exact (deliver_yes b n i C cl s m _ w h ok (List.getElem?_eq_getElem hi)).mono (fun e w' ⟨h1, h2⟩ => ⟨0, h1, rfl, h2⟩)
  · rw [if_neg hu, if_neg hu]
    exact (deliver_no b n C cl s m u w h hu).mono (fun e w' ⟨h1, h2⟩ => ⟨7, h1, rfl, m, by rw [h2]; exact sesTook_same h (Below.refl _ _)⟩)
theorem vDrop (h : SesAt w b n C cl s m) (ok : SnOk C cl n s) (u : Int) : Calls Tryz.prog 33 #[.pointer (some ⟨b, 0, none⟩), .int .i64 u] w fun e w' => e = .returned (.int .i64 (deliverE s u)) ∧ ∃ m', SesTook w w' b n C cl (dropN s u) m m' := by
  refine (vDrop_of b u w (fun k w' => k = deliverE s u ∧ ∃ m', SesTook w w' b n C cl (dropN s u) m m') ?_).mono (fun e w' ⟨k, h1, h2, h3⟩ => ⟨by rw [h1, h2], h3⟩)
  unfold deliverE dropN
  by_cases hu : 0 ≤ u ∧ u < (s.fl.length : Int)
  · obtain ⟨i, rfl⟩ : ∃ i : Nat, u = (i : Int) := ⟨u.toNat, by omega⟩
    have hi : i < s.fl.length := by omega
    rw [if_pos hu, if_pos hu, show ((i : Int)).toNat = i by omega]
    exact (drop_yes b n i C cl s m w h hi (by have := ok.fl; omega)).mono (fun e w' ⟨h1, h2⟩ => ⟨0, h1, rfl, h2⟩)
  · rw [if_neg hu, if_neg hu]
    exact (drop_no b n C cl s m u w h hu).mono (fun e w' ⟨h1, h2⟩ => ⟨7, h1, rfl, m, by rw [h2]; exact sesTook_same h (Below.refl _ _)⟩)
theorem vDouble (h : SesAt w b n C cl s m) (u : Int) : Calls Tryz.prog 34 #[.pointer (some ⟨b, 0, none⟩), .int .i64 u] w fun e w' => e = .returned (.int .i64 (doubleE s u)) ∧ ∃ m', SesTook w w' b n C cl (doubleN s u) m m' := by
  refine (vDouble_of b u w (fun k w' => k = doubleE s u ∧ ∃ m', SesTook w w' b n C cl (doubleN s u) m m') ?_).mono (fun e w' ⟨k, h1, h2, h3⟩ => ⟨by rw [h1, h2], h3⟩)
  unfold doubleE doubleN
  by_cases hu : 0 ≤ u ∧ u < (s.fl.length : Int)
  · obtain ⟨i, rfl⟩ : ∃ i : Nat, u = (i : Int) := ⟨u.toNat, by omega⟩
    have hi : i < s.fl.length := by omega
    rw [if_pos hu, if_pos hu, show ((i : Int)).toNat = i by omega, List.getElem?_eq_getElem hi]
    by_cases hf : s.fl.length < 200
    · rw [if_pos hf, if_pos hf]
      exact (double_yes b n i C cl s m _ w h (List.getElem?_eq_getElem hi) hf).mono (fun e w' ⟨h1, h2⟩ => ⟨0, h1, rfl, h2⟩)
    · rw [if_neg hf, if_neg hf]
      exact (double_full b n i C cl s m w h hi (by omega)).mono (fun e w' ⟨h1, h2⟩ => ⟨8, h1, rfl, m, by rw [h2]; exact sesTook_same h (Below.refl _ _)⟩)
  · rw [if_neg hu, if_neg hu]
    exact (double_no b n C cl s m u w h hu).mono (fun e w' ⟨h1, h2⟩ => ⟨7, h1, rfl, m, by rw [h2]; exact sesTook_same h (Below.refl _ _)⟩)
theorem vInject (h : SesAt w b n C cl s m) (ok : SnOk C cl n s) (u : Int) {v : Value} {zs : List Int} (hv : BytesAt w v zs) : Calls Tryz.prog 22 #[.pointer (some ⟨b, 0, none⟩), .int .i64 u, v] w fun e w' => e = .returned (.int .i64 (injectE n u)) ∧ ∃ m', SesTook w w' b n C cl (injectN C cl n s u zs) m m' := by
  have H := inject_calls b n C cl s m u v zs w h ok hv
  obtain ⟨a, c, rfl, -⟩ := bytes_view hv
  refine (vInject_of b u _ _ _ w (fun k w' => k = injectE n u ∧ ∃ m', SesTook w w' b n C cl (injectN C cl n s u zs) m m') (H.mono (fun e w' ⟨h1, h2⟩ => ?_))).mono (fun e w' ⟨k, h1, h2, h3⟩ => ⟨by rw [h1, h2], h3⟩)
  unfold injectE injectN
  by_cases hu : 0 ≤ u ∧ u ≤ (n : Int)
  · rw [if_pos hu, if_pos hu]; obtain ⟨q1, q2⟩ := h1 hu; exact ⟨0, q1, rfl, q2⟩
  · rw [if_neg hu, if_neg hu]; obtain ⟨q1, q2⟩ := h2 hu; exact ⟨7, q1, rfl, m, by rw [q2]; exact sesTook_same h (Below.refl _ _)⟩
theorem vCrash (h : SesAt w b n C cl s m) (ok : SnOk C cl n s) (u : Int) : Calls Tryz.prog 36 #[.pointer (some ⟨b, 0, none⟩), .int .i64 u] w fun e w' => e = .returned (.int .i64 (crashE n u)) ∧ ∃ m', SesTook w w' b n C cl (crashU n s u) m m' := by
  have n12 : n ≤ 12 := by have := ok.gc.n; have := ok.num; omega
  refine (vCrash_of b u w (fun k w' => k = crashE n u ∧ ∃ m', SesTook w w' b n C cl (crashU n s u) m m') ((scrash_calls b n C cl s m u w h n12).mono (fun e w' ⟨h1, h2⟩ => ?_))).mono (fun e w' ⟨k, h1, h2, h3⟩ => ⟨by rw [h1, h2], h3⟩)
  unfold crashE crashU
  by_cases hu : 1 ≤ u ∧ u ≤ (n : Int)
  · rw [if_pos hu, if_pos hu]; obtain ⟨q1, q2⟩ := h1 (u.toNat - 1) (by omega) (by omega); exact ⟨0, q1, rfl, q2⟩
  · rw [if_neg hu, if_neg hu]; obtain ⟨q1, q2⟩ := h2 hu; exact ⟨7, q1, rfl, m, by rw [q2]; exact sesTook_same h (Below.refl _ _)⟩
theorem vTick (h : SesAt w b n C cl s m) (ok : SnOk C cl n s) : Calls Tryz.prog 35 #[.pointer (some ⟨b, 0, none⟩)] w fun e w' => e = .returned (.tuple #[]) ∧ ∃ m', SesTook w w' b n C cl (tickN C s) m m' := vTick_of b w _ (stick_calls b n C cl s m w h ok)
theorem vFlight (h : SesAt w b n C cl s m) (hlen : s.fl.length ≤ 2000) (hbl : ∀ p ∈ s.fl, p.2.2.length ≤ 400) : Calls Tryz.prog 30 #[.pointer (some ⟨b, 0, none⟩)] w fun e w' => ∃ v vs, e = .returned v ∧ Packs w' w.heap.size v vs s.fl ∧ Below w.heap.size w w' := by
  refine (vFlight_of b w (fun v w' => ∃ vs, Packs w' w.heap.size v vs s.fl ∧ Below w.heap.size w w') ((flight_calls b n C cl s m w h hlen hbl).mono (fun e w' ⟨v, vs, h1, h2, h3⟩ => ?_))).mono (fun e w' ⟨a, k, c, h1, vs, h2⟩ => ⟨_, vs, h1, h2⟩)
  obtain ⟨a, c, e1⟩ := owns_form h2.row
  subst e1
  exact ⟨a, _, c, h1, vs, h2, h3⟩
end
end Go.Proofs.YtchideljndagjabGreat
namespace Go.Proofs.YtchideljndagjabGreat
open Go.ChangeShapes Go.WideShapes Go.ChangeAt Go.RowKit
set_option linter.unusedVariables false
set_option maxHeartbeats 2000000 in
set_option maxRecDepth 100000 in
theorem vOutcome_of (b : Nat) (st ro : Int) (ls us : List Int) (w : World) (h : ∀ W : World, Below w.heap.size w W → Calls Tryz.prog 38 #[.pointer (some ⟨b, 0, none⟩)] W fun e w' => ∃ va vb, e = .returned (.agg #[.int .i64 st, .int .i64 ro, va, vb]) ∧ Told W w' va vb ls us) :
    Calls Tryz.prog 15 #[.pointer (some ⟨b, 0, none⟩)] w fun e w' => ∃ va vb, e = .returned (.agg #[.int .i64 st, .int .i64 ro, va, vb]) ∧ Told w w' va vb ls us := by
  obtain ⟨W0, hW0⟩ : ∃ W0, W0 = w.alloc (.cells #[.int .i64 0, .int .i64 0, .slice none 0 0, .slice none 0 0] 35) := ⟨_, rfl⟩
  have b0 : Below w.heap.size w W0 := by rw [hW0]; exact (Below.refl _ _).alloc (Nat.le_refl _) _
  have R0 := hideG (show W0.heap[w.heap.size]? = some (.cells #[.int .i64 0, .int .i64 0, .slice none 0 0, .slice none 0 0] 35 (0, 0)) by rw [hW0]; exact heap_alloc_new w _)
  have z0 : w.heap.size < W0.heap.size := by rw [hW0]; simp
  have H := hideG (h W0 b0)
  have B0 := hideG b0
  have HW0 := hideG hW0
  clear h b0 hW0
  go_enter Tryz.func15, Tryz.ntmps15
  go_upto_region 1 with fail
  rw [← HW0.out]
  go_wp2_with fail
  refine H.out.mono ?_
  rintro e w1 ⟨va, vb, rfl, ht⟩
  obtain ⟨t1, t2, t3, t4⟩ := ht
  obtain ⟨a3, k3, hv3⟩ := owns_form t1
  obtain ⟨a4, k4, hv4⟩ := owns_form t2
  have R1 := hideG ((t4.block _ z0).trans R0.out)
  obtain ⟨⟨x0, x1, x2, x3⟩, xf⟩ := cells_four R1.out
  have R6 := hideG (row_four R1.out (.int .i64 st) (.int .i64 ro) va vb)
  have B1 := B0.out.trans (t4.mono B0.out.size)
  have c6 := chg_four w1 w.heap.size (.int .i64 st) (.int .i64 ro) va vb
  have FIN := hideG (show Told w ((((w1.setCell ⟨w.heap.size, 0, none⟩ (.int .i64 st)).setCell ⟨w.heap.size, 1, none⟩ (.int .i64 ro)).setCell ⟨w.heap.size, 2, none⟩ va).setCell ⟨w.heap.size, 3, none⟩ vb) va vb ls us from
    ⟨ownsRow_base (ownsRow_chg t1 c6 (fun x hx e => by have := (t1.lt x hx).1; omega)) (by omega),
     ownsRow_base (ownsRow_chg t2 c6 (fun x hx e => by have := (t2.lt x hx).1; omega)) (by omega), t3,
     (((B1.setCell (p := ⟨w.heap.size, 0, none⟩) (Nat.le_refl _) _).setCell (p := ⟨w.heap.size, 1, none⟩) (Nat.le_refl _) _).setCell (p := ⟨w.heap.size, 2, none⟩) (Nat.le_refl _) _).setCell (p := ⟨w.heap.size, 3, none⟩) (Nat.le_refl _) _⟩)
  clear t1 t2 t3 t4 B1 c6
  rw [hv3, hv4] at R6 FIN ⊢
  clear hv3 hv4
  go_wp2_with fail
  refine bodyPost_ret (results_cell_row rfl _ _ w.heap.size 35 #[.int .i64 st, .int .i64 ro, _, _] (0, 0) _ rfl R6.out Tryz.underlying35 rfl size_out4) rfl ?_
  exact ⟨_, _, rfl, FIN.out⟩
theorem vOutcome {w : World} {b n : Nat} {C : Srv.Cf} {cl : Nat → Cli.Cl} {s : Sn} {m : SM} (h : SesAt w b n C cl s m) (ok : SnOk C cl n s) : Calls Tryz.prog 15 #[.pointer (some ⟨b, 0, none⟩)] w fun e w' => ∃ va vb, e = .returned (.agg #[.int .i64 s.q.out.1, .int .i64 s.q.out.2.1, va, vb]) ∧ Told w w' va vb s.q.out.2.2.1 s.q.out.2.2.2 :=
  vOutcome_of b _ _ _ _ w (fun W hW => soutcome_calls b n C cl s m W (h.below hW) ok)
end Go.Proofs.YtchideljndagjabGreat
namespace Go.Proofs.YtchideljndagjabGreat
open Go.RowKit
set_option linter.unusedVariables false
theorem remC_le (st : Cli.St) : remC st ≤ 3 := by unfold remC; split <;> (try split) <;> (try split) <;> omega
theorem remA_le (cs : Nat → Cli.St) : ∀ n, remA cs n ≤ 3 * n
  | 0 => Nat.le_refl _
  | n + 1 => by have := remA_le cs n; have := remC_le (cs n); show remA cs n + remC (cs n) ≤ _; omega
theorem remA_upd (cs : Nat → Cli.St) (i : Nat) (st : Cli.St) : ∀ n, remA (updA cs i st) n + (if i < n then remC (cs i) else 0) = remA cs n + (if i < n then remC st else 0)
  | 0 => by simp [remA]
  | n + 1 => by
    have ih := remA_upd cs i st n
    show remA (updA cs i st) n + remC (updA cs i st n) + _ = remA cs n + remC (cs n) + _
    by_cases e : n = i
    · subst e
      rw [updA_same, if_pos (by omega), if_pos (by omega)]
      rw [if_neg (by omega), if_neg (by omega)] at ih
      omega
    · rw [updA_other _ _ _ e]
      by_cases q : i < n
      · rw [if_pos q, if_pos q] at ih
        rw [if_pos (by omega), if_pos (by omega)]; omega
      · rw [if_neg q, if_neg q] at ih
        rw [if_neg (by omega), if_neg (by omega)]; omega
theorem remS_le (q : Srv.Sv) : remS q ≤ 39 := by unfold remS; split <;> omega
theorem rem_step (c : Cli.Cl) (s : Cli.St) (zs : List Int) (i : Nat) : remC (stepD c s zs) + (ansP i (ansD c s zs)).length ≤ remC s := by
  cases hd : Frm.decF zs with
  | none => rw [(stepD_none hd).1, (stepD_none hd).2]; exact Nat.le_refl _
  | some g =>
    obtain ⟨k, fr, l⟩ := g
    by_cases k1 : s.1 = 1 ∧ k = 2
    · obtain ⟨p1, rfl⟩ := k1
      rw [(stepD_keys (c := c) hd p1).1, (stepD_keys (c := c) hd p1).2]
      have e : remC s = 3 := by unfold remC; rw [if_pos p1]
      rw [e]
      cases Cli.keysAgree c l
      · show remC (0, l, [], []) + 0 ≤ 3; unfold remC; simp
      · show remC (2, l, [], []) + 1 ≤ 3; unfold remC; simp
    by_cases k2 : s.1 = 2 ∧ k = 4
    · obtain ⟨p1, rfl⟩ := k2
      rw [(stepD_box (c := c) hd p1).1, (stepD_box (c := c) hd p1).2]
      have e : remC s = 2 := by unfold remC; rw [if_neg (by omega), if_pos p1]
      rw [e]
      cases Cli.boxAgree c s.2.1 l
      · show remC (0, s.2.1, l, []) + 0 ≤ 2; unfold remC; simp
      · show remC (3, s.2.1, l, []) + 1 ≤ 2; unfold remC; simp
    by_cases k3 : s.1 = 3 ∧ k = 6
    · obtain ⟨p1, rfl⟩ := k3
      rw [(stepD_ask (c := c) hd p1).1, (stepD_ask (c := c) hd p1).2]
      have e : remC s = 1 := by unfold remC; rw [if_neg (by omega), if_neg (by omega), if_pos p1]
      rw [e]
      cases Cli.askAgree c s.2.2.1 l
      · show remC (0, s.2.1, s.2.2.1, l) + 0 ≤ 1; unfold remC; simp
      · show remC (4, s.2.1, s.2.2.1, l) + 1 ≤ 1; unfold remC; simp
    rw [(stepD_rest (c := c) hd k1 k2 k3).1, (stepD_rest (c := c) hd k1 k2 k3).2]; exact Nat.le_refl _
theorem enc_400 {k fr : Int} {l : List Frm.It} (h : Frm.okF k fr l = true) : (Frm.encF k fr l).length ≤ 400 := by
  have q1 := (Frm.okF_parts h).1
  have q2 := Frm.wid_le k
  rw [Frm.encF_length]; unfold Frm.size
  have : l.length * (1 + 8 * Frm.wid k) ≤ 12 * 25 := Nat.mul_le_mul q1 (by omega)
  omega
theorem lst_le12S {p : Nat → Bool} (h : p 0 = false) : (Srv.lst p).length ≤ 12 := by
  unfold Srv.lst Srv.lstN
  rw [show (13 : Nat) = 12 + 1 from rfl, List.range_succ_eq_map, List.filter_cons_of_neg (by rw [h]; exact Bool.false_ne_true)]
  have := List.length_filter_le p (List.map Nat.succ (List.range 12))
  simpa using this
theorem tick_bdS {C : Srv.Cf} (hc : Srv.GoodC C) {q : Srv.Sv} (hs : q.out.1 = 0 → Srv.SOk C q) (h : q.out.2.2.1.length ≤ 12 ∧ q.out.2.2.2.length ≤ 12) : (Srv.tickS C q).out.2.2.1.length ≤ 12 ∧ (Srv.tickS C q).out.2.2.2.length ≤ 12 := by
  unfold Srv.tickS
  by_cases p : Srv.pend q = true
  · rw [if_pos p]
    have ok := hs (Srv.pend_iff.1 p)
    split
    · split
      · exact ⟨Nat.zero_le _, Nat.zero_le _⟩
      · split
        · have := hc.m
          refine ⟨?_, ?_⟩
          · show (Srv.setL q.G).length ≤ 12
            unfold Srv.setL; rw [List.length_map]; exact lst_le12S (ok.good.zero 2)
          · show (Srv.sumL C q.G).length ≤ 12
            unfold Srv.sumL; rw [List.length_map, List.length_range]; omega
        · exact h
    · exact h
  · rw [if_neg p]; exact h

section
variable {C : Srv.Cf} {cl : Nat → Cli.Cl} {n : Nat} {s : Sn}
theorem SnOk.rcvC (h : SnOk C cl n s) {i : Nat} (hi : i < n) {zs : List Int} (hB : Frm.isB zs) : SnOk C cl n (rcvC cl s i zs) := by
  unfold Go.Proofs.YtchideljndagjabGreat.rcvC
  by_cases hg : s.gone i = true
  · rw [if_pos hg]; exact h
  · rw [if_neg hg]
    refine { h with fl := ?_, flb := fun p hp => ?_ }
    · have h1 := h.fl
      have h2 := remA_upd s.cs i (stepD (cl i) (s.cs i) zs) n
      rw [if_pos hi, if_pos hi] at h2
      have h3 := rem_step (cl i) (s.cs i) zs i
      show (s.fl ++ ansP i (ansD (cl i) (s.cs i) zs)).length + (remA (updA s.cs i (stepD (cl i) (s.cs i) zs)) n + remS s.q) ≤ 300
      rw [List.length_append]
      omega
    · rcases List.mem_append.1 hp with hp | hp
      · exact h.flb p hp
      · cases e : ansD (cl i) (s.cs i) zs with
        | none => rw [e] at hp; cases hp
        | some f =>
          rw [e] at hp
          rw [List.mem_singleton.1 hp]
          exact enc_400 (ansD_okS (h.good i hi) hB e)
theorem step_out (C : Srv.Cf) (q : Srv.Sv) (zs : List Int) : (sstepD C q zs).out = q.out ∧ (sstepD C q zs).rd = q.rd := by
  unfold sstepD
  cases Frm.decF zs with
  | none => exact ⟨rfl, rfl⟩
  | some f => show (Srv.takeS C q f).out = _ ∧ (Srv.takeS C q f).rd = _; unfold Srv.takeS; split <;> exact ⟨rfl, rfl⟩
theorem sok_step {q : Srv.Sv} (hc : Srv.GoodC C) (h : q.out.1 = 0 → Srv.SOk C q) {zs : List Int} (hB : Frm.isB zs) : (sstepD C q zs).out.1 = 0 → Srv.SOk C (sstepD C q zs) := by
  intro e
  rw [(step_out C q zs).1] at e
  unfold sstepD
  cases hd : Frm.decF zs with
  | none => exact h e
  | some f => exact (h e).take (Frm.enc_dec hB hd).1
theorem SnOk.rcv0 (h : SnOk C cl n s) {zs : List Int} (hB : Frm.isB zs) : SnOk C cl n (rcv0 C s zs) := by
  obtain ⟨e1, e2⟩ := step_out C s.q zs
  refine { h with sok := sok_step h.gc h.sok hB, bd := ?_, fl := ?_ }
  · show (sstepD C s.q zs).out.2.2.1.length ≤ 12 ∧ (sstepD C s.q zs).out.2.2.2.length ≤ 12
    rw [e1]; exact h.bd
  · show s.fl.length + (remA s.cs n + remS (sstepD C s.q zs)) ≤ 300
    have : remS (sstepD C s.q zs) = remS s.q := by unfold remS; rw [e1, e2]
    rw [this]; exact h.fl
theorem SnOk.rcv (h : SnOk C cl n s) (d : Int) {zs : List Int} (hB : Frm.isB zs) : SnOk C cl n (rcv C cl n s d zs) := by
  unfold Go.Proofs.YtchideljndagjabGreat.rcv
  by_cases q : 1 ≤ d ∧ d ≤ (n : Int)
  · rw [if_pos q]; exact h.rcvC (by omega) hB
  · rw [if_neg q]; exact h.rcv0 hB
theorem SnOk.crash (h : SnOk C cl n s) (u : Int) : SnOk C cl n (crashU n s u) := by
  unfold crashU; split
  · exact { h with }
  · exact h
theorem SnOk.drop (h : SnOk C cl n s) (u : Int) : SnOk C cl n (dropN s u) := by
  unfold dropN; split
  · exact h.less _
  · exact h
theorem SnOk.double (h : SnOk C cl n s) (u : Int) : SnOk C cl n (doubleN s u) := by
  unfold doubleN; split
  · split
    · rename_i hf
      split
      · exact h
      · rename_i p hp
        have n12 : n ≤ 12 := by have := h.gc.n; have := h.num; omega
        have a1 := remA_le s.cs n
        have a2 := remS_le s.q
        refine { h with fl := ?_, flb := fun q hq => ?_ }
        · show (s.fl ++ [p]).length + (remA s.cs n + remS s.q) ≤ 300
          rw [List.length_append]; simp; omega
        · rcases List.mem_append.1 hq with hq | hq
          · exact h.flb q hq
          · rw [List.mem_singleton.1 hq]; exact h.flb p (List.mem_of_getElem? hp)
    · exact h
  · exact h
theorem rem_tick {q : Srv.Sv} (h : q.out.1 = 0 → Srv.SOk C q) : remS (Srv.tickS C q) + (tickK C q).length ≤ remS q := by
  have hl := tick_len' (C := C) (q := q)
  by_cases p : Srv.pend q = true
  · have ok := h (Srv.pend_iff.1 p)
    have hp0 := Srv.pend_iff.1 p
    have hrd := ok.rd
    have eq0 : remS q = (3 - q.rd) * 13 := if_pos hp0
    by_cases d : Srv.due C q = true
    · by_cases f : Srv.few C q = true
      · rw [tickK_none (by rw [f]; simp)]
        have e : remS (Srv.tickS C q) = 0 := by unfold Srv.tickS; rw [if_pos p, if_pos d, if_pos f]; rfl
        rw [e]; exact Nat.zero_le _
      · by_cases r : q.rd = 3
        · rw [tickK_none (by rw [r]; simp)]
          have e : remS (Srv.tickS C q) = 0 := by unfold Srv.tickS; rw [if_pos p, if_pos d, if_neg f, if_pos r]; rfl
          rw [e]; exact Nat.zero_le _
        · have e : remS (Srv.tickS C q) = (3 - (q.rd + 1)) * 13 := by
            unfold Srv.tickS; rw [if_pos p, if_pos d, if_neg f, if_neg r]
            exact if_pos hp0
          rw [e, eq0]; omega
    · have e : remS (Srv.tickS C q) = remS q := by unfold Srv.tickS; rw [if_pos p, if_neg d]; rfl
      rw [tickK_none (by rw [Bool.not_eq_true _ |>.mp d]; simp), e]; exact Nat.le_refl _
  · have e : Srv.tickS C q = q := by unfold Srv.tickS; rw [if_neg p]
    rw [tickK_none (by rw [Bool.not_eq_true _ |>.mp p]; rfl), e]; exact Nat.le_refl _
theorem SnOk.tick (h : SnOk C cl n s) : SnOk C cl n (tickN C s) := by
  have hr := rem_tick (C := C) (q := s.q) h.sok
  refine { h with sok := fun e => ?_, bd := tick_bdS h.gc h.sok h.bd, fl := ?_, flb := fun p hp => ?_ }
  · have e' : (Srv.tickS C s.q).out.1 = 0 := e
    by_cases p : s.q.out.1 = 0
    · exact (h.sok p).tick h.gc e'
    · have q : Srv.tickS C s.q = s.q := by unfold Srv.tickS; rw [if_neg (fun k => p (Srv.pend_iff.1 k))]
      rw [q] at e'; exact absurd e' p
  · have h1 := h.fl
    show (s.fl ++ tickK C s.q).length + (remA s.cs n + remS (Srv.tickS C s.q)) ≤ 300
    rw [List.length_append]; omega
  · rcases List.mem_append.1 hp with hp | hp
    · exact h.flb p hp
    · unfold tickK Srv.tickP at hp
      by_cases hh : (Srv.pend s.q && (Srv.due C s.q && (!Srv.few C s.q && decide (s.q.rd ≠ 3)))) = true
      · rw [if_pos hh] at hp
        rw [Bool.and_eq_true, Bool.and_eq_true, Bool.and_eq_true] at hh
        obtain ⟨h1, h2, h3, h4⟩ := hh
        have ok := h.sok (Srv.pend_iff.1 h1)
        have hr : s.q.rd ≠ 3 := of_decide_eq_true h4
        have hf : ¬ ((Srv.sizeR (s.q.G s.q.rd) : Int) < C.T) := by unfold Srv.few at h3; simpa using h3
        have ht := h.gc.t
        have hrd := ok.rd
        obtain ⟨x, hx, rfl⟩ := List.mem_map.1 hp
        obtain ⟨u, hu, rfl⟩ := List.mem_map.1 hx
        exact enc_400 (Srv.sends_ok ok.good s.q.rd u (by omega) (by omega))
      · rw [if_neg hh] at hp; cases hp
theorem SnOk.inject (h : SnOk C cl n s) (u : Int) {zs : List Int} (hB : Frm.isB zs) : SnOk C cl n (injectN C cl n s u zs) := by
  unfold injectN; split
  · exact h.rcv u hB
  · exact h
theorem SnOk.deliver (h : SnOk C cl n s) (u : Int) (hB : ∀ p ∈ s.fl, Frm.isB p.2.2) : SnOk C cl n (deliverN C cl n s u) := by
  unfold deliverN; split
  · split
    · exact h
    · rename_i p hp
      exact (h.less _).rcv _ (hB p (List.mem_of_getElem? hp))
  · exact h
end
end Go.Proofs.YtchideljndagjabGreat
