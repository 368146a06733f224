/- Contract of the program's client: the items of the Shares frame. (the client somewhere in a block) -/
import Derived.Test.YtchideljndagjabGreatPkIdAJ
import Derived.Test.YtchideljndagjabGreatPkIdAN
import Derived.Test.YtchideljndagjabGreatPkIdAK
import Derived.Test.YtchideljndagjabGreatPkIdAM
import Derived.Test.YtchideljndagjabGreatPkIdAH
namespace Go.Proofs.YtchideljndagjabGreat.Co
open Go.ChangeShapes Go.WideShapes Go.ChangeAt Go.RowKit
set_option linter.unusedVariables false
set_option maxHeartbeats 2000000 in
set_option maxRecDepth 100000 in
theorem sealedShares_calls (b oo : Nat) (S : PS) (c : Cli.Cl) (l : List Frm.It) (w : World) (h : PSAt w b oo S) (hr : Frm.riseB l = true)
    (hc : Cli.Good c) (eid : S.id = c.id) (ems : S.ms = c.ms) (esd : S.sd = c.sd) (hsm : ListAt w S.sm c.sm) (hss : ListAt w S.ss c.ss) (hf : ∀ v, v < 13 → S.f v = Cli.firstP c l v) :
    Calls Tryz.prog 260 #[.pointer (some ⟨b, oo, none⟩)] w fun e w' =>
      ∃ va, e = .returned va ∧ w'.ownsRow w.heap.size 147 4 va (Cli.sharing c l).length (flat4 (Cli.sharing c l)) ∧ Below w.heap.size w w' := by
  obtain ⟨i1, hi1, hy0, hy1, hy2⟩ := info_parts infoIt
  have hbl := h.lt
  obtain ⟨g3, g4⟩ := hc.ms
  obtain ⟨g5, g6⟩ := hc.sd
  have gi := hc.i
  have gn := hc.n
  have HRG := hideG h.range
  have HRL := hideG (circ_length S.f)
  have HIX := hideG (run_index_circ S.f)
  have HP := hideG (fun (w1 : World) (hb : Below w.heap.size w w1) => (show w1.cell? ⟨b, oo, none⟩ = some (.int .i64 c.id) by rw [← eid]; exact (h.below hb).c0))
  have HSM := hideG (fun (w1 : World) (v : Nat) (hv : v < 13) (hb : Below w.heap.size w w1) => maskShareFor_calls b oo S c.sm v w1 (h.below hb) (hsm.below hb) hc.sm (by rw [ems]; exact g3) (by rw [ems]; exact g4) (by omega) (by omega))
  have HSS := hideG (fun (w1 : World) (v : Nat) (hv : v < 13) (hb : Below w.heap.size w w1) => seedShareFor_calls b oo S c.ss v w1 (h.below hb) (hss.below hb) hc.ss (by rw [esd]; exact g5) (by rw [esd]; exact g6) (by omega) (by omega))
  rw [esd] at HSS
  rw [ems] at HSM
  have HF := hideG hf
  have HAL := hideG (Cli.sealed_all c hr)
  have h0f : ∀ j : Nat, j < 13 → Cli.hasI l j = true → 1 ≤ j := fun j hj e => by
    obtain ⟨x, hx, ex⟩ := Cli.hasI_iff.1 e
    have := (Cli.rise_pair hr).2 x hx
    omega
  have H0 := hideG h0f
  clear h hr hsm hss hf hc eid ems esd h0f
  generalize S.f = f at *
  obtain ⟨CS, hCS⟩ : ∃ CS, CS = circ f := ⟨_, rfl⟩
  rw [← hCS] at HRG HRL HIX
  clear hCS
  go_enter Tryz.func260, Tryz.ntmps260
  go_wp2_with (refine wpList_load_mid rfl 203 _ rfl b (oo + 12) rfl CS _ HRG.out Tryz.underlying203 rfl ?z ?_)
  case z => rw [size_circ, HRL.out]
  go_wp2_with fail
  go_loopw [3, 16] (fun u i wr => ∃ k : Nat, k ≤ 13 ∧ i = .int .i64 k ∧ wr.ownsRow w.heap.size 147 4 u (Cli.sealedN c l k).length (flat4 (Cli.sealedN c l k)) ∧ Below w.heap.size w wr) (fun _ i _ => 13 - (intOf i).toNat)
  case atStart => exact ⟨0, by omega, rfl, World.ownsRow_nil _ _ _ _, Below.refl _ _⟩
  case round =>
    obtain ⟨k, hk, rfl, hown, hbel⟩ := hrel
    have HO := hideG hown
    have HB := hideG hbel
    have hsz := hbel.size
    obtain ⟨a3, c3, hv3⟩ := owns_form hown
    subst hv3
    clear hown hbel
    by_cases hlt : k < 13
    · have hlt' : (k : Int) < 13 := by omega
      have hix := HIX.out k hlt
      have hmem : (f k).mem = Cli.hasI l k := by
        rw [HF.out k hlt]; unfold Cli.firstP
        cases e : Cli.hasI l k
        · rw [if_neg (by simp)]; rfl
        · rw [if_pos rfl]; unfold Cli.pr1; split <;> rfl
      have HSU := hideG (Cli.sealedN_succ c l k)
      cases q : Cli.hasI l k
      · rw [q] at hmem HSU
        rw [hmem] at hix
        clear hmem
        have HS2 := hideG (show Cli.sealedN c l (k + 1) = Cli.sealedN c l k by rw [HSU.out]; simp)
        clear q
        generalize (f k).ck = y1 at *
        generalize (f k).mq = y2 at *
        generalize (f k).ms = y3 at *
        generalize (f k).ss = y4 at *
        go_wp2_with fail
        go_roundw
        case rel => exact ⟨k + 1, by omega, by go_num, by rw [HS2.out]; exact HO.out.alloc _, HB.out.alloc (by omega) _⟩
        case measure => simp [intOf]; omega
      · rw [q] at hmem HSU
        rw [hmem] at hix
        clear hmem
        have c0 := HP.out _ HB.out
        have al : ∀ (ob : Obj) (o : Nat), (wr.alloc ob).cell? ⟨b, o, none⟩ = wr.cell? ⟨b, o, none⟩ := fun ob o => ((Below.refl wr.heap.size wr).alloc (Nat.le_refl _) ob).cell (p := ⟨b, o, none⟩) (by show b < _; omega)
        by_cases q2 : (k : Int) = c.id
        · have q2' : ((k : Int) == c.id) = true := by simpa using q2
          have HS2 := hideG (show Cli.sealedN c l (k + 1) = Cli.sealedN c l k by rw [HSU.out, decide_eq_false (by simpa using q2)]; simp)
          have HQ := hideG q2
          clear q q2
          generalize (f k).ck = y1 at *
          generalize (f k).mq = y2 at *
          generalize (f k).ms = y3 at *
          generalize (f k).ss = y4 at *
          go_wp2_with fail
          go_roundw
          case rel => exact ⟨k + 1, by omega, by go_num, by rw [HS2.out]; exact HO.out.alloc _, HB.out.alloc (by omega) _⟩
          case measure => simp [intOf]; omega
        · have q2' : ((k : Int) == c.id) = false := by simpa using q2
          have hk1 := H0.out k hlt q
          have hck : (f k).ck = Cli.chKey c l k := by
            rw [HF.out k hlt]; unfold Cli.firstP; rw [if_pos q]; unfold Cli.pr1; rw [if_neg q2]
          have k1 := Num.powP_lo (Cli.itemOf l (k : Int)).2.1 c.ch
          have k2 := Num.powP_hi (Cli.itemOf l (k : Int)).2.1 c.ch
          rw [hck] at hix
          have HS2 := hideG (show Cli.sealedN c l (k + 1) = Cli.sealedN c l k ++ [Cli.sealI c l k] by rw [HSU.out, decide_eq_true (by simpa using q2)]; simp)
          have HSI := hideG (show Cli.sealI c l (k : Int) = ((k : Int), Num.addP (Pol.polyP c.ms c.sm k) (Num.padN (Cli.chKey c l k) (64 * c.id + 4 * k)), Num.addP (Pol.polyP c.sd c.ss k) (Num.padN (Cli.chKey c l k) (64 * c.id + 4 * k + 1)),
            Num.tagN (Cli.chKey c l k) (64 * c.id + 4 * k) (Num.addP (Pol.polyP c.ms c.sm k) (Num.padN (Cli.chKey c l k) (64 * c.id + 4 * k))) (Num.addP (Pol.polyP c.sd c.ss k) (Num.padN (Cli.chKey c l k) (64 * c.id + 4 * k + 1)))) from rfl)
          have p1 : 0 ≤ Pol.polyP c.ms c.sm k ∧ Pol.polyP c.ms c.sm k < 2305843009213693951 := Num.elB_iff.1 (Cli.el_polyP _ _ _)
          have p2 : 0 ≤ Pol.polyP c.sd c.ss k ∧ Pol.polyP c.sd c.ss k < 2305843009213693951 := Num.elB_iff.1 (Cli.el_polyP _ _ _)
          obtain ⟨M, hM⟩ : ∃ M, M = Pol.polyP c.ms c.sm k := ⟨_, rfl⟩
          obtain ⟨E, hE⟩ : ∃ E, E = Pol.polyP c.sd c.ss k := ⟨_, rfl⟩
          have k3 : 0 ≤ Cli.chKey c l k := k1
          have k4 : Cli.chKey c l k < 2305843009213693951 := k2
          obtain ⟨K, hK⟩ : ∃ K, K = Cli.chKey c l k := ⟨_, rfl⟩
          rw [← hK] at hix HSI k3 k4
          rw [← hM] at p1 HSI
          rw [← hE] at p2 HSI
          have HM := hideG hM
          have HE := hideG hE
          have HQ := hideG q2
          obtain ⟨p1, p1'⟩ := p1
          obtain ⟨p2, p2'⟩ := p2
          clear q q2 hM hE hK hck k1 k2
          generalize (f k).mq = y2 at *
          generalize (f k).ms = y3 at *
          generalize (f k).ss = y4 at *
          obtain ⟨W1, hW1⟩ : ∃ W1, W1 = wr.alloc (.cells #[.bool true, .int .i64 K, .int .i64 y2, .int .i64 y3, .int .i64 y4] 201) := ⟨_, rfl⟩
          have sW : W1.heap.size = wr.heap.size + 1 := by rw [hW1]; simp
          have BW := hideG (show Below w.heap.size w W1 by rw [hW1]; exact HB.out.alloc (by omega) _)
          have OW := hideG (show W1.ownsRow w.heap.size 147 4 (.slice a3 (Cli.sealedN c l k).length c3) (Cli.sealedN c l k).length (flat4 (Cli.sealedN c l k)) by rw [hW1]; exact HO.out.alloc _)
          have z1 : W1.cell? ⟨wr.heap.size, 1, none⟩ = some (.int .i64 K) := by rw [hW1]; simp
          have Z1 := hideG z1
          clear z1
          have HW1 := hideG hW1
          go_wp2_with fail
          rw [← HW1.out]
          clear hW1 al c0
          refine (HSM.out W1 k hlt BW.out).mono ?_
          rintro e w1 ⟨rfl, hb1⟩
          rw [← HM.out]
          have s1 := hb1.size
          have B1 := hideG (BW.out.trans (hb1.mono BW.out.size))
          have O1 := hideG (ownsRow_chg (S := fun _ => False) OW.out (Chg.of_below hb1) (fun _ _ h => h))
          have Z2 := hideG ((hb1.cell (p := ⟨wr.heap.size, 1, none⟩) (by show wr.heap.size < W1.heap.size; omega)).trans Z1.out)
          clear hb1
          go_wp2_with fail
          refine (HSS.out w1 k hlt B1.out).mono ?_
          rintro e w2 ⟨rfl, hb2⟩
          rw [← HE.out]
          have s2 := hb2.size
          have B2 := hideG (B1.out.trans (hb2.mono B1.out.size))
          have O2 := hideG (ownsRow_chg (S := fun _ => False) O1.out (Chg.of_below hb2) (fun _ _ h => h))
          have z3 := (hb2.cell (p := ⟨wr.heap.size, 1, none⟩) (by show wr.heap.size < w1.heap.size; omega)).trans Z2.out
          have c0 := HP.out _ B2.out
          clear hb2
          go_wp2_with fail
          go_quiet ((go_at_call 218; refine Calls.quiet_of_same (seal_yes _ _ _ _ _ _ k3 k4 (by omega) (by omega) (by omega) (by omega) p1 p1' p2 p2')))
          obtain ⟨A1, hA1⟩ : ∃ A, A = Num.addP M (Num.padN K (64 * c.id + 4 * k)) := ⟨_, rfl⟩
          obtain ⟨A2, hA2⟩ : ∃ A, A = Num.addP E (Num.padN K (64 * c.id + 4 * k + 1)) := ⟨_, rfl⟩
          rw [← hA1, ← hA2] at HSI ⊢
          obtain ⟨A3, hA3⟩ : ∃ A, A = Num.tagN K (64 * c.id + 4 * k) A1 A2 := ⟨_, rfl⟩
          rw [← hA3] at HSI ⊢
          clear hA1 hA2 hA3
          have O3 := hideG (ownsRow_chg (S := fun _ => False) O2.out (Chg.of_below (below_drewN w2 nq)) (fun _ _ h => h))
          have B3 := hideG (B2.out.trans ((below_drewN w2 nq).mono B2.out.size))
          have hl13 := sealedN_len c l k
          go_wp2_with (at_builtin; refine wpList_append_own _ rfl _ _ 63 rfl w.heap.size 147 i1 (.agg #[.int .i64 0, .int .i64 0, .int .i64 0, .int .i64 0]) 4 32 Tryz.underlying63 hi1 hy0 hy1 hy2 rfl (by decide) _ _ _ rfl (O3.out.alloc _) ⟨(w2.drewN nq).heap.size, 0, none⟩ 1 1 [.int .i64 k, .int .i64 A1, .int .i64 A2, .int .i64 A3] rfl rfl ?c1 ?c2 ?c3 ?c4 ?c5 ?_)
          case c1 => exact cell_four_new _ _ _ _ _ _
          case c2 => intro u hu; simp at hu; rcases hu with rfl | rfl | rfl | rfl <;> rfl
          case c3 => unfold maxLen; omega
          case c4 => omega
          case c5 => simp; omega
          intro v' w4 hown' hgrow' _
          have hb4 := (B3.out.alloc (by simp; omega) _).grown hgrow' (by simp; omega) (fun y hy => (O3.out.lt y hy).1)
          have B4 := hideG hb4
          have O4 := hideG (show w4.ownsRow w.heap.size 147 4 v' (Cli.sealedN c l (k + 1)).length (flat4 (Cli.sealedN c l (k + 1))) by
            rw [HS2.out, flat4_append, HSI.out, List.length_append]; exact hown')
          clear hown' hgrow' hb4
          go_wp2_with fail
          go_roundw
          case rel => exact ⟨k + 1, by omega, by go_num, O4.out, B4.out⟩
          case measure => simp [intOf]; omega
    · have ek : k = 13 := by omega
      subst ek
      go_wp2_with fail
      go_ret
      exact ⟨_, rfl, by rw [← HAL.out]; exact HO.out, HB.out⟩
end Go.Proofs.YtchideljndagjabGreat.Co
namespace Go.Proofs.YtchideljndagjabGreat.Co
open Go.ChangeShapes Go.WideShapes Go.ChangeAt Go.RowKit
set_option linter.unusedVariables false
set_option maxHeartbeats 800000 in
set_option maxRecDepth 100000 in
theorem first_calls (b oo : Nat) (S : PS) (c : Cli.Cl) (v : Value) (l : List Frm.It) (w : World) (h : PSAt w b oo S) (hl : ItemsAt w v l) (hr : Frm.riseB l = true) (hlen : l.length ≤ 12)
    (hel : ∀ x ∈ l, 0 ≤ x.2.1 ∧ x.2.1 < 2305843009213693951 ∧ 0 ≤ x.2.2.1 ∧ x.2.2.1 < 2305843009213693951)
    (hc : Cli.Good c) (eid : S.id = c.id) (ech : S.ch = c.ch) (ems : S.ms = c.ms) (esd : S.sd = c.sd) (hss : ListAt w S.ss c.ss) :
    Calls Tryz.prog 259 #[.pointer (some ⟨b, oo, none⟩), v] w fun e w' =>
      e = .returned (.agg (circ (Cli.firstP c l)).toArray) ∧ Below w.heap.size w w' := by
  have hbl := h.lt
  obtain ⟨g1, g2⟩ := hc.ch
  obtain ⟨g3, g4⟩ := hc.ms
  obtain ⟨g5, g6⟩ := hc.sd
  have gi := hc.i
  have gn := hc.n
  have HP := hideG (fun (w1 : World) (hb : Below w.heap.size w w1) => (show w1.cell? ⟨b, oo, none⟩ = some (.int .i64 c.id) ∧ w1.cell? ⟨b, oo + 7, none⟩ = some (.int .i64 c.ch) ∧ w1.cell? ⟨b, oo + 8, none⟩ = some (.int .i64 c.ms) from
    ⟨by rw [← eid]; exact (h.below hb).c0, by rw [← ech]; exact (h.below hb).c7, by rw [← ems]; exact (h.below hb).c8⟩))
  have HSS := hideG (fun (w1 : World) (hb : Below w.heap.size w w1) => seedShareFor_calls b oo S c.ss c.id w1 (h.below hb) (hss.below hb) hc.ss (by rw [esd]; exact g5) (by rw [esd]; exact g6) (by omega) (by omega))
  rw [esd] at HSS
  obtain ⟨a, cap, rfl, l2, l3, _, hcl⟩ := items_view hl
  have HC := hideG hcl
  have HI := hideG (fun j (hj : j < l.length) => (Cli.rise_pair hr).2 (Frm.it l j) (by rw [Cli.it_get l j hj]; exact List.getElem_mem hj))
  have HE := hideG (fun j (hj : j < l.length) => hel (Frm.it l j) (by rw [Cli.it_get l j hj]; exact List.getElem_mem hj))
  have HOF := hideG (fun j (hj : j < l.length) => Cli.itemOf_it hr hj)
  have HZ := hideG zero_circ
  clear h hl hr hcl hel eid ech ems esd hss hc
  obtain ⟨n, hn⟩ : ∃ n, n = l.length := ⟨_, rfl⟩
  rw [← hn] at l2 HC hlen HI HE HOF ⊢
  have HN := hideG hn
  clear hn
  have HF := hideG (show Cli.firstJ c l n = Cli.firstP c l by rw [HN.out]; exact Cli.firstJ_end c l)
  have HS := hideG (fun k (hk : k < n) u (hu : (Frm.it l k).1 = ((u : Nat) : Int)) => Cli.firstJ_succ c l k (by rw [← HN.out]; exact hk) u hu)
  go_enter Tryz.func259, Tryz.ntmps259
  go_wp2_with fail
  go_loopw [11] (fun i wr => ∃ k : Nat, k ≤ n ∧ i = .int .i64 k ∧ CircAt wr (w.heap.size + 1) (Cli.firstJ c l k) ∧ CircAt wr w.heap.size (fun _ => Cli.Pr.z) ∧ Below w.heap.size w wr) (fun i _ => n - (intOf i).toNat)
  case atStart =>
    refine ⟨0, Nat.zero_le _, rfl, ?_, ?_, ((Below.refl _ _).alloc (Nat.le_refl _) _).alloc (by simp) _⟩
    · rw [Cli.firstJ_zero]; unfold CircAt; rw [← HZ.out]; exact heap_alloc2_new w _ _
    · unfold CircAt; rw [← HZ.out]; exact heap_alloc2_old w _ _
  case round =>
    obtain ⟨k, hk, rfl, hcc, hzz, hbel⟩ := hrel
    have HCC := hideG hcc
    have HZZ := hideG hzz
    have HB := hideG hbel
    have hsz := hbel.size
    have hs2 := hcc.lt
    clear hcc hzz hbel
    by_cases hlt : k < n
    · obtain ⟨b', off, rfl, hb, hit⟩ := HC.out k hlt
      obtain ⟨d0, d1, d2, d3⟩ := hit.below hb HB.out
      obtain ⟨u, hu⟩ : ∃ u : Nat, (Frm.it l k).1 = (u : Int) := ⟨(Frm.it l k).1.toNat, by have := HI.out k hlt; omega⟩
      have hub := HI.out k hlt
      rw [hu] at hub d0
      have u13 : u < 13 := by omega
      have u13' : (u : Int) < 13 := by omega
      obtain ⟨c0, c7, c8⟩ := HP.out _ HB.out
      clear hit
      have HX := hideG hu
      have HS2 := hideG (HS.out k hlt u hu)
      have e1 := HE.out k hlt
      obtain ⟨xa, hxa⟩ : ∃ x, x = (Frm.it l k).2.1 := ⟨_, rfl⟩
      obtain ⟨xb, hxb⟩ : ∃ x, x = (Frm.it l k).2.2.1 := ⟨_, rfl⟩
      rw [← hxa, ← hxb] at e1
      rw [← hxa] at d1
      rw [← hxb] at d2
      obtain ⟨x1, x2, x3, x4⟩ := e1
      have HPR := hideG (show Cli.pr1 c l (Frm.it l k).1 = if (u : Int) = c.id then Cli.ownPr c else ⟨true, Num.powP xa c.ch, Num.powP xb c.ms, 0, 0⟩ by
        unfold Cli.pr1 Cli.chKey Cli.mkKey
        rw [HOF.out k hlt, hu, hxa, hxb])
      clear hu hxa hxb
      generalize (Frm.it l k).2.2.2 = xc at *
      have al : ∀ (o1 o2 : Obj) (o : Nat), ((wr.alloc o1).alloc o2).cell? ⟨b, o, none⟩ = wr.cell? ⟨b, o, none⟩ := fun o1 o2 o => (((Below.refl wr.heap.size wr).alloc (Nat.le_refl _) o1).alloc (by simp) o2).cell (p := ⟨b, o, none⟩) (by show b < _; omega)
      have HBW := hideG (fun (o1 o2 : Obj) (m : Nat) => (show Below wr.heap.size wr (((wr.alloc o1).alloc o2).drewN m) from (((Below.refl wr.heap.size wr).alloc (Nat.le_refl _) o1).alloc (by simp) o2).trans ((below_drewN _ _).mono (by simp; omega))))
      have HBW3 := hideG (fun (o1 o2 : Obj) (m : Nat) (x y : Value) => (show Below wr.heap.size wr (((((wr.alloc o1).alloc o2).drewN m).setCell ⟨wr.heap.size + 1, 1, none⟩ x).setCell ⟨wr.heap.size + 1, 2, none⟩ y).drew from
        (((HBW.out o1 o2 m).setCell (p := ⟨wr.heap.size + 1, 1, none⟩) (by show wr.heap.size ≤ wr.heap.size + 1; omega) x).setCell (p := ⟨wr.heap.size + 1, 2, none⟩) (by show wr.heap.size ≤ wr.heap.size + 1; omega) y).drew))
      have HTH := hideG (fun (W : World) (hb : Below wr.heap.size wr W) => (HCC.out.below hb hs2).there (u * 5) 5 (by omega))
      by_cases q : (u : Int) = c.id
      · have q' : ((u : Int) == c.id) = true := by simpa using q
        have HQ := hideG q
        clear q
        go_wp2_with fail
        go_quiet (fail)
        go_wp2_with fail
        refine (HSS.out _ ((HB.out.alloc (by omega) _).alloc (by simp; omega) _ |>.trans ((below_drewN _ _).mono (by simp; omega)))).mono ?_
        rintro e w1 ⟨rfl, hw1⟩
        have s1 := hw1.size
        have z0 := hw1.cell (p := ⟨wr.heap.size, 0, none⟩) (by simp <;> omega)
        have y0 := hw1.cell (p := ⟨wr.heap.size + 1, 0, none⟩) (by simp)
        have y1 := hw1.cell (p := ⟨wr.heap.size + 1, 1, none⟩) (by simp)
        have y2 := hw1.cell (p := ⟨wr.heap.size + 1, 2, none⟩) (by simp)
        have y3 := hw1.cell (p := ⟨wr.heap.size + 1, 3, none⟩) (by simp)
        have y4 := hw1.cell (p := ⟨wr.heap.size + 1, 4, none⟩) (by simp)
        have yf := hw1.frozen (p := ⟨wr.heap.size + 1, 4, none⟩) (by simp)
        simp [go_sem] at z0 y0 y1 y2 y3 y4 yf s1
        have HB1 := hideG (fun (x : Value) => (((HBW.out _ _ _).trans (hw1.mono (by simp; omega))).setCell (p := ⟨wr.heap.size + 1, 4, none⟩) (by show wr.heap.size ≤ wr.heap.size + 1; omega) x))
        have HPE := hideG (show Cli.pr1 c l (Frm.it l k).1 = ⟨true, 0, 0, 0, Pol.polyP c.sd c.ss c.id⟩ by rw [HPR.out, if_pos HQ.out]; rfl)
        clear hw1
        generalize Pol.polyP c.sd c.ss c.id = E at *
        go_wp2_with (refine wpList_store_peer rfl _ _ rfl (w.heap.size + 1) (u * 5) true 0 0 0 E rfl rfl ?t ?_)
        case t => exact HTH.out _ (HB1.out _)
        go_wp2_with fail
        go_roundw
        case rel =>
          have hb := HB1.out (.int .i64 E)
          refine ⟨k + 1, by omega, by go_num, ?_, ?_, below_setCells (by omega) _ _ _ (HB.out.trans (hb.mono hsz))⟩
          · rw [HS2.out, HPE.out]
            exact (HCC.out.below hb hs2).set u u13 ⟨true, 0, 0, 0, E⟩
          · exact (HZZ.out.below hb (by omega)).block (heap_setCells_other _ _ (by omega) _ _ _)
        case measure => simp [intOf]; omega
      · have q' : ((u : Int) == c.id) = false := by simpa using q
        have HQ := hideG q
        clear q
        go_wp2_with fail
        go_quiet (fail)
        go_wp2_with fail
        have hn1 : b ≠ wr.heap.size + 1 := by omega
        have hn2 : wr.heap.size + 1 ≠ b := by omega
        go_region_held3 (fun w' => w'.cell? ⟨wr.heap.size, 1, none⟩ = some (.int .i64 xa) ∧ w'.cell? ⟨b, oo + 7, none⟩ = some (.int .i64 c.ch))
          (first | go_keep)
          ((go_at_call 147; refine (power_calls _ _ _ x1 x2 (by omega)).mono ?_; rintro e w1 ⟨rfl, rfl⟩))
        go_wp2_with fail
        go_region_held3 (fun w' => w'.cell? ⟨wr.heap.size, 2, none⟩ = some (.int .i64 xb) ∧ w'.cell? ⟨b, oo + 8, none⟩ = some (.int .i64 c.ms))
          (first | go_keep)
          ((go_at_call 147; refine (power_calls _ _ _ x3 x4 (by omega)).mono ?_; rintro e w1 ⟨rfl, rfl⟩))
        have HPE := hideG (show Cli.pr1 c l (Frm.it l k).1 = ⟨true, Num.powP xa c.ch, Num.powP xb c.ms, 0, 0⟩ by rw [HPR.out, if_neg HQ.out])
        obtain ⟨K1, hK1⟩ : ∃ K, K = Num.powP xa c.ch := ⟨_, rfl⟩
        obtain ⟨K2, hK2⟩ : ∃ K, K = Num.powP xb c.ms := ⟨_, rfl⟩
        rw [← hK1, ← hK2] at HPE ⊢
        clear hK1 hK2
        go_wp2_with (refine wpList_store_peer rfl _ _ rfl (w.heap.size + 1) (u * 5) true K1 K2 0 0 rfl rfl ?t ?_)
        case t => exact HTH.out _ (HBW3.out _ _ _ _ _)
        go_wp2_with fail
        go_roundw
        case rel =>
          have hb := HBW3.out (Obj.cells #[.int .i64 u, .int .i64 xa, .int .i64 xb, .int .i64 xc] 147) (Obj.cells #[.bool true, .int .i64 0, .int .i64 0, .int .i64 0, .int .i64 0] 201) (nq + 1) (.int .i64 K1) (.int .i64 K2)
          refine ⟨k + 1, by omega, by go_num, ?_, ?_, below_setCells (by omega) _ _ _ (HB.out.trans (hb.mono hsz))⟩
          · rw [HS2.out, HPE.out]
            exact (HCC.out.below hb hs2).set u u13 ⟨true, K1, K2, 0, 0⟩
          · exact (HZZ.out.below hb (by omega)).block (heap_setCells_other _ _ (by omega) _ _ _)
        case measure => simp [intOf]; omega
    · have ek : k = n := by omega
      subst ek
      have FE := HF.out
      have HCR := hideG HCC.out.range
      have HZT := hideG (HZZ.out.there 0 65 (by omega))
      have HL65 := hideG (circ_length (Cli.firstJ c l k))
      have HON := hideG (all_oneCell_toArray (circ_one (Cli.firstJ c l k)))
      have HEN := hideG (show CircAt (wr.setCells w.heap.size 0 (circ (Cli.firstJ c l k))) w.heap.size (Cli.firstJ c l k) ∧ Below w.heap.size w (wr.setCells w.heap.size 0 (circ (Cli.firstJ c l k))) from
        ⟨HZZ.out.all _, below_setCells (Nat.le_refl _) _ _ _ HB.out⟩)
      have HG := hideG FE
      clear FE
      generalize Cli.firstJ c l k = g at *
      obtain ⟨CS, hCS⟩ : ∃ CS, CS = circ g := ⟨_, rfl⟩
      rw [← hCS] at HCR HL65 HON HEN
      have HCS := hideG hCS
      clear hCS
      have HROW := hideG (show (wr.setCells w.heap.size 0 CS).heap[w.heap.size]? = some (.cells CS.toArray 203 (0, 0)) by have := HEN.out.1; unfold CircAt at this; rw [← HCS.out] at this; exact this)
      have HSZ := hideG (show (Tryz.prog.info? 203).map (·.size) = some CS.toArray.size by rw [size_circ, List.size_toArray, HL65.out])
      have HSL := hideG (show (Tryz.prog.info? 203).map (·.size) = some CS.length by rw [size_circ, HL65.out])
      have e65 : CS.toArray.size = 65 := by rw [List.size_toArray]; exact HL65.out
      have HT1 := hideG (show wr.there w.heap.size 0 CS.toArray.size by rw [e65]; exact HZT.out)
      clear e65
      go_wp2_with (first | refine wpList_load_mid rfl 203 _ rfl (w.heap.size + 1) 0 rfl CS _ HCR.out Tryz.underlying203 rfl HSL.out ?_ | refine wpList_store_mid rfl 203 _ _ rfl w.heap.size 0 CS.toArray rfl rfl HT1.out HSZ.out HON.out ?_)
      refine bodyPost_ret (results_cell_row rfl _ _ w.heap.size 203 CS.toArray (0, 0) _ rfl HROW.out Tryz.underlying203 rfl HSZ.out) rfl ?_
      exact ⟨by rw [HCS.out, HG.out], HEN.out.2⟩
end Go.Proofs.YtchideljndagjabGreat.Co
namespace Go.Proofs.YtchideljndagjabGreat.Co
open Go.ChangeShapes Go.WideShapes Go.ChangeAt Go.RowKit
set_option linter.unusedVariables false
theorem keys_eq {w : World} {b oo : Nat} {c : Cli.Cl} {s : Cli.St} {S : PS} {l : List Frm.It} (hc : Cli.Good c) (h : CliAt w b oo c s S) (h1 : s.1 = 1) (hr : Frm.riseB l = true) :
    ((l.all fun x => decide (x.1 ≤ S.n)) && (decide (S.t ≤ (l.length : Int)) && l.any (ownIt S.id S.cp S.mp))) = Cli.keysAgree c l := by
  rw [(h.one h1).1, h.et (by omega) (by omega), h.eid, h.ecp, h.emp, own_any hr _ _ _ hc.i.1]
  rfl
set_option maxHeartbeats 1000000 in
set_option maxRecDepth 100000 in
theorem takeKeys_no (b oo : Nat) (c : Cli.Cl) (s : Cli.St) (S : PS) (v : Value) (fr : Int) (l : List Frm.It) (w : World) (hc : Cli.Good c) (hw : CliW w b oo c s S) (h1 : s.1 = 1) (hl : ItemsAt w v l) (ho : Frm.okF 2 fr l = true) (ha : Cli.keysAgree c l = false) (s' : Cli.St) (hs' : s'.1 = 0) :
    Calls Tryz.prog 206 #[.pointer (some ⟨b, oo, none⟩), v] w fun e w' => ∃ va, e = .returned va ∧ ∃ S', Took w w' b oo c s' S S' ∧ Ans w w' b S' va none := by
  have h := hw.cli
  have HLOW := hideG hw.low
  clear hw
  obtain ⟨o1, o2, o3, o4, o5⟩ := Frm.okF_parts ho
  have gt := hc.t
  have gn := hc.n
  have et := h.et (by omega) (by omega)
  have HK := hideG (keysAgree_calls b oo S v l w h.at_ hl o3 o1 (by rw [et]; omega))
  rw [keys_eq hc h h1 o3, ha] at HK
  have hbl := h.at_.lt
  have HH := hideG (fun w1 (hb : Below w.heap.size w w1) => halt_calls b oo S w1 (h.at_.below hb))
  have HE := hideG (And.intro h.eid (And.intro h.ecp h.emp))
  obtain ⟨a, cap, rfl, -⟩ := items_view hl
  clear h hl ho ha o1 o2 o3 o4 o5 et
  go_enter Tryz.func206, Tryz.ntmps206
  go_wp2_with fail
  refine HK.out.mono ?_
  rintro e w1 ⟨rfl, hb1⟩
  have HB := hideG hb1
  clear hb1
  go_wp2_with fail
  refine (HH.out w1 HB.out).mono ?_
  rintro e w2 ⟨rfl, hp, hch⟩
  have HP := hideG hp
  have HC := hideG hch
  clear hp hch
  go_wp2_with fail
  go_ret
  exact ⟨_, rfl, haltS S, took_halt hs' HP.out HE.out.1 HE.out.2.1 HE.out.2.2 (ChgC.of_below HB.out hbl) HC.out, rfl⟩
theorem PSAt.drew {w : World} {b oo : Nat} {s : PS} (h : PSAt w b oo s) : PSAt w.drew b oo s := by unfold PSAt at *; exact h
theorem keyed_end {w w5 W : World} {b oo B : Nat} {S : PS} {g : Nat → Cli.Pr} {v : Value} {l : List Frm.It} (h : PSAt w5 b oo { S with f := g, ph := 2 }) (hc : ChgC b oo w w5) (ho : w5.ownsRow B 147 4 v l.length (flat4 l)) (hB : b < B)
    (hW : W = (w5.setCells b (oo + 6) [S.inp, .int .i64 0, .int .i64 0, .int .i64 S.sd, .slice none 0 0, .slice none 0 0]).drew) :
    PSAt W b oo (keyedS S g) ∧ ChgC b oo w W ∧ W.ownsRow B 147 4 v l.length (flat4 l) := by
  have c1 : ChgC b oo w5 (w5.setCells b (oo + 6) [S.inp, .int .i64 0, .int .i64 0, .int .i64 S.sd, .slice none 0 0, .slice none 0 0]).drew := (ChgC.cells w5 _ 6 (by show 6 + 6 ≤ 78; omega)).also (ChgC.drew _ _ _)
  rw [hW]
  refine ⟨(h.setDraw S.inp 0 0 S.sd (.slice none 0 0) (.slice none 0 0)).drew, hc.also c1, ownsRow_chg ho c1.chg (fun x e hx => by have := (ho.lt x e).1; omega)⟩
set_option maxHeartbeats 2000000 in
set_option maxRecDepth 100000 in
theorem takeKeys_yes (b oo : Nat) (c : Cli.Cl) (s : Cli.St) (S : PS) (v : Value) (fr : Int) (l : List Frm.It) (w : World) (hc : Cli.Good c) (hw : CliW w b oo c s S) (h1 : s.1 = 1) (hl : ItemsAt w v l) (ho : Frm.okF 2 fr l = true) (ha : Cli.keysAgree c l = true) :
    Calls Tryz.prog 206 #[.pointer (some ⟨b, oo, none⟩), v] w fun e w' => ∃ va, e = .returned va ∧ ∃ S', Took w w' b oo c (2, l, [], []) S S' ∧ Ans w w' b S' va (some (3, c.id, Cli.sharing c l)) := by
  have h := hw.cli
  have HLOW := hideG hw.low
  clear hw
  obtain ⟨o1, o2, o3, o4, o5⟩ := Frm.okF_parts ho
  have gt := hc.t
  have gn := hc.n
  have et := h.et (by omega) (by omega)
  obtain ⟨n1, n2, n3, n4, n5⟩ := h.one h1
  obtain ⟨m1, m2⟩ := h.mid (by omega) (by omega)
  obtain ⟨a1, a2, a3, a4⟩ := h.apart
  have hbl := h.at_.lt
  have HK := hideG (keysAgree_calls b oo S v l w h.at_ hl o3 o1 (by rw [et]; omega))
  rw [keys_eq hc h h1 o3, ha] at HK
  have HF := hideG (fun w1 (hb : Below w.heap.size w w1) => first_calls b oo S c v l w1 (h.at_.below hb) (hl.below hb) o3 o1 (okF_keys ho) hc h.eid n2 n3 m2 (n5.below hb))
  have HPS := hideG (fun w1 (hb : Below w.heap.size w w1) => h.at_.below hb)
  have HNA := hideG (h.nil (by omega))
  have HS1 := hideG (fun (w1 : World) (hch : ChgC b oo w w1) (hp : PSAt w1 b oo { S with f := Cli.firstP c l }) => sealedShares_calls b oo { S with f := Cli.firstP c l } c l w1 hp o3 hc h.eid n3 m2 (n4.chg hch.chg (fun x e hx => a2 (by rw [e, hx]))) (n5.chg hch.chg (fun x e hx => a3 (by rw [e, hx]))) (fun v _ => rfl))
  have HSO := hideG (Cli.sharing_ok hc (k := l) o3)
  have HIN := hideG (fun (w1 : World) (hch : ChgC b oo w w1) => m1.chg hch.chg (fun x e hx => a1 (by rw [e, hx])))
  have HCLI := hideG (fun (w1 : World) (hch : ChgC b oo w w1) (hp : PSAt w1 b oo (keyedS S (Cli.firstP c l))) => (show CliAt w1 b oo c (2, l, [], []) (keyedS S (Cli.firstP c l)) from
    { at_ := hp, ph := ⟨by show (0 : Int) ≤ 2; omega, by show (2 : Int) ≤ 4; omega⟩, eid := h.eid, eph := rfl, ecp := h.ecp, emp := h.emp, one := fun e => absurd e (by show ¬ (2 : Int) = 1; omega), mid := fun _ _ => ⟨m1.chg hch.chg (fun x e hx => a1 (by rw [e, hx])), m2⟩, et := fun _ _ => et,
      two := fun _ => ⟨fun _ _ => rfl, o3, ha, okF_keys ho⟩, three := fun e => absurd e (by show ¬ (2 : Int) = 3; omega), nil := fun _ => h.nil (by omega), four := fun e => absurd e (by show ¬ (2 : Int) = 4; omega),
      apart := ⟨a1, by show (Value.slice none 0 0).ownBlock ≠ _; rw [nil_own]; simp, by show (Value.slice none 0 0).ownBlock ≠ _; rw [nil_own]; simp, a4⟩ }))
  have HEID := hideG h.eid
  obtain ⟨a, cap, rfl, -⟩ := items_view hl
  obtain ⟨ai, ci, hvi, -⟩ := m1
  have HVI := hideG hvi
  clear h hl ho ha o1 o2 o3 o4 o5 et n1 n2 n3 n4 n5 m2 a1 a2 a3 a4 hvi
  go_enter Tryz.func206, Tryz.ntmps206
  go_wp2_with fail
  refine HK.out.mono ?_
  rintro e w1 ⟨rfl, hb1⟩
  have B1 := hideG hb1
  have s1 := hb1.size
  clear hb1
  go_wp2_with fail
  refine (HF.out w1 B1.out).mono ?_
  rintro e w2 ⟨rfl, hb2⟩
  have s2 := hb2.size
  have B2 := hideG (B1.out.trans (hb2.mono s1))
  clear hb2
  obtain ⟨g, hg⟩ : ∃ g, g = Cli.firstP c l := ⟨_, rfl⟩
  rw [← hg] at HS1 HCLI ⊢
  clear hg
  have PS2 := hideG (HPS.out w2 B2.out)
  obtain ⟨CS, hCS⟩ : ∃ CS, CS = circ g := ⟨_, rfl⟩
  rw [← hCS]
  have L65 := hideG (show CS.length = 65 by rw [hCS]; exact circ_length g)
  have HON := hideG (show CS.toArray.all (·.oneCell') = true by rw [hCS]; exact all_oneCell_toArray (circ_one g))
  have HSZ := hideG (show (Tryz.prog.info? 203).map (·.size) = some CS.toArray.size by rw [size_circ, List.size_toArray, L65.out])
  have HTH := hideG (show w2.there b (oo + 12) CS.toArray.size by rw [List.size_toArray, L65.out]; exact PS2.out.there 12 65 (by omega))
  have PS3 := hideG (show PSAt (w2.setCells b (oo + 12) CS) b oo { S with f := g } by rw [hCS]; exact PS2.out.setF g)
  have C3 := hideG (show ChgC b oo w (w2.setCells b (oo + 12) CS) from (ChgC.of_below B2.out hbl).also (ChgC.cells w2 CS 12 (by have := L65.out; omega)))
  clear hCS
  go_wp2_with (refine wpList_store_mid rfl 203 _ _ rfl b (oo + 12) CS.toArray rfl rfl HTH.out HSZ.out HON.out ?_)
  obtain ⟨w3, hw3⟩ : ∃ w3, w3 = w2.setCells b (oo + 12) CS := ⟨_, rfl⟩
  rw [← hw3] at PS3 C3 ⊢
  clear hw3
  have s3 := C3.out.size
  refine (HS1.out w3 C3.out PS3.out).mono ?_
  rintro e w4 ⟨va, rfl, hown, hb4⟩
  have s4 := hb4.size
  have C4 := hideG (C3.out.grow hb4 PS3.out.lt)
  have PS4 := hideG (PS3.out.below hb4)
  have O4 := hideG hown
  obtain ⟨a4, c4, hv4⟩ := owns_form hown
  subst hv4
  clear hown hb4
  have d1 := PS4.out.c1
  have f1 := PS4.out.froz 1 (by decide)
  go_wp2_with fail
  obtain ⟨w5, hw5⟩ : ∃ w5, w5 = w4.setCell ⟨b, oo + 1, none⟩ (.int .i64 2) := ⟨_, rfl⟩
  rw [← hw5]
  have PS5 := hideG (show PSAt w5 b oo { S with f := g, ph := 2 } by rw [hw5]; exact PS4.out.setPh 2)
  have C5 := hideG (show ChgC b oo w w5 by rw [hw5]; exact C4.out.also (ChgC.cell w4 _ 1 (by decide)))
  have O5 := hideG (show w5.ownsRow w3.heap.size 147 4 (.slice a4 (Cli.sharing c l).length c4) (Cli.sharing c l).length (flat4 (Cli.sharing c l)) by
    rw [hw5]; exact ownsRow_chg O4.out (ChgC.cell (b := b) (o := oo) w4 _ 1 (by decide)).chg (fun x e hx => by have := (O4.out.lt x e).1; omega))
  clear hw5 d1 f1
  have e6 := PS5.out.c6
  have e7 := PS5.out.c7
  have e8 := PS5.out.c8
  have e9 := PS5.out.c9
  have e10 := PS5.out.c10
  have e11 := PS5.out.c11
  have ef6 := PS5.out.froz 6 (by decide); have ef7 := PS5.out.froz 7 (by decide); have ef8 := PS5.out.froz 8 (by decide); have ef9 := PS5.out.froz 9 (by decide); have ef10 := PS5.out.froz 10 (by decide); have ef11 := PS5.out.froz 11 (by decide)
  have HW6 := hideG (fun (W : World) hW => keyed_end (W := W) PS5.out C5.out O5.out (by omega) hW)
  rw [HVI.out] at e6 HW6
  go_region
  obtain ⟨w6, hw6⟩ : ∃ w6, w6 = ((((((w5.setCell ⟨b, oo + 6, none⟩ (.slice ai c.inp.length ci)).setCell ⟨b, oo + 7, none⟩ (.int .i64 0)).setCell ⟨b, oo + 8, none⟩ (.int .i64 0)).setCell ⟨b, oo + 9, none⟩ (.int .i64 S.sd)).setCell ⟨b, oo + 10, none⟩ (.slice none 0 0)).setCell ⟨b, oo + 11, none⟩ (.slice none 0 0)).drew := ⟨_, rfl⟩
  rw [← hw6]
  obtain ⟨p6, ch6, o6⟩ := HW6.out w6 hw6
  have PS6 := hideG p6
  have C6 := hideG ch6
  have I6 := hideG (itemsAt_of_owns o6 (okF_in HSO.out))
  have s6 := ch6.size
  have O6 := hideG o6
  have WR := hideG (written_calls_c b oo (keyedS S g) 3 _ (Cli.sharing c l) w6 p6 I6.out (by show Frm.okF 3 S.id _ = true; rw [HEID.out]; exact HSO.out))
  clear hw6 p6 ch6 o6 e6 e7 e8 e9 e10 e11 ef6 ef7 ef8 ef9 ef10 ef11
  go_wp2_with fail
  refine WR.out.mono ?_
  rintro e w7 ⟨vb, rfl, hown7, hb7⟩
  have C7 := hideG (C6.out.grow hb7 PS6.out.lt)
  have PS7 := hideG (PS6.out.below hb7)
  have O7 := hideG hown7
  clear hown7 hb7
  go_wp2_with fail
  go_ret
  have hfoot : ∀ x, CFoot b (keyedS S g) x → CFoot b S x := fun x hx => by
    rcases hx with hx | hx | hx | hx | hx
    · exact .inl hx
    · exact .inr (.inl hx)
    · change (Value.slice none 0 0).ownBlock = some x at hx; rw [nil_own] at hx; cases hx
    · change (Value.slice none 0 0).ownBlock = some x at hx; rw [nil_own] at hx; cases hx
    · exact .inr (.inr (.inr (.inr hx)))
  refine ⟨_, rfl, keyedS S g, ⟨⟨HCLI.out w7 C7.out PS7.out, fun x hx => Nat.lt_of_lt_of_le (HLOW.out x (hfoot x hx)) C7.out.size⟩, C7.out, fun x hx => .inl (hfoot x hx)⟩, ?_, fun x hx hf => ?_⟩
  · have e : (keyedS S g).id = c.id := HEID.out
    have := O7.out
    rw [e] at this
    exact ownsRow_base this s6
  · have hl := (O7.out.lt x hx).1
    have := HLOW.out x (hfoot x hf)
    omega
end Go.Proofs.YtchideljndagjabGreat.Co
namespace Go.Proofs.YtchideljndagjabGreat.Co
open Go.ChangeShapes Go.WideShapes Go.ChangeAt Go.RowKit
set_option linter.unusedVariables false
set_option maxHeartbeats 400000 in
set_option maxRecDepth 100000 in
theorem second_short (b oo : Nat) (S : PS) (v : Value) (l : List Frm.It) (w : World) (h : PSAt w b oo S) (hl : ItemsAt w v l) (hlen : l.length ≤ 12) (ht : (l.length : Int) + 1 < S.t) :
    Calls Tryz.prog 261 #[.pointer (some ⟨b, oo, none⟩), v] w fun e w' =>
      e = .returned (.tuple #[.agg (circ fun _ => Cli.Pr.z).toArray, .bool false]) ∧ Below w.heap.size w w' := by
  have hbl := h.lt
  have c5 := h.c5
  obtain ⟨a, cap, rfl, l2, l3, _, hcl⟩ := items_view hl
  have HZ := hideG zero_circ
  have HZL := hideG zero_list
  clear h hl hcl
  have HC0 := hideG (show CircAt (w.alloc (.cells Tryz.zeroCells203 203)) w.heap.size (fun _ => Cli.Pr.z) by unfold CircAt; rw [← HZ.out]; exact heap_alloc_new w _)
  have al : (w.alloc (.cells Tryz.zeroCells203 203)).cell? ⟨b, oo + 5, none⟩ = some (.int .i64 S.t) := by rw [((Below.refl w.heap.size w).alloc (Nat.le_refl _) _).cell (p := ⟨b, oo + 5, none⟩) (by exact hbl)]; exact c5
  generalize S.t = t at *
  generalize l.length = n at *
  have HT0 := hideG (show (w.alloc (.cells Tryz.zeroCells203 203)).there w.heap.size 0 Tryz.zeroCells203.toList.length by
    rw [HZL.out, circ_length]; exact HC0.out.there 0 65 (by omega))
  have hst := stc Tryz.prog w.heap.size 0 Tryz.zeroCells203.toList _ HT0.out (by rw [HZL.out]; exact circ_one _)
  have HROW := hideG (show ((w.alloc (.cells Tryz.zeroCells203 203)).setCells w.heap.size 0 Tryz.zeroCells203.toList).heap[w.heap.size]? = some (.cells (circ fun _ => Cli.Pr.z).toArray 203 (0, 0)) by rw [HZL.out]; exact HC0.out.all _)
  have HSZ := hideG (show (Tryz.prog.info? 203).map (·.size) = some (circ fun _ => Cli.Pr.z).toArray.size by rw [size_circ, List.size_toArray, circ_length])
  obtain ⟨CZ, hCZ⟩ : ∃ CZ, CZ = (circ fun _ => Cli.Pr.z).toArray := ⟨_, rfl⟩
  rw [← hCZ] at HROW HSZ ⊢
  have HBW := hideG (show Below w.heap.size w ((w.alloc (.cells Tryz.zeroCells203 203)).setCells w.heap.size 0 Tryz.zeroCells203.toList) from below_setCells (Nat.le_refl _) _ _ _ ((Below.refl w.heap.size w).alloc (Nat.le_refl _) _))
  obtain ⟨W2, hW2⟩ : ∃ W2, W2 = (w.alloc (.cells Tryz.zeroCells203 203)).setCells w.heap.size 0 Tryz.zeroCells203.toList := ⟨_, rfl⟩
  rw [← hW2] at hst HROW HBW
  clear hW2
  clear hCZ
  go_enter Tryz.func261, Tryz.ntmps261
  go_wp2_with fail
  trace "1"
  refine bodyPost_ret (results_row_tmp rfl _ _ w.heap.size 203 CZ (0, 0) _ rfl HROW.out Tryz.underlying203 rfl HSZ.out) rfl ?_
  trace "2"
  exact ⟨rfl, HBW.out⟩
end Go.Proofs.YtchideljndagjabGreat.Co
