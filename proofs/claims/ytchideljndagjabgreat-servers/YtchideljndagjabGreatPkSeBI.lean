/- Contracts of the steps of a script on servers: a server more. -/
import Derived.Test.YtchideljndagjabGreatPkSeBH
import Derived.Test.YtchideljndagjabGreatPkSeAC
import Derived.Test.YtchideljndagjabGreatRows
import Derived.JoinedOf
namespace Go.Proofs.YtchideljndagjabGreat
open Go.ChangeShapes Go.WideShapes Go.ChangeAt Go.RowKit
set_option linter.unusedVariables false

/-- A server of the program's, or a refusal; the document's. -/
def SNewX (W w' : World) (ok : Bool) (C : Srv.Cf) (q1 q2 : Value) : Prop :=
  Below W.heap.size W w' ∧ ((ok = false ∧ q1 = .pointer none ∧ q2 = .int .i64 5) ∨ (ok = true ∧ q2 = .int .i64 0 ∧ ∃ b S, q1 = .pointer (some ⟨b, 0, none⟩) ∧ SrvW w' b C Srv.start S ∧ ∀ x, SFoot b S x → W.heap.size ≤ x))
def SNewY (pw : Nat) (W w' : World) (ok : Bool) (C : Srv.Cf) (q1 q2 : Value) : Prop :=
  Below W.heap.size W w' ∧ ((ok = false ∧ q1 = .pointer none ∧ q2 = .int .i64 5) ∨ (ok = true ∧ q2 = .int .i64 0 ∧ ∃ b, q1 = .pointer (some ⟨b, 0, none⟩) ∧ RVW w' pw b C Srv.start rv0 [] [] ∧ W.heap.size ≤ b))
theorem snewX_calls (N T M D : Int) (w : World) : Calls Tryz.prog 111 #[.agg #[.int .i64 N, .int .i64 T, .int .i64 M, .int .i64 D]] w fun e w' => ∃ q1 q2, e = .returned (.tuple #[q1, q2]) ∧ SNewX w w' (Cli.cfgB N T M D) ⟨N, T, M, D⟩ q1 q2 := by
  cases h : Cli.cfgB N T M D
  · refine (veilNewServer_no N T M D w h).mono ?_
    rintro e w' ⟨rfl, hb⟩
    exact ⟨_, _, rfl, hb, .inl ⟨rfl, rfl, rfl⟩⟩
  · refine (veilNewServer_ok N T M D w h).mono ?_
    rintro e w' ⟨b, rfl, S, h1, h2, h3⟩
    exact ⟨_, _, rfl, h2, .inr ⟨rfl, rfl, b, S, rfl, h1, h3⟩⟩
theorem snewY_calls (pw : Nat) (N T M D : Int) (w : World) (hpw : pw < w.heap.size) : Calls Tryz.prog 112 #[.agg #[.int .i64 N, .int .i64 T, .int .i64 M, .int .i64 D]] w fun e w' => ∃ q1 q2, e = .returned (.tuple #[q1, q2]) ∧ SNewY pw w w' (Cli.cfgB N T M D) ⟨N, T, M, D⟩ q1 q2 := by
  cases h : Cli.cfgB N T M D
  · refine (rvNew_no N T M D w h).mono ?_
    rintro e w' ⟨rfl, hb⟩
    exact ⟨_, _, rfl, hb, .inl ⟨rfl, rfl, rfl⟩⟩
  · refine (rvNew_ok pw N T M D w h hpw).mono ?_
    rintro e w' ⟨b, rfl, h1, h2, h3⟩
    exact ⟨_, _, rfl, h2, .inr ⟨rfl, rfl, b, rfl, h1, h3⟩⟩

set_option maxHeartbeats 4000000 in
set_option maxRecDepth 100000 in
theorem servers_new (pw m : Nat) (len : Nat → Nat) (T : Nat → List Th) (K : List SP) (x y z : Int) (r : Nat → Value) (N Tt M Dd : Int) (w : World) (h : AI w pw m len T) (hK : T 1 = K.map (sTh pw)) (e5 : r 5 = .int .i64 N) (e6 : r 6 = .int .i64 Tt) (e7 : r 7 = .int .i64 M) (e8 : r 8 = .int .i64 Dd) (hk : (K.length + 1) * 8 ≤ 140737488355328) :
    Calls Tryz.prog 54 #[.pointer (some ⟨pw, 0, none⟩), .agg #[.int .i64 15, .int .i64 x, .int .i64 y, .int .i64 z, r 0, r 1, r 2, r 3, r 4, r 5, r 6, r 7, r 8, r 9]] w fun e w' => e = .returned (.bool true) ∧ ∃ T' K', AI w' pw m len T' ∧ SvStep pw T T' K' ∧ K'.length ≤ K.length + 1 ∧ (∀ k, (∀ q ∈ K, q.L.length ≤ k) → ∀ q ∈ K', q.L.length ≤ k) ∧ pots K' = pots K ∧ Below pw w w' := by
  obtain ⟨W0, hW0⟩ : ∃ W0, W0 = w.alloc (opObj 15 x y z r) := ⟨_, rfl⟩
  have hb0 : Below w.heap.size w W0 := by rw [hW0]; exact (Below.refl _ _).alloc (Nat.le_refl _) _
  have z0 : w.heap.size < W0.heap.size := by rw [hW0]; simp
  have HOP := hideG (fun (W : World) (hb : Below W0.heap.size W0 W) => op_cells (W := W) (by rw [← hW0]; exact hb) z0)
  have K0 := hideG (h.below hb0)
  have hpw : pw < w.heap.size := h.pw_lt
  have HB0 := hideG (hb0.mono (Nat.le_of_lt hpw))
  have HR := hideG (And.intro e5 (And.intro e6 (And.intro e7 e8)))
  have HTK := hideG hK
  unfold opObj at hW0
  have HW0 := hideG hW0
  obtain ⟨q0, -, -, ⟨q9, q10, q11, q12⟩, -⟩ := HOP.out W0 (Below.refl _ _)
  rw [e5] at q9
  rw [e6] at q10
  rw [e7] at q11
  rw [e8] at q12
  have hTl : (T 1).length = K.length := by rw [hK, List.length_map]
  have k8 : ((T 1).length + 1) * 8 ≤ 140737488355328 := by rw [hTl]; exact hk
  have HKL := hideG hTl
  have HGC := hideG (fun (e : Cli.cfgB N Tt M Dd = true) => (show Srv.GoodC ⟨N, Tt, M, Dd⟩ from Srv.goodC_of e))
  obtain ⟨ok, hok⟩ : ∃ ok, ok = Cli.cfgB N Tt M Dd := ⟨_, rfl⟩
  obtain ⟨C, hC⟩ : ∃ C : Srv.Cf, C = ⟨N, Tt, M, Dd⟩ := ⟨_, rfl⟩
  have HX := hideG (fun (W : World) => snewX_calls N Tt M Dd W)
  have HY := hideG (fun (W : World) (hw : pw < W.heap.size) => snewY_calls pw N Tt M Dd W hw)
  rw [← hok, ← hC] at HX HY HGC
  clear h hb0 hW0 e5 e6 e7 e8 hK hok hC hTl hk
  go_enter Tryz.func54, Tryz.ntmps54
  go_upto_region 1 with fail
  rw [← HW0.out]
  go_wp2_with fail
  refine (HX.out W0).mono ?_
  rintro e w1 ⟨p1, p2, rfl, hb1, hx⟩
  have HX1 := hideG hx
  have B1 := hideG hb1
  have s1 := hb1.size
  have B01 := hideG (HOP.out w1 hb1)
  clear q0 q9 q10 q11 q12 hb1 hx
  obtain ⟨q0, -, -, ⟨q9, q10, q11, q12⟩, -⟩ := B01.out
  rw [HR.out.1] at q9
  rw [HR.out.2.1] at q10
  rw [HR.out.2.2.1] at q11
  rw [HR.out.2.2.2] at q12
  have hwl1 : w.heap.size < w1.heap.size := by omega
  go_wp2_with fail
  refine (HY.out w1 (by omega)).mono ?_
  rintro e w2 ⟨u1, u2, rfl, hb2, hy⟩
  have HY1 := hideG hy
  have B2 := hideG hb2
  have s2 := hb2.size
  have B02 := hideG (B1.out.trans (hb2.mono s1))
  clear q0 q9 q10 q11 q12 hb2 hy
  rcases HX1.out with ⟨hE, rfl, rfl⟩ | ⟨hE, rfl, bx, S, rfl, k1, k2⟩
  · rcases HY1.out with ⟨_, rfl, rfl⟩ | ⟨hE', _⟩
    · have FIN := hideG (K0.out.below B02.out)
      have BF := hideG (HB0.out.trans (B02.out.mono (by omega)))
      clear hE
      go_wp2_with fail
      refine (num_calls _ _).mono ?_
      rintro e w7 ⟨rfl, hw7⟩
      rw [hw7]
      clear hw7
      go_wp2_with fail
      refine (num_calls _ _).mono ?_
      rintro e w7 ⟨rfl, hw7⟩
      rw [hw7]
      clear hw7
      go_wp2_with fail
      go_ret
      exact ⟨rfl, T, K, FIN.out, ⟨HTK.out, fun _ _ => rfl⟩, by omega, fun k hk => hk, rfl, BF.out⟩
    · rw [hE] at hE'; cases hE'
  · rcases HY1.out with ⟨hE', _⟩ | ⟨_, rfl, yb, rfl, r2, k4⟩
    · rw [hE] at hE'; cases hE'
    · obtain ⟨F, nx, ls, i1, i2, i3, i4, i5, i6⟩ := K0.out
      have hgc := HGC.out hE
      have HFN := hideG (fun (w9 w10 : World) (g9 cap9 : Nat) (B : Obj) hr9 hgr hat hw10 => snew_fin (w9 := w9) (w10 := w10) (g9 := g9) (cap9 := cap9) (B := B) i1 i2 hgc B1.out B2.out k1 k2 r2 k4 hr9 hgr hat hw10)
      have HIK := hideG (And.intro i3 (And.intro i4 (And.intro i5 i6)))
      have i12 := i1.below B02.out
      have c1 := (cell_f i12.blk 1 (by omega)).1
      have IR := hideG ((i2.below i1 B02.out).row 1 (by decide))
      have hpl2 := i12.pw_lt
      have IB := hideG i12.blk
      obtain ⟨i0, hi0, hz0, hz1, hz2⟩ := info_parts infoSv
      have k63 : (T 1).length + 1 ≤ maxLen := by unfold maxLen; omega
      have HPB := hideG (show ∀ (w9 : World) (A B : Obj), ((w2.alloc A).alloc B).grownBy w9 (F 1).ownBlock → w9.cell? ⟨pw, 1, none⟩ = some (F 1) ∧ w9.frozen? ⟨pw, 1, none⟩ = false from fun w9 A B hgr => by
        have hbk : w9.heap[pw]? = w2.heap[pw]? := by
          rw [hgr.block pw (by simp; omega) (fun e => by have := IR.out.lt pw e.symm; omega), Below.heap_alloc _ _ _ (by simp; omega), Below.heap_alloc _ _ _ hpl2]
        exact cell_f (hbk.trans IB.out) 1 (by omega))
      have ee : (((0 : Int)) != 0) = false := rfl
      clear i1 i2 i3 i4 i5 i6 i12 hgc k1 k2 r2 k4 hE
      go_wp2_with fail
      refine (num_calls _ _).mono ?_
      rintro e w7 ⟨rfl, hw7⟩
      rw [hw7]
      clear hw7
      go_wp2_with fail
      refine (num_calls _ _).mono ?_
      rintro e w7 ⟨rfl, hw7⟩
      rw [hw7]
      clear hw7
      go_wp2_with (at_builtin; refine wpList_append_one _ rfl _ _ 80 rfl (pw + 1) 131 i0 (.pointer none) 8 Tryz.underlying80 hi0 hz0 hz1 hz2 rfl (F 1) (T 1).length _ rfl ((IR.out.alloc _).alloc _) ⟨w2.heap.size + 1, 0, none⟩ 1 (.pointer (some ⟨w2.heap.size, 0, none⟩)) rfl (by simp [go_sem]) rfl k63 k8 (by simp; omega) ?_)
      intro g9 cap9 w9 hr9 hgr hat
      obtain ⟨d0', d0f⟩ := HPB.out w9 _ _ hgr
      obtain ⟨w10, hw10⟩ : ∃ w10, w10 = w9.setCell ⟨pw, 1, none⟩ (.slice (some ⟨g9, 0, none⟩) ((T 1).length + 1) cap9) := ⟨_, rfl⟩
      have FIN := hideG (HFN.out w9 w10 g9 cap9 _ hr9 hgr (by simpa using hat) hw10)
      have HW10 := hideG hw10
      clear hr9 hgr hat hw10 c1
      go_wp2_with fail
      rw [← HW10.out]
      go_ret
      obtain ⟨f1, f2, f3⟩ := FIN.out
      refine ⟨rfl, _, K ++ [⟨w2.heap.size, bx, yb, C, Srv.start, S, rv0, [], []⟩], ⟨_, nx, ls, f2, f1, HIK.out.1, HIK.out.2.1, HIK.out.2.2.1, HIK.out.2.2.2⟩, ⟨?_, fun j hj => if_neg hj⟩, by simp, fun k hk q hq => ?_, ?_, HB0.out.trans f3⟩
      · show addT T 1 _ 1 = _
        unfold addT
        rw [if_pos rfl, HTK.out, List.map_append]; rfl
      · rcases List.mem_append.1 hq with hq | hq
        · exact hk q hq
        · simp at hq; subst hq; exact Nat.zero_le _
      · rw [pots_snoc]; rfl

end Go.Proofs.YtchideljndagjabGreat

namespace Go.Proofs.YtchideljndagjabGreat
open Go.ChangeShapes Go.WideShapes Go.ChangeAt Go.RowKit
set_option linter.unusedVariables false

theorem set_same {K : List SP} {i k : Nat} {p p' : SP} (hp : K[i]? = some p) (h : ∀ q ∈ K, q.L.length ≤ k) (h' : p'.L = p.L) : ∀ q ∈ K.set i p', q.L.length ≤ k := by
  intro q hq
  obtain ⟨j, hj⟩ := List.mem_iff_getElem?.1 hq
  rw [List.getElem?_set] at hj
  have hil : i < K.length := (List.getElem?_eq_some_iff.1 hp).1
  by_cases e : i = j
  · subst e
    rw [if_pos rfl, if_pos hil] at hj
    cases hj
    rw [h']; exact h p (List.mem_of_getElem? hp)
  · rw [if_neg e] at hj
    exact h q (List.mem_of_getElem? hj)

/-- What the step leaves. -/
theorem stick_fin {W1 w3 w5 w6 w8 : World} {pw m k i : Nat} {len : Nat → Nat} {T : Nat → List Th} {K : List SP} {F : Nat → Value} {nx : Int} {ls : Nat → List Ow} {p : SP} {S' : SS} {R' : RV} {v : Value} {vs : List Value}
    (i1 : InvW W1 pw F nx ls) (i2 : InvA W1 pw F ls T) (i3 : MarksOk (ls 1)) (i4 : 0 ≤ nx) (i5 : nx ≤ (m : Int)) (i6 : ∀ c, (ls c).length ≤ len c) (hK : T 1 = K.map (sTh pw)) (hp : K[i]? = some p) (hk : ∀ q ∈ K, q.L.length ≤ k)
    (hpa : SPAt w5 pw ⟨p.pc, p.bx, p.yb, p.C, Srv.tickS p.C p.q, S', R', p.L, p.X⟩) (hchg : Chg (fun x => SPFoot p x) W1 w5) (hft : ∀ x, SPFoot ⟨p.pc, p.bx, p.yb, p.C, Srv.tickS p.C p.q, S', R', p.L, p.X⟩ x → SPFoot p x ∨ (SFoot p.bx S' x ∧ W1.heap.size ≤ x ∧ x < w3.heap.size) ∨ (VFoot p.yb R' p.X x ∧ w3.heap.size ≤ x))
    (z13 : W1.heap.size ≤ w3.heap.size) (hN : ∀ x, PkFoot v vs x → W1.heap.size ≤ x ∧ x < w3.heap.size ∧ ¬ SFoot p.bx S' x) (hb6 : Below w5.heap.size w5 w6) (ho : PkOwned w6 pw F nx ls v vs (tickK p.C p.q).length w8) :
    ∃ n T' K', AI w8 pw (m + n + 1) (upn (upn len 1 n) 3 1) T' ∧ SvStep pw T T' K' ∧ K'.length = K.length ∧ (∀ q ∈ K', q.L.length ≤ k) ∧ n + pots K' ≤ pots K ∧ n ≤ 13 ∧ Below pw W1 w8 := by
  have hpT : (T 1)[i]? = some (sTh pw p) := by rw [hK]; exact map_get_sp hp
  have hp1 : SPAt W1 pw p := (i2.ok 1 (by decide) _ (List.mem_of_getElem? hpT)).2
  obtain ⟨F', ls', o1, o2, o3, o4, o5, o6, o7, o8⟩ := ho
  have R := turn_own (t' := sTh pw ⟨p.pc, p.bx, p.yb, p.C, Srv.tickS p.C p.q, S', R', p.L, p.X⟩) (N := PkFoot v vs) i1 i2 (by decide) hpT rfl (sth_ok pw _) hpa hchg (fun x hx => ?_) (fun b e => ?_) hb6 o6 o7 o8
  · have a : pots (K.set i ⟨p.pc, p.bx, p.yb, p.C, Srv.tickS p.C p.q, S', R', p.L, p.X⟩) + pot p.q = pots K + pot (Srv.tickS p.C p.q) := pots_set K i p ⟨p.pc, p.bx, p.yb, p.C, Srv.tickS p.C p.q, S', R', p.L, p.X⟩ hp
    have b := pot_tick (C := p.C) (q := p.q) hp1.ref.sok
    have c := pot_le p.q
    have d := pots_ge K i p hp
    refine ⟨(tickK p.C p.q).length, _, K.set i ⟨p.pc, p.bx, p.yb, p.C, Srv.tickS p.C p.q, S', R', p.L, p.X⟩, ⟨F', _, ls', o1, R.1, o2 i3, by omega, by omega, fun c => ?_⟩, ⟨by rw [setT_one, hK, map_set_sp], fun j hj => setT_other hj⟩, List.length_set, set_same hp hk rfl, by omega, by omega, R.2⟩
    by_cases e3 : c = 3
    · subst e3; rw [upn_same, upn_other (by decide), o5]; have := i6 3; omega
    · rw [upn_other e3]
      by_cases e1 : c = 1
      · subst e1; rw [upn_same, o4]; have := i6 1; omega
      · rw [upn_other e1, o3 c e1 e3]; exact i6 c
  · rcases hft x hx with h1 | h1 | h1
    · exact .inl h1
    · exact .inr h1.2.1
    · exact .inr (by omega)
  · obtain ⟨n1, n2, n3⟩ := hN b e
    refine ⟨n1, fun hx => ?_⟩
    rcases hft b hx with h1 | h1 | h1
    · have := hp1.lt h1; omega
    · exact n3 h1.1
    · omega

set_option maxHeartbeats 2000000 in
set_option maxRecDepth 100000 in
theorem servers_tick (pw m k : Nat) (len : Nat → Nat) (T : Nat → List Th) (K : List SP) (x y z : Int) (r : Nat → Value) (w : World) (h : AI w pw m len T) (hK : T 1 = K.map (sTh pw)) (hhk : ∀ q ∈ K, q.L.length ≤ k) (hm : m + 14 ≤ 1000000000000000000) (hl : (len 1 + pots K) * 24 ≤ 140737488355328) (hl3 : (len 3 + 1) * 24 ≤ 140737488355328) :
    Calls Tryz.prog 54 #[.pointer (some ⟨pw, 0, none⟩), .agg #[.int .i64 17, .int .i64 x, .int .i64 y, .int .i64 z, r 0, r 1, r 2, r 3, r 4, r 5, r 6, r 7, r 8, r 9]] w fun e w' => e = .returned (.bool true) ∧ ∃ n T' K', AI w' pw (m + n + 1) (upn (upn len 1 n) 3 1) T' ∧ SvStep pw T T' K' ∧ K'.length = K.length ∧ (∀ q ∈ K', q.L.length ≤ k) ∧ n + pots K' ≤ pots K ∧ n ≤ 13 ∧ Below pw w w' := by
  have HHK := hideG hhk
  have HL := hideG hl
  clear hhk hl
  obtain ⟨W0, hW0⟩ : ∃ W0, W0 = w.alloc (opObj 17 x y z r) := ⟨_, rfl⟩
  have hb0 : Below w.heap.size w W0 := by rw [hW0]; exact (Below.refl _ _).alloc (Nat.le_refl _) _
  have z0 : w.heap.size < W0.heap.size := by rw [hW0]; simp
  have HOP := hideG (fun (W : World) (hb : Below W0.heap.size W0 W) => op_cells (W := W) (by rw [← hW0]; exact hb) z0)
  have K0 := hideG (h.below hb0)
  have hpw : pw < w.heap.size := h.pw_lt
  have HB0 := hideG (hb0.mono (Nat.le_of_lt hpw))
  have HNOP := hideG (fun (p : SP) (hp : (T 1)[pickN x (T 1).length]? = some (sTh pw p)) (hx : SPFoot p w.heap.size) => (show False by have h1 : SPAt w pw p := h.thing (by decide) hp; have := h1.lt hx; omega))
  unfold opObj at hW0
  have HW0 := hideG hW0
  obtain ⟨q0, q1, q5, -⟩ := HOP.out W0 (Below.refl _ _)
  obtain ⟨a, cap, c1, c1f, hnc, hcm, hel⟩ := K0.out.list (j := 1) (by decide)
  have HE := hideG hel
  have HTK := hideG hK
  obtain ⟨n, hn⟩ : ∃ n, n = (T 1).length := ⟨_, rfl⟩
  have HG := hideG (fun j (hj : j < n) => (show ∃ p, K[j]? = some p from ⟨_, List.getElem?_eq_getElem (by rw [hn, hK, List.length_map] at hj; exact hj)⟩))
  rw [← hn] at c1 hnc HNOP
  clear h hb0 hW0 hel hn hK
  by_cases hn0 : n = 0
  · subst hn0
    have FIN := hideG (K0.out.mono (m' := m + 0 + 1) (len' := upn (upn len 1 0) 3 1) (by omega) (fun c => Nat.le_trans (le_upn c) (le_upn c)))
    go_enter Tryz.func54, Tryz.ntmps54
    go_upto_region 1 with fail
    rw [← HW0.out]
    go_wp2_with fail
    go_ret
    exact ⟨rfl, 0, T, K, FIN.out, ⟨HTK.out, fun _ _ => rfl⟩, rfl, HHK.out, by omega, by omega, HB0.out⟩
  have n1 : 1 ≤ n := by omega
  have hn0' : ((n : Int) == 0) = false := by simpa using hn0
  obtain ⟨i, hi⟩ : ∃ i, i = pickN x n := ⟨_, rfl⟩
  have hil : i < n := by rw [hi]; exact pickN_lt x n1
  have HPK := hideG (fun (W : World) => pick_calls x n W)
  rw [← hi] at HPK HNOP
  obtain ⟨p, hp⟩ := HG.out i hil
  have hpT : (T 1)[i]? = some (sTh pw p) := by rw [HTK.out]; exact map_get_sp hp
  obtain ⟨g, rfl, hgl, e0⟩ := HE.out i _ hpT
  have HPP := hideG hpT
  have HPK1 := hideG hp
  obtain ⟨pc, hpc⟩ : ∃ pc, pc = p.pc := ⟨_, rfl⟩
  change W0.cell? ⟨g, i, none⟩ = some (.pointer (some ⟨p.pc, 0, none⟩)) at e0
  rw [← hpc] at e0
  have HPC := hideG hpc
  have hil' : (i : Int) < (n : Int) := by omega
  have hi0 : (0 : Int) ≤ (i : Int) := by omega
  clear hp hi hpc hn0 hpT
  go_enter Tryz.func54, Tryz.ntmps54
  go_upto_region 1 with fail
  rw [← HW0.out]
  go_upto_region 11 with fail
  go_quiet ((go_at_call 105; refine Calls.quiet_of_same (HPK.out _)))
  have HBN := hideG (below_drewN W0 nq)
  obtain ⟨W1, hW1⟩ : ∃ W1, W1 = W0.drewN nq := ⟨_, rfl⟩
  rw [← hW1] at HBN ⊢
  have s1 := HBN.out.size
  have K1 := hideG (K0.out.below HBN.out)
  have B1 := hideG (HB0.out.trans (HBN.out.mono (by omega)))
  clear hW1 q0 q1 q5 c1 c1f e0
  obtain ⟨q0, q1, q5, -⟩ := HOP.out W1 HBN.out
  obtain ⟨F, nx, ls, i1, i2, i3, i4, i5, i6⟩ := K1.out
  have hpa1 : SPAt W1 pw p := K1.out.thing (by decide) HPP.out
  have I1 := hideG i1
  have II := hideG (And.intro i2 (And.intro i3 (And.intro i4 (And.intro i5 i6))))
  have i4' := i4
  have hi5 : nx ≤ (m : Int) := i5
  have hl1 := i6 1
  have hl33 := i6 3
  have PA1 := hideG hpa1
  have lpc1 := hpa1.lt (x := p.pc) (.inl rfl)
  rw [← HPC.out] at lpc1
  obtain ⟨x0, x1⟩ := hpa1.cells
  rw [← HPC.out] at x0 x1
  have HTX := hideG (veilSTick_calls p.bx p.C p.q p.S W1 hpa1.gc hpa1.srv hpa1.ref.sok)
  have htl : (tickK p.C p.q).length ≤ pots K ∧ (tickK p.C p.q).length ≤ 13 := by
    have b := pot_tick (C := p.C) (q := p.q) hpa1.ref.sok
    have c := pot_le p.q
    have d := pots_ge K i p HPK1.out
    omega
  have hlen1 : ((ls 1).length + (tickK p.C p.q).length) * 24 ≤ 140737488355328 := Nat.le_trans (Nat.mul_le_mul_right 24 (Nat.add_le_add hl1 htl.1)) HL.out
  have hlen3 : ((ls 3).length + 1) * 24 ≤ 140737488355328 := Nat.le_trans (Nat.mul_le_mul_right 24 (Nat.succ_le_succ hl33)) hl3
  have HLN := hideG (And.intro hlen1 hlen3)
  have HTL := hideG htl
  clear i1 i2 i3 i4 i5 i6 hpa1 htl hlen1 hlen3 hl3
  go_wp2_with fail
  refine HTX.out.mono ?_
  rintro e w3 ⟨va, rfl, S', xs, htk, hpk, hpf⟩
  have z3 := htk.chg.size
  have TK := hideG htk
  have PK3 := hideG hpk
  have PF := hideG hpf
  obtain ⟨va1, va2, hva, -⟩ := hpk.view
  have lbx := PA1.out.lt (x := p.bx) (.inr (.inl (.inl rfl)))
  have nbx : p.bx ≠ p.pc := fun e => PA1.out.ap2.1 (by rw [← e]; exact .inl rfl)
  have RW3 := hideG (PA1.out.ref.keep htk.chg.size (fun x hx => htk.chg.block x (PA1.out.lt (.inr (.inr hx))) (fun e => PA1.out.ap1 x (by rw [e]; exact .inl rfl) hx)))
  have row3 : w3.heap[p.pc]? = some (.cells #[.pointer (some ⟨p.bx, 0, none⟩), .pointer (some ⟨p.yb, 0, none⟩)] 130 (0, 0)) := by rw [htk.chg.block p.pc (by rw [← HPC.out]; omega) (fun e => nbx e.symm)]; exact PA1.out.row
  have xx1 : w3.cell? ⟨p.pc, 1, none⟩ = some (.pointer (some ⟨p.yb, 0, none⟩)) := (cell_of_row w3 p.pc 1 _ _ (0, 0) row3).trans rfl
  rw [← HPC.out] at xx1
  have HRT := hideG (rTick_calls pw p.yb p.C PA1.out.gc p.q p.R p.L p.X w3 RW3.out)
  have lpc3 : pc < w3.heap.size := by omega
  subst hva
  clear x0 x1 htk hpk hpf row3 q0 q1 q5
  go_wp2_with fail
  refine HRT.out.mono ?_
  rintro e w5 ⟨vb, rfl, R', ys, rt, hpkb, hpfb⟩
  obtain ⟨vb1, vb2, hvb, -⟩ := hpkb.view
  have z5 := rt.chg.size
  obtain ⟨hpt, hchg, hft⟩ := sp_took PA1.out (Below.refl W1.heap.size W1) TK.out (Below.refl w3.heap.size w3) rt (tick_bd PA1.out.gc PA1.out.ref.sok PA1.out.bd)
  have hlow := PK3.out.low
  have PK5 := hideG (PK3.out.chg rt.chg (fun x hx e => by
    have h1 := hlow x hx
    have h2 := PA1.out.lt (x := x) (.inr (.inr (.inl e)))
    omega))
  have HSP := hideG (sameParcels_same _ _ xs ys (tickK p.C p.q) _ _ w5 PK5.out hpkb (tick_isB PA1.out.gc PA1.out.ref.sok))
  have IW5 := hideG (show InvW w5 pw F nx ls from I1.out.chg hchg (fun b hb => ⟨by have := PA1.out.lo b hb; omega, fun hf' => by
    obtain ⟨tg, t1, t2, t3⟩ := II.out.1.tag
    have a := t1 1 i _ b (by decide) HPP.out hb; have b' := t3 b hf'; omega⟩))
  have PT := hideG hpt
  have CH := hideG hchg
  have FT := hideG hft
  have HLO := hideG hlow
  have zW : W1.heap.size ≤ w5.heap.size := hchg.size
  subst hvb
  clear rt hpt hchg hft xx1 hpkb hpfb hlow
  go_wp2_with fail
  refine HSP.out.mono ?_
  rintro e w6 ⟨rfl, hb6⟩
  have B6 := hideG hb6
  have z6 := hb6.size
  have HOW := hideG (own_packs pw F nx ls _ xs (tickK p.C p.q) W1.heap.size w6 (IW5.out.below hb6) (PK5.out.below hb6) (by omega) (fun x hx hf => by have := HLO.out x hx; have := I1.out.foot_lt hf; omega) i4' (by have := HTL.out.2; omega) HLN.out.1 HLN.out.2)
  clear hb6
  go_wp2_with fail
  refine HOW.out.mono ?_
  rintro e w8 ⟨rfl, hown⟩
  have FF := hideG (stick_fin (k := k) (m := m) I1.out II.out.1 II.out.2.1 II.out.2.2.1 II.out.2.2.2.1 II.out.2.2.2.2 HTK.out HPK1.out HHK.out PT.out CH.out FT.out z3 (fun x hx => ⟨(HLO.out x hx).1, (HLO.out x hx).2, PF.out x hx⟩) B6.out hown)
  clear hown
  go_wp2_with fail
  go_ret
  obtain ⟨n', T', K', f1, f2, f3, f4, f5, f6, f7⟩ := FF.out
  exact ⟨rfl, n', T', K', f1, f2, f3, f4, f5, f6, B1.out.trans f7⟩

end Go.Proofs.YtchideljndagjabGreat

namespace Go.Proofs.YtchideljndagjabGreat
open Go.ChangeShapes Go.WideShapes Go.ChangeAt Go.RowKit
set_option linter.unusedVariables false

theorem upn_more {len : Nat → Nat} {a b : Nat} : upn (upn len 0 a) 0 b = upn len 0 (a + b) := by
  funext c
  by_cases e : c = 0
  · subst e; rw [upn_same, upn_same, upn_same]; omega
  · rw [upn_other e, upn_other e, upn_other e]

set_option maxHeartbeats 2000000 in
set_option maxRecDepth 100000 in
theorem ends_sv (pw m : Nat) (len : Nat → Nat) (T : Nat → List Th) (K : List SP) (w : World) (h : AI w pw m len T) (hK : T 1 = K.map (sTh pw)) (h0 : T 0 = []) (h2 : T 2 = []) (hm : m + 2 * K.length ≤ 1000000000000000000) (hl : (len 0 + 2 * K.length) * 24 ≤ 140737488355328) :
    Calls Tryz.prog 26 #[.pointer (some ⟨pw, 0, none⟩)] w fun e w' => e = .returned (.bool true) ∧ AI w' pw (m + 2 * K.length) (upn len 0 (2 * K.length)) T ∧ Below pw w w' := by
  have H0 := hideG (show AI w pw (m + 2 * 0) (upn len 0 (2 * 0)) T from h.mono (by omega) le_upn)
  have HTK := hideG hK
  have HT0 := hideG h0
  have HT2 := hideG h2
  obtain ⟨n, hn⟩ : ∃ n, n = K.length := ⟨_, rfl⟩
  have HST := hideG (fun (W1 w2 W : World) (j : Nat) (p : SP) (va vb : Value) (hj : j < n) (hW : AI W1 pw (m + 2 * j) (upn len 0 (2 * j)) T) (hp : SPAt W1 pw p) (ht : Told W1 w2 va vb p.q.out.2.2.1 p.q.out.2.2.2) (hb : Below w2.heap.size w2 W) => (show Calls Tryz.prog 58 #[.pointer (some ⟨pw, 0, none⟩), .agg #[.int .i64 p.q.out.1, .int .i64 p.q.out.2.1, va, vb], .agg #[.int .i64 p.q.out.1, .int .i64 p.q.out.2.1, p.R.set, p.R.sum]] W fun e w' => e = .returned (.bool true) ∧ AI w' pw (m + 2 * (j + 1)) (upn len 0 (2 * (j + 1))) T ∧ Below pw W1 w' from by
    have hj' : 2 * j + 2 ≤ 2 * K.length := by omega
    have hl2 : (upn len 0 (2 * j) 0 + 2) * 24 ≤ 140737488355328 := by rw [upn_same]; exact Nat.le_trans (Nat.mul_le_mul_right 24 (show len 0 + 2 * j + 2 ≤ len 0 + 2 * K.length by omega)) hl
    have := stood_ai pw (m + 2 * j) (upn len 0 (2 * j)) T p W1 w2 W va vb hW hp ht hb (by omega) hl2
    rw [upn_more] at this
    exact this))
  have HG := hideG (fun j (hj : j < n) => (show ∃ p, K[j]? = some p ∧ (T 1)[j]? = some (sTh pw p) from ⟨_, List.getElem?_eq_getElem (by omega), by rw [hK]; exact map_get_sp (List.getElem?_eq_getElem (by omega))⟩))
  have HTL := hideG (show (T 1).length = n by rw [hK, List.length_map, hn])
  rw [← hn]
  clear h hK h0 h2 hl hm hn
  obtain ⟨z0, zc, zz0, -, zz1, zz2, -⟩ := H0.out.list (j := 0) (by decide)
  rw [HT0.out] at zz0 zz1
  change w.cell? _ = some (.slice z0 0 zc) at zz0
  go_enter Tryz.func26, Tryz.ntmps26
  go_wp2_with fail
  go_loop [3] (fun i => i = .int .i64 0) (fun _ => 0)
  case atStart => rfl
  case round =>
    subst hrel
    go_wp2_with fail
    clear zz0 zz1 zz2
    go_loopw [5] (fun i wr => ∃ j : Nat, j ≤ n ∧ i = .int .i64 j ∧ AI wr pw (m + 2 * j) (upn len 0 (2 * j)) T ∧ Below pw w wr) (fun i _ => n - (intOf i).toNat)
    case atStart => exact ⟨0, Nat.zero_le _, rfl, H0.out, Below.refl _ _⟩
    case round =>
      obtain ⟨j, hj, rfl, hk, hb⟩ := hrel
      have HK := hideG hk
      have HB := hideG hb
      obtain ⟨a, cap, c1, c1f, hnc, hcm, hel⟩ := hk.list (j := 1) (by decide)
      have HE := hideG hel
      have hpl := hk.pw_lt
      rw [HTL.out] at c1 hnc
      obtain ⟨z0, zc, zz0, -, zz1, zz2, -⟩ := hk.list (j := 2) (by decide)
      rw [HT2.out] at zz0 zz1
      change wr.cell? _ = some (.slice z0 0 zc) at zz0
      clear hk hb hel
      by_cases hlt : j < n
      · obtain ⟨p, hp, hpT⟩ := HG.out j hlt
        obtain ⟨g, rfl, hgl, e0⟩ := HE.out j _ hpT
        change wr.cell? ⟨g, j, none⟩ = some (.pointer (some ⟨p.pc, 0, none⟩)) at e0
        have hp1 : SPAt wr pw p := HK.out.thing (by decide) hpT
        obtain ⟨x0, x1⟩ := hp1.cells
        have hpcl := hp1.lt (x := p.pc) (.inl rfl)
        have HOU := hideG (out_of hp1)
        have P1 := hideG hp1
        have HGL := hideG (fun (W : World) (hb : Below wr.heap.size wr W) => (show (W.cell? ⟨pw, 1, none⟩ = some (.slice (some ⟨g, 0, none⟩) n cap) ∧ W.cell? ⟨g, j, none⟩ = some (.pointer (some ⟨p.pc, 0, none⟩))) from ⟨(hb.cell (p := ⟨pw, 1, none⟩) hpl).trans c1, (hb.cell (p := ⟨g, j, none⟩) hgl).trans e0⟩))
        clear hp hpT hp1
        go_wp2_with fail
        refine HOU.out.mono ?_
        rintro e w2 ⟨va, vb, rfl, htd⟩
        have hb2 := htd.2.2.2
        have z2 := hb2.size
        obtain ⟨y6, y7, y8, y9⟩ := (P1.out.below hb2).outs
        have x12 := ((P1.out.below hb2).cells).2
        have hyb := (P1.out.below hb2).lt (x := p.yb) (.inr (.inr (.inl (.inl rfl))))
        obtain ⟨g1, g2⟩ := HGL.out w2 hb2
        have HSJ := hideG (fun (W : World) (hb : Below w2.heap.size w2 W) => HST.out wr w2 W j p va vb hlt HK.out P1.out htd hb)
        obtain ⟨a1, k1, f1⟩ := owns_form htd.1
        obtain ⟨a2, k2, f2⟩ := owns_form htd.2.1
        obtain ⟨a3, k3, f3⟩ := list_form P1.out.ref.set
        obtain ⟨a4, k4, f4⟩ := list_form P1.out.ref.sum
        rw [f3] at y8 HSJ
        rw [f4] at y9 HSJ
        subst f1
        subst f2
        clear htd hb2 x0 x1 f3 f4 c1 c1f e0 zz0
        generalize p.q.out.1 = st at *
        generalize p.q.out.2.1 = ro at *
        generalize p.q.out.2.2.1.length = n1 at *
        generalize p.q.out.2.2.2.length = n2 at *
        go_upto_region 11 with fail
        obtain ⟨W3, hW3⟩ : ∃ W3, W3 = w2.alloc (.cells #[.int .i64 st, .int .i64 ro, .slice a1 n1 k1, .slice a2 n2 k2] 35) := ⟨_, rfl⟩
        rw [← hW3]
        have hb3 : Below w2.heap.size w2 W3 := by rw [hW3]; exact (Below.refl _ _).alloc (Nat.le_refl _) _
        have t3 : W3.heap[w2.heap.size]? = some (.cells #[.int .i64 st, .int .i64 ro, .slice a1 n1 k1, .slice a2 n2 k2] 35 (0, 0)) := by rw [hW3]; exact heap_alloc_new w2 _
        obtain ⟨⟨t0, t1, t2, t33⟩, -⟩ := cells_four t3
        have z3 : w2.heap.size < W3.heap.size := by rw [hW3]; simp
        have v6 := (hb3.cell (p := ⟨p.yb, 6, none⟩) hyb).trans y6
        have v7 := (hb3.cell (p := ⟨p.yb, 7, none⟩) hyb).trans y7
        have v8 := (hb3.cell (p := ⟨p.yb, 8, none⟩) hyb).trans y8
        have v9 := (hb3.cell (p := ⟨p.yb, 9, none⟩) hyb).trans y9
        have v12 := (hb3.cell (p := ⟨p.pc, 1, none⟩) (by show p.pc < _; omega)).trans x12
        have u1 := (hb3.cell (p := ⟨pw, 1, none⟩) (by show pw < _; omega)).trans g1
        have u2 := (hb3.cell (p := ⟨g, j, none⟩) (by show g < _; omega)).trans g2
        have HS3 := hideG (HSJ.out W3.drew hb3.drew)
        clear hW3 hb3 t3 y6 y7 y8 y9 x12 g1 g2
        have hj0 : (0 : Int) ≤ (j : Int) := by omega
        have hjn : (j : Int) < (n : Int) := by omega
        go_cut [7] from 50 to 65 (fun q wc => q = .bool true ∧ AI wc pw (m + 2 * (j + 1)) (upn len 0 (2 * (j + 1))) T ∧ Below pw wr wc)
        case first =>
          go_region_with (go_at_call 58; refine HS3.out.mono ?_; rintro e w4 ⟨rfl, f1, f2⟩; have FIN := hideG (And.intro f1 f2); clear f1 f2)
          all_goals (go_wp2_with fail; go_meet; exact ⟨rfl, FIN.out⟩)
        case rest =>
          obtain ⟨hq, f1, f2⟩ := hcut
          subst hq
          have K1 := hideG f1
          have B1 := hideG (HB.out.trans f2)
          clear f1 f2 u1 u2 v6 v7 v8 v9 v12 t0 t1 t2 t33
          go_wp2_with fail
          go_roundw
          case rel => exact ⟨j + 1, by omega, by go_num, K1.out, B1.out⟩
          case measure => simp [intOf]; omega
      · have ej : j = n := by omega
        subst ej
        go_wp2_with fail
        go_loop [8] (fun i => i = .int .i64 0) (fun _ => 0)
        case atStart => rfl
        case round =>
          subst hrel
          go_wp2_with fail
          go_ret
          exact ⟨rfl, HK.out, HB.out⟩

end Go.Proofs.YtchideljndagjabGreat

namespace Go.Proofs.YtchideljndagjabGreat.servers
open Go.ChangeShapes Go.WideShapes Go.ChangeAt Go.RowKit
set_option linter.unusedVariables false

theorem band {a b : Bool} (h : a = true) (k : b = true) : (a && b) = true := by rw [h, k]; rfl
theorem k1 : (Rows.serversRow.wf (OpenSpec.ofChange Rows.serversSpec)) = true := by kernel_rfl
theorem k2 : (laidOutB Tryz.prog) = true := by kernel_rfl
theorem k3 : (mapsRowed Tryz.prog) = true := by kernel_rfl
theorem k4 : (Tryz.f3.params.all (Tryz.prog.readableRec ·)) = true := by kernel_rfl
theorem k5 : (namedTie Tryz.prog Rows.serversRow.named Rows.serversSpec.vars) = true := by kernel_rfl
theorem k6 : ((Rows.serversRow.stops == [])) = true := by kernel_rfl
theorem k7 : ((Tryz.prog.stops == [])) = true := by kernel_rfl
theorem k8 : ((Rows.serversRow.knobs == [])) = true := by kernel_rfl
theorem k9 : ((Tryz.prog.stopKnobs == [])) = true := by kernel_rfl
theorem k10 : ((Rows.serversRow.inPlace == Tryz.prog.inPlace 3)) = true := by kernel_rfl
theorem k11 : ((Rows.serversRow.unfollowed == Tryz.prog.unfollowed 3)) = true := by kernel_rfl
theorem k12 : ((Rows.serversRow.recurses == Tryz.prog.recurses 3)) = true := by kernel_rfl
theorem k13 : ((Rows.serversRow.named == Tryz.prog.varsNamed 3)) = true := by kernel_rfl
theorem k14 : ((Rows.serversRow.maps == (Tryz.f3.params.toList ++ Rows.serversSpec.plain.varTypes Tryz.prog).any (Tryz.prog.mapsRec ·))) = true := by kernel_rfl
theorem k15 : ((Rows.serversRow.ifaces == (Tryz.f3.params.toList ++ Rows.serversSpec.plain.varTypes Tryz.prog).any (Tryz.prog.ifacesRec ·))) = true := by kernel_rfl
theorem k16 : ((Rows.serversRow.mapsOut == Tryz.prog.mapsAmong Tryz.f3.resultTypes.toList)) = true := by kernel_rfl
theorem k17 : ((Rows.serversRow.loops == (Tryz.f3.params.toList ++ Rows.serversSpec.plain.varTypes Tryz.prog).any (Tryz.prog.loopsFrom ·))) = true := by kernel_rfl
theorem k18 : ((Rows.serversRow.wideKeys == (Tryz.f3.params.toList ++ Rows.serversSpec.plain.varTypes Tryz.prog ++ Tryz.f3.resultTypes.toList).any (Tryz.prog.wideKeysFrom ·))) = true := by kernel_rfl
theorem k19 : (Rows.serversSpec.vars.all (Tryz.prog.varReadable ·)) = true := by kernel_rfl
theorem k20 : (Tryz.f3.resultTypes.all (fun t => Tryz.prog.readableRec t && decide (t < Tryz.prog.types.size))) = true := by kernel_rfl
theorem k21 : ((Rows.serversRow.ifacesOut == Tryz.f3.resultTypes.toList.any (Tryz.prog.ifacesRec ·))) = true := by kernel_rfl
theorem k22 : ((Rows.serversRow.loopsOut == Tryz.f3.resultTypes.toList.any (Tryz.prog.loopsFrom ·))) = true := by kernel_rfl
theorem k23 : ((Rows.serversRow.plainKeys == Tryz.prog.plainKeys)) = true := by kernel_rfl
theorem k24 : (Rows.serversRow.shortTexts.isNone) = true := by kernel_rfl
theorem k25 : (Tryz.prog.stopsHeard) = true := by kernel_rfl
theorem k26 : (Tryz.prog.mayEnter) = true := by kernel_rfl
theorem k27 : ((Rows.serversRow.lifted == Tryz.prog.liftsFinal)) = true := by kernel_rfl
theorem k28 : ((Tryz.prog.make == some Rows.serversRow.make)) = true := by kernel_rfl
theorem k30 : ((Rows.serversRow.pinned == Rows.serversRow.pinnedBy)) = true := by kernel_rfl
theorem k31 : ((Rows.serversRow.veiled == (Tryz.f3.params.toList ++ Rows.serversSpec.plain.varTypes Tryz.prog ++ Tryz.f3.resultTypes.toList).any (Tryz.prog.veiledRec ·))) = true := by kernel_rfl
theorem k32 : (Rows.serversRow.veiledFits Tryz.prog Tryz.f3.params.toList (Tryz.f3.params.toList ++ Rows.serversSpec.plain.varTypes Tryz.prog ++ Tryz.f3.resultTypes.toList)) = true := by kernel_rfl
set_option maxRecDepth 100000 in
theorem closed : joinedFacts Tryz.prog 3 Tryz.f3 Rows.serversSpec Rows.serversRow = true := by
  unfold joinedFacts
  exact (band (band (band (band (band (band (band (band (band (band (band (band (band (band (band (band (band (band (band (band (band (band (band (band (band (band (band (band (band (band (band k1 k2) k3) k4) k5) k6) k7) k8) k9) k10) k11) k12) k13) k14) k15) k16) k17) k18) k19) k20) k21) k22) k23) k24) k25) k26) k27) k28) (by kernel_rfl)) k30) k31) k32)

end Go.Proofs.YtchideljndagjabGreat.servers
