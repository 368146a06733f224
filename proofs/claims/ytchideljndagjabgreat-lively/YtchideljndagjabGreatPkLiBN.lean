/- veilkeep.Lively, walked. -/
import Derived.Test.YtchideljndagjabGreatPkLiBL
import Derived.Test.YtchideljndagjabGreatPkLiBM
import Derived.Test.YtchideljndagjabGreatPkLiBK
import Derived.Below
import Derived.ChangeMaps5
namespace Go.Proofs.YtchideljndagjabGreat.lively
open Go.ChangeShapes Go.WideShapes Go.ChangeAt Go.RowKit
set_option linter.unusedVariables false

theorem own : ownKnob Tryz.prog.godebug = none := by kernel_rfl
theorem laidOut : laidOutB Tryz.prog = true := by kernel_rfl

/-- Those of the first i of a list. -/
def tkB (l : List Int) (i u : Nat) : Bool := decide ((u : Int) ∈ l.take i)
theorem tkB_succ (l : List Int) (i : Nat) (hi : i < l.length) (u : Nat) (hu : l.getD i 0 = (u : Int)) : tkB l (i + 1) = updB (tkB l i) u true := by
  funext x
  unfold updB tkB
  rw [List.take_add_one, List.getElem?_eq_getElem hi]
  rw [List.getD_eq_getElem?_getD, List.getElem?_eq_getElem hi, Option.getD_some] at hu
  by_cases e : x = u
  · subst e; rw [if_pos rfl]; exact decide_eq_true (List.mem_append_right _ (by rw [hu]; simp))
  · rw [if_neg e]
    have : ((x : Int) ∈ l.take i ++ (some l[i]).toList ↔ (x : Int) ∈ l.take i) := by
      rw [List.mem_append]
      constructor
      · rintro (h | h)
        · exact h
        · exfalso; have h' : (x : Int) = l[i] := by simpa using h
          rw [hu] at h'; omega
      · exact fun h => .inl h
    exact decide_eq_decide.2 this
theorem mem_inL {n : Nat} {G : Nat → Bool} {z : Int} (h : z ∈ inL n G) : ∃ u : Nat, z = (u : Int) ∧ 1 ≤ u ∧ u ≤ n ∧ G u = true := by
  unfold inL at h
  obtain ⟨i, hi, rfl⟩ := List.mem_map.1 h
  have h2 := List.mem_filter.1 hi
  have h3 := List.mem_range.1 h2.1
  exact ⟨i + 1, by omega, by omega, by omega, h2.2⟩
theorem tkB_all (n : Nat) (G : Nat → Bool) (u : Nat) (h1 : 1 ≤ u) (h2 : u ≤ n) : tkB (inL n G) (inL n G).length u = G u := by
  unfold tkB
  rw [List.take_length]
  cases q : G u
  · refine decide_eq_false (fun e => ?_)
    obtain ⟨u', e1, _, _, e4⟩ := mem_inL e
    rw [show u = u' by omega, e4] at q; cases q
  · refine decide_eq_true ?_
    unfold inL
    refine List.mem_map.2 ⟨u - 1, List.mem_filter.2 ⟨List.mem_range.2 (by omega), by show G (u - 1 + 1) = true; rw [show u - 1 + 1 = u by omega]; exact q⟩, by omega⟩
theorem szN_range (f : Nat → Bool) : ∀ n, ((List.range (n + 1)).filter f).length = szN f n + (if f 0 = true then 1 else 0)
  | 0 => by
    show ((List.range 1).filter f).length = 0 + _
    rw [show List.range 1 = [0] from rfl, List.filter_cons]
    split <;> rfl
  | n + 1 => by
    rw [List.range_succ, List.filter_append, List.length_append, szN_range f n]
    show _ = szN f n + (if f (n + 1) = true then 1 else 0) + _
    rw [List.filter_cons]
    by_cases q : f (n + 1) = true
    · rw [if_pos q, if_pos q]; simp; omega
    · rw [if_neg q, if_neg q]; simp
theorem szN_count (bs : List Bool) (n : Nat) (hl : bs.length = n + 1) (h0 : bs.getD 0 false = false) : szN (fun u => bs.getD u false) n = bs.count true := by
  have h1 := szN_range (fun u => bs.getD u false) n
  rw [← hl, range_count bs, if_neg (by rw [h0]; exact Bool.false_ne_true)] at h1
  omega

set_option maxHeartbeats 1000000 in
set_option maxRecDepth 100000 in
theorem walk_no (N T M D : Int) (a : Option Addr) (n c : Nat) (vi vm vs : Nat → Value) (Dd : Nat → DD) (who : Int) (a4 : Option Addr) (n4 c4 : Nat) (w : World) (hD : DrawsAt w a n c vi vm vs Dd) (hE : begE N T M D n Dd ≠ 0) :
    Calls Tryz.prog 6 #[.agg #[.int .i64 N, .int .i64 T, .int .i64 M, .int .i64 D], .slice a n c, .int .i64 who, .slice a4 n4 c4] w fun e w' => e = .returned (.bool true) ∧ Below w.heap.size w w' := by
  have HB := hideG (fun (W : World) (hb : Below w.heap.size w W) => kbegun_no N T M D a n c vi vm vs Dd W (hD.below hb) hE)
  clear hD hE
  obtain ⟨W0, hW0⟩ : ∃ W0, W0 = w.alloc (.cells #[.int .i64 N, .int .i64 T, .int .i64 M, .int .i64 D] 26) := ⟨_, rfl⟩
  have BB := hideG (show Below w.heap.size w W0 by rw [hW0]; exact (Below.refl _ _).alloc (Nat.le_refl _) _)
  have z0 : w.heap.size < W0.heap.size := by rw [hW0]; simp
  have HR := hideG (show W0.heap[w.heap.size]? = some (.cells #[.int .i64 N, .int .i64 T, .int .i64 M, .int .i64 D] 26 (0, 0)) by rw [hW0]; exact heap_alloc_new w _)
  have HW0 := hideG hW0
  clear hW0
  obtain ⟨⟨x0, x1, x2, x3⟩, -⟩ := cells_four HR.out
  go_enter Tryz.func6, Tryz.ntmps6
  go_upto_region 1 with fail
  rw [← HW0.out]
  go_wp2_with fail
  refine (HB.out W0 BB.out).mono ?_
  rintro e w1 ⟨rfl, hb1⟩
  have B1 := hideG (BB.out.trans (hb1.mono (by omega)))
  clear hb1 x0 x1 x2 x3
  go_wp2_with fail
  go_ret
  exact ⟨rfl, B1.out⟩

/-- Behind k rounds. -/
def Rds (C : Srv.Cf) (cl : Nat → Cli.Cl) (n : Nat) (f : Nat → Bool) (k : Nat) (s : Sn) : Prop :=
  (k ≤ 3 ∧ ∃ ph, LI C cl n f k s ph ∧ s.q.tm = C.D * (k : Int) ∧ Phi n f s.fl ≤ 2 * n) ∨ (k = 4 ∧ SnOk C cl n s ∧ ∃ G : Nat → Bool, s.q.out = doneO C cl n G ∧ ∀ i, i < n → f (i + 1) = true → G (i + 1) = true)
theorem rds_next {C : Srv.Cf} {cl : Nat → Cli.Cl} {n : Nat} {f : Nat → Bool} {k : Nat} {s : Sn} (h : RdEnd C cl n f k s) : Rds C cl n f (k + 1) s := by
  rcases h with ⟨h1, h2⟩ | ⟨h1, h2⟩
  · exact .inl ⟨by omega, h2⟩
  · exact .inr ⟨by omega, h2⟩

set_option maxHeartbeats 4000000 in
set_option maxRecDepth 100000 in
theorem walk_ok (N T M D : Int) (a : Option Addr) (n c : Nat) (vi vm vs : Nat → Value) (Dd : Nat → DD) (who : Int) (a4 : Option Addr) (n4 c4 : Nat) (cs : List Int) (w : World) (hD : DrawsAt w a n c vi vm vs Dd) (hcs : ListAt w (.slice a4 n4 c4) cs) (hwho : inI who) (hE : begE N T M D n Dd = 0) :
    Calls Tryz.prog 6 #[.agg #[.int .i64 N, .int .i64 T, .int .i64 M, .int .i64 D], .slice a n c, .int .i64 who, .slice a4 n4 c4] w fun e w' => e = .returned (.bool true) ∧ Below w.heap.size w w' := by
  have hC := cast_of hE
  have HB := hideG (fun (W : World) (hb : Below w.heap.size w W) => kbegun_go N T M D a n c vi vm vs Dd W (hD.below hb) hE)
  obtain ⟨cl, hcl⟩ : ∃ cl, cl = clD N T M Dd := ⟨_, rfl⟩
  rw [← hcl] at HB hC
  have HC := hideG hC
  have hN : 1 ≤ N ∧ N ≤ 12 := hC.gc.n
  have hTb : 1 ≤ T ∧ T ≤ N := hC.gc.t
  have hMb : 1 ≤ M ∧ M ≤ 12 := hC.gc.m
  have hDb : 1 ≤ D ∧ D ≤ 50 := hC.gc.d
  have hNN : N = (n : Int) := hC.num
  have hn12 := hC.le.2
  obtain ⟨tt, htt⟩ : ∃ tt : Nat, T = (tt : Int) := ⟨T.toNat, by omega⟩
  obtain ⟨mm, hmm⟩ : ∃ mm : Nat, M = (mm : Int) := ⟨M.toNat, by omega⟩
  have HSM := hideG (fun (W : World) (hb : Below w.heap.size w W) => (some_calls n who tt W hn12 (by omega) hwho.1 hwho.2))
  rw [← hNN, ← htt] at HSM
  have HKS := hideG (fun (W : World) (hb : Below w.heap.size w W) (f : Nat → Bool) => ksum_calls T D n mm hn12 (by omega) f cl a c vi vm vs Dd W (hD.below hb) (fun k hk => by rw [hcl]; rfl) (fun k hk => by
      have e1 := (hC.good k hk).len
      have e2 := hC.M k hk
      dsimp only at e2
      rw [e2, hcl, hmm] at e1
      have e3 : ((Dd k).inp.length : Int) = (mm : Int) := e1
      omega) (fun k hk i hi => by
      have e1 := (hC.good k hk).len
      have e2 := hC.M k hk
      dsimp only at e2
      rw [e2, hcl, hmm] at e1
      have e3 : ((Dd k).inp.length : Int) = (mm : Int) := e1
      have hl : i < (Dd k).inp.length := by omega
      have e4 := (hC.good k hk).inp
      rw [hcl] at e4
      exact e4 ((Dd k).inp.getD i 0) (by show _ ∈ (Dd k).inp; rw [List.getD_eq_getElem?_getD, List.getElem?_eq_getElem hl]; exact List.getElem_mem hl)))
  rw [← hNN, ← hmm] at HKS
  have HDO := hideG (fun (G : Nat → Bool) => (show doneO ⟨N, T, M, D⟩ cl n G = (1, 0, inL n G, (List.range mm).map (inS cl n G)) by unfold doneO; dsimp only; rw [hmm]; rfl))
  have HNN := hideG hNN
  have HTT := hideG htt
  have HLS := hideG hcs
  clear hD hE hcl hC hNN htt hmm hcs
  obtain ⟨W0, hW0⟩ : ∃ W0, W0 = w.alloc (.cells #[.int .i64 N, .int .i64 T, .int .i64 M, .int .i64 D] 26) := ⟨_, rfl⟩
  have BB := hideG (show Below w.heap.size w W0 by rw [hW0]; exact (Below.refl _ _).alloc (Nat.le_refl _) _)
  have z0 : w.heap.size < W0.heap.size := by rw [hW0]; simp
  have HR := hideG (show W0.heap[w.heap.size]? = some (.cells #[.int .i64 N, .int .i64 T, .int .i64 M, .int .i64 D] 26 (0, 0)) by rw [hW0]; exact heap_alloc_new w _)
  have HW0 := hideG hW0
  clear hW0
  obtain ⟨⟨x0, x1, x2, x3⟩, -⟩ := cells_four HR.out
  go_enter Tryz.func6, Tryz.ntmps6
  go_upto_region 1 with fail
  rw [← HW0.out]
  go_wp2_with fail
  refine (HB.out W0 BB.out).mono ?_
  rintro e w1 ⟨b, rfl, hb1, m, hses, hnew⟩
  have z1 := hb1.size
  have B1 := hideG (BB.out.trans (hb1.mono (by omega)))
  have R1 := hideG ((hb1.block w.heap.size z0).trans HR.out)
  have S1 := hideG hses
  have NW := hideG hnew
  clear x0 x1 x2 x3 hb1 hses hnew
  obtain ⟨⟨x0, x1, x2, x3⟩, -⟩ := cells_four R1.out
  have q0 : w.heap.size < w1.heap.size := by omega
  go_wp2_with fail
  refine (HSM.out w1 B1.out).mono ?_
  rintro e w2 ⟨gi, rfl, bs, hrow, hb0, hct, hb2⟩
  have z2 := hb2.size
  have HSZ := hideG (show T ≤ (szN (fun u => bs.getD u false) n : Int) by rw [szN_count bs n hrow.1 hb0, HTT.out]; omega)
  obtain ⟨W3, hW3⟩ : ∃ W3, W3 = w2.alloc (.cells #[.slice a4 n4 c4, .int .i64 0] 57) := ⟨_, rfl⟩
  have hb3 : Below w2.heap.size w2 W3 := by rw [hW3]; exact (Below.refl _ _).alloc (Nat.le_refl _) _
  have z3 : w2.heap.size < W3.heap.size := by rw [hW3]; simp
  have hb13 : Below w1.heap.size w1 W3 := hb2.trans (hb3.mono z2)
  have INIT := hideG (show LvM w W3 b n gi w2.heap.size w.heap.size ⟨N, T, M, D⟩ cl (beg cl n) m (.slice a4 n4 c4) cs 0 bs from
    { ses := S1.out.below hb13, row := ⟨(hrow.below hb3).1, ownsRow_base (hrow.below hb3).2 (by have := B1.out.size; omega)⟩,
      ch := by rw [hW3]; exact heap_alloc_new w2 _,
      cfg := (hb13.block w.heap.size q0).trans R1.out,
      gin := ⟨fun e => by have h1 := S1.out.low e; have h2 := hrow.lt; omega, by have h2 := hrow.lt; omega⟩,
      grn := ⟨fun e => by have h1 := S1.out.low e; omega, by omega⟩,
      gcn := ⟨fun e => by have := NW.out _ e; omega, by omega⟩,
      lo := fun z hz => by have := NW.out z (.inl hz); omega,
      bel := B1.out.trans (hb13.mono B1.out.size), lst := HLS.out })
  have hfi := hrow.lt
  have HW3 := hideG hW3
  clear hW3 hb2 hb3 hb13 x0 x1 x2 x3 hb0 hct hrow
  go_upto_region 6 with fail
  rw [← HW3.out]
  obtain ⟨gr, hgr⟩ : ∃ gr, gr = w2.heap.size := ⟨_, rfl⟩
  rw [← hgr]
  rw [← hgr] at INIT
  clear hgr
  obtain ⟨gc, hgc⟩ : ∃ gc, gc = w.heap.size := ⟨_, rfl⟩
  rw [← hgc]
  rw [← hgc] at INIT
  clear hgc
  go_wp2_with fail
  go_loopw [13] (fun i wr => ∃ (k : Nat) (s : Sn) (m : SM) (z : Nat), k ≤ 4 ∧ i = .int .i64 (k : Int) ∧ LvM w wr b n gi gr gc ⟨N, T, M, D⟩ cl s m (.slice a4 n4 c4) cs z bs ∧ z ≤ 1000 * k ∧ Rds ⟨N, T, M, D⟩ cl n (fun u => bs.getD u false) k s) (fun i _ => 4 - (intOf i).toNat)
  case atStart =>
    obtain ⟨r1, r2⟩ := li_beg HC.out (fun u => bs.getD u false)
    exact ⟨0, _, m, 0, by omega, rfl, INIT.out, by omega, .inl ⟨by omega, _, r1, by show (0 : Int) = D * ((0 : Nat) : Int); simp, r2⟩⟩
  case round =>
    obtain ⟨k, s, m, z, hk, rfl, hM, hz, hR⟩ := hrel
    have MR := hideG hM
    have RR := hideG hR
    obtain ⟨⟨x0, x1, x2, x3⟩, -⟩ := cells_four hM.cfg
    have hgl := hM.gcl
    clear hM hR
    by_cases hlt : k < 4
    · have HRD := hideG (show Calls Tryz.prog 18 #[.pointer (some ⟨b, 0, none⟩), .agg #[.int .i64 N, .int .i64 T, .int .i64 M, .int .i64 D], .slice (some ⟨gi, 0, none⟩) (n + 1) (n + 1), .pointer (some ⟨gr, 0, none⟩)] wr (fun e w' => e = .returned (.bool true) ∧ ∃ s' m' z', LvM w w' b n gi gr gc ⟨N, T, M, D⟩ cl s' m' (.slice a4 n4 c4) cs z' bs ∧ z' ≤ 1000 * (k + 1) ∧ Rds ⟨N, T, M, D⟩ cl n (fun u => bs.getD u false) (k + 1) s') from by
        obtain ⟨r1, ph, r2, r3, r4⟩ : k ≤ 3 ∧ ∃ ph, LI ⟨N, T, M, D⟩ cl n (fun u => bs.getD u false) k s ph ∧ s.q.tm = D * (k : Int) ∧ Phi n (fun u => bs.getD u false) s.fl ≤ 2 * n := by
          rcases RR.out with q | ⟨q, _⟩
          · exact q
          · omega
        exact (kround_calls HC.out MR.out r2 (by omega) r1 r3 r4 HSZ.out).mono (fun e w' ⟨h1, s', m', z', h2, h3, h4, h5⟩ => ⟨h1, s', m', z', MR.out.turn h2 h3, by omega, rds_next h5⟩))
      have hlt' : (k : Int) < 4 := by omega
      go_wp2_with fail
      refine HRD.out.mono ?_
      rintro e w4 ⟨rfl, s4, m4, z4, hM4, hz4, hR4⟩
      have FIN := hideG (And.intro hM4 (And.intro hz4 hR4))
      clear hM4 hz4 hR4 x0 x1 x2 x3
      go_wp2_with fail
      go_roundw
      case rel => exact ⟨k + 1, s4, m4, z4, by omega, by go_num, FIN.out⟩
      case measure => simp [intOf]; omega
    · have hlt' : ¬ (k : Int) < 4 := by omega
      obtain ⟨hok, G, hout, hG⟩ : SnOk ⟨N, T, M, D⟩ cl n s ∧ ∃ G : Nat → Bool, s.q.out = doneO ⟨N, T, M, D⟩ cl n G ∧ ∀ i, i < n → bs.getD (i + 1) false = true → G (i + 1) = true := by
        rcases RR.out with ⟨q, _⟩ | ⟨_, q⟩
        · omega
        · exact q
      have HVO := hideG (vOutcome MR.out.ses hok)
      rw [hout, HDO.out] at HVO
      dsimp only at HVO
      have HGG := hideG hG
      have hll := inL_len G n
      have HLI := hideG (inL_in G n hn12)
      have hl2 : ((List.range mm).map (inS cl n G)).length = mm := by rw [List.length_map, List.length_range]
      have HL2 := hideG (show ∀ z ∈ (List.range mm).map (inS cl n G), inI z from fun z hz => by
        obtain ⟨i, _, rfl⟩ := List.mem_map.1 hz
        have := inS_bd cl G n i; unfold inI; omega)
      clear hok hout hG x0 x1 x2 x3
      go_wp2_with fail
      refine HVO.out.mono ?_
      rintro e w4 ⟨va, vb, rfl, ht1, ht2, -, hb4⟩
      have LA := listAt_of_owns ht1 HLI.out
      have LB := listAt_of_owns ht2 HL2.out
      obtain ⟨a5, k5, e5⟩ := klist_form LA
      obtain ⟨a6, k6, e6⟩ := klist_form LB
      obtain ⟨ll, hll2⟩ : ∃ ll, ll = (inL n G).length := ⟨_, rfl⟩
      have HLL := hideG hll2
      rw [← hll2] at e5 hll
      rw [hl2] at e6
      clear hll2
      have M4 := hideG (MR.out.below hb4)
      have HVB := hideG (show ∀ x, (va.ownBlock = some x ∨ vb.ownBlock = some x) → x < w4.heap.size from fun x hx => by
        rcases hx with hx | hx
        · exact (ht1.lt x hx).2
        · exact (ht2.lt x hx).2)
      obtain ⟨W5, hW5⟩ : ∃ W5, W5 = (w4.alloc (.cells #[.int .i64 1, .int .i64 0, va, vb] 35)).alloc (.cells (bl13 (tkB (inL n G) 0)).toArray 37) := ⟨_, rfl⟩
      have hb5 : Below w4.heap.size w4 W5 := by rw [hW5]; exact ((Below.refl _ _).alloc (Nat.le_refl _) _).alloc (by simp) _
      have z5 : W5.heap.size = w4.heap.size + 2 := by rw [hW5]; simp
      have R5 := hideG (show W5.heap[w4.heap.size]? = some (.cells #[.int .i64 1, .int .i64 0, va, vb] 35 (0, 0)) by
        rw [hW5, ((Below.refl _ (w4.alloc (.cells #[.int .i64 1, .int .i64 0, va, vb] 35))).alloc (Nat.le_refl _) _).block w4.heap.size (by simp)]
        exact heap_alloc_new w4 _)
      have BS5 := hideG (show BoolsAt W5 (w4.heap.size + 1) 37 (tkB (inL n G) 0) by
        have := bools_box (w4.alloc (.cells #[.int .i64 1, .int .i64 0, va, vb] 35)) 37 (tkB (inL n G) 0)
        rw [hW5]; simpa using this)
      have M5 := hideG (M4.out.below hb5)
      have LA5 := hideG (LA.below hb5)
      have LB5 := hideG (LB.below hb5)
      have HE5 := hideG e5
      have HE6 := hideG e6
      rw [e5] at hW5 R5 LA5
      rw [e6] at hW5 R5 LB5
      rw [e5, e6]
      rw [show (bl13 (tkB (inL n G) 0)).toArray = #[.bool false, .bool false, .bool false, .bool false, .bool false, .bool false, .bool false, .bool false, .bool false, .bool false, .bool false, .bool false, .bool false] from rfl] at hW5
      have HW5 := hideG hW5
      obtain ⟨go, hgo⟩ : ∃ go, go = w4.heap.size := ⟨_, rfl⟩
      rw [← hgo] at R5 BS5 z5
      have q5 : go < W5.heap.size ∧ go + 1 < W5.heap.size := by omega
      have hgo2 : w.heap.size ≤ go := by have h1 := M4.out.bel.size; omega
      clear ht1 ht2 hb4 LA LB e5 e6 hW5 hb5
      rw [← hgo] at HVB
      go_upto_region 14 with fail
      rw [← HW5.out, ← hgo]
      have hgc4 : gc < go := by have := M4.out.gcl; omega
      have hgi4 : gi < go := by have := M4.out.row.lt; omega
      clear hgo
      go_wp2_with fail
      go_loopw [17] (fun i wq => ∃ j : Nat, j ≤ ll ∧ i = .int .i64 (j : Int) ∧ BoolsAt wq (go + 1) 37 (tkB (inL n G) j) ∧ Chg (fun x => x = go + 1) W5 wq) (fun i _ => ll - (intOf i).toNat)
      case atStart => exact ⟨0, Nat.zero_le _, rfl, BS5.out, Chg.refl _ _⟩
      case round =>
        obtain ⟨j, hj, rfl, hbs, hch⟩ := hrel
        have BR := hideG hbs
        have CH := hideG hch
        have zq := hch.size
        obtain ⟨⟨r0, r1, r2, r3⟩, -⟩ := cells_four ((hch.block go q5.1 (by omega)).trans R5.out)
        have hgc5 := M5.out.gcl
        have hgcn : gc ≠ go + 1 := by omega
        obtain ⟨⟨x0, x1, x2, x3⟩, -⟩ := cells_four ((hch.block gc hgc5 (fun e => hgcn e)).trans M5.out.cfg)
        have LAR := hideG (LA5.out.chg hch (fun x hx e => by have := HVB.out x (.inl (by rw [HE5.out]; exact hx)); have e' : x = go + 1 := e; omega))
        have LBR := hideG (LB5.out.chg hch (fun x hx e => by have := HVB.out x (.inr (by rw [HE6.out]; exact hx)); have e' : x = go + 1 := e; omega))
        have hgiq : gi < go + 1 := by omega
        have BRW := hideG (M5.out.row.blk (hch.block gi (by have := M5.out.row.lt; omega) (by omega)))
        have BEL := hideG (M5.out.bel.trans (hch.below M5.out.bel.size (fun x e => by have e' : x = go + 1 := e; omega)))
        clear hbs hch
        by_cases hlt2 : j < ll
        · obtain ⟨a7, k7, hv7, l71, l72, -, l74⟩ := LAR.out
          rcases l74 with l74 | ⟨lb, lo, hlb, hlbl, lc⟩
          · exfalso; have := HLL.out; rw [l74] at this; simp at this; omega
          have lcj := lc j (by have := HLL.out; omega)
          obtain ⟨rfl, rfl⟩ : a5 = a7 ∧ k5 = k7 := by injection hv7 with q1 q2 q3; exact ⟨q1, q3⟩
          subst hlb
          have hjl : j < (inL n G).length := by have := HLL.out; omega
          obtain ⟨u, hu, hu1, hu2, -⟩ := mem_inL (z := (inL n G).getD j 0) (G := G) (n := n) (by rw [List.getD_eq_getElem?_getD, List.getElem?_eq_getElem hjl]; exact List.getElem_mem hjl)
          rw [hu] at lcj
          have bc := BR.out.cell u (by omega)
          have bf := BR.out.froz u
          have NB := hideG (show BoolsAt (wr.setCell ⟨go + 1, u, none⟩ (.bool true)) (go + 1) 37 (tkB (inL n G) (j + 1)) by rw [tkB_succ (inL n G) j hjl u hu]; exact BR.out.set u (by omega) true)
          have NC := hideG (CH.out.also (Chg.setCell wr ⟨go + 1, u, none⟩ (.bool true)))
          have hgs : go + 1 < wr.heap.size := BR.out.lt
          have hu1' : ¬ (u : Int) < 1 := by omega
          have huN : (u : Int) ≤ N := by have := HNN.out; omega
          have hu13 : (u : Int) < 13 := by omega
          have hjl' : (j : Int) < (ll : Int) := by omega
          have hgow : go < wr.heap.size := by omega
          have hgcw : gc < wr.heap.size := by omega
          clear lc hv7 hu hjl hu1 hu2
          go_wp2_with fail
          go_roundw
          case rel => exact ⟨j + 1, by omega, by go_num, NB.out, NC.out⟩
          case measure => simp [intOf]; omega
        · have ej : j = ll := by omega
          have BRF := hideG (show BoolsAt wr (go + 1) 37 (tkB (inL n G) (inL n G).length) by rw [← HLL.out, ← ej]; exact BR.out)
          have hgow : go < wr.heap.size := by omega
          have hgcw : gc < wr.heap.size := by omega
          have hgs : go + 1 < wr.heap.size := BR.out.lt
          have hjl' : ¬ (j : Int) < (ll : Int) := by omega
          have hgiw : gi < wr.heap.size := by omega
          clear ej
          go_wp2_with fail
          go_loop [19] (fun i => ∃ u : Nat, u ≤ n ∧ i = .int .i64 ((u : Int) + 1)) (fun i => n + 1 - (intOf i).toNat)
          case atStart => exact ⟨0, Nat.zero_le _, rfl⟩
          case round =>
            obtain ⟨u, hu, rfl⟩ := hrel
            by_cases hlt3 : u < n
            · obtain ⟨b0, -⟩ := BRW.out.cell (u + 1) (by omega)
              have bc := BRF.out.cell (u + 1) (by omega)
              rw [tkB_all n G (u + 1) (by omega) (by omega)] at bc
              have hgu := HGG.out u hlt3
              have hu13 : (u : Int) + 1 < 13 := by omega
              have hun : (u : Int) + 1 < ((n + 1 : Nat) : Int) := by omega
              have huN : (u : Int) + 1 ≤ N := by have := HNN.out; omega
              cases q : bs.getD (u + 1) false
              · rw [q] at b0
                clear hgu q
                go_wp2_with fail
                go_round
                case rel => exact ⟨u + 1, by omega, by go_num⟩
                case measure => simp [intOf]; omega
              · rw [q] at b0
                rw [hgu q] at bc
                clear hgu q
                go_wp2_with fail
                go_round
                case rel => exact ⟨u + 1, by omega, by go_num⟩
                case measure => simp [intOf]; omega
            · have huN : ¬ (u : Int) + 1 ≤ N := by have := HNN.out; omega
              have HKW := hideG (HKS.out wr BEL.out (tkB (inL n G) (inL n G).length))
              obtain ⟨hx1, hx2⟩ := inL_ext (n := n) (f := tkB (inL n G) (inL n G).length) (g := G) (fun u h1 h2 => tkB_all n G u h1 h2)
              rw [hx1, show inS cl n (tkB (inL n G) (inL n G).length) = inS cl n G from funext (hx2 cl)] at HKW
              have RG := hideG BRF.out.range
              unfold setV at HKW
              have L13 := hideG (bl13_length (tkB (inL n G) (inL n G).length))
              obtain ⟨CS, hCS⟩ : ∃ CS, CS = bl13 (tkB (inL n G) (inL n G).length) := ⟨_, rfl⟩
              rw [← hCS] at RG HKW L13
              have SL := hideG (show (Tryz.prog.info? 37).map (·.size) = some CS.length by rw [size_set, L13.out])
              clear hCS hx1 hx2
              go_wp2_with (refine wpList_load_mid rfl 37 _ rfl (go + 1) 0 rfl CS _ RG.out Tryz.underlying37 rfl SL.out ?_)
              refine HKW.out.mono ?_
              rintro e w8 ⟨v1, v2, rfl, hl1, hl2', -, hb8⟩
              have HSO := hideG (fun (W : World) (hb : Below w8.heap.size w8 W) => ksameOutcome_same 1 0 _ _ v1 v2 _ _ W ((LAR.out.below hb8).below hb) ((LBR.out.below hb8).below hb) (hl1.below hb) (hl2'.below hb))
              have B8 := hideG (BEL.out.trans (hb8.mono BEL.out.size))
              have RO8 := hideG ((hb8.block go hgow).trans ((CH.out.block go q5.1 (by omega)).trans R5.out))
              obtain ⟨a8, k8, e8⟩ := klist_form hl1
              obtain ⟨a9, k9, e9⟩ := klist_form hl2'
              rw [← HLL.out] at e8
              rw [hl2] at e9
              rw [e8, e9] at HSO ⊢
              obtain ⟨⟨s0, s1', s2, s3⟩, -⟩ := cells_four RO8.out
              have hgo8 : go < w8.heap.size := by have := hb8.size; omega
              clear hl1 hl2' hb8 e8 e9 r0 r1 r2 r3
              go_wp2_with fail
              refine (HSO.out _ (Below.refl _ _)).mono ?_
              rintro e w9 ⟨rfl, hb9⟩
              have B9 := hideG (B8.out.trans (hb9.mono B8.out.size))
              clear hb9
              go_wp2_with fail
              go_ret
              exact ⟨rfl, B9.out⟩

end Go.Proofs.YtchideljndagjabGreat.lively
