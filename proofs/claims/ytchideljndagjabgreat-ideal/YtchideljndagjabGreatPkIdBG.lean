/- Contract of the program: veil.NewSession. -/
import Derived.Test.YtchideljndagjabGreatPkIdBF
namespace Go.Proofs.YtchideljndagjabGreat
open Go.ChangeShapes Go.WideShapes Go.ChangeAt Go.RowKit
set_option linter.unusedVariables false
theorem size_vses : Tryz.zeroCells111.size = 78 := by kernel_rfl
set_option maxHeartbeats 2000000 in
set_option maxRecDepth 100000 in
theorem veilNewSes_no (N T M D k : Int) (a : Option Addr) (n c : Nat) (w : World) (hk : k ≠ 0)
    (h : ∀ W : World, Below w.heap.size w W → Calls Tryz.prog 61 #[.agg #[.int .i64 N, .int .i64 T, .int .i64 M, .int .i64 D], .slice a n c] W fun e w' => e = .returned (.tuple #[.agg (sesCells zeroSS (.slice none 0 0) (.slice none 0 0)).toArray, .int .i64 k]) ∧ Below W.heap.size W w') :
    Calls Tryz.prog 28 #[.agg #[.int .i64 N, .int .i64 T, .int .i64 M, .int .i64 D], .slice a n c] w fun e w' => e = .returned (.tuple #[.pointer none, .int .i64 k]) ∧ Below w.heap.size w w' := by
  have HN := hideG h
  obtain ⟨CS, hCS⟩ : ∃ CS, CS = sesCells zeroSS (.slice none 0 0) (.slice none 0 0) := ⟨_, rfl⟩
  rw [← hCS] at HN
  have L78 := hideG (show CS.length = 78 by rw [hCS]; rfl)
  have HONE := hideG (show CS.toArray.all (·.oneCell') = true by rw [hCS]; exact all_oneCell_toArray zses_one)
  have HZC := hideG (show Tryz.zeroCells109 = CS.toArray by rw [hCS]; exact zero_ses)
  have hkk : (k != 0) = true := by simpa using hk
  clear hCS h hk
  have HSZ := hideG (show (Tryz.prog.info? 109).map (·.size) = some CS.toArray.size by rw [size_ses, List.size_toArray, L78.out])
  obtain ⟨W0, hW0⟩ : ∃ W0, W0 = w.alloc (.cells #[.int .i64 N, .int .i64 T, .int .i64 M, .int .i64 D] 26) := ⟨_, rfl⟩
  have B0 := hideG (show Below w.heap.size w W0 by rw [hW0]; exact (Below.refl _ _).alloc (Nat.le_refl _) _)
  have HW0 := hideG hW0
  clear hW0
  go_enter Tryz.func28, Tryz.ntmps28
  go_wp2_with fail
  rw [← HW0.out]
  refine (HN.out W0 B0.out).mono ?_
  rintro e w1 ⟨rfl, hb1⟩
  have B1 := hideG (B0.out.trans (hb1.mono B0.out.size))
  have z1 := B1.out.size
  clear hb1
  have r8 : (w1.alloc (.cells Tryz.zeroCells109 109)).heap[w1.heap.size]? = some (.cells CS.toArray 109 (0, 0)) := by rw [← HZC.out]; exact heap_alloc_new w1 _
  have HTH := hideG (show (w1.alloc (.cells Tryz.zeroCells109 109)).there w1.heap.size 0 CS.toArray.size from fun j hj => by
    have hj' : j < 78 := by have := L78.out; simp at hj; omega
    refine ⟨?_, frozen_of_row _ _ _ _ _ r8⟩
    rw [cell_of_row _ w1.heap.size (0 + j) _ _ (0, 0) r8]
    simp only [List.getElem?_toArray]
    rw [List.getElem?_eq_getElem (by rw [L78.out]; omega)]; rfl)
  have BF := hideG (show Below w.heap.size w ((w1.alloc (.cells Tryz.zeroCells109 109)).setCells w1.heap.size 0 CS) from below_setCells z1 _ _ _ (B1.out.alloc z1 _))
  clear r8
  go_wp2_with (refine wpList_store_mid rfl 109 _ _ rfl w1.heap.size 0 CS.toArray rfl rfl HTH.out HSZ.out HONE.out ?_)
  go_ret2
  exact ⟨rfl, BF.out⟩
def begE (N T M D : Int) (n : Nat) (Dd : Nat → DD) : Int := if Cli.cfgB N T M D = false then 5 else if (n : Int) ≠ N then 6 else if ((List.range n).all fun j => Cli.drawB T M (Dd j).inp (Dd j).ch (Dd j).ms (Dd j).sd (Dd j).sm (Dd j).ss) = true then 0 else 6
theorem drE_cases {N T M D : Int} (h : Cli.cfgB N T M D = true) {n : Nat} (hn : (n : Int) = N) (Dd : Nat → DD) {j : Nat} (hj : j < n) : drE N T M D Dd j = if Cli.drawB T M (Dd j).inp (Dd j).ch (Dd j).ms (Dd j).sd (Dd j).sm (Dd j).ss = false then 6 else 0 := by
  unfold drE newE
  rw [if_neg (by rw [h]; simp), if_neg (by omega)]
def beg (cl : Nat → Cli.Cl) (n : Nat) : Sn := ⟨Srv.start, fun _ => (1, [], [], []), fun _ => false, hellosP cl n⟩
set_option maxHeartbeats 4000000 in
set_option maxRecDepth 100000 in
theorem veilNewSes_go (N T M D : Int) (a : Option Addr) (n c : Nat) (vi vm vs : Nat → Value) (Dd : Nat → DD) (w : World) (h : Cli.cfgB N T M D = true) (hn : (n : Int) = N) (hD : DrawsAt w a n c vi vm vs Dd) (hok : ∀ j, j < n → drE N T M D Dd j = 0) :
    Calls Tryz.prog 28 #[.agg #[.int .i64 N, .int .i64 T, .int .i64 M, .int .i64 D], .slice a n c] w fun e w' => ∃ b, e = .returned (.tuple #[.pointer (some ⟨b, 0, none⟩), .int .i64 0]) ∧ Below w.heap.size w w' ∧ ∃ m, SesAt w' b n ⟨N, T, M, D⟩ (clD N T M Dd) (beg (clD N T M Dd) n) m ∧ ∀ x, SesFoot b n m x → w.heap.size ≤ x := by
  have HN := hideG (fun (W : World) (hb : Below w.heap.size w W) => sesNew_go N T M D a n c vi vm vs Dd W h hn (hD.below hb))
  have hn1 : 1 ≤ n := by have := (Srv.goodC_of h).n; have : 1 ≤ N := this.1; omega
  have HOK := hideG hok
  have HZC := hideG zero_ses
  clear h hn hD hok
  obtain ⟨W0, hW0⟩ : ∃ W0, W0 = w.alloc (.cells #[.int .i64 N, .int .i64 T, .int .i64 M, .int .i64 D] 26) := ⟨_, rfl⟩
  have B0 := hideG (show Below w.heap.size w W0 by rw [hW0]; exact (Below.refl _ _).alloc (Nat.le_refl _) _)
  have HW0 := hideG hW0
  clear hW0
  go_enter Tryz.func28, Tryz.ntmps28
  go_wp2_with fail
  rw [← HW0.out]
  refine (HN.out W0 B0.out).mono ?_
  rintro e w1 ⟨hb1, ⟨i, hi, hne, _⟩ | ⟨hall, b0, S, P, cv, fv, us, rfl, hmade⟩⟩
  · exact absurd (HOK.out i hi) hne
  have B1 := hideG (B0.out.trans (hb1.mono B0.out.size))
  have z0 := B0.out.size
  have z1 := B1.out.size
  have HMD := hideG hmade
  obtain ⟨CS, hCS⟩ : ∃ CS, CS = sesCells S cv fv := ⟨_, rfl⟩
  have L78 := hideG (show CS.length = 78 by rw [hCS]; rfl)
  have HONE := hideG (show CS.toArray.all (·.oneCell') = true by rw [hCS]; exact all_oneCell_toArray (hmade.ses.one (by rw [hmade.fresh]; exact fresh_one N T M D _)))
  have HCS := hideG hCS
  rw [← hCS]
  have HSZ := hideG (show (Tryz.prog.info? 109).map (·.size) = some CS.toArray.size by rw [size_ses, List.size_toArray, L78.out])
  have HSL := hideG (show (Tryz.prog.info? 109).map (·.size) = some CS.length by rw [size_ses, L78.out])
  have HFO := hideG (sfold_all CS Tryz.zeroCells111 (by rw [size_vses, L78.out]))
  clear hb1 hmade hall hCS
  have r8 : (w1.alloc (.cells Tryz.zeroCells109 109)).heap[w1.heap.size]? = some (.cells (sesCells zeroSS (.slice none 0 0) (.slice none 0 0)).toArray 109 (0, 0)) := by rw [← HZC.out]; exact heap_alloc_new w1 _
  have HTH := hideG (show (w1.alloc (.cells Tryz.zeroCells109 109)).there w1.heap.size 0 CS.toArray.size from fun j hj => by
    have hj' : j < 78 := by have := L78.out; simp at hj; omega
    refine ⟨?_, frozen_of_row _ _ _ _ _ r8⟩
    rw [cell_of_row _ w1.heap.size (0 + j) _ _ (0, 0) r8]
    simp only [List.getElem?_toArray]
    rw [List.getElem?_eq_getElem (by rw [sesCells_length]; omega)]; rfl)
  obtain ⟨w2, hw2⟩ : ∃ w2, w2 = (w1.alloc (.cells Tryz.zeroCells109 109)).setCells w1.heap.size 0 CS := ⟨_, rfl⟩
  have hb2 : Below w1.heap.size w1 w2 := by rw [hw2]; exact below_setCells (Nat.le_refl _) _ _ _ ((Below.refl _ _).alloc (Nat.le_refl _) _)
  have hr2 : w2.heap[w1.heap.size]? = some (.cells CS.toArray 109 (0, 0)) := by rw [hw2]; exact ses_row_set r8 (by rw [sesCells_length, L78.out])
  have RG := hideG (show w2.rangeAt w1.heap.size 0 CS from fun j v hj => by
    rw [cell_of_row w2 w1.heap.size (0 + j) _ _ (0, 0) hr2, Nat.zero_add, List.getElem?_toArray]; exact hj)
  have s2 := hb2.size
  have HB2 := hideG hb2
  have HW2 := hideG hw2
  clear r8 hw2 hb2 hr2
  go_upto_region 2 with (refine wpList_store_mid rfl 109 _ _ rfl w1.heap.size 0 CS.toArray rfl rfl HTH.out HSZ.out HONE.out ?_)
  rw [← HW2.out]
  have l78 := L78.out
  go_wp2_with (refine wpList_load_mid rfl 109 _ rfl w1.heap.size 0 rfl CS _ RG.out Tryz.underlying109 rfl HSL.out ?_)
  rw [HFO.out]
  go_ret2
  have hb3 : Below w2.heap.size w2 (w2.alloc (.cells CS.toArray 111)) := (Below.refl _ _).alloc (Nat.le_refl _) _
  have hps : (w2.alloc (.cells CS.toArray 111)).heap[w2.heap.size]? = some (.cells (sesCells S cv fv).toArray 111 (0, 0)) := by rw [← HCS.out]; exact heap_alloc_new w2 _
  have hbel : Below w1.heap.size w1 (w2.alloc (.cells CS.toArray 111)) := HB2.out.trans (hb3.mono s2)
  have hnew := (HMD.out.ses.move HMD.out.fresh hbel s2 hps)
  obtain ⟨m, hm, hf⟩ := hnew.ses hn1
  refine ⟨w2.heap.size, rfl, B1.out.trans (hbel.mono z1), m, hm, fun x hx => ?_⟩
  rcases hf x hx with e | e | e | e
  · omega
  · have := HMD.out.new x (.inr (.inl e)); omega
  · have := HMD.out.new x (.inr (.inr (.inl e))); omega
  · rcases e with ⟨e1, e2⟩ | e | e
    · rw [HMD.out.fresh] at e1; exact absurd (fresh_foot e1) e2
    · have := HMD.out.new x (.inr (.inr (.inr (.inr (.inl e))))); omega
    · have := HMD.out.new x (.inr (.inr (.inr (.inr (.inr e))))); omega
theorem veilNewSes {N T M D : Int} {a : Option Addr} {n c : Nat} {vi vm vs : Nat → Value} {Dd : Nat → DD} {w : World} (hD : DrawsAt w a n c vi vm vs Dd) :
    Calls Tryz.prog 28 #[.agg #[.int .i64 N, .int .i64 T, .int .i64 M, .int .i64 D], .slice a n c] w fun e w' => Below w.heap.size w w' ∧ ((begE N T M D n Dd ≠ 0 ∧ e = .returned (.tuple #[.pointer none, .int .i64 (begE N T M D n Dd)])) ∨
      (begE N T M D n Dd = 0 ∧ ∃ b, e = .returned (.tuple #[.pointer (some ⟨b, 0, none⟩), .int .i64 0]) ∧ ∃ m, SesAt w' b n ⟨N, T, M, D⟩ (clD N T M Dd) (beg (clD N T M Dd) n) m ∧ ∀ x, SesFoot b n m x → w.heap.size ≤ x)) := by
  by_cases h : Cli.cfgB N T M D = true
  · by_cases hn : (n : Int) = N
    · by_cases hok : ∀ j, j < n → drE N T M D Dd j = 0
      · have e0 : begE N T M D n Dd = 0 := by
          unfold begE
          rw [if_neg (by rw [h]; simp), if_neg (by omega), if_pos]
          refine List.all_eq_true.2 fun j hj => ?_
          have := hok j (List.mem_range.1 hj)
          rw [drE_cases h hn Dd (List.mem_range.1 hj)] at this
          cases q : Cli.drawB T M (Dd j).inp (Dd j).ch (Dd j).ms (Dd j).sd (Dd j).sm (Dd j).ss
          · rw [q] at this; simp at this
          · rfl
        exact (veilNewSes_go N T M D a n c vi vm vs Dd w h hn hD hok).mono (fun e w' ⟨b, h1, h2, h3⟩ => ⟨h2, .inr ⟨e0, b, h1, h3⟩⟩)
      · have e6 : begE N T M D n Dd = 6 := by
          unfold begE
          rw [if_neg (by rw [h]; simp), if_neg (by omega), if_neg]
          intro q
          refine hok fun j hj => ?_
          have := List.all_eq_true.1 q j (List.mem_range.2 hj)
          rw [drE_cases h hn Dd hj, this]; simp
        refine (veilNewSes_no N T M D 6 a n c w (by decide) (fun W hW => (sesNew_go N T M D a n c vi vm vs Dd W h hn (hD.below hW)).mono (fun e w' ⟨hb, hh⟩ => ?_))).mono (fun e w' ⟨h1, h2⟩ => ⟨h2, .inl ⟨by rw [e6]; decide, by rw [e6]; exact h1⟩⟩)
        rcases hh with ⟨i, hi, hne, he⟩ | ⟨hall, _⟩
        · refine ⟨?_, hb⟩
          have : drE N T M D Dd i = 6 := by
            rw [drE_cases h hn Dd hi] at hne ⊢
            split at hne
            · rename_i q; rw [if_pos q]
            · exact absurd rfl hne
          rw [he, this]
        · exact absurd hall hok
    · have e6 : begE N T M D n Dd = 6 := by unfold begE; rw [if_neg (by rw [h]; simp), if_pos hn]
      exact (veilNewSes_no N T M D 6 a n c w (by decide) (fun W hW => sesNew_len N T M D a n c W h hn)).mono (fun e w' ⟨h1, h2⟩ => ⟨h2, .inl ⟨by rw [e6]; decide, by rw [e6]; exact h1⟩⟩)
  · have h' := Bool.eq_false_iff.2 h
    have e5 : begE N T M D n Dd = 5 := by unfold begE; rw [if_pos h']
    exact (veilNewSes_no N T M D 5 a n c w (by decide) (fun W hW => sesNew_no N T M D a n c W h')).mono (fun e w' ⟨h1, h2⟩ => ⟨h2, .inl ⟨by rw [e5]; decide, by rw [e5]; exact h1⟩⟩)
end Go.Proofs.YtchideljndagjabGreat
namespace Go.Proofs.YtchideljndagjabGreat
open Go.RowKit
set_option linter.unusedVariables false
structure Stp where
  k : Int
  n : Int
  m : Int
  s : List Int
def FlB (s : Sn) : Prop := ∀ p ∈ s.fl, Frm.isB p.2.2
theorem hellosP_get (cl : Nat → Cli.Cl) : ∀ n i, i < n → (hellosP cl n)[i]? = some ((i : Int) + 1, 0, Frm.encF 1 (cl i).id (helloL (cl i)))
  | 0, i, h => by omega
  | n + 1, i, h => by
    show (hellosP cl n ++ [_])[i]? = _
    by_cases e : i = n
    · subst e
      rw [List.getElem?_append_right (by rw [hellosP_length]; exact Nat.le_refl _), hellosP_length, Nat.sub_self]; rfl
    · rw [List.getElem?_append_left (by rw [hellosP_length]; omega)]
      exact hellosP_get cl n i (by omega)
theorem hellosP_mem {cl : Nat → Cli.Cl} {n : Nat} {p : Pk} (h : p ∈ hellosP cl n) : ∃ i, i < n ∧ p = ((i : Int) + 1, 0, Frm.encF 1 (cl i).id (helloL (cl i))) := by
  obtain ⟨i, hi, e⟩ := List.getElem_of_mem h
  rw [hellosP_length] at hi
  refine ⟨i, hi, ?_⟩
  have := hellosP_get cl n i hi
  rw [List.getElem?_eq_getElem (by rw [hellosP_length]; exact hi), e] at this
  exact Option.some.inj this
structure Cast (C : Srv.Cf) (cl : Nat → Cli.Cl) (n : Nat) : Prop where
  gc : Srv.GoodC C
  num : C.N = (n : Int)
  good : ∀ i, i < n → Cli.Good (cl i)
  id : ∀ i, i < n → (cl i).id = (i : Int) + 1
  N : ∀ i, i < n → (cl i).N = C.N
  T : ∀ i, i < n → (cl i).T = C.T
  M : ∀ i, i < n → (cl i).M = C.M
theorem Cast.le {C : Srv.Cf} {cl : Nat → Cli.Cl} {n : Nat} (h : Cast C cl n) : 1 ≤ n ∧ n ≤ 12 := by have := h.gc.n; have := h.num; omega
theorem beg_ok {C : Srv.Cf} {cl : Nat → Cli.Cl} {n : Nat} (h : Cast C cl n) : SnOk C cl n (beg cl n) := by
  have hn := h.le
  refine ⟨h.gc, h.num, h.good, h.id, fun _ => Srv.sok_start h.gc, ⟨Nat.zero_le _, Nat.zero_le _⟩, ?_, fun p hp => ?_⟩
  · show (hellosP cl n).length + (remA (fun _ => (1, [], [], [])) n + remS Srv.start) ≤ 300
    rw [hellosP_length]
    have := remA_le (fun _ => (1, [], [], [])) n
    have := remS_le Srv.start
    omega
  · obtain ⟨i, hi, rfl⟩ := hellosP_mem hp
    exact enc_400 (helloL_ok (h.good i hi))
theorem beg_flB {C : Srv.Cf} {cl : Nat → Cli.Cl} {n : Nat} (h : Cast C cl n) : FlB (beg cl n) := fun p hp => by
  obtain ⟨i, hi, rfl⟩ := hellosP_mem hp
  exact encF_isB (helloL_ok (h.good i hi))
def actN (C : Srv.Cf) (cl : Nat → Cli.Cl) (n : Nat) (forged : Bool) (s : Sn) (o : Stp) : Sn :=
  if o.k = 1 then (if s.fl.length = 0 then s else deliverN C cl n s (Num.pickN o.n s.fl.length))
  else if o.k = 2 then (if s.fl.length = 0 then s else dropN s (Num.pickN o.n s.fl.length))
  else if o.k = 3 then (if s.fl.length = 0 then s else doubleN s (Num.pickN o.n s.fl.length))
  else if o.k = 4 then (if forged = true ∨ Frm.decF o.s = none then injectN C cl n s (Num.pickN o.m (C.N + 1)) o.s else s)
  else if o.k = 5 then tickN C s
  else if o.k = 6 then crashU n s (1 + Num.pickN o.n C.N)
  else s
def actD (s : Sn) (o : Stp) : Option Pk := if o.k = 1 then s.fl[(Num.pickN o.n s.fl.length).toNat]? else none

section
variable {C : Srv.Cf} {cl : Nat → Cli.Cl} {n : Nat} {s : Sn}
theorem SnOk.act (h : SnOk C cl n s) (hB : FlB s) {o : Stp} (ho : Frm.isB o.s) (forged : Bool) : SnOk C cl n (actN C cl n forged s o) := by
  unfold actN
  split
  · split
    · exact h
    · exact h.deliver _ hB
  · split
    · split
      · exact h
      · exact h.drop _
    · split
      · split
        · exact h
        · exact h.double _
      · split
        · split
          · exact h.inject _ ho
          · exact h
        · split
          · exact h.tick
          · split
            · exact h.crash _
            · exact h
theorem FlB.rcv (hB : FlB s) (h : SnOk C cl n s) (d : Int) {zs : List Int} (hz : Frm.isB zs) : FlB (rcv C cl n s d zs) := by
  unfold Go.Proofs.YtchideljndagjabGreat.rcv
  by_cases q : 1 ≤ d ∧ d ≤ (n : Int)
  · rw [if_pos q]
    unfold rcvC
    by_cases hg : s.gone (d.toNat - 1) = true
    · rw [if_pos hg]; exact hB
    · rw [if_neg hg]
      intro p hp
      rcases List.mem_append.1 hp with hp | hp
      · exact hB p hp
      · cases e : ansD (cl (d.toNat - 1)) (s.cs (d.toNat - 1)) zs with
        | none => rw [e] at hp; cases hp
        | some f =>
          rw [e] at hp
          rw [List.mem_singleton.1 hp]
          exact encF_isB (ansD_okS (h.good _ (by omega)) hz e)
  · rw [if_neg q]; exact hB
theorem FlB.less (hB : FlB s) (i : Nat) : FlB { s with fl := s.fl.eraseIdx i } := fun p hp => hB p (List.mem_of_mem_eraseIdx hp)
theorem FlB.deliver (hB : FlB s) (h : SnOk C cl n s) (u : Int) : FlB (deliverN C cl n s u) := by
  unfold deliverN; split
  · split
    · exact hB
    · rename_i p hp
      exact FlB.rcv (hB.less _) (h.less _) _ (hB p (List.mem_of_getElem? hp))
  · exact hB
theorem FlB.drop (hB : FlB s) (u : Int) : FlB (dropN s u) := by
  unfold dropN; split
  · exact hB.less _
  · exact hB
theorem FlB.double (hB : FlB s) (u : Int) : FlB (doubleN s u) := by
  unfold doubleN; split
  · split
    · split
      · exact hB
      · rename_i p hp
        intro q hq
        rcases List.mem_append.1 hq with hq | hq
        · exact hB q hq
        · rw [List.mem_singleton.1 hq]; exact hB p (List.mem_of_getElem? hp)
    · exact hB
  · exact hB
theorem FlB.tick (hB : FlB s) (h : SnOk C cl n s) : FlB (tickN C s) := fun p hp => by
  rcases List.mem_append.1 hp with hp | hp
  · exact hB p hp
  · exact tick_isB' h.gc h.sok p hp
theorem FlB.inject (hB : FlB s) (h : SnOk C cl n s) (u : Int) {zs : List Int} (hz : Frm.isB zs) : FlB (injectN C cl n s u zs) := by
  unfold injectN; split
  · exact hB.rcv h u hz
  · exact hB
theorem FlB.crash (hB : FlB s) (u : Int) : FlB (crashU n s u) := by
  unfold crashU; split <;> exact hB
theorem FlB.act (hB : FlB s) (h : SnOk C cl n s) {o : Stp} (ho : Frm.isB o.s) (forged : Bool) : FlB (actN C cl n forged s o) := by
  unfold actN
  split
  · split
    · exact hB
    · exact hB.deliver h _
  · split
    · split
      · exact hB
      · exact hB.drop _
    · split
      · split
        · exact hB
        · exact hB.double _
      · split
        · split
          · exact hB.inject h _ ho
          · exact hB
        · split
          · exact hB.tick h
          · split
            · exact hB.crash _
            · exact hB
end
end Go.Proofs.YtchideljndagjabGreat
