/- A session as it is meant, without keys, shares and masks, beside an honest one. -/
import Derived.Test.YtchideljndagjabGreatPkIdBJ
import Derived.Test.YtchideljndagjabGreatPkIdAC
import Derived.Test.YtchideljndagjabGreatPkIdAG
import Derived.WalkSpells
import Derived.Test.YtchideljndagjabGreatPkIdAB
import Derived.Test.YtchideljndagjabGreatPkIdAI
import Derived.Test.YtchideljndagjabGreatPkIdAW
import Derived.Test.YtchideljndagjabGreatPkIdAZ
import Derived.BigQuiet
namespace Go.Proofs.YtchideljndagjabGreat
open Go.RowKit Cli Frm
set_option linter.unusedVariables false
structure Idl where
  tm : Int
  rd : Nat
  out : Int × Int × List Int × List Int
  got : Nat → Nat → Bool
def idl0 : Idl := ⟨0, 0, (0, 0, [], []), fun _ _ => false⟩
def szN (f : Nat → Bool) : Nat → Nat
  | 0 => 0
  | n + 1 => szN f n + (if f (n + 1) = true then 1 else 0)
theorem szN_ext {f g : Nat → Bool} : ∀ n, (∀ u, u ≤ n → f u = g u) → szN f n = szN g n
  | 0, _ => rfl
  | n + 1, h => by show szN f n + _ = szN g n + _; rw [szN_ext n (fun u hu => h u (by omega)), h (n + 1) (Nat.le_refl _)]
theorem szN_lst {p : Nat → Bool} (h : p 0 = false) : ∀ n, (Srv.lstN p (n + 1)).length = szN p n
  | 0 => by rw [Srv.lstN_succ, h]; rfl
  | n + 1 => by
    rw [Srv.lstN_succ, List.length_append, szN_lst h n]
    show _ = szN p n + _
    congr 1
    split <;> rfl
def hearsB (C : Srv.Cf) (w : Idl) (p : Pk) : Bool := decide (p.2.1 = 0 ∧ w.out.1 = 0 ∧ w.rd ≤ 3 ∧ p.2.2.length ≠ 0 ∧ 1 ≤ p.1 ∧ p.1 ≤ C.N) && decide (p.2.2.getD 0 0 = 2 * (w.rd : Int) + 1)
def upd2 (f : Nat → Nat → Bool) (r u : Nat) : Nat → Nat → Bool := fun r' u' => f r' u' || decide (r' = r ∧ u' = u)
def hearsN (C : Srv.Cf) (w : Idl) (p : Pk) : Idl := if hearsB C w p = true then { w with got := upd2 w.got w.rd p.1.toNat } else w
def inL (n : Nat) (f : Nat → Bool) : List Int := ((List.range n).filter fun i => f (i + 1)).map fun i : Nat => (i : Int) + 1
def inS (cl : Nat → Cl) (n : Nat) (f : Nat → Bool) (i : Nat) : Int := (((List.range n).filter fun j => f (j + 1)).map fun j => (cl j).inp.getD i 0).sum % 4294967296
def doneO (C : Srv.Cf) (cl : Nat → Cl) (n : Nat) (f : Nat → Bool) : Int × Int × List Int × List Int := (1, 0, inL n f, (List.range C.M.toNat).map (inS cl n f))
def ticksN (C : Srv.Cf) (cl : Nat → Cl) (n : Nat) (w : Idl) : Idl :=
  if w.out.1 = 0 then
    if w.tm + 1 < C.D * ((w.rd : Int) + 1) then { w with tm := w.tm + 1 }
    else if (szN (w.got w.rd) 12 : Int) < C.T then { w with tm := w.tm + 1, out := (2, (w.rd : Int), [], []) }
    else if w.rd + 1 = 4 then { w with tm := w.tm + 1, rd := 4, out := doneO C cl n (w.got 2) }
    else { w with tm := w.tm + 1, rd := w.rd + 1 }
  else w
structure IR (s : Sn) (w : Idl) : Prop where
  out : w.out = s.q.out
  run : s.q.out.1 = 0 → w.tm = s.q.tm ∧ w.rd = s.q.rd ∧ ∀ r u, r < 4 → u < 13 → w.got r u = Srv.mem (s.q.G r) u

section
variable {C : Srv.Cf} {cl : Nat → Cl} {n : Nat} {s : Sn} {ph : Nat → Nat} {w : Idl}
theorem ir_beg (cl : Nat → Cl) (n : Nat) : IR (beg cl n) idl0 := ⟨rfl, fun _ => ⟨rfl, rfl, fun _ _ _ _ => rfl⟩⟩
theorem IR.q {s' : Sn} (h : IR s w) (e : s'.q = s.q) : IR s' w := ⟨by rw [e]; exact h.out, by rw [e]; exact h.run⟩
theorem lst_in {p : Nat → Bool} (hn : n ≤ 12) (hp : ∀ u, u < 13 → p u = true → 1 ≤ u ∧ u ≤ n) : Srv.lst p = ((List.range n).filter fun i => p (i + 1)).map (· + 1) := by
  have key : ∀ k, k ≤ 12 → Srv.lstN p (k + 1) = ((List.range (min n k)).filter fun i => p (i + 1)).map (· + 1) := by
    intro k
    induction k with
    | zero =>
      intro _
      rw [Srv.lstN_succ]
      have h0 : p 0 = false := Bool.eq_false_iff.2 fun e => by have := hp 0 (by omega) e; omega
      rw [h0, show min n 0 = 0 by omega]; rfl
    | succ k ih =>
      intro hk
      rw [Srv.lstN_succ, ih (by omega)]
      by_cases c : k < n
      · rw [show min n (k + 1) = k + 1 by omega, show min n k = k by omega, List.range_succ, List.filter_append, List.map_append]
        congr 1
        by_cases q : p (k + 1) = true
        · rw [if_pos q, List.filter_cons, if_pos q]; rfl
        · rw [if_neg q, List.filter_cons, if_neg q]; rfl
      · rw [show min n (k + 1) = n by omega, show min n k = n by omega]
        have h0 : p (k + 1) = false := Bool.eq_false_iff.2 fun e => by have := hp (k + 1) (by omega) e; omega
        rw [h0]; simp
  have := key 12 (Nat.le_refl _)
  rw [show min n 12 = n by omega] at this
  exact this
theorem setL_in (hn : n ≤ 12) {G : Srv.Tab} (hp : ∀ u, u < 13 → Srv.mem (G 2) u = true → 1 ≤ u ∧ u ≤ n) : Srv.setL G = inL n (Srv.mem (G 2)) := by
  unfold Srv.setL inL
  rw [lst_in hn hp, List.map_map]
  apply List.map_congr_left
  intro i _
  show ((i + 1 : Nat) : Int) = _; omega
theorem inpSum_in (cl : Nat → Cl) (hn : n ≤ 12) {p : Nat → Bool} (hp : ∀ u, u < 13 → p u = true → 1 ≤ u ∧ u ≤ n) (i : Nat) : inpSum cl p i % 4294967296 = inS cl n p i := by
  unfold inpSum inS
  rw [lst_in hn hp, List.map_map]; rfl
theorem inL_ext {f g : Nat → Bool} (h : ∀ u, 1 ≤ u → u ≤ n → f u = g u) : inL n f = inL n g ∧ ∀ (cl : Nat → Cl) i, inS cl n f i = inS cl n g i := by
  have e : ((List.range n).filter fun i => f (i + 1)) = ((List.range n).filter fun i => g (i + 1)) := List.filter_congr fun i hi => h (i + 1) (by omega) (by have := List.mem_range.1 hi; omega)
  exact ⟨by unfold inL; rw [e], fun cl i => by unfold inS; rw [e]⟩
theorem HT.done {G : Srv.Tab} (h : HT C cl n G 3 ph) (hC : Cast C cl n) (hT : C.T ≤ (Srv.sizeR (G 3) : Int)) : ((1, 0, Srv.setL G, Srv.sumL C G) : Int × Int × List Int × List Int) = doneO C cl n (Srv.mem (G 2)) := by
  have hp : ∀ u, u < 13 → Srv.mem (G 2) u = true → 1 ≤ u ∧ u ≤ n := fun u _ m => by
    obtain ⟨i, rfl, hi, _⟩ := h.row m; omega
  have hn := hC.le.2
  unfold doneO
  rw [setL_in hn hp, h.sumL hC hT]
  have e : ∀ i, inpSum cl (Srv.mem (G 2)) i % 4294967296 = inS cl n (Srv.mem (G 2)) i := inpSum_in cl hn hp
  simp only [e]
theorem ir_tick (hC : Cast C cl n) (h : HI C cl n s ph) (k : IR s w) : IR (tickN C s) (ticksN C cl n w) := by
  by_cases p : s.q.out.1 = 0
  · obtain ⟨a1, a2, a3⟩ := k.run p
    have hpd := Srv.pend_iff.2 p
    have ok := h.ok.sok p
    have hnow := (Srv.now_iff.1 ok.now).2
    rw [Int.mul_comm] at hnow
    have h4 := ok.rd
    have hw : w.out.1 = 0 := by rw [k.out]; exact p
    have hsz : szN (w.got w.rd) 12 = Srv.sizeR (s.q.G s.q.rd) := by
      rw [a2, szN_ext 12 (fun u hu => a3 s.q.rd u h4 (by omega)), ← szN_lst (ok.good.zero s.q.rd) 12]; rfl
    unfold ticksN
    rw [if_pos hw, hsz, a1, a2]
    show IR { s with q := Srv.tickS C s.q, fl := _ } _
    unfold Srv.tickS
    rw [if_pos hpd]
    by_cases d : Srv.due C s.q = true
    · have d' : s.q.tm + 1 = C.D * ((s.q.rd : Int) + 1) := by unfold Srv.due at d; simpa using d
      rw [if_pos d, if_neg (show ¬ s.q.tm + 1 < C.D * ((s.q.rd : Int) + 1) by omega)]
      by_cases f : Srv.few C s.q = true
      · have f' : (Srv.sizeR (s.q.G s.q.rd) : Int) < C.T := by unfold Srv.few at f; simpa using f
        rw [if_pos f, if_pos f']
        exact ⟨rfl, fun e => absurd e (by show ¬ (2 : Int) = 0; omega)⟩
      · have f' : ¬ (Srv.sizeR (s.q.G s.q.rd) : Int) < C.T := by unfold Srv.few at f; simpa using f
        rw [if_neg f, if_neg f']
        by_cases r3 : s.q.rd = 3
        · rw [if_pos r3, if_pos (show s.q.rd + 1 = 4 by omega)]
          refine ⟨?_, fun e => absurd e (by show ¬ (1 : Int) = 0; omega)⟩
          have ht := h.ht
          rw [r3] at ht f'
          show doneO C cl n (w.got 2) = (1, 0, Srv.setL s.q.G, Srv.sumL C s.q.G)
          rw [ht.done hC (by omega)]
          have hn := hC.le.2
          obtain ⟨b1, b2⟩ := inL_ext (n := n) (f := w.got 2) (g := Srv.mem (s.q.G 2)) (fun u _ hu => a3 2 u (by omega) (by omega))
          unfold doneO
          have b3 : inS cl n (w.got 2) = inS cl n (Srv.mem (s.q.G 2)) := funext (b2 cl)
          rw [b1, b3]
        · rw [if_neg r3, if_neg (show ¬ s.q.rd + 1 = 4 by omega)]
          exact ⟨k.out, fun _ => ⟨rfl, rfl, a3⟩⟩
    · have d' : ¬ s.q.tm + 1 = C.D * ((s.q.rd : Int) + 1) := by unfold Srv.due at d; simpa using d
      rw [if_neg d, if_pos (show s.q.tm + 1 < C.D * ((s.q.rd : Int) + 1) by omega)]
      exact ⟨k.out, fun _ => ⟨rfl, rfl, a3⟩⟩
  · have e : Srv.tickS C s.q = s.q := by unfold Srv.tickS; rw [if_neg (fun q => p (Srv.pend_iff.1 q))]
    have e2 : ticksN C cl n w = w := by unfold ticksN; rw [if_neg (by rw [k.out]; exact p)]
    rw [e2]
    refine k.q ?_
    show Srv.tickS C s.q = _; exact e
theorem ir_hear (hC : Cast C cl n) (h : HI C cl n s ph) (k : IR s w) {p : Pk} (hp : FP cl n s.q ph p) : IR (rcv C cl n s p.2.1 p.2.2) (hearsN C w p) := by
  have hn := hC.num
  rcases hp with ⟨i, r, hi, hr, rfl⟩ | ⟨i, r, hi, hr, hm, rfl⟩
  · obtain ⟨_, _, _, _, _, c, _⟩ := h.toServer hC hi hr
    have h3 := h.ht.ph3 i hi
    obtain ⟨q1, q2, q3⟩ := rcv_q C cl n s 0 (pC cl s.q.G i r).2.2
    by_cases p : s.q.out.1 = 0
    · obtain ⟨a1, a2, a3⟩ := k.run p
      have hh : hearsB C w (pC cl s.q.G i r) = decide (r = s.q.rd) := by
        unfold hearsB
        rw [decide_eq_true (show (pC cl s.q.G i r).2.1 = 0 ∧ w.out.1 = 0 ∧ w.rd ≤ 3 ∧ (pC cl s.q.G i r).2.2.length ≠ 0 ∧ 1 ≤ (pC cl s.q.G i r).1 ∧ (pC cl s.q.G i r).1 ≤ C.N from ⟨rfl, by rw [k.out]; exact p, by have := h.ht.rd4; omega, by have := encF_pos (2 * (r : Int) + 1) (cl i).id (ansL cl s.q.G i r); exact Nat.ne_of_gt this, by show 1 ≤ (i : Int) + 1; omega, by show (i : Int) + 1 ≤ C.N; omega⟩), Bool.true_and]
        have e1 : (pC cl s.q.G i r).2.2.getD 0 0 = 2 * (r : Int) + 1 := rfl
        rw [e1, a2]
        by_cases q : r = s.q.rd
        · rw [decide_eq_true (show 2 * (r : Int) + 1 = 2 * (s.q.rd : Int) + 1 by omega), decide_eq_true q]
        · rw [decide_eq_false (show ¬ 2 * (r : Int) + 1 = 2 * (s.q.rd : Int) + 1 by omega), decide_eq_false q]
      unfold hearsN
      rw [hh]
      refine ⟨?_, fun _ => ?_⟩
      · show _ = (rcv C cl n s 0 (pC cl s.q.G i r).2.2).q.out
        rw [q1]; split <;> exact k.out
      · show _ = (rcv C cl n s 0 (pC cl s.q.G i r).2.2).q.tm ∧ _ = (rcv C cl n s 0 (pC cl s.q.G i r).2.2).q.rd ∧ _
        rw [q2, q3]
        by_cases q : r = s.q.rd
        · rw [if_pos (decide_eq_true q)]
          refine ⟨a1, a2, fun r' u hr' hu => ?_⟩
          show upd2 w.got w.rd ((i : Int) + 1).toNat r' u = Srv.mem ((rcv C cl n s 0 (pC cl s.q.G i r).2.2).q.G r') u
          rw [c, decide_eq_true p, Bool.true_and]
          unfold upd2
          rw [a3 r' u hr' hu, a2, show ((i : Int) + 1).toNat = i + 1 by omega]
          congr 1
          by_cases z : r' = s.q.rd ∧ u = i + 1
          · rw [decide_eq_true z, decide_eq_true ⟨q, by omega, z.2⟩]
          · rw [decide_eq_false z, decide_eq_false (fun z' => z ⟨by omega, z'.2.2⟩)]
        · rw [if_neg (by rw [decide_eq_false q]; exact Bool.false_ne_true)]
          refine ⟨a1, a2, fun r' u hr' hu => ?_⟩
          show _ = Srv.mem ((rcv C cl n s 0 (pC cl s.q.G i r).2.2).q.G r') u
          rw [c, decide_eq_false (show ¬ (r = s.q.rd ∧ r' = r ∧ u = i + 1) from fun z => q z.1), Bool.and_false, Bool.or_false]
          exact a3 r' u hr' hu
    · have e : hearsN C w (pC cl s.q.G i r) = w := by
        unfold hearsN hearsB
        rw [decide_eq_false (fun z => p (by rw [← k.out]; exact z.2.1))]; rfl
      rw [e]
      refine ⟨by show _ = (rcv C cl n s 0 (pC cl s.q.G i r).2.2).q.out; rw [q1]; exact k.out, fun z => absurd z ?_⟩
      show ¬ (rcv C cl n s 0 (pC cl s.q.G i r).2.2).q.out.1 = 0
      rw [q1]; exact p
  · obtain ⟨ph', _, _, c1, _⟩ := h.toClient hC hi hr hm
    have e : hearsN C w (pS s.q.G i r) = w := by
      unfold hearsN hearsB
      rw [decide_eq_false (fun z => by have z1 : (i : Int) + 1 = 0 := z.1; omega)]; rfl
    rw [e]
    exact k.q c1
def idlN (C : Srv.Cf) (cl : Nat → Cl) (n : Nat) (s : Sn) (o : Stp) (w : Idl) : Idl :=
  let w1 := match actD s o with | none => w | some p => hearsN C w p
  if o.k = 5 then ticksN C cl n w1 else w1
theorem ir_act (hC : Cast C cl n) (h : HI C cl n s ph) (k : IR s w) (o : Stp) : IR (actN C cl n false s o) (idlN C cl n s o w) := by
  unfold idlN
  by_cases k1 : o.k = 1
  · rw [if_neg (by omega)]
    by_cases h0 : 0 < s.fl.length
    · obtain ⟨p, hp, hm, _, e⟩ := deliver_some (C := C) (cl := cl) (n := n) k1 h0
      rw [e, hp]
      exact ir_hear hC (h.less (Num.pickN o.n s.fl.length).toNat) (k.q rfl) (h.fl p hm)
    · have e : s.fl = [] := List.length_eq_zero_iff.1 (by omega)
      have e1 : actD s o = none := by unfold actD; rw [if_pos k1, e]; rfl
      rw [e1]
      unfold actN; rw [if_pos k1, if_pos (by omega)]; exact k
  have e1 : actD s o = none := by unfold actD; rw [if_neg k1]
  rw [e1]
  by_cases k5 : o.k = 5
  · rw [if_pos k5]
    have e2 : actN C cl n false s o = tickN C s := by unfold actN; rw [if_neg k1, if_neg (by omega), if_neg (by omega), if_neg (by omega), if_pos k5]
    rw [e2]; exact ir_tick hC h k
  rw [if_neg k5]
  refine k.q ?_
  unfold actN
  rw [if_neg k1, if_neg k5]
  split
  · split
    · rfl
    · unfold dropN; split <;> rfl
  · split
    · split
      · rfl
      · unfold doubleN; split
        · split
          · split <;> rfl
          · rfl
        · rfl
    · split
      · split
        · rename_i c
          have hd : decF o.s = none := by
            rcases c with c | c
            · cases c
            · exact c
          unfold injectN; split
          · rw [rcv_none C cl n s _ hd]
          · rfl
        · rfl
      · split
        · unfold crashU; split <;> rfl
        · rfl
end
end Go.Proofs.YtchideljndagjabGreat
namespace Go.Proofs.YtchideljndagjabGreat
open Go.ChangeShapes Go.WideShapes Go.ChangeAt Go.RowKit
set_option linter.unusedVariables false
def setV (f : Nat → Bool) : Value := .agg (bl13 f).toArray
def cntN (f : Nat → Bool) : Nat → Nat
  | 0 => 0
  | n + 1 => cntN f n + (if f (n + 1) = true then 1 else 0)
theorem cntN_le (f : Nat → Bool) (n : Nat) : cntN f n ≤ n := by
  induction n with
  | zero => exact Nat.le_refl _
  | succ n ih => unfold cntN; split <;> omega
theorem bools_box (w : World) (T : TypeId) (f : Nat → Bool) : BoolsAt (w.alloc (.cells (bl13 f).toArray T)) w.heap.size T f := heap_alloc_new w _
set_option maxHeartbeats 1000000 in
theorem ksize_calls (f : Nat → Bool) (w : World) :
    Calls Tryz.prog 37 #[setV f] w fun e w' => e = .returned (.int .i64 (cntN f 12 : Int)) ∧ Below w.heap.size w w' := by
  unfold setV
  have HB := hideG (bools_box w 37 f)
  have BB := hideG (show Below w.heap.size w (w.alloc (.cells (bl13 f).toArray 37)) from (Below.refl _ _).alloc (Nat.le_refl _) _)
  obtain ⟨W, hW⟩ : ∃ W, W = w.alloc (.cells (bl13 f).toArray 37) := ⟨_, rfl⟩
  rw [← hW] at HB BB
  have HW := hideG hW
  clear hW
  obtain ⟨X, hX⟩ : ∃ X, X = (bl13 f).toArray := ⟨_, rfl⟩
  rw [← hX] at HW ⊢
  clear hX
  go_enter Tryz.func37, Tryz.ntmps37
  go_wp2_with fail
  rw [← HW.out]
  go_loop [3, 4] (fun n u => ∃ k : Nat, k ≤ 12 ∧ u = .int .i64 ((k : Int) + 1) ∧ n = .int .i64 (cntN f k : Int)) (fun _ u => 13 - (intOf u).toNat)
  case atStart => exact ⟨0, by omega, rfl, rfl⟩
  case round =>
    obtain ⟨k, hk, rfl, rfl⟩ := hrel
    have hle := cntN_le f k
    have HS := hideG (show cntN f (k + 1) = cntN f k + (if f (k + 1) = true then 1 else 0) from rfl)
    obtain ⟨m, hm⟩ : ∃ m, m = cntN f k := ⟨_, rfl⟩
    rw [← hm] at hle HS ⊢
    have HM := hideG hm
    clear hm
    by_cases hlt : k < 12
    · have c := HB.out.cell (k + 1) (by omega)
      have hk13 : ((k : Int) + 1) < 13 := by omega
      cases q : f (k + 1)
      · rw [q] at c HS
        have HS2 := hideG (show cntN f (k + 1) = m by rw [HS.out]; simp)
        clear q
        go_wp2_with fail
        go_round
        case rel => exact ⟨k + 1, by omega, by go_num, by rw [HS2.out]⟩
        case measure => simp [intOf]; omega
      · rw [q] at c HS
        have HS2 := hideG (show cntN f (k + 1) = m + 1 by rw [HS.out]; simp)
        clear q
        go_wp2_with fail
        go_round
        case rel => exact ⟨k + 1, by omega, by go_num, by rw [HS2.out]; go_num⟩
        case measure => simp [intOf]; omega
    · have ek : k = 12 := by omega
      subst ek
      go_wp2_with fail
      go_ret
      exact ⟨by rw [HM.out]; rfl, BB.out⟩
end Go.Proofs.YtchideljndagjabGreat
namespace Go.Proofs.YtchideljndagjabGreat
open Go.ChangeShapes Go.WideShapes Go.ChangeAt Go.RowKit
theorem pick_calls (c n : Int) (w : World) (hc : -9223372036854775808 ≤ c) (hc' : c ≤ 9223372036854775807) (hn : 0 < n) (hn' : n ≤ 9223372036854775807) :
    Calls Tryz.prog 21 #[.int .i64 c, .int .i64 n] w fun e w' => e = .returned (.int .i64 (Num.pickN c n)) ∧ w' = w := by
  by_cases h : c < 0
  · have H : Hid (-(c + 1) % n = Num.pickN c n) := by show _ = Num.pickN c n; unfold Num.pickN; rw [if_pos h]
    go_enter Tryz.func21, Tryz.ntmps21
    go_wp2
    go_ret
    exact ⟨congrArg (fun x => Ending.returned (.int .i64 x)) (by rw [← Int.neg_tmod, Num.tmod_nn _ _ (by omega)]; exact H.out), rfl⟩
  · have H : Hid (c % n = Num.pickN c n) := by show _ = Num.pickN c n; unfold Num.pickN; rw [if_neg h]
    go_enter Tryz.func21, Tryz.ntmps21
    go_wp2
    go_ret
    exact ⟨congrArg (fun x => Ending.returned (.int .i64 x)) H.out, rfl⟩
end Go.Proofs.YtchideljndagjabGreat
namespace Go.Proofs.YtchideljndagjabGreat
open Go.ChangeShapes Go.WideShapes Go.ChangeAt Go.RowKit
set_option linter.unusedVariables false
set_option maxHeartbeats 400000 in
theorem kelements_list (v : Value) (zs : List Int) (w : World) (h : ListAt w v zs) :
    Calls Tryz.prog 129 #[v] w fun e w' => e = .returned (.bool (zs.all Num.elB)) ∧ w' = w := by
  obtain ⟨a, cap, rfl, h2, h3, hc⟩ := list_view h
  have HC := hideG hc
  clear hc h
  generalize hn : zs.length = n at *
  have HN := hideG hn
  clear hn
  go_enter Tryz.func129, Tryz.ntmps129
  go_wp2_with fail
  go_loop [3] (fun i => ∃ k : Nat, k ≤ n ∧ i = .int .i64 k ∧ (zs.take k).all Num.elB = true) (fun i => n - (intOf i).toNat)
  case atStart => exact ⟨0, Nat.zero_le _, rfl, rfl⟩
  case round =>
    obtain ⟨k, hk, rfl, hall⟩ := hrel
    have HA := hideG hall
    clear hall
    by_cases hlt : k < n
    · obtain ⟨b, off, rfl, c0⟩ := HC.out k hlt
      obtain ⟨z, hz⟩ : ∃ z, z = zs.getD k 0 := ⟨_, rfl⟩
      rw [← hz] at c0
      have HZ := hideG hz
      clear hz
      by_cases h1 : z < 0
      · go_wp2_with fail
        go_ret
        exact ⟨congrArg (fun x => Ending.returned (.bool x)) (Num.all_off zs k (by rw [HN.out]; exact hlt) (by rw [← HZ.out]; omega)).symm, rfl⟩
      · by_cases h2 : z < 2305843009213693951
        · go_wp2_with fail
          go_round
          case rel => exact ⟨k + 1, by omega, by go_num, Num.all_on zs k (by rw [HN.out]; exact hlt) HA.out (by rw [← HZ.out]; omega)⟩
          case measure => simp [intOf]; omega
        · go_wp2_with fail
          go_ret
          exact ⟨congrArg (fun x => Ending.returned (.bool x)) (Num.all_off zs k (by rw [HN.out]; exact hlt) (by rw [← HZ.out]; omega)).symm, rfl⟩
    · go_wp2_with fail
      go_ret
      exact ⟨congrArg (fun x => Ending.returned (.bool x)) (Num.all_end zs k (by rw [HN.out]; omega) HA.out).symm, rfl⟩
end Go.Proofs.YtchideljndagjabGreat
namespace Go.Proofs.YtchideljndagjabGreat
open Go.ChangeShapes Go.WideShapes Go.ChangeAt Go.RowKit
set_option linter.unusedVariables false
set_option maxHeartbeats 1000000 in
theorem kwellConfig_calls (N T M D : Int) (w : World) :
    Calls Tryz.prog 62 #[.agg #[.int .i64 N, .int .i64 T, .int .i64 M, .int .i64 D]] w fun e w' => e = .returned (.bool (Cli.cfgB N T M D)) ∧ Below w.heap.size w w' := by
  by_cases c0 : 1 ≤ N
  rotate_left
  · have H := hideG (cfg_no (N := N) (T := T) (M := M) (D := D) (by omega))
    go_enter Tryz.func62, Tryz.ntmps62
    go_wp2_with fail
    go_ret
    exact ⟨ret_bool (by rw [H.out]; try simp; try omega), by go_grown⟩
  by_cases c1 : N ≤ 12
  rotate_left
  · have H := hideG (cfg_no (N := N) (T := T) (M := M) (D := D) (by omega))
    go_enter Tryz.func62, Tryz.ntmps62
    go_wp2_with fail
    go_ret
    exact ⟨ret_bool (by rw [H.out]; try simp; try omega), by go_grown⟩
  by_cases c2 : 1 ≤ T
  rotate_left
  · have H := hideG (cfg_no (N := N) (T := T) (M := M) (D := D) (by omega))
    go_enter Tryz.func62, Tryz.ntmps62
    go_wp2_with fail
    go_ret
    exact ⟨ret_bool (by rw [H.out]; try simp; try omega), by go_grown⟩
  by_cases c3 : T ≤ N
  rotate_left
  · have H := hideG (cfg_no (N := N) (T := T) (M := M) (D := D) (by omega))
    go_enter Tryz.func62, Tryz.ntmps62
    go_wp2_with fail
    go_ret
    exact ⟨ret_bool (by rw [H.out]; try simp; try omega), by go_grown⟩
  by_cases c4 : 1 ≤ M
  rotate_left
  · have H := hideG (cfg_no (N := N) (T := T) (M := M) (D := D) (by omega))
    go_enter Tryz.func62, Tryz.ntmps62
    go_wp2_with fail
    go_ret
    exact ⟨ret_bool (by rw [H.out]; try simp; try omega), by go_grown⟩
  by_cases c5 : M ≤ 12
  rotate_left
  · have H := hideG (cfg_no (N := N) (T := T) (M := M) (D := D) (by omega))
    go_enter Tryz.func62, Tryz.ntmps62
    go_wp2_with fail
    go_ret
    exact ⟨ret_bool (by rw [H.out]; try simp; try omega), by go_grown⟩
  by_cases c6 : 1 ≤ D
  rotate_left
  · have H := hideG (cfg_no (N := N) (T := T) (M := M) (D := D) (by omega))
    go_enter Tryz.func62, Tryz.ntmps62
    go_wp2_with fail
    go_ret
    exact ⟨ret_bool (by rw [H.out]; try simp; try omega), by go_grown⟩
  by_cases c7 : D ≤ 50
  rotate_left
  · have H := hideG (cfg_no (N := N) (T := T) (M := M) (D := D) (by omega))
    go_enter Tryz.func62, Tryz.ntmps62
    go_wp2_with fail
    go_ret
    exact ⟨ret_bool (by rw [H.out]; try simp; try omega), by go_grown⟩
  have H := hideG (cfg_yes (N := N) (T := T) (M := M) (D := D) (by omega))
  go_enter Tryz.func62, Tryz.ntmps62
  go_wp2_with fail
  go_ret
  exact ⟨ret_bool (by rw [H.out]; try simp; try omega), by go_grown⟩
theorem list3 (w : World) (a b c : Int) (ha : inI a) (hb : inI b) (hc : inI c) : ListAt (w.alloc (.cells #[.int .i64 a, .int .i64 b, .int .i64 c] 3)) (.slice (some ⟨w.heap.size, 0, none⟩) 3 3) [a, b, c] := by
  refine ⟨_, _, rfl, by simp, by unfold maxLen; omega, fun z hz => ?_, .inr ⟨w.heap.size, 0, rfl, by simp, fun i hi => ?_⟩⟩
  · simp at hz; rcases hz with rfl | rfl | rfl <;> assumption
  · match i, hi with
    | 0, _ => simp
    | 1, _ => simp
    | 2, _ => simp
set_option maxHeartbeats 2000000 in
set_option maxRecDepth 100000 in
theorem kwellDraw_calls (N T M D : Int) (vi vm vs : Value) (inp sm ss : List Int) (ch mk sd : Int) (w : World) (hi : ListAt w vi inp) (hm : ListAt w vm sm) (hs : ListAt w vs ss) (hT : 1 ≤ T) (hT' : T ≤ 12) (h1 : inI ch) (h2 : inI mk) (h3 : inI sd) :
    Calls Tryz.prog 63 #[.agg #[.int .i64 N, .int .i64 T, .int .i64 M, .int .i64 D], .agg #[vi, .int .i64 ch, .int .i64 mk, .int .i64 sd, vm, vs]] w fun e w' => e = .returned (.bool (Cli.drawB T M inp ch mk sd sm ss)) ∧ Below w.heap.size w w' := by
  have HE1 := hideG (fun (W : World) (hb : Below w.heap.size w W) => kelements_list vm sm W (hm.below hb))
  have HE2 := hideG (fun (W : World) (hb : Below w.heap.size w W) => kelements_list vs ss W (hs.below hb))
  have HE0 := hideG (fun (W : World) => kelements_list _ [ch, mk, sd] _ (list3 W ch mk sd h1 h2 h3))
  obtain ⟨b1, hb1⟩ : ∃ b1, b1 = [ch, mk, sd].all Num.elB := ⟨_, rfl⟩
  obtain ⟨b2, hb2⟩ : ∃ b2, b2 = sm.all Num.elB := ⟨_, rfl⟩
  obtain ⟨b3, hb3⟩ : ∃ b3, b3 = ss.all Num.elB := ⟨_, rfl⟩
  rw [← hb1] at HE0
  rw [← hb2] at HE1
  rw [← hb3] at HE2
  have HBS := hideG (And.intro hb1 (And.intro hb2 hb3))
  clear hb1 hb2 hb3
  obtain ⟨a1, c1, rfl, i2, i3, hcl⟩ := list_view hi
  obtain ⟨a2, c2, rfl, m2, m3, _⟩ := hm
  obtain ⟨a3, c3, rfl, s2, s3, _⟩ := hs
  have HC := hideG hcl
  clear hcl hi
  obtain ⟨W0, hW0⟩ : ∃ W0, W0 = (w.alloc (.cells #[.int .i64 N, .int .i64 T, .int .i64 M, .int .i64 D] 26)).alloc (.cells #[.slice a1 inp.length c1, .int .i64 ch, .int .i64 mk, .int .i64 sd, .slice a2 sm.length c2, .slice a3 ss.length c3] 117) := ⟨_, rfl⟩
  have BB := hideG (show Below w.heap.size w W0 by rw [hW0]; exact ((Below.refl _ _).alloc (Nat.le_refl _) _).alloc (by simp) _)
  have z0 : w.heap.size + 1 < W0.heap.size := by rw [hW0]; simp
  have HX := hideG (show SixAt W0 (w.heap.size + 1) 117 (.slice a1 inp.length c1) (.int .i64 ch) (.int .i64 mk) (.int .i64 sd) (.slice a2 sm.length c2) (.slice a3 ss.length c3) by rw [hW0]; exact heap_alloc2_new w _ _)
  by_cases q1 : (inp.length : Int) = M
  · by_cases q2 : (sm.length : Int) = T - 1
    · by_cases q3 : (ss.length : Int) = T - 1
      · have HR := hideG (draw_rest (ch := ch) (mk := mk) (sd := sd) q1 q2 q3)
        have p1 : ((inp.length : Int) != M) = false := by simpa using q1
        have p2 : ((sm.length : Int) != T - 1) = false := by simpa using q2
        have p3 : ((ss.length : Int) != T - 1) = false := by simpa using q3
        have HG := hideG (fun k (hk : k < inp.length) => (show inp.getD k 0 ∈ inp by rw [List.getD_eq_getElem?_getD, List.getElem?_eq_getElem hk]; exact List.getElem_mem hk))
        have HS := hideG (fun k (hk : k < inp.length) => (show (inp.take (k + 1)).all Frm.wdB = ((inp.take k).all Frm.wdB && Frm.wdB (inp.getD k 0)) by
          rw [List.take_succ_eq_append_getElem hk, List.all_append, List.getD_eq_getElem?_getD, List.getElem?_eq_getElem hk]; simp))
        have HT := hideG (show inp.take inp.length = inp from List.take_length)
        have HFA := hideG (show Cli.wordsB inp = false → Cli.drawB T M inp ch mk sd sm ss = false from fun e => by rw [HR.out, e, Bool.false_and, Bool.and_false])
        have HW0 := hideG hW0
        clear hW0 q1 q2 q3
        generalize inp.length = n1 at *
        generalize sm.length = n2 at *
        generalize ss.length = n3 at *
        go_enter Tryz.func63, Tryz.ntmps63
        go_wp2_with fail
        rw [← HW0.out]
        obtain ⟨⟨x0, x1, x2, x3, x4, x5⟩, xf⟩ := HX.out.cells
        go_loop [5] (fun i => ∃ k : Nat, k ≤ n1 ∧ i = .int .i64 k ∧ (inp.take k).all Frm.wdB = true) (fun i => n1 - (intOf i).toNat)
        case atStart => exact ⟨0, Nat.zero_le _, rfl, rfl⟩
        case round =>
          obtain ⟨k, hk, rfl, hall⟩ := hrel
          have HA := hideG hall
          clear hall
          by_cases hlt : k < n1
          · obtain ⟨b, off, rfl, c0⟩ := HC.out k hlt
            have hbl : b < w.heap.size := cell_in c0
            have HM := hideG (HG.out k hlt)
            have HU := hideG (HS.out k hlt)
            replace c0 := (BB.out.cell (p := ⟨b, off + k, none⟩) hbl).trans c0
            obtain ⟨z, hz⟩ : ∃ z, z = inp.getD k 0 := ⟨_, rfl⟩
            rw [← hz] at c0 HM HU
            clear hz
            by_cases y1 : z < 0
            · have H := hideG (HFA.out (List.all_eq_false.2 ⟨z, HM.out, by rw [show Frm.wdB z = false from decide_eq_false (by omega)]; exact Bool.false_ne_true⟩))
              go_wp2_with fail
              go_ret
              exact ⟨ret_bool H.out.symm, BB.out⟩
            by_cases y2 : z < 4294967296
            · rw [show Frm.wdB z = true from Frm.wdB_iff.2 (by omega), HA.out] at HU
              go_wp2_with fail
              go_round
              case rel => exact ⟨k + 1, by omega, by go_num, HU.out⟩
              case measure => simp [intOf]; omega
            · have H := hideG (HFA.out (List.all_eq_false.2 ⟨z, HM.out, by rw [show Frm.wdB z = false from decide_eq_false (by omega)]; exact Bool.false_ne_true⟩))
              go_wp2_with fail
              go_ret
              exact ⟨ret_bool H.out.symm, BB.out⟩
          · have ek : k = n1 := by omega
            subst ek
            have HWB := hideG (show Cli.wordsB inp = true by have := HA.out; rwa [HT.out] at this)
            have HR2 := hideG (show Cli.drawB T M inp ch mk sd sm ss = (b1 && (b2 && b3)) by rw [HR.out, HWB.out, HBS.out.1, HBS.out.2.1, HBS.out.2.2]; simp [Bool.and_assoc])
            have B1 := hideG (fun (o : Obj) => BB.out.alloc (Nat.le_of_lt (by omega)) o)
            go_wp2_with fail
            refine (HE0.out W0).mono ?_
            rintro e w' ⟨rfl, hw'⟩
            rw [hw']
            clear hw'
            obtain ⟨⟨u0, u1, u2, u3, u4, u5⟩, uf⟩ := (HX.out.below ((Below.refl W0.heap.size W0).alloc (Nat.le_refl _) (.cells #[.int .i64 ch, .int .i64 mk, .int .i64 sd] 3)) z0).cells
            obtain ⟨W1, hW1⟩ : ∃ W1, W1 = W0.alloc (.cells #[.int .i64 ch, .int .i64 mk, .int .i64 sd] 3) := ⟨_, rfl⟩
            have BW1 := hideG (show Below w.heap.size w W1 by rw [hW1]; exact B1.out _)
            rw [← hW1] at u4 u5 ⊢
            clear hW1 u0 u1 u2 u3 uf
            go_wp2_with fail
            refine (HE1.out _ BW1.out).mono ?_
            rintro e w' ⟨rfl, hw'⟩
            rw [hw']
            clear hw'
            go_wp2_with fail
            refine (HE2.out _ BW1.out).mono ?_
            rintro e w' ⟨rfl, hw'⟩
            rw [hw']
            clear hw'
            cases b1 <;> cases b2 <;> cases b3 <;> (go_wp2_with fail; go_ret; exact ⟨ret_bool (by rw [HR2.out]; rfl), BW1.out⟩)
      · have H := hideG (draw_len (M := M) (T := T) (inp := inp) (ch := ch) (mk := mk) (sd := sd) (sm := sm) (ss := ss) (fun h => q3 h.2.2))
        have p1 : ((inp.length : Int) != M) = false := by simpa using q1
        have p2 : ((sm.length : Int) != T - 1) = false := by simpa using q2
        have p3 : ((ss.length : Int) != T - 1) = true := by simpa using q3
        clear q1 q2 q3 hW0
        go_enter Tryz.func63, Tryz.ntmps63
        go_wp2_with fail
        go_ret
        exact ⟨ret_bool H.out.symm, by go_grown⟩
    · have H := hideG (draw_len (M := M) (T := T) (inp := inp) (ch := ch) (mk := mk) (sd := sd) (sm := sm) (ss := ss) (fun h => q2 h.2.1))
      have p1 : ((inp.length : Int) != M) = false := by simpa using q1
      have p2 : ((sm.length : Int) != T - 1) = true := by simpa using q2
      clear q1 q2 hW0
      go_enter Tryz.func63, Tryz.ntmps63
      go_wp2_with fail
      go_ret
      exact ⟨ret_bool H.out.symm, by go_grown⟩
  · have H := hideG (draw_len (M := M) (T := T) (inp := inp) (ch := ch) (mk := mk) (sd := sd) (sm := sm) (ss := ss) (fun h => q1 h.1))
    have p1 : ((inp.length : Int) != M) = true := by simpa using q1
    clear q1 hW0
    go_enter Tryz.func63, Tryz.ntmps63
    go_wp2_with fail
    go_ret
    exact ⟨ret_bool H.out.symm, by go_grown⟩
end Go.Proofs.YtchideljndagjabGreat
namespace Go.Proofs.YtchideljndagjabGreat
open Go.ChangeShapes Go.WideShapes Go.ChangeAt Go.RowKit
set_option linter.unusedVariables false
theorem kgreets_yes (id : Int) (va : Value) (l : List Frm.It) (w : World) (ok : Frm.okF 1 id l = true) (h : BytesAt w va (Frm.encF 1 id l)) :
    Calls Tryz.prog 31 #[va, .int .i64 id] w fun e w' => e = .returned (.bool true) ∧ Below w.heap.size w w' := by
  have HV := hideG (veilDecode va _ w h)
  obtain ⟨x1, x2, x3, x4⟩ := d_some (Frm.dec_enc ok)
  rw [x1, x2, x3, x4] at HV
  obtain ⟨aa, ca, rfl, -⟩ := bytes_view h
  have eii : (id == id) = true := by simp
  clear x1 x2 x3 x4 h ok
  generalize (Frm.encF 1 id l).length = L at *
  go_enter Tryz.func31, Tryz.ntmps31
  go_wp2_with fail
  refine HV.out.mono ?_
  rintro e w1 ⟨vo, rfl, hown, hb⟩
  obtain ⟨p2, q2, hv2⟩ := owns_form hown
  subst hv2
  have HB := hideG hb
  clear hown hb
  go_wp2_with fail
  go_ret
  exact ⟨rfl, HB.out.alloc HB.out.size _⟩
end Go.Proofs.YtchideljndagjabGreat
namespace Go.Proofs.YtchideljndagjabGreat
open Go.ChangeShapes Go.WideShapes Go.ChangeAt Go.RowKit
set_option linter.unusedVariables false
theorem Packs.viewK {w : World} {B : Nat} {v : Value} {vs : List Value} {ps : List Pk} (h : Packs w B v vs ps) : ∃ a c, v = .slice a ps.length c ∧ ps.length ≤ c ∧ c ≤ 9223372036854775807 ∧ ∀ j p, ps[j]? = some p → ∃ g y, a = some ⟨g, 0, none⟩ ∧ g < w.heap.size ∧ vs[j]? = some y ∧ w.cell? ⟨g, j * 3, none⟩ = some (.int .i64 p.1) ∧ w.cell? ⟨g, j * 3 + 1, none⟩ = some (.int .i64 p.2.1) ∧ w.cell? ⟨g, j * 3 + 2, none⟩ = some y ∧ w.ownsRow B 5 1 y p.2.2.length (bytesV p.2.2) := by
  have h0 := h.row
  rcases h0.2 with ⟨rfl, hn⟩ | ⟨g, cap, cur, rfl, _, hb, hnc, hcm, _⟩
  · refine ⟨none, 0, by rw [hn], by omega, by omega, fun j p hp => ?_⟩
    have := (List.getElem?_eq_some_iff.1 hp).1
    omega
  · refine ⟨_, cap, rfl, hnc, by unfold maxLen at hcm; omega, fun j p hp => ?_⟩
    have hj := (List.getElem?_eq_some_iff.1 hp).1
    have hjv : j < vs.length := by rw [h.len]; exact hj
    obtain ⟨q0, q1, q2⟩ := packV_get ps vs j p _ hp (List.getElem?_eq_getElem hjv)
    exact ⟨g, vs[j], rfl, (h0.lt g rfl).2, List.getElem?_eq_getElem hjv, (h0.cellAt (j * 3) (by omega)).trans q0, (h0.cellAt (j * 3 + 1) (by omega)).trans q1, (h0.cellAt (j * 3 + 2) (by omega)).trans q2, h.each j _ p (List.getElem?_eq_getElem hjv) hp⟩
set_option maxHeartbeats 1000000 in
theorem ksameInts_same (va vb : Value) (zs : List Int) (w : World) (ha : ListAt w va zs) (hb : ListAt w vb zs) :
    Calls Tryz.prog 39 #[va, vb] w fun e w' => e = .returned (.bool true) ∧ ∃ nq, w' = w.drewN nq := by
  obtain ⟨a, ca, rfl, a2, a3, a4, a5⟩ := ha
  obtain ⟨b, cb, rfl, b2, b3, b4, b5⟩ := hb
  unfold maxLen at a3 b3
  have hA : Hid (zs = [] ∨ ∃ g off, a = some ⟨g, off, none⟩ ∧ ∀ i, i < zs.length → w.cell? ⟨g, off + i, none⟩ = some (.int .i64 (zs.getD i 0))) := by
    rcases a5 with h | ⟨g, off, h1, _, h2⟩
    · exact .inl h
    · exact .inr ⟨g, off, h1, h2⟩
  have hB : Hid (zs = [] ∨ ∃ g off, b = some ⟨g, off, none⟩ ∧ ∀ i, i < zs.length → w.cell? ⟨g, off + i, none⟩ = some (.int .i64 (zs.getD i 0))) := by
    rcases b5 with h | ⟨g, off, h1, _, h2⟩
    · exact .inl h
    · exact .inr ⟨g, off, h1, h2⟩
  clear a4 a5 b4 b5
  have el : ((zs.length : Int) != (zs.length : Int)) = false := by simp
  generalize hn : zs.length = n at *
  have HN := hideG hn
  clear hn
  go_enter Tryz.func39, Tryz.ntmps39
  go_wp2_with fail
  go_loopw [5] (fun i wr => ∃ k nq : Nat, k ≤ n ∧ i = .int .i64 k ∧ wr = w.drewN nq) (fun i _ => n - (intOf i).toNat)
  case atStart => exact ⟨0, 0, by omega, rfl, rfl⟩
  case round =>
    obtain ⟨k, nq, hk, rfl, rfl⟩ := hrel
    by_cases hlt : k < n
    · obtain ⟨g1, o1, rfl, q1⟩ : ∃ g off, a = some ⟨g, off, none⟩ ∧ w.cell? ⟨g, off + k, none⟩ = some (.int .i64 (zs.getD k 0)) := by
        rcases hA.out with h | ⟨g, off, h1, h2⟩
        · have := HN.out; rw [h] at this; simp at this; omega
        · exact ⟨g, off, h1, h2 k hlt⟩
      obtain ⟨g2, o2, rfl, q2⟩ : ∃ g off, b = some ⟨g, off, none⟩ ∧ w.cell? ⟨g, off + k, none⟩ = some (.int .i64 (zs.getD k 0)) := by
        rcases hB.out with h | ⟨g, off, h1, h2⟩
        · have := HN.out; rw [h] at this; simp at this; omega
        · exact ⟨g, off, h1, h2 k hlt⟩
      generalize zs.getD k 0 = z at *
      have ez : (z != z) = false := by simp
      go_wp2_with fail
      go_quiet (fail)
      go_wp2_with fail
      go_roundw
      case rel => exact ⟨k + 1, _, by omega, by go_num, rfl⟩
      case measure => simp [intOf]; omega
    · go_wp2_with fail
      go_ret
      exact ⟨rfl, nq, rfl⟩
theorem klist_form {w : World} {v : Value} {zs : List Int} (h : ListAt w v zs) : ∃ a c, v = .slice a zs.length c := by obtain ⟨a, c, e, _⟩ := h; exact ⟨a, c, e⟩
set_option maxHeartbeats 1000000 in
set_option maxRecDepth 100000 in
theorem ksameOutcome_same (st ro : Int) (va vb ua ub : Value) (zs us : List Int) (w : World) (h1 : ListAt w va zs) (h2 : ListAt w vb us) (h3 : ListAt w ua zs) (h4 : ListAt w ub us) :
    Calls Tryz.prog 16 #[.agg #[.int .i64 st, .int .i64 ro, va, vb], .agg #[.int .i64 st, .int .i64 ro, ua, ub]] w fun e w' => e = .returned (.bool true) ∧ Below w.heap.size w w' := by
  have H1 := hideG (fun (W : World) (hb : Below w.heap.size w W) => ksameInts_same va ua zs W (h1.below hb) (h3.below hb))
  have H2 := hideG (fun (W : World) (hb : Below w.heap.size w W) => ksameInts_same vb ub us W (h2.below hb) (h4.below hb))
  obtain ⟨a1, c1, rfl⟩ := klist_form h1
  obtain ⟨a2, c2, rfl⟩ := klist_form h2
  obtain ⟨a3, c3, rfl⟩ := klist_form h3
  obtain ⟨a4, c4, rfl⟩ := klist_form h4
  clear h1 h2 h3 h4
  generalize zs.length = nz at *
  generalize us.length = nu at *
  obtain ⟨W0, hW0⟩ : ∃ W0, W0 = (w.alloc (.cells #[.int .i64 st, .int .i64 ro, .slice a1 nz c1, .slice a2 nu c2] 35)).alloc (.cells #[.int .i64 st, .int .i64 ro, .slice a3 nz c3, .slice a4 nu c4] 35) := ⟨_, rfl⟩
  have B0 := hideG (show Below w.heap.size w W0 by rw [hW0]; exact ((Below.refl _ _).alloc (Nat.le_refl _) _).alloc (by simp) _)
  have z0 : W0.heap.size = w.heap.size + 2 := by rw [hW0]; simp
  have X := hideG (fun (W : World) (hb : Below W0.heap.size W0 W) => (show (W.cell? ⟨w.heap.size, 0, none⟩ = some (.int .i64 st) ∧ W.cell? ⟨w.heap.size, 1, none⟩ = some (.int .i64 ro) ∧ W.cell? ⟨w.heap.size, 2, none⟩ = some (.slice a1 nz c1) ∧ W.cell? ⟨w.heap.size, 3, none⟩ = some (.slice a2 nu c2)) ∧ (W.cell? ⟨w.heap.size + 1, 0, none⟩ = some (.int .i64 st) ∧ W.cell? ⟨w.heap.size + 1, 1, none⟩ = some (.int .i64 ro) ∧ W.cell? ⟨w.heap.size + 1, 2, none⟩ = some (.slice a3 nz c3) ∧ W.cell? ⟨w.heap.size + 1, 3, none⟩ = some (.slice a4 nu c4)) from by
    have k1 : ∀ o, W.cell? ⟨w.heap.size, o, none⟩ = W0.cell? ⟨w.heap.size, o, none⟩ := fun o => hb.cell (p := ⟨w.heap.size, o, none⟩) (by show w.heap.size < _; omega)
    have k2 : ∀ o, W.cell? ⟨w.heap.size + 1, o, none⟩ = W0.cell? ⟨w.heap.size + 1, o, none⟩ := fun o => hb.cell (p := ⟨w.heap.size + 1, o, none⟩) (by show w.heap.size + 1 < _; omega)
    simp only [k1, k2]
    rw [hW0]
    refine ⟨⟨?_, ?_, ?_, ?_⟩, ?_, ?_, ?_, ?_⟩ <;> simp))
  have HW0 := hideG hW0
  clear hW0
  obtain ⟨⟨x0, x1, x2, x3⟩, y0, y1, y2, y3⟩ := X.out W0 (Below.refl _ _)
  have es : (st == st) = true := by simp
  have er : (ro == ro) = true := by simp
  go_enter Tryz.func16, Tryz.ntmps16
  go_upto_region 1 with fail
  rw [← HW0.out]
  go_wp2_with fail
  refine (H1.out W0 B0.out).mono ?_
  rintro e w1 ⟨rfl, n1, hw1⟩
  have hb1 : Below W0.heap.size W0 w1 := by rw [hw1]; exact below_drewN W0 n1
  have B1 := hideG (B0.out.trans (hb1.mono B0.out.size))
  have s1 := hb1.size
  clear x0 x1 x2 x3 y0 y1 y2 y3
  obtain ⟨⟨x0, x1, x2, x3⟩, y0, y1, y2, y3⟩ := X.out w1 hb1
  have HB1 := hideG hb1
  clear hb1 hw1
  go_wp2_with fail
  refine (H2.out w1 B1.out).mono ?_
  rintro e w2 ⟨rfl, n2, hw2⟩
  have hb2 : Below w1.heap.size w1 w2 := by rw [hw2]; exact below_drewN w1 n2
  have B2 := hideG (B1.out.trans (hb2.mono B1.out.size))
  have s2 := hb2.size
  clear x0 x1 x2 x3 y0 y1 y2 y3
  obtain ⟨⟨x0, x1, x2, x3⟩, y0, y1, y2, y3⟩ := X.out w2 (HB1.out.trans (hb2.mono s1))
  clear hb2 hw2
  go_wp2_with fail
  go_ret
  exact ⟨rfl, B2.out⟩
end Go.Proofs.YtchideljndagjabGreat
