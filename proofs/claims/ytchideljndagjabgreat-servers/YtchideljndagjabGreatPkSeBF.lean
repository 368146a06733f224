/- veilref's server in memory, with all that it holds; contracts: Tick. -/
import Derived.Test.YtchideljndagjabGreatPkSeBE
import Derived.Test.YtchideljndagjabGreatPkSeAW
namespace Go.Proofs.YtchideljndagjabGreat
open Go.ChangeShapes Go.WideShapes Go.ChangeAt Go.RowKit
set_option linter.unusedVariables false

/-- The cells of what was taken, with the values of the items. -/
def flatL : Srv.Log → List Value → List Value
  | e :: L, v :: X => .int .i64 e.1 :: .int .i64 e.2.1 :: .int .i64 e.2.2.1 :: v :: flatL L X
  | _, _ => []
theorem flatL_app (L : Srv.Log) (X : List Value) (hl : L.length = X.length) (e : Int × Cli.Fr) (v : Value) : flatL (L ++ [e]) (X ++ [v]) = flatL L X ++ [.int .i64 e.1, .int .i64 e.2.1, .int .i64 e.2.2.1, v] := by
  induction L generalizing X with
  | nil => cases X with
    | nil => rfl
    | cons _ _ => simp at hl
  | cons g L ih => cases X with
    | nil => simp at hl
    | cons u X =>
      show _ :: _ :: _ :: _ :: flatL (L ++ [e]) (X ++ [v]) = _ :: _ :: _ :: _ :: (flatL L X ++ _)
      rw [ih X (by simpa using hl)]
theorem flatL_get (L : Srv.Log) (X : List Value) (hl : L.length = X.length) (j : Nat) (hj : j < L.length) :
    (flatL L X)[j * 4]? = some (.int .i64 (lgE L j).1) ∧ (flatL L X)[j * 4 + 1]? = some (.int .i64 (lgE L j).2.1) ∧ (flatL L X)[j * 4 + 2]? = some (.int .i64 (lgE L j).2.2.1) ∧ (flatL L X)[j * 4 + 3]? = X[j]? := by
  induction L generalizing X j with
  | nil => simp at hj
  | cons g L ih => cases X with
    | nil => simp at hl
    | cons u X => cases j with
      | zero => exact ⟨rfl, rfl, rfl, rfl⟩
      | succ j =>
        have h1 := ih X (by simpa using hl) j (by simpa using hj)
        rw [show (j + 1) * 4 = j * 4 + 1 + 1 + 1 + 1 by omega]
        exact h1

structure LogAt (w : World) (B : Nat) (v : Value) (L : Srv.Log) (X : List Value) : Prop where
  len : L.length = X.length
  own : w.ownsRow B 242 4 v L.length (flatL L X)
  its : ∀ j u, X[j]? = some u → ItemsAt w u (lgE L j).2.2.2
theorem LogAt.lg {w : World} {B : Nat} {v : Value} {L : Srv.Log} {X : List Value} (h : LogAt w B v L X) : LgAt w v L X := by
  have h0 := h.own
  rcases h.own.2 with ⟨rfl, hn⟩ | ⟨g, cap, cur, rfl, _, hb, hnc, hcm, _⟩
  · have hz : L = [] := List.eq_nil_of_length_eq_zero hn
    subst hz
    exact ⟨none, 0, rfl, Nat.le_refl _, by decide, fun j hj => by simp at hj⟩
  · refine ⟨some ⟨g, 0, none⟩, cap, rfl, hnc, by unfold maxLen at hcm; omega, fun j hj => ?_⟩
    obtain ⟨f1, f2, f3, f4⟩ := flatL_get L X h.len j hj
    have hjv : j < X.length := by rw [← h.len]; exact hj
    have hx : X.getD j (.slice none 0 0) = X[j] := by rw [List.getD_eq_getElem?_getD, List.getElem?_eq_getElem hjv]; rfl
    rw [List.getElem?_eq_getElem hjv] at f4
    refine ⟨g, 0, rfl, (h0.lt g rfl).2, ⟨?_, ?_, ?_, ?_⟩, ?_⟩
    · rw [Nat.zero_add]; exact (h0.cellAt (j * 4) (by omega)).trans f1
    · rw [Nat.zero_add]; exact (h0.cellAt (j * 4 + 1) (by omega)).trans f2
    · rw [Nat.zero_add]; exact (h0.cellAt (j * 4 + 2) (by omega)).trans f3
    · rw [Nat.zero_add, hx]; exact (h0.cellAt (j * 4 + 3) (by omega)).trans f4
    · rw [hx]; exact h.its j _ (List.getElem?_eq_getElem hjv)
theorem LogAt.keep {w w' : World} {B : Nat} {v : Value} {L : Srv.Log} {X : List Value} (h : LogAt w B v L X) (hs : w.heap.size ≤ w'.heap.size) (h1 : ∀ x, v.ownBlock = some x → w'.heap[x]? = w.heap[x]?)
    (h2 : ∀ u ∈ X, ∀ x, u.ownBlock = some x → w'.heap[x]? = w.heap[x]?) : LogAt w' B v L X :=
  ⟨h.len, ownsRow_keep h.own h1, fun j u hu => (h.its j u hu).keep hs (h2 u (List.mem_of_getElem? hu))⟩

/-- Its blocks: its own, the row of what was taken, and those that are never written again. -/
def VStat (s : RV) (X : List Value) (x : Nat) : Prop := s.set.ownBlock = some x ∨ s.sum.ownBlock = some x ∨ ∃ u ∈ X, u.ownBlock = some x
def VFoot (b : Nat) (s : RV) (X : List Value) (x : Nat) : Prop := (x = b ∨ s.lv.ownBlock = some x) ∨ VStat s X x

structure RVW (w : World) (pw b : Nat) (C : Srv.Cf) (q : Srv.Sv) (s : RV) (L : Srv.Log) (X : List Value) : Prop where
  at_ : RVAt w b C s
  tm : s.tm = q.tm
  st : s.st = q.out.1
  ro : s.ro = q.out.2.1
  set : ListAt w s.set q.out.2.2.1
  sum : ListAt w s.sum q.out.2.2.2
  log : LogAt w (pw + 1) s.lv L X
  lok : Srv.LOk C q L
  low : ∀ e ∈ L, 0 ≤ e.1
  tmb : 0 ≤ q.tm ∧ q.tm ≤ 200
  sok : q.out.1 = 0 → Srv.SOk C q
  foot : ∀ x, VFoot b s X x → pw < x ∧ x < w.heap.size
  apart : ∀ x, VStat s X x → x ≠ b ∧ s.lv.ownBlock ≠ some x
  apartb : s.lv.ownBlock ≠ some b
theorem RVW.keep {w w' : World} {pw b : Nat} {C : Srv.Cf} {q : Srv.Sv} {s : RV} {L : Srv.Log} {X : List Value} (h : RVW w pw b C q s L X) (hs : w.heap.size ≤ w'.heap.size) (hb : ∀ x, VFoot b s X x → w'.heap[x]? = w.heap[x]?) : RVW w' pw b C q s L X :=
  { h with
    at_ := h.at_.block (hb b (.inl (.inl rfl)))
    set := h.set.keep hs (fun x hx => hb x (.inr (.inl hx)))
    sum := h.sum.keep hs (fun x hx => hb x (.inr (.inr (.inl hx))))
    log := h.log.keep hs (fun x hx => hb x (.inl (.inr hx))) (fun u hu x hx => hb x (.inr (.inr (.inr ⟨u, hu, hx⟩))))
    foot := fun x hx => ⟨(h.foot x hx).1, Nat.lt_of_lt_of_le (h.foot x hx).2 hs⟩ }
theorem RVW.below {w w' : World} {pw b : Nat} {C : Srv.Cf} {q : Srv.Sv} {s : RV} {L : Srv.Log} {X : List Value} (h : RVW w pw b C q s L X) (hb : Below w.heap.size w w') : RVW w' pw b C q s L X :=
  h.keep hb.size (fun x hx => hb.block x (h.foot x hx).2)

/-- What a call leaves behind. -/
structure VTook (w w' : World) (pw b : Nat) (C : Srv.Cf) (q' : Srv.Sv) (s s' : RV) (L L' : Srv.Log) (X X' : List Value) : Prop where
  srv : RVW w' pw b C q' s' L' X'
  chg : Chg (fun x => x = b ∨ s.lv.ownBlock = some x) w w'
  foot : ∀ x, VFoot b s' X' x → VFoot b s X x ∨ w.heap.size ≤ x
  more : L'.length ≤ L.length + 1
theorem vtook_same {w w' : World} {pw b : Nat} {C : Srv.Cf} {q : Srv.Sv} {s : RV} {L : Srv.Log} {X : List Value} (h : RVW w pw b C q s L X) (hb : Below w.heap.size w w') : VTook w w' pw b C q s s L L X X :=
  ⟨h.below hb, Chg.of_below hb, fun _ hx => .inl hx, by omega⟩

/-- A tick, in its own block alone: the time, and perhaps the outcome with new lists. -/
theorem vtook_tick {w w' : World} {pw b : Nat} {C : Srv.Cf} (hc : Srv.GoodC C) {q : Srv.Sv} {s s' : RV} {L : Srv.Log} {X : List Value} (h : RVW w pw b C q s L X) (hp : Srv.pend q = true) (hchg : Chg (fun x => x = b) w w') (hat : RVAt w' b C s') (e1 : s'.tm = q.tm + 1) (e2 : s'.lv = s.lv)
    (e3 : s'.st = (Srv.tickS C q).out.1) (e4 : s'.ro = (Srv.tickS C q).out.2.1) (h1 : ListAt w' s'.set (Srv.tickS C q).out.2.2.1) (h2 : ListAt w' s'.sum (Srv.tickS C q).out.2.2.2) (hn : ∀ x, s'.set.ownBlock = some x ∨ s'.sum.ownBlock = some x → (VStat s X x ∨ w.heap.size ≤ x) ∧ x < w'.heap.size) :
    VTook w w' pw b C (Srv.tickS C q) s s' L L X X := by
  have z := hchg.size
  have hs := h.sok (Srv.pend_iff.1 hp)
  have hb := Srv.now_bd hc hs.rd hs.now
  have hbf := h.foot b (.inl (.inl rfl))
  have st : ∀ x, VStat s' X x → (VStat s X x ∨ w.heap.size ≤ x) ∧ x < w'.heap.size := by
    intro x hx
    rcases hx with hx | hx | hx
    · exact hn x (.inl hx)
    · exact hn x (.inr hx)
    · exact ⟨.inl (.inr (.inr hx)), by have := (h.foot x (.inr (.inr (.inr hx)))).2; omega⟩
  refine ⟨⟨hat, by rw [e1, Srv.tick_tm C q hp], e3, e4, h1, h2, ?_, h.lok.tick hp, h.low, by rw [Srv.tick_tm C q hp]; omega, fun hp' => hs.tick hc hp', ?_, ?_, by rw [e2]; exact h.apartb⟩, hchg.mono (fun x e _ => .inl e), ?_, by omega⟩
  · rw [e2]
    exact h.log.keep z (fun x hx => hchg.block x (h.foot x (.inl (.inr hx))).2 (fun e => h.apartb (e ▸ hx))) (fun u hu x hx => hchg.block x (h.foot x (.inr (.inr (.inr ⟨u, hu, hx⟩)))).2 (h.apart x (.inr (.inr ⟨u, hu, hx⟩))).1)
  · intro x hx
    rcases hx with (hx | hx) | hx
    · subst hx; exact ⟨hbf.1, by omega⟩
    · rw [e2] at hx; have := h.foot x (.inl (.inr hx)); omega
    · obtain ⟨k1, k2⟩ := st x hx
      refine ⟨?_, k2⟩
      rcases k1 with k1 | k1
      · exact (h.foot x (.inr k1)).1
      · omega
  · intro x hx
    obtain ⟨k1, k2⟩ := st x hx
    rw [e2]
    rcases k1 with k1 | k1
    · exact h.apart x k1
    · exact ⟨by omega, fun e => by have := (h.foot x (.inl (.inr e))).2; omega⟩
  · intro x hx
    rcases hx with (hx | hx) | hx
    · exact .inl (.inl (.inl hx))
    · rw [e2] at hx; exact .inl (.inl (.inr hx))
    · rcases (st x hx).1 with k1 | k1
      · exact .inl (.inr k1)
      · exact .inr k1

def VTicked (w w' : World) (pw b : Nat) (C : Srv.Cf) (q : Srv.Sv) (s : RV) (L : Srv.Log) (X : List Value) (v : Value) : Prop :=
  ∃ s' vs, VTook w w' pw b C (Srv.tickS C q) s s' L L X X ∧ Packs w' w.heap.size v vs (tickK C q) ∧ ∀ x, PkFoot v vs x → ¬ VFoot b s' X x
theorem pkfoot_nil : ∀ x, ¬ PkFoot (.slice none 0 0) [] x := fun x hx => by
  rcases hx with hx | ⟨y, hy, _⟩
  · cases hx
  · cases hy
theorem pkR_all (C : Srv.Cf) (q : Srv.Sv) (h : (Srv.pend q && (Srv.due C q && (!Srv.few C q && decide (q.rd ≠ 3)))) = true) : pkR q.G q.rd (Srv.lst (Srv.mem (q.G q.rd))).length = tickK C q := by
  unfold pkR tickK Srv.tickP
  rw [if_pos h, List.take_length, List.map_map]; rfl

set_option maxHeartbeats 4000000 in
set_option maxRecDepth 100000 in
theorem rTick_calls (pw b : Nat) (C : Srv.Cf) (hc : Srv.GoodC C) (q : Srv.Sv) (s : RV) (L : Srv.Log) (X : List Value) (w : World) (h : RVW w pw b C q s L X) :
    Calls Tryz.prog 116 #[.pointer (some ⟨b, 0, none⟩)] w fun e w' => ∃ v, e = .returned v ∧ VTicked w w' pw b C q s L X v := by
  have hbl := h.at_.lt
  have HW := hideG h
  have c6 := h.at_.cell 6
  change w.cell? _ = some (.int .i64 s.st) at c6
  rw [h.st] at c6
  by_cases hp : q.out.1 = 0
  rotate_left
  · have e0 : Srv.pend q = false := by unfold Srv.pend; exact decide_eq_false hp
    have e1 : Srv.tickS C q = q := by unfold Srv.tickS; rw [if_neg (by rw [e0]; exact Bool.false_ne_true)]
    have hq : (q.out.1 != 0) = true := by simpa using hp
    have FIN := hideG (show VTicked w w pw b C q s L X (.slice none 0 0) from ⟨s, [], by rw [e1]; exact vtook_same h (Below.refl _ _), by rw [tickK_none (by rw [e0]; rfl)]; exact packs_nil _ _, fun x hx => absurd hx (pkfoot_nil x)⟩)
    clear h hp e0 e1
    generalize q.out.1 = st at *
    go_enter Tryz.func116, Tryz.ntmps116
    go_wp2_with fail
    go_ret
    exact ⟨_, rfl, FIN.out⟩
  have hpe : Srv.pend q = true := Srv.pend_iff.2 hp
  have hs := h.sok hp
  have HSO := hideG hs
  have HPE := hideG hpe
  have HGC := hideG hc
  have hd := hc.d
  have c4 := h.at_.cell 4
  change w.cell? _ = some (.int .i64 s.tm) at c4
  have f4 := h.at_.froz 4
  have tb := h.tmb
  rw [h.tm] at c4
  obtain ⟨W1, hW1⟩ : ∃ W1, W1 = w.setCell ⟨b, 4, none⟩ (.int .i64 (q.tm + 1)) := ⟨_, rfl⟩
  have AT1 := hideG (show RVAt W1 b C { s with tm := q.tm + 1 } by rw [hW1]; exact h.at_.setTm _)
  have hc1 : Chg (fun x => x = b) w W1 := by rw [hW1]; exact Chg.setCell w ⟨b, 4, none⟩ _
  have C1 := hideG hc1
  have z1 := hc1.size
  have hbl1 : b < W1.heap.size := by omega
  have LG1 := hideG (h.log.keep z1 (fun x hx => hc1.block x (h.foot x (.inl (.inr hx))).2 (fun e => h.apartb (e ▸ hx))) (fun u hu x hx => hc1.block x (h.foot x (.inr (.inr (.inr ⟨u, hu, hx⟩)))).2 (h.apart x (.inr (.inr ⟨u, hu, hx⟩))).1))
  have HEI := hideG (fun (W : World) (hb : Below W1.heap.size W1 W) => (show EndsIn b C { s with tm := q.tm + 1 } L X W from
    ⟨AT1.out.below hb, (LG1.out.keep hb.size (fun x hx => hb.block x (by have := (h.foot x (.inl (.inr hx))).2; omega)) (fun u hu x hx => hb.block x (by have := (h.foot x (.inr (.inr (.inr ⟨u, hu, hx⟩)))).2; omega))).lg, h.lok.ok, fun e he => ⟨h.low e he, by have := h.lok.at_ e he; omega⟩⟩))
  have HTB := hideG (h.lok.tab)
  have HDO := hideG (fun r => Srv.due_only hc hs.now r)
  have HCH := hideG (fun (W : World) (hb : Below W1.heap.size W1 W) => (show Chg (fun x => x = b) w W from C1.out.grow hb))
  have hout := h.set
  have HST := hideG h.st
  have HRO := hideG h.ro
  have HSE := hideG (fun (W : World) (hch : Chg (fun x => x = b) w W) => (show ListAt W s.set q.out.2.2.1 from h.set.keep hch.size (fun x hx => hch.block x (h.foot x (.inr (.inl hx))).2 (h.apart x (.inl hx)).1)))
  have HSU := hideG (fun (W : World) (hch : Chg (fun x => x = b) w W) => (show ListAt W s.sum q.out.2.2.2 from h.sum.keep hch.size (fun x hx => hch.block x (h.foot x (.inr (.inr (.inl hx)))).2 (h.apart x (.inr (.inl hx))).1)))
  have HFT := hideG (fun x (hx : VFoot b s X x) => (h.foot x hx).2)
  have rd4 := hs.rd
  have hq : (q.out.1 != 0) = false := by simpa using hp
  have HIP := hideG hp
  have HW1 := hideG hW1
  rw [hp] at c6
  clear h hs hc hW1 hc1 hp hout hpe hq
  obtain ⟨tm, htm⟩ : ∃ tm, tm = q.tm := ⟨_, rfl⟩
  rw [← htm] at c4 HW1 tb HDO AT1 HEI
  have HTM := hideG htm
  clear htm
  obtain ⟨tb1, tb2⟩ := tb
  go_enter Tryz.func116, Tryz.ntmps116
  go_upto_region 4 with fail
  rw [← HW1.out]
  clear c4 c6 f4
  go_wp2_with fail
  go_loopw [3] (fun i wr => ∃ k : Nat, k ≤ 4 ∧ i = .int .i64 (k : Int) ∧ (∀ j, j < k → ¬ (tm + 1 = C.D * ((j : Int) + 1))) ∧ Below W1.heap.size W1 wr) (fun i _ => 4 - (intOf i).toNat)
  case atStart => exact ⟨0, by omega, rfl, fun j hj => absurd hj (Nat.not_lt_zero j), Below.refl _ _⟩
  case round =>
    obtain ⟨k, hk, rfl, hno, hbel⟩ := hrel
    have HNO := hideG hno
    have HB := hideG hbel
    have hsz := hbel.size
    have ATr := hideG (AT1.out.below hbel)
    clear hno hbel
    by_cases hlt : k < 4
    · have hlt' : (k : Int) < 4 := by omega
      have c3 := ATr.out.cell 3
      have c4 := ATr.out.cell 4
      change wr.cell? _ = some (.int .i64 C.D) at c3
      change wr.cell? _ = some (.int .i64 (tm + 1)) at c4
      have hblr : b < wr.heap.size := by omega
      have m1 : 0 ≤ C.D * ((k : Int) + 1) := Int.mul_nonneg (by omega) (by omega)
      have m2 : C.D * ((k : Int) + 1) ≤ 50 * 4 := Int.mul_le_mul (by omega) (by omega) (by omega) (by omega)
      have hwr : IntKind.i64.wrap (C.D * ((k : Int) + 1)) = C.D * ((k : Int) + 1) := by rw [IntWalk.i64_left, IntWalk.wrap64_in _ (by omega)]
      have DO := hideG (HDO.out k)
      obtain ⟨Y, hY⟩ : ∃ Y, Y = C.D * ((k : Int) + 1) := ⟨_, rfl⟩
      have HY := hideG hY
      have NOK := hideG (fun (hy : ¬ tm + 1 = Y) j (hj : j < k + 1) => (show ¬ (tm + 1 = C.D * ((j : Int) + 1)) from fun e => by
        by_cases ej : j < k
        · exact HNO.out j ej e
        · have : j = k := by omega
          subst this
          exact hy (by rw [HY.out]; exact e)))
      rw [← hY] at DO
      clear m1 m2 hY
      by_cases hy : tm + 1 = Y
      · have hy' : (tm + 1 == C.D * ((k : Int) + 1)) = true := by rw [← HY.out]; simpa using hy
        have DD := hideG (DO.out.1 hy)
        have Bd := hideG (HB.out.drew)
        have EI := hideG (HEI.out wr.drew HB.out.drew)
        have CHd := hideG (HCH.out wr.drew HB.out.drew)
        have hkr := DD.out.1
        have hdue := DD.out.2
        have HDU := hideG hdue
        have GT := hideG (show Srv.GoodT C (Srv.tab C L) by rw [HTB.out]; exact HSO.out.good)
        have GZ := hideG (show ∀ r, Srv.tab C L r 0 = none from fun r => Srv.mem_off (GT.out.zero r))
        have TS := hideG (show Srv.tickS C q = if Srv.few C q = true then { q with tm := q.tm + 1, out := (2, (q.rd : Int), [], []) } else if q.rd = 3 then { q with tm := q.tm + 1, out := (1, 0, Srv.setL q.G, Srv.sumL C q.G) } else { q with tm := q.tm + 1, rd := q.rd + 1 } by
          unfold Srv.tickS; rw [if_pos HPE.out, if_pos hdue])
        have FWE := hideG (show Srv.few C q = decide ((Srv.sizeR (Srv.tab C L k) : Int) < C.T) by unfold Srv.few; rw [HTB.out, hkr])
        have HKR := hideG hkr
        clear hdue hkr hy DO NOK
        by_cases fw : (Srv.sizeR (Srv.tab C L k) : Int) < C.T
        · have EN := hideG (rends_few b C HGC.out _ L X wr.drew EI.out k hlt GZ.out fw)
          have FW := hideG (show Srv.few C q = true by rw [FWE.out]; exact decide_eq_true fw)
          clear fw
          go_wp2_with fail
          go_region
          go_wp2_with fail
          refine EN.out.mono ?_
          rintro e w5 ⟨rfl, hat5, hch5⟩
          have z5 := hch5.size
          have FIN := hideG (show VTicked w w5 pw b C q s L X (.slice none 0 0) from by
            refine ⟨_, [], vtook_tick HGC.out HW.out HPE.out (CHd.out.also hch5) hat5 (by rw [HTM.out]) rfl ?_ ?_ ?_ ?_ (fun x hx => by rcases hx with hx | hx <;> cases hx), ?_, fun x hx => absurd hx (pkfoot_nil x)⟩
            · rw [TS.out, if_pos FW.out]
            · rw [TS.out, if_pos FW.out, HKR.out]
            · rw [TS.out, if_pos FW.out]; exact list_nil _
            · rw [TS.out, if_pos FW.out]; exact list_nil _
            · rw [tickK_none (by rw [FW.out]; simp)]; exact packs_nil _ _)
          clear hat5 hch5
          go_wp2_with fail
          go_ret
          exact ⟨_, rfl, FIN.out⟩
        · have FW := hideG (show Srv.few C q = false by rw [FWE.out]; exact decide_eq_false fw)
          have FWN := hideG (show ¬ Srv.few C q = true by rw [FW.out]; exact Bool.false_ne_true)
          by_cases k3 : k = 3
          · have EN := hideG (show Calls Tryz.prog 181 #[.pointer (some ⟨b, 0, none⟩), .int .i64 (k : Int)] wr.drew _ from by
              have := rends_done b C HGC.out _ L X wr.drew EI.out GT.out (by rw [← k3]; omega)
              rw [show ((k : Nat) : Int) = 3 by omega]
              exact this)
            have R3 := hideG (show q.rd = 3 by rw [← HKR.out]; exact k3)
            clear fw k3
            go_wp2_with fail
            go_region
            go_wp2_with fail
            refine EN.out.mono ?_
            rintro e w5 ⟨rfl, va, vb, hat5, hla, hlb, hlo, hch5⟩
            have z5 := hch5.size
            have FIN := hideG (show VTicked w w5 pw b C q s L X (.slice none 0 0) from by
              have zz := CHd.out.size
              rw [HTB.out] at hla hlb
              refine ⟨_, [], vtook_tick HGC.out HW.out HPE.out (CHd.out.also hch5) hat5 (by rw [HTM.out]) rfl ?_ ?_ ?_ ?_ (fun x hx => by have := hlo x hx; exact ⟨.inr (by omega), by omega⟩), ?_, fun x hx => absurd hx (pkfoot_nil x)⟩
              · rw [TS.out, if_neg FWN.out, if_pos R3.out]
              · rw [TS.out, if_neg FWN.out, if_pos R3.out]
              · rw [TS.out, if_neg FWN.out, if_pos R3.out]; exact hla
              · rw [TS.out, if_neg FWN.out, if_pos R3.out]; exact hlb
              · rw [tickK_none (by rw [R3.out]; simp)]; exact packs_nil _ _)
            clear hat5 hch5 hla hlb hlo
            go_wp2_with fail
            go_ret
            exact ⟨_, rfl, FIN.out⟩
          · have EN := hideG (rends_more b C HGC.out _ L X wr.drew EI.out GT.out k (by omega) (by omega))
            have R3 := hideG (show ¬ q.rd = 3 by rw [← HKR.out]; exact k3)
            clear fw k3
            go_wp2_with fail
            go_region
            go_wp2_with fail
            refine EN.out.mono ?_
            rintro e w5 ⟨v, vs, rfl, hpk, hb5⟩
            have z5 := hb5.size
            have zz := CHd.out.size
            have FIN := hideG (show VTicked w w5 pw b C q s L X v from by
              have hch5 := CHd.out.grow hb5
              rw [HTB.out, HKR.out, pkR_all C q (by rw [HPE.out, HDU.out, FW.out]; simp; exact R3.out)] at hpk
              refine ⟨_, vs, vtook_tick HGC.out HW.out HPE.out hch5 (EI.out.at_.below hb5) (by rw [HTM.out]) rfl ?_ ?_ ?_ ?_ (fun x hx => ?_), hpk.base zz, fun x hx hf => ?_⟩
              · rw [TS.out, if_neg FWN.out, if_neg R3.out]; exact HST.out
              · rw [TS.out, if_neg FWN.out, if_neg R3.out]; exact HRO.out
              · rw [TS.out, if_neg FWN.out, if_neg R3.out]; exact HSE.out w5 hch5
              · rw [TS.out, if_neg FWN.out, if_neg R3.out]; exact HSU.out w5 hch5
              · have hst : VStat s X x := by rcases hx with hx | hx; exact .inl hx; exact .inr (.inl hx)
                exact ⟨.inl hst, by have := HFT.out x (.inr hst); omega⟩
              · have h1 := (hpk.low x hx).1
                have h2 : x < w.heap.size := HFT.out x hf
                omega)
            obtain ⟨av, cv, hvv⟩ := owns_form hpk.row
            rw [hvv] at FIN ⊢
            clear hpk hb5 hvv
            go_wp2_with fail
            go_ret
            exact ⟨_, rfl, FIN.out⟩
      · have hy' : (tm + 1 == C.D * ((k : Int) + 1)) = false := by rw [← HY.out]; simpa using hy
        have NK := hideG (NOK.out hy)
        clear hy DO NOK
        have Bd := hideG (HB.out.drew)
        go_wp2_with fail
        go_region
        go_wp2_with fail
        go_roundw
        case rel => exact ⟨k + 1, by omega, by go_num, NK.out, Bd.out⟩
        case measure => simp [intOf]; omega
    · have ek : k = 4 := by omega
      subst ek
      have ND := hideG (show Srv.due C q = false from by
        cases e : Srv.due C q
        · rfl
        · exact absurd ((HDO.out q.rd).2 ⟨rfl, e⟩) (HNO.out q.rd rd4))
      have FIN := hideG (show VTicked w wr pw b C q s L X (.slice none 0 0) from by
        have hch := HCH.out wr HB.out
        have TS : Srv.tickS C q = { q with tm := q.tm + 1 } := by unfold Srv.tickS; rw [if_pos HPE.out, if_neg (by rw [ND.out]; exact Bool.false_ne_true)]
        refine ⟨_, [], vtook_tick HGC.out HW.out HPE.out hch ATr.out (by rw [HTM.out]) rfl ?_ ?_ ?_ ?_ (fun x hx => ?_), ?_, fun x hx => absurd hx (pkfoot_nil x)⟩
        · rw [TS]; exact HST.out
        · rw [TS]; exact HRO.out
        · rw [TS]; exact HSE.out wr hch
        · rw [TS]; exact HSU.out wr hch
        · have hst : VStat s X x := by rcases hx with hx | hx; exact .inl hx; exact .inr (.inl hx)
          exact ⟨.inl hst, by have := HFT.out x (.inr hst); have := hch.size; omega⟩
        · rw [tickK_none (by rw [ND.out]; simp)]; exact packs_nil _ _)
      go_wp2_with fail
      go_ret
      exact ⟨_, rfl, FIN.out⟩

end Go.Proofs.YtchideljndagjabGreat
