/- Lists of items that are handed in: giveItems and stillItems; two lists of items compared. -/
import Derived.Test.YtchideljndagjaaGreatGiveInts
import Derived.Test.YtchideljndagjaaGreatFrameG
import Derived.Test.YtchideljndagjaaGreatMemAll
namespace Go.Proofs.YtchideljndagjaaGreat
open Go.RowKit
set_option linter.unusedVariables false

/-! ### copy, elements of four cells -/
theorem run_copy_none4 {P : Program} (w : World) (dT sT ty elem : TypeId) (d a : Option Addr) (dLen dCap sLen sCap : Nat) (hu : P.underlying dT = some (.slice elem)) (hs : (P.info? elem).map (·.size) = some 4) (hn : Nat.min sLen dLen = 0) :
    (Builtin.copy_ #[dT, sT] ty #[.slice d dLen dCap, .slice a sLen sCap]).run P w = .ok (goInt 0) w := by
  cases hq : P.info? elem with
  | none => simp [hq] at hs
  | some i =>
    have hl : ∀ (x : Addr), (loadCells x 0).run P w = .ok #[] w := fun x => by simpa using run_loadCells_list (P := P) w x [] (by simp)
    cases d <;> cases a <;> simp [Builtin.copy_, run_underlying hu, Builtin.lenOf, Builtin.firstCells, sizeOf, typeInfo, hq, hn, storeCells, hl]

theorem run_copy_row4 {P : Program} (w : World) (dT sT ty elem : TypeId) (g o dLen dCap : Nat) (a : Addr) (sLen sCap : Nat) (cur : Array Value) (t : TypeId) (cs : List Value)
    (hu : P.underlying dT = some (.slice elem)) (hs : (P.info? elem).map (·.size) = some 4)
    (hg : w.heap[g]? = some (.cells cur t (0, 0))) (hn : cs.length = Nat.min sLen dLen * 4)
    (hsrc : ∀ j v, cs[j]? = some v → w.cell? (a.add j) = some v) (hfit : o + cs.length ≤ cur.size) (h1 : ∀ v ∈ cs, v.oneCell' = true) :
    (Builtin.copy_ #[dT, sT] ty #[.slice (some ⟨g, o, none⟩) dLen dCap, .slice (some a) sLen sCap]).run P w =
      .ok (goInt (Nat.min sLen dLen)) (w.setRow g (cur.toList.take o ++ cs ++ cur.toList.drop (o + cs.length)).toArray) := by
  have hl := run_loadCells_list (P := P) w a cs hsrc
  have hst := run_storeCells_at P g o t cs 0 cur w hg (by simpa using hfit) h1
  cases hq : P.info? elem with
  | none => simp [hq] at hs
  | some i =>
    have hi : i.size = 4 := by simpa [hq] using hs
    simp [Builtin.copy_, run_underlying hu, Builtin.lenOf, Builtin.firstCells, sizeOf, typeInfo, hq, hi, ← hn, hl, hst]

theorem wpList_copy_splice4 {P : Program} {w : World} {ops : Array Oper} {rest : List Oper} {o : Oper} {a : Act} {Q : Exit → Act → World → Prop} (hgd : o.guard = none) (d s : Operand) (dT sT : TypeId)
    (ho : o.op = .call { callee := .builtin .copy, args := #[d, s], argTypes := #[dT, sT] }) (elem : TypeId) (hu : P.underlying dT = some (.slice elem)) (hsz : (P.info? elem).map (·.size) = some 4)
    (dp sp : Option Addr) (dLen dCap sLen sCap : Nat) (hd : a.eval d = .slice dp dLen dCap) (hs : a.eval s = .slice sp sLen sCap)
    (g off : Nat) (cur : List Value) (t : TypeId) (hg : w.heap[g]? = some (.cells cur.toArray t (0, 0))) (cs : List Value) (hn : cs.length = Nat.min sLen dLen * 4)
    (hpos : 0 < cs.length → dp = some ⟨g, off, none⟩ ∧ ∃ ad, sp = some ad ∧ ∀ j v, cs[j]? = some v → w.cell? (ad.add j) = some v)
    (hfit : off + cs.length ≤ cur.length) (h1 : ∀ v ∈ cs, v.oneCell' = true) (B : Nat) (w0 : World) (hb : Below B w0 w) (hBg : B ≤ g)
    (h : ∀ w', Hid (w'.heap[g]? = some (.cells (splice cur off cs).toArray t (0, 0))) → Below B w0 w' → wpList P ops Q rest (a.put o.dst (goInt (Nat.min sLen dLen))) w') :
    wpList P ops Q (o :: rest) a w := by
  by_cases h0 : cs.length = 0
  · obtain rfl : cs = [] := List.eq_nil_of_length_eq_zero h0
    have hm : Nat.min sLen dLen = 0 := by simp at hn; omega
    refine wpList_plain hgd fun K hK => ?_
    have hrun := run_copy_none4 (P := P) w dT sT o.type elem dp sp dLen dCap sLen sCap hu hsz hm
    unfold Oper.wp
    simp [execOp, ho, resolve, invoke, builtin, hd, hs, hrun, Result.andThen]
    refine hK _ _ ?_
    have := h w (show _ = _ by simpa [splice] using hg) hb
    rw [hm] at this
    exact this
  · obtain ⟨rfl, ad, rfl, hsrc⟩ := hpos (by omega)
    refine wpList_plain hgd fun K hK => ?_
    have hrun := run_copy_row4 (P := P) w dT sT o.type elem g off dLen dCap ad sLen sCap cur.toArray t cs hu hsz hg hn hsrc (by simpa using hfit) h1
    unfold Oper.wp
    simp only [execOp, ho, resolve, invoke, builtin]
    simp [hd, hs, hrun, Result.andThen]
    refine hK _ _ (h _ ?_ (below_setRow hb hBg _))
    show _ = _
    rw [setRow_heap w g _ _ t _ hg]
    simp [splice]

theorem sizeGt : (Tryz.prog.info? 142).map (·.size) = some 4 := by kernel_rfl

abbrev z4 : Frm.It := (0, 0, 0, 0)
abbrev m4 : Frm.It := (77, 77, 77, 77)

/-- The items, and behind them k marks and what is left of three noughts. -/
def igiven (ps : List Frm.It) (k : Nat) : List Frm.It := ps ++ (List.replicate k m4 ++ List.replicate (3 - k) z4)

theorem igiven_length (ps : List Frm.It) (k : Nat) (hk : k ≤ 3) : (igiven ps k).length = ps.length + 3 := by simp [igiven]; omega

theorem igiven_set (ps : List Frm.It) (k : Nat) (hk : k < 3) : (igiven ps k).set (ps.length + k) m4 = igiven ps (k + 1) := by
  unfold igiven
  rw [List.set_append_right _ _ (by omega)]
  simp only [Nat.add_sub_cancel_left]
  rcases (show k = 0 ∨ k = 1 ∨ k = 2 by omega) with rfl | rfl | rfl <;> rfl

theorem flat4_set (l : List Frm.It) (i : Nat) (x y z u : Int) : ((((flat4 l).set (i * 4) (.int .i64 x)).set (i * 4 + 1) (.int .i64 y)).set (i * 4 + 2) (.int .i64 z)).set (i * 4 + 3) (.int .i64 u) = flat4 (l.set i (x, y, z, u)) := by
  induction l generalizing i with
  | nil => rfl
  | cons p l ih =>
    cases i with
    | zero => rfl
    | succ i =>
      rw [show (i + 1) * 4 = i * 4 + 1 + 1 + 1 + 1 by omega]
      show Value.int .i64 p.1 :: Value.int .i64 p.2.1 :: Value.int .i64 p.2.2.1 :: Value.int .i64 p.2.2.2 :: ((((flat4 l).set (i * 4) (.int .i64 x)).set (i * 4 + 1) (.int .i64 y)).set (i * 4 + 2) (.int .i64 z)).set (i * 4 + 3) (.int .i64 u) = Value.int .i64 p.1 :: Value.int .i64 p.2.1 :: Value.int .i64 p.2.2.1 :: Value.int .i64 p.2.2.2 :: flat4 (l.set i (x, y, z, u))
      rw [ih]

theorem flat4_zero (n : Nat) : (madeCells #[Value.int .i64 0, .int .i64 0, .int .i64 0, .int .i64 0] (n * 4)).toList = flat4 (List.replicate n z4) := by
  have key : ∀ n, flat4 (List.replicate n z4) = List.replicate (n * 4) (Value.int .i64 0) := by
    intro n
    induction n with
    | zero => rfl
    | succ n ih =>
      rw [List.replicate_succ, show (n + 1) * 4 = n * 4 + 1 + 1 + 1 + 1 by omega, List.replicate_succ, List.replicate_succ, List.replicate_succ, List.replicate_succ, ← ih]
      rfl
  rw [key]
  apply List.ext_getElem?
  intro i
  by_cases hi : i < n * 4
  · rw [List.getElem?_replicate, if_pos hi]
    unfold madeCells
    simp [hi]
    rcases (show i % 4 = 0 ∨ i % 4 = 1 ∨ i % 4 = 2 ∨ i % 4 = 3 by omega) with e | e | e | e <;> simp [e]
  · rw [List.getElem?_eq_none (by simp [madeCells]; omega), List.getElem?_eq_none (by simp; omega)]

theorem row_of_full4 {w : World} {B g n : Nat} {e : TypeId} {xs : List Value} (h : w.ownsRow B e 4 (.slice (some ⟨g, 0, none⟩) n n) n xs) : w.heap[g]? = some (.cells xs.toArray e (0, 0)) := by
  have hl := h.1
  rcases h.2 with ⟨e0, _⟩ | ⟨g', cap, cur, e0, _, hg, _, _, hcs, htake⟩
  · cases e0
  · cases e0
    rw [hg]
    congr 2
    have : cur.toList.take (n * 4) = cur.toList := List.take_of_length_le (by simp; omega)
    rw [this] at htake
    rw [← htake]

theorem gflat4_one (l : List Frm.It) : ∀ v ∈ flat4 l, v.oneCell' = true := by
  induction l with
  | nil => intro v hv; cases hv
  | cons p l ih =>
    intro v hv
    simp only [flat4, List.mem_cons] at hv
    rcases hv with rfl | rfl | rfl | rfl | hv
    · rfl
    · rfl
    · rfl
    · rfl
    · exact ih v hv

set_option maxHeartbeats 1000000 in
set_option maxRecDepth 100000 in
theorem giveItems_calls (v : Value) (ps : List Frm.It) (w : World) (h : ItemsAt w v ps) (hb : ps.length * 32 ≤ 140737488355328) :
    Calls Tryz.prog 35 #[v] w fun e w' => ∃ g, w.heap.size ≤ g ∧ e = .returned (.slice (some ⟨g, 0, none⟩) ps.length (ps.length + 3)) ∧
      w'.heap[g]? = some (.cells (flat4 (igiven ps 3)).toArray 142 (0, 0)) ∧ Below w.heap.size w w' := by
  obtain ⟨i0, hi, hz0, hz1, hz2⟩ := info_parts infoIt
  obtain ⟨a, cap, rfl, l2, l3, l4, l5⟩ := h
  unfold maxLen at l3
  have HL := hideG l5
  clear l4 l5
  obtain ⟨n, hn⟩ : ∃ n, n = ps.length := ⟨_, rfl⟩
  rw [← hn] at l2 hb ⊢
  have HN := hideG hn
  clear hn
  have en : ((n : Int) + 3).toNat = n + 3 := by omega
  go_enter Tryz.func35, Tryz.ntmps35
  go_wp2_with (at_make; refine wpList_make_full _ rfl _ _ 38 rfl w.heap.size 142 i0 (.agg #[.int .i64 0, .int .i64 0, .int .i64 0, .int .i64 0]) 4 Tryz.underlying38 hi hz0 hz1 _ _ _ _ (n + 3) rfl rfl (by omega) (by omega) ?m1 ?m2 ?m3 ?_)
  case m1 => rw [hz2]; omega
  case m2 => unfold maxLen; omega
  case m3 => exact Nat.le_refl _
  intro w2 hown2 hgrow2
  have hr := row_of_full4 hown2
  have hb2 : Below w.heap.size w w2 := (Below.refl _ _).grown hgrow2 (Nat.le_refl _) (by simp)
  rw [flat4_zero] at hr
  obtain ⟨Z, hZ⟩ : ∃ Z, Z = flat4 (List.replicate (n + 3) z4) := ⟨_, rfl⟩
  rw [← hZ] at hr
  have HZ := hideG hZ
  have hZl := hideG (show Z.length = (n + 3) * 4 by rw [hZ, flat4_length]; simp)
  have HR := hideG hr
  have HB := hideG hb2
  clear hr hb2 hown2 hgrow2 hZ
  generalize hg : w.heap.size = B at *
  have HG := hideG hg
  obtain ⟨X, hX⟩ : ∃ X, X = flat4 ps := ⟨_, rfl⟩
  have HX := hideG hX
  have hXl := hideG (show X.length = n * 4 by rw [hX, HN.out, flat4_length])
  clear hX
  go_wp2_with (refine wpList_copy_splice4 rfl _ _ 38 38 rfl 142 Tryz.underlying38 sizeGt _ _ _ _ _ _ rfl rfl B 0 _ 142 HR.out X ?c1 ?c2 ?c3 ?c4 B w HB.out (Nat.le_refl _) ?_)
  case c1 => rw [hXl.out]; simp
  case c2 =>
    intro hp
    try refine ⟨rfl, ?_⟩
    rcases HL.out with e | ⟨b, off, e1, e2, e3⟩
    · rw [HX.out, e] at hp; simp [flat4] at hp
    · refine ⟨_, e1, fun j u hj => ?_⟩
      have hjl : j < n * 4 := by rw [← hXl.out]; exact (List.getElem?_eq_some_iff.1 hj).1
      rw [← HG.out] at e2
      rw [show (⟨b, off, none⟩ : Addr).add j = ⟨b, off + j, none⟩ from by unfold Addr.add; simp]
      rw [HB.out.cell (p := ⟨b, off + j, none⟩) (by rw [← HG.out]; exact e2)]
      rw [HX.out] at hj
      have hq : j / 4 < ps.length := by rw [← HN.out]; omega
      obtain ⟨t0, t1, t2, t3⟩ := e3 (j / 4) hq
      obtain ⟨f0, f1, f2, f3⟩ := flat4_get ps (j / 4) hq
      rcases (show j = j / 4 * 4 ∨ j = j / 4 * 4 + 1 ∨ j = j / 4 * 4 + 2 ∨ j = j / 4 * 4 + 3 by omega) with ej | ej | ej | ej
      · rw [← ej] at t0 f0
        rw [t0, ← hj, f0]
      · rw [Nat.add_assoc, ← ej] at t1
        rw [← ej] at f1
        rw [t1, ← hj, f1]
      · rw [Nat.add_assoc, ← ej] at t2
        rw [← ej] at f2
        rw [t2, ← hj, f2]
      · rw [Nat.add_assoc, ← ej] at t3
        rw [← ej] at f3
        rw [t3, ← hj, f3]
  case c3 => rw [hXl.out, hZl.out]; omega
  case c4 => intro u hu; rw [HX.out] at hu; exact gflat4_one ps u hu
  intro w3 HR3 hb3
  have HB3 := hideG hb3
  clear hb3
  have es : splice Z 0 X = flat4 (igiven ps 0) := by
    unfold splice igiven
    rw [HX.out, HZ.out, HN.out]
    rw [flat4_append, List.take_zero, List.nil_append, Nat.zero_add, flat4_length, ← List.replicate_append_replicate, flat4_append, show ps.length * 4 = (flat4 (List.replicate ps.length z4)).length by rw [flat4_length]; simp, List.drop_left]
    rfl
  have hr3 := HR3.out
  rw [es] at hr3
  have HR3' := hideG hr3
  clear hr3 HR3 es
  go_wp2_with fail
  go_loopw [4] (fun i wr => ∃ j : Nat, n ≤ j ∧ j ≤ n + 3 ∧ i = .int .i64 j ∧ wr.heap[B]? = some (.cells (flat4 (igiven ps (j - n))).toArray 142 (0, 0)) ∧ Below B w wr) (fun i _ => n + 3 - (intOf i).toNat)
  case atStart => exact ⟨n, Nat.le_refl _, by omega, rfl, by rw [Nat.sub_self]; exact HR3'.out, HB3.out⟩
  case round =>
    obtain ⟨j, hj1, hj2, rfl, hr, hbel⟩ := hrel
    have HR4 := hideG hr
    have HB4 := hideG hbel
    by_cases hlt : j < n + 3
    · have hfl : (flat4 (igiven ps (j - n))).length = (n + 3) * 4 := by rw [flat4_length, igiven_length _ _ (by omega), ← HN.out]
      obtain ⟨c1, c2⟩ := row_cell hr (j * 4) (by rw [hfl]; omega)
      obtain ⟨d1, d2⟩ := row_cell hr (j * 4 + 1) (by rw [hfl]; omega)
      obtain ⟨e1, e2⟩ := row_cell hr (j * 4 + 2) (by rw [hfl]; omega)
      obtain ⟨f1, f2⟩ := row_cell hr (j * 4 + 3) (by rw [hfl]; omega)
      obtain ⟨u, hu⟩ : ∃ u, (flat4 (igiven ps (j - n)))[j * 4]? = some u := ⟨_, List.getElem?_eq_getElem (by rw [hfl]; omega)⟩
      obtain ⟨u1, hu1⟩ : ∃ u, (flat4 (igiven ps (j - n)))[j * 4 + 1]? = some u := ⟨_, List.getElem?_eq_getElem (by rw [hfl]; omega)⟩
      obtain ⟨u2, hu2⟩ : ∃ u, (flat4 (igiven ps (j - n)))[j * 4 + 2]? = some u := ⟨_, List.getElem?_eq_getElem (by rw [hfl]; omega)⟩
      obtain ⟨u3, hu3⟩ : ∃ u, (flat4 (igiven ps (j - n)))[j * 4 + 3]? = some u := ⟨_, List.getElem?_eq_getElem (by rw [hfl]; omega)⟩
      rw [hu] at c1
      rw [hu1] at d1
      rw [hu2] at e1
      rw [hu3] at f1
      clear hr hbel hu hu1 hu2 hu3 hfl
      go_wp2_with fail
      go_roundw
      case rel =>
        have R := row_set (row_set (row_set (row_set HR4.out (j * 4) (.int .i64 77)) (j * 4 + 1) (.int .i64 77)) (j * 4 + 2) (.int .i64 77)) (j * 4 + 3) (.int .i64 77)
        have e := igiven_set ps (j - n) (by omega)
        rw [← HN.out, show n + (j - n) = j by omega, show j - n + 1 = j + 1 - n by omega] at e
        rw [flat4_set, e] at R
        exact ⟨j + 1, by omega, by omega, by go_num, R, (((HB4.out.setCell (p := ⟨B, j * 4, none⟩) (Nat.le_refl _) _).setCell (p := ⟨B, j * 4 + 1, none⟩) (Nat.le_refl _) _).setCell (p := ⟨B, j * 4 + 2, none⟩) (Nat.le_refl _) _).setCell (p := ⟨B, j * 4 + 3, none⟩) (Nat.le_refl _) _⟩
      case measure => simp [intOf]; omega
    · have ej : j = n + 3 := by omega
      subst ej
      clear hr hbel
      go_wp2_with fail
      go_ret
      have R := HR4.out
      rw [Nat.add_sub_cancel_left] at R
      exact ⟨B, by rw [HG.out]; exact Nat.le_refl _, rfl, R, by rw [HG.out]; exact HB4.out⟩

theorem igiven_get (ps : List Frm.It) (k : Nat) (hk : k < ps.length + 3) : Frm.it (igiven ps 3) k = if k < ps.length then Frm.it ps k else m4 := by
  unfold igiven Frm.it
  by_cases h : k < ps.length
  · rw [if_pos h, List.getD_eq_getElem?_getD, List.getD_eq_getElem?_getD, List.getElem?_append_left h]
  · rw [if_neg h, List.getD_eq_getElem?_getD, List.getElem?_append_right (by omega), List.getElem?_append_left (by simp; omega), List.getElem?_replicate, if_pos (by omega)]; rfl

/-- An item is like itself. -/
theorem sameItem_same (x y z u : Int) (w : World) :
    Calls Tryz.prog 100 #[.agg #[.int .i64 x, .int .i64 y, .int .i64 z, .int .i64 u], .agg #[.int .i64 x, .int .i64 y, .int .i64 z, .int .i64 u]] w fun e w' => e = .returned (.bool true) ∧ Below w.heap.size w w' := by
  have e0 : (x == x) = true := by simp
  have e1 : (y == y) = true := by simp
  have e2 : (z == z) = true := by simp
  have e3 : (u == u) = true := by simp
  go_enter Tryz.func100, Tryz.ntmps100
  go_wp2_with fail
  go_ret
  exact ⟨rfl, ((Below.refl _ _).alloc (Nat.le_refl _) _).alloc (by simp) _⟩

set_option maxHeartbeats 1000000 in
set_option maxRecDepth 100000 in
theorem sameItems_same (va vb : Value) (l : List Frm.It) (w : World) (ha : ItemsAt w va l) (hb : ItemsAt w vb l) :
    Calls Tryz.prog 44 #[va, vb] w fun e w' => e = .returned (.bool true) ∧ Below w.heap.size w w' := by
  obtain ⟨a, ca, rfl, a2, a3, _, hA⟩ := items_view ha
  obtain ⟨b, cb, rfl, b2, b3, _, hB⟩ := items_view hb
  have HA := hideG hA
  have HB := hideG hB
  clear hA hB ha hb
  have el : ((l.length : Int) != (l.length : Int)) = false := by simp
  generalize hn : l.length = n at *
  clear hn
  go_enter Tryz.func44, Tryz.ntmps44
  go_wp2_with fail
  go_loopw [5] (fun i wr => ∃ k : Nat, k ≤ n ∧ i = .int .i64 k ∧ Below w.heap.size w wr) (fun i _ => n - (intOf i).toNat)
  case atStart => exact ⟨0, by omega, rfl, Below.refl _ _⟩
  case round =>
    obtain ⟨k, hk, rfl, hbel⟩ := hrel
    have BL := hideG hbel
    have hsz := hbel.size
    by_cases hlt : k < n
    · obtain ⟨g1, o1, rfl, l1, i1⟩ := HA.out k hlt
      obtain ⟨g2, o2, rfl, l2, i2⟩ := HB.out k hlt
      obtain ⟨p0, p1, p2, p3⟩ := i1.below l1 hbel
      obtain ⟨q0, q1, q2, q3⟩ := i2.below l2 hbel
      have l1' : g1 < wr.heap.size := by omega
      have l2' : g2 < wr.heap.size := by omega
      generalize (Frm.it l k).1 = z0 at *
      generalize (Frm.it l k).2.1 = z1 at *
      generalize (Frm.it l k).2.2.1 = z2 at *
      generalize (Frm.it l k).2.2.2 = z3 at *
      have hk0 : (0 : Int) ≤ (k : Int) := by omega
      have hk1 : (k : Int) < (n : Int) := by omega
      clear hbel i1 i2
      go_wp2_with fail
      refine wp_region_grow (by kernel_rfl) (by kernel_rfl) ?_
      intro I G hI hG hGc hGn
      repeat (go_big_quiet_step (first | (go_at_call 100; exact call_grow hG hGn (sameItem_same _ _ _ _ _))))
      refine wpQuiet_nil ?_
      intro w2 hw'
      obtain ⟨u, hw''⟩ := hw'
      have hw1 := hG.out u
      rw [← hw''] at hw1
      have B2 := hideG hw1
      clear hw'' hGc hGn hG u hI G I hw1
      go_wp2_with fail
      go_roundw
      case rel => exact ⟨k + 1, by omega, by go_num, BL.out.trans (B2.out.mono hsz)⟩
      case measure => simp [intOf]; omega
    · clear hbel
      go_wp2_with fail
      go_ret
      exact ⟨rfl, BL.out⟩

set_option maxHeartbeats 1000000 in
set_option maxRecDepth 100000 in
/-- A list of items that was handed in is as it was. -/
theorem stillItems_calls (v : Value) (ps : List Frm.It) (w : World) (g : Nat) (h : ItemsAt w v ps) (hb : ps.length * 32 ≤ 140737488355328) (hg : w.heap[g]? = some (.cells (flat4 (igiven ps 3)).toArray 142 (0, 0))) :
    Calls Tryz.prog 38 #[.slice (some ⟨g, 0, none⟩) ps.length (ps.length + 3), v] w fun e w' => e = .returned (.bool true) ∧ Below w.heap.size w w' := by
  have gl : g < w.heap.size := by
    by_cases h : g < w.heap.size
    · exact h
    · rw [Array.getElem?_eq_none (by omega)] at hg; cases hg
  have hcell : ∀ i, i < ps.length + 3 → ItemAt w g (i * 4) (if i < ps.length then Frm.it ps i else m4) := by
    intro i hi
    have hpl := igiven_length ps 3 (Nat.le_refl _)
    obtain ⟨f0, f1, f2, f3⟩ := flat4_get (igiven ps 3) i (by rw [hpl]; exact hi)
    rw [igiven_get ps i hi] at f0 f1 f2 f3
    exact ⟨(row_cell hg (i * 4) (by rw [flat4_length, hpl]; omega)).1.trans f0, (row_cell hg (i * 4 + 1) (by rw [flat4_length, hpl]; omega)).1.trans f1,
      (row_cell hg (i * 4 + 2) (by rw [flat4_length, hpl]; omega)).1.trans f2, (row_cell hg (i * 4 + 3) (by rw [flat4_length, hpl]; omega)).1.trans f3⟩
  obtain ⟨a, cap, rfl, l2, l3, _, hit⟩ := items_view h
  have HL := hideG hit
  have HC := hideG hcell
  clear hit hcell hg h
  obtain ⟨n, hn⟩ : ∃ n, n = ps.length := ⟨_, rfl⟩
  rw [← hn] at l2 hb HC HL ⊢
  clear hn
  have en : ((n : Int) + 3).toNat = n + 3 := by omega
  go_enter Tryz.func38, Tryz.ntmps38
  go_wp2_with fail
  go_loopw [6] (fun i wr => ∃ k : Nat, k ≤ n + 3 ∧ i = .int .i64 k ∧ Below w.heap.size w wr) (fun i _ => n + 3 - (intOf i).toNat)
  case atStart => exact ⟨0, by omega, rfl, Below.refl _ _⟩
  case round =>
    obtain ⟨k, hk, rfl, hbel⟩ := hrel
    have HB := hideG hbel
    have zs := hbel.size
    by_cases hlt : k < n + 3
    · obtain ⟨p0, p1, p2, p3⟩ := (HC.out k hlt).below gl hbel
      have gl2 : g < wr.heap.size + 1 := by omega
      have gne : g ≠ wr.heap.size := by omega
      have hk0 : (0 : Int) ≤ (k : Int) := by omega
      have hk2 : (k : Int) < (n : Int) + 3 := by omega
      have al : ∀ (ob : Obj) (b o : Nat), b < wr.heap.size → (wr.alloc ob).cell? ⟨b, o, none⟩ = wr.cell? ⟨b, o, none⟩ := fun ob b o hb => ((Below.refl wr.heap.size wr).alloc (Nat.le_refl _) ob).cell (p := ⟨b, o, none⟩) hb
      by_cases hlt2 : k < n
      · rw [if_pos hlt2] at p0 p1 p2 p3
        obtain ⟨g2, o2, rfl, l4, i2⟩ := HL.out k hlt2
        obtain ⟨q0, q1, q2, q3⟩ := i2.below l4 hbel
        have l4' : g2 < wr.heap.size := by omega
        have gne2 : g2 ≠ wr.heap.size := by omega
        generalize (Frm.it ps k).1 = z0 at *
        generalize (Frm.it ps k).2.1 = z1 at *
        generalize (Frm.it ps k).2.2.1 = z2 at *
        generalize (Frm.it ps k).2.2.2 = z3 at *
        have hk1 : (k : Int) < (n : Int) := by omega
        have A0 : ∀ ob, (wr.alloc ob).cell? ⟨g, k * 4, none⟩ = some (.int .i64 z0) := fun ob => by rw [al _ _ _ (by omega)]; exact p0
        have A1 : ∀ ob, (wr.alloc ob).cell? ⟨g, k * 4 + 1, none⟩ = some (.int .i64 z1) := fun ob => by rw [al _ _ _ (by omega)]; exact p1
        have A2 : ∀ ob, (wr.alloc ob).cell? ⟨g, k * 4 + 2, none⟩ = some (.int .i64 z2) := fun ob => by rw [al _ _ _ (by omega)]; exact p2
        have A3 : ∀ ob, (wr.alloc ob).cell? ⟨g, k * 4 + 3, none⟩ = some (.int .i64 z3) := fun ob => by rw [al _ _ _ (by omega)]; exact p3
        have D0 : ∀ ob, (wr.alloc ob).cell? ⟨g2, o2 + k * 4, none⟩ = some (.int .i64 z0) := fun ob => by rw [al _ _ _ (by omega)]; exact q0
        have D1 : ∀ ob, (wr.alloc ob).cell? ⟨g2, o2 + k * 4 + 1, none⟩ = some (.int .i64 z1) := fun ob => by rw [al _ _ _ (by omega)]; exact q1
        have D2 : ∀ ob, (wr.alloc ob).cell? ⟨g2, o2 + k * 4 + 2, none⟩ = some (.int .i64 z2) := fun ob => by rw [al _ _ _ (by omega)]; exact q2
        have D3 : ∀ ob, (wr.alloc ob).cell? ⟨g2, o2 + k * 4 + 3, none⟩ = some (.int .i64 z3) := fun ob => by rw [al _ _ _ (by omega)]; exact q3
        clear al hbel i2
        go_wp2_with fail
        refine wp_region_grow (by kernel_rfl) (by kernel_rfl) ?_
        intro I G hI hG hGc hGn
        repeat (go_big_quiet_step (first | (go_at_call 100; exact call_grow hG hGn (sameItem_same _ _ _ _ _))))
        refine wpQuiet_nil ?_
        intro w2 hw'
        obtain ⟨u, hw''⟩ := hw'
        have hw1 := hG.out u
        rw [← hw''] at hw1
        have B2 := hideG hw1
        clear hw'' hGc hGn hG u hI G I hw1
        go_wp2_with fail
        go_roundw
        case rel => exact ⟨k + 1, by omega, by go_num, (HB.out.alloc zs _).trans (B2.out.mono (by simp; omega))⟩
        case measure => simp [intOf]; omega
      · rw [if_neg hlt2] at p0 p1 p2 p3
        have hk1 : ¬ ((k : Int) < (n : Int)) := by omega
        have A0 : ∀ ob, (wr.alloc ob).cell? ⟨g, k * 4, none⟩ = some (.int .i64 77) := fun ob => by rw [al _ _ _ (by omega)]; exact p0
        have A1 : ∀ ob, (wr.alloc ob).cell? ⟨g, k * 4 + 1, none⟩ = some (.int .i64 77) := fun ob => by rw [al _ _ _ (by omega)]; exact p1
        have A2 : ∀ ob, (wr.alloc ob).cell? ⟨g, k * 4 + 2, none⟩ = some (.int .i64 77) := fun ob => by rw [al _ _ _ (by omega)]; exact p2
        have A3 : ∀ ob, (wr.alloc ob).cell? ⟨g, k * 4 + 3, none⟩ = some (.int .i64 77) := fun ob => by rw [al _ _ _ (by omega)]; exact p3
        clear al hbel
        go_wp2_with fail
        refine wp_region_grow (by kernel_rfl) (by kernel_rfl) ?_
        intro I G hI hG hGc hGn
        repeat (go_big_quiet_step (first | (go_at_call 100; exact call_grow hG hGn (sameItem_same _ _ _ _ _))))
        refine wpQuiet_nil ?_
        intro w2 hw'
        obtain ⟨u, hw''⟩ := hw'
        have hw1 := hG.out u
        rw [← hw''] at hw1
        have B2 := hideG hw1
        clear hw'' hGc hGn hG u hI G I hw1
        go_wp2_with fail
        go_roundw
        case rel => exact ⟨k + 1, by omega, by go_num, (HB.out.alloc zs _).trans (B2.out.mono (by simp; omega))⟩
        case measure => simp [intOf]; omega
    · clear hbel
      go_wp2_with fail
      go_ret
      exact ⟨rfl, HB.out⟩

end Go.Proofs.YtchideljndagjaaGreat
