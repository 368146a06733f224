/- Lists of points that are handed in: givePoints and stillPoints. -/
import Derived.Test.YtchideljndagjaaGreatGiveInts
import Derived.Test.YtchideljndagjaaGreatFlat
namespace Go.Proofs.YtchideljndagjaaGreat
open Go.RowKit
set_option linter.unusedVariables false

/-! ### copy, elements of two cells -/
theorem run_copy_none2 {P : Program} (w : World) (dT sT ty elem : TypeId) (d a : Option Addr) (dLen dCap sLen sCap : Nat) (hu : P.underlying dT = some (.slice elem)) (hs : (P.info? elem).map (·.size) = some 2) (hn : Nat.min sLen dLen = 0) :
    (Builtin.copy_ #[dT, sT] ty #[.slice d dLen dCap, .slice a sLen sCap]).run P w = .ok (goInt 0) w := by
  cases hq : P.info? elem with
  | none => simp [hq] at hs
  | some i =>
    have hl : ∀ (x : Addr), (loadCells x 0).run P w = .ok #[] w := fun x => by simpa using run_loadCells_list (P := P) w x [] (by simp)
    cases d <;> cases a <;> simp [Builtin.copy_, run_underlying hu, Builtin.lenOf, Builtin.firstCells, sizeOf, typeInfo, hq, hn, storeCells, hl]

theorem run_copy_row2 {P : Program} (w : World) (dT sT ty elem : TypeId) (g o dLen dCap : Nat) (a : Addr) (sLen sCap : Nat) (cur : Array Value) (t : TypeId) (cs : List Value)
    (hu : P.underlying dT = some (.slice elem)) (hs : (P.info? elem).map (·.size) = some 2)
    (hg : w.heap[g]? = some (.cells cur t (0, 0))) (hn : cs.length = Nat.min sLen dLen * 2)
    (hsrc : ∀ j v, cs[j]? = some v → w.cell? (a.add j) = some v) (hfit : o + cs.length ≤ cur.size) (h1 : ∀ v ∈ cs, v.oneCell' = true) :
    (Builtin.copy_ #[dT, sT] ty #[.slice (some ⟨g, o, none⟩) dLen dCap, .slice (some a) sLen sCap]).run P w =
      .ok (goInt (Nat.min sLen dLen)) (w.setRow g (cur.toList.take o ++ cs ++ cur.toList.drop (o + cs.length)).toArray) := by
  have hl := run_loadCells_list (P := P) w a cs hsrc
  have hst := run_storeCells_at P g o t cs 0 cur w hg (by simpa using hfit) h1
  cases hq : P.info? elem with
  | none => simp [hq] at hs
  | some i =>
    have hi : i.size = 2 := by simpa [hq] using hs
    simp [Builtin.copy_, run_underlying hu, Builtin.lenOf, Builtin.firstCells, sizeOf, typeInfo, hq, hi, ← hn, hl, hst]

theorem wpList_copy_splice2 {P : Program} {w : World} {ops : Array Oper} {rest : List Oper} {o : Oper} {a : Act} {Q : Exit → Act → World → Prop} (hgd : o.guard = none) (d s : Operand) (dT sT : TypeId)
    (ho : o.op = .call { callee := .builtin .copy, args := #[d, s], argTypes := #[dT, sT] }) (elem : TypeId) (hu : P.underlying dT = some (.slice elem)) (hsz : (P.info? elem).map (·.size) = some 2)
    (dp sp : Option Addr) (dLen dCap sLen sCap : Nat) (hd : a.eval d = .slice dp dLen dCap) (hs : a.eval s = .slice sp sLen sCap)
    (g off : Nat) (cur : List Value) (t : TypeId) (hg : w.heap[g]? = some (.cells cur.toArray t (0, 0))) (cs : List Value) (hn : cs.length = Nat.min sLen dLen * 2)
    (hpos : 0 < cs.length → dp = some ⟨g, off, none⟩ ∧ ∃ ad, sp = some ad ∧ ∀ j v, cs[j]? = some v → w.cell? (ad.add j) = some v)
    (hfit : off + cs.length ≤ cur.length) (h1 : ∀ v ∈ cs, v.oneCell' = true) (B : Nat) (w0 : World) (hb : Below B w0 w) (hBg : B ≤ g)
    (h : ∀ w', Hid (w'.heap[g]? = some (.cells (splice cur off cs).toArray t (0, 0))) → Below B w0 w' → wpList P ops Q rest (a.put o.dst (goInt (Nat.min sLen dLen))) w') :
    wpList P ops Q (o :: rest) a w := by
  by_cases h0 : cs.length = 0
  · obtain rfl : cs = [] := List.eq_nil_of_length_eq_zero h0
    have hm : Nat.min sLen dLen = 0 := by simp at hn; omega
    refine wpList_plain hgd fun K hK => ?_
    have hrun := run_copy_none2 (P := P) w dT sT o.type elem dp sp dLen dCap sLen sCap hu hsz hm
    unfold Oper.wp
    simp [execOp, ho, resolve, invoke, builtin, hd, hs, hrun, Result.andThen]
    refine hK _ _ ?_
    have := h w (show _ = _ by simpa [splice] using hg) hb
    rw [hm] at this
    exact this
  · obtain ⟨rfl, ad, rfl, hsrc⟩ := hpos (by omega)
    refine wpList_plain hgd fun K hK => ?_
    have hrun := run_copy_row2 (P := P) w dT sT o.type elem g off dLen dCap ad sLen sCap cur.toArray t cs hu hsz hg hn hsrc (by simpa using hfit) h1
    unfold Oper.wp
    simp only [execOp, ho, resolve, invoke, builtin]
    simp [hd, hs, hrun, Result.andThen]
    refine hK _ _ (h _ ?_ (below_setRow hb hBg _))
    show _ = _
    rw [setRow_heap w g _ _ t _ hg]
    simp [splice]

theorem infoGp : (Tryz.prog.info? 72).map (fun i => (i.zero, i.size, i.bytes)) = some (some (.agg #[.int .i64 0, .int .i64 0]), 2, 16) := by kernel_rfl
theorem sizeGp : (Tryz.prog.info? 72).map (·.size) = some 2 := by kernel_rfl

/-- The points, and behind them k marks and what is left of three noughts. -/
def pgiven (ps : List (Int × Int)) (k : Nat) : List (Int × Int) := ps ++ (List.replicate k (77, 77) ++ List.replicate (3 - k) (0, 0))

theorem pgiven_length (ps : List (Int × Int)) (k : Nat) (hk : k ≤ 3) : (pgiven ps k).length = ps.length + 3 := by simp [pgiven]; omega

theorem pgiven_set (ps : List (Int × Int)) (k : Nat) (hk : k < 3) : (pgiven ps k).set (ps.length + k) (77, 77) = pgiven ps (k + 1) := by
  unfold pgiven
  rw [List.set_append_right _ _ (by omega)]
  simp only [Nat.add_sub_cancel_left]
  rcases (show k = 0 ∨ k = 1 ∨ k = 2 by omega) with rfl | rfl | rfl <;> rfl

theorem flat_set2 (l : List (Int × Int)) (i : Nat) (x y : Int) : ((flat l).set (i * 2) (.int .i64 x)).set (i * 2 + 1) (.int .i64 y) = flat (l.set i (x, y)) := by
  induction l generalizing i with
  | nil => rfl
  | cons p l ih =>
    cases i with
    | zero => rfl
    | succ i =>
      rw [show (i + 1) * 2 = i * 2 + 1 + 1 by omega]
      show Value.int .i64 p.1 :: Value.int .i64 p.2 :: ((flat l).set (i * 2) (.int .i64 x)).set (i * 2 + 1) (.int .i64 y) = Value.int .i64 p.1 :: Value.int .i64 p.2 :: flat (l.set i (x, y))
      rw [ih]

theorem flat_zero (n : Nat) : (madeCells #[Value.int .i64 0, .int .i64 0] (n * 2)).toList = flat (List.replicate n (0, 0)) := by
  have key : ∀ n, flat (List.replicate n (0, 0)) = List.replicate (n * 2) (Value.int .i64 0) := by
    intro n
    induction n with
    | zero => rfl
    | succ n ih =>
      rw [List.replicate_succ, show (n + 1) * 2 = n * 2 + 1 + 1 by omega, List.replicate_succ, List.replicate_succ, ← ih]
      rfl
  rw [key]
  apply List.ext_getElem?
  intro i
  by_cases hi : i < n * 2
  · rw [List.getElem?_replicate, if_pos hi]
    unfold madeCells
    simp [hi]
    rcases (show i % 2 = 0 ∨ i % 2 = 1 by omega) with e | e <;> simp [e]
  · rw [List.getElem?_eq_none (by simp [madeCells]; omega), List.getElem?_eq_none (by simp; omega)]

theorem row_of_full2 {w : World} {B g n : Nat} {e : TypeId} {xs : List Value} (h : w.ownsRow B e 2 (.slice (some ⟨g, 0, none⟩) n n) n xs) : w.heap[g]? = some (.cells xs.toArray e (0, 0)) := by
  have hl := h.1
  rcases h.2 with ⟨e0, _⟩ | ⟨g', cap, cur, e0, _, hg, _, _, hcs, htake⟩
  · cases e0
  · cases e0
    rw [hg]
    congr 2
    have : cur.toList.take (n * 2) = cur.toList := List.take_of_length_le (by simp; omega)
    rw [this] at htake
    rw [← htake]

set_option maxHeartbeats 1000000 in
set_option maxRecDepth 100000 in
theorem givePoints_calls (v : Value) (ps : List (Int × Int)) (w : World) (h : PtsAt w v ps) (hb : ps.length * 16 ≤ 140737488355328) :
    Calls Tryz.prog 84 #[v] w fun e w' => ∃ g, w.heap.size ≤ g ∧ e = .returned (.slice (some ⟨g, 0, none⟩) ps.length (ps.length + 3)) ∧
      w'.heap[g]? = some (.cells (flat (pgiven ps 3)).toArray 72 (0, 0)) ∧ Below w.heap.size w w' := by
  obtain ⟨i0, hi, hz0, hz1, hz2⟩ := info_parts infoGp
  obtain ⟨a, cap, rfl, l2, l3, l4, l5⟩ := h
  unfold maxLen at l3
  have HL := hideG l5
  clear l4 l5
  obtain ⟨n, hn⟩ : ∃ n, n = ps.length := ⟨_, rfl⟩
  rw [← hn] at l2 hb ⊢
  have HN := hideG hn
  clear hn
  have en : ((n : Int) + 3).toNat = n + 3 := by omega
  go_enter Tryz.func84, Tryz.ntmps84
  go_wp2_with (at_make; refine wpList_make_full _ rfl _ _ 70 rfl w.heap.size 72 i0 (.agg #[.int .i64 0, .int .i64 0]) 2 Tryz.underlying70 hi hz0 hz1 _ _ _ _ (n + 3) rfl rfl (by omega) (by omega) ?m1 ?m2 ?m3 ?_)
  case m1 => rw [hz2]; omega
  case m2 => unfold maxLen; omega
  case m3 => exact Nat.le_refl _
  intro w2 hown2 hgrow2
  have hr := row_of_full2 hown2
  have hb2 : Below w.heap.size w w2 := (Below.refl _ _).grown hgrow2 (Nat.le_refl _) (by simp)
  rw [flat_zero] at hr
  obtain ⟨Z, hZ⟩ : ∃ Z, Z = flat (List.replicate (n + 3) (0, 0)) := ⟨_, rfl⟩
  rw [← hZ] at hr
  have HZ := hideG hZ
  have hZl := hideG (show Z.length = (n + 3) * 2 by rw [hZ, flat_length]; simp)
  have HR := hideG hr
  have HB := hideG hb2
  clear hr hb2 hown2 hgrow2 hZ
  generalize hg : w.heap.size = B at *
  have HG := hideG hg
  obtain ⟨X, hX⟩ : ∃ X, X = flat ps := ⟨_, rfl⟩
  have HX := hideG hX
  have hXl := hideG (show X.length = n * 2 by rw [hX, HN.out, flat_length])
  clear hX
  go_wp2_with (refine wpList_copy_splice2 rfl _ _ 70 70 rfl 72 Tryz.underlying70 sizeGp _ _ _ _ _ _ rfl rfl B 0 _ 72 HR.out X ?c1 ?c2 ?c3 ?c4 B w HB.out (Nat.le_refl _) ?_)
  case c1 => rw [hXl.out]; simp
  case c2 =>
    intro hp
    try refine ⟨rfl, ?_⟩
    rcases HL.out with e | ⟨b, off, e1, e2, e3⟩
    · rw [HX.out, e] at hp; simp [flat] at hp
    · refine ⟨_, e1, fun j u hj => ?_⟩
      have hjl : j < n * 2 := by rw [← hXl.out]; exact (List.getElem?_eq_some_iff.1 hj).1
      rw [← HG.out] at e2
      rw [show (⟨b, off, none⟩ : Addr).add j = ⟨b, off + j, none⟩ from by unfold Addr.add; simp]
      rw [HB.out.cell (p := ⟨b, off + j, none⟩) (by rw [← HG.out]; exact e2)]
      rw [HX.out] at hj
      rcases (show j = j / 2 * 2 ∨ j = j / 2 * 2 + 1 by omega) with ej | ej
      · have := e3 (j / 2) (by rw [← HN.out]; omega)
        have ff := flat_get ps (j / 2) (by rw [← HN.out]; omega)
        rw [← ej] at this ff
        rw [this.1, ← hj, ff.1]
      · have := e3 (j / 2) (by rw [← HN.out]; omega)
        have ff := flat_get ps (j / 2) (by rw [← HN.out]; omega)
        rw [Nat.add_assoc, ← ej] at this
        rw [← ej] at ff
        rw [this.2, ← hj, ff.2]
  case c3 => rw [hXl.out, hZl.out]; omega
  case c4 =>
    intro u hu
    rw [HX.out] at hu
    obtain ⟨j, hj⟩ := List.getElem?_of_mem hu
    have hjl : j < ps.length * 2 := by rw [← flat_length]; exact (List.getElem?_eq_some_iff.1 hj).1
    have ff := flat_get ps (j / 2) (by omega)
    rcases (show j = j / 2 * 2 ∨ j = j / 2 * 2 + 1 by omega) with ej | ej
    · rw [← ej, hj] at ff; have := ff.1; cases this; rfl
    · rw [← ej, hj] at ff; have := ff.2; cases this; rfl
  intro w3 HR3 hb3
  have HB3 := hideG hb3
  clear hb3
  have es : splice Z 0 X = flat (pgiven ps 0) := by
    unfold splice pgiven
    rw [HX.out, HZ.out, HN.out]
    rw [flat_append, List.take_zero, List.nil_append, Nat.zero_add, flat_length, ← List.replicate_append_replicate, flat_append, show ps.length * 2 = (flat (List.replicate ps.length (0, 0))).length by rw [flat_length]; simp, List.drop_left]
    rfl
  have hr3 := HR3.out
  rw [es] at hr3
  have HR3' := hideG hr3
  clear hr3 HR3 es
  go_wp2_with fail
  go_loopw [4] (fun i wr => ∃ j : Nat, n ≤ j ∧ j ≤ n + 3 ∧ i = .int .i64 j ∧ wr.heap[B]? = some (.cells (flat (pgiven ps (j - n))).toArray 72 (0, 0)) ∧ Below B w wr) (fun i _ => n + 3 - (intOf i).toNat)
  case atStart => exact ⟨n, Nat.le_refl _, by omega, rfl, by rw [Nat.sub_self]; exact HR3'.out, HB3.out⟩
  case round =>
    obtain ⟨j, hj1, hj2, rfl, hr, hbel⟩ := hrel
    have HR4 := hideG hr
    have HB4 := hideG hbel
    by_cases hlt : j < n + 3
    · have hfl : (flat (pgiven ps (j - n))).length = (n + 3) * 2 := by rw [flat_length, pgiven_length _ _ (by omega), ← HN.out]
      obtain ⟨c1, c2⟩ := row_cell hr (j * 2) (by rw [hfl]; omega)
      obtain ⟨d1, d2⟩ := row_cell hr (j * 2 + 1) (by rw [hfl]; omega)
      obtain ⟨u, hu⟩ : ∃ u, (flat (pgiven ps (j - n)))[j * 2]? = some u := ⟨_, List.getElem?_eq_getElem (by rw [hfl]; omega)⟩
      obtain ⟨u', hu'⟩ : ∃ u, (flat (pgiven ps (j - n)))[j * 2 + 1]? = some u := ⟨_, List.getElem?_eq_getElem (by rw [hfl]; omega)⟩
      rw [hu] at c1
      rw [hu'] at d1
      clear hr hbel hu hu' hfl
      go_wp2_with fail
      go_roundw
      case rel =>
        have R := row_set (row_set HR4.out (j * 2) (.int .i64 77)) (j * 2 + 1) (.int .i64 77)
        have e := pgiven_set ps (j - n) (by omega)
        rw [← HN.out, show n + (j - n) = j by omega, show j - n + 1 = j + 1 - n by omega] at e
        rw [flat_set2, e] at R
        exact ⟨j + 1, by omega, by omega, by go_num, R, (HB4.out.setCell (p := ⟨B, j * 2, none⟩) (Nat.le_refl _) _).setCell (p := ⟨B, j * 2 + 1, none⟩) (Nat.le_refl _) _⟩
      case measure => simp [intOf]; omega
    · have ej : j = n + 3 := by omega
      subst ej
      clear hr hbel
      go_wp2_with fail
      go_ret
      have R := HR4.out
      rw [Nat.add_sub_cancel_left] at R
      exact ⟨B, by rw [HG.out]; exact Nat.le_refl _, rfl, R, by rw [HG.out]; exact HB4.out⟩

theorem pgiven_get (ps : List (Int × Int)) (k : Nat) (hk : k < ps.length + 3) : (pgiven ps 3).getD k (0, 0) = if k < ps.length then ps.getD k (0, 0) else (77, 77) := by
  unfold pgiven
  by_cases h : k < ps.length
  · rw [if_pos h, List.getD_eq_getElem?_getD, List.getD_eq_getElem?_getD, List.getElem?_append_left h]
  · rw [if_neg h, List.getD_eq_getElem?_getD, List.getElem?_append_right (by omega), List.getElem?_append_left (by simp; omega), List.getElem?_replicate, if_pos (by omega)]; rfl

set_option maxHeartbeats 1000000 in
set_option maxRecDepth 100000 in
/-- A list of points that was handed in is as it was. -/
theorem stillPoints_calls (v : Value) (ps : List (Int × Int)) (w : World) (g : Nat) (h : PtsAt w v ps) (hb : ps.length * 16 ≤ 140737488355328) (hg : w.heap[g]? = some (.cells (flat (pgiven ps 3)).toArray 72 (0, 0))) :
    Calls Tryz.prog 87 #[.slice (some ⟨g, 0, none⟩) ps.length (ps.length + 3), v] w fun e w' => e = .returned (.bool true) ∧ Below w.heap.size w w' := by
  have gl : g < w.heap.size := by
    by_cases h : g < w.heap.size
    · exact h
    · rw [Array.getElem?_eq_none (by omega)] at hg; cases hg
  have hcell : ∀ i, i < ps.length + 3 → w.cell? ⟨g, i * 2, none⟩ = some (.int .i64 (if i < ps.length then ps.getD i (0, 0) else (77, 77)).1) ∧ w.cell? ⟨g, i * 2 + 1, none⟩ = some (.int .i64 (if i < ps.length then ps.getD i (0, 0) else (77, 77)).2) := by
    intro i hi
    have hpl := pgiven_length ps 3 (Nat.le_refl _)
    have ff := flat_get (pgiven ps 3) i (by rw [hpl]; exact hi)
    rw [pgiven_get ps i hi] at ff
    rw [(row_cell hg (i * 2) (by rw [flat_length, hpl]; omega)).1, (row_cell hg (i * 2 + 1) (by rw [flat_length, hpl]; omega)).1]
    exact ff
  obtain ⟨a, cap, rfl, l2, l3, l4, l5⟩ := h
  unfold maxLen at l3
  have HL := hideG l5
  have HC := hideG hcell
  clear l4 l5 hcell hg
  obtain ⟨n, hn⟩ : ∃ n, n = ps.length := ⟨_, rfl⟩
  rw [← hn] at l2 hb HC ⊢
  have HN := hideG hn
  clear hn
  have en : ((n : Int) + 3).toNat = n + 3 := by omega
  go_enter Tryz.func87, Tryz.ntmps87
  go_wp2_with fail
  go_loopw [6, 7] (fun i _ wr => ∃ k : Nat, k ≤ n + 3 ∧ i = .int .i64 k ∧ Below w.heap.size w wr) (fun i _ _ => n + 3 - (intOf i).toNat)
  case atStart => exact ⟨0, by omega, rfl, Below.refl _ _⟩
  case round =>
    obtain ⟨k, hk, rfl, hbel⟩ := hrel
    have HB := hideG hbel
    have zs := hbel.size
    by_cases hlt : k < n + 3
    · obtain ⟨c1, c2⟩ := HC.out k hlt
      rw [← hbel.cell (p := ⟨g, k * 2, none⟩) gl] at c1
      rw [← hbel.cell (p := ⟨g, k * 2 + 1, none⟩) gl] at c2
      have gne : g ≠ wr.heap.size := by omega
      have hk0 : (0 : Int) ≤ (k : Int) := by omega
      have hk2 : (k : Int) < (n : Int) + 3 := by omega
      by_cases hlt2 : k < n
      · rw [if_pos hlt2] at c1 c2
        obtain ⟨g2, o2, rfl, q0, q1, q2⟩ : ∃ g off, a = some ⟨g, off, none⟩ ∧ g < w.heap.size ∧ w.cell? ⟨g, off + k * 2, none⟩ = some (.int .i64 (ps.getD k (0, 0)).1) ∧ w.cell? ⟨g, off + k * 2 + 1, none⟩ = some (.int .i64 (ps.getD k (0, 0)).2) := by
          rcases HL.out with h | ⟨g, off, h1, h0, h2⟩
          · have := HN.out; rw [h] at this; simp at this; omega
          · exact ⟨g, off, h1, h0, h2 k (by rw [← HN.out]; exact hlt2)⟩
        rw [← hbel.cell (p := ⟨g2, o2 + k * 2, none⟩) q0] at q1
        rw [← hbel.cell (p := ⟨g2, o2 + k * 2 + 1, none⟩) q0] at q2
        have gne2 : g2 ≠ wr.heap.size := by omega
        clear hbel
        generalize (ps.getD k (0, 0)).1 = z at *
        generalize (ps.getD k (0, 0)).2 = z' at *
        have ez : (z != z) = false := by simp
        have ez' : (z' != z') = false := by simp
        have hk1 : (k : Int) < (n : Int) := by omega
        have al : ∀ (ob : Obj) (b o : Nat), b < wr.heap.size → (wr.alloc ob).cell? ⟨b, o, none⟩ = wr.cell? ⟨b, o, none⟩ := fun ob b o hb => ((Below.refl wr.heap.size wr).alloc (Nat.le_refl _) ob).cell (p := ⟨b, o, none⟩) hb
        have A1 : ∀ ob, (wr.alloc ob).cell? ⟨g, k * 2, none⟩ = some (.int .i64 z) := fun ob => by rw [al _ _ _ (by omega)]; exact c1
        have A2 : ∀ ob, (wr.alloc ob).cell? ⟨g, k * 2 + 1, none⟩ = some (.int .i64 z') := fun ob => by rw [al _ _ _ (by omega)]; exact c2
        have A3 : ∀ ob, (wr.alloc ob).cell? ⟨g2, o2 + k * 2, none⟩ = some (.int .i64 z) := fun ob => by rw [al _ _ _ (by omega)]; exact q1
        have A4 : ∀ ob, (wr.alloc ob).cell? ⟨g2, o2 + k * 2 + 1, none⟩ = some (.int .i64 z') := fun ob => by rw [al _ _ _ (by omega)]; exact q2
        clear al
        go_wp2_with fail
        go_quiet (fail)
        go_wp2_with fail
        go_roundw
        case rel => exact ⟨k + 1, by omega, by go_num, (HB.out.alloc (by omega) _).trans ((below_drewN _ _).mono (by simp; omega))⟩
        case measure => simp [intOf]; omega
      · rw [if_neg hlt2] at c1 c2
        clear hbel
        have hk1 : ¬ ((k : Int) < (n : Int)) := by omega
        have al : ∀ (ob : Obj) (b o : Nat), b < wr.heap.size → (wr.alloc ob).cell? ⟨b, o, none⟩ = wr.cell? ⟨b, o, none⟩ := fun ob b o hb => ((Below.refl wr.heap.size wr).alloc (Nat.le_refl _) ob).cell (p := ⟨b, o, none⟩) hb
        have A1 : ∀ ob, (wr.alloc ob).cell? ⟨g, k * 2, none⟩ = some (.int .i64 77) := fun ob => by rw [al _ _ _ (by omega)]; exact c1
        have A2 : ∀ ob, (wr.alloc ob).cell? ⟨g, k * 2 + 1, none⟩ = some (.int .i64 77) := fun ob => by rw [al _ _ _ (by omega)]; exact c2
        clear al
        go_wp2_with fail
        go_quiet (fail)
        go_wp2_with fail
        go_roundw
        case rel => exact ⟨k + 1, by omega, by go_num, (HB.out.alloc (by omega) _).trans ((below_drewN _ _).mono (by simp; omega))⟩
        case measure => simp [intOf]; omega
    · clear hbel
      go_wp2_with fail
      go_ret
      exact ⟨rfl, HB.out⟩

end Go.Proofs.YtchideljndagjaaGreat
