/- Contracts of the steps of a script on clients: Hello, Released, and what a client tells at the end. -/
import Derived.Test.YtchideljndagjaaGreatPkClBB
import Derived.BigQuiet
namespace Go.Proofs.YtchideljndagjaaGreat
open Go.ChangeShapes Go.WideShapes Go.ChangeAt Go.RowKit
set_option linter.unusedVariables false

theorem PairAt.cells {w : World} {pw : Nat} {p : Pair} (h : PairAt w pw p) : w.cell? ⟨p.pc, 0, none⟩ = some (.pointer (some ⟨p.bx, 0, none⟩)) ∧ w.cell? ⟨p.pc, 1, none⟩ = some (.pointer (some ⟨p.yb, 0, none⟩)) :=
  ⟨(cell_of_row w p.pc 0 _ _ (0, 0) h.row).trans rfl, (cell_of_row w p.pc 1 _ _ (0, 0) h.row).trans rfl⟩
theorem PairAt.good {w : World} {pw : Nat} {p : Pair} (h : PairAt w pw p) : Cli.Good p.c := by rw [← h.eqc]; exact h.ref.good
theorem PairAt.below {w w' : World} {pw : Nat} {p : Pair} (h : PairAt w pw p) (hb : Below w.heap.size w w') : PairAt w' pw p :=
  h.keep hb.size (fun x hx => hb.block x (h.lt hx)) (fun x hx => hb.block x (by have := h.lo p.pc (.inl rfl); have := h.lt (x := p.pc) (.inl rfl); omega))

/-- What a client's step leaves: one list more of a kind. -/
def Tells (w : World) (pw : Nat) (F : Nat → Value) (nx : Int) (ls : Nat → List Ow) (c : Nat) (w' : World) : Prop :=
  ∃ F' o, InvW w' pw F' (nx + 1) (updL ls c (ls c ++ [o])) ∧ (c = 1 → 0 ≤ o.2.2 ∧ o.2.2 ≤ 255) ∧ QS pw w F ls w' F' (updL ls c (ls c ++ [o]))

set_option maxHeartbeats 2000000 in
set_option maxRecDepth 100000 in
theorem hello_step (pw : Nat) (F : Nat → Value) (nx : Int) (ls : Nat → List Ow) (p : Pair) (w : World) (h : InvW w pw F nx ls) (hp : PairAt w pw p) (h0 : 0 ≤ nx) (h1 : nx ≤ 1000000000000000000) (hlen : ((ls 1).length + 1) * 24 ≤ 140737488355328) :
    Calls Tryz.prog 52 #[.pointer (some ⟨pw, 0, none⟩), .pointer (some ⟨p.pc, 0, none⟩)] w fun e w' => e = .returned (.bool true) ∧ Tells w pw F nx ls 1 w' := by
  have HH := hideG (cliHello hp.good hp.cli)
  obtain ⟨x0, x1⟩ := hp.cells
  have HX := hideG (fun (W : World) (hb : Below w.heap.size w W) => (hp.below hb).cells.2)
  have HY := hideG (fun (W : World) (hb : Below w.heap.size w W) => (hp.below hb).ref.at_.cell 12)
  have HYB := hideG (show ∀ (W : World), Below w.heap.size w W → BytesAt W p.R.hi (Frm.encF 1 p.c.id (helloL p.c)) from fun W hb => by have := (hp.below hb).ref.hi; rw [hp.eqc] at this; exact this)
  have hB : Frm.isB (Frm.encF 1 p.c.id (helloL p.c)) := encF_isB (helloL_ok hp.good)
  have HI := hideG h
  have hpl := h.pw_lt
  have hpc := hp.lt (x := p.pc) (.inl rfl)
  have hyb := hp.lt (x := p.yb) (.inr (.inr (.inl (.inl rfl))))
  obtain ⟨av, cv, hhi, _⟩ := bytes_view hp.ref.hi
  have HHI := hideG hhi
  have HBB := hideG hB
  obtain ⟨nl, hnl⟩ : ∃ n, n = (Frm.encF 1 p.R.c.id (helloL p.R.c)).length := ⟨_, rfl⟩
  rw [← hnl] at HHI
  clear h hp hhi hB hnl
  generalize Frm.encF 1 p.c.id (helloL p.c) = E at *
  generalize p.pc = pc at *
  generalize p.bx = bx at *
  go_enter Tryz.func52, Tryz.ntmps52
  go_wp2_with fail
  refine HH.out.mono ?_
  rintro e w1 ⟨va, rfl, hoa, hb1⟩
  obtain ⟨a1, c1, hva⟩ := owns_form hoa
  subst hva
  have s1 := hb1.size
  have OA := hideG hoa
  have B1 := hideG hb1
  clear x0 x1 hoa hb1
  have x1 := HX.out w1 B1.out
  have y12 := HY.out w1 B1.out
  change w1.cell? ⟨p.yb, 12, none⟩ = some p.R.hi at y12
  rw [HHI.out] at y12
  have hq1 : ∀ n, (convert 67 9 (.slice a1 E.length c1)).run Tryz.prog (w1.drewN n) = .ok (.string (strOfNums E)) (w1.drewN n) := fun n => conv_str ((bytesAt_of_owns OA.out HBB.out).below (below_drewN w1 n))
  have hq2 : ∀ n, (convert 67 9 (.slice av nl cv)).run Tryz.prog (w1.drewN n) = .ok (.string (strOfNums E)) (w1.drewN n) := fun n => by
    have := conv_str ((HYB.out w1 B1.out).below (below_drewN w1 n))
    rw [HHI.out] at this
    exact this
  generalize strOfNums E = sE at *
  generalize p.yb = yb at *
  have hpc1 : pc < w1.heap.size := by omega
  have hyb1 : yb < w1.heap.size := by omega
  go_upto_region 2 with fail
  go_quiet (fail)
  have HBN := hideG (below_drewN w1 nq)
  obtain ⟨W2, hW2⟩ : ∃ W2, W2 = w1.drewN nq := ⟨_, rfl⟩
  rw [← hW2] at HBN ⊢
  have s2 := HBN.out.size
  have OA2 := hideG (ownsRow_chg (S := fun _ => False) OA.out (Chg.of_below HBN.out) (fun _ _ h => h))
  have HI2 := hideG (HI.out.below (B1.out.trans (HBN.out.mono s1)))
  have BB2 := hideG (B1.out.trans (HBN.out.mono s1))
  clear hW2 hq1 hq2 x1 y12
  go_wp2_with fail
  refine (own_bytes pw F nx ls _ _ _ _ W2 HI2.out h0 h1 hlen OA2.out hpl (fun b hb hf => by have := OA2.out.lt b hb; have := HI.out.foot_lt hf; omega)).mono ?_
  rintro e w3 ⟨rfl, F', o, i1, i2, i3, i4, i5⟩
  have FIN := hideG (show Tells w pw F nx ls 1 w3 from ⟨F', o, i1, fun _ => i5, (QS.refl.below BB2.out).ownv (fun b hb => (OA2.out.lt b hb).1) i4 i3 i2⟩)
  clear i1 i2 i3 i4 i5
  go_wp2_with fail
  go_ret
  exact ⟨rfl, FIN.out⟩

set_option maxHeartbeats 2000000 in
set_option maxRecDepth 100000 in
theorem told_step (pw : Nat) (F : Nat → Value) (nx : Int) (ls : Nat → List Ow) (p : Pair) (w : World) (h : InvW w pw F nx ls) (hp : PairAt w pw p) (h0 : 0 ≤ nx) (h1 : nx ≤ 1000000000000000000) (hlen : ((ls 2).length + 1) * 24 ≤ 140737488355328) :
    Calls Tryz.prog 54 #[.pointer (some ⟨pw, 0, none⟩), .pointer (some ⟨p.pc, 0, none⟩)] w fun e w' => e = .returned (.bool true) ∧ Tells w pw F nx ls 2 w' := by
  have HH := hideG (cliReleased hp.good hp.cli)
  obtain ⟨x0, x1⟩ := hp.cells
  have HX := hideG (fun (W : World) (hb : Below w.heap.size w W) => (hp.below hb).cells.2)
  have HY := hideG (fun (W : World) (hb : Below w.heap.size w W) => (hp.below hb).ref.at_.cell 14)
  have HYB := hideG (show ∀ (W : World), Below w.heap.size w W → ItemsAt W p.R.told (relL p.c p.s) from fun W hb => by have := (hp.below hb).ref.told; rw [hp.eqc, hp.eqs] at this; exact this)
  have HIN := hideG (show ∀ x ∈ relL p.c p.s, inIt x by obtain ⟨_, _, _, _, _, h4, _⟩ := HYB.out w (Below.refl _ _); exact h4)
  have HI := hideG h
  have hpl := h.pw_lt
  have hpc := hp.lt (x := p.pc) (.inl rfl)
  have hyb := hp.lt (x := p.yb) (.inr (.inr (.inl (.inl rfl))))
  obtain ⟨av, cv, hhi, _⟩ := items_view (HYB.out w (Below.refl _ _))
  have HHI := hideG hhi
  obtain ⟨nl, hnl⟩ : ∃ n, n = (relL p.c p.s).length := ⟨_, rfl⟩
  rw [← hnl] at HHI
  clear h hp hhi hnl
  generalize relL p.c p.s = E at *
  generalize p.pc = pc at *
  generalize p.bx = bx at *
  go_enter Tryz.func54, Tryz.ntmps54
  go_wp2_with fail
  refine HH.out.mono ?_
  rintro e w1 ⟨va, rfl, hoa, hb1⟩
  obtain ⟨a1, c1, hva⟩ := owns_form hoa
  subst hva
  have s1 := hb1.size
  have OA := hideG hoa
  have B1 := hideG hb1
  clear x0 x1 hoa hb1
  have x1 := HX.out w1 B1.out
  have y14 := HY.out w1 B1.out
  change w1.cell? ⟨p.yb, 14, none⟩ = some p.R.told at y14
  rw [HHI.out] at y14
  have SI := hideG (sameItems_same _ _ E w1 (itemsAt_of_owns OA.out HIN.out) (HYB.out w1 B1.out))
  rw [HHI.out] at SI
  generalize p.yb = yb at *
  have hpc1 : pc < w1.heap.size := by omega
  have hyb1 : yb < w1.heap.size := by omega
  go_wp2_with fail
  refine SI.out.mono ?_
  rintro e W2 ⟨rfl, hb2⟩
  have s2 := hb2.size
  have OA2 := hideG (ownsRow_chg (S := fun _ => False) OA.out (Chg.of_below hb2) (fun _ _ h => h))
  have BB2 := hideG (B1.out.trans (hb2.mono s1))
  have HI2 := hideG (HI.out.below BB2.out)
  clear hb2 x1 y14
  go_wp2_with fail
  refine (own_items pw F nx ls _ _ _ _ W2 HI2.out h0 h1 hlen OA2.out hpl (fun b hb hf => by have := OA2.out.lt b hb; have := HI.out.foot_lt hf; omega)).mono ?_
  rintro e w3 ⟨rfl, F', o, i1, i2, i3, i4⟩
  have FIN := hideG (show Tells w pw F nx ls 2 w3 from ⟨F', o, i1, fun e => by omega, (QS.refl.below BB2.out).ownv (fun b hb => (OA2.out.lt b hb).1) i4 i3 i2⟩)
  clear i1 i2 i3 i4
  go_wp2_with fail
  go_ret
  exact ⟨rfl, FIN.out⟩

end Go.Proofs.YtchideljndagjaaGreat

namespace Go.Proofs.YtchideljndagjaaGreat
open Go.ChangeShapes Go.WideShapes Go.ChangeAt Go.RowKit
set_option linter.unusedVariables false

/-- The World, its lists (at most m of a kind, and m marks), its clients. -/
def KI (w : World) (pw m : Nat) (K : List Pair) : Prop :=
  ∃ F nx ls, InvW w pw F nx ls ∧ InvK w pw F ls K ∧ (∀ o ∈ ls 1, 0 ≤ o.2.2 ∧ o.2.2 ≤ 255) ∧ 0 ≤ nx ∧ nx ≤ (m : Int) ∧ ∀ c, (ls c).length ≤ m

theorem QS.belowpw {w w' : World} {pw : Nat} {F F' : Nat → Value} {nx : Int} {ls ls' : Nat → List Ow} (q : QS pw w F ls w' F' ls') (h : InvW w pw F nx ls) : Below pw w w' :=
  q.chg.below (Nat.le_of_lt h.pw_lt) (fun b e => by rcases e with e | e; omega; have := h.foot_lt e; omega)
theorem KI.below {w w' : World} {pw m : Nat} {K : List Pair} (h : KI w pw m K) (hb : Below w.heap.size w w') : KI w' pw m K := by
  obtain ⟨F, nx, ls, h1, h2, h3⟩ := h
  exact ⟨F, nx, ls, h1.below hb, h2.below h1 hb, h3⟩
theorem KI.mono {w : World} {pw m m' : Nat} {K : List Pair} (h : KI w pw m K) (hm : m ≤ m') : KI w pw m' K := by
  obtain ⟨F, nx, ls, h1, h2, h3, h4, h5, h6⟩ := h
  exact ⟨F, nx, ls, h1, h2, h3, h4, by omega, fun c => by have := h6 c; omega⟩
theorem marks_more {ls : Nat → List Ow} {c : Nat} {o : Ow} (h : ∀ o ∈ ls 1, 0 ≤ o.2.2 ∧ o.2.2 ≤ 255) (ho : c = 1 → 0 ≤ o.2.2 ∧ o.2.2 ≤ 255) : ∀ q ∈ (updL ls c (ls c ++ [o])) 1, 0 ≤ q.2.2 ∧ q.2.2 ≤ 255 := by
  intro q hq
  unfold updL at hq
  by_cases e : 1 = c
  · rw [if_pos e] at hq
    rcases List.mem_append.1 hq with hq | hq
    · rw [← e] at hq; exact h q hq
    · simp at hq; subst hq; exact ho e.symm
  · rw [if_neg e] at hq; exact h q hq
theorem len_more {ls : Nat → List Ow} {c m : Nat} {o : Ow} (h : ∀ c, (ls c).length ≤ m) : ∀ d, ((updL ls c (ls c ++ [o])) d).length ≤ m + 1 := by
  intro d
  unfold updL
  by_cases e : d = c
  · rw [if_pos e, List.length_append]; have := h c; simp; omega
  · rw [if_neg e]; have := h d; omega
theorem ki_tells {w w' : World} {pw m : Nat} {K : List Pair} {F : Nat → Value} {nx : Int} {ls : Nat → List Ow} {c : Nat} (h1 : InvW w pw F nx ls) (h2 : InvK w pw F ls K) (h3 : ∀ o ∈ ls 1, 0 ≤ o.2.2 ∧ o.2.2 ≤ 255) (h4 : 0 ≤ nx) (h5 : nx ≤ (m : Int)) (h6 : ∀ c, (ls c).length ≤ m)
    (t : Tells w pw F nx ls c w') : KI w' pw (m + 1) K ∧ Below pw w w' := by
  obtain ⟨F', o, t1, t2, t3⟩ := t
  exact ⟨⟨F', nx + 1, _, t1, h2.quiet h1 t3, marks_more h3 t2, by omega, by omega, len_more h6⟩, t3.belowpw h1⟩

theorem hello_ki (pw m i : Nat) (K : List Pair) (p : Pair) (w : World) (h : KI w pw m K) (hp : K[i]? = some p) (hm : (m + 1) * 24 ≤ 140737488355328) :
    Calls Tryz.prog 52 #[.pointer (some ⟨pw, 0, none⟩), .pointer (some ⟨p.pc, 0, none⟩)] w fun e w' => e = .returned (.bool true) ∧ KI w' pw (m + 1) K ∧ Below pw w w' := by
  obtain ⟨F, nx, ls, h1, h2, h3, h4, h5, h6⟩ := h
  refine (hello_step pw F nx ls p w h1 (h2.pairs p (List.mem_of_getElem? hp)) h4 (by omega) (by have := h6 1; omega)).mono ?_
  rintro e w' ⟨rfl, t⟩
  exact ⟨rfl, ki_tells h1 h2 h3 h4 h5 h6 t⟩
theorem told_ki (pw m i : Nat) (K : List Pair) (p : Pair) (w : World) (h : KI w pw m K) (hp : K[i]? = some p) (hm : (m + 1) * 24 ≤ 140737488355328) :
    Calls Tryz.prog 54 #[.pointer (some ⟨pw, 0, none⟩), .pointer (some ⟨p.pc, 0, none⟩)] w fun e w' => e = .returned (.bool true) ∧ KI w' pw (m + 1) K ∧ Below pw w w' := by
  obtain ⟨F, nx, ls, h1, h2, h3, h4, h5, h6⟩ := h
  refine (told_step pw F nx ls p w h1 (h2.pairs p (List.mem_of_getElem? hp)) h4 (by omega) (by have := h6 2; omega)).mono ?_
  rintro e w' ⟨rfl, t⟩
  exact ⟨rfl, ki_tells h1 h2 h3 h4 h5 h6 t⟩

/-- What is read of a pair. -/
theorem KI.pair {w : World} {pw m : Nat} {K : List Pair} (h : KI w pw m K) {i : Nat} {p : Pair} (hp : K[i]? = some p) : PairAt w pw p := by
  obtain ⟨F, nx, ls, h1, h2, _⟩ := h
  exact h2.pairs p (List.mem_of_getElem? hp)
theorem PairAt.phase {w : World} {pw : Nat} {p : Pair} (h : PairAt w pw p) : w.cell? ⟨p.yb, 13, none⟩ = some (.int .i64 p.s.1) := by
  have := h.ref.at_.vals.2.2.2.2
  rw [h.ref.ph, h.eqc, h.eqs] at this
  exact this

set_option maxHeartbeats 1000000 in
theorem seen_ki (pw m i : Nat) (K : List Pair) (p : Pair) (w : World) (h : KI w pw m K) (hp : K[i]? = some p) (hm : (m + 2) * 24 ≤ 140737488355328) :
    Calls Tryz.prog 18 #[.pointer (some ⟨pw, 0, none⟩), .pointer (some ⟨p.pc, 0, none⟩)] w fun e w' => e = .returned (.bool true) ∧ KI w' pw (m + 2) K ∧ Below pw w w' := by
  have HH := hideG (hello_ki pw m i K p w h hp (by omega))
  have HT := hideG (fun (W : World) (hW : KI W pw (m + 1) K) => told_ki pw (m + 1) i K p W hW hp (by omega))
  have HP := hideG (fun (W : World) (m' : Nat) (hW : KI W pw m' K) => (show PairAt W pw p from hW.pair hp))
  have ee : (p.s.1 == p.s.1) = true := by simp
  clear h hp
  go_enter Tryz.func18, Tryz.ntmps18
  go_wp2_with fail
  refine HH.out.mono ?_
  rintro e w1 ⟨rfl, hk1, hb1⟩
  have K1 := hideG hk1
  have B1 := hideG hb1
  have hp1 := HP.out w1 _ hk1
  obtain ⟨x0, x1⟩ := hp1.cells
  have HPH := hideG (cliPhase hp1.cli)
  have hpc := hp1.lt (x := p.pc) (.inl rfl)
  clear hk1 hb1 hp1
  go_wp2_with fail
  refine HPH.out.mono ?_
  rintro e w2 ⟨rfl, hw2⟩
  rw [hw2]
  clear hw2 x0 x1
  go_wp2_with fail
  refine (HT.out w1 K1.out).mono ?_
  rintro e w3 ⟨rfl, hk3, hb3⟩
  have hp3 := HP.out w3 _ hk3
  obtain ⟨x0, x1⟩ := hp3.cells
  have y13 := hp3.phase
  have hpc3 := hp3.lt (x := p.pc) (.inl rfl)
  have hyb3 := hp3.lt (x := p.yb) (.inr (.inr (.inl (.inl rfl))))
  have K3 := hideG hk3
  have B3 := hideG (B1.out.trans hb3)
  clear hk3 hb3 hp3
  generalize p.s.1 = ph at *
  generalize p.pc = pc at *
  generalize p.yb = yb at *
  go_wp2_with fail
  go_ret
  exact ⟨rfl, K3.out, B3.out⟩

/-- The World's list of clients. -/
theorem KI.list {w : World} {pw m : Nat} {K : List Pair} (h : KI w pw m K) : ∃ a cap, w.cell? ⟨pw, 0, none⟩ = some (.slice a K.length cap) ∧ w.frozen? ⟨pw, 0, none⟩ = false ∧ w.cell? ⟨pw, 1, none⟩ = some (.slice none 0 0) ∧ w.cell? ⟨pw, 2, none⟩ = some (.slice none 0 0) ∧ K.length ≤ cap ∧ cap ≤ 9223372036854775807 ∧ pw < w.heap.size ∧
    ∀ i p, K[i]? = some p → ∃ g, a = some ⟨g, 0, none⟩ ∧ g < w.heap.size ∧ w.cell? ⟨g, i, none⟩ = some (.pointer (some ⟨p.pc, 0, none⟩)) := by
  obtain ⟨F, nx, ls, h1, h2, _⟩ := h
  have c0 := cell_f h1.blk 0 (by omega)
  have c1 := (cell_f h1.blk 1 (by omega)).1
  have c2 := (cell_f h1.blk 2 (by omega)).1
  rw [h2.f1] at c1
  rw [h2.f2] at c2
  have h0 := h2.row
  rcases h2.row.2 with ⟨e0, hn⟩ | ⟨g, cap, cur, e0, _, _, hnc, hcm, _⟩
  · refine ⟨none, 0, by rw [c0.1, e0, hn], c0.2, c1, c2, by omega, by omega, h1.pw_lt, fun i p hp => ?_⟩
    have := (List.getElem?_eq_some_iff.1 hp).1
    omega
  · refine ⟨some ⟨g, 0, none⟩, cap, by rw [c0.1, e0], c0.2, c1, c2, hnc, by unfold maxLen at hcm; omega, h1.pw_lt, fun i p hp => ?_⟩
    have hil := (List.getElem?_eq_some_iff.1 hp).1
    rw [e0] at h0
    refine ⟨g, rfl, (h0.lt g rfl).2, ?_⟩
    rw [h0.cellAt i (by omega), List.getElem?_map, hp]; rfl

set_option maxHeartbeats 1000000 in
theorem ends_ki (pw m : Nat) (K : List Pair) (w : World) (h : KI w pw m K) (hm : (m + 2 * K.length) * 24 ≤ 140737488355328) :
    Calls Tryz.prog 10 #[.pointer (some ⟨pw, 0, none⟩)] w fun e w' => e = .returned (.bool true) ∧ KI w' pw (m + 2 * K.length) K ∧ Below pw w w' := by
  have H0 := hideG h
  have HS := hideG (fun (W : World) (j : Nat) (p : Pair) (hW : KI W pw (m + 2 * j) K) (hj : j < K.length) (hp : K[j]? = some p) => seen_ki pw (m + 2 * j) j K p W hW hp (by omega))
  have HG := hideG (fun j (hj : j < K.length) => (show ∃ p, K[j]? = some p from ⟨_, List.getElem?_eq_getElem hj⟩))
  clear h
  obtain ⟨n, hn⟩ : ∃ n, n = K.length := ⟨_, rfl⟩
  rw [← hn] at HS HG hm ⊢
  have HN := hideG hn
  clear hn
  go_enter Tryz.func10, Tryz.ntmps10
  go_wp2_with fail
  go_loopw [3] (fun i wr => ∃ j : Nat, j ≤ n ∧ i = .int .i64 j ∧ KI wr pw (m + 2 * j) K ∧ Below pw w wr) (fun i _ => n - (intOf i).toNat)
  case atStart => exact ⟨0, Nat.zero_le _, rfl, H0.out, Below.refl _ _⟩
  case round =>
    obtain ⟨j, hj, rfl, hk, hb⟩ := hrel
    have HK := hideG hk
    have HB := hideG hb
    obtain ⟨a, cap, c0, c0f, c1, c2, hnc, hcm, hpl, hel⟩ := hk.list
    have HE := hideG hel
    rw [← HN.out] at c0 hnc
    clear hk hb hel
    by_cases hlt : j < n
    · obtain ⟨p, hp⟩ := HG.out j hlt
      obtain ⟨g, rfl, hgl, e0⟩ := HE.out j p hp
      have HSJ := hideG (HS.out wr j p HK.out hlt hp)
      clear hp
      generalize p.pc = pc at *
      go_wp2_with fail
      refine HSJ.out.mono ?_
      rintro e w1 ⟨rfl, hk1, hb1⟩
      have K1 := hideG (show KI w1 pw (m + 2 * (j + 1)) K from hk1)
      have B1 := hideG (HB.out.trans hb1)
      clear hk1 hb1 e0 c0 c0f c1 c2
      go_wp2_with fail
      go_roundw
      case rel => exact ⟨j + 1, by omega, by go_num, K1.out, B1.out⟩
      case measure => simp [intOf]; omega
    · have ej : j = n := by omega
      subst ej
      go_wp2_with fail
      go_loop [5] (fun i => i = .int .i64 0) (fun _ => 0)
      case atStart => rfl
      case round =>
        subst hrel
        go_wp2_with fail
        go_loop [8] (fun i => i = .int .i64 0) (fun _ => 0)
        case atStart => rfl
        case round =>
          subst hrel
          go_wp2_with fail
          go_ret
          exact ⟨rfl, HK.out, HB.out⟩

end Go.Proofs.YtchideljndagjaaGreat

namespace Go.Proofs.YtchideljndagjaaGreat
open Go.ChangeShapes Go.WideShapes Go.ChangeAt Go.RowKit
set_option linter.unusedVariables false

def pickN (k : Int) (n : Nat) : Nat := if 0 ≤ k ∧ k < (n : Int) then k.toNat else 0
theorem pickN_lt (k : Int) {n : Nat} (h : 1 ≤ n) : pickN k n < n := by unfold pickN; split <;> omega

theorem pick_calls (k : Int) (n : Nat) (w : World) : Calls Tryz.prog 51 #[.int .i64 k, .int .i64 (n : Int)] w fun e w' => e = .returned (.int .i64 (pickN k n : Int)) ∧ w' = w := by
  by_cases h1 : k < 0
  · have H := hideG (show pickN k n = 0 by unfold pickN; rw [if_neg (by omega)])
    go_enter Tryz.func51, Tryz.ntmps51
    go_wp2_with fail
    go_ret
    exact ⟨by rw [H.out]; rfl, rfl⟩
  · by_cases h2 : (n : Int) ≤ k
    · have H := hideG (show pickN k n = 0 by unfold pickN; rw [if_neg (by omega)])
      go_enter Tryz.func51, Tryz.ntmps51
      go_wp2_with fail
      go_ret
      exact ⟨by rw [H.out]; rfl, rfl⟩
    · have H := hideG (show ((pickN k n : Nat) : Int) = k by unfold pickN; rw [if_pos (by omega)]; omega)
      go_enter Tryz.func51, Tryz.ntmps51
      go_wp2_with fail
      go_ret
      exact ⟨by rw [H.out]; rfl, rfl⟩

/-- The step's own block. -/
def opObj (kd x y z : Int) (r : Nat → Value) : Obj := .cells #[.int .i64 kd, .int .i64 x, .int .i64 y, .int .i64 z, r 0, r 1, r 2, r 3, r 4, r 5, r 6, r 7, r 8, r 9] 45
theorem op_cells {w W : World} {kd x y z : Int} {r : Nat → Value} {B : Nat} (hb : Below B (w.alloc (opObj kd x y z r)) W) (hB : w.heap.size < B) :
    W.cell? ⟨w.heap.size, 0, none⟩ = some (.int .i64 kd) ∧ W.cell? ⟨w.heap.size, 1, none⟩ = some (.int .i64 x) ∧ W.cell? ⟨w.heap.size, 5, none⟩ = some (r 1) ∧ (W.cell? ⟨w.heap.size, 9, none⟩ = some (r 5) ∧ W.cell? ⟨w.heap.size, 10, none⟩ = some (r 6) ∧ W.cell? ⟨w.heap.size, 11, none⟩ = some (r 7) ∧ W.cell? ⟨w.heap.size, 12, none⟩ = some (r 8)) ∧ W.cell? ⟨w.heap.size, 13, none⟩ = some (r 9) := by
  have hr : W.heap[w.heap.size]? = some (opObj kd x y z r) := (hb.block w.heap.size hB).trans (heap_alloc_new w _)
  have hc := fun i => cell_of_row W w.heap.size i _ _ (0, 0) hr
  exact ⟨(hc 0).trans rfl, (hc 1).trans rfl, (hc 5).trans rfl, ⟨(hc 9).trans rfl, (hc 10).trans rfl, (hc 11).trans rfl, (hc 12).trans rfl⟩, (hc 13).trans rfl⟩

set_option maxHeartbeats 2000000 in
set_option maxRecDepth 100000 in
theorem clients_hello (pw m : Nat) (K : List Pair) (x y z : Int) (r : Nat → Value) (w : World) (h : KI w pw m K) (hm : (m + 1) * 24 ≤ 140737488355328) :
    Calls Tryz.prog 15 #[.pointer (some ⟨pw, 0, none⟩), .agg #[.int .i64 12, .int .i64 x, .int .i64 y, .int .i64 z, r 0, r 1, r 2, r 3, r 4, r 5, r 6, r 7, r 8, r 9]] w fun e w' => e = .returned (.bool true) ∧ KI w' pw (m + 1) K ∧ Below pw w w' := by
  obtain ⟨W0, hW0⟩ : ∃ W0, W0 = w.alloc (opObj 12 x y z r) := ⟨_, rfl⟩
  have hb0 : Below w.heap.size w W0 := by rw [hW0]; exact (Below.refl _ _).alloc (Nat.le_refl _) _
  have z0 : w.heap.size < W0.heap.size := by rw [hW0]; simp
  have HOP := hideG (fun (W : World) (hb : Below W0.heap.size W0 W) => op_cells (W := W) (by rw [← hW0]; exact hb) z0)
  have K0 := hideG (h.below hb0)
  have hpw : pw < w.heap.size := by obtain ⟨_, _, _, h1, _⟩ := h; exact h1.pw_lt
  have HB0 := hideG (hb0.mono (Nat.le_of_lt hpw))
  unfold opObj at hW0
  have HW0 := hideG hW0
  obtain ⟨q0, q1, q5, -⟩ := HOP.out W0 (Below.refl _ _)
  obtain ⟨a, cap, c0, c0f, c1, c2, hnc, hcm, hpl, hel⟩ := K0.out.list
  have HE := hideG hel
  have HG := hideG (fun j (hj : j < K.length) => (show ∃ p, K[j]? = some p from ⟨_, List.getElem?_eq_getElem hj⟩))
  obtain ⟨n, hn⟩ : ∃ n, n = K.length := ⟨_, rfl⟩
  rw [← hn] at c0 hnc HG
  clear h hb0 hW0 hel hn
  by_cases hn0 : n = 0
  · subst hn0
    have FIN := hideG (K0.out.mono (m' := m + 1) (by omega))
    go_enter Tryz.func15, Tryz.ntmps15
    go_upto_region 1 with fail
    rw [← HW0.out]
    go_wp2_with fail
    go_ret
    exact ⟨rfl, FIN.out, HB0.out⟩
  have n1 : 1 ≤ n := by omega
  have hn0' : ((n : Int) == 0) = false := by simpa using hn0
  obtain ⟨i, hi⟩ : ∃ i, i = pickN x n := ⟨_, rfl⟩
  have hil : i < n := by rw [hi]; exact pickN_lt x n1
  have HPK := hideG (fun (W : World) => pick_calls x n W)
  rw [← hi] at HPK
  obtain ⟨p, hp⟩ := HG.out i hil
  obtain ⟨g, rfl, hgl, e0⟩ := HE.out i p hp
  have HPP := hideG hp
  obtain ⟨pc, hpc⟩ : ∃ pc, pc = p.pc := ⟨_, rfl⟩
  rw [← hpc] at e0
  have HPC := hideG hpc
  have hil' : (i : Int) < (n : Int) := by omega
  have hi0 : (0 : Int) ≤ (i : Int) := by omega
  clear hp hi hpc hn0
  go_enter Tryz.func15, Tryz.ntmps15
  go_upto_region 1 with fail
  rw [← HW0.out]
  go_upto_region 19 with fail
  go_quiet ((go_at_call 51; refine Calls.quiet_of_same (HPK.out _)))
  have HBN := hideG (below_drewN W0 nq)
  obtain ⟨W1, hW1⟩ : ∃ W1, W1 = W0.drewN nq := ⟨_, rfl⟩
  rw [← hW1] at HBN ⊢
  have s1 := HBN.out.size
  have K1 := hideG (K0.out.below HBN.out)
  have B1 := hideG (HB0.out.trans (HBN.out.mono (by omega)))
  clear hW1 q0 q1 q5 c0 c0f c1 c2 e0
  obtain ⟨q0, q1, q5, -⟩ := HOP.out W1 HBN.out
  have HC := hideG (hello_ki pw m i K p W1 K1.out HPP.out (by omega))
  rw [← HPC.out] at HC
  go_wp2_with fail
  refine HC.out.mono ?_
  rintro e w2 ⟨rfl, hk2, hb2⟩
  have K2 := hideG hk2
  have B2 := hideG (B1.out.trans hb2)
  clear hk2 hb2 q0 q1 q5
  go_wp2_with fail
  go_ret
  exact ⟨rfl, K2.out, B2.out⟩

set_option maxHeartbeats 2000000 in
set_option maxRecDepth 100000 in
theorem clients_phase (pw m : Nat) (K : List Pair) (x y z : Int) (r : Nat → Value) (w : World) (h : KI w pw m K) (hm : (m + 1) * 24 ≤ 140737488355328) :
    Calls Tryz.prog 15 #[.pointer (some ⟨pw, 0, none⟩), .agg #[.int .i64 13, .int .i64 x, .int .i64 y, .int .i64 z, r 0, r 1, r 2, r 3, r 4, r 5, r 6, r 7, r 8, r 9]] w fun e w' => e = .returned (.bool true) ∧ KI w' pw (m + 1) K ∧ Below pw w w' := by
  obtain ⟨W0, hW0⟩ : ∃ W0, W0 = w.alloc (opObj 13 x y z r) := ⟨_, rfl⟩
  have hb0 : Below w.heap.size w W0 := by rw [hW0]; exact (Below.refl _ _).alloc (Nat.le_refl _) _
  have z0 : w.heap.size < W0.heap.size := by rw [hW0]; simp
  have HOP := hideG (fun (W : World) (hb : Below W0.heap.size W0 W) => op_cells (W := W) (by rw [← hW0]; exact hb) z0)
  have K0 := hideG (h.below hb0)
  have hpw : pw < w.heap.size := by obtain ⟨_, _, _, h1, _⟩ := h; exact h1.pw_lt
  have HB0 := hideG (hb0.mono (Nat.le_of_lt hpw))
  unfold opObj at hW0
  have HW0 := hideG hW0
  obtain ⟨q0, q1, q5, -⟩ := HOP.out W0 (Below.refl _ _)
  obtain ⟨a, cap, c0, c0f, c1, c2, hnc, hcm, hpl, hel⟩ := K0.out.list
  have HE := hideG hel
  have HG := hideG (fun j (hj : j < K.length) => (show ∃ p, K[j]? = some p from ⟨_, List.getElem?_eq_getElem hj⟩))
  obtain ⟨n, hn⟩ : ∃ n, n = K.length := ⟨_, rfl⟩
  rw [← hn] at c0 hnc HG
  clear h hb0 hW0 hel hn
  by_cases hn0 : n = 0
  · subst hn0
    have FIN := hideG (K0.out.mono (m' := m + 1) (by omega))
    go_enter Tryz.func15, Tryz.ntmps15
    go_upto_region 1 with fail
    rw [← HW0.out]
    go_wp2_with fail
    go_ret
    exact ⟨rfl, FIN.out, HB0.out⟩
  have n1 : 1 ≤ n := by omega
  have hn0' : ((n : Int) == 0) = false := by simpa using hn0
  obtain ⟨i, hi⟩ : ∃ i, i = pickN x n := ⟨_, rfl⟩
  have hil : i < n := by rw [hi]; exact pickN_lt x n1
  have HPK := hideG (fun (W : World) => pick_calls x n W)
  rw [← hi] at HPK
  obtain ⟨p, hp⟩ := HG.out i hil
  obtain ⟨g, rfl, hgl, e0⟩ := HE.out i p hp
  have HPP := hideG hp
  obtain ⟨pc, hpc⟩ : ∃ pc, pc = p.pc := ⟨_, rfl⟩
  rw [← hpc] at e0
  have HPC := hideG hpc
  have hil' : (i : Int) < (n : Int) := by omega
  have hi0 : (0 : Int) ≤ (i : Int) := by omega
  clear hp hi hpc hn0
  go_enter Tryz.func15, Tryz.ntmps15
  go_upto_region 1 with fail
  rw [← HW0.out]
  go_upto_region 19 with fail
  go_quiet ((go_at_call 51; refine Calls.quiet_of_same (HPK.out _)))
  have HBN := hideG (below_drewN W0 nq)
  obtain ⟨W1, hW1⟩ : ∃ W1, W1 = W0.drewN nq := ⟨_, rfl⟩
  rw [← hW1] at HBN ⊢
  have s1 := HBN.out.size
  have K1 := hideG (K0.out.below HBN.out)
  have B1 := hideG (HB0.out.trans (HBN.out.mono (by omega)))
  clear hW1 q0 q1 q5 c0 c0f c1 c2 e0
  obtain ⟨q0, q1, q5, -⟩ := HOP.out W1 HBN.out
  have hp1 := K1.out.pair HPP.out
  obtain ⟨x0, x1⟩ := hp1.cells
  have y13 := hp1.phase
  have hpcl := hp1.lt (x := p.pc) (.inl rfl)
  have hyb := hp1.lt (x := p.yb) (.inr (.inr (.inl (.inl rfl))))
  have HPH := hideG (cliPhase hp1.cli)
  rw [← HPC.out] at x0 x1 hpcl
  have ee : (p.s.1 == p.s.1) = true := by simp
  clear hp1
  generalize p.s.1 = ph at *
  generalize p.yb = yb at *
  generalize p.bx = bx at *
  go_wp2_with fail
  refine HPH.out.mono ?_
  rintro e w2 ⟨rfl, hw2⟩
  rw [hw2]
  clear hw2 q0 q1 q5
  go_wp2_with fail
  go_ret
  exact ⟨rfl, K1.out.mono (by omega), B1.out⟩

set_option maxHeartbeats 2000000 in
set_option maxRecDepth 100000 in
theorem clients_told (pw m : Nat) (K : List Pair) (x y z : Int) (r : Nat → Value) (w : World) (h : KI w pw m K) (hm : (m + 1) * 24 ≤ 140737488355328) :
    Calls Tryz.prog 15 #[.pointer (some ⟨pw, 0, none⟩), .agg #[.int .i64 14, .int .i64 x, .int .i64 y, .int .i64 z, r 0, r 1, r 2, r 3, r 4, r 5, r 6, r 7, r 8, r 9]] w fun e w' => e = .returned (.bool true) ∧ KI w' pw (m + 1) K ∧ Below pw w w' := by
  obtain ⟨W0, hW0⟩ : ∃ W0, W0 = w.alloc (opObj 14 x y z r) := ⟨_, rfl⟩
  have hb0 : Below w.heap.size w W0 := by rw [hW0]; exact (Below.refl _ _).alloc (Nat.le_refl _) _
  have z0 : w.heap.size < W0.heap.size := by rw [hW0]; simp
  have HOP := hideG (fun (W : World) (hb : Below W0.heap.size W0 W) => op_cells (W := W) (by rw [← hW0]; exact hb) z0)
  have K0 := hideG (h.below hb0)
  have hpw : pw < w.heap.size := by obtain ⟨_, _, _, h1, _⟩ := h; exact h1.pw_lt
  have HB0 := hideG (hb0.mono (Nat.le_of_lt hpw))
  unfold opObj at hW0
  have HW0 := hideG hW0
  obtain ⟨q0, q1, q5, -⟩ := HOP.out W0 (Below.refl _ _)
  obtain ⟨a, cap, c0, c0f, c1, c2, hnc, hcm, hpl, hel⟩ := K0.out.list
  have HE := hideG hel
  have HG := hideG (fun j (hj : j < K.length) => (show ∃ p, K[j]? = some p from ⟨_, List.getElem?_eq_getElem hj⟩))
  obtain ⟨n, hn⟩ : ∃ n, n = K.length := ⟨_, rfl⟩
  rw [← hn] at c0 hnc HG
  clear h hb0 hW0 hel hn
  by_cases hn0 : n = 0
  · subst hn0
    have FIN := hideG (K0.out.mono (m' := m + 1) (by omega))
    go_enter Tryz.func15, Tryz.ntmps15
    go_upto_region 1 with fail
    rw [← HW0.out]
    go_wp2_with fail
    go_ret
    exact ⟨rfl, FIN.out, HB0.out⟩
  have n1 : 1 ≤ n := by omega
  have hn0' : ((n : Int) == 0) = false := by simpa using hn0
  obtain ⟨i, hi⟩ : ∃ i, i = pickN x n := ⟨_, rfl⟩
  have hil : i < n := by rw [hi]; exact pickN_lt x n1
  have HPK := hideG (fun (W : World) => pick_calls x n W)
  rw [← hi] at HPK
  obtain ⟨p, hp⟩ := HG.out i hil
  obtain ⟨g, rfl, hgl, e0⟩ := HE.out i p hp
  have HPP := hideG hp
  obtain ⟨pc, hpc⟩ : ∃ pc, pc = p.pc := ⟨_, rfl⟩
  rw [← hpc] at e0
  have HPC := hideG hpc
  have hil' : (i : Int) < (n : Int) := by omega
  have hi0 : (0 : Int) ≤ (i : Int) := by omega
  clear hp hi hpc hn0
  go_enter Tryz.func15, Tryz.ntmps15
  go_upto_region 1 with fail
  rw [← HW0.out]
  go_upto_region 19 with fail
  go_quiet ((go_at_call 51; refine Calls.quiet_of_same (HPK.out _)))
  have HBN := hideG (below_drewN W0 nq)
  obtain ⟨W1, hW1⟩ : ∃ W1, W1 = W0.drewN nq := ⟨_, rfl⟩
  rw [← hW1] at HBN ⊢
  have s1 := HBN.out.size
  have K1 := hideG (K0.out.below HBN.out)
  have B1 := hideG (HB0.out.trans (HBN.out.mono (by omega)))
  clear hW1 q0 q1 q5 c0 c0f c1 c2 e0
  obtain ⟨q0, q1, q5, -⟩ := HOP.out W1 HBN.out
  have HC := hideG (told_ki pw m i K p W1 K1.out HPP.out (by omega))
  rw [← HPC.out] at HC
  go_wp2_with fail
  refine HC.out.mono ?_
  rintro e w2 ⟨rfl, hk2, hb2⟩
  have K2 := hideG hk2
  have B2 := hideG (B1.out.trans hb2)
  clear hk2 hb2 q0 q1 q5
  go_wp2_with fail
  go_ret
  exact ⟨rfl, K2.out, B2.out⟩

end Go.Proofs.YtchideljndagjaaGreat

namespace Go.Proofs.YtchideljndagjaaGreat
open Go.ChangeShapes Go.WideShapes Go.ChangeAt Go.RowKit
set_option linter.unusedVariables false

theorem rans_ok {c : Cli.Cl} (hc : Cli.Good c) {s : Cli.St} {zs : List Int} (hB : Frm.isB zs) {f : Cli.Fr} (h : ansD c s zs = some f) : Frm.okF f.1 f.2.1 f.2.2 = true := by
  cases hd : Frm.decF zs with
  | none => rw [(stepD_none hd).2] at h; cases h
  | some g =>
    obtain ⟨k, fr, l⟩ := g
    by_cases k1 : s.1 = 1 ∧ k = 2
    · obtain ⟨p1, rfl⟩ := k1
      rw [(stepD_keys (c := c) hd p1).2] at h
      split at h
      · cases h; exact Cli.sharing_ok hc (Frm.okF_parts (Frm.enc_dec hB hd).1).2.2.1
      · cases h
    by_cases k2 : s.1 = 2 ∧ k = 4
    · obtain ⟨p1, rfl⟩ := k2
      rw [(stepD_box (c := c) hd p1).2] at h
      split at h
      · cases h; exact Cli.masking_ok hc _ _
      · cases h
    by_cases k3 : s.1 = 3 ∧ k = 6
    · obtain ⟨p1, rfl⟩ := k3
      rw [(stepD_ask (c := c) hd p1).2] at h
      split at h
      · cases h; exact Cli.tells_ok hc _ _ _
      · cases h
    rw [(stepD_rest (c := c) hd k1 k2 k3).2] at h
    cases h

/-- The bytes of an answer. -/
def ansE : Option Cli.Fr → List Int
  | none => []
  | some f => Frm.encF f.1 f.2.1 f.2.2
theorem ansE_isB {c : Cli.Cl} (hc : Cli.Good c) {s : Cli.St} {zs : List Int} (hB : Frm.isB zs) : Frm.isB (ansE (ansD c s zs)) := by
  cases e : ansD c s zs with
  | none => intro x hx; cases hx
  | some f => exact encF_isB (rans_ok hc hB e)
theorem Ans.owns {w w' : World} {b : Nat} {S' : PS} {va : Value} {o : Option Cli.Fr} (h : Ans w w' b S' va o) : w'.ownsRow w.heap.size 5 1 va (ansE o).length ((ansE o).map (Value.int .u8)) ∧ ∀ x, va.ownBlock = some x → ¬ CFoot b S' x := by
  cases o with
  | none => rw [show va = .slice none 0 0 from h]; exact ⟨World.ownsRow_nil _ _ _ _, fun x hx => by cases hx⟩
  | some f => exact h
theorem RAns.owns {w w' : World} {va : Value} {o : Option Cli.Fr} (h : RAns w w' va o) : w'.ownsRow w.heap.size 5 1 va (ansE o).length ((ansE o).map (Value.int .u8)) := by
  cases o with
  | none => rw [show va = .slice none 0 0 from h]; exact World.ownsRow_nil _ _ _ _
  | some f => exact h

section
variable {nx : Int} {w w' : World} {pw : Nat} {F F' : Nat → Value} {ls ls' : Nat → List Ow} {K : List Pair}
/-- Pair number i has turned, and the World owns more. -/
theorem InvK.turnq (h : InvK w pw F ls K) (hi : InvW w pw F nx ls) {i : Nat} {p p' : Pair} (hp : K[i]? = some p) (hpc : p'.pc = p.pc) (hc : Chg (fun x => PFoot p x ∨ x = pw ∨ Foot F ls x) w w') (hfs : ∀ j, j < 3 → F' j = F j) (hfoot : ∀ b, b < w.heap.size → ¬ Foot F ls b → ¬ Foot F' ls' b)
    (hp' : PairAt w' pw p') (hf : ∀ x, PFoot p' x → PFoot p x ∨ w.heap.size ≤ x) (hnf : ∀ x, PFoot p' x → ¬ Foot F' ls' x) : InvK w' pw F' ls' (K.set i p') := by
  obtain ⟨tg, t1, t2, t3⟩ := h.tag
  have hlt := hi.pw_lt
  have hil : i < K.length := (List.getElem?_eq_some_iff.1 hp).1
  have hpm := List.mem_of_getElem? hp
  refine ⟨?_, by rw [hfs 1 (by omega)]; exact h.f1, by rw [hfs 2 (by omega)]; exact h.f2, fun q hq => ?_, ?_⟩
  · have e : (K.set i p').map (fun p => Value.pointer (some ⟨p.pc, 0, none⟩)) = K.map (fun p => Value.pointer (some ⟨p.pc, 0, none⟩)) := by
      apply List.ext_getElem?
      intro j
      rw [List.getElem?_map, List.getElem?_map, List.getElem?_set]
      by_cases e : i = j
      · subst e; rw [if_pos rfl, if_pos hil, hp]; simp [hpc]
      · rw [if_neg e]
    rw [e, List.length_set, hfs 0 (by omega)]
    exact ownsRow_chg h.row hc (fun b hb e => by
      rcases e with e | e | e
      · have a := t1 i p b hp e; have b' := (t2 b hb).1; omega
      · have := h.row.lt b hb; omega
      · exact (t2 b hb).2 e)
  · obtain ⟨j, hj⟩ := List.mem_iff_getElem?.1 hq
    rw [List.getElem?_set] at hj
    by_cases e : i = j
    · subst e
      rw [if_pos rfl, if_pos hil] at hj
      cases hj; exact hp'
    · rw [if_neg e] at hj
      have hqm := List.mem_of_getElem? hj
      refine (h.pairs q hqm).keep hc.size (fun x hx => hc.block x ((h.pairs q hqm).lt hx) (fun e2 => ?_)) (fun x hx => hc.block x (by omega) (fun e2 => ?_))
      · rcases e2 with e2 | e2 | e2
        · have a := t1 j q x hj hx; have b := t1 i p x hp e2; omega
        · have := (h.pairs q hqm).lo x hx; omega
        · have a := t1 j q x hj hx; have b := t3 x e2; omega
      · rcases e2 with e2 | e2 | e2
        · have := (h.pairs p hpm).lo x e2; omega
        · omega
        · have := hi.foot_lt e2; omega
  · classical
    obtain ⟨tg', ht⟩ : ∃ tg' : Nat → Nat, ∀ x, tg' x = if x < w.heap.size then tg x else (if PFoot p' x then i + 1 else 0) := ⟨_, fun _ => rfl⟩
    refine ⟨tg', fun j q x hq hx => ?_, fun x hx => ?_, fun x hx => ?_⟩
    · rw [ht]
      rw [List.getElem?_set] at hq
      by_cases e : i = j
      · subst e
        rw [if_pos rfl, if_pos hil] at hq
        cases hq
        by_cases hl : x < w.heap.size
        · rw [if_pos hl]
          rcases hf x hx with h1 | h1
          · exact t1 i p x hp h1
          · omega
        · rw [if_neg hl, if_pos hx]
      · rw [if_neg e] at hq
        rw [if_pos ((h.pairs q (List.mem_of_getElem? hq)).lt hx)]
        exact t1 j q x hq hx
    · rw [hfs 0 (by omega)] at hx
      have hl := (h.row.lt x hx).2
      rw [ht, if_pos hl]
      exact ⟨(t2 x hx).1, hfoot x hl (t2 x hx).2⟩
    · rw [ht]
      by_cases hl : x < w.heap.size
      · rw [if_pos hl]
        by_cases hy : Foot F ls x
        · exact t3 x hy
        · exact absurd hx (hfoot x hl hy)
      · rw [if_neg hl]
        by_cases hy : PFoot p' x
        · exact absurd hx (hnf x hy)
        · rw [if_neg hy]
end

/-- Both have taken the bytes: the pair is one again. -/
theorem pair_took {W1 w2 w3 w4 w5 : World} {pw : Nat} {p : Pair} {zs : List Int} {S' : PS} {R' : RS} {hh' : List Cli.Fr} {vs' : List Value} (hp : PairAt W1 pw p) (hb2 : Below W1.heap.size W1 w2) (ht : Took w2 w3 p.bx p.c (stepD p.c p.s zs) p.S S') (hb4 : Below w3.heap.size w3 w4)
    (hr : RTook w4 w5 pw p.yb p.R R' p.hh hh' p.vs vs') (hl : Cli.lk p.R.c hh' = stepD p.R.c (Cli.lk p.R.c p.hh) zs) :
    PairAt w5 pw ⟨p.pc, p.bx, p.yb, p.c, stepD p.c p.s zs, S', R', hh', vs'⟩ ∧ Chg (fun x => PFoot p x) W1 w5 ∧
      (∀ x, PFoot ⟨p.pc, p.bx, p.yb, p.c, stepD p.c p.s zs, S', R', hh', vs'⟩ x → PFoot p x ∨ (CFoot p.bx S' x ∧ w2.heap.size ≤ x ∧ x < w3.heap.size) ∨ w4.heap.size ≤ x) := by
  have z2 := hb2.size
  have z3 := ht.chg.size
  have z4 := hb4.size
  have z5 := hr.chg.size
  have hpcf : PFoot p p.pc := .inl rfl
  have hbxf : PFoot p p.bx := .inr (.inl (.inl rfl))
  have hybf : PFoot p p.yb := .inr (.inr (.inl (.inl rfl)))
  have lpc := hp.lt hpcf
  have lbx := hp.lt hbxf
  have lyb := hp.lt hybf
  have hchg : Chg (fun x => PFoot p x) W1 w5 := (((Chg.of_below (S := fun x => PFoot p x) hb2).trans ht.chg (fun x e _ => by rw [e]; exact hbxf)).grow hb4).trans hr.chg (fun x e _ => by
    rcases e with e | e
    · rw [e]; exact hybf
    · exact .inr (.inr (.inl (.inr e))))
  have cfoot : ∀ x, CFoot p.bx S' x → CFoot p.bx p.S x ∨ (w2.heap.size ≤ x ∧ x < w3.heap.size) := fun x hx => by
    rcases ht.foot x hx with h1 | h1
    · exact .inl h1
    · exact .inr ⟨h1, ht.cli.low x hx⟩
  have rfoot : ∀ x, RFoot p.yb R' vs' x → RFoot p.yb p.R p.vs x ∨ w4.heap.size ≤ x := hr.foot
  have lc : ∀ x, CFoot p.bx p.S x → x < W1.heap.size := fun x hx => hp.lt (.inr (.inl hx))
  have lr : ∀ x, RFoot p.yb p.R p.vs x → x < W1.heap.size := fun x hx => hp.lt (.inr (.inr hx))
  have nbx : p.bx ≠ p.pc := fun e => hp.ap2.1 (by rw [← e]; exact .inl rfl)
  refine ⟨⟨?_, ?_, hr.ref, hr.cl.trans hp.eqc, ?_, fun x hx => ?_, fun x hx hy => ?_, fun hx => ?_, fun hx => ?_⟩, hchg, fun x hx => ?_⟩
  · show w5.heap[p.pc]? = _
    rw [hr.chg.block p.pc (by omega) (fun e => ?_), hb4.block p.pc (by omega), ht.chg.block p.pc (by omega) (fun e => nbx e.symm), hb2.block p.pc lpc]
    · exact hp.row
    · rcases e with e | e
      · exact hp.ap2.2 (by rw [e]; exact .inl (.inl rfl))
      · exact hp.ap2.2 (.inl (.inr e))
  · show CliW w5 p.bx p.c (stepD p.c p.s zs) S'
    refine (ht.cli.below hb4).chg hr.chg (fun x hx e => ?_)
    have hR : RFoot p.yb p.R p.vs x := .inl e
    rcases cfoot x hx with h1 | h1
    · exact hp.ap1 x h1 hR
    · have := lr x hR; omega
  · show Cli.lk p.c hh' = stepD p.c p.s zs
    rw [← hp.eqc, hl, hp.eqc, hp.eqs]
  · rcases hx with hx | hx | hx
    · exact hp.lo x (.inl hx)
    · rcases cfoot x hx with h1 | h1
      · exact hp.lo x (.inr (.inl h1))
      · have := hp.lo p.pc hpcf; omega
    · rcases rfoot x hx with h1 | h1
      · exact hp.lo x (.inr (.inr h1))
      · have := hp.lo p.pc hpcf; omega
  · rcases cfoot x hx with h1 | h1
    · rcases rfoot x hy with h2 | h2
      · exact hp.ap1 x h1 h2
      · have := lc x h1; omega
    · rcases rfoot x hy with h2 | h2
      · have := lr x h2; omega
      · omega
  · rcases cfoot p.pc hx with h1 | h1
    · exact hp.ap2.1 h1
    · omega
  · rcases rfoot p.pc hx with h1 | h1
    · exact hp.ap2.2 h1
    · omega
  · rcases hx with hx | hx | hx
    · exact .inl (.inl hx)
    · rcases cfoot x hx with h1 | h1
      · exact .inl (.inr (.inl h1))
      · exact .inr (.inl ⟨hx, h1⟩)
    · rcases rfoot x hx with h1 | h1
      · exact .inl (.inr (.inr h1))
      · exact .inr (.inr h1)

end Go.Proofs.YtchideljndagjaaGreat
