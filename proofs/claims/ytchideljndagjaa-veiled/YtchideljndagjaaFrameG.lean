/- Contract of Decode, and of the calls of package veil. -/
import Derived.Test.YtchideljndagjaaFrameF
import Derived.Laws.ResultCell
namespace Go.Proofs.Ytchideljndagjaa
open Go.ChangeShapes Go.WideShapes Go.ChangeAt Go.RowKit
set_option linter.unusedVariables false

theorem infoIt : (Try.prog.info? 91).map (fun i => (i.zero, i.size, i.bytes)) = some (some (.agg #[.int .i64 0, .int .i64 0, .int .i64 0, .int .i64 0]), 4, 32) := by kernel_rfl

/-- What Decode answers: kind, from, items, error. -/
def dK (b : List Int) : Int := match Frm.decF b with | some f => f.1 | none => 0
def dF (b : List Int) : Int := match Frm.decF b with | some f => f.2.1 | none => 0
def dL (b : List Int) : List Frm.It := match Frm.decF b with | some f => f.2.2 | none => []
def dE (b : List Int) : Int := match Frm.decF b with | some _ => 0 | none => 4
theorem d_none {b : List Int} (h : Frm.decF b = none) : dK b = 0 ∧ dF b = 0 ∧ dL b = [] ∧ dE b = 4 := by
  unfold dK dF dL dE; rw [h]; exact ⟨rfl, rfl, rfl, rfl⟩
theorem d_some {b : List Int} {k fr : Int} {l : List Frm.It} (h : Frm.decF b = some (k, fr, l)) : dK b = k ∧ dF b = fr ∧ dL b = l ∧ dE b = 0 := by
  unfold dK dF dL dE; rw [h]; exact ⟨rfl, rfl, rfl, rfl⟩

theorem rdN_in {b : List Int} (hb : Frm.isB b) (a : Nat) : inI (Frm.rdN b a) := by
  unfold inI Frm.rdN
  have h0 := Frm.isB_at hb a
  have h1 := Frm.isB_at hb (a + 1)
  have h2 := Frm.isB_at hb (a + 2)
  have h3 := Frm.isB_at hb (a + 3)
  have h4 := Frm.isB_at hb (a + 4)
  have h5 := Frm.isB_at hb (a + 5)
  have h6 := Frm.isB_at hb (a + 6)
  have h7 := Frm.isB_at hb (a + 7)
  split
  · omega
  · unfold Frm.numAt; omega

theorem rdI_in {b : List Int} (hb : Frm.isB b) (k : Int) (a : Nat) : inIt (Frm.rdI k b a) := by
  have z : inI 0 := by unfold inI; omega
  have h0 := Frm.isB_at hb a
  refine ⟨?_, ?_, ?_, ?_⟩
  · show inI (Frm.bAt b a); unfold inI; omega
  · show inI (if 1 ≤ Frm.wid k then Frm.rdN b (a + 1) else 0); split; exact rdN_in hb _; exact z
  · show inI (if 2 ≤ Frm.wid k then Frm.rdN b (a + 9) else 0); split; exact rdN_in hb _; exact z
  · show inI (if 3 ≤ Frm.wid k then Frm.rdN b (a + 17) else 0); split; exact rdN_in hb _; exact z

theorem rdL_in {b : List Int} (hb : Frm.isB b) (k : Int) (m : Nat) : ∀ x ∈ Frm.rdL k b m, inIt x := by
  intro x hx
  unfold Frm.rdL at hx
  obtain ⟨i, _, rfl⟩ := List.mem_map.1 hx
  exact rdI_in hb k _

theorem rdL_length (k : Int) (b : List Int) (m : Nat) : (Frm.rdL k b m).length = m := by simp [Frm.rdL]
theorem rdL_succ (k : Int) (b : List Int) (m : Nat) : Frm.rdL k b (m + 1) = Frm.rdL k b m ++ [Frm.rdI k b (3 + m * Frm.size k)] := by
  unfold Frm.rdL; rw [List.range_succ, List.map_append]; rfl

theorem cell_four_new (w : World) (x y z u : Value) (t : TypeId) : ∀ j c, ([x, y, z, u] : List Value)[j]? = some c → (w.alloc (.cells #[x, y, z, u] t)).cell? ((⟨w.heap.size, 0, none⟩ : Addr).add j) = some c := by
  intro j c hj
  match j, hj with
  | 0, hj => simp at hj; subst hj; simp [Addr.add]
  | 1, hj => simp at hj; subst hj; simp [Addr.add]
  | 2, hj => simp at hj; subst hj; simp [Addr.add]
  | 3, hj => simp at hj; subst hj; simp [Addr.add]

theorem owns_form {w : World} {B : Nat} {e : TypeId} {size : Nat} {v : Value} {n : Nat} {xs : List Value} (h : w.ownsRow B e size v n xs) : ∃ a c, v = .slice a n c := by
  rcases h.2 with ⟨rfl, rfl⟩ | ⟨g, cap, cur, rfl, _⟩
  · exact ⟨_, _, rfl⟩
  · exact ⟨_, _, rfl⟩

/-- Two results, the first of them a struct in a block that is known whole. -/
theorem results_row_tmp {P : Program} {fn : Func} {p u : Tmp} {ty : TypeId} (h : fn.results = #[.cell p ty, .tmp u]) (tmps : Array Value) (w : World) (g : Nat) (t : TypeId) (cs : Array Value) (fr : Nat × Nat) (d : TypeDesc)
    (hp : tmps.getD p undef = .pointer (some ⟨g, 0, none⟩)) (hg : w.heap[g]? = some (.cells cs t fr))
    (hu : P.underlying ty = some d) (hd : (match d with | .struct _ | .array _ _ => true | _ => false) = true) (hi : (P.info? ty).map (·.size) = some cs.size) :
    (results fn tmps).run P w = .ok (.tuple #[.agg cs, tmps.getD u undef]) w := by
  rw [results_cell_tmp h, hp]
  simp [asAddr, run_loadVar_row w g t ty cs fr d hg hu hd hi]

theorem sizeFr : (Try.prog.info? 52).map (·.size) = some 3 := by kernel_rfl

theorem frame_row {w : World} {g : Nat} {a b c : Value} (x y z : Value) (h : w.heap[g]? = some (.cells #[a, b, c] 52 (0, 0))) :
    (((w.setCell ⟨g, 0, none⟩ x).setCell ⟨g, 1, none⟩ y).setCell ⟨g, 2, none⟩ z).heap[g]? = some (.cells #[x, y, z] 52 (0, 0)) :=
  heap_setCell_same _ g 2 #[x, y, c] 52 z (heap_setCell_same _ g 1 #[x, b, c] 52 y (heap_setCell_same w g 0 #[a, b, c] 52 x h))

theorem chg3 (w : World) (g : Nat) (x y z : Value) : Chg (fun b => b = g) w (((w.setCell ⟨g, 0, none⟩ x).setCell ⟨g, 1, none⟩ y).setCell ⟨g, 2, none⟩ z) := by
  have h1 : Chg (fun b => b = g) w (w.setCell ⟨g, 0, none⟩ x) := Chg.setCell w ⟨g, 0, none⟩ x
  have h2 : Chg (fun b => b = g) (w.setCell ⟨g, 0, none⟩ x) ((w.setCell ⟨g, 0, none⟩ x).setCell ⟨g, 1, none⟩ y) := Chg.setCell (w.setCell ⟨g, 0, none⟩ x) ⟨g, 1, none⟩ y
  have h3 : Chg (fun b => b = g) ((w.setCell ⟨g, 0, none⟩ x).setCell ⟨g, 1, none⟩ y) (((w.setCell ⟨g, 0, none⟩ x).setCell ⟨g, 1, none⟩ y).setCell ⟨g, 2, none⟩ z) := Chg.setCell ((w.setCell ⟨g, 0, none⟩ x).setCell ⟨g, 1, none⟩ y) ⟨g, 2, none⟩ z
  exact (h1.trans h2 (fun _ e _ => e)).trans h3 (fun _ e _ => e)

theorem ret_dec {k fr c : Int} {v : Value} {b : List Int} {v' : Value} (h1 : dK b = k) (h2 : dF b = fr) (h3 : v = v') (h4 : dE b = c) :
    Ending.returned (.tuple #[.agg #[.int .i64 k, .int .i64 fr, v], .int .i64 c]) = Ending.returned (.tuple #[.agg #[.int .i64 (dK b), .int .i64 (dF b), v'], .int .i64 (dE b)]) := by
  rw [h1, h2, h3, h4]

set_option maxHeartbeats 1000000 in
set_option maxRecDepth 100000 in
theorem decode_calls (v : Value) (zs : List Int) (w : World) (h : BytesAt w v zs) :
    Calls Try.prog 53 #[v] w fun e w' => ∃ va, e = .returned (.tuple #[.agg #[.int .i64 (dK zs), .int .i64 (dF zs), va], .int .i64 (dE zs)]) ∧ w'.ownsRow w.heap.size 91 4 va (dL zs).length (flat4 (dL zs)) ∧ Below w.heap.size w w' := by
  obtain ⟨i1, hi1, hy0, hy1, hy2⟩ := info_parts infoIt
  have HM := hideG (fun (w1 : World) (hb : Below w.heap.size w w1) => h.below hb)
  have HD := hideG (show Frm.decF zs = (if zs.length < 3 then none else if zs.length = 3 + (Frm.bAt zs 2).toNat * Frm.size (Frm.bAt zs 0) then
    if Frm.okF (Frm.bAt zs 0) (Frm.bAt zs 1) (Frm.rdL (Frm.bAt zs 0) zs (Frm.bAt zs 2).toNat) = true then some (Frm.bAt zs 0, Frm.bAt zs 1, Frm.rdL (Frm.bAt zs 0) zs (Frm.bAt zs 2).toNat) else none
    else none) from rfl)
  obtain ⟨a, cap, rfl, l2, l3, hb, hc⟩ := bytes_view h
  have HB := hideG hb
  have HC := hideG hc
  clear h hb hc
  obtain ⟨L, hL⟩ : ∃ L, L = zs.length := ⟨_, rfl⟩
  rw [← hL] at l2 HM HC HD ⊢
  have HL := hideG hL
  clear hL
  by_cases t3 : L < 3
  · have H := hideG (d_none (show Frm.decF zs = none by rw [HD.out, if_pos t3]))
    have t3' : (L : Int) < 3 := by omega
    go_enter Try.func53, Try.ntmps53
    go_wp2_with fail
    go_returns
    refine ⟨_, ret_dec H.out.1 H.out.2.1 rfl H.out.2.2.2, ?_, by go_grown⟩
    rw [H.out.2.2.1]; exact World.ownsRow_nil _ _ _ _
  have t3' : ¬ (L : Int) < 3 := by omega
  obtain ⟨b, off, rfl, hlt, c0⟩ := HC.out 0 (by omega)
  obtain ⟨b', off', ea, _, c1⟩ := HC.out 1 (by omega)
  simp only [Option.some.injEq, Addr.mk.injEq, and_true] at ea
  obtain ⟨rfl, rfl⟩ := ea
  obtain ⟨b', off', ea, _, c2⟩ := HC.out 2 (by omega)
  simp only [Option.some.injEq, Addr.mk.injEq, and_true] at ea
  obtain ⟨rfl, rfl⟩ := ea
  rw [Nat.add_zero] at c0
  have gne : b ≠ w.heap.size := by omega
  have B0 := Frm.isB_at HB.out 0
  have B1 := Frm.isB_at HB.out 1
  have B2 := Frm.isB_at HB.out 2
  obtain ⟨k, hk⟩ : ∃ k, k = Frm.bAt zs 0 := ⟨_, rfl⟩
  obtain ⟨fr, hfr⟩ : ∃ fr, fr = Frm.bAt zs 1 := ⟨_, rfl⟩
  obtain ⟨n, hn⟩ : ∃ n : Nat, n = (Frm.bAt zs 2).toNat := ⟨_, rfl⟩
  have hn' : Frm.bAt zs 2 = (n : Int) := by omega
  rw [← hk] at c0 B0 HD
  rw [← hfr] at c1 B1 HD
  rw [← hn] at HD
  rw [hn'] at c2 B2
  clear hk hfr hn hn'
  have hs := Frm.wid_le k
  have hS : (Frm.size k : Int) = 1 + 8 * (Frm.wid k : Int) := by unfold Frm.size; omega
  have HRS := hideG (fun m => rdL_succ k zs m)
  obtain ⟨S, hSS⟩ : ∃ S, S = Frm.size k := ⟨_, rfl⟩
  rw [← hSS] at hS HD HRS
  have HSS := hideG hSS
  have s25 : S ≤ 25 := by omega
  clear hs hS hSS
  obtain ⟨M, hM⟩ : ∃ M, M = n * S := ⟨_, rfl⟩
  have hM2 : M ≤ 255 * 25 := by rw [hM]; exact Nat.mul_le_mul (by omega) s25
  have eM : (n : Int) * (S : Int) = (M : Int) := by rw [hM, Int.natCast_mul]
  rw [← hM] at HD
  have HMM := hideG hM
  clear hM
  obtain ⟨bx, hbx⟩ : ∃ bx, bx = w.alloc (.cells #[.int .i64 0, .int .i64 0, .slice none 0 0] 52) := ⟨_, rfl⟩
  have sbx : bx.heap.size = w.heap.size + 1 := by rw [hbx]; simp
  have BX := hideG (show Below w.heap.size w bx by rw [hbx]; exact (Below.refl _ _).alloc (Nat.le_refl _) _)
  by_cases tl : L = 3 + M
  · have HD2 := hideG (show Frm.decF zs = if Frm.okF k fr (Frm.rdL k zs n) = true then some (k, fr, Frm.rdL k zs n) else none by rw [HD.out, if_neg t3, if_pos tl])
    have tl' : ((L : Int) != 3 + (M : Int)) = false := by rw [tl]; simp
    have HTL := hideG tl
    clear tl
    have CBX := hideG (show ∀ w1, Below (w.heap.size + 1) bx w1 → w1.heap[w.heap.size]? = some (.cells #[.int .i64 0, .int .i64 0, .slice none 0 0] 52 (0, 0)) from fun w1 hb => by
      rw [hb.block w.heap.size (by omega), hbx]; exact heap_alloc_new w _)
    go_enter Try.func53, Try.ntmps53
    go_wp2_with fail
    refine (itemSize_calls _ _).mono ?_
    rintro e w' ⟨rfl, hw'⟩
    rw [← hbx] at hw'
    rw [hw', ← HSS.out]
    clear hw' hbx
    go_wp2_with fail
    go_loopw [7, 8] (fun v i wr => ∃ m : Nat, m ≤ n ∧ i = .int .i64 m ∧ wr.ownsRow (w.heap.size + 1) 91 4 v m (flat4 (Frm.rdL k zs m)) ∧ Below (w.heap.size + 1) bx wr) (fun _ i _ => n - (intOf i).toNat)
    case atStart => exact ⟨0, Nat.zero_le _, rfl, World.ownsRow_nil _ _ _ _, Below.refl _ _⟩
    case round =>
      obtain ⟨m, hm, rfl, hown, hbel⟩ := hrel
      have s2 := hbel.size
      have OW := hideG hown
      have BL := hideG hbel
      have BW := hideG (BX.out.trans (hbel.mono (by omega)))
      by_cases hlm : m < n
      · obtain ⟨MS, hMS⟩ : ∃ MS, MS = m * S := ⟨_, rfl⟩
        have hMS2 : MS + S ≤ M := by
          have : (m + 1) * S ≤ n * S := Nat.mul_le_mul_right _ hlm
          rw [Nat.add_mul, ← hMS, ← HMM.out] at this; omega
        have eMS : (m : Int) * (S : Int) = (MS : Int) := by rw [hMS, Int.natCast_mul]
        have HMS := hideG hMS
        have HR := hideG (show Frm.rdL k zs (m + 1) = Frm.rdL k zs m ++ [Frm.rdI k zs (3 + MS)] by rw [HMS.out]; exact HRS.out m)
        obtain ⟨x, hx⟩ : ∃ x, x = Frm.rdI k zs (3 + MS) := ⟨_, rfl⟩
        rw [← hx] at HR
        have HX := hideG hx
        clear hown hbel hMS hx
        go_wp2_with fail
        refine (readItem_calls _ zs k _ (3 + MS) _ (HM.out _ BW.out) (by omega) (by rw [← HL.out, ← HSS.out, HTL.out]; omega)).mono ?_
        rintro e w3 ⟨rfl, hb3⟩
        rw [← HX.out]
        obtain ⟨xi, xa, xb, xc⟩ := x
        have s3 := hb3.size
        have O3 := hideG (ownsRow_chg (S := fun _ => False) OW.out (Chg.of_below hb3) (fun _ _ h => h))
        have B3 := hideG (BL.out.trans (hb3.mono (by omega)))
        clear hb3
        go_wp2_with (at_builtin; refine wpList_append_own _ rfl _ _ 50 rfl (w.heap.size + 1) 91 i1 (.agg #[.int .i64 0, .int .i64 0, .int .i64 0, .int .i64 0]) 4 32 Try.underlying50 hi1 hy0 hy1 hy2 rfl (by decide) _ _ _ rfl (O3.out.alloc _) ⟨w3.heap.size, 0, none⟩ 1 1 [.int .i64 xi, .int .i64 xa, .int .i64 xb, .int .i64 xc] rfl rfl ?c1 ?c2 ?c3 ?c4 ?c5 ?_)
        case c1 => exact cell_four_new _ _ _ _ _ _
        case c2 => intro u hu; simp at hu; rcases hu with rfl | rfl | rfl | rfl <;> rfl
        case c3 => unfold maxLen; omega
        case c4 => omega
        case c5 => simp; omega
        intro v' w4 hown' hgrow' _
        have hb4 := (B3.out.alloc (by omega) _).grown hgrow' (by simp; omega) (fun y hy => (O3.out.lt y hy).1)
        have B4 := hideG hb4
        have O4 := hideG (show w4.ownsRow (w.heap.size + 1) 91 4 v' (m + 1) (flat4 (Frm.rdL k zs (m + 1))) by rw [HR.out, flat4_append]; exact hown')
        clear hown' hgrow' hb4
        go_wp2_with fail
        go_roundw
        case rel => exact ⟨m + 1, by omega, by go_num, O4.out, B4.out⟩
        case measure => simp [intOf]; omega
      · have em : m = n := by omega
        subst em
        have d1 := BW.out.cell (p := ⟨b, off + 1, none⟩) hlt
        rw [c1] at d1
        have gne2 : b ≠ wr.heap.size := by omega
        have IT := hideG (itemsAt_of_owns (l := Frm.rdL k zs m) (by rw [rdL_length]; exact OW.out) (rdL_in HB.out k m))
        obtain ⟨a', c', hv'⟩ := owns_form hown
        clear hown hbel c0 c1 c2
        subst hv'
        go_wp2_with fail
        refine (isFrame_calls _ _ _ (Frm.rdL k zs m) _ (IT.out.below (by go_grown))).mono ?_
        rintro e w3 ⟨rfl, hb3⟩
        have s3 := hb3.size
        simp at s3
        have hBB : Below (w.heap.size + 1) bx w3 := (BL.out.alloc (by omega) _).trans (hb3.mono (by simp; omega))
        have BB := hideG hBB
        have hrow := CBX.out w3 hBB
        have q0 : w3.cell? ⟨w.heap.size, 0, none⟩ = some (.int .i64 0) ∧ w3.frozen? ⟨w.heap.size, 0, none⟩ = false := ⟨by simp only [World.cell?, hrow]; rfl, by simp [World.frozen?, hrow]⟩
        have q1 : w3.cell? ⟨w.heap.size, 1, none⟩ = some (.int .i64 0) ∧ w3.frozen? ⟨w.heap.size, 1, none⟩ = false := ⟨by simp only [World.cell?, hrow]; rfl, by simp [World.frozen?, hrow]⟩
        have q2 : w3.cell? ⟨w.heap.size, 2, none⟩ = some (.slice none 0 0) ∧ w3.frozen? ⟨w.heap.size, 2, none⟩ = false := ⟨by simp only [World.cell?, hrow]; rfl, by simp [World.frozen?, hrow]⟩
        obtain ⟨q0, q0f⟩ := q0
        obtain ⟨q1, q1f⟩ := q1
        obtain ⟨q2, q2f⟩ := q2
        have p0 := hb3.cell (p := ⟨wr.heap.size, 0, none⟩) (by simp)
        have p1 := hb3.cell (p := ⟨wr.heap.size, 1, none⟩) (by simp)
        have p2 := hb3.cell (p := ⟨wr.heap.size, 2, none⟩) (by simp)
        simp [go_sem] at p0 p1 p2
        have O3 := hideG (ownsRow_chg (S := fun _ => False) (OW.out.alloc (.cells #[.int .i64 k, .int .i64 fr, .slice a' m c'] 52)) (Chg.of_below hb3) (fun _ _ h => h))
        have BW3 := hideG (BX.out.trans (BB.out.mono (by omega)))
        have hwne : wr.heap.size ≠ w.heap.size := by omega
        have HROW := hideG hrow
        clear hb3 hBB hrow d1
        cases hok : Frm.okF k fr (Frm.rdL k zs m)
        · have H := hideG (d_none (show Frm.decF zs = none by rw [HD2.out, hok]; rfl))
          go_wp2_with fail
          (try simp only [Exit.inBlock, Exit.then])
          refine bodyPost_ret (results_row_tmp rfl _ _ w.heap.size 52 #[.int .i64 0, .int .i64 0, .slice none 0 0] (0, 0) _ rfl (frame_row _ _ _ HROW.out) Try.underlying52 rfl sizeFr) rfl ?_
          refine ⟨_, ret_dec H.out.1 H.out.2.1 rfl H.out.2.2.2, ?_, ?_⟩
          · rw [H.out.2.2.1]; exact World.ownsRow_nil _ _ _ _
          · have := BW3.out
            go_grown
        · have H := hideG (d_some (show Frm.decF zs = some (k, fr, Frm.rdL k zs m) by rw [HD2.out, hok]; rfl))
          go_wp2_with fail
          (try simp only [Exit.inBlock, Exit.then])
          refine bodyPost_ret (results_row_tmp rfl _ _ w.heap.size 52 #[.int .i64 k, .int .i64 fr, .slice a' m c'] (0, 0) _ rfl (frame_row _ _ _ HROW.out) Try.underlying52 rfl sizeFr) rfl ?_
          refine ⟨_, ret_dec H.out.1 H.out.2.1 rfl H.out.2.2.2, ?_, ?_⟩
          · rw [H.out.2.2.1, rdL_length]
            refine ownsRow_base (ownsRow_chg (S := fun x => x = w.heap.size) O3.out ?_ (fun x hx e => by have := (O3.out.lt x hx).1; omega)) (by omega)
            exact chg3 _ _ _ _ _
          · have := BW3.out
            go_grown
  · have H := hideG (d_none (show Frm.decF zs = none by rw [HD.out, if_neg t3, if_neg tl]))
    have tl' : ((L : Int) != 3 + (M : Int)) = true := by rw [bne_iff_ne]; omega
    clear tl
    go_enter Try.func53, Try.ntmps53
    go_wp2_with fail
    refine (itemSize_calls _ _).mono ?_
    rintro e w' ⟨rfl, rfl⟩
    rw [← HSS.out]
    go_wp2_with fail
    go_returns
    refine ⟨_, ret_dec H.out.1 H.out.2.1 rfl H.out.2.2.2, ?_, by go_grown⟩
    rw [H.out.2.2.1]; exact World.ownsRow_nil _ _ _ _

theorem veilEncode_yes (k fr : Int) (v : Value) (l : List Frm.It) (w : World) (h : ItemsAt w v l) (ho : Frm.okF k fr l = true) :
    Calls Try.prog 27 #[.agg #[.int .i64 k, .int .i64 fr, v]] w fun e w' => ∃ va, e = .returned (.tuple #[va, .int .i64 0]) ∧ w'.ownsRow w.heap.size 5 1 va (Frm.encF k fr l).length ((Frm.encF k fr l).map (Value.int .u8)) ∧ Below w.heap.size w w' := by
  have HM := hideG (fun (w1 : World) (hb : Below w.heap.size w w1) => encode_yes k fr v l w1 (h.below hb) ho)
  clear h
  go_enter Try.func27, Try.ntmps27
  go_wp2_with fail
  refine (HM.out _ (by go_grown)).mono ?_
  rintro e w1 ⟨va, rfl, hown, hb⟩
  have OW := hideG hown
  have HB := hideG hb
  clear hown hb
  go_wp2_with fail
  first
  | (go_ret2; exact ⟨_, rfl, ownsRow_base OW.out (by simp), ((Below.refl _ _).alloc (Nat.le_refl _) _).trans (HB.out.mono (by simp))⟩)
  | (go_ret2; exact ⟨_, rfl, OW.out, HB.out⟩)

theorem veilEncode_no (k fr : Int) (v : Value) (l : List Frm.It) (w : World) (h : ItemsAt w v l) (ho : Frm.okF k fr l = false) :
    Calls Try.prog 27 #[.agg #[.int .i64 k, .int .i64 fr, v]] w fun e w' => e = .returned (.tuple #[.slice none 0 0, .int .i64 4]) ∧ Below w.heap.size w w' := by
  have HM := hideG (fun (w1 : World) (hb : Below w.heap.size w w1) => encode_no k fr v l w1 (h.below hb) ho)
  clear h
  go_enter Try.func27, Try.ntmps27
  go_wp2_with fail
  refine (HM.out _ (by go_grown)).mono ?_
  rintro e w1 ⟨rfl, hb⟩
  have HB := hideG hb
  clear hb
  go_wp2_with fail
  first
  | (go_ret2; exact ⟨rfl, ((Below.refl _ _).alloc (Nat.le_refl _) _).trans (HB.out.mono (by simp))⟩)
  | (go_ret2; exact ⟨rfl, HB.out⟩)

theorem veilDecode (v : Value) (zs : List Int) (w : World) (h : BytesAt w v zs) :
    Calls Try.prog 29 #[v] w fun e w' => ∃ va, e = .returned (.tuple #[.agg #[.int .i64 (dK zs), .int .i64 (dF zs), va], .int .i64 (dE zs)]) ∧ w'.ownsRow w.heap.size 91 4 va (dL zs).length (flat4 (dL zs)) ∧ Below w.heap.size w w' := by
  have HM := hideG (fun (w1 : World) (hb : Below w.heap.size w w1) => decode_calls v zs w1 (h.below hb))
  clear h
  go_enter Try.func29, Try.ntmps29
  go_wp2_with fail
  refine (HM.out _ (by go_grown)).mono ?_
  rintro e w3 ⟨va, rfl, hown, hb⟩
  obtain ⟨a', c', hv'⟩ := owns_form hown
  have hrow : w3.heap[w.heap.size]? = some (.cells #[.int .i64 0, .int .i64 0, .slice none 0 0] 52 (0, 0)) := by
    rw [hb.block w.heap.size (by simp)]; exact heap_alloc_new w _
  have s3 := hb.size
  simp at s3
  have OW := hideG hown
  have BW3 := hideG (((Below.refl w.heap.size w).alloc (Nat.le_refl _) _).trans (hb.mono (by simp)))
  have q0 : w3.cell? ⟨w.heap.size, 0, none⟩ = some (.int .i64 0) ∧ w3.frozen? ⟨w.heap.size, 0, none⟩ = false := ⟨by simp only [World.cell?, hrow]; rfl, by simp [World.frozen?, hrow]⟩
  have q1 : w3.cell? ⟨w.heap.size, 1, none⟩ = some (.int .i64 0) ∧ w3.frozen? ⟨w.heap.size, 1, none⟩ = false := ⟨by simp only [World.cell?, hrow]; rfl, by simp [World.frozen?, hrow]⟩
  have q2 : w3.cell? ⟨w.heap.size, 2, none⟩ = some (.slice none 0 0) ∧ w3.frozen? ⟨w.heap.size, 2, none⟩ = false := ⟨by simp only [World.cell?, hrow]; rfl, by simp [World.frozen?, hrow]⟩
  obtain ⟨q0, q0f⟩ := q0
  obtain ⟨q1, q1f⟩ := q1
  obtain ⟨q2, q2f⟩ := q2
  have HROW := hideG hrow
  clear hown hb hrow
  subst hv'
  go_wp2_with fail
  (try simp only [Exit.inBlock, Exit.then])
  refine bodyPost_ret (results_row_tmp rfl _ _ w.heap.size 52 #[.int .i64 (dK zs), .int .i64 (dF zs), .slice a' (dL zs).length c'] (0, 0) _ rfl (frame_row _ _ _ HROW.out) Try.underlying52 rfl sizeFr) rfl ?_
  refine ⟨_, rfl, ?_, ?_⟩
  · refine ownsRow_base (ownsRow_chg (S := fun x => x = w.heap.size) OW.out ?_ (fun x hx e => by have := (OW.out.lt x hx).1; simp at this; omega)) (by simp)
    exact chg3 _ _ _ _ _
  · have := BW3.out
    go_grown

end Go.Proofs.Ytchideljndagjaa
