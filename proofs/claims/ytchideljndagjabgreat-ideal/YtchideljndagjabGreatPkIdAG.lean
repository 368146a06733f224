/- Contract of Decode, and of the calls of package veil. -/
import Derived.Test.YtchideljndagjabGreatPkIdAF
import Derived.Laws.ResultCell
import Derived.Test.YtchideljndagjabGreatPkIdAB
import Derived.Test.YtchideljndagjabGreatPkIdAA
import Derived.WalkSpells
import Derived.Test.YtchideljndagjabGreatPkIdAC
import Derived.Deep.Upon
namespace Go.Proofs.YtchideljndagjabGreat
open Go.ChangeShapes Go.WideShapes Go.ChangeAt Go.RowKit
set_option linter.unusedVariables false
theorem infoIt : (Tryz.prog.info? 147).map (fun i => (i.zero, i.size, i.bytes)) = some (some (.agg #[.int .i64 0, .int .i64 0, .int .i64 0, .int .i64 0]), 4, 32) := by kernel_rfl
def dK (b : List Int) : Int := match Frm.decF b with | some f => f.1 | none => 0
def dF (b : List Int) : Int := match Frm.decF b with | some f => f.2.1 | none => 0
def dL (b : List Int) : List Frm.It := match Frm.decF b with | some f => f.2.2 | none => []
def dE (b : List Int) : Int := match Frm.decF b with | some _ => 0 | none => 4
theorem d_none {b : List Int} (h : Frm.decF b = none) : dK b = 0 ∧ dF b = 0 ∧ dL b = [] ∧ dE b = 4 := by
  unfold dK dF dL dE; rw [h]; exact ⟨rfl, rfl, rfl, rfl⟩
theorem d_some {b : List Int} {k fr : Int} {l : List Frm.It} (h : Frm.decF b = some (k, fr, l)) : dK b = k ∧ dF b = fr ∧ dL b = l ∧ dE b = 0 := by
  unfold dK dF dL dE; rw [h]; exact ⟨rfl, rfl, rfl, rfl⟩
theorem rdN_in {b : List Int} (hb : Frm.isB b) (a : Nat) : inI (Frm.rdN b a) := by
  unfold inI Frm.rdN
  have h0 := Frm.isB_at hb a
  have h1 := Frm.isB_at hb (a + 1)
  have h2 := Frm.isB_at hb (a + 2)
  have h3 := Frm.isB_at hb (a + 3)
  have h4 := Frm.isB_at hb (a + 4)
  have h5 := Frm.isB_at hb (a + 5)
  have h6 := Frm.isB_at hb (a + 6)
  have h7 := Frm.isB_at hb (a + 7)
  split
  · omega
  · unfold Frm.numAt; omega
theorem rdI_in {b : List Int} (hb : Frm.isB b) (k : Int) (a : Nat) : inIt (Frm.rdI k b a) := by
  have z : inI 0 := by unfold inI; omega
  have h0 := Frm.isB_at hb a
  refine ⟨?_, ?_, ?_, ?_⟩
  · show inI (Frm.bAt b a); unfold inI; omega
  · show inI (if 1 ≤ Frm.wid k then Frm.rdN b (a + 1) else 0); split; exact rdN_in hb _; exact z
  · show inI (if 2 ≤ Frm.wid k then Frm.rdN b (a + 9) else 0); split; exact rdN_in hb _; exact z
  · show inI (if 3 ≤ Frm.wid k then Frm.rdN b (a + 17) else 0); split; exact rdN_in hb _; exact z
theorem rdL_in {b : List Int} (hb : Frm.isB b) (k : Int) (m : Nat) : ∀ x ∈ Frm.rdL k b m, inIt x := by
  intro x hx
  unfold Frm.rdL at hx
  obtain ⟨i, _, rfl⟩ := List.mem_map.1 hx
  exact rdI_in hb k _
theorem rdL_length (k : Int) (b : List Int) (m : Nat) : (Frm.rdL k b m).length = m := by simp [Frm.rdL]
theorem rdL_succ (k : Int) (b : List Int) (m : Nat) : Frm.rdL k b (m + 1) = Frm.rdL k b m ++ [Frm.rdI k b (3 + m * Frm.size k)] := by
  unfold Frm.rdL; rw [List.range_succ, List.map_append]; rfl
theorem cell_four_new (w : World) (x y z u : Value) (t : TypeId) : ∀ j c, ([x, y, z, u] : List Value)[j]? = some c → (w.alloc (.cells #[x, y, z, u] t)).cell? ((⟨w.heap.size, 0, none⟩ : Addr).add j) = some c := by
  intro j c hj
  match j, hj with
  | 0, hj => simp at hj; subst hj; simp [Addr.add]
  | 1, hj => simp at hj; subst hj; simp [Addr.add]
  | 2, hj => simp at hj; subst hj; simp [Addr.add]
  | 3, hj => simp at hj; subst hj; simp [Addr.add]
theorem owns_form {w : World} {B : Nat} {e : TypeId} {size : Nat} {v : Value} {n : Nat} {xs : List Value} (h : w.ownsRow B e size v n xs) : ∃ a c, v = .slice a n c := by
  rcases h.2 with ⟨rfl, rfl⟩ | ⟨g, cap, cur, rfl, _⟩
  · exact ⟨_, _, rfl⟩
  · exact ⟨_, _, rfl⟩
theorem results_row_tmp {P : Program} {fn : Func} {p u : Tmp} {ty : TypeId} (h : fn.results = #[.cell p ty, .tmp u]) (tmps : Array Value) (w : World) (g : Nat) (t : TypeId) (cs : Array Value) (fr : Nat × Nat) (d : TypeDesc)
    (hp : tmps.getD p undef = .pointer (some ⟨g, 0, none⟩)) (hg : w.heap[g]? = some (.cells cs t fr))
    (hu : P.underlying ty = some d) (hd : (match d with | .struct _ | .array _ _ => true | _ => false) = true) (hi : (P.info? ty).map (·.size) = some cs.size) :
    (results fn tmps).run P w = .ok (.tuple #[.agg cs, tmps.getD u undef]) w := by
  rw [results_cell_tmp h, hp]
  simp [asAddr, run_loadVar_row w g t ty cs fr d hg hu hd hi]
theorem sizeFr : (Tryz.prog.info? 65).map (·.size) = some 3 := by kernel_rfl
theorem frame_row {w : World} {g : Nat} {a b c : Value} (x y z : Value) (h : w.heap[g]? = some (.cells #[a, b, c] 65 (0, 0))) :
    (((w.setCell ⟨g, 0, none⟩ x).setCell ⟨g, 1, none⟩ y).setCell ⟨g, 2, none⟩ z).heap[g]? = some (.cells #[x, y, z] 65 (0, 0)) :=
  heap_setCell_same _ g 2 #[x, y, c] 65 z (heap_setCell_same _ g 1 #[x, b, c] 65 y (heap_setCell_same w g 0 #[a, b, c] 65 x h))
theorem chg3 (w : World) (g : Nat) (x y z : Value) : Chg (fun b => b = g) w (((w.setCell ⟨g, 0, none⟩ x).setCell ⟨g, 1, none⟩ y).setCell ⟨g, 2, none⟩ z) := by
  have h1 : Chg (fun b => b = g) w (w.setCell ⟨g, 0, none⟩ x) := Chg.setCell w ⟨g, 0, none⟩ x
  have h2 : Chg (fun b => b = g) (w.setCell ⟨g, 0, none⟩ x) ((w.setCell ⟨g, 0, none⟩ x).setCell ⟨g, 1, none⟩ y) := Chg.setCell (w.setCell ⟨g, 0, none⟩ x) ⟨g, 1, none⟩ y
  have h3 : Chg (fun b => b = g) ((w.setCell ⟨g, 0, none⟩ x).setCell ⟨g, 1, none⟩ y) (((w.setCell ⟨g, 0, none⟩ x).setCell ⟨g, 1, none⟩ y).setCell ⟨g, 2, none⟩ z) := Chg.setCell ((w.setCell ⟨g, 0, none⟩ x).setCell ⟨g, 1, none⟩ y) ⟨g, 2, none⟩ z
  exact (h1.trans h2 (fun _ e _ => e)).trans h3 (fun _ e _ => e)
theorem ret_dec {k fr c : Int} {v : Value} {b : List Int} {v' : Value} (h1 : dK b = k) (h2 : dF b = fr) (h3 : v = v') (h4 : dE b = c) :
    Ending.returned (.tuple #[.agg #[.int .i64 k, .int .i64 fr, v], .int .i64 c]) = Ending.returned (.tuple #[.agg #[.int .i64 (dK b), .int .i64 (dF b), v'], .int .i64 (dE b)]) := by
  rw [h1, h2, h3, h4]
set_option maxHeartbeats 1000000 in
set_option maxRecDepth 100000 in
theorem decode_calls (v : Value) (zs : List Int) (w : World) (h : BytesAt w v zs) :
    Calls Tryz.prog 43 #[v] w fun e w' => ∃ va, e = .returned (.tuple #[.agg #[.int .i64 (dK zs), .int .i64 (dF zs), va], .int .i64 (dE zs)]) ∧ w'.ownsRow w.heap.size 147 4 va (dL zs).length (flat4 (dL zs)) ∧ Below w.heap.size w w' := by
  obtain ⟨i1, hi1, hy0, hy1, hy2⟩ := info_parts infoIt
  have HM := hideG (fun (w1 : World) (hb : Below w.heap.size w w1) => h.below hb)
  have HD := hideG (show Frm.decF zs = (if zs.length < 3 then none else if zs.length = 3 + (Frm.bAt zs 2).toNat * Frm.size (Frm.bAt zs 0) then
    if Frm.okF (Frm.bAt zs 0) (Frm.bAt zs 1) (Frm.rdL (Frm.bAt zs 0) zs (Frm.bAt zs 2).toNat) = true then some (Frm.bAt zs 0, Frm.bAt zs 1, Frm.rdL (Frm.bAt zs 0) zs (Frm.bAt zs 2).toNat) else none
    else none) from rfl)
  obtain ⟨a, cap, rfl, l2, l3, hb, hc⟩ := bytes_view h
  have HB := hideG hb
  have HC := hideG hc
  clear h hb hc
  obtain ⟨L, hL⟩ : ∃ L, L = zs.length := ⟨_, rfl⟩
  rw [← hL] at l2 HM HC HD ⊢
  have HL := hideG hL
  clear hL
  by_cases t3 : L < 3
  · have H := hideG (d_none (show Frm.decF zs = none by rw [HD.out, if_pos t3]))
    have t3' : (L : Int) < 3 := by omega
    go_enter Tryz.func43, Tryz.ntmps43
    go_wp2_with fail
    go_returns
    refine ⟨_, ret_dec H.out.1 H.out.2.1 rfl H.out.2.2.2, ?_, by go_grown⟩
    rw [H.out.2.2.1]; exact World.ownsRow_nil _ _ _ _
  have t3' : ¬ (L : Int) < 3 := by omega
  obtain ⟨b, off, rfl, hlt, c0⟩ := HC.out 0 (by omega)
  obtain ⟨b', off', ea, _, c1⟩ := HC.out 1 (by omega)
  simp only [Option.some.injEq, Addr.mk.injEq, and_true] at ea
  obtain ⟨rfl, rfl⟩ := ea
  obtain ⟨b', off', ea, _, c2⟩ := HC.out 2 (by omega)
  simp only [Option.some.injEq, Addr.mk.injEq, and_true] at ea
  obtain ⟨rfl, rfl⟩ := ea
  rw [Nat.add_zero] at c0
  have gne : b ≠ w.heap.size := by omega
  have B0 := Frm.isB_at HB.out 0
  have B1 := Frm.isB_at HB.out 1
  have B2 := Frm.isB_at HB.out 2
  obtain ⟨k, hk⟩ : ∃ k, k = Frm.bAt zs 0 := ⟨_, rfl⟩
  obtain ⟨fr, hfr⟩ : ∃ fr, fr = Frm.bAt zs 1 := ⟨_, rfl⟩
  obtain ⟨n, hn⟩ : ∃ n : Nat, n = (Frm.bAt zs 2).toNat := ⟨_, rfl⟩
  have hn' : Frm.bAt zs 2 = (n : Int) := by omega
  rw [← hk] at c0 B0 HD
  rw [← hfr] at c1 B1 HD
  rw [← hn] at HD
  rw [hn'] at c2 B2
  clear hk hfr hn hn'
  have hs := Frm.wid_le k
  have hS : (Frm.size k : Int) = 1 + 8 * (Frm.wid k : Int) := by unfold Frm.size; omega
  have HRS := hideG (fun m => rdL_succ k zs m)
  obtain ⟨S, hSS⟩ : ∃ S, S = Frm.size k := ⟨_, rfl⟩
  rw [← hSS] at hS HD HRS
  have HSS := hideG hSS
  have s25 : S ≤ 25 := by omega
  clear hs hS hSS
  obtain ⟨M, hM⟩ : ∃ M, M = n * S := ⟨_, rfl⟩
  have hM2 : M ≤ 255 * 25 := by rw [hM]; exact Nat.mul_le_mul (by omega) s25
  have eM : (n : Int) * (S : Int) = (M : Int) := by rw [hM, Int.natCast_mul]
  rw [← hM] at HD
  have HMM := hideG hM
  clear hM
  obtain ⟨bx, hbx⟩ : ∃ bx, bx = w.alloc (.cells #[.int .i64 0, .int .i64 0, .slice none 0 0] 65) := ⟨_, rfl⟩
  have sbx : bx.heap.size = w.heap.size + 1 := by rw [hbx]; simp
  have BX := hideG (show Below w.heap.size w bx by rw [hbx]; exact (Below.refl _ _).alloc (Nat.le_refl _) _)
  by_cases tl : L = 3 + M
  · have HD2 := hideG (show Frm.decF zs = if Frm.okF k fr (Frm.rdL k zs n) = true then some (k, fr, Frm.rdL k zs n) else none by rw [HD.out, if_neg t3, if_pos tl])
    have tl' : ((L : Int) != 3 + (M : Int)) = false := by rw [tl]; simp
    have HTL := hideG tl
    clear tl
    have CBX := hideG (show ∀ w1, Below (w.heap.size + 1) bx w1 → w1.heap[w.heap.size]? = some (.cells #[.int .i64 0, .int .i64 0, .slice none 0 0] 65 (0, 0)) from fun w1 hb => by
      rw [hb.block w.heap.size (by omega), hbx]; exact heap_alloc_new w _)
    go_enter Tryz.func43, Tryz.ntmps43
    go_wp2_with fail
    refine (itemSize_calls _ _).mono ?_
    rintro e w' ⟨rfl, hw'⟩
    rw [← hbx] at hw'
    rw [hw', ← HSS.out]
    clear hw' hbx
    go_wp2_with fail
    go_loopw [7, 8] (fun v i wr => ∃ m : Nat, m ≤ n ∧ i = .int .i64 m ∧ wr.ownsRow (w.heap.size + 1) 147 4 v m (flat4 (Frm.rdL k zs m)) ∧ Below (w.heap.size + 1) bx wr) (fun _ i _ => n - (intOf i).toNat)
    case atStart => exact ⟨0, Nat.zero_le _, rfl, World.ownsRow_nil _ _ _ _, Below.refl _ _⟩
    case round =>
      obtain ⟨m, hm, rfl, hown, hbel⟩ := hrel
      have s2 := hbel.size
      have OW := hideG hown
      have BL := hideG hbel
      have BW := hideG (BX.out.trans (hbel.mono (by omega)))
      by_cases hlm : m < n
      · obtain ⟨MS, hMS⟩ : ∃ MS, MS = m * S := ⟨_, rfl⟩
        have hMS2 : MS + S ≤ M := by
          have : (m + 1) * S ≤ n * S := Nat.mul_le_mul_right _ hlm
          rw [Nat.add_mul, ← hMS, ← HMM.out] at this; omega
        have eMS : (m : Int) * (S : Int) = (MS : Int) := by rw [hMS, Int.natCast_mul]
        have HMS := hideG hMS
        have HR := hideG (show Frm.rdL k zs (m + 1) = Frm.rdL k zs m ++ [Frm.rdI k zs (3 + MS)] by rw [HMS.out]; exact HRS.out m)
        obtain ⟨x, hx⟩ : ∃ x, x = Frm.rdI k zs (3 + MS) := ⟨_, rfl⟩
        rw [← hx] at HR
        have HX := hideG hx
        clear hown hbel hMS hx
        go_wp2_with fail
        refine (readItem_calls _ zs k _ (3 + MS) _ (HM.out _ BW.out) (by omega) (by rw [← HL.out, ← HSS.out, HTL.out]; omega)).mono ?_
        rintro e w3 ⟨rfl, hb3⟩
        rw [← HX.out]
        obtain ⟨xi, xa, xb, xc⟩ := x
        have s3 := hb3.size
        have O3 := hideG (ownsRow_chg (S := fun _ => False) OW.out (Chg.of_below hb3) (fun _ _ h => h))
        have B3 := hideG (BL.out.trans (hb3.mono (by omega)))
        clear hb3
        go_wp2_with (at_builtin; refine wpList_append_own _ rfl _ _ 63 rfl (w.heap.size + 1) 147 i1 (.agg #[.int .i64 0, .int .i64 0, .int .i64 0, .int .i64 0]) 4 32 Tryz.underlying63 hi1 hy0 hy1 hy2 rfl (by decide) _ _ _ rfl (O3.out.alloc _) ⟨w3.heap.size, 0, none⟩ 1 1 [.int .i64 xi, .int .i64 xa, .int .i64 xb, .int .i64 xc] rfl rfl ?c1 ?c2 ?c3 ?c4 ?c5 ?_)
        case c1 => exact cell_four_new _ _ _ _ _ _
        case c2 => intro u hu; simp at hu; rcases hu with rfl | rfl | rfl | rfl <;> rfl
        case c3 => unfold maxLen; omega
        case c4 => omega
        case c5 => simp; omega
        intro v' w4 hown' hgrow' _
        have hb4 := (B3.out.alloc (by omega) _).grown hgrow' (by simp; omega) (fun y hy => (O3.out.lt y hy).1)
        have B4 := hideG hb4
        have O4 := hideG (show w4.ownsRow (w.heap.size + 1) 147 4 v' (m + 1) (flat4 (Frm.rdL k zs (m + 1))) by rw [HR.out, flat4_append]; exact hown')
        clear hown' hgrow' hb4
        go_wp2_with fail
        go_roundw
        case rel => exact ⟨m + 1, by omega, by go_num, O4.out, B4.out⟩
        case measure => simp [intOf]; omega
      · have em : m = n := by omega
        subst em
        have d1 := BW.out.cell (p := ⟨b, off + 1, none⟩) hlt
        rw [c1] at d1
        have gne2 : b ≠ wr.heap.size := by omega
        have IT := hideG (itemsAt_of_owns (l := Frm.rdL k zs m) (by rw [rdL_length]; exact OW.out) (rdL_in HB.out k m))
        obtain ⟨a', c', hv'⟩ := owns_form hown
        clear hown hbel c0 c1 c2
        subst hv'
        go_wp2_with fail
        refine (isFrame_calls _ _ _ (Frm.rdL k zs m) _ (IT.out.below (by go_grown))).mono ?_
        rintro e w3 ⟨rfl, hb3⟩
        have s3 := hb3.size
        simp at s3
        have hBB : Below (w.heap.size + 1) bx w3 := (BL.out.alloc (by omega) _).trans (hb3.mono (by simp; omega))
        have BB := hideG hBB
        have hrow := CBX.out w3 hBB
        have q0 : w3.cell? ⟨w.heap.size, 0, none⟩ = some (.int .i64 0) ∧ w3.frozen? ⟨w.heap.size, 0, none⟩ = false := ⟨by simp only [World.cell?, hrow]; rfl, by simp [World.frozen?, hrow]⟩
        have q1 : w3.cell? ⟨w.heap.size, 1, none⟩ = some (.int .i64 0) ∧ w3.frozen? ⟨w.heap.size, 1, none⟩ = false := ⟨by simp only [World.cell?, hrow]; rfl, by simp [World.frozen?, hrow]⟩
        have q2 : w3.cell? ⟨w.heap.size, 2, none⟩ = some (.slice none 0 0) ∧ w3.frozen? ⟨w.heap.size, 2, none⟩ = false := ⟨by simp only [World.cell?, hrow]; rfl, by simp [World.frozen?, hrow]⟩
        obtain ⟨q0, q0f⟩ := q0
        obtain ⟨q1, q1f⟩ := q1
        obtain ⟨q2, q2f⟩ := q2
        have p0 := hb3.cell (p := ⟨wr.heap.size, 0, none⟩) (by simp)
        have p1 := hb3.cell (p := ⟨wr.heap.size, 1, none⟩) (by simp)
        have p2 := hb3.cell (p := ⟨wr.heap.size, 2, none⟩) (by simp)
        simp [go_sem] at p0 p1 p2
        have O3 := hideG (ownsRow_chg (S := fun _ => False) (OW.out.alloc (.cells #[.int .i64 k, .int .i64 fr, .slice a' m c'] 65)) (Chg.of_below hb3) (fun _ _ h => h))
        have BW3 := hideG (BX.out.trans (BB.out.mono (by omega)))
        have hwne : wr.heap.size ≠ w.heap.size := by omega
        have HROW := hideG hrow
        clear hb3 hBB hrow d1
        cases hok : Frm.okF k fr (Frm.rdL k zs m)
        · have H := hideG (d_none (show Frm.decF zs = none by rw [HD2.out, hok]; rfl))
          go_wp2_with fail
          (try simp only [Exit.inBlock, Exit.then])
          refine bodyPost_ret (results_row_tmp rfl _ _ w.heap.size 65 #[.int .i64 0, .int .i64 0, .slice none 0 0] (0, 0) _ rfl (frame_row _ _ _ HROW.out) Tryz.underlying65 rfl sizeFr) rfl ?_
          refine ⟨_, ret_dec H.out.1 H.out.2.1 rfl H.out.2.2.2, ?_, ?_⟩
          · rw [H.out.2.2.1]; exact World.ownsRow_nil _ _ _ _
          · have := BW3.out
            go_grown
        · have H := hideG (d_some (show Frm.decF zs = some (k, fr, Frm.rdL k zs m) by rw [HD2.out, hok]; rfl))
          go_wp2_with fail
          (try simp only [Exit.inBlock, Exit.then])
          refine bodyPost_ret (results_row_tmp rfl _ _ w.heap.size 65 #[.int .i64 k, .int .i64 fr, .slice a' m c'] (0, 0) _ rfl (frame_row _ _ _ HROW.out) Tryz.underlying65 rfl sizeFr) rfl ?_
          refine ⟨_, ret_dec H.out.1 H.out.2.1 rfl H.out.2.2.2, ?_, ?_⟩
          · rw [H.out.2.2.1, rdL_length]
            refine ownsRow_base (ownsRow_chg (S := fun x => x = w.heap.size) O3.out ?_ (fun x hx e => by have := (O3.out.lt x hx).1; omega)) (by omega)
            exact chg3 _ _ _ _ _
          · have := BW3.out
            go_grown
  · have H := hideG (d_none (show Frm.decF zs = none by rw [HD.out, if_neg t3, if_neg tl]))
    have tl' : ((L : Int) != 3 + (M : Int)) = true := by rw [bne_iff_ne]; omega
    clear tl
    go_enter Tryz.func43, Tryz.ntmps43
    go_wp2_with fail
    refine (itemSize_calls _ _).mono ?_
    rintro e w' ⟨rfl, rfl⟩
    rw [← HSS.out]
    go_wp2_with fail
    go_returns
    refine ⟨_, ret_dec H.out.1 H.out.2.1 rfl H.out.2.2.2, ?_, by go_grown⟩
    rw [H.out.2.2.1]; exact World.ownsRow_nil _ _ _ _
theorem veilDecode (v : Value) (zs : List Int) (w : World) (h : BytesAt w v zs) :
    Calls Tryz.prog 20 #[v] w fun e w' => ∃ va, e = .returned (.tuple #[.agg #[.int .i64 (dK zs), .int .i64 (dF zs), va], .int .i64 (dE zs)]) ∧ w'.ownsRow w.heap.size 147 4 va (dL zs).length (flat4 (dL zs)) ∧ Below w.heap.size w w' := by
  have HM := hideG (fun (w1 : World) (hb : Below w.heap.size w w1) => decode_calls v zs w1 (h.below hb))
  clear h
  go_enter Tryz.func20, Tryz.ntmps20
  go_wp2_with fail
  refine (HM.out _ (by go_grown)).mono ?_
  rintro e w3 ⟨va, rfl, hown, hb⟩
  obtain ⟨a', c', hv'⟩ := owns_form hown
  have hrow : w3.heap[w.heap.size]? = some (.cells #[.int .i64 0, .int .i64 0, .slice none 0 0] 65 (0, 0)) := by
    rw [hb.block w.heap.size (by simp)]; exact heap_alloc_new w _
  have s3 := hb.size
  simp at s3
  have OW := hideG hown
  have BW3 := hideG (((Below.refl w.heap.size w).alloc (Nat.le_refl _) _).trans (hb.mono (by simp)))
  have q0 : w3.cell? ⟨w.heap.size, 0, none⟩ = some (.int .i64 0) ∧ w3.frozen? ⟨w.heap.size, 0, none⟩ = false := ⟨by simp only [World.cell?, hrow]; rfl, by simp [World.frozen?, hrow]⟩
  have q1 : w3.cell? ⟨w.heap.size, 1, none⟩ = some (.int .i64 0) ∧ w3.frozen? ⟨w.heap.size, 1, none⟩ = false := ⟨by simp only [World.cell?, hrow]; rfl, by simp [World.frozen?, hrow]⟩
  have q2 : w3.cell? ⟨w.heap.size, 2, none⟩ = some (.slice none 0 0) ∧ w3.frozen? ⟨w.heap.size, 2, none⟩ = false := ⟨by simp only [World.cell?, hrow]; rfl, by simp [World.frozen?, hrow]⟩
  obtain ⟨q0, q0f⟩ := q0
  obtain ⟨q1, q1f⟩ := q1
  obtain ⟨q2, q2f⟩ := q2
  have HROW := hideG hrow
  clear hown hb hrow
  subst hv'
  go_wp2_with fail
  (try simp only [Exit.inBlock, Exit.then])
  refine bodyPost_ret (results_row_tmp rfl _ _ w.heap.size 65 #[.int .i64 (dK zs), .int .i64 (dF zs), .slice a' (dL zs).length c'] (0, 0) _ rfl (frame_row _ _ _ HROW.out) Tryz.underlying65 rfl sizeFr) rfl ?_
  refine ⟨_, rfl, ?_, ?_⟩
  · refine ownsRow_base (ownsRow_chg (S := fun x => x = w.heap.size) OW.out ?_ (fun x hx e => by have := (OW.out.lt x hx).1; simp at this; omega)) (by simp)
    exact chg3 _ _ _ _ _
  · have := BW3.out
    go_grown
end Go.Proofs.YtchideljndagjabGreat
namespace Go.Proofs.YtchideljndagjabGreat
open Go.ChangeShapes Go.WideShapes Go.ChangeAt Go.RowKit
set_option linter.unusedVariables false
theorem list_view {w : World} {v : Value} {zs : List Int} (h : ListAt w v zs) : ∃ (a : Option Addr) (cap : Nat), v = .slice a zs.length cap ∧ zs.length ≤ cap ∧ cap ≤ 9223372036854775807 ∧
    ∀ k, k < zs.length → ∃ b off, a = some ⟨b, off, none⟩ ∧ w.cell? ⟨b, off + k, none⟩ = some (.int .i64 (zs.getD k 0)) := by
  obtain ⟨a, cap, h1, h2, h3, h4, h5⟩ := h
  refine ⟨a, cap, h1, h2, by unfold maxLen at h3; omega, fun k hk => ?_⟩
  rcases h5 with h5 | ⟨b, off, e, _, hc⟩
  · rw [h5] at hk; simp at hk
  · exact ⟨b, off, e, hc k hk⟩
set_option maxHeartbeats 400000 in
theorem elements_calls (v : Value) (zs : List Int) (w : World) (h : ListAt w v zs) :
    Calls Tryz.prog 247 #[v] w fun e w' => e = .returned (.bool (zs.all Num.elB)) ∧ w' = w := by
  obtain ⟨a, cap, rfl, h2, h3, hc⟩ := list_view h
  have HC := hideG hc
  clear hc h
  generalize hn : zs.length = n at *
  have HN := hideG hn
  clear hn
  go_enter Tryz.func247, Tryz.ntmps247
  go_wp2_with fail
  go_loop [7] (fun i => ∃ k : Nat, k ≤ n ∧ i = .int .i64 k ∧ (zs.take k).all Num.elB = true) (fun i => n - (intOf i).toNat)
  case atStart => exact ⟨0, Nat.zero_le _, rfl, rfl⟩
  case round =>
    obtain ⟨k, hk, rfl, hall⟩ := hrel
    have HA := hideG hall
    clear hall
    by_cases hlt : k < n
    · obtain ⟨b, off, rfl, c0⟩ := HC.out k hlt
      obtain ⟨z, hz⟩ : ∃ z, z = zs.getD k 0 := ⟨_, rfl⟩
      rw [← hz] at c0
      have HZ := hideG hz
      clear hz
      cases q : Num.elB z
      · go_wp2_with fail
        refine (element_calls _ _).mono ?_
        rintro e w' ⟨rfl, rfl⟩
        go_wp2_with fail
        go_ret
        exact ⟨congrArg (fun x => Ending.returned (.bool x)) (Num.all_off zs k (by rw [HN.out]; exact hlt) (by rw [← HZ.out]; exact Num.elB_off.1 q)).symm, rfl⟩
      · go_wp2_with fail
        refine (element_calls _ _).mono ?_
        rintro e w' ⟨rfl, rfl⟩
        go_wp2_with fail
        go_round
        case rel => exact ⟨k + 1, by omega, by go_num, Num.all_on zs k (by rw [HN.out]; exact hlt) HA.out (by rw [← HZ.out]; exact Num.elB_iff.1 q)⟩
        case measure => simp [intOf]; omega
    · go_wp2_with fail
      go_ret
      exact ⟨congrArg (fun x => Ending.returned (.bool x)) (Num.all_end zs k (by rw [HN.out]; omega) HA.out).symm, rfl⟩
theorem all_el {zs : List Int} (h : zs.all Num.elB = true) (k : Nat) (hk : k < zs.length) : 0 ≤ zs.getD k 0 ∧ zs.getD k 0 < 2305843009213693951 := by
  rw [List.all_eq_true] at h
  rw [List.getD_eq_getElem?_getD, List.getElem?_eq_getElem hk]
  exact Num.elB_iff.1 (h _ (List.getElem_mem hk))
set_option maxHeartbeats 400000 in
theorem valueAt_calls (s : Int) (v : Value) (zs : List Int) (x : Int) (w : World) (h : ListAt w v zs) (hall : zs.all Num.elB = true) (hs : 0 ≤ s) (hs' : s < 2305843009213693951) (hx : 0 ≤ x) (hx' : x < 2305843009213693951) :
    Calls Tryz.prog 265 #[.int .i64 s, v, .int .i64 x] w fun e w' => e = .returned (.int .i64 (Pol.polyP s zs x)) ∧ w' = w := by
  obtain ⟨a, cap, rfl, h2, h3, hc⟩ := list_view h
  have HC := hideG hc
  have HA := hideG hall
  clear hc h hall
  generalize hn : zs.length = n at *
  have HN := hideG hn
  clear hn
  go_enter Tryz.func265, Tryz.ntmps265
  go_wp2_with fail
  go_loop [7, 8] (fun u i => ∃ k : Nat, k ≤ n ∧ i = .int .i64 ((k : Int) - 1) ∧ u = .int .i64 (Pol.hor (zs.drop k) x)) (fun _ i => (intOf i + 1).toNat)
  case atStart => exact ⟨n, Nat.le_refl _, rfl, by rw [List.drop_of_length_le (by rw [HN.out]; exact Nat.le_refl _)]; rfl⟩
  case round =>
    obtain ⟨k, hk, rfl, rfl⟩ := hrel
    by_cases hlt : 0 < k
    · obtain ⟨j, rfl⟩ : ∃ j, k = j + 1 := ⟨k - 1, by omega⟩
      obtain ⟨b, off, rfl, c0⟩ := HC.out j (by omega)
      obtain ⟨z, hz⟩ : ∃ z, z = zs.getD j 0 := ⟨_, rfl⟩
      have hel := all_el HA.out j (by rw [HN.out]; omega)
      rw [← hz] at c0 hel
      have HP := hideG (Pol.hor_drop zs j (by rw [HN.out]; omega) x)
      have HZ := hideG hz
      clear hz
      obtain ⟨e1, e2⟩ := hel
      have l1 := Pol.hor_lo (zs.drop (j + 1)) x
      have l2 := Pol.hor_hi (zs.drop (j + 1)) x
      generalize Pol.hor (zs.drop (j + 1)) x = u at *
      go_wp2_with fail
      refine (plus_calls _ _ _ l1 l2 e1 e2).mono ?_
      rintro e w' ⟨rfl, rfl⟩
      go_wp2_with fail
      refine (times_calls _ _ _ (Num.addP_lo _ _) (Num.addP_hi _ _) hx hx').mono ?_
      rintro e w' ⟨rfl, rfl⟩
      go_wp2_with fail
      go_round
      case rel => exact ⟨j, by omega, by go_num, by rw [← HP.out, HZ.out]⟩
      case measure => simp [intOf]
    · have ek : k = 0 := by omega
      subst ek
      have HP := hideG (Pol.hor_poly s zs x)
      have l1 := Pol.hor_lo zs x
      have l2 := Pol.hor_hi zs x
      rw [List.drop_zero]
      generalize Pol.hor zs x = u at *
      go_wp2_with fail
      refine (plus_calls _ _ _ l1 l2 hs hs').mono ?_
      rintro e w' ⟨rfl, rfl⟩
      go_wp2_with fail
      go_ret
      exact ⟨congrArg (fun x => Ending.returned (.int .i64 x)) HP.out, rfl⟩
end Go.Proofs.YtchideljndagjabGreat
namespace Go.Proofs.YtchideljndagjabGreat
open Go.ChangeShapes Go.WideShapes Go.ChangeAt Go.RowKit
set_option linter.unusedVariables false
def Copied (P : Program) (w : World) (t e : TypeId) (size : Nat) (vx : Value) (n : Nat) (xs : List Value) : Prop :=
  ∀ ty, ∃ v' w', (Builtin.append_ #[t, t] ty #[.slice none 0 0, vx]).run P w = .ok v' w' ∧ w'.ownsRow w.heap.size e size v' n xs ∧ Below w.heap.size w w'
theorem copied_row {P : Program} (w : World) (t e : TypeId) (i : TypeInfo) (z : Value) (size bytes : Nat) (ht : P.underlying t = some (.slice e)) (hi : P.info? e = some i) (hz : i.zero = some z)
    (hsize : i.size = size) (hby : i.bytes = bytes) (hzs : z.cells.size = size) (hsz : 0 < size) (ad : Addr) (m c : Nat) (news : List Value) (hl : news.length = m * size) (hnews : ∀ j u, news[j]? = some u → w.cell? (ad.add j) = some u) (h1 : ∀ u ∈ news, u.oneCell' = true)
    (h63 : m ≤ maxLen) (hbytes : m * bytes ≤ 140737488355328) : Copied P w t e size (.slice (some ad) m c) m news := fun ty => by
  obtain ⟨v', w', hr, h2, h3, h4⟩ := run_append_own (P := P) w w.heap.size t ty e i z size bytes ht hi hz hsize hby hzs hsz (.slice none 0 0) 0 [] (World.ownsRow_nil _ _ _ _) ad m c news hl hnews h1 (by omega) (by rw [Nat.zero_add]; exact hbytes) (Nat.le_refl _)
  rw [Nat.zero_add, List.nil_append] at h2
  exact ⟨v', w', hr, h2, (Below.refl w.heap.size w).grown h3 (Nat.le_refl _) (fun y hy => by rw [nil_own] at hy; cases hy)⟩
theorem copied_nil {P : Program} (w : World) (t e : TypeId) (i : TypeInfo) (size c : Nat) (ht : P.underlying t = some (.slice e)) (hi : P.info? e = some i) : Copied P w t e size (.slice none 0 c) 0 [] := fun ty =>
  ⟨.slice none 0 0, w, run_append_nothing w t t ty e i ht hi none 0 0 (Nat.le_refl _) _ (Src.ofNil w ht c), World.ownsRow_nil _ _ _ _, Below.refl _ _⟩
theorem wpList_append_copy {P : Program} (w : World) {ops : Array Oper} {rest : List Oper} {o : Oper} {a : Act} {Q : Exit → Act → World → Prop} (hgd : o.guard = none) (s x : Operand) (t : TypeId)
    (ho : o.op = .call { callee := .builtin .append, args := #[s, x], argTypes := #[t, t] }) (hs : a.eval s = .slice none 0 0) (vx : Value) (hx : a.eval x = vx) (e : TypeId) (size n : Nat) (xs : List Value) (hc : Copied P w t e size vx n xs)
    (h : ∀ v' w', w'.ownsRow w.heap.size e size v' n xs → Below w.heap.size w w' → wpList P ops Q rest (a.put o.dst v') w') : wpList P ops Q (o :: rest) a w := by
  obtain ⟨v', w', hr, h2, h3⟩ := hc o.type
  refine wpList_plain hgd fun K hK => ?_
  unfold Oper.wp execOp
  simp only [ho, resolve, invoke, builtin, Sem.run_bind, Sem.run_pure, Result.andThen_ok, List.map_toArray, List.map_cons, List.map_nil, hs, hx, hr]
  exact hK _ _ (h v' w' h2 h3)
theorem infoInt : (Tryz.prog.info? 3).map (fun i => (i.zero, i.size, i.bytes)) = some (some (.int .i64 0), 1, 8) := by kernel_rfl
theorem copied_ints (w : World) (v : Value) (zs : List Int) (h : ListAt w v zs) (hl : zs.length ≤ 12) : Copied Tryz.prog w 33 3 1 v zs.length (zs.map (Value.int .i64)) := by
  obtain ⟨i1, hi1, hy0, hy1, hy2⟩ := info_parts infoInt
  obtain ⟨a, cap, rfl, h2, h3, h4, h5⟩ := h
  cases a with
  | none =>
    have : zs = [] := by
      rcases h5 with h5 | ⟨b, off, e, _⟩
      · exact h5
      · cases e
    subst this
    exact copied_nil w _ _ i1 1 cap Tryz.underlying33 hi1
  | some ad =>
    refine copied_row w _ _ i1 (.int .i64 0) 1 8 Tryz.underlying33 hi1 hy0 hy1 hy2 rfl (by decide) ad zs.length cap _ (by simp) ?_ ?_ (by unfold maxLen; omega) (by omega)
    · intro j u hj
      rcases h5 with h5 | ⟨b, off, e, hb, hc⟩
      · subst h5; simp at hj
      · cases e
        have hjl : j < zs.length := by have := (List.getElem?_eq_some_iff.1 hj).1; simpa using this
        rw [Addr.add_mid, hc j hjl]
        rw [List.getElem?_map, List.getElem?_eq_getElem hjl] at hj
        rw [List.getD_eq_getElem?_getD, List.getElem?_eq_getElem hjl]
        exact hj
    · intro u hu
      obtain ⟨_, _, rfl⟩ := List.mem_map.1 hu
      rfl
theorem cfg_no {N T M D : Int} (h : ¬ (1 ≤ N ∧ N ≤ 12 ∧ 1 ≤ T ∧ T ≤ N ∧ 1 ≤ M ∧ M ≤ 12 ∧ 1 ≤ D ∧ D ≤ 50)) : Cli.cfgB N T M D = false := by
  unfold Cli.cfgB
  cases e : (decide (1 ≤ N ∧ N ≤ 12) && (decide (1 ≤ T ∧ T ≤ N) && (decide (1 ≤ M ∧ M ≤ 12) && decide (1 ≤ D ∧ D ≤ 50))))
  · rfl
  · simp only [Bool.and_eq_true, decide_eq_true_iff] at e; omega
theorem cfg_yes {N T M D : Int} (h : 1 ≤ N ∧ N ≤ 12 ∧ 1 ≤ T ∧ T ≤ N ∧ 1 ≤ M ∧ M ≤ 12 ∧ 1 ≤ D ∧ D ≤ 50) : Cli.cfgB N T M D = true := by
  unfold Cli.cfgB
  simp only [Bool.and_eq_true, decide_eq_true_iff]; omega
set_option maxHeartbeats 1000000 in
theorem config_calls (N T M D : Int) (w : World) :
    Calls Tryz.prog 189 #[.agg #[.int .i64 N, .int .i64 T, .int .i64 M, .int .i64 D]] w fun e w' => e = .returned (.bool (Cli.cfgB N T M D)) ∧ Below w.heap.size w w' := by
  cases hc : Num.clB N
  · have H := hideG (cfg_no (N := N) (T := T) (M := M) (D := D) (fun h => by rw [Num.clB_yes h.1 h.2.1] at hc; cases hc))
    go_enter Tryz.func189, Tryz.ntmps189
    go_wp2_with (go_at_call 201; refine (client_calls _ _).mono ?_; rintro e w' ⟨rfl, rfl⟩)
    go_ret
    exact ⟨ret_bool H.out.symm, by go_grown⟩
  obtain ⟨n1, n2⟩ := Num.clB_iff.1 hc
  by_cases t1 : T < 1
  · have H := hideG (cfg_no (N := N) (T := T) (M := M) (D := D) (by omega))
    go_enter Tryz.func189, Tryz.ntmps189
    go_wp2_with (go_at_call 201; refine (client_calls _ _).mono ?_; rintro e w' ⟨rfl, rfl⟩)
    go_ret
    exact ⟨ret_bool H.out.symm, by go_grown⟩
  by_cases t2 : N < T
  · have H := hideG (cfg_no (N := N) (T := T) (M := M) (D := D) (by omega))
    go_enter Tryz.func189, Tryz.ntmps189
    go_wp2_with (go_at_call 201; refine (client_calls _ _).mono ?_; rintro e w' ⟨rfl, rfl⟩)
    go_ret
    exact ⟨ret_bool H.out.symm, by go_grown⟩
  by_cases m1 : 1 ≤ M
  · by_cases m2 : M ≤ 12
    · by_cases d1 : 1 ≤ D
      · by_cases d2 : D ≤ 50
        · have H := hideG (cfg_yes (N := N) (T := T) (M := M) (D := D) (by omega))
          go_enter Tryz.func189, Tryz.ntmps189
          go_wp2_with (go_at_call 201; refine (client_calls _ _).mono ?_; rintro e w' ⟨rfl, rfl⟩)
          go_ret
          exact ⟨ret_bool H.out.symm, by go_grown⟩
        · have H := hideG (cfg_no (N := N) (T := T) (M := M) (D := D) (by omega))
          go_enter Tryz.func189, Tryz.ntmps189
          go_wp2_with (go_at_call 201; refine (client_calls _ _).mono ?_; rintro e w' ⟨rfl, rfl⟩)
          go_ret
          exact ⟨ret_bool (by rw [H.out, decide_eq_false (show ¬ D ≤ 50 by omega)]), by go_grown⟩
      · have H := hideG (cfg_no (N := N) (T := T) (M := M) (D := D) (by omega))
        go_enter Tryz.func189, Tryz.ntmps189
        go_wp2_with (go_at_call 201; refine (client_calls _ _).mono ?_; rintro e w' ⟨rfl, rfl⟩)
        go_ret
        exact ⟨ret_bool H.out.symm, by go_grown⟩
    · have H := hideG (cfg_no (N := N) (T := T) (M := M) (D := D) (by omega))
      go_enter Tryz.func189, Tryz.ntmps189
      go_wp2_with (go_at_call 201; refine (client_calls _ _).mono ?_; rintro e w' ⟨rfl, rfl⟩)
      go_ret
      exact ⟨ret_bool H.out.symm, by go_grown⟩
  · have H := hideG (cfg_no (N := N) (T := T) (M := M) (D := D) (by omega))
    go_enter Tryz.func189, Tryz.ntmps189
    go_wp2_with (go_at_call 201; refine (client_calls _ _).mono ?_; rintro e w' ⟨rfl, rfl⟩)
    go_ret
    exact ⟨ret_bool H.out.symm, by go_grown⟩
theorem words_calls (v : Value) (zs : List Int) (w : World) (h : ListAt w v zs) :
    Calls Tryz.prog 246 #[v] w fun e w' => e = .returned (.bool (Cli.wordsB zs)) ∧ w' = w := by
  obtain ⟨a, cap, rfl, h2, h3, hc⟩ := list_view h
  have HC := hideG hc
  clear hc h
  have HG := hideG (fun k (hk : k < zs.length) => (show zs.getD k 0 ∈ zs by rw [List.getD_eq_getElem?_getD, List.getElem?_eq_getElem hk]; exact List.getElem_mem hk))
  have HS := hideG (fun k (hk : k < zs.length) => (show (zs.take (k + 1)).all Frm.wdB = ((zs.take k).all Frm.wdB && Frm.wdB (zs.getD k 0)) by
    rw [List.take_succ_eq_append_getElem hk, List.all_append, List.getD_eq_getElem?_getD, List.getElem?_eq_getElem hk]; simp))
  have HT := hideG (show zs.take zs.length = zs from List.take_length)
  generalize hn : zs.length = n at *
  clear hn
  go_enter Tryz.func246, Tryz.ntmps246
  go_wp2_with fail
  go_loop [7] (fun i => ∃ k : Nat, k ≤ n ∧ i = .int .i64 k ∧ (zs.take k).all Frm.wdB = true) (fun i => n - (intOf i).toNat)
  case atStart => exact ⟨0, Nat.zero_le _, rfl, rfl⟩
  case round =>
    obtain ⟨k, hk, rfl, hall⟩ := hrel
    have HA := hideG hall
    clear hall
    by_cases hlt : k < n
    · obtain ⟨b, off, rfl, c0⟩ := HC.out k hlt
      have HM := hideG (HG.out k hlt)
      have HU := hideG (HS.out k hlt)
      obtain ⟨z, hz⟩ : ∃ z, z = zs.getD k 0 := ⟨_, rfl⟩
      rw [← hz] at c0 HM HU
      clear hz
      cases q : Frm.wdB z
      · have H := hideG (show Cli.wordsB zs = false from List.all_eq_false.2 ⟨z, HM.out, by rw [q]; exact Bool.false_ne_true⟩)
        go_wp2_with fail
        refine (word_calls _ _).mono ?_
        rintro e w' ⟨rfl, rfl⟩
        go_wp2_with fail
        go_ret
        exact ⟨ret_bool H.out.symm, rfl⟩
      · rw [q, HA.out] at HU
        go_wp2_with fail
        refine (word_calls _ _).mono ?_
        rintro e w' ⟨rfl, rfl⟩
        go_wp2_with fail
        go_round
        case rel => exact ⟨k + 1, by omega, by go_num, HU.out⟩
        case measure => simp [intOf]; omega
    · have ek : k = n := by omega
      subst ek
      have H := hideG (show Cli.wordsB zs = true by have := HA.out; rwa [HT.out] at this)
      go_wp2_with fail
      go_ret
      exact ⟨ret_bool H.out.symm, rfl⟩
theorem draw_len {T M : Int} {inp : List Int} {ch mk sd : Int} {sm ss : List Int} (h : ¬ ((inp.length : Int) = M ∧ (sm.length : Int) = T - 1 ∧ (ss.length : Int) = T - 1)) : Cli.drawB T M inp ch mk sd sm ss = false := by
  unfold Cli.drawB
  cases e : (Cli.wordsB inp && (decide ((inp.length : Int) = M) && (decide ((sm.length : Int) = T - 1) && (decide ((ss.length : Int) = T - 1) && (sm.all Num.elB && (ss.all Num.elB && (Num.elB ch && (Num.elB mk && Num.elB sd))))))))
  · rfl
  · simp only [Bool.and_eq_true, decide_eq_true_iff] at e; omega
theorem draw_rest {T M : Int} {inp : List Int} {ch mk sd : Int} {sm ss : List Int} (h1 : (inp.length : Int) = M) (h2 : (sm.length : Int) = T - 1) (h3 : (ss.length : Int) = T - 1) :
    Cli.drawB T M inp ch mk sd sm ss = ((Num.elB ch && (Num.elB mk && Num.elB sd)) && (Cli.wordsB inp && (sm.all Num.elB && ss.all Num.elB))) := by
  unfold Cli.drawB
  rw [decide_eq_true h1, decide_eq_true h2, decide_eq_true h3]
  cases Cli.wordsB inp <;> cases sm.all Num.elB <;> cases ss.all Num.elB <;> cases Num.elB ch <;> cases Num.elB mk <;> cases Num.elB sd <;> rfl
set_option maxHeartbeats 2000000 in
set_option maxRecDepth 100000 in
theorem draw_calls (N T M D : Int) (vi vm vs : Value) (inp sm ss : List Int) (ch mk sd : Int) (w : World) (hi : ListAt w vi inp) (hm : ListAt w vm sm) (hs : ListAt w vs ss) (hT : 1 ≤ T) (hT' : T ≤ 12) :
    Calls Tryz.prog 191 #[.agg #[.int .i64 N, .int .i64 T, .int .i64 M, .int .i64 D], .agg #[vi, .int .i64 ch, .int .i64 mk, .int .i64 sd, vm, vs]] w fun e w' => e = .returned (.bool (Cli.drawB T M inp ch mk sd sm ss)) ∧ Below w.heap.size w w' := by
  have HWO := hideG (fun (W : World) (hb : Below w.heap.size w W) => words_calls vi inp W (hi.below hb))
  have HE1 := hideG (fun (W : World) (hb : Below w.heap.size w W) => elements_calls vm sm W (hm.below hb))
  have HE2 := hideG (fun (W : World) (hb : Below w.heap.size w W) => elements_calls vs ss W (hs.below hb))
  have hBB : Below w.heap.size w ((w.alloc (.cells #[.int .i64 N, .int .i64 T, .int .i64 M, .int .i64 D] 26)).alloc (.cells #[vi, .int .i64 ch, .int .i64 mk, .int .i64 sd, vm, vs] 117)) := ((Below.refl _ _).alloc (Nat.le_refl _) _).alloc (by simp) _
  obtain ⟨a1, c1, rfl, i2, i3, _⟩ := hi
  obtain ⟨a2, c2, rfl, m2, m3, _⟩ := hm
  obtain ⟨a3, c3, rfl, s2, s3, _⟩ := hs
  have BB := hideG hBB
  clear hBB
  by_cases q1 : (inp.length : Int) = M
  · by_cases q2 : (sm.length : Int) = T - 1
    · by_cases q3 : (ss.length : Int) = T - 1
      · have HR := hideG (draw_rest (ch := ch) (mk := mk) (sd := sd) q1 q2 q3)
        have p1 : ((inp.length : Int) != M) = false := by simpa using q1
        have p2 : ((sm.length : Int) != T - 1) = false := by simpa using q2
        have p3 : ((ss.length : Int) != T - 1) = false := by simpa using q3
        generalize inp.length = n1 at *
        generalize sm.length = n2 at *
        generalize ss.length = n3 at *
        clear q1 q2 q3
        cases e1 : Num.elB ch
        · rw [e1] at HR
          go_enter Tryz.func191, Tryz.ntmps191
          go_wp2_with (go_at_call 143; refine (element_calls _ _).mono ?_; rintro e w' ⟨rfl, rfl⟩)
          go_ret
          exact ⟨ret_bool HR.out.symm, BB.out⟩
        cases e2 : Num.elB mk
        · rw [e1, e2] at HR
          go_enter Tryz.func191, Tryz.ntmps191
          go_wp2_with (go_at_call 143; refine (element_calls _ _).mono ?_; rintro e w' ⟨rfl, rfl⟩)
          go_ret
          exact ⟨ret_bool HR.out.symm, BB.out⟩
        cases e3 : Num.elB sd
        · rw [e1, e2, e3] at HR
          go_enter Tryz.func191, Tryz.ntmps191
          go_wp2_with (go_at_call 143; refine (element_calls _ _).mono ?_; rintro e w' ⟨rfl, rfl⟩)
          go_ret
          exact ⟨ret_bool HR.out.symm, BB.out⟩
        rw [e1, e2, e3] at HR
        cases e4 : Cli.wordsB inp
        · rw [e4] at HR HWO
          go_enter Tryz.func191, Tryz.ntmps191
          go_wp2_with (first | (go_at_call 143; refine (element_calls _ _).mono ?_; rintro e w' ⟨rfl, rfl⟩) | (go_at_call 246; refine (HWO.out _ BB.out).mono ?_; rintro e w' ⟨rfl, rfl⟩))
          go_ret
          exact ⟨ret_bool HR.out.symm, BB.out⟩
        rw [e4] at HR HWO
        cases e5 : sm.all Num.elB
        · rw [e5] at HR HE1
          go_enter Tryz.func191, Tryz.ntmps191
          go_wp2_with (first | (go_at_call 143; refine (element_calls _ _).mono ?_; rintro e w' ⟨rfl, rfl⟩) | (go_at_call 246; refine (HWO.out _ BB.out).mono ?_; rintro e w' ⟨rfl, rfl⟩))
          refine (HE1.out _ BB.out).mono ?_
          rintro e w' ⟨rfl, rfl⟩
          go_wp2_with fail
          go_ret
          exact ⟨ret_bool HR.out.symm, BB.out⟩
        rw [e5] at HR HE1
        have HR2 := hideG (show Cli.drawB T M inp ch mk sd sm ss = ss.all Num.elB from HR.out)
        go_enter Tryz.func191, Tryz.ntmps191
        go_wp2_with (first | (go_at_call 143; refine (element_calls _ _).mono ?_; rintro e w' ⟨rfl, rfl⟩) | (go_at_call 246; refine (HWO.out _ BB.out).mono ?_; rintro e w' ⟨rfl, rfl⟩))
        refine (HE1.out _ BB.out).mono ?_
        rintro e w' ⟨rfl, rfl⟩
        go_wp2_with fail
        refine (HE2.out _ BB.out).mono ?_
        rintro e w' ⟨rfl, rfl⟩
        go_wp2_with fail
        go_ret
        exact ⟨ret_bool HR2.out.symm, BB.out⟩
      · have H := hideG (draw_len (M := M) (T := T) (inp := inp) (ch := ch) (mk := mk) (sd := sd) (sm := sm) (ss := ss) (fun h => q3 h.2.2))
        have p1 : ((inp.length : Int) != M) = false := by simpa using q1
        have p2 : ((sm.length : Int) != T - 1) = false := by simpa using q2
        have p3 : ((ss.length : Int) != T - 1) = true := by simpa using q3
        clear q1 q2 q3
        go_enter Tryz.func191, Tryz.ntmps191
        go_wp2_with fail
        go_ret
        exact ⟨ret_bool H.out.symm, BB.out⟩
    · have H := hideG (draw_len (M := M) (T := T) (inp := inp) (ch := ch) (mk := mk) (sd := sd) (sm := sm) (ss := ss) (fun h => q2 h.2.1))
      have p1 : ((inp.length : Int) != M) = false := by simpa using q1
      have p2 : ((sm.length : Int) != T - 1) = true := by simpa using q2
      clear q1 q2
      go_enter Tryz.func191, Tryz.ntmps191
      go_wp2_with fail
      go_ret
      exact ⟨ret_bool H.out.symm, BB.out⟩
  · have H := hideG (draw_len (M := M) (T := T) (inp := inp) (ch := ch) (mk := mk) (sd := sd) (sm := sm) (ss := ss) (fun h => q1 h.1))
    have p1 : ((inp.length : Int) != M) = true := by simpa using q1
    clear q1
    go_enter Tryz.func191, Tryz.ntmps191
    go_wp2_with fail
    go_ret
    exact ⟨ret_bool H.out.symm, BB.out⟩
end Go.Proofs.YtchideljndagjabGreat
