/- Contracts of veilref: a number out of eight bytes. -/
import Derived.Test.YtchideljndagjabGreatPkSeAF
import Derived.Test.YtchideljndagjabGreatPkSeAH
namespace Go.Proofs.YtchideljndagjabGreat
open Go.ChangeShapes Go.WideShapes Go.ChangeAt Go.RowKit
set_option linter.unusedVariables false

/-- The first c bytes from m on, as a number. -/
def loN (b : List Int) (m : Nat) : Nat → Int
  | 0 => 0
  | c + 1 => loN b m c + 256 ^ c * Frm.bAt b (m + c)

theorem loN_num (b : List Int) (m : Nat) : loN b m 8 = Frm.numAt b m := by
  unfold Frm.numAt
  simp only [loN, Nat.add_zero]
  omega

theorem loN_bd {b : List Int} (hb : Frm.isB b) (m c : Nat) : 0 ≤ loN b m c ∧ loN b m c < 256 ^ c := by
  induction c with
  | zero => simp [loN]
  | succ c ih =>
    have h := Frm.isB_at hb (m + c)
    have hp : (0 : Int) < 256 ^ c := Int.pow_pos (by omega)
    unfold loN
    have e : (256 : Int) ^ (c + 1) = 256 ^ c * 256 := Int.pow_succ _ _
    rw [e]
    have h1 : (256 : Int) ^ c * Frm.bAt b (m + c) ≤ 256 ^ c * 255 := Int.mul_le_mul_of_nonneg_left h.2 (Int.le_of_lt hp)
    have h2 : 0 ≤ (256 : Int) ^ c * Frm.bAt b (m + c) := Int.mul_nonneg (Int.le_of_lt hp) h.1
    omega

theorem ofInt_nat (x : Int) (h : 0 ≤ x) (h' : x < 18446744073709551616) : (BitVec.ofInt 64 x).toNat = x.toNat := by
  rw [BitVec.toNat_ofInt]
  have : x % ((2 ^ 64 : Nat) : Int) = x := Int.emod_eq_of_lt h (by simpa using h')
  rw [this]

theorem ofInt_wrap (y : Int) (h : 0 ≤ y) (h' : y < 18446744073709551616) : (BitVec.ofInt 64 (wrap64 y)).toNat = y.toNat := by
  rw [BitVec.toNat_ofInt]
  have : wrap64 y % ((2 ^ 64 : Nat) : Int) = y := by
    show wrap64 y % 18446744073709551616 = y
    unfold wrap64; omega
  rw [this]

/-- An or of numbers whose bits lie apart is their sum. -/
theorem or_nat (i : Nat) (x z : Nat) (hx : x < 2 ^ i) : x ||| (z * 2 ^ i) = x + z * 2 ^ i := by
  have h := Nat.shiftLeft_add_eq_or_of_lt hx z
  rw [Nat.shiftLeft_eq] at h
  rw [Nat.or_comm, ← h, Nat.add_comm]

theorem or_sum (c : Nat) (hc : c ≤ 7) (x z : Int) (hx : 0 ≤ x) (hx' : x < 256 ^ c) (hz : 0 ≤ z) (hz' : z ≤ 255) :
    bits .or .i64 x (wrap64 (z * 2 ^ (8 * c))) = wrap64 (x + 256 ^ c * z) := by
  have e8 : (2 : Int) ^ (8 * c) = 256 ^ c := by rw [Int.pow_mul]; rfl
  have n8 : (2 : Nat) ^ (8 * c) = 256 ^ c := by rw [Nat.pow_mul]
  have hp : (0 : Int) < 256 ^ c := Int.pow_pos (by omega)
  have hcap : (256 : Int) ^ c ≤ 72057594037927936 := by
    rcases (show c = 0 ∨ c = 1 ∨ c = 2 ∨ c = 3 ∨ c = 4 ∨ c = 5 ∨ c = 6 ∨ c = 7 by omega) with rfl | rfl | rfl | rfl | rfl | rfl | rfl | rfl <;> decide
  have hm0 : 0 ≤ z * 256 ^ c := Int.mul_nonneg hz (Int.le_of_lt hp)
  have hm1 : z * 256 ^ c ≤ 255 * 72057594037927936 := Int.mul_le_mul hz' hcap (Int.le_of_lt hp) (by omega)
  unfold bits
  show IntKind.i64.wrap ((BitVec.ofInt 64 x ||| BitVec.ofInt 64 (wrap64 (z * 2 ^ (8 * c)))).toNat : Int) = _
  rw [BitVec.toNat_or, e8, ofInt_nat x hx (by omega), ofInt_wrap _ hm0 (by omega)]
  have key : x.toNat ||| (z * 256 ^ c).toNat = x.toNat + z.toNat * 2 ^ (8 * c) := by
    have e : (z * 256 ^ c).toNat = z.toNat * 2 ^ (8 * c) := by
      rw [n8, Int.toNat_mul hz (Int.le_of_lt hp), Int.toNat_pow_of_nonneg (by omega)]; rfl
    rw [e]
    refine or_nat _ _ _ ?_
    have : (x.toNat : Int) < ((2 ^ (8 * c) : Nat) : Int) := by
      rw [n8, Int.natCast_pow]; show _ < (256 : Int) ^ c; omega
    omega
  rw [key, IntWalk.i64_left]
  congr 1
  rw [Int.natCast_add, Int.natCast_mul, n8, Int.natCast_pow, Int.mul_comm ((256 : Int) ^ c)]
  show (x.toNat : Int) + (z.toNat : Int) * (256 : Int) ^ c = _
  rw [Int.toNat_of_nonneg hx, Int.toNat_of_nonneg hz]

def accN (b : List Int) (m i : Nat) : Int := if i = 8 then Frm.gN b m else loN b m i

theorem acc_next {b : List Int} (hb : Frm.isB b) (m c : Nat) (hc : c < 8) : wrap64 (loN b m c + 256 ^ c * Frm.bAt b (m + c)) = accN b m (c + 1) := by
  have e : loN b m c + 256 ^ c * Frm.bAt b (m + c) = loN b m (c + 1) := rfl
  rw [e]
  obtain ⟨h0, h1⟩ := loN_bd hb m (c + 1)
  unfold accN
  by_cases h7 : c = 7
  · subst h7
    rw [if_pos rfl]
    have e8 := loN_num b m
    rw [show loN b m (7 + 1) = Frm.numAt b m from e8] at h0 h1 ⊢
    have h1' : Frm.numAt b m < 18446744073709551616 := h1
    unfold Frm.gN wrap64
    split <;> omega
  · rw [if_neg (by omega)]
    have hcap : (256 : Int) ^ (c + 1) ≤ 72057594037927936 := by
      rcases (show c = 0 ∨ c = 1 ∨ c = 2 ∨ c = 3 ∨ c = 4 ∨ c = 5 ∨ c = 6 by omega) with rfl | rfl | rfl | rfl | rfl | rfl | rfl <;> decide
    exact IntWalk.wrap64_in _ (by omega)

theorem acc_skip {b : List Int} (hb : Frm.isB b) (m c : Nat) (hc : c < 8) (hz : Frm.bAt b (m + c) = 0) : loN b m c = accN b m (c + 1) := by
  rw [← acc_next hb m c hc, hz, Int.mul_zero, Int.add_zero]
  obtain ⟨h0, h1⟩ := loN_bd hb m c
  have hcap : (256 : Int) ^ c ≤ 72057594037927936 := by
    rcases (show c = 0 ∨ c = 1 ∨ c = 2 ∨ c = 3 ∨ c = 4 ∨ c = 5 ∨ c = 6 ∨ c = 7 by omega) with rfl | rfl | rfl | rfl | rfl | rfl | rfl | rfl <;> decide
  exact (IntWalk.wrap64_in _ (by omega)).symm

set_option maxHeartbeats 1000000 in
set_option maxRecDepth 100000 in
theorem rnumber_calls (v : Value) (zs : List Int) (x : Int) (n : Nat) (w : World) (h : BytesAt w v zs) (hx : x = (n : Int)) (hn : n ≤ 1000000) :
    Calls Tryz.prog 231 #[v, .int .i64 x] w fun e w' => e = .returned (.int .i64 (Frm.gN zs n)) ∧ w' = w := by
  subst hx
  obtain ⟨a, cap, rfl, l2, l3, hb, hc⟩ := bytes_view h
  have HB := hideG hb
  have HC := hideG hc
  clear hc h hb
  obtain ⟨L, hL⟩ : ∃ L, L = zs.length := ⟨_, rfl⟩
  rw [← hL] at l2 HC ⊢
  have HL := hideG hL
  clear hL
  go_enter Tryz.func231, Tryz.ntmps231
  go_wp2_with fail
  go_loop [5, 6] (fun u i => ∃ c : Nat, c ≤ 8 ∧ i = .int .i64 (c : Int) ∧ u = .int .i64 (accN zs n c)) (fun _ i => (8 - intOf i).toNat)
  case atStart => exact ⟨0, by omega, rfl, rfl⟩
  case round =>
    obtain ⟨c, hc8, rfl, rfl⟩ := hrel
    by_cases hlt : c < 8
    · have ev : accN zs n c = loN zs n c := by unfold accN; rw [if_neg (by omega)]
      rw [ev]
      clear ev
      obtain ⟨v0, v1⟩ := loN_bd HB.out n c
      have hlt' : (c : Int) < 8 := by omega
      by_cases hin : n + c < L
      · obtain ⟨b, off, rfl, hbl, c0⟩ := HC.out (n + c) hin
        have BJ := Frm.isB_at HB.out (n + c)
        have HNX := hideG (show bits .or .i64 (loN zs n c) (wrap64 (Frm.bAt zs (n + c) * 2 ^ (8 * c))) = accN zs n (c + 1) by
          rw [or_sum c (by omega) _ _ v0 v1 BJ.1 BJ.2]; exact acc_next HB.out n c hlt)
        obtain ⟨z, hz⟩ : ∃ z, z = Frm.bAt zs (n + c) := ⟨_, rfl⟩
        rw [← hz] at c0 BJ HNX
        clear hz
        have hin' : (n : Int) + (c : Int) < (L : Int) := by omega
        have etn : ((n : Int) + (c : Int)).toNat = n + c := by omega
        generalize loN zs n c = u at *
        clear v0 v1
        go_wp2_with fail
        go_round
        case rel => exact ⟨c + 1, by omega, by go_num, by rw [← HNX.out]⟩
        case measure => simp [intOf]; omega
      · have HNX := hideG (acc_skip HB.out n c hlt (by unfold Frm.bAt; rw [List.getD_eq_getElem?_getD, List.getElem?_eq_none (by rw [← HL.out]; omega)]; rfl))
        have hin' : ¬ (n : Int) + (c : Int) < (L : Int) := by omega
        generalize loN zs n c = u at *
        clear v0 v1
        go_wp2_with fail
        go_round
        case rel => exact ⟨c + 1, by omega, by go_num, by rw [← HNX.out]⟩
        case measure => simp [intOf]; omega
    · have ec : c = 8 := by omega
      subst ec
      have HE := hideG (show accN zs n 8 = Frm.gN zs n from rfl)
      go_wp2_with fail
      go_ret
      exact ⟨ret_i64 HE.out, rfl⟩

end Go.Proofs.YtchideljndagjabGreat

namespace Go.Proofs.YtchideljndagjabGreat
open Go.ChangeShapes Go.WideShapes Go.ChangeAt Go.RowKit
set_option linter.unusedVariables false

theorem gL_length (k : Int) (b : List Int) (m : Nat) : (Frm.gL k b m).length = m := by simp [Frm.gL]
theorem gL_succ (k : Int) (b : List Int) (m : Nat) : Frm.gL k b (m + 1) = Frm.gL k b m ++ [Frm.gI k b (3 + m * Frm.size k)] := by
  unfold Frm.gL; rw [List.range_succ, List.map_append]; rfl

theorem gN_in {b : List Int} (hb : Frm.isB b) (a : Nat) : inI (Frm.gN b a) := by
  have h0 := loN_bd hb a 8
  rw [loN_num] at h0
  have h1 : Frm.numAt b a < 18446744073709551616 := h0.2
  unfold inI Frm.gN
  split <;> omega

theorem gI_in {b : List Int} (hb : Frm.isB b) (k : Int) (a : Nat) : inIt (Frm.gI k b a) := by
  have z : inI 0 := by unfold inI; omega
  have h0 := Frm.isB_at hb a
  refine ⟨?_, ?_, ?_, ?_⟩
  · show inI (Frm.bAt b a); unfold inI; omega
  · show inI (if 1 ≤ Frm.wid k then Frm.gN b (a + 1) else 0); split; exact gN_in hb _; exact z
  · show inI (if 2 ≤ Frm.wid k then Frm.gN b (a + 9) else 0); split; exact gN_in hb _; exact z
  · show inI (if 3 ≤ Frm.wid k then Frm.gN b (a + 17) else 0); split; exact gN_in hb _; exact z

theorem gL_in {b : List Int} (hb : Frm.isB b) (k : Int) (m : Nat) : ∀ x ∈ Frm.gL k b m, inIt x := by
  intro x hx
  unfold Frm.gL at hx
  obtain ⟨i, _, rfl⟩ := List.mem_map.1 hx
  exact gI_in hb k _

set_option maxHeartbeats 4000000 in
set_option maxRecDepth 100000 in
theorem guess_calls (v : Value) (zs : List Int) (w : World) (h : BytesAt w v zs) (h3 : 3 ≤ zs.length) :
    Calls Tryz.prog 170 #[v] w fun e w' => ∃ va, e = .returned (.agg #[.int .i64 (Frm.bAt zs 0), .int .i64 (Frm.bAt zs 1), va]) ∧ ∃ m, Frm.GM zs m ∧ w'.ownsRow w.heap.size 147 4 va m (flat4 (Frm.gL (Frm.bAt zs 0) zs m)) ∧ Below w.heap.size w w' := by
  obtain ⟨i1, hi1, hy0, hy1, hy2⟩ := info_parts infoIt
  have HM := hideG (fun (w1 : World) (hb : Below w.heap.size w w1) => h.below hb)
  obtain ⟨a, cap, rfl, l2, l3, hb, hc⟩ := bytes_view h
  have HB := hideG hb
  have HC := hideG hc
  clear h hb hc
  obtain ⟨L, hL⟩ : ∃ L, L = zs.length := ⟨_, rfl⟩
  rw [← hL] at l2 HM HC h3 ⊢
  have HL := hideG hL
  clear hL
  obtain ⟨b, off, rfl, hlt, c0⟩ := HC.out 0 (by omega)
  obtain ⟨b', off', ea, _, c1⟩ := HC.out 1 (by omega)
  simp only [Option.some.injEq, Addr.mk.injEq, and_true] at ea
  obtain ⟨rfl, rfl⟩ := ea
  obtain ⟨b', off', ea, _, c2⟩ := HC.out 2 (by omega)
  simp only [Option.some.injEq, Addr.mk.injEq, and_true] at ea
  obtain ⟨rfl, rfl⟩ := ea
  rw [Nat.add_zero] at c0
  have gne : b ≠ w.heap.size := by omega
  have B0 := Frm.isB_at HB.out 0
  have B1 := Frm.isB_at HB.out 1
  have B2 := Frm.isB_at HB.out 2
  have HGM := hideG (fun m (h1 : m ≤ (Frm.bAt zs 2).toNat) (h2 : m = (Frm.bAt zs 2).toNat ∨ zs.length ≤ 3 + m * Frm.size (Frm.bAt zs 0)) => (show Frm.GM zs m from ⟨h1, h2⟩))
  obtain ⟨k, hk⟩ : ∃ k, k = Frm.bAt zs 0 := ⟨_, rfl⟩
  obtain ⟨fr, hfr⟩ : ∃ fr, fr = Frm.bAt zs 1 := ⟨_, rfl⟩
  obtain ⟨n, hn⟩ : ∃ n : Nat, n = (Frm.bAt zs 2).toNat := ⟨_, rfl⟩
  have hn' : Frm.bAt zs 2 = (n : Int) := by omega
  rw [← hk] at c0 B0 HGM ⊢
  rw [← hfr] at c1 B1 ⊢
  rw [← hn, ← HL.out] at HGM
  rw [hn'] at c2 B2
  clear hk hfr hn hn'
  have hs := Frm.wid_le k
  have HRS := hideG (fun m => gL_succ k zs m)
  have HGI := hideG (fun q => (show Frm.gI k zs q = (Frm.bAt zs q, if 1 ≤ Frm.wid k then Frm.gN zs (q + 1) else 0, if 2 ≤ Frm.wid k then Frm.gN zs (q + 9) else 0, if 3 ≤ Frm.wid k then Frm.gN zs (q + 17) else 0) from rfl))
  obtain ⟨W, hWW⟩ : ∃ W, W = Frm.wid k := ⟨_, rfl⟩
  obtain ⟨S, hSS⟩ : ∃ S, S = Frm.size k := ⟨_, rfl⟩
  have hS : S = 1 + 8 * W := by rw [hSS, hWW]; rfl
  rw [← hSS] at HGM HRS
  rw [← hWW] at HGI hs
  have HWW := hideG hWW
  have s25 : S ≤ 25 := by omega
  have HSE := hideG hS
  clear hSS hWW hS
  go_enter Tryz.func170, Tryz.ntmps170
  go_wp2_with fail
  go_cut [3] from 8 to 16 (fun s wc => s = .pointer (some ⟨w.heap.size + 1, 0, none⟩) ∧ wc.heap[w.heap.size]? = some (.cells #[.int .i64 0, .int .i64 0, .slice none 0 0] 65 (0, 0)) ∧
    wc.heap[w.heap.size + 1]? = some (.cells #[.int .i64 k, .int .i64 fr, .slice none 0 0] 65 (0, 0)) ∧ Below w.heap.size w wc ∧ w.heap.size + 2 ≤ wc.heap.size)
  case first =>
    go_region
    all_goals (go_wp2_with fail; go_meet; exact ⟨rfl, heap_alloc2_old w _ _, heap_alloc2_new w _ _, by go_grown, by simp⟩)
  case rest =>
    obtain ⟨rfl, hg8, hg9, hbel, hsz⟩ := hcut
    have d0 : wc.cell? ⟨w.heap.size + 1, 0, none⟩ = some (.int .i64 k) := by simp only [World.cell?, hg9]; rfl
    have G8 := hideG hg8
    have G9 := hideG hg9
    have BL := hideG hbel
    clear hg8 hg9 hbel c0 c1
    go_wp2_with fail
    refine (written_calls _ (0, 0, 0, 0) _).mono ?_
    rintro e w1 ⟨aN, rfl, _, hb1⟩
    rw [← HWW.out]
    have s1 := hb1.size
    have K8 := hideG ((hb1.block w.heap.size (by omega)).trans G8.out)
    have K9 := hideG ((hb1.block (w.heap.size + 1) (by omega)).trans G9.out)
    have L1 := hideG (BL.out.trans (hb1.mono (by omega)))
    clear hb1 d0
    go_wp2_with fail
    go_loopw [5, 6] (fun q i wr => ∃ (m M : Nat) (va : Value), M = m * S ∧ m ≤ n ∧ q = .int .i64 (3 + (M : Int)) ∧ i = .int .i64 (m : Int) ∧ wr.heap[w.heap.size]? = some (.cells #[.int .i64 0, .int .i64 0, .slice none 0 0] 65 (0, 0)) ∧
      wr.heap[w.heap.size + 1]? = some (.cells #[.int .i64 k, .int .i64 fr, va] 65 (0, 0)) ∧ wr.ownsRow (w.heap.size + 2) 147 4 va m (flat4 (Frm.gL k zs m)) ∧ Below w.heap.size w wr ∧ w.heap.size + 2 ≤ wr.heap.size) (fun _ i _ => n - (intOf i).toNat)
    case atStart => exact ⟨0, 0, .slice none 0 0, by omega, by omega, rfl, rfl, K8.out, K9.out, World.ownsRow_nil _ _ _ _, L1.out, by omega⟩
    case round =>
      clear K8 K9 L1 s1 G8 G9 BL hsz
      obtain ⟨m, M, va, hM, hmn, rfl, rfl, hg8, hg9, hown, hbel, hsz⟩ := hrel
      obtain ⟨a', c', hv'⟩ := owns_form hown
      subst hv'
      have HMM := hideG hM
      have hM2 : M ≤ 255 * 25 := by rw [hM]; exact Nat.mul_le_mul (by omega) s25
      have G8 := hideG hg8
      have G9 := hideG hg9
      have OW := hideG hown
      have BL := hideG hbel
      have BA := hideG (HM.out _ hbel)
      have e2 := hbel.cell (p := ⟨b, off + 2, none⟩) hlt
      rw [c2] at e2
      have hb2 : b < wr.heap.size := by omega
      have gne2 : b ≠ wr.heap.size := by omega
      by_cases t1 : m < n
      · have t1' : (m : Int) < (n : Int) := by omega
        by_cases t2 : 3 + M < L
        · have t2' : (3 : Int) + (M : Int) < (L : Int) := by omega
          obtain ⟨b', off', ea, _, cq⟩ := HC.out (3 + M) t2
          simp only [Option.some.injEq, Addr.mk.injEq, and_true] at ea
          obtain ⟨rfl, rfl⟩ := ea
          have e3 := hbel.cell (p := ⟨b, off + (3 + M), none⟩) hlt
          rw [cq] at e3
          have BQ := Frm.isB_at HB.out (3 + M)
          obtain ⟨xi, hxi⟩ : ∃ xi, xi = Frm.bAt zs (3 + M) := ⟨_, rfl⟩
          have HNX := hideG (show Frm.gL k zs (m + 1) = Frm.gL k zs m ++ [Frm.gI k zs (3 + M)] by rw [HRS.out, HMM.out])
          have HIT := hideG (HGI.out (3 + M))
          rw [← hxi] at e3 BQ HIT
          clear hg8 hg9 hown hbel hM cq hxi
          have etn : ((3 : Int) + (M : Int)).toNat = 3 + M := by omega
          rcases (show W = 0 ∨ W = 1 ∨ W = 2 ∨ W = 3 by omega) with rfl | rfl | rfl | rfl
          · have HITW := hideG (show Frm.gI k zs (3 + M) = (xi, 0, 0, 0) from HIT.out)
            have d2 : wr.cell? ⟨w.heap.size + 1, 2, none⟩ = some (.slice a' m c') := by simp only [World.cell?, G9.out]; rfl
            have A2 : ∀ ob, (wr.alloc ob).cell? ⟨w.heap.size + 1, 2, none⟩ = some (.slice a' m c') := fun ob => by
              rw [((Below.refl wr.heap.size wr).alloc (Nat.le_refl _) ob).cell (p := ⟨w.heap.size + 1, 2, none⟩) (by simp; omega)]; exact d2
            go_wp2_with (at_builtin; refine wpList_append_own _ rfl _ _ 63 rfl (w.heap.size + 2) 147 i1 (.agg #[.int .i64 0, .int .i64 0, .int .i64 0, .int .i64 0]) 4 32 Tryz.underlying63 hi1 hy0 hy1 hy2 rfl (by decide) _ _ _ rfl ((OW.out.alloc _).alloc _) ⟨wr.heap.size + 1, 0, none⟩ 1 1 [.int .i64 xi, .int .i64 0, .int .i64 0, .int .i64 0] rfl rfl ?c1 ?c2 ?c3 ?c4 ?c5 ?_)
            case c1 =>
              have := cell_four_new (wr.alloc (.cells #[.int .i64 xi, .int .i64 0, .int .i64 0, .int .i64 0] 147)) (.int .i64 xi) (.int .i64 0) (.int .i64 0) (.int .i64 0) 147
              simpa using this
            case c2 => intro y hy; simp at hy; rcases hy with rfl | rfl <;> rfl
            case c3 => unfold maxLen; omega
            case c4 => omega
            case c5 => simp; omega
            intro v' w2 hown' hgrow' _
            obtain ⟨a2, c2', hv2⟩ := owns_form hown'
            subst hv2
            have z2 := hgrow'.size
            simp at z2
            have rne : ∀ g, g < w.heap.size + 2 → (Value.slice a' m c').ownBlock ≠ some g := fun g hg e => by have := (OW.out.lt g e).1; omega
            have hg9 : w2.heap[w.heap.size + 1]? = some (.cells #[.int .i64 k, .int .i64 fr, .slice a' m c'] 65 (0, 0)) := by
              rw [hgrow'.block _ (by simp; omega) (fun e => rne _ (by omega) e.symm), Below.heap_alloc _ _ _ (by simp; omega), Below.heap_alloc _ _ _ (by omega)]; exact G9.out
            have hg8 : w2.heap[w.heap.size]? = some (.cells #[.int .i64 0, .int .i64 0, .slice none 0 0] 65 (0, 0)) := by
              rw [hgrow'.block _ (by simp; omega) (fun e => rne _ (by omega) e.symm), Below.heap_alloc _ _ _ (by simp; omega), Below.heap_alloc _ _ _ (by omega)]; exact G8.out
            have hb2' : Below w.heap.size w w2 := (((BL.out.alloc (by omega) _).alloc (by simp; omega) _).grown hgrow' (by simp; omega) (fun y hy => by have := (OW.out.lt y hy).1; omega))
            have O2 := hideG (show w2.ownsRow (w.heap.size + 2) 147 4 (.slice a2 (m + 1) c2') (m + 1) (flat4 (Frm.gL k zs (m + 1))) by rw [HNX.out, HITW.out, flat4_append]; exact hown')
            have J8 := hideG hg8
            have J9 := hideG hg9
            have L2 := hideG hb2'
            have y2 : w2.cell? ⟨w.heap.size + 1, 2, none⟩ = some (.slice a' m c') := by simp only [World.cell?, hg9]; rfl
            have f2 : w2.frozen? ⟨w.heap.size + 1, 2, none⟩ = false := by simp [World.frozen?, hg9]
            clear hown' hgrow' hg8 hg9 hb2' rne d2 A2
            go_wp2_with fail
            go_roundw
            case rel =>
              refine ⟨m + 1, M + 1, .slice a2 (m + 1) c2', ?_, by omega, ?_, by go_num, ?_, ?_, ?_, ?_, ?_⟩
              · (rw [Nat.add_mul, ← HMM.out, HSE.out]) <;> omega
              · (congr 1) <;> omega
              · rw [Below.heap_setCell _ _ _ _ (by simp)]; exact J8.out
              · exact heap_setCell_same w2 (w.heap.size + 1) 2 #[.int .i64 k, .int .i64 fr, .slice a' m c'] 65 _ J9.out
              · exact ownsRow_chg (S := fun x => x = w.heap.size + 1) O2.out (Chg.setCell w2 ⟨w.heap.size + 1, 2, none⟩ _) (fun x hx e => by have := (O2.out.lt x hx).1; omega)
              · exact L2.out.setCell (p := ⟨w.heap.size + 1, 2, none⟩) (by simp) _
              · simp [World.setCell]; omega
            case measure => simp [intOf]; omega
          · have HITW := hideG (show Frm.gI k zs (3 + M) = (xi, Frm.gN zs (3 + M + 1), 0, 0) from HIT.out)
            obtain ⟨ga, hga⟩ : ∃ x, x = Frm.gN zs (3 + M + 1) := ⟨_, rfl⟩
            rw [← hga] at HITW
            have Hga := hideG hga
            clear hga
            go_wp2_with fail
            refine (rnumber_calls _ zs _ (3 + M + 1) _ (BA.out.below (by go_grown)) (by omega) (by omega)).mono ?_
            rintro e w' ⟨rfl, rfl⟩
            rw [← Hga.out]
            have d2 : wr.cell? ⟨w.heap.size + 1, 2, none⟩ = some (.slice a' m c') := by simp only [World.cell?, G9.out]; rfl
            have A2 : ∀ ob, (wr.alloc ob).cell? ⟨w.heap.size + 1, 2, none⟩ = some (.slice a' m c') := fun ob => by
              rw [((Below.refl wr.heap.size wr).alloc (Nat.le_refl _) ob).cell (p := ⟨w.heap.size + 1, 2, none⟩) (by simp; omega)]; exact d2
            go_wp2_with (at_builtin; refine wpList_append_own _ rfl _ _ 63 rfl (w.heap.size + 2) 147 i1 (.agg #[.int .i64 0, .int .i64 0, .int .i64 0, .int .i64 0]) 4 32 Tryz.underlying63 hi1 hy0 hy1 hy2 rfl (by decide) _ _ _ rfl ((OW.out.alloc _).alloc _) ⟨wr.heap.size + 1, 0, none⟩ 1 1 [.int .i64 xi, .int .i64 ga, .int .i64 0, .int .i64 0] rfl rfl ?c1 ?c2 ?c3 ?c4 ?c5 ?_)
            case c1 =>
              have := cell_four_new (wr.alloc (.cells #[.int .i64 xi, .int .i64 ga, .int .i64 0, .int .i64 0] 147)) (.int .i64 xi) (.int .i64 ga) (.int .i64 0) (.int .i64 0) 147
              simpa using this
            case c2 => intro y hy; simp at hy; rcases hy with rfl | rfl | rfl <;> rfl
            case c3 => unfold maxLen; omega
            case c4 => omega
            case c5 => simp; omega
            intro v' w2 hown' hgrow' _
            obtain ⟨a2, c2', hv2⟩ := owns_form hown'
            subst hv2
            have z2 := hgrow'.size
            simp at z2
            have rne : ∀ g, g < w.heap.size + 2 → (Value.slice a' m c').ownBlock ≠ some g := fun g hg e => by have := (OW.out.lt g e).1; omega
            have hg9 : w2.heap[w.heap.size + 1]? = some (.cells #[.int .i64 k, .int .i64 fr, .slice a' m c'] 65 (0, 0)) := by
              rw [hgrow'.block _ (by simp; omega) (fun e => rne _ (by omega) e.symm), Below.heap_alloc _ _ _ (by simp; omega), Below.heap_alloc _ _ _ (by omega)]; exact G9.out
            have hg8 : w2.heap[w.heap.size]? = some (.cells #[.int .i64 0, .int .i64 0, .slice none 0 0] 65 (0, 0)) := by
              rw [hgrow'.block _ (by simp; omega) (fun e => rne _ (by omega) e.symm), Below.heap_alloc _ _ _ (by simp; omega), Below.heap_alloc _ _ _ (by omega)]; exact G8.out
            have hb2' : Below w.heap.size w w2 := (((BL.out.alloc (by omega) _).alloc (by simp; omega) _).grown hgrow' (by simp; omega) (fun y hy => by have := (OW.out.lt y hy).1; omega))
            have O2 := hideG (show w2.ownsRow (w.heap.size + 2) 147 4 (.slice a2 (m + 1) c2') (m + 1) (flat4 (Frm.gL k zs (m + 1))) by rw [HNX.out, HITW.out, flat4_append]; exact hown')
            have J8 := hideG hg8
            have J9 := hideG hg9
            have L2 := hideG hb2'
            have y2 : w2.cell? ⟨w.heap.size + 1, 2, none⟩ = some (.slice a' m c') := by simp only [World.cell?, hg9]; rfl
            have f2 : w2.frozen? ⟨w.heap.size + 1, 2, none⟩ = false := by simp [World.frozen?, hg9]
            clear hown' hgrow' hg8 hg9 hb2' rne d2 A2
            go_wp2_with fail
            go_roundw
            case rel =>
              refine ⟨m + 1, M + 9, .slice a2 (m + 1) c2', ?_, by omega, ?_, by go_num, ?_, ?_, ?_, ?_, ?_⟩
              · (rw [Nat.add_mul, ← HMM.out, HSE.out]) <;> omega
              · (congr 1) <;> omega
              · rw [Below.heap_setCell _ _ _ _ (by simp)]; exact J8.out
              · exact heap_setCell_same w2 (w.heap.size + 1) 2 #[.int .i64 k, .int .i64 fr, .slice a' m c'] 65 _ J9.out
              · exact ownsRow_chg (S := fun x => x = w.heap.size + 1) O2.out (Chg.setCell w2 ⟨w.heap.size + 1, 2, none⟩ _) (fun x hx e => by have := (O2.out.lt x hx).1; omega)
              · exact L2.out.setCell (p := ⟨w.heap.size + 1, 2, none⟩) (by simp) _
              · simp [World.setCell]; omega
            case measure => simp [intOf]; omega
          · have HITW := hideG (show Frm.gI k zs (3 + M) = (xi, Frm.gN zs (3 + M + 1), Frm.gN zs (3 + M + 9), 0) from HIT.out)
            obtain ⟨ga, hga⟩ : ∃ x, x = Frm.gN zs (3 + M + 1) := ⟨_, rfl⟩
            obtain ⟨gb, hgb⟩ : ∃ x, x = Frm.gN zs (3 + M + 9) := ⟨_, rfl⟩
            rw [← hga, ← hgb] at HITW
            have Hga := hideG hga
            clear hga
            have Hgb := hideG hgb
            clear hgb
            go_wp2_with fail
            refine (rnumber_calls _ zs _ (3 + M + 1) _ (BA.out.below (by go_grown)) (by omega) (by omega)).mono ?_
            rintro e w' ⟨rfl, rfl⟩
            rw [← Hga.out]
            go_wp2_with fail
            refine (rnumber_calls _ zs _ (3 + M + 9) _ (BA.out.below (by go_grown)) (by omega) (by omega)).mono ?_
            rintro e w' ⟨rfl, rfl⟩
            rw [← Hgb.out]
            have d2 : wr.cell? ⟨w.heap.size + 1, 2, none⟩ = some (.slice a' m c') := by simp only [World.cell?, G9.out]; rfl
            have A2 : ∀ ob, (wr.alloc ob).cell? ⟨w.heap.size + 1, 2, none⟩ = some (.slice a' m c') := fun ob => by
              rw [((Below.refl wr.heap.size wr).alloc (Nat.le_refl _) ob).cell (p := ⟨w.heap.size + 1, 2, none⟩) (by simp; omega)]; exact d2
            go_wp2_with (at_builtin; refine wpList_append_own _ rfl _ _ 63 rfl (w.heap.size + 2) 147 i1 (.agg #[.int .i64 0, .int .i64 0, .int .i64 0, .int .i64 0]) 4 32 Tryz.underlying63 hi1 hy0 hy1 hy2 rfl (by decide) _ _ _ rfl ((OW.out.alloc _).alloc _) ⟨wr.heap.size + 1, 0, none⟩ 1 1 [.int .i64 xi, .int .i64 ga, .int .i64 gb, .int .i64 0] rfl rfl ?c1 ?c2 ?c3 ?c4 ?c5 ?_)
            case c1 =>
              have := cell_four_new (wr.alloc (.cells #[.int .i64 xi, .int .i64 ga, .int .i64 gb, .int .i64 0] 147)) (.int .i64 xi) (.int .i64 ga) (.int .i64 gb) (.int .i64 0) 147
              simpa using this
            case c2 => intro y hy; simp at hy; rcases hy with rfl | rfl | rfl | rfl <;> rfl
            case c3 => unfold maxLen; omega
            case c4 => omega
            case c5 => simp; omega
            intro v' w2 hown' hgrow' _
            obtain ⟨a2, c2', hv2⟩ := owns_form hown'
            subst hv2
            have z2 := hgrow'.size
            simp at z2
            have rne : ∀ g, g < w.heap.size + 2 → (Value.slice a' m c').ownBlock ≠ some g := fun g hg e => by have := (OW.out.lt g e).1; omega
            have hg9 : w2.heap[w.heap.size + 1]? = some (.cells #[.int .i64 k, .int .i64 fr, .slice a' m c'] 65 (0, 0)) := by
              rw [hgrow'.block _ (by simp; omega) (fun e => rne _ (by omega) e.symm), Below.heap_alloc _ _ _ (by simp; omega), Below.heap_alloc _ _ _ (by omega)]; exact G9.out
            have hg8 : w2.heap[w.heap.size]? = some (.cells #[.int .i64 0, .int .i64 0, .slice none 0 0] 65 (0, 0)) := by
              rw [hgrow'.block _ (by simp; omega) (fun e => rne _ (by omega) e.symm), Below.heap_alloc _ _ _ (by simp; omega), Below.heap_alloc _ _ _ (by omega)]; exact G8.out
            have hb2' : Below w.heap.size w w2 := (((BL.out.alloc (by omega) _).alloc (by simp; omega) _).grown hgrow' (by simp; omega) (fun y hy => by have := (OW.out.lt y hy).1; omega))
            have O2 := hideG (show w2.ownsRow (w.heap.size + 2) 147 4 (.slice a2 (m + 1) c2') (m + 1) (flat4 (Frm.gL k zs (m + 1))) by rw [HNX.out, HITW.out, flat4_append]; exact hown')
            have J8 := hideG hg8
            have J9 := hideG hg9
            have L2 := hideG hb2'
            have y2 : w2.cell? ⟨w.heap.size + 1, 2, none⟩ = some (.slice a' m c') := by simp only [World.cell?, hg9]; rfl
            have f2 : w2.frozen? ⟨w.heap.size + 1, 2, none⟩ = false := by simp [World.frozen?, hg9]
            clear hown' hgrow' hg8 hg9 hb2' rne d2 A2
            go_wp2_with fail
            go_roundw
            case rel =>
              refine ⟨m + 1, M + 17, .slice a2 (m + 1) c2', ?_, by omega, ?_, by go_num, ?_, ?_, ?_, ?_, ?_⟩
              · (rw [Nat.add_mul, ← HMM.out, HSE.out]) <;> omega
              · (congr 1) <;> omega
              · rw [Below.heap_setCell _ _ _ _ (by simp)]; exact J8.out
              · exact heap_setCell_same w2 (w.heap.size + 1) 2 #[.int .i64 k, .int .i64 fr, .slice a' m c'] 65 _ J9.out
              · exact ownsRow_chg (S := fun x => x = w.heap.size + 1) O2.out (Chg.setCell w2 ⟨w.heap.size + 1, 2, none⟩ _) (fun x hx e => by have := (O2.out.lt x hx).1; omega)
              · exact L2.out.setCell (p := ⟨w.heap.size + 1, 2, none⟩) (by simp) _
              · simp [World.setCell]; omega
            case measure => simp [intOf]; omega
          · have HITW := hideG (show Frm.gI k zs (3 + M) = (xi, Frm.gN zs (3 + M + 1), Frm.gN zs (3 + M + 9), Frm.gN zs (3 + M + 17)) from HIT.out)
            obtain ⟨ga, hga⟩ : ∃ x, x = Frm.gN zs (3 + M + 1) := ⟨_, rfl⟩
            obtain ⟨gb, hgb⟩ : ∃ x, x = Frm.gN zs (3 + M + 9) := ⟨_, rfl⟩
            obtain ⟨gc, hgc⟩ : ∃ x, x = Frm.gN zs (3 + M + 17) := ⟨_, rfl⟩
            rw [← hga, ← hgb, ← hgc] at HITW
            have Hga := hideG hga
            clear hga
            have Hgb := hideG hgb
            clear hgb
            have Hgc := hideG hgc
            clear hgc
            go_wp2_with fail
            refine (rnumber_calls _ zs _ (3 + M + 1) _ (BA.out.below (by go_grown)) (by omega) (by omega)).mono ?_
            rintro e w' ⟨rfl, rfl⟩
            rw [← Hga.out]
            go_wp2_with fail
            refine (rnumber_calls _ zs _ (3 + M + 9) _ (BA.out.below (by go_grown)) (by omega) (by omega)).mono ?_
            rintro e w' ⟨rfl, rfl⟩
            rw [← Hgb.out]
            go_wp2_with fail
            refine (rnumber_calls _ zs _ (3 + M + 17) _ (BA.out.below (by go_grown)) (by omega) (by omega)).mono ?_
            rintro e w' ⟨rfl, rfl⟩
            rw [← Hgc.out]
            have d2 : wr.cell? ⟨w.heap.size + 1, 2, none⟩ = some (.slice a' m c') := by simp only [World.cell?, G9.out]; rfl
            have A2 : ∀ ob, (wr.alloc ob).cell? ⟨w.heap.size + 1, 2, none⟩ = some (.slice a' m c') := fun ob => by
              rw [((Below.refl wr.heap.size wr).alloc (Nat.le_refl _) ob).cell (p := ⟨w.heap.size + 1, 2, none⟩) (by simp; omega)]; exact d2
            go_wp2_with (at_builtin; refine wpList_append_own _ rfl _ _ 63 rfl (w.heap.size + 2) 147 i1 (.agg #[.int .i64 0, .int .i64 0, .int .i64 0, .int .i64 0]) 4 32 Tryz.underlying63 hi1 hy0 hy1 hy2 rfl (by decide) _ _ _ rfl ((OW.out.alloc _).alloc _) ⟨wr.heap.size + 1, 0, none⟩ 1 1 [.int .i64 xi, .int .i64 ga, .int .i64 gb, .int .i64 gc] rfl rfl ?c1 ?c2 ?c3 ?c4 ?c5 ?_)
            case c1 =>
              have := cell_four_new (wr.alloc (.cells #[.int .i64 xi, .int .i64 ga, .int .i64 gb, .int .i64 gc] 147)) (.int .i64 xi) (.int .i64 ga) (.int .i64 gb) (.int .i64 gc) 147
              simpa using this
            case c2 => intro y hy; simp at hy; rcases hy with rfl | rfl | rfl | rfl <;> rfl
            case c3 => unfold maxLen; omega
            case c4 => omega
            case c5 => simp; omega
            intro v' w2 hown' hgrow' _
            obtain ⟨a2, c2', hv2⟩ := owns_form hown'
            subst hv2
            have z2 := hgrow'.size
            simp at z2
            have rne : ∀ g, g < w.heap.size + 2 → (Value.slice a' m c').ownBlock ≠ some g := fun g hg e => by have := (OW.out.lt g e).1; omega
            have hg9 : w2.heap[w.heap.size + 1]? = some (.cells #[.int .i64 k, .int .i64 fr, .slice a' m c'] 65 (0, 0)) := by
              rw [hgrow'.block _ (by simp; omega) (fun e => rne _ (by omega) e.symm), Below.heap_alloc _ _ _ (by simp; omega), Below.heap_alloc _ _ _ (by omega)]; exact G9.out
            have hg8 : w2.heap[w.heap.size]? = some (.cells #[.int .i64 0, .int .i64 0, .slice none 0 0] 65 (0, 0)) := by
              rw [hgrow'.block _ (by simp; omega) (fun e => rne _ (by omega) e.symm), Below.heap_alloc _ _ _ (by simp; omega), Below.heap_alloc _ _ _ (by omega)]; exact G8.out
            have hb2' : Below w.heap.size w w2 := (((BL.out.alloc (by omega) _).alloc (by simp; omega) _).grown hgrow' (by simp; omega) (fun y hy => by have := (OW.out.lt y hy).1; omega))
            have O2 := hideG (show w2.ownsRow (w.heap.size + 2) 147 4 (.slice a2 (m + 1) c2') (m + 1) (flat4 (Frm.gL k zs (m + 1))) by rw [HNX.out, HITW.out, flat4_append]; exact hown')
            have J8 := hideG hg8
            have J9 := hideG hg9
            have L2 := hideG hb2'
            have y2 : w2.cell? ⟨w.heap.size + 1, 2, none⟩ = some (.slice a' m c') := by simp only [World.cell?, hg9]; rfl
            have f2 : w2.frozen? ⟨w.heap.size + 1, 2, none⟩ = false := by simp [World.frozen?, hg9]
            clear hown' hgrow' hg8 hg9 hb2' rne d2 A2
            go_wp2_with fail
            go_roundw
            case rel =>
              refine ⟨m + 1, M + 25, .slice a2 (m + 1) c2', ?_, by omega, ?_, by go_num, ?_, ?_, ?_, ?_, ?_⟩
              · (rw [Nat.add_mul, ← HMM.out, HSE.out]) <;> omega
              · (congr 1) <;> omega
              · rw [Below.heap_setCell _ _ _ _ (by simp)]; exact J8.out
              · exact heap_setCell_same w2 (w.heap.size + 1) 2 #[.int .i64 k, .int .i64 fr, .slice a' m c'] 65 _ J9.out
              · exact ownsRow_chg (S := fun x => x = w.heap.size + 1) O2.out (Chg.setCell w2 ⟨w.heap.size + 1, 2, none⟩ _) (fun x hx e => by have := (O2.out.lt x hx).1; omega)
              · exact L2.out.setCell (p := ⟨w.heap.size + 1, 2, none⟩) (by simp) _
              · simp [World.setCell]; omega
            case measure => simp [intOf]; omega
        · have t2' : ¬ (3 : Int) + (M : Int) < (L : Int) := by omega
          have HG := hideG (HGM.out m (by omega) (.inr (by rw [← HMM.out]; omega)))
          have q0 : wr.cell? ⟨w.heap.size, 0, none⟩ = some (.int .i64 0) ∧ wr.frozen? ⟨w.heap.size, 0, none⟩ = false := ⟨by simp only [World.cell?, hg8]; rfl, by simp [World.frozen?, hg8]⟩
          have q1 : wr.cell? ⟨w.heap.size, 1, none⟩ = some (.int .i64 0) ∧ wr.frozen? ⟨w.heap.size, 1, none⟩ = false := ⟨by simp only [World.cell?, hg8]; rfl, by simp [World.frozen?, hg8]⟩
          have q2 : wr.cell? ⟨w.heap.size, 2, none⟩ = some (.slice none 0 0) ∧ wr.frozen? ⟨w.heap.size, 2, none⟩ = false := ⟨by simp only [World.cell?, hg8]; rfl, by simp [World.frozen?, hg8]⟩
          obtain ⟨q0, q0f⟩ := q0
          obtain ⟨q1, q1f⟩ := q1
          obtain ⟨q2, q2f⟩ := q2
          have p0 : wr.cell? ⟨w.heap.size + 1, 0, none⟩ = some (.int .i64 k) := by simp only [World.cell?, hg9]; rfl
          have p1 : wr.cell? ⟨w.heap.size + 1, 1, none⟩ = some (.int .i64 fr) := by simp only [World.cell?, hg9]; rfl
          have p2 : wr.cell? ⟨w.heap.size + 1, 2, none⟩ = some (.slice a' m c') := by simp only [World.cell?, hg9]; rfl
          have gne3 : w.heap.size + 1 ≠ w.heap.size := by omega
          clear hg8 hg9 hown hbel hM
          go_wp2_with fail
          (try simp only [Exit.inBlock, Exit.then])
          refine bodyPost_ret (results_cell_row rfl _ _ w.heap.size 65 #[.int .i64 k, .int .i64 fr, .slice a' m c'] (0, 0) _ rfl (frame_row _ _ _ G8.out) Tryz.underlying65 rfl sizeFr) rfl ?_
          refine ⟨.slice a' m c', rfl, m, HG.out, ?_, ?_⟩
          · refine ownsRow_base (ownsRow_chg (S := fun x => x = w.heap.size) OW.out ?_ (fun x hx e => by have := (OW.out.lt x hx).1; omega)) (by omega)
            exact chg3 _ _ _ _ _
          · have := BL.out
            go_grown
      · have t1' : ¬ (m : Int) < (n : Int) := by omega
        have HG := hideG (HGM.out m (by omega) (.inl (by omega)))
        have q0 : wr.cell? ⟨w.heap.size, 0, none⟩ = some (.int .i64 0) ∧ wr.frozen? ⟨w.heap.size, 0, none⟩ = false := ⟨by simp only [World.cell?, hg8]; rfl, by simp [World.frozen?, hg8]⟩
        have q1 : wr.cell? ⟨w.heap.size, 1, none⟩ = some (.int .i64 0) ∧ wr.frozen? ⟨w.heap.size, 1, none⟩ = false := ⟨by simp only [World.cell?, hg8]; rfl, by simp [World.frozen?, hg8]⟩
        have q2 : wr.cell? ⟨w.heap.size, 2, none⟩ = some (.slice none 0 0) ∧ wr.frozen? ⟨w.heap.size, 2, none⟩ = false := ⟨by simp only [World.cell?, hg8]; rfl, by simp [World.frozen?, hg8]⟩
        obtain ⟨q0, q0f⟩ := q0
        obtain ⟨q1, q1f⟩ := q1
        obtain ⟨q2, q2f⟩ := q2
        have p0 : wr.cell? ⟨w.heap.size + 1, 0, none⟩ = some (.int .i64 k) := by simp only [World.cell?, hg9]; rfl
        have p1 : wr.cell? ⟨w.heap.size + 1, 1, none⟩ = some (.int .i64 fr) := by simp only [World.cell?, hg9]; rfl
        have p2 : wr.cell? ⟨w.heap.size + 1, 2, none⟩ = some (.slice a' m c') := by simp only [World.cell?, hg9]; rfl
        have gne3 : w.heap.size + 1 ≠ w.heap.size := by omega
        clear hg8 hg9 hown hbel hM
        go_wp2_with fail
        (try simp only [Exit.inBlock, Exit.then])
        refine bodyPost_ret (results_cell_row rfl _ _ w.heap.size 65 #[.int .i64 k, .int .i64 fr, .slice a' m c'] (0, 0) _ rfl (frame_row _ _ _ G8.out) Tryz.underlying65 rfl sizeFr) rfl ?_
        refine ⟨.slice a' m c', rfl, m, HG.out, ?_, ?_⟩
        · refine ownsRow_base (ownsRow_chg (S := fun x => x = w.heap.size) OW.out ?_ (fun x hx e => by have := (OW.out.lt x hx).1; omega)) (by omega)
          exact chg3 _ _ _ _ _
        · have := BL.out
          go_grown

end Go.Proofs.YtchideljndagjabGreat
