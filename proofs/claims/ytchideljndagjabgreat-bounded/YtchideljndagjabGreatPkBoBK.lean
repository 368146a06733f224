/- Contract of package veilkeep: one step, and what has become of the flight and of the outcome. -/
import Derived.Test.YtchideljndagjabGreatPkBoBG
import Derived.Test.YtchideljndagjabGreatPkBoBI
import Derived.Test.YtchideljndagjabGreatPkBoBJ
import Derived.Test.YtchideljndagjabGreatPkBoAB
import Derived.Test.YtchideljndagjabGreatPkBoAC
import Derived.Deep.Strs
import Derived.ChangeOld
import Derived.ShutString
import Derived.Test.YtchideljndagjabGreatPkBoBD
import Derived.Deep.Slices
namespace Go.Proofs.YtchideljndagjabGreat
open Go.ChangeShapes Go.WideShapes Go.ChangeAt Go.RowKit
set_option linter.unusedVariables false

def wchW (w : World) (N T M D k x y : Int) (st : ByteArray) (so ro : Int) (va vb : Value) : World :=
  (((w.alloc (.cells #[.int .i64 N, .int .i64 T, .int .i64 M, .int .i64 D] 26)).alloc (.cells #[.int .i64 k, .int .i64 x, .int .i64 y, .string st] 45)).alloc (.cells #[.int .i64 so, .int .i64 ro, va, vb] 35)).alloc (.cells #[.int .i64 0, .int .i64 0, .slice none 0 0, .slice none 0 0] 35)
structure WchAt (w W : World) (N T M D k x y : Int) (st : ByteArray) (so ro : Int) (va vb : Value) : Prop where
  r0 : W.heap[w.heap.size]? = some (.cells #[.int .i64 N, .int .i64 T, .int .i64 M, .int .i64 D] 26 (0, 0))
  r1 : W.heap[w.heap.size + 1]? = some (.cells #[.int .i64 k, .int .i64 x, .int .i64 y, .string st] 45 (0, 0))
  r2 : W.heap[w.heap.size + 2]? = some (.cells #[.int .i64 so, .int .i64 ro, va, vb] 35 (0, 0))
  r3 : W.heap[w.heap.size + 3]? = some (.cells #[.int .i64 0, .int .i64 0, .slice none 0 0, .slice none 0 0] 35 (0, 0))
theorem WchAt.chg {S : Nat → Prop} {w W W' : World} {N T M D k x y : Int} {st : ByteArray} {so ro : Int} {va vb : Value} (h : WchAt w W N T M D k x y st so ro va vb) (hz : w.heap.size + 4 ≤ W.heap.size) (hc : Chg S W W') (hS : ∀ i, w.heap.size ≤ i → i < w.heap.size + 4 → ¬ S i) : WchAt w W' N T M D k x y st so ro va vb :=
  ⟨(hc.block _ (by omega) (hS _ (by omega) (by omega))).trans h.r0, (hc.block _ (by omega) (hS _ (by omega) (by omega))).trans h.r1, (hc.block _ (by omega) (hS _ (by omega) (by omega))).trans h.r2, (hc.block _ (by omega) (hS _ (by omega) (by omega))).trans h.r3⟩
theorem wchW_facts (w : World) (N T M D k x y : Int) (st : ByteArray) (so ro : Int) (va vb : Value) : Below w.heap.size w (wchW w N T M D k x y st so ro va vb) ∧ (wchW w N T M D k x y st so ro va vb).heap.size = w.heap.size + 4 ∧ WchAt w (wchW w N T M D k x y st so ro va vb) N T M D k x y st so ro va vb := by
  refine ⟨((((Below.refl _ _).alloc (Nat.le_refl _) _).alloc (by rw [World.size_alloc]; omega) _).alloc (by rw [World.size_alloc, World.size_alloc]; omega) _).alloc (by rw [World.size_alloc, World.size_alloc, World.size_alloc]; omega) _, by simp [wchW], ?_⟩
  have q : ∀ (W : World) (o : Obj) (i : Nat), i < W.heap.size → (W.alloc o).heap[i]? = W.heap[i]? := fun W o i hi => Below.heap_alloc _ _ _ hi
  constructor
  · unfold wchW; rw [q _ _ _ (by simp only [World.size_alloc]; omega), q _ _ _ (by simp only [World.size_alloc]; omega), q _ _ _ (by simp only [World.size_alloc]; omega)]; exact heap_alloc_new w _
  · unfold wchW; rw [q _ _ _ (by simp only [World.size_alloc]; omega), q _ _ _ (by simp only [World.size_alloc]; omega)]
    have := heap_alloc_new (w.alloc (.cells #[.int .i64 N, .int .i64 T, .int .i64 M, .int .i64 D] 26)) (.cells #[.int .i64 k, .int .i64 x, .int .i64 y, .string st] 45)
    simpa using this
  · unfold wchW; rw [q _ _ _ (by simp only [World.size_alloc]; omega)]
    have := heap_alloc_new ((w.alloc (.cells #[.int .i64 N, .int .i64 T, .int .i64 M, .int .i64 D] 26)).alloc (.cells #[.int .i64 k, .int .i64 x, .int .i64 y, .string st] 45)) (.cells #[.int .i64 so, .int .i64 ro, va, vb] 35)
    simpa using this
  · unfold wchW
    have := heap_alloc_new (((w.alloc (.cells #[.int .i64 N, .int .i64 T, .int .i64 M, .int .i64 D] 26)).alloc (.cells #[.int .i64 k, .int .i64 x, .int .i64 y, .string st] 45)).alloc (.cells #[.int .i64 so, .int .i64 ro, va, vb] 35)) (.cells #[.int .i64 0, .int .i64 0, .slice none 0 0, .slice none 0 0] 35)
    simpa using this

/-- A rest of a list of parcels. -/
theorem pview_drop {w : World} {B : Nat} {v : Value} {vs : List Value} {ps : List Pk} (h : Packs w B v vs ps) (hB : ∀ p ∈ ps, Frm.isB p.2.2) (k : Nat) (hk : k ≤ ps.length) : ∃ a c, v = .slice a ps.length c ∧ ps.length ≤ c ∧ c ≤ 9223372036854775807 ∧
    (∀ (g o : Nat) , a = some ⟨g, o, none⟩ → o = 0 ∧ PView w B (.slice (some ⟨g, k * 3, none⟩) (ps.length - k) (c - k)) (ps.drop k)) ∧ (a = none ∨ ∃ g, a = some ⟨g, 0, none⟩) ∧ (a = none → ps = [] ∧ c = 0) := by
  rcases h.row.2 with ⟨e0, hn⟩ | ⟨g, cap, cur, e0, _, _, hnc, hcm, _⟩
  · refine ⟨none, 0, by rw [e0, hn], by omega, by omega, fun g o e => (by cases e), .inl rfl, fun _ => ⟨List.length_eq_zero_iff.1 hn, rfl⟩⟩
  · have hcm' : cap ≤ 9223372036854775807 := by unfold maxLen at hcm; omega
    refine ⟨some ⟨g, 0, none⟩, cap, e0, hnc, hcm', fun g' o e => ?_, .inr ⟨g, rfl⟩, fun e => (by cases e)⟩
    injection e with e
    injection e with e1 e2 e3
    subst e1
    refine ⟨e2.symm, some ⟨g, k * 3, none⟩, cap - k, by rw [List.length_drop], by rw [List.length_drop]; omega, by omega, fun j p hp => ?_⟩
    rw [List.getElem?_drop] at hp
    obtain ⟨a, c, f1, f2, f3, f4⟩ := h.pview hB
    obtain ⟨g2, y, h1, h2, h3, h4, h5, h6, h7, h8⟩ := f4 (k + j) p hp
    have eg : g2 = g := by
      rw [e0, h1] at f1
      injection f1 with f1
      injection f1 with f1
      injection f1 with f1 _ _
      exact f1.symm
    subst eg
    have e1 : (k + j) * 3 = k * 3 + j * 3 := Nat.add_mul _ _ _
    rw [e1] at h4 h5 h6
    exact ⟨g2, k * 3, y, rfl, h2, h3, h4, h5, h6, h7, h8⟩

/-- What a step leaves. -/
structure Watched (w w' : World) (b n : Nat) (C : Srv.Cf) (cl : Nat → Cli.Cl) (s' : Sn) (m m' : SM) (gb : Nat) (bg' : Bg) (va vb : Value) : Prop where
  ses : SesAt w' b n C cl s' m'
  bg : BgAt w' gb bg'
  set : ListAt w' va s'.q.out.2.2.1
  sum : ListAt w' vb s'.q.out.2.2.2
  chg : Chg (fun x => x = gb ∨ SesOwn b m x) w w'
  lists : ∀ x, (va.ownBlock = some x ∨ vb.ownBlock = some x) → w.heap.size ≤ x ∧ ¬ SesOwn b m' x ∧ x < w'.heap.size
  own : ∀ x, SesOwn b m' x → SesOwn b m x ∨ w.heap.size ≤ x
  foot : ∀ x, SesFoot b n m' x → SesFoot b n m x ∨ w.heap.size ≤ x
/-- How much there is room for behind a step. -/
def budA (C : Srv.Cf) (cl : Nat → Cli.Cl) (n : Nat) (s : Sn) (o : Stp) (bg : Bg) : Bg := if o.k = 3 then bg else budL bg (newP C cl n true s o)

set_option maxHeartbeats 1000000 in
set_option maxRecDepth 100000 in
theorem kwatched_calls {w : World} {b n gb : Nat} {C : Srv.Cf} {cl : Nat → Cli.Cl} {s : Sn} {m : SM} {bg : Bg} {t : Int} (h : SesAt w b n C cl s m) (hC : Cast C cl n) (hI : BInv C cl n s bg t) (hbg : BgAt w gb bg) (hgb : ¬ SesFoot b n m gb) (va vb : Value) (hva : ListAt w va s.q.out.2.2.1) (hvb : ListAt w vb s.q.out.2.2.2) (hvo : ∀ x, (va.ownBlock = some x ∨ vb.ownBlock = some x) → x ≠ gb ∧ ¬ SesOwn b m x ∧ x < w.heap.size)
    (hbb : -1000 ≤ bg.1 ∧ bg.1 ≤ 1000 ∧ ∀ u, u < 13 → -1000 ≤ bg.2 u ∧ bg.2 u ≤ 1000) (k x y : Int) (hx : inI x) (hy : inI y) (st : ByteArray) (hst : st.size ≤ maxLen) :
    Calls Tryz.prog 24 #[.pointer (some ⟨b, 0, none⟩), .agg #[.int .i64 C.N, .int .i64 C.T, .int .i64 C.M, .int .i64 C.D], .agg #[.int .i64 k, .int .i64 x, .int .i64 y, .string st], .pointer (some ⟨gb, 0, none⟩), .agg #[.int .i64 s.q.out.1, .int .i64 s.q.out.2.1, va, vb]] w fun e w' => ∃ va' vb', e = .returned (.tuple #[.agg #[.int .i64 (actN C cl n true s ⟨k, x, y, bl st⟩).q.out.1, .int .i64 (actN C cl n true s ⟨k, x, y, bl st⟩).q.out.2.1, va', vb'], .bool true]) ∧ ∃ m', Watched w w' b n C cl (actN C cl n true s ⟨k, x, y, bl st⟩) m m' gb (budA C cl n s ⟨k, x, y, bl st⟩ bg) va' vb' := by
  have hoB : Frm.isB (bl st) := bl_isB st
  have HFL := hideG (fun (W : World) (hb : Below w.heap.size w W) => flight_at h hI.ok hb)
  have HACT := hideG (fun (W : World) (hb : Below w.heap.size w W) => act_calls (h.below hb) hC hI.ok hI.flb k x y hx hy st hst true)
  have hok' := hI.ok.act hI.flb (o := ⟨k, x, y, bl st⟩) hoB true
  have hfb' := hI.flb.act hI.ok (o := ⟨k, x, y, bl st⟩) hoB true
  have hout' := OutOk.act (cl := cl) (n := n) hI.ok hI.out true ⟨k, x, y, bl st⟩
  have hst' := out_stays (s := s) (cl := cl) hC.num true ⟨k, x, y, bl st⟩
  have hkl := act_kept (s := s) (cl := cl) hC.num (o := ⟨k, x, y, bl st⟩) true
  have HJN := hideG (fun (h3 : k ≠ 3) => (act_join (s := s) (cl := cl) hC.num (o := ⟨k, x, y, bl st⟩) h3 true).2)
  have HIA := hideG (fun (h3 : k ≠ 3) => BInv.act hC hI (o := ⟨k, x, y, bl st⟩) hoB h3)
  have HBA := hideG (show budA C cl n s ⟨k, x, y, bl st⟩ bg = if k = 3 then bg else budL bg (newP C cl n true s ⟨k, x, y, bl st⟩) from rfl)
  have hkp : keptN s ⟨k, x, y, bl st⟩ = if (k = 1 ∨ k = 2) ∧ 0 < s.fl.length then s.fl.length - 1 else s.fl.length := rfl
  obtain ⟨s', hs'⟩ : ∃ s', s' = actN C cl n true s ⟨k, x, y, bl st⟩ := ⟨_, rfl⟩
  rw [← hs'] at HACT hok' hfb' hout' hst' hkl HJN ⊢
  obtain ⟨np, hnp⟩ : ∃ np, np = newP C cl n true s ⟨k, x, y, bl st⟩ := ⟨_, rfl⟩
  rw [← hnp] at HJN HIA HBA
  obtain ⟨kp, hkpe⟩ : ∃ kp, kp = keptN s ⟨k, x, y, bl st⟩ := ⟨_, rfl⟩
  rw [← hkpe] at hkp hkl HJN
  obtain ⟨bg', hbge⟩ : ∃ bg', bg' = budA C cl n s ⟨k, x, y, bl st⟩ bg := ⟨_, rfl⟩
  rw [← hbge] at HBA ⊢
  have HOP := hideG (show ∃ op, op = actD s ⟨k, x, y, bl st⟩ from ⟨_, rfl⟩)
  obtain ⟨op, hop⟩ := HOP.out
  rw [← hop] at HACT
  have hlf : s.fl.length ≤ 300 := by have := hI.ok.fl; omega
  have hlf' : s'.fl.length ≤ 300 := by have := hok'.fl; omega
  have HOK' := hideG hok'
  have HFB' := hideG hfb'
  have hN := hC.gc.n
  have hM := hC.gc.m
  obtain ⟨i1, i2⟩ := hout'.ints hC.gc
  have HI1 := hideG (inI_of i1)
  have HI2 := hideG (inI_of i2)
  have HLOW := hideG (fun x (hx : SesOwn b m x) => h.low (.inl hx : SesFoot b n m x))
  have HLOWF := hideG (fun x (hx : SesFoot b n m x) => h.low hx)
  have hglt : gb < w.heap.size := FRow.lt hbg
  have ngo : ¬ SesOwn b m gb := fun e => hgb (.inl e)
  have HGB := hideG hgb
  have HSOK := hideG (show ∀ W va' vb', ListAt W va s.q.out.2.2.1 → ListAt W vb s.q.out.2.2.2 → ListAt W va' s'.q.out.2.2.1 → ListAt W vb' s'.q.out.2.2.2 → Calls Tryz.prog 16 #[.agg #[.int .i64 s.q.out.1, .int .i64 s.q.out.2.1, va, vb], .agg #[.int .i64 s'.q.out.1, .int .i64 s'.q.out.2.1, va', vb']] W fun e w' => ∃ r, e = .returned (.bool r) ∧ Below W.heap.size W w' ∧ (r = true ∨ s.q.out.1 = 0) from fun W va' vb' h1 h2 h3 h4 => by
    by_cases hp : s.q.out.1 = 0
    · have hnil : s.q.out.2.2.1 = [] ∧ s.q.out.2.2.2 = [] := by
        rcases hI.out with q | q | q
        · exact q.2.2
        · rw [hp] at q; exact absurd q.1 (by decide)
        · rw [hp] at q; exact absurd q.1 (by decide)
      rw [hnil.1] at h1
      rw [hnil.2] at h2
      exact (ksameOutcome_pend _ _ _ _ va vb va' vb' _ _ W h1 h2 h3 h4).mono (fun e w' ⟨r, q1, q2⟩ => ⟨r, q1, q2, .inr hp⟩)
    · have e := hst'.resolve_right hp
      rw [e] at h3 h4 ⊢
      exact (ksameOutcome_same _ _ va vb va' vb' _ _ W h1 h2 h3 h4).mono (fun e w' ⟨q1, q2⟩ => ⟨true, q1, q2, .inl rfl⟩))
  have hklen : kp ≤ s'.fl.length := hkl
  clear hI hst' hkl hs' hnp hkpe hbge hop i1 i2
  generalize s.q.out.1 = so at *
  generalize s.q.out.2.1 = ro at *
  generalize s.q.out.2.2.1 = ls at *
  generalize s.q.out.2.2.2 = us at *
  have HOO := hideG (fun (W : World) (m' : SM) (hh : SesAt W b n C cl s' m') => vOutcome hh hok')
  have HFF := hideG (fun (W : World) (m' : SM) (hh : SesAt W b n C cl s' m') => flight_at hh hok' (Below.refl W.heap.size W))
  have HSN := hideG (fun (W : World) (va' vb' : Value) (h1 : ListAt W va' s'.q.out.2.2.1) (h2 : ListAt W vb' s'.q.out.2.2.2) => ksound_yes C.N C.T C.M C.D s'.q.out.1 s'.q.out.2.1 va' vb' _ _ W h1 h2 hout')
  obtain ⟨so', hso'⟩ : ∃ x, x = s'.q.out.1 := ⟨_, rfl⟩
  obtain ⟨ro', hro'⟩ : ∃ x, x = s'.q.out.2.1 := ⟨_, rfl⟩
  obtain ⟨ls', hls'⟩ : ∃ x, x = s'.q.out.2.2.1 := ⟨_, rfl⟩
  obtain ⟨us', hus'⟩ : ∃ x, x = s'.q.out.2.2.2 := ⟨_, rfl⟩
  rw [← hso', ← hro', ← hls', ← hus'] at HOO HSN HSOK
  rw [← hls'] at HI1
  rw [← hus'] at HI2
  rw [← hso', ← hro']
  have HEQ := hideG (And.intro hls' hus')
  clear hso' hro' hls' hus' hout' hok' hfb'
  obtain ⟨av, cv, hve⟩ := klist_form hva
  obtain ⟨aw, cw, hwe⟩ := klist_form hvb
  have HKEEP := hideG (fun (W : World) (hz : w.heap.size ≤ W.heap.size) (hb : ∀ x, (va.ownBlock = some x ∨ vb.ownBlock = some x) → W.heap[x]? = w.heap[x]?) => (show ListAt W va ls ∧ ListAt W vb us from ⟨hva.keep hz (fun x hx => hb x (.inl hx)), hvb.keep hz (fun x hx => hb x (.inr hx))⟩))
  have HVO := hideG hvo
  have HBG := hideG hbg
  subst hve
  subst hwe
  obtain ⟨B0, z0, R0⟩ := wchW_facts w C.N C.T C.M C.D k x y st so ro (.slice av ls.length cv) (.slice aw us.length cw)
  obtain ⟨W0, hW0⟩ : ∃ W0, W0 = wchW w C.N C.T C.M C.D k x y st so ro (.slice av ls.length cv) (.slice aw us.length cw) := ⟨_, rfl⟩
  rw [← hW0] at B0 z0 R0
  unfold wchW at hW0
  have HW0 := hideG hW0
  have HB0 := hideG B0
  have HR0 := hideG R0
  clear h hbg hgb hva hvb hvo hoB hW0 B0 R0
  go_enter Tryz.func24, Tryz.ntmps24
  go_upto_region 1 with fail
  rw [← HW0.out]
  go_wp2_with fail
  refine (HFL.out W0 HB0.out).mono ?_
  rintro e w1 ⟨v1, vs1, rfl, hp1, hb1⟩
  have z1 := hb1.size
  have B1 := hideG (HB0.out.trans (hb1.mono HB0.out.size))
  have R1 := hideG (HR0.out.chg (by omega) (Chg.of_below (S := fun _ => False) hb1) (fun _ _ _ h => h))
  obtain ⟨a1, c1, rfl, -⟩ := hp1.viewK
  obtain ⟨⟨x0, x1, x2, x3⟩, -⟩ := cells_four R1.out.r0
  obtain ⟨⟨y0, y1, y2, y3⟩, -⟩ := cells_four R1.out.r1
  have q0 : w.heap.size < w1.heap.size := by omega
  have q1 : w.heap.size + 1 < w1.heap.size := by omega
  clear hp1 hb1
  go_wp2_with fail
  refine (HACT.out w1 B1.out).mono ?_
  rintro e w2 ⟨v2, rfl, hac⟩
  obtain ⟨⟨m', ht1, -⟩, hpar⟩ := hac
  obtain ⟨p2, k2, l2, hv2⟩ : ∃ a n c, v2 = .slice a n c := by
    obtain ⟨B, _, hpr⟩ := hpar
    cases op with
    | none => exact ⟨none, 0, 0, hpr⟩
    | some p => obtain ⟨g, o, c, yv, e, _⟩ := hpr; exact ⟨_, _, _, e⟩
  have ht := ht1.after B1.out
  have z2 := ht1.chg.size
  have R2 := hideG (R1.out.chg (by omega) ht1.chg (fun i h1 h2 e => by have := HLOW.out i e; omega))
  have T2 := hideG ht
  have T21 := hideG ht1
  have BG2 := hideG (HBG.out.chg ht.chg ngo)
  have LL2 := hideG (HKEEP.out w2 (by omega) (fun x hx => ht.chg.block x (HVO.out x hx).2.2 (HVO.out x hx).2.1))
  have HFL2 := hideG (HFF.out w2 m' ht.ses)
  subst hv2
  clear ht1 hpar ht x0 x1 x2 x3 y0 y1 y2 y3 q0 q1
  go_wp2_with fail
  refine HFL2.out.mono ?_
  rintro e w3 ⟨v3, vs3, rfl, hp3, hb3⟩
  have z3 := hb3.size
  have P3 := hideG hp3
  have S3 := hideG (T2.out.ses.below hb3)
  have HB3 := hideG hb3
  have HO3 := hideG (HOO.out w3 m' S3.out)
  obtain ⟨a3, c3, rfl, hl3, hm3, -⟩ := hp3.viewK
  clear hp3 hb3
  go_wp2_with fail
  refine HO3.out.mono ?_
  rintro e w4 ⟨va4, vb4, rfl, ht4⟩
  have hb4 := ht4.2.2.2
  have z4 := hb4.size
  obtain ⟨a4, k4, e4⟩ := owns_form ht4.1
  obtain ⟨a5, k5, e5⟩ := owns_form ht4.2.1
  have LA4 := hideG (listAt_of_owns ht4.1 HI1.out)
  have LB4 := hideG (listAt_of_owns ht4.2.1 HI2.out)
  have NEW4 := hideG (show ∀ x, (va4.ownBlock = some x ∨ vb4.ownBlock = some x) → w3.heap.size ≤ x ∧ x < w4.heap.size from fun x hx => by
    rcases hx with hx | hx
    · exact ht4.1.lt x hx
    · exact ht4.2.1.lt x hx)
  have HB4 := hideG hb4
  subst e4
  subst e5
  clear ht4 hb4
  obtain ⟨W5, hW5⟩ : ∃ W5, W5 = w4.alloc (.cells #[.int .i64 so', .int .i64 ro', .slice a4 ls'.length k4, .slice a5 us'.length k5] 35) := ⟨_, rfl⟩
  have hb5 : Below w4.heap.size w4 W5 := by rw [hW5]; exact (Below.refl _ _).alloc (Nat.le_refl _) _
  have z5 : w4.heap.size < W5.heap.size := by rw [hW5]; simp
  have RN5 := hideG (show W5.heap[w4.heap.size]? = some (.cells #[.int .i64 so', .int .i64 ro', .slice a4 ls'.length k4, .slice a5 us'.length k5] 35 (0, 0)) by rw [hW5]; exact heap_alloc_new w4 _)
  have HB25 := hideG (show Below w2.heap.size w2 W5 from HB3.out.trans ((HB4.out.trans (hb5.mono z4)).mono z3))
  have HB35 := hideG (show Below w3.heap.size w3 W5 from HB4.out.trans (hb5.mono z4))
  have R5 := hideG (R2.out.chg (by omega) (Chg.of_below (S := fun _ => False) HB25.out) (fun _ _ _ h => h))
  have LA5 := hideG (LA4.out.below hb5)
  have LB5 := hideG (LB4.out.below hb5)
  have HSN5 := hideG (HSN.out W5 _ _ LA5.out LB5.out)
  have HW5 := hideG hW5
  clear hW5 hb5
  go_upto_region 5 with fail
  rw [← HW5.out]
  obtain ⟨⟨x0, x1, x2, x3⟩, -⟩ := cells_four R5.out.r0
  obtain ⟨⟨n0, n1, n2, n3⟩, -⟩ := cells_four RN5.out
  have q0 : w.heap.size < W5.heap.size := by omega
  go_wp2_with fail
  refine HSN5.out.mono ?_
  rintro e w6 ⟨rfl, hb6⟩
  have z6 := hb6.size
  have HB26 := hideG (HB25.out.trans (hb6.mono (by omega)))
  have HB36 := hideG (HB35.out.trans (hb6.mono (by omega)))
  have R6 := hideG (R2.out.chg (by omega) (Chg.of_below (S := fun _ => False) HB26.out) (fun _ _ _ h => h))
  have RN6 := hideG ((hb6.block w4.heap.size z5).trans RN5.out)
  have LA6 := hideG (LA5.out.below hb6)
  have LB6 := hideG (LB5.out.below hb6)
  have P6 := hideG (P3.out.below HB36.out)
  clear hb6 x0 x1 x2 x3 n0 n1 n2 n3 q0
  obtain ⟨⟨y0, y1, y2, y3⟩, -⟩ := cells_four R6.out.r1
  have q1 : w.heap.size + 1 < w6.heap.size := by omega
  obtain ⟨L, hL⟩ : ∃ L, L = s.fl.length := ⟨_, rfl⟩
  obtain ⟨L', hL'⟩ : ∃ L', L' = s'.fl.length := ⟨_, rfl⟩
  rw [← hL] at hkp hlf ⊢
  rw [← hL'] at hklen hlf' hl3 ⊢
  have HLE := hideG hL'
  clear hL hL'
  go_upto_region 9 with fail
  go_cut [56] from 45 to 55 (fun q wc => q = .bool ((decide (k = 1) || decide (k = 2)) && decide (0 < L)) ∧ w6 = wc)
  case first =>
    by_cases k1 : k = 1
    · have f1 : (k == 1) = true := by simpa using k1
      have K1 := hideG k1
      clear k1
      by_cases l0 : 0 < L
      · have l0' : (0 : Int) < (L : Int) := by omega
        go_wp2_with fail
        go_meet
        exact ⟨by rw [decide_eq_true K1.out, decide_eq_true l0]; rfl, rfl⟩
      · have l0' : ¬ (0 : Int) < (L : Int) := by omega
        go_wp2_with fail
        go_meet
        exact ⟨by rw [decide_eq_true K1.out, decide_eq_false l0]; rfl, rfl⟩
    · have f1 : (k == 1) = false := by simpa using k1
      by_cases k2 : k = 2
      · have f2 : (k == 2) = true := by simpa using k2
        have K2 := hideG k2
        clear k2
        by_cases l0 : 0 < L
        · have l0' : (0 : Int) < (L : Int) := by omega
          go_wp2_with fail
          go_meet
          exact ⟨by rw [decide_eq_false k1, decide_eq_true K2.out, decide_eq_true l0]; rfl, rfl⟩
        · have l0' : ¬ (0 : Int) < (L : Int) := by omega
          go_wp2_with fail
          go_meet
          exact ⟨by rw [decide_eq_false k1, decide_eq_true K2.out, decide_eq_false l0]; rfl, rfl⟩
      · have f2 : (k == 2) = false := by simpa using k2
        go_wp2_with fail
        go_meet
        exact ⟨by rw [decide_eq_false k1, decide_eq_false k2]; rfl, rfl⟩
  case rest =>
    obtain ⟨hq, hwc⟩ := hcut
    subst hwc
    obtain ⟨cb, hcb⟩ : ∃ cb, cb = ((decide (k = 1) || decide (k = 2)) && decide (0 < L)) := ⟨_, rfl⟩
    rw [← hcb] at hq
    subst hq
    have HKP := hideG (show kp = if cb = true then L - 1 else L by
      rw [hkp, hcb]
      by_cases c : (k = 1 ∨ k = 2) ∧ 0 < L
      · rw [if_pos c, if_pos (by simpa using c)]
      · rw [if_neg c, if_neg (by simpa using c)])
    have HL0 := hideG (show cb = true → 0 < L from fun e => by rw [hcb] at e; simp at e; exact e.2)
    clear hkp hcb
    go_upto_if 56 with fail

    go_cut [18] from 57 to 58 (fun q wc => q = .int .i64 kp ∧ w6 = wc)
    case first =>
      cases cb
      · have e : kp = L := HKP.out
        go_wp2_with fail
        go_meet
        exact ⟨by rw [e], rfl⟩
      · have e : kp = L - 1 := HKP.out
        have l0 := HL0.out rfl
        have e' : (L : Int) - 1 = (kp : Int) := by omega
        go_wp2_with fail
        go_meet
        exact ⟨by go_num, rfl⟩
    case rest =>
      obtain ⟨hq, hwc⟩ := hcut
      subst hq
      subst hwc
      clear HKP HL0
      have hkl' : ¬ ((L' : Int) < (kp : Int)) := by omega
      obtain ⟨a6, c6, hv6, hl6, hm6, hdr, hform, hnil⟩ := pview_drop P6.out HFB'.out kp (by rw [← HLE.out]; exact hklen)
      rw [← HLE.out] at hv6 hl6 hdr
      obtain ⟨rfl, rfl⟩ : a3 = a6 ∧ c3 = c6 := by injection hv6 with q1 q2 q3; exact ⟨q1, q3⟩
      have T6 := hideG (T2.out.then HB26.out)
      have BG6 := hideG (BG2.out.chg (S := fun _ => False) (Chg.of_below HB26.out) (fun h => h))
      have S6 := hideG T6.out.ses
      obtain ⟨⟨x0, x1, x2, x3⟩, -⟩ := cells_four R6.out.r0
      have q0 : w.heap.size < w6.heap.size := by omega
      have hkL : (kp : Int) ≤ (L' : Int) := by omega
      have hLc : (L' : Int) ≤ (c3 : Int) := by omega
      have HDR := hideG hdr
      have HNIL := hideG hnil
      clear hdr hnil hv6
      obtain ⟨kb, hkb⟩ : ∃ kb, (k != 3) = kb := ⟨_, rfl⟩
      have HKB := hideG hkb
      go_upto_if 66 with fail
      go_cut [14] from 67 to 72 (fun q wc => q = .bool true ∧ BgAt wc gb bg' ∧ Chg (fun x => x = gb) w6 wc)
      case first =>
        cases kb
        · have HB3' := hideG (show bg' = bg by rw [HBA.out, if_pos (by simpa using HKB.out)])
          clear hkb
          go_wp2_with fail
          go_meet
          exact ⟨rfl, by rw [HB3'.out]; exact BG6.out, Chg.of_below (Below.refl _ _)⟩
        · have k3 : k ≠ 3 := by simpa using HKB.out
          have HB3' := hideG (show bg' = budL bg np by rw [HBA.out, if_neg k3])
          obtain ⟨hpo, hbo, -⟩ := HIA.out k3
          have hjn := HJN.out k3
          rw [hjn] at HDR
          have hnpl : np.length = L' - kp := by rw [← hjn, List.length_drop, HLE.out]
          have hnp5 : np.length ≤ 500 := by omega
          have HJ := hideG (fun (v : Value) (hv : PView w6 w2.heap.size v np) => kjoined_calls gb bg C.N C.T C.M C.D v np w2.heap.size w6.drew hN hM (BG6.out.chg (S := fun _ => False) (Chg.of_below (Below.refl w6.heap.size w6).drew) (fun h => h)) (by omega) (hv.chg (Chg.of_below (S := fun _ => False) (Below.refl w6.heap.size w6).drew) (fun _ _ _ h => h)) hpo hbo hbb hnp5)
          have HCD := hideG (fun (wc : World) (hc : Chg (fun x => x = gb) w6.drew wc) => (Chg.of_below (S := fun x => x = gb) (Below.refl w6.heap.size w6).drew).also hc)
          rw [← HB3'.out] at HJ
          clear hkb k3 hjn hpo hbo
          rcases hform with hn | ⟨g, hg⟩
          · obtain ⟨e1, e2⟩ := HNIL.out hn
            have e3 : L' = 0 := by rw [HLE.out, e1]; rfl
            have e5 : kp = 0 := by omega
            have e4 : np = [] := List.length_eq_zero_iff.1 (by omega)
            have HPV := hideG (show PView w6 w2.heap.size (.slice none 0 0) np from ⟨none, 0, by rw [e4]; rfl, by rw [e4]; exact Nat.le_refl _, by omega, fun j p hp => by rw [e4] at hp; simp at hp⟩)
            subst hn
            clear HLE e1 e4 hnpl
            subst e2
            subst e3
            subst e5
            go_upto_region 14 with fail
            go_region_with (go_at_call 49; refine (HJ.out _ HPV.out).mono ?_; rintro e w7 ⟨rfl, f1, f2⟩; have HFIN := hideG (And.intro f1 (HCD.out w7 f2)); clear f1 f2)
            all_goals (go_wp2_with fail; go_meet; exact ⟨rfl, HFIN.out⟩)
          · subst hg
            by_cases c : c3 = kp
            · have e4 : np = [] := List.length_eq_zero_iff.1 (by omega)
              have HPV := hideG (show PView w6 w2.heap.size (.slice (some ⟨g, 0, none⟩) 0 0) np from ⟨_, 0, by rw [e4]; rfl, by rw [e4]; exact Nat.le_refl _, by omega, fun j p hp => by rw [e4] at hp; simp at hp⟩)
              have eL : L' = kp := by omega
              clear e4 HLE HDR hnpl
              subst c
              subst eL
              go_upto_region 14 with fail
              go_region_with (go_at_call 49; refine (HJ.out _ HPV.out).mono ?_; rintro e w7 ⟨rfl, f1, f2⟩; have HFIN := hideG (And.intro f1 (HCD.out w7 f2)); clear f1 f2)
              all_goals (go_wp2_with fail; go_meet; exact ⟨rfl, HFIN.out⟩)
            · have HPV := hideG (show PView w6 w2.heap.size (.slice (some ⟨g, kp * 3, none⟩) (L' - kp) (c3 - kp)) np from (HDR.out g 0 rfl).2)
              go_upto_region 14 with fail
              go_region_with (go_at_call 49; refine (HJ.out _ HPV.out).mono ?_; rintro e w7 ⟨rfl, f1, f2⟩; have HFIN := hideG (And.intro f1 (HCD.out w7 f2)); clear f1 f2)
              all_goals (go_wp2_with fail; go_meet; exact ⟨rfl, HFIN.out⟩)
      case rest =>
        obtain ⟨hq, hbg7, hch7⟩ := hcut
        subst hq
        have z7 := hch7.size
        have hch27 : Chg (fun x => x = gb ∨ SesOwn b m x) w wc := (T6.out.chg.mono (fun x e _ => .inr e)).trans (hch7.mono (fun x e _ => .inl e)) (fun x e _ => e)
        have R7 := hideG (R6.out.chg (by omega) hch7 (fun i h1 h2 e => by omega))
        have RN7 := hideG ((hch7.block w4.heap.size (by omega) (by omega)).trans RN6.out)
        have LL7 := HKEEP.out wc (by omega) (fun x hx => hch27.block x (HVO.out x hx).2.2 (fun e => by
          rcases e with e | e
          · exact (HVO.out x hx).1 e
          · exact (HVO.out x hx).2.1 e))
        have new4 : ∀ x, ((Value.slice a4 ls'.length k4).ownBlock = some x ∨ (Value.slice a5 us'.length k5).ownBlock = some x) → x ≠ gb := fun x hx e => by have := NEW4.out x hx; omega
        have LA7 := hideG (LA6.out.chg hch7 (fun x hx e => new4 x (.inl hx) e))
        have LB7 := hideG (LB6.out.chg hch7 (fun x hx e => new4 x (.inr hx) e))
        have S7 := hideG (S6.out.keep z7 (fun x hx => hch7.block x (S6.out.low hx) (fun e => by
          rcases T6.out.foot x hx with q | q
          · exact HGB.out (by rw [← e]; exact q)
          · omega)))
        have HSO7 := hideG (HSOK.out wc _ _ LL7.1 LL7.2 LA7.out LB7.out)
        have CH7 := hideG hch27
        have BG7 := hideG hbg7
        obtain ⟨⟨o0, o1, o2, o3⟩, -⟩ := cells_four R7.out.r2
        obtain ⟨⟨n0, n1, n2, n3⟩, -⟩ := cells_four RN7.out
        have q2 : w.heap.size + 2 < wc.heap.size := by omega
        have q4 : w4.heap.size < wc.heap.size := by omega
        clear hbg7 hch7 hch27 LL7 x0 x1 x2 x3 y0 y1 y2 y3 q0 q1 hkb
        go_wp2_with fail
        refine HSO7.out.mono ?_
        rintro e w8 ⟨r8, rfl, hb8, hr8⟩
        have z8 := hb8.size
        have R8 := hideG (R7.out.chg (by omega) (Chg.of_below (S := fun _ => False) hb8) (fun _ _ _ h => h))
        have RN8 := hideG ((hb8.block w4.heap.size q4).trans RN7.out)
        clear o0 o1 o2 o3 n0 n1 n2 n3 q2 q4
        obtain ⟨⟨o0, o1, o2, o3⟩, -⟩ := cells_four R8.out.r2
        obtain ⟨⟨n0, n1, n2, n3⟩, -⟩ := cells_four RN8.out
        obtain ⟨⟨p0, p1, p2', p3⟩, pf⟩ := cells_four R8.out.r3
        have q2 : w.heap.size + 2 < w8.heap.size := by omega
        have q3 : w.heap.size + 3 < w8.heap.size := by omega
        have q4 : w4.heap.size < w8.heap.size := by omega
        have R9 := hideG (row_four R8.out.r3 (.int .i64 so') (.int .i64 ro') (.slice a4 ls'.length k4) (.slice a5 us'.length k5))
        have c9 := chg_four w8 (w.heap.size + 3) (.int .i64 so') (.int .i64 ro') (.slice a4 ls'.length k4) (.slice a5 us'.length k5)
        have HB8 := hideG hb8
        have FIN := hideG (show ∀ Y, Below ((((w8.setCell ⟨w.heap.size + 3, 0, none⟩ (.int .i64 so')).setCell ⟨w.heap.size + 3, 1, none⟩ (.int .i64 ro')).setCell ⟨w.heap.size + 3, 2, none⟩ (.slice a4 ls'.length k4)).setCell ⟨w.heap.size + 3, 3, none⟩ (.slice a5 us'.length k5)).heap.size ((((w8.setCell ⟨w.heap.size + 3, 0, none⟩ (.int .i64 so')).setCell ⟨w.heap.size + 3, 1, none⟩ (.int .i64 ro')).setCell ⟨w.heap.size + 3, 2, none⟩ (.slice a4 ls'.length k4)).setCell ⟨w.heap.size + 3, 3, none⟩ (.slice a5 us'.length k5)) Y → Watched w Y b n C cl s' m m' gb bg' (.slice a4 ls'.length k4) (.slice a5 us'.length k5) from fun Y hY => by
          have hcY : Chg (fun x => x = w.heap.size + 3) wc Y := ((Chg.of_below (S := fun x => x = w.heap.size + 3) HB8.out).also c9).grow hY
          have zY := hcY.size
          have nf : ∀ x, SesFoot b n m' x → x ≠ w.heap.size + 3 := fun x hx e => by
            rcases T21.out.foot x hx with q | q
            · have := HLOWF.out x q; omega
            · omega
          have n4 := NEW4.out
          obtain ⟨el, eu⟩ := HEQ.out
          refine ⟨S7.out.keep zY (fun x hx => hcY.block x (S7.out.low hx) (nf x hx)), BG7.out.chg hcY (by omega), ?_, ?_, CH7.out.trans hcY (fun x e hx => by omega), fun x hx => ?_, T2.out.own, T2.out.foot⟩
          · rw [← el]; exact LA7.out.chg hcY (fun x hx e => by have := n4 x (.inl hx); omega)
          · rw [← eu]; exact LB7.out.chg hcY (fun x hx e => by have := n4 x (.inr hx); omega)
          · have h4 := n4 x hx
            refine ⟨by omega, fun e => ?_, by omega⟩
            have := T21.out.ses.low (.inl e : SesFoot b n m' x)
            omega)
        clear c9
        have hr8' : (r8 || (so == 0)) = true := by
          rcases hr8 with q | q
          · rw [q]; rfl
          · rw [q]; cases r8 <;> rfl
        have RES := hideG (fun (Y : World) (hY : Below ((((w8.setCell ⟨w.heap.size + 3, 0, none⟩ (.int .i64 so')).setCell ⟨w.heap.size + 3, 1, none⟩ (.int .i64 ro')).setCell ⟨w.heap.size + 3, 2, none⟩ (.slice a4 ls'.length k4)).setCell ⟨w.heap.size + 3, 3, none⟩ (.slice a5 us'.length k5)).heap.size ((((w8.setCell ⟨w.heap.size + 3, 0, none⟩ (.int .i64 so')).setCell ⟨w.heap.size + 3, 1, none⟩ (.int .i64 ro')).setCell ⟨w.heap.size + 3, 2, none⟩ (.slice a4 ls'.length k4)).setCell ⟨w.heap.size + 3, 3, none⟩ (.slice a5 us'.length k5)) Y) => (hY.block (w.heap.size + 3) (by simp [World.setCell]; omega)).trans R9.out)
        obtain ⟨se, hse⟩ : ∃ se, (so == 0) = se := ⟨_, rfl⟩
        rw [hse] at hr8'
        clear hr8 hb8
        cases r8
        · have hs1 : se = true := by simpa using hr8'
          subst hs1
          go_upto_region 16 with fail
          go_region
          go_wp2_with fail
          refine bodyPost_ret (results_row_tmp rfl _ _ (w.heap.size + 3) 35 #[.int .i64 so', .int .i64 ro', .slice a4 ls'.length k4, .slice a5 us'.length k5] (0, 0) _ rfl (RES.out _ (Below.refl _ _).drew) Tryz.underlying35 rfl size_out4) rfl ?_
          exact ⟨_, _, rfl, m', FIN.out _ (Below.refl _ _).drew⟩
        · go_upto_region 16 with fail
          go_region
          go_wp2_with fail
          refine bodyPost_ret (results_row_tmp rfl _ _ (w.heap.size + 3) 35 #[.int .i64 so', .int .i64 ro', .slice a4 ls'.length k4, .slice a5 us'.length k5] (0, 0) _ rfl (RES.out _ (Below.refl _ _).drew) Tryz.underlying35 rfl size_out4) rfl ?_
          exact ⟨_, _, rfl, m', FIN.out _ (Below.refl _ _).drew⟩

end Go.Proofs.YtchideljndagjabGreat

namespace Go.Proofs.YtchideljndagjabGreat
open Go.ChangeShapes Go.WideShapes Go.ChangeAt Go.RowKit Go.Deep
set_option linter.unusedVariables false

theorem acellsInt : Tryz.prog.cellsOf 3 = 1 := by kernel_rfl
theorem acellsInts : Tryz.prog.cellsOf 33 = 1 := by kernel_rfl
theorem acellsStr : Tryz.prog.cellsOf 9 = 1 := by kernel_rfl
theorem acellsCfg : Tryz.prog.cellsOf 26 = 4 := by kernel_rfl
theorem acellsDraw : Tryz.prog.cellsOf 117 = 6 := by kernel_rfl

theorem arr4 {cs : Array Value} (h : cs.size = 4) : ∃ a b c d, cs = #[a, b, c, d] := by
  obtain ⟨l⟩ := cs
  match l, h with
  | [a, b, c, d], _ => exact ⟨a, b, c, d, rfl⟩
section
variable {H : Type} {enc : TypeId × Value → H} {w : World} {spare : Nat → Bool} {held : Bool} {r : Reach} {b0 : Nat}

theorem aint_of {n : Nat} {c : Value} {y : DataW H × List MemPlace} (h : DataW.trod enc Tryz.prog w 0 spare held n 3 [c] = some y) : ∃ x : Int, c = .int .i64 x ∧ inI x := by
  obtain ⟨x, e, _, hx⟩ := DataW.trod_int Tryz.underlying3 h
  simp at e
  exact ⟨x, e, bounds_i64 hx⟩
theorem alist_of {n : Nat} {c : Value} {y : DataW H × List MemPlace} (h : DataW.trod enc Tryz.prog w 0 (fun _ => true) held n 33 [c] = some y) : ∃ zs, ListAt w c zs := by
  rcases open_ints Tryz.underlying33 Tryz.underlying3 acellsInt h with ⟨hcs, _⟩ | ⟨x, l, c', zs, hcs, _, hl, hm, hz, _, hcell, hwz⟩
  · simp at hcs
    subst hcs
    exact ⟨_, (rowed (zs := []) (.inl ⟨rfl, rfl, rfl, rfl⟩)).1⟩
  · simp at hcs
    subst hcs
    exact ⟨_, (rowed (zs := zs) (.inr ⟨_, rfl, hl, hm, by simpa using hz, hcell, hwz⟩)).1⟩

set_option maxRecDepth 100000 in
theorem cfg_open {v : Value} {d : DataW H} {p : List MemPlace} (hv : Value.okWide Tryz.prog w r b0 26 v) (h : DataW.Trod enc Tryz.prog w 0 (fun _ => true) held 26 v d p) :
    ∃ N T M D : Int, v = .agg #[.int .i64 N, .int .i64 T, .int .i64 M, .int .i64 D] := by
  obtain ⟨cs, rfl, hsz⟩ := okWide_struct Tryz.underlying26 hv
  rw [acellsCfg] at hsz
  obtain ⟨c0, c1, c2, c3, rfl⟩ := arr4 hsz
  obtain ⟨fuel, hf⟩ := h
  obtain ⟨xs, m, _, hy, hl, hlen, hf⟩ := DataW.trod_struct Tryz.underlying26 hf
  have f0 := hf 0 _ rfl
  have f1 := hf 1 _ rfl
  have f2 := hf 2 _ rfl
  have f3 := hf 3 _ rfl
  simp [acellsInt, Value.cells] at f0 f1 f2 f3
  have hlen4 : xs.length = 4 := hlen
  rw [List.getElem?_eq_getElem (by omega)] at f0 f1 f2 f3
  obtain ⟨a, rfl, _⟩ := aint_of f0
  obtain ⟨b, rfl, _⟩ := aint_of f1
  obtain ⟨c, rfl, _⟩ := aint_of f2
  obtain ⟨e, rfl, _⟩ := aint_of f3
  exact ⟨a, b, c, e, rfl⟩

end
end Go.Proofs.YtchideljndagjabGreat

namespace Go.Proofs.YtchideljndagjabGreat
open Go.ChangeShapes Go.WideShapes Go.ChangeAt Go.RowKit Go.Deep
set_option linter.unusedVariables false

theorem acellsStep : Tryz.prog.cellsOf 45 = 4 := by kernel_rfl
section
variable {H : Type} {enc : TypeId × Value → H} {w : World} {held : Bool}

set_option maxRecDepth 100000 in
theorem adraw_of {n : Nat} {cs : List Value} {y : DataW H × List MemPlace} (h : DataW.trod enc Tryz.prog w 0 (fun _ => true) held n 117 cs = some y) :
    ∃ vi vm vs d, cs = [vi, .int .i64 (d : DD).ch, .int .i64 d.ms, .int .i64 d.sd, vm, vs] ∧ DrawIs w vi vm vs d := by
  obtain ⟨xs, m, _, hy, hl, hlen, hf⟩ := DataW.trod_struct Tryz.underlying117 h
  rw [acellsDraw] at hl
  match cs, hl with
  | [c0, c1, c2, c3, c4, c5], _ =>
    have f0 := hf 0 _ rfl
    have f1 := hf 1 _ rfl
    have f2 := hf 2 _ rfl
    have f3 := hf 3 _ rfl
    have f4 := hf 4 _ rfl
    have f5 := hf 5 _ rfl
    simp [acellsInt, acellsInts] at f0 f1 f2 f3 f4 f5
    have hlen6 : xs.length = 6 := hlen
    rw [List.getElem?_eq_getElem (by omega)] at f0 f1 f2 f3 f4 f5
    obtain ⟨a, rfl, k1⟩ := aint_of f1
    obtain ⟨b, rfl, k2⟩ := aint_of f2
    obtain ⟨c, rfl, k3⟩ := aint_of f3
    obtain ⟨z0, l0⟩ := alist_of f0
    obtain ⟨z4, l4⟩ := alist_of f4
    obtain ⟨z5, l5⟩ := alist_of f5
    exact ⟨c0, c4, c5, ⟨z0, a, b, c, z4, z5⟩, rfl, l0, l4, l5, k1, k2, k3⟩

theorem adraws_of {n : Nat} {c : Value} {y : DataW H × List MemPlace} (h : DataW.trod enc Tryz.prog w 0 (fun _ => true) held n 27 [c] = some y) : ∃ (a : Option Addr) (n cap : Nat) (vi vm vs : Nat → Value) (D : Nat → DD), c = .slice a n cap ∧ DrawsAt w a n cap vi vm vs D := by
  rcases open_slice Tryz.underlying27 h with ⟨hcs, _⟩ | ⟨x, l, cp, m, n', D, Pl, hcs, _, hl, hm, hmm, hy, hx⟩
  · simp at hcs
    exact ⟨none, 0, 0, fun _ => undef, fun _ => undef, fun _ => undef, fun _ => ⟨[], 0, 0, 0, [], []⟩, hcs, ⟨Nat.le_refl _, by omega, fun i hi => by omega, fun i hi => by omega⟩⟩
  · simp at hcs
    have hlm : l ≤ m := by rw [hmm]; split <;> omega
    rw [acellsDraw] at hx
    have hit : ∀ i, i < l → ∃ t : Value × Value × Value × DD, (DrawIs w t.1 t.2.1 t.2.2.1 t.2.2.2) ∧ ∀ j, j < 6 → w.cell? (x.add (i * 6 + j)) = some (([t.1, .int .i64 t.2.2.2.ch, .int .i64 t.2.2.2.ms, .int .i64 t.2.2.2.sd, t.2.1, t.2.2.1] : List Value).getD j undef) := by
      intro i hi
      obtain ⟨cs, e1, e2⟩ := hx i (by omega)
      obtain ⟨_, e3, e4⟩ := World.cells?_some e1
      obtain ⟨vi, vm, vs, d, hcs', hd⟩ := adraw_of e2
      refine ⟨(vi, vm, vs, d), hd, fun j hj => ?_⟩
      have e5 := e4 j hj
      rw [List.getElem?_eq_getElem (by omega)] at e5
      show _ = some (([vi, .int .i64 d.ch, .int .i64 d.ms, .int .i64 d.sd, vm, vs] : List Value).getD j undef)
      rw [← hcs', List.getD_eq_getElem?_getD, List.getElem?_eq_getElem (by omega), Option.getD_some, ← e5, Deep.add_add]
    let T : Nat → Value × Value × Value × DD := fun i => if hi : i < l then (hit i hi).choose else (undef, undef, undef, ⟨[], 0, 0, 0, [], []⟩)
    have hT : ∀ i, i < l → (DrawIs w (T i).1 (T i).2.1 (T i).2.2.1 (T i).2.2.2) ∧ ∀ j, j < 6 → w.cell? (x.add (i * 6 + j)) = some (([(T i).1, .int .i64 (T i).2.2.2.ch, .int .i64 (T i).2.2.2.ms, .int .i64 (T i).2.2.2.sd, (T i).2.1, (T i).2.2.1] : List Value).getD j undef) := fun i hi => by
      have e : T i = (hit i hi).choose := dif_pos hi
      rw [e]; exact (hit i hi).choose_spec
    have hcpm : cp ≤ 9223372036854775807 := by unfold maxLen at hm; omega
    refine ⟨some x, l, cp, fun i => (T i).1, fun i => (T i).2.1, fun i => (T i).2.2.1, fun i => (T i).2.2.2, hcs, ⟨by omega, hcpm, fun i hi => ?_, fun i hi => (hT i hi).1⟩⟩
    obtain ⟨b, off, spot⟩ := x
    have q000 := (hT 0 (by omega)).2 0 (by omega)
    have hspot : spot = none := by simpa [Addr.add] using World.cell?_spot q000
    have q00 := (hT i hi).2 0 (by omega)
    subst hspot
    have hadd : ∀ j, (⟨b, off, none⟩ : Addr).add j = ⟨b, off + j, none⟩ := fun j => by unfold Addr.add; by_cases hz : j = 0 <;> simp [hz]
    have g := (hT i hi).2
    have g0 := g 0 (by omega)
    have g1 := g 1 (by omega)
    have g2 := g 2 (by omega)
    have g3 := g 3 (by omega)
    have g4 := g 4 (by omega)
    have g5 := g 5 (by omega)
    rw [hadd] at g0 g1 g2 g3 g4 g5 q00
    refine ⟨b, off, rfl, cell_in q00, ?_, ?_, ?_, ?_, ?_, ?_⟩
    · rw [Nat.add_zero] at g0; exact g0
    · rw [Nat.add_assoc]; exact g1
    · rw [Nat.add_assoc]; exact g2
    · rw [Nat.add_assoc]; exact g3
    · rw [Nat.add_assoc]; exact g4
    · rw [Nat.add_assoc]; exact g5


/-- Steps in memory. -/
structure Stps where
  k : Nat → Int
  n : Nat → Int
  m : Nat → Int
  s : Nat → ByteArray
structure StepsAt (w : World) (a : Option Addr) (n cap : Nat) (S : Stps) : Prop where
  le : n ≤ cap
  mx : cap ≤ 9223372036854775807
  each : ∀ i, i < n → inI (S.k i) ∧ inI (S.n i) ∧ inI (S.m i) ∧ (S.s i).size ≤ maxLen
  cells : ∀ i, i < n → ∃ b off, a = some ⟨b, off, none⟩ ∧ b < w.heap.size ∧ w.cell? ⟨b, off + i * 4, none⟩ = some (.int .i64 (S.k i)) ∧ w.cell? ⟨b, off + i * 4 + 1, none⟩ = some (.int .i64 (S.n i)) ∧ w.cell? ⟨b, off + i * 4 + 2, none⟩ = some (.int .i64 (S.m i)) ∧ w.cell? ⟨b, off + i * 4 + 3, none⟩ = some (.string (S.s i))
theorem StepsAt.below {w w' : World} {a : Option Addr} {n cap : Nat} {S : Stps} (h : StepsAt w a n cap S) (hb : Below w.heap.size w w') : StepsAt w' a n cap S :=
  ⟨h.le, h.mx, h.each, fun i hi => by
    obtain ⟨b, off, e1, e2, e3, e4, e5, e6⟩ := h.cells i hi
    exact ⟨b, off, e1, Nat.lt_of_lt_of_le e2 hb.size, (hb.cell (p := ⟨b, off + i * 4, none⟩) e2).trans e3, (hb.cell (p := ⟨b, off + i * 4 + 1, none⟩) e2).trans e4, (hb.cell (p := ⟨b, off + i * 4 + 2, none⟩) e2).trans e5, (hb.cell (p := ⟨b, off + i * 4 + 3, none⟩) e2).trans e6⟩⟩

set_option maxRecDepth 100000 in
theorem astep_of {n : Nat} {cs : List Value} {y : DataW H × List MemPlace} (h : DataW.trod enc Tryz.prog w 0 (fun _ => true) held n 45 cs = some y) :
    ∃ (k x m : Int) (s : ByteArray), cs = [.int .i64 k, .int .i64 x, .int .i64 m, .string s] ∧ inI k ∧ inI x ∧ inI m ∧ s.size ≤ maxLen := by
  obtain ⟨xs, q, _, hy, hl, hlen, hf⟩ := DataW.trod_struct Tryz.underlying45 h
  rw [acellsStep] at hl
  match cs, hl with
  | [c0, c1, c2, c3], _ =>
    have f0 := hf 0 _ rfl
    have f1 := hf 1 _ rfl
    have f2 := hf 2 _ rfl
    have f3 := hf 3 _ rfl
    simp [acellsInt, acellsStr] at f0 f1 f2 f3
    have hlen4 : xs.length = 4 := hlen
    rw [List.getElem?_eq_getElem (by omega)] at f0 f1 f2 f3
    obtain ⟨a, rfl, k0⟩ := aint_of f0
    obtain ⟨b, rfl, k1⟩ := aint_of f1
    obtain ⟨c, rfl, k2⟩ := aint_of f2
    obtain ⟨s, e, _, hs⟩ := DataW.trod_string Tryz.underlying9 f3
    simp at e
    subst e
    exact ⟨a, b, c, s, rfl, k0, k1, k2, hs⟩

theorem asteps_of {n : Nat} {c : Value} {y : DataW H × List MemPlace} (h : DataW.trod enc Tryz.prog w 0 (fun _ => true) held n 28 [c] = some y) : ∃ (a : Option Addr) (n cap : Nat) (S : Stps), c = .slice a n cap ∧ StepsAt w a n cap S := by
  rcases open_slice Tryz.underlying28 h with ⟨hcs, _⟩ | ⟨x, l, cp, m, n', D, Pl, hcs, _, hl, hm, hmm, hy, hx⟩
  · simp at hcs
    exact ⟨none, 0, 0, ⟨fun _ => 0, fun _ => 0, fun _ => 0, fun _ => ByteArray.empty⟩, hcs, ⟨Nat.le_refl _, by omega, fun i hi => by omega, fun i hi => by omega⟩⟩
  · simp at hcs
    have hlm : l ≤ m := by rw [hmm]; split <;> omega
    rw [acellsStep] at hx
    have hit : ∀ i, i < l → ∃ t : Int × Int × Int × ByteArray, (inI t.1 ∧ inI t.2.1 ∧ inI t.2.2.1 ∧ t.2.2.2.size ≤ maxLen) ∧ ∀ j, j < 4 → w.cell? (x.add (i * 4 + j)) = some (([.int .i64 t.1, .int .i64 t.2.1, .int .i64 t.2.2.1, .string t.2.2.2] : List Value).getD j undef) := by
      intro i hi
      obtain ⟨cs, e1, e2⟩ := hx i (by omega)
      obtain ⟨_, e3, e4⟩ := World.cells?_some e1
      obtain ⟨k, n, q, s, hcs', h1, h2, h3, h4⟩ := astep_of e2
      refine ⟨(k, n, q, s), ⟨h1, h2, h3, h4⟩, fun j hj => ?_⟩
      have e5 := e4 j hj
      rw [List.getElem?_eq_getElem (by omega)] at e5
      show _ = some (([.int .i64 k, .int .i64 n, .int .i64 q, .string s] : List Value).getD j undef)
      rw [← hcs', List.getD_eq_getElem?_getD, List.getElem?_eq_getElem (by omega), Option.getD_some, ← e5, Deep.add_add]
    let T : Nat → Int × Int × Int × ByteArray := fun i => if hi : i < l then (hit i hi).choose else (0, 0, 0, ByteArray.empty)
    have hT : ∀ i, i < l → (inI (T i).1 ∧ inI (T i).2.1 ∧ inI (T i).2.2.1 ∧ (T i).2.2.2.size ≤ maxLen) ∧ ∀ j, j < 4 → w.cell? (x.add (i * 4 + j)) = some (([.int .i64 (T i).1, .int .i64 (T i).2.1, .int .i64 (T i).2.2.1, .string (T i).2.2.2] : List Value).getD j undef) := fun i hi => by
      have e : T i = (hit i hi).choose := dif_pos hi
      rw [e]; exact (hit i hi).choose_spec
    have hcpm : cp ≤ 9223372036854775807 := by unfold maxLen at hm; omega
    refine ⟨some x, l, cp, ⟨fun i => (T i).1, fun i => (T i).2.1, fun i => (T i).2.2.1, fun i => (T i).2.2.2⟩, hcs, ⟨by omega, hcpm, fun i hi => (hT i hi).1, fun i hi => ?_⟩⟩
    obtain ⟨b, off, spot⟩ := x
    have q000 := (hT 0 (by omega)).2 0 (by omega)
    have hspot : spot = none := by simpa [Addr.add] using World.cell?_spot q000
    have q00 := (hT i hi).2 0 (by omega)
    subst hspot
    have hadd : ∀ j, (⟨b, off, none⟩ : Addr).add j = ⟨b, off + j, none⟩ := fun j => by unfold Addr.add; by_cases hz : j = 0 <;> simp [hz]
    have g := (hT i hi).2
    have g0 := g 0 (by omega)
    have g1 := g 1 (by omega)
    have g2 := g 2 (by omega)
    have g3 := g 3 (by omega)
    rw [hadd] at g0 g1 g2 g3 q00
    refine ⟨b, off, rfl, cell_in q00, ?_, ?_, ?_, ?_⟩
    · rw [Nat.add_zero] at g0; exact g0
    · rw [Nat.add_assoc]; exact g1
    · rw [Nat.add_assoc]; exact g2
    · rw [Nat.add_assoc]; exact g3
theorem draws_open {v : Value} {d : DataW H} {p : List MemPlace} {a : Option Addr} {n cap : Nat} (hv : v = .slice a n cap) (h : DataW.Trod enc Tryz.prog w 0 (fun _ => true) held 27 v d p) : ∃ vi vm vs D, DrawsAt w a n cap vi vm vs D := by
  obtain ⟨fuel, hf⟩ := h
  rw [hv] at hf
  obtain ⟨a', n', c', vi, vm, vs, D, e, hd⟩ := adraws_of hf
  injection e with e1 e2 e3
  subst e1; subst e2; subst e3
  exact ⟨vi, vm, vs, D, hd⟩
theorem steps_open {v : Value} {d : DataW H} {p : List MemPlace} {a : Option Addr} {n cap : Nat} (hv : v = .slice a n cap) (h : DataW.Trod enc Tryz.prog w 0 (fun _ => true) held 28 v d p) : ∃ S, StepsAt w a n cap S := by
  obtain ⟨fuel, hf⟩ := h
  rw [hv] at hf
  obtain ⟨a', n', c', S, e, hd⟩ := asteps_of hf
  injection e with e1 e2 e3
  subst e1; subst e2; subst e3
  exact ⟨S, hd⟩
end

end Go.Proofs.YtchideljndagjabGreat
