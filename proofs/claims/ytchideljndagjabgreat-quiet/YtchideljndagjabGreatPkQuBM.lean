/- veilkeep.Quiet, walked. -/
import Derived.Test.YtchideljndagjabGreatPkQuBL
import Derived.Below
import Derived.ChangeMaps5
namespace Go.Proofs.YtchideljndagjabGreat.quiet
open Go.ChangeShapes Go.WideShapes Go.ChangeAt Go.RowKit
set_option linter.unusedVariables false

theorem own : ownKnob Tryz.prog.godebug = none := by kernel_rfl
theorem laidOut : laidOutB Tryz.prog = true := by kernel_rfl

set_option maxHeartbeats 1000000 in
set_option maxRecDepth 100000 in
theorem walk_no (N T M D : Int) (a : Option Addr) (n c : Nat) (vi vm vs : Nat → Value) (Dd : Nat → DD) (a3 : Option Addr) (n3 c3 : Nat) (a4 : Option Addr) (n4 c4 : Nat) (w : World) (hD : DrawsAt w a n c vi vm vs Dd) (hE : begE N T M D n Dd ≠ 0) :
    Calls Tryz.prog 7 #[.agg #[.int .i64 N, .int .i64 T, .int .i64 M, .int .i64 D], .slice a n c, .slice a3 n3 c3, .slice a4 n4 c4] w fun e w' => e = .returned (.bool true) ∧ Below w.heap.size w w' := by
  have HB := hideG (fun (W : World) (hb : Below w.heap.size w W) => kbegun_no N T M D a n c vi vm vs Dd W (hD.below hb) hE)
  clear hD hE
  obtain ⟨W0, hW0⟩ : ∃ W0, W0 = w.alloc (.cells #[.int .i64 N, .int .i64 T, .int .i64 M, .int .i64 D] 26) := ⟨_, rfl⟩
  have BB := hideG (show Below w.heap.size w W0 by rw [hW0]; exact (Below.refl _ _).alloc (Nat.le_refl _) _)
  have z0 : w.heap.size < W0.heap.size := by rw [hW0]; simp
  have HR := hideG (show W0.heap[w.heap.size]? = some (.cells #[.int .i64 N, .int .i64 T, .int .i64 M, .int .i64 D] 26 (0, 0)) by rw [hW0]; exact heap_alloc_new w _)
  have HW0 := hideG hW0
  clear hW0
  obtain ⟨⟨x0, x1, x2, x3⟩, -⟩ := cells_four HR.out
  go_enter Tryz.func7, Tryz.ntmps7
  go_upto_region 1 with fail
  rw [← HW0.out]
  go_wp2_with fail
  refine (HB.out W0 BB.out).mono ?_
  rintro e w1 ⟨rfl, hb1⟩
  have B1 := hideG (BB.out.trans (hb1.mono (by omega)))
  have z1 := hb1.size
  clear x0 x1 x2 x3
  obtain ⟨⟨x0, x1, x2, x3⟩, -⟩ := cells_four ((hb1.block w.heap.size z0).trans HR.out)
  have q0 : w.heap.size < w1.heap.size := by omega
  clear hb1
  go_wp2_with fail
  refine (HB.out w1 B1.out).mono ?_
  rintro e w2 ⟨rfl, hb2⟩
  have B2 := hideG (B1.out.trans (hb2.mono B1.out.size))
  clear hb2 x0 x1 x2 x3
  go_wp2_with fail
  go_ret
  exact ⟨rfl, B2.out⟩

theorem par2_keep {S own own' : Nat → Prop} {w w' : World} {B : Nat} {v : Value} {op : Option Pk} (h : ParAt2 w B own v op) (hc : Chg S w w') (hS : ∀ x, B ≤ x → x < w.heap.size → ¬ S x) (ho : ∀ x, B ≤ x → x < w.heap.size → ¬ own x → ¬ own' x) : ParAt2 w' B own' v op := by
  cases op with
  | none => exact h
  | some p =>
    obtain ⟨g, o, c, y, e1, e2, e3, e4, e5, e6, e7, e8, e9, e10, e11⟩ := h
    have hg := hc.block g e5 (hS g e4 e5)
    exact ⟨g, o, c, y, e1, e2, e3, e4, Nat.lt_of_lt_of_le e5 hc.size, (World.cell?_of_block (w := w) (a := ⟨g, o, none⟩) hg).trans e6, (World.cell?_of_block (w := w) (a := ⟨g, o + 1, none⟩) hg).trans e7, (World.cell?_of_block (w := w) (a := ⟨g, o + 2, none⟩) hg).trans e8, e9.keepS hc.size (fun x hx => hc.block x (e11 x hx).2.1 (hS x (e11 x hx).1 (e11 x hx).2.1)), ho g e4 e5 e10, fun x hx => ⟨(e11 x hx).1, Nat.lt_of_lt_of_le (e11 x hx).2.1 hc.size, ho x (e11 x hx).1 (e11 x hx).2.1 (e11 x hx).2.2⟩⟩
theorem par2_form {w : World} {B : Nat} {own : Nat → Prop} {v : Value} {op : Option Pk} (h : ParAt2 w B own v op) : ∃ a n c, v = .slice a n c := by
  cases op with
  | none => exact ⟨none, 0, 0, h⟩
  | some p => obtain ⟨g, o, c, y, e, _⟩ := h; exact ⟨_, _, _, e⟩
/-- Both have made the step. -/
structure Both (w wr wc : World) (bx by_ n gc : Nat) (C : Srv.Cf) (cl : Nat → Cli.Cl) (s' : Sn) (wv : Value) (ws : List Value) (was : List Pk) (v : Value) (op : Option Pk) (mx my : SM) (B : Nat) : Prop where
  mem : QM w wc bx by_ n gc C cl s' s' mx my wv ws was
  bd : wr.heap.size ≤ B
  par : ParAt2 wc B (fun z => SesOwn bx mx z ∨ SesOwn by_ my z) v op
theorem both_of {w wr w1 w2 : World} {bx by_ n gc : Nat} {C : Srv.Cf} {cl : Nat → Cli.Cl} {s s' : Sn} {my mx' : SM} {wv : Value} {ws : List Value} {was : List Pk} {v v2 : Value} {op op2 : Option Pk} {B : Nat} (hq : QM w w1 bx by_ n gc C cl s' s mx' my wv ws was) (hB : wr.heap.size ≤ B) (hp : ParAt2 w1 B (SesOwn bx mx') v op) (hlow : ∀ x, SesFoot by_ n my x → x < wr.heap.size) (h2 : Acted2 w1 w2 by_ n C cl s' my v2 op2) : ∃ my', Both w wr w2 bx by_ n gc C cl s' wv ws was v op mx' my' B := by
  obtain ⟨my', ht, _⟩ := h2
  refine ⟨my', hq.took2 ht, hB, par2_keep hp ht.chg (fun x h1 h2 e => ?_) (fun x h1 h2 e k => ?_)⟩
  · have := hlow x (.inl e); omega
  · rcases k with k | k
    · exact e k
    · rcases ht.own x k with q | q
      · have := hlow x (.inl q); omega
      · omega

theorem news3 (w : World) (a b c : Value) (T : TypeId) : ∀ j u, [a, b, c][j]? = some u → (w.alloc (.cells #[a, b, c] T)).cell? ((⟨w.heap.size, 0, none⟩ : Addr).add j) = some u := by
  intro j u h
  have hadd : (⟨w.heap.size, 0, none⟩ : Addr).add j = ⟨w.heap.size, 0 + j, none⟩ := by unfold Addr.add; by_cases hz : j = 0 <;> simp [hz]
  rw [hadd, cell_of_row _ w.heap.size (0 + j) _ _ (0, 0) (heap_alloc_new w _), Nat.zero_add]
  simpa using h

set_option maxHeartbeats 6000000 in
set_option maxRecDepth 100000 in
theorem walk_ok (N T M D : Int) (a : Option Addr) (n c : Nat) (vi vm vs : Nat → Value) (Dd : Nat → DD) (a3 : Option Addr) (n3 c3 : Nat) (S : Stps) (a4 : Option Addr) (n4 c4 : Nat) (Z : Stps) (w : World) (hD : DrawsAt w a n c vi vm vs Dd) (hS : StepsAt w a3 n3 c3 S) (hZ : StepsAt w a4 n4 c4 Z) (h40 : n3 * 40 ≤ 140737488351232) (hE : begE N T M D n Dd = 0) :
    Calls Tryz.prog 7 #[.agg #[.int .i64 N, .int .i64 T, .int .i64 M, .int .i64 D], .slice a n c, .slice a3 n3 c3, .slice a4 n4 c4] w fun e w' => e = .returned (.bool true) ∧ Below w.heap.size w w' := by
  have hC := cast_of hE
  have HB := hideG (fun (W : World) (hb : Below w.heap.size w W) => kbegun_go N T M D a n c vi vm vs Dd W (hD.below hb) hE)
  have HSS := hideG (fun (W : World) (hb : Below w.heap.size w W) => hS.below hb)
  have HZZ := hideG (fun (W : World) (hb : Below w.heap.size w W) => hZ.below hb)
  have hle := hS.le
  have hmx := hS.mx
  have hle4 := hZ.le
  have hmx4 := hZ.mx
  obtain ⟨cl, hcl⟩ : ∃ cl, cl = clD N T M Dd := ⟨_, rfl⟩
  rw [← hcl] at HB hC
  have HC := hideG hC
  have hN : 1 ≤ N ∧ N ≤ 12 := hC.gc.n
  have HNN := hideG (show N = (n : Int) from hC.num)
  have hn12 := hC.le.2
  clear hD hS hZ hE hcl hC
  obtain ⟨W0, hW0⟩ : ∃ W0, W0 = w.alloc (.cells #[.int .i64 N, .int .i64 T, .int .i64 M, .int .i64 D] 26) := ⟨_, rfl⟩
  have BB := hideG (show Below w.heap.size w W0 by rw [hW0]; exact (Below.refl _ _).alloc (Nat.le_refl _) _)
  have z0 : w.heap.size < W0.heap.size := by rw [hW0]; simp
  have HR := hideG (show W0.heap[w.heap.size]? = some (.cells #[.int .i64 N, .int .i64 T, .int .i64 M, .int .i64 D] 26 (0, 0)) by rw [hW0]; exact heap_alloc_new w _)
  have HW0 := hideG hW0
  clear hW0
  obtain ⟨⟨x0, x1, x2, x3⟩, -⟩ := cells_four HR.out
  go_enter Tryz.func7, Tryz.ntmps7
  go_upto_region 1 with fail
  rw [← HW0.out]
  go_wp2_with fail
  refine (HB.out W0 BB.out).mono ?_
  rintro e w1 ⟨bx, rfl, hb1, mx, hsx, hnx⟩
  have z1 := hb1.size
  have B1 := hideG (BB.out.trans (hb1.mono (by omega)))
  have R1 := hideG ((hb1.block w.heap.size z0).trans HR.out)
  have S1 := hideG hsx
  have NX := hideG hnx
  clear x0 x1 x2 x3 hb1 hsx hnx
  obtain ⟨⟨x0, x1, x2, x3⟩, -⟩ := cells_four R1.out
  have q0 : w.heap.size < w1.heap.size := by omega
  go_wp2_with fail
  refine (HB.out w1 B1.out).mono ?_
  rintro e w2 ⟨by_, rfl, hb2, my, hsy, hny⟩
  have z2 := hb2.size
  have INIT := hideG (show QI w w2 bx by_ n w.heap.size ⟨N, T, M, D⟩ cl (beg cl n) (fun _ => 0) mx my (.slice none 0 0) [] [] from
    { mem := { x := S1.out.below hb2, y := hsy, fl := flAt_nil w2, cfg := (hb2.block w.heap.size q0).trans R1.out,
               xy := fun z hz hf => by have h1 := S1.out.low (.inl hz : SesFoot bx n mx z); have h2 := hny z hf; omega,
               yx := fun z hz hf => by have h1 := S1.out.low hf; have h2 := hny z (.inl hz); omega,
               row := fun z hz => (by cases hz), byt := fun u hu => (by cases hu),
               gcn := ⟨fun e => by have := NX.out _ e; omega, fun e => by have := hny _ e; omega, Nat.le_refl _⟩,
               lo := fun z hz => by
                 rcases hz with hz | hz
                 · have := NX.out z (.inl hz); omega
                 · have := hny z (.inl hz); omega,
               bel := B1.out.trans (hb2.mono B1.out.size) },
      hi := hi_beg HC.out, out := outOk_beg _ _ _, sp := fun p hp => (by cases hp) })
  clear hb2 hsy hny x0 x1 x2 x3
  obtain ⟨gc, hgc⟩ : ∃ gc, gc = w.heap.size := ⟨_, rfl⟩
  rw [← hgc]
  rw [← hgc] at INIT
  clear hgc
  go_wp2_with fail
  go_loopw [13, 14] (fun q i ws0 => ∃ (j : Nat) (s : Sn) (ph : Nat → Nat) (mx my : SM) (wv : Value) (ws : List Value) (was : List Pk), q = wv ∧ j ≤ n3 ∧ was.length ≤ j ∧ i = .int .i64 (j : Int) ∧ QI w ws0 bx by_ n gc ⟨N, T, M, D⟩ cl s ph mx my wv ws was) (fun _ i _ => n3 - (intOf i).toNat)
  case atStart => exact ⟨0, _, _, _, _, _, _, _, rfl, Nat.zero_le _, Nat.le_refl _, rfl, INIT.out⟩
  case round =>
    obtain ⟨j, s, ph, mx, my, wv, ws, was, hq, hj, hwl, rfl, hinv⟩ := hrel
    have IV := hideG hinv
    obtain ⟨awv, cwv, hwv, -⟩ := hinv.mem.fl.view
    have hgl := hinv.mem.gcl
    clear hinv
    rw [hq, hwv]
    have HWV := hideG hwv
    clear hq hwv
    by_cases hlt : j < n3
    · obtain ⟨sb, off, rfl, hsl, d0, d1, d2, d3⟩ := (HSS.out wr IV.out.mem.bel).cells j hlt
      obtain ⟨i1, i2, i3, i4⟩ := (HSS.out wr IV.out.mem.bel).each j hlt
      have HCELL := hideG (fun (W : World) (hb : Below w.heap.size w W) => (show (W.cell? ⟨sb, off + j * 4, none⟩ = some (.int .i64 (S.k j)) ∧ W.cell? ⟨sb, off + j * 4 + 1, none⟩ = some (.int .i64 (S.n j)) ∧ W.cell? ⟨sb, off + j * 4 + 2, none⟩ = some (.int .i64 (S.m j)) ∧ W.cell? ⟨sb, off + j * 4 + 3, none⟩ = some (.string (S.s j))) ∧ sb < W.heap.size from by
        obtain ⟨sb', off', e, g1, g2, g3, g4, g5⟩ := (HSS.out W hb).cells j hlt
        injection e with e
        injection e with e1 e2 _
        subst e1; subst e2
        exact ⟨⟨g2, g3, g4, g5⟩, g1⟩))
      have I0 := hideG (IV.out.mem.below (Below.refl wr.heap.size wr).drew)
      have HAX := hideG (act_calls2 I0.out.x HC.out IV.out.hi.ok IV.out.hi.flb (S.k j) (S.n j) (S.m j) i2 i3 (S.s j) i4 false)
      have HAY := hideG (fun (W : World) (my : SM) (hy : SesAt W by_ n ⟨N, T, M, D⟩ cl s my) => act_calls2 hy HC.out IV.out.hi.ok IV.out.hi.flb (S.k j) (S.n j) (S.m j) i2 i3 (S.s j) i4 false)
      obtain ⟨ph', hhi', hev, hdel⟩ := IV.out.hi.delivered HC.out (o := ⟨S.k j, S.n j, S.m j, bl (S.s j)⟩) (bl_isB (S.s j))
      have hout' := OutOk.act (cl := cl) (n := n) IV.out.hi.ok IV.out.out false ⟨S.k j, S.n j, S.m j, bl (S.s j)⟩
      have HLOW := hideG (fun x (hx : SesFoot by_ n my x) => IV.out.mem.y.low hx)
      have HWB := hideG (fun z (hz : wv.ownBlock = some z) => IV.out.mem.fl.rowlt hz)
      obtain ⟨s', hs'⟩ : ∃ s', s' = actN ⟨N, T, M, D⟩ cl n false s ⟨S.k j, S.n j, S.m j, bl (S.s j)⟩ := ⟨_, rfl⟩
      obtain ⟨op, hop⟩ : ∃ op, op = actD s ⟨S.k j, S.n j, S.m j, bl (S.s j)⟩ := ⟨_, rfl⟩
      rw [← hs', ← hop] at HAX HAY hdel
      rw [← hs'] at hhi' hev hout'
      have HSP := hideG (show ∀ p ∈ was ++ op.toList, Spent cl n s' ph' p from fun p hp => by
        rcases List.mem_append.1 hp with hp | hp
        · exact (IV.out.sp p hp).ev IV.out.hi.ht hev
        · exact (hdel p (by simpa using hp)).2)
      have HFB := hideG (show ∀ p, op = some p → Frm.isB p.2.2 from fun p e => by
        rw [hop] at e
        unfold actD at e
        split at e
        · exact IV.out.hi.flb p (List.mem_of_getElem? e)
        · cases e)
      have HHI := hideG hhi'
      have HOU := hideG hout'
      dsimp only at HAX HAY
      clear hs' hop hhi' hev hdel hout' i1 i2 i3 i4
      obtain ⟨⟨x0, x1, x2, x3⟩, -⟩ := cells_four IV.out.mem.cfg
      have hjn : (j : Int) < (n3 : Int) := by omega
      go_upto_region 9 with fail
      go_cut [15, 16] from 61 to 70 (fun q r wc => r = .bool true ∧ (∃ a n c, q = .slice a n c) ∧ ∃ (mx' : SM) (B : Nat), QM w wc bx by_ n gc ⟨N, T, M, D⟩ cl s' s mx' my wv ws was ∧ wr.heap.size ≤ B ∧ ParAt2 wc B (SesOwn bx mx') q op)
      case first =>
        go_region_with (go_at_call 12; refine HAX.out.mono ?_; rintro e w3 ⟨v, rfl, mx', ht, B, hB, hp⟩; obtain ⟨pa, pn, pc, hv⟩ := par2_form hp; have HFIN := hideG (show ∃ (mx' : SM) (B : Nat), QM w w3 bx by_ n gc ⟨N, T, M, D⟩ cl s' s mx' my wv ws was ∧ wr.heap.size ≤ B ∧ ParAt2 w3 B (SesOwn bx mx') v op from ⟨mx', B, I0.out.took ht, hB, hp⟩); rw [hv] at HFIN ⊢; clear hp ht hv)
        all_goals (go_wp2_with fail; go_meet; exact ⟨rfl, ⟨_, _, _, rfl⟩, HFIN.out⟩)
      case rest =>
        obtain ⟨hr, ⟨pa, pn, pc, hv⟩, mx', B, hqm, hB, hpar⟩ := hcut
        subst hr
        subst hv
        have Q1 := hideG hqm
        have P1 := hideG hpar
        obtain ⟨⟨e0, e1, e2, e3⟩, sl⟩ := HCELL.out wc hqm.bel
        have hgl1 := hqm.gcl
        clear hqm hpar x0 x1 x2 x3 d0 d1 d2 d3 hsl
        obtain ⟨⟨x0, x1, x2, x3⟩, -⟩ := cells_four Q1.out.cfg
        have QD := hideG (Q1.out.below (Below.refl wc.heap.size wc).drew)
        have HAY1 := hideG (HAY.out wc.drew my QD.out.y)
        have HPD := hideG (par2_keep (own' := SesOwn bx mx') P1.out (Chg.of_below (S := fun _ => False) (Below.refl wc.heap.size wc).drew) (fun _ _ _ e => e) (fun _ _ _ e => e))
        have HBO := hideG (fun (w2 : World) (v2 : Value) (h2 : Acted2 wc.drew w2 by_ n ⟨N, T, M, D⟩ cl s' my v2 op) => both_of (wr := wr) QD.out hB HPD.out HLOW.out h2)
        go_upto_region 10 with fail
        go_cut [17, 18] from 71 to 80 (fun q r wd => r = .bool true ∧ (∃ a n c, q = .slice a n c) ∧ ∃ my', Both w wr wd bx by_ n gc ⟨N, T, M, D⟩ cl s' wv ws was (.slice pa pn pc) op mx' my' B)
        case first =>
          go_region_with (go_at_call 12; refine HAY1.out.mono ?_; rintro e w3 ⟨v, rfl, h2⟩; obtain ⟨qa, qn, qc, hv⟩ : ∃ a n c, v = .slice a n c := (by obtain ⟨_, _, _, _, hp⟩ := h2; exact par2_form hp); have HFIN := hideG (HBO.out w3 v h2); rw [hv]; clear h2 hv)
          all_goals (go_wp2_with fail; go_meet; exact ⟨rfl, ⟨_, _, _, rfl⟩, HFIN.out⟩)
        case rest =>
          obtain ⟨hr, ⟨qa, qn, qc, hv⟩, my', hbo⟩ := hcut
          subst hr
          subst hv
          have BO := hideG hbo
          clear hbo x0 x1 x2 x3 e0 e1 e2 e3 sl HAX HAY HAY1 HBO HPD QD I0
          -- what was delivered is laid by
          obtain ⟨i1, hi1, hy0, hy1, hy2⟩ := info_parts infoPk
          obtain ⟨lb, hlb⟩ : ∃ lb, decide (0 < pn) = lb := ⟨_, rfl⟩
          go_upto_if 89 with fail
          go_cut [13] from 90 to 95 (fun q we => ∃ wv' ws', q = wv' ∧ QM w we bx by_ n gc ⟨N, T, M, D⟩ cl s' s' mx' my' wv' ws' (was ++ op.toList))
          case first =>
            cases hopc : op with
            | none =>
              have hp := BO.out.par
              rw [hopc] at hp
              have hnil : (.slice pa pn pc : Value) = .slice none 0 0 := hp
              injection hnil with h1 h2 h3
              subst h1; subst h2; subst h3
              have FIN := hideG (show QM w wc bx by_ n gc ⟨N, T, M, D⟩ cl s' s' mx' my' wv ws (was ++ (none : Option Pk).toList) by rw [show was ++ (none : Option Pk).toList = was from List.append_nil _]; exact BO.out.mem)
              have hl0 : lb = false := by rw [← hlb]; rfl
              subst hl0
              clear hp hlb
              go_wp2_with fail
              go_meet
              exact ⟨wv, ws, HWV.out.symm, by rw [hopc]; exact FIN.out⟩
            | some p =>
              have hp := BO.out.par
              rw [hopc] at hp
              obtain ⟨g, o, cc, yv, f1, f2, f3, f4, f5, f6, f7, f8, f9, f10, f11⟩ := hp
              injection f1 with h1 h2 h3
              subst h1; subst h2; subst h3
              obtain ⟨ay, cy, hyv, -⟩ := bytes_view f9
              have hrow := BO.out.mem.fl.row
              have hbd := BO.out.bd
              have hmore := fun (w1 : World) (v' : Value) hr hc hv => BO.out.mem.more (w1 := w1) (v' := v') (p := p) f9 (fun g hg => ⟨(f11 g hg).2.1, fun e => by have h1 := HWB.out g e; have h2 := (f11 g hg).1; omega, fun e => (f11 g hg).2.2 (.inl e), fun e => (f11 g hg).2.2 (.inr e)⟩) hr hc hv
              have HMO := hideG hmore
              have HROW := hideG hrow
              have hpn : (1 : Int) > 0 := by decide
              rw [HWV.out] at HROW HMO
              rw [hyv] at f8 HMO
              have HP := hideG (show was ++ (some p).toList = was ++ [p] from rfl)
              obtain ⟨p0, p1, E⟩ := p
              dsimp only at f6 f7 HMO hyv
              have hl1 : lb = true := by rw [← hlb]; rfl
              subst hl1
              clear hlb hmore hrow f9 f10 f11 hyv
              generalize E.length = nE at *
              go_wp2_with (at_builtin; refine wpList_append_lies _ rfl _ _ 41 rfl 0 49 i1 (.agg #[.int .i64 0, .int .i64 0, .slice none 0 0]) 3 40 Tryz.underlying41 hi1 hy0 hy1 hy2 rfl (by decide) _ _ _ rfl (HROW.out.alloc _) ⟨wc.heap.size, 0, none⟩ 1 1 [.int .i64 p0, .int .i64 p1, .slice ay nE cy] rfl rfl ?c1 ?c2 (by decide) ?c3 ?c4 (Nat.zero_le _) _ rfl ?_)
              case c1 => exact news3 _ _ _ _ _
              case c2 => intro u hu; simp only [List.mem_cons, List.not_mem_nil, or_false] at hu; rcases hu with rfl | rfl | rfl <;> rfl
              case c3 => unfold maxLen; omega
              case c4 => omega
              intro g2 cap2 w' hr hgr hat hgl2
              have hal : Below wc.heap.size wc (wc.alloc (.cells #[.int .i64 p0, .int .i64 p1, .slice ay nE cy] 49)) := (Below.refl _ _).alloc (Nat.le_refl _) _
              have FIN := hideG (HMO.out w' (.slice (some ⟨g2, 0, none⟩) (was.length + 1) cap2) hr ((Chg.of_below hal).also (Chg.grown hgr)) (fun x hx => by
                have ex : g2 = x := by injection hx
                rcases hat with q | q
                · exact .inl (by rw [← ex]; exact q)
                · exact .inr (by omega)))
              clear hr hgr hat hgl2 hal
              go_wp2_with fail
              go_meet
              exact ⟨_, _, rfl, by rw [hopc, HP.out]; exact FIN.out⟩
          case rest =>
            obtain ⟨wv', ws', hq, hqm⟩ := hcut
            obtain ⟨aw2, cw2, hwv2, -⟩ := hqm.fl.view
            have Q3 := hideG hqm
            obtain ⟨was', hwas⟩ : ∃ was', was' = was ++ op.toList := ⟨_, rfl⟩
            rw [← hwas] at Q3 HSP hwv2
            have hwl2 : was'.length ≤ j + 1 := by rw [hwas, List.length_append]; cases op <;> simp <;> omega
            rw [hwv2] at hq Q3
            subst hq
            clear hqm hwas BO Q1 P1 HWV hwv2
            obtain ⟨L, hL⟩ : ∃ L, L = was'.length := ⟨_, rfl⟩
            have HLL := hideG hL
            rw [← hL] at Q3 hwl2 ⊢
            clear hL
            have HINJ := hideG (fun (W : World) (my : SM) (hy : SesAt W by_ n ⟨N, T, M, D⟩ cl s' my) (u : Int) (v : Value) (zs : List Int) (hv : BytesAt W v zs) => vInject hy HHI.out.ok u hv)
            have hgl3 := Q3.out.gcl
            obtain ⟨zz, hzz⟩ : ∃ zz, decide (j < n4) = zz := ⟨_, rfl⟩
            have HZB := hideG hzz
            go_upto_if 99 with fail
            go_cut [19, 20, 21, 22, 23] from 100 to 146 (fun e _ _ _ _ wf => e = .int .i64 0 ∧ ∃ my'', QM w wf bx by_ n gc ⟨N, T, M, D⟩ cl s' s' mx' my'' (.slice aw2 L cw2) ws' was')
            case first =>
              cases zz
              rotate_left
              · have hz : j < n4 := by simpa using HZB.out
                clear hzz
                obtain ⟨zb, zo, rfl, hzl, k0, k1, k2, k3⟩ := (HZZ.out wc Q3.out.bel).cells j hz
                obtain ⟨-, zi2, zi3, zi4⟩ := (HZZ.out wc Q3.out.bel).each j hz
                obtain ⟨zk, hzk⟩ : ∃ z, z = Z.k j := ⟨_, rfl⟩
                obtain ⟨zn, hzn⟩ : ∃ z, z = Z.n j := ⟨_, rfl⟩
                obtain ⟨zm, hzm⟩ : ∃ z, z = Z.m j := ⟨_, rfl⟩
                obtain ⟨zs, hzs⟩ : ∃ z, z = Z.s j := ⟨_, rfl⟩
                rw [← hzk] at k0
                rw [← hzn] at k1 zi2
                rw [← hzm] at k2 zi3
                rw [← hzs] at k3 zi4
                have ZI3 := hideG zi3
                have ZI4 := hideG zi4
                clear hzk hzn hzm hzs zi3 zi4
                have hjn4 : (j : Int) < (n4 : Int) := by omega
                obtain ⟨W1, hW1⟩ : ∃ W1, W1 = wc.alloc (.cells #[.int .i64 zk, .int .i64 zn, .int .i64 zm, .string zs] 45) := ⟨_, rfl⟩
                have hb1 : Below wc.heap.size wc W1 := by rw [hW1]; exact (Below.refl _ _).alloc (Nat.le_refl _) _
                have z1' : wc.heap.size < W1.heap.size := by rw [hW1]; simp
                have RZ := hideG (show W1.heap[wc.heap.size]? = some (.cells #[.int .i64 zk, .int .i64 zn, .int .i64 zm, .string zs] 45 (0, 0)) by rw [hW1]; exact heap_alloc_new wc _)
                obtain ⟨v2, w2', hcv, hba, hb2⟩ := conv_ex W1 zs ZI4.out
                have HDC := hideG (veilDecode v2 (bl zs) w2' hba)
                have z2' := hb2.size
                have HB12 := hideG (hb1.trans (hb2.mono (by omega)))
                have HW1 := hideG hW1
                have r3 : W1.cell? ⟨wc.heap.size, 3, none⟩ = some (.string zs) := (cell_of_row W1 _ 3 _ _ (0, 0) RZ.out).trans rfl
                have RZ2 := hideG ((hb2.block wc.heap.size z1').trans RZ.out)
                clear hW1 hb1 hb2 hba
                go_upto_region 18 with fail
                rw [← HW1.out]
                clear k0 k1 k2 k3
                go_wp2_with fail
                refine HDC.out.mono ?_
                rintro e w3 ⟨vo, rfl, hown, hb3⟩
                have z3' := hb3.size
                obtain ⟨ao, co, hvo⟩ := owns_form hown
                subst hvo
                have hdE : (Frm.decF (bl zs) = none → (dE (bl zs) != 0) = true) ∧ (Frm.decF (bl zs) ≠ none → (dE (bl zs) != 0) = false) := by
                  constructor
                  · intro q; rw [(d_none q).2.2.2]; rfl
                  · intro q
                    cases q2 : Frm.decF (bl zs) with
                    | none => exact absurd q2 q
                    | some f => rw [(d_some q2).2.2.2]; rfl
                have HDE := hideG hdE
                obtain ⟨W4, hW4⟩ : ∃ W4, W4 = w3.alloc (.cells #[.int .i64 (dK (bl zs)), .int .i64 (dF (bl zs)), .slice ao (dL (bl zs)).length co] 65) := ⟨_, rfl⟩
                have hb4 : Below w3.heap.size w3 W4 := by rw [hW4]; exact (Below.refl _ _).alloc (Nat.le_refl _) _
                have HB4 := hideG (HB12.out.trans ((hb3.trans (hb4.mono z3')).mono (by omega)))
                have z4' := HB4.out.size
                have hzl4 : wc.heap.size < W4.heap.size := by have := hb4.size; omega
                have RZ4 := hideG (((hb3.trans (hb4.mono z3')).block wc.heap.size (by omega)).trans RZ2.out)
                have Q4 := hideG (Q3.out.below HB4.out)
                have HW4 := hideG hW4
                generalize dK (bl zs) = dk at *
                generalize dF (bl zs) = df at *
                generalize (dL (bl zs)).length = nl at *
                generalize dE (bl zs) = de at *
                clear hown hb3 hb4 hW4 hcv r3 hdE
                go_upto_region 19 with fail
                rw [← HW4.out]
                obtain ⟨⟨y0, y1, y2, y3⟩, -⟩ := cells_four RZ4.out
                obtain ⟨nb, hnb⟩ : ∃ nb, (zn.tmod 2 != 0) = nb := ⟨_, rfl⟩
                go_cut [119] from 111 to 118 (fun q wg => q = .bool (nb && decide (0 < L)) ∧ W4 = wg)
                case first =>
                  cases nb
                  · go_wp2_with fail
                    go_meet
                    exact ⟨rfl, rfl⟩
                  · obtain ⟨lz, hlz⟩ : ∃ lz, decide (0 < L) = lz := ⟨_, rfl⟩
                    go_wp2_with fail
                    go_meet
                    exact ⟨by rw [hlz]; rfl, rfl⟩
                case rest =>
                  obtain ⟨hq, hwg⟩ := hcut
                  subst hwg
                  obtain ⟨cb, hcb⟩ : ∃ cb, (nb && decide (0 < L)) = cb := ⟨_, rfl⟩
                  rw [hcb] at hq
                  subst hq
                  have HCB := hideG hcb
                  clear hnb hcb
                  cases cb
                  · -- bytes that are no frame's, or nothing
                    rcases Classical.em (Frm.decF (bl zs) = none) with hdn | hdn
                    · have hdd : (de != 0) = true := HDE.out.1 hdn
                      have HPK := hideG (fun (W : World) => pick_calls zm (N + 1) W ZI3.out.1 ZI3.out.2 (by omega) (by omega))
                      have a1 := Num.pickN_lo zm (N + 1) (by omega)
                      have a2 := Num.pickN_hi zm (N + 1) (by omega)
                      obtain ⟨iu, hiu⟩ : ∃ iu, iu = Num.pickN zm (N + 1) := ⟨_, rfl⟩
                      rw [← hiu] at HPK a1 a2
                      obtain ⟨N1, hN1⟩ : ∃ N1, N1 = N + 1 := ⟨_, rfl⟩
                      rw [← hN1] at HPK
                      have hwr : IntKind.i64.wrap (N + 1) = N1 := by rw [IntWalk.i64_left, IntWalk.wrap64_in _ (by omega), hN1]
                      obtain ⟨v5, w5, hcv, hba, hb5⟩ := conv_ex W4.drew zs ZI4.out
                      have hb45 : Below W4.heap.size W4 w5 := (Below.refl W4.heap.size W4).drew.trans hb5
                      have Q5 := hideG (Q4.out.below hb45)
                      have HI5 := hideG (show Calls Tryz.prog 22 #[.pointer (some ⟨by_, 0, none⟩), .int .i64 iu, v5] w5 (fun e w' => e = .returned (.int .i64 0) ∧ ∃ m', SesTook w5 w' by_ n ⟨N, T, M, D⟩ cl s' my' m') from (HINJ.out w5 my' Q5.out.y iu v5 (bl zs) hba).mono (fun e w' ⟨h1, m', h2⟩ => by
                        have e1 : injectE n iu = 0 := by unfold injectE; rw [if_pos ⟨a1, by have := HNN.out; omega⟩]
                        have e2 : injectN ⟨N, T, M, D⟩ cl n s' iu (bl zs) = s' := by unfold injectN; rw [if_pos ⟨a1, by have := HNN.out; omega⟩, rcv_none _ _ _ _ _ hdn]
                        rw [e1] at h1
                        rw [e2] at h2
                        exact ⟨h1, m', h2⟩))
                      obtain ⟨⟨x0, -⟩, -⟩ := cells_four Q4.out.cfg
                      obtain ⟨⟨u0, -⟩, -⟩ := cells_four Q5.out.cfg
                      obtain ⟨⟨v0, v1, v2', v3⟩, -⟩ := cells_four ((hb45.block wc.heap.size hzl4).trans RZ4.out)
                      have hgl4 := Q4.out.gcl
                      have FINX := hideG (fun (w6 : World) (m' : SM) (ht : SesTook w5 w6 by_ n ⟨N, T, M, D⟩ cl s' my' m') => (show ∃ my'', QM w w6 bx by_ n gc ⟨N, T, M, D⟩ cl s' s' mx' my'' (.slice aw2 L cw2) ws' was' from ⟨m', Q5.out.took2 ht⟩))
                      clear hb5 hb45 hba hiu hN1 a1 a2 HINJ HDC HB12 HB4 RZ RZ2 HDE HCB hdn HSS HZZ HC HCELL IV HSP HFB HHI HOU HLOW HWB HB S1 NX INIT B1 R1
                      go_upto_region 23 with fail
                      go_region_with (first | (go_at_call 21; refine (HPK.out _).mono ?_; rintro e w' ⟨rfl, rfl⟩) | (go_at_call 22; refine HI5.out.mono ?_; rintro e w6 ⟨rfl, m', ht⟩; have HFIN := hideG (FINX.out w6 m' ht); clear ht))
                      all_goals (go_wp2_with fail; go_meet; exact ⟨rfl, HFIN.out⟩)
                    · have hdd : (de != 0) = false := HDE.out.2 hdn
                      go_wp2_with fail
                      go_meet
                      exact ⟨rfl, my', Q4.out⟩
                  · -- what was delivered comes again
                    have hcc : nb = true ∧ 0 < L := by simpa using HCB.out
                    have l0 := hcc.2
                    clear hcc
                    obtain ⟨p1', p2', p3'⟩ := pick_in (c := zm) l0
                    have HPK := hideG (fun (W : World) => pick_calls zm L W ZI3.out.1 ZI3.out.2 (by omega) (by omega))
                    obtain ⟨ii, hii⟩ : ∃ ii : Nat, (ii : Int) = Num.pickN zm L := ⟨(Num.pickN zm L).toNat, by omega⟩
                    rw [← hii] at HPK
                    have hil : ii < L := by omega
                    have hget : was'[ii]? = some (was'[ii]'(by rw [← HLL.out]; exact hil)) := List.getElem?_eq_getElem _
                    obtain ⟨p, hp⟩ : ∃ p, p = was'[ii]'(by rw [← HLL.out]; exact hil) := ⟨_, rfl⟩
                    rw [← hp] at hget
                    obtain ⟨av, cv, hv, hlv, hmv, hview⟩ := Q4.out.fl.view
                    obtain ⟨g, yv, f1, f2, f3, f4, f5, f6, f7⟩ := hview ii p hget
                    obtain ⟨rfl, rfl⟩ : aw2 = av ∧ cw2 = cv := by injection hv with q1 q2 q3; exact ⟨q1, q3⟩
                    subst f1
                    obtain ⟨t1, t2, t3⟩ := (HSP.out p (List.mem_of_getElem? hget)).same HC.out HHI.out
                    obtain ⟨ay, cy, hyv, -⟩ := bytes_view f7
                    obtain ⟨p0, pt, E⟩ := p
                    dsimp only at f4 f5 f6 f7 t1 t2 t3 hyv
                    obtain ⟨W5, hW5⟩ : ∃ W5, W5 = W4.alloc (.cells #[.int .i64 p0, .int .i64 pt, yv] 49) := ⟨_, rfl⟩
                    have hb5 : Below W4.heap.size W4 W5 := by rw [hW5]; exact (Below.refl _ _).alloc (Nat.le_refl _) _
                    have RP := hideG (show W5.heap[W4.heap.size]? = some (.cells #[.int .i64 p0, .int .i64 pt, yv] 49 (0, 0)) by rw [hW5]; exact heap_alloc_new W4 _)
                    have z5' : W4.heap.size < W5.heap.size := by rw [hW5]; simp
                    have Q5 := hideG (Q4.out.below hb5)
                    have HI5 := hideG (show Calls Tryz.prog 22 #[.pointer (some ⟨by_, 0, none⟩), .int .i64 pt, yv] W5 (fun e w' => e = .returned (.int .i64 0) ∧ ∃ m', SesTook W5 w' by_ n ⟨N, T, M, D⟩ cl s' my' m') from (HINJ.out W5 my' Q5.out.y pt yv E (f7.below hb5)).mono (fun e w' ⟨h1, m', h2⟩ => by
                      have e1 : injectE n pt = 0 := by unfold injectE; rw [if_pos ⟨t2, t3⟩]
                      have e2 : injectN ⟨N, T, M, D⟩ cl n s' pt E = s' := by unfold injectN; rw [if_pos ⟨t2, t3⟩]; exact t1
                      rw [e1] at h1
                      rw [e2] at h2
                      exact ⟨h1, m', h2⟩))
                    have FINX := hideG (fun (w6 : World) (m' : SM) (ht : SesTook W5 w6 by_ n ⟨N, T, M, D⟩ cl s' my' m') => (show ∃ my'', QM w w6 bx by_ n gc ⟨N, T, M, D⟩ cl s' s' mx' my'' (.slice (some ⟨g, 0, none⟩) L cw2) ws' was' from ⟨m', Q5.out.took2 ht⟩))
                    rw [hyv] at hW5 f6 RP HI5
                    have HW5 := hideG hW5
                    have g1 : W5.cell? ⟨W4.heap.size, 1, none⟩ = some (.int .i64 pt) := (cell_of_row W5 _ 1 _ _ (0, 0) RP.out).trans rfl
                    have g2 : W5.cell? ⟨W4.heap.size, 2, none⟩ = some (.slice ay E.length cy) := (cell_of_row W5 _ 2 _ _ (0, 0) RP.out).trans rfl
                    have hiL : (ii : Int) < (L : Int) := by omega
                    clear hW5 hb5 hview hget hp hv t1 t2 t3 hyv f7 p1' p2' p3' hii
                    generalize E.length = nE at *
                    go_wp2_with fail
                    refine (HPK.out W4).mono ?_
                    rintro e w' ⟨rfl, hw'⟩
                    subst hw'
                    go_upto_region 21 with fail
                    rw [← HW5.out]
                    go_wp2_with fail
                    refine HI5.out.mono ?_
                    rintro e w6 ⟨rfl, m', ht⟩
                    have HFIN := hideG (FINX.out w6 m' ht)
                    clear ht
                    go_wp2_with fail
                    go_meet
                    exact ⟨rfl, HFIN.out⟩
              · clear hzz
                go_wp2_with fail
                go_meet
                exact ⟨rfl, my', Q3.out⟩
            case rest =>
              obtain ⟨hq, my'', hqf⟩ := hcut
              subst hq
              have QF := hideG hqf
              have HTW := hideG (ktwins_calls hqf.x hqf.y HHI.out.ok HHI.out.flb HOU.out hn12)
              obtain ⟨⟨x0, -⟩, -⟩ := cells_four hqf.cfg
              have hglf := hqf.gcl
              rw [← HNN.out] at HTW
              clear hqf hzz
              go_wp2_with fail
              refine HTW.out.mono ?_
              rintro e w7 ⟨rfl, hb7⟩
              have QN := hideG (show QI w w7 bx by_ n gc ⟨N, T, M, D⟩ cl s' ph' mx' my'' (.slice aw2 L cw2) ws' was' from ⟨QF.out.below hb7, HHI.out, HOU.out, HSP.out⟩)
              clear hb7
              go_wp2_with fail
              go_roundw
              case rel =>
                have hL := HLL.out
                subst hL
                exact ⟨j + 1, _, _, _, _, _, _, _, rfl, by omega, hwl2, by go_num, QN.out⟩
              case measure => simp [intOf]; omega
    · go_wp2_with fail
      go_ret
      exact ⟨rfl, IV.out.mem.bel⟩

end Go.Proofs.YtchideljndagjabGreat.quiet
