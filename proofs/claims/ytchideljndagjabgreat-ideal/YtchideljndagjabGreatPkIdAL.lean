/- Contract of the program's client: the items of the Tell frame. -/
import Derived.Test.YtchideljndagjabGreatPkIdAC
import Derived.Test.YtchideljndagjabGreatPkIdAJ
namespace Go.Proofs.YtchideljndagjabGreat
open Go.ChangeShapes Go.WideShapes Go.ChangeAt Go.RowKit
set_option linter.unusedVariables false
theorem toldN_len (c : Cli.Cl) (k b a : List Frm.It) (n : Nat) : (Cli.toldN c k b a n).length ≤ n := by
  unfold Cli.toldN
  rw [List.length_map]
  exact Nat.le_trans (List.length_filter_le _ _) (by simp)
set_option maxHeartbeats 3000000 in
set_option maxRecDepth 100000 in
theorem shares_calls (b : Nat) (T : TypeId) (S : PS) (c : Cli.Cl) (v : Value) (l m t : List Frm.It) (w : World) (h : PSAt w b T S) (hv : ItemsAt w v t) (hr : Frm.riseB t = true) (hlen : t.length ≤ 12) (hm : Frm.riseB m = true)
    (hc : Cli.Good c) (hf : ∀ v, v < 13 → S.f v = Cli.secondP c l m v) (hno : Cli.hasI m c.id = false) (hown : Cli.hasI t c.id = true) :
    Calls Tryz.prog 264 #[.pointer (some ⟨b, 0, none⟩), v] w fun e w' =>
      ∃ va, e = .returned va ∧ w'.ownsRow w.heap.size 147 4 va (Cli.tells c l m t).length (flat4 (Cli.tells c l m t)) ∧ Below w.heap.size w w' := by
  obtain ⟨i1, hi1, hy0, hy1, hy2⟩ := info_parts infoIt
  have hbl := h.lt
  have HRG := hideG (fun (w1 : World) (hb : Below w.heap.size w w1) => (h.below hb).range)
  have HRL := hideG (circ_length S.f)
  have HIX := hideG (run_index_circ S.f)
  have HF := hideG hf
  have HAL := hideG (Cli.told_all hc hm l t)
  have HNO := hideG hno
  have HOW := hideG hown
  obtain ⟨a, cap, rfl, l2, l3, _, hcl⟩ := items_view hv
  have HC := hideG hcl
  have HI := hideG (fun j (hj : j < t.length) => (Cli.rise_pair hr).2 (Frm.it t j) (by rw [Cli.it_get t j hj]; exact List.getElem_mem hj))
  have HUP := hideG (has_upd t)
  clear h hv hr hcl hf hno hown hm hc
  generalize S.f = f at *
  obtain ⟨CS, hCS⟩ : ∃ CS, CS = circ f := ⟨_, rfl⟩
  rw [← hCS] at HRG HRL HIX
  clear hCS
  obtain ⟨n, hn⟩ : ∃ n, n = t.length := ⟨_, rfl⟩
  rw [← hn] at l2 HC hlen HI HUP ⊢
  have HTT := hideG (show t.take n = t by rw [hn, List.take_length])
  clear hn
  go_enter Tryz.func264, Tryz.ntmps264
  go_wp2_with fail
  go_loopw [13] (fun i wr => ∃ j : Nat, j ≤ n ∧ i = .int .i64 j ∧ BoolsAt wr w.heap.size 36 (fun v : Nat => Cli.hasI (t.take j) v) ∧ Below w.heap.size w wr) (fun i _ => n - (intOf i).toNat)
  case atStart =>
    refine ⟨0, Nat.zero_le _, rfl, ?_, (Below.refl _ _).alloc (Nat.le_refl _) _⟩
    have e : (fun v : Nat => Cli.hasI (t.take 0) v) = fun _ => false := by funext v; simp [Cli.hasI]
    rw [e]; exact heap_alloc_new w _
  case round =>
    obtain ⟨j, hj, rfl, hbo, hbel⟩ := hrel
    have HBO := hideG hbo
    have HB := hideG hbel
    have hsz := hbel.size
    have hs1 := hbo.lt
    clear hbo hbel
    by_cases hlt : j < n
    · obtain ⟨b', off, rfl, hb, hit⟩ := HC.out j hlt
      obtain ⟨d0, d1, d2, d3⟩ := hit.below hb HB.out
      obtain ⟨u, hu⟩ : ∃ u : Nat, (Frm.it t j).1 = (u : Int) := ⟨(Frm.it t j).1.toNat, by have := HI.out j hlt; omega⟩
      have hub := HI.out j hlt
      rw [hu] at hub d0
      have u13 : u < 13 := by omega
      have u13' : (u : Int) < 13 := by omega
      have HU2 := hideG (HUP.out j hlt u hu)
      have z0 := HBO.out.cell u u13
      have zf := HBO.out.froz u
      have al : ∀ (ob : Obj) (o : Nat), (wr.alloc ob).cell? ⟨w.heap.size, o, none⟩ = wr.cell? ⟨w.heap.size, o, none⟩ := fun ob o => ((Below.refl wr.heap.size wr).alloc (Nat.le_refl _) ob).cell (p := ⟨w.heap.size, o, none⟩) (by show w.heap.size < _; omega)
      have alf : ∀ (ob : Obj) (o : Nat), (wr.alloc ob).frozen? ⟨w.heap.size, o, none⟩ = wr.frozen? ⟨w.heap.size, o, none⟩ := fun ob o => ((Below.refl wr.heap.size wr).alloc (Nat.le_refl _) ob).frozen (p := ⟨w.heap.size, o, none⟩) (by show w.heap.size < _; omega)
      clear hit hu
      generalize (Frm.it t j).2.1 = xa at *
      generalize (Frm.it t j).2.2.1 = xb at *
      generalize (Frm.it t j).2.2.2 = xc at *
      go_wp2_with fail
      go_roundw
      case rel =>
        refine ⟨j + 1, by omega, by go_num, ?_, (HB.out.setCell (p := ⟨w.heap.size, u, none⟩) (Nat.le_refl _) _).alloc (by simp; omega) _⟩
        rw [HU2.out]
        exact (HBO.out.set u u13 true).below ((Below.refl (wr.setCell ⟨w.heap.size, u, none⟩ (.bool true)).heap.size _).alloc (Nat.le_refl _) _) (by simp; omega)
      case measure => simp [intOf]; omega
    · have ej : j = n := by omega
      subst ej
      have HST := hideG (show BoolsAt wr w.heap.size 36 (fun v : Nat => Cli.hasI t v) by have := HBO.out; rwa [HTT.out] at this)
      have HRG1 := hideG (HRG.out wr HB.out)
      obtain ⟨wo, hwo⟩ : ∃ wo : World, wo = wr := ⟨_, rfl⟩
      rw [← hwo] at HST HB hsz hs1 HRG1 ⊢
      clear HBO hwo wr
      go_wp2_with (refine wpList_load_mid rfl 203 _ rfl b 12 rfl CS _ HRG1.out Tryz.underlying203 rfl ?z ?_)
      case z => rw [size_circ, HRL.out]
      go_wp2_with fail
      go_loopw [8, 25] (fun u i wr => ∃ k : Nat, k ≤ 13 ∧ i = .int .i64 k ∧ BoolsAt wr w.heap.size 36 (fun v : Nat => Cli.hasI t v) ∧ wr.ownsRow (w.heap.size + 1) 147 4 u (Cli.toldN c l m t k).length (flat4 (Cli.toldN c l m t k)) ∧ Below w.heap.size w wr) (fun _ i _ => 13 - (intOf i).toNat)
      case atStart => exact ⟨0, by omega, rfl, HST.out, World.ownsRow_nil _ _ _ _, HB.out⟩
      case round =>
        obtain ⟨k, hk, rfl, hbo, hown, hbel⟩ := hrel
        have HBO := hideG hbo
        have HO := hideG hown
        have HBW := hideG hbel
        have hszw := hbel.size
        have hs1w := hbo.lt
        obtain ⟨a3, c3, hv3⟩ := owns_form hown
        subst hv3
        clear hbo hown hbel HST
        by_cases hlt2 : k < 13
        · have hlt' : (k : Int) < 13 := by omega
          have hix := HIX.out k hlt2
          have z0 := HBO.out.cell k hlt2
          have hfk := HF.out k hlt2
          have HSU := hideG (Cli.toldN_succ c l m t k)
          have al : ∀ (ob : Obj) (o : Nat), (wr.alloc ob).cell? ⟨w.heap.size, o, none⟩ = wr.cell? ⟨w.heap.size, o, none⟩ := fun ob o => ((Below.refl wr.heap.size wr).alloc (Nat.le_refl _) ob).cell (p := ⟨w.heap.size, o, none⟩) (by show w.heap.size < _; omega)
          have hmem : (f k).mem = (Cli.hasI m k || decide ((k : Int) = c.id)) := by
            rw [hfk]; unfold Cli.secondP
            cases e : Cli.hasI m (k : Int)
            · rw [if_neg (by simp)]
              by_cases q : (k : Int) = c.id
              · rw [if_pos q, decide_eq_true q]; rfl
              · rw [if_neg q, decide_eq_false q]; rfl
            · rw [if_pos rfl]; rfl
          rw [← hmem] at HSU
          have HSS := hideG (show (f k).mem = true → Cli.hasI t (k : Int) = true → (f k).ss = Cli.sShare c l m k from fun e1 e2 => by
            rw [hfk]; unfold Cli.secondP
            cases e : Cli.hasI m (k : Int)
            · rw [e] at hmem
              have q : (k : Int) = c.id := by rw [e1] at hmem; simpa using hmem
              rw [if_neg (by simp), if_pos q]
              unfold Cli.sShare; rw [if_pos q]; rfl
            · rw [if_pos rfl]; rfl)
          have HMS := hideG (show (f k).mem = true → Cli.hasI t (k : Int) = false → (f k).ms = Cli.mShare c l m k from fun e1 e2 => by
            rw [hfk]; unfold Cli.secondP
            cases e : Cli.hasI m (k : Int)
            · rw [e] at hmem
              have q : (k : Int) = c.id := by rw [e1] at hmem; simpa using hmem
              rw [q, HOW.out] at e2; cases e2
            · rw [if_pos rfl]; rfl)
          clear hfk hmem
          obtain ⟨F, hF⟩ : ∃ F, F = f k := ⟨_, rfl⟩
          rw [← hF] at hix HSU HSS HMS
          clear hF
          obtain ⟨F0, F1, F2, F3, F4⟩ := F
          have hl13 := toldN_len c l m t k
          cases F0
          · have HS2 := hideG (show Cli.toldN c l m t (k + 1) = Cli.toldN c l m t k by rw [HSU.out]; simp)
            go_wp2_with fail
            go_roundw
            case rel => exact ⟨k + 1, by omega, by go_num, HBO.out.below ((Below.refl wr.heap.size wr).alloc (Nat.le_refl _) _) (by omega), by rw [HS2.out]; exact HO.out.alloc _, HBW.out.alloc (by omega) _⟩
            case measure => simp [intOf]; omega
          · have HS2 := hideG (show Cli.toldN c l m t (k + 1) = Cli.toldN c l m t k ++ [Cli.tellI c l m t k] by rw [HSU.out]; simp)
            cases q : Cli.hasI t (k : Int)
            · rw [q] at z0
              have HT := hideG (show Cli.tellI c l m t (k : Int) = ((k : Int), 2, F3, 0) by unfold Cli.tellI; rw [q, if_neg (by simp), if_neg (by simp), ← HMS.out rfl q])
              go_wp2_with (at_builtin; refine wpList_append_own _ rfl _ _ 63 rfl (w.heap.size + 1) 147 i1 (.agg #[.int .i64 0, .int .i64 0, .int .i64 0, .int .i64 0]) 4 32 Tryz.underlying63 hi1 hy0 hy1 hy2 rfl (by decide) _ _ _ rfl ((HO.out.alloc _).alloc _) ⟨wr.heap.size + 1, 0, none⟩ 1 1 [.int .i64 k, .int .i64 2, .int .i64 F3, .int .i64 0] rfl rfl ?c1 ?c2 ?c3 ?c4 ?c5 ?_)
              case c2 => first | exact ⟨rfl, rfl, rfl, rfl⟩ | (intro u hu; simp at hu; rcases hu with rfl | rfl | rfl | rfl <;> rfl)
              case c3 => unfold maxLen; omega
              case c4 => omega
              case c5 => first | omega | (simp; omega)
              intro v' w4 hown' hgrow' _
              have hb4 := ((HBW.out.alloc (by omega) _).alloc (by simp; omega) _).grown hgrow' (by simp; omega) (fun y hy => Nat.le_trans (Nat.le_succ _) (HO.out.lt y hy).1)
              have B4 := hideG hb4
              have O4 := hideG (show w4.ownsRow (w.heap.size + 1) 147 4 v' (Cli.toldN c l m t (k + 1)).length (flat4 (Cli.toldN c l m t (k + 1))) by
                rw [HS2.out, flat4_append, HT.out, List.length_append]; exact hown')
              have BO4 := hideG ((HBO.out.below (((Below.refl wr.heap.size wr).alloc (Nat.le_refl _) _).alloc (by simp) _) (by omega)).block (hgrow'.block w.heap.size (by simp; omega) (fun e => by have := (HO.out.lt w.heap.size e.symm).1; omega)))
              have z4 := BO4.out.cell k hlt2
              rw [q] at z4; clear q
              have hpe := far_cell hgrow' wr.heap.size 0 (by simp; omega) (fun e => by have := (HO.out.lt wr.heap.size e).2; omega)
              simp [go_sem] at hpe
              clear hown' hgrow' hb4
              go_wp2_with fail
              go_roundw
              case rel => exact ⟨k + 1, by omega, by go_num, BO4.out, O4.out, B4.out⟩
              case measure => simp [intOf]; omega
            · rw [q] at z0
              have HT := hideG (show Cli.tellI c l m t (k : Int) = ((k : Int), 1, F4, 0) by unfold Cli.tellI; rw [q, if_pos rfl, if_pos rfl, ← HSS.out rfl q])
              go_wp2_with (at_builtin; refine wpList_append_own _ rfl _ _ 63 rfl (w.heap.size + 1) 147 i1 (.agg #[.int .i64 0, .int .i64 0, .int .i64 0, .int .i64 0]) 4 32 Tryz.underlying63 hi1 hy0 hy1 hy2 rfl (by decide) _ _ _ rfl ((HO.out.alloc _).alloc _) ⟨wr.heap.size + 1, 0, none⟩ 1 1 [.int .i64 k, .int .i64 1, .int .i64 F4, .int .i64 0] rfl rfl ?d1 ?d2 ?d3 ?d4 ?d5 ?_)
              case d2 => first | exact ⟨rfl, rfl, rfl, rfl⟩ | (intro u hu; simp at hu; rcases hu with rfl | rfl | rfl | rfl <;> rfl)
              case d3 => unfold maxLen; omega
              case d4 => omega
              case d5 => first | omega | (simp; omega)
              intro v' w4 hown' hgrow' _
              have hb4 := ((HBW.out.alloc (by omega) _).alloc (by simp; omega) _).grown hgrow' (by simp; omega) (fun y hy => Nat.le_trans (Nat.le_succ _) (HO.out.lt y hy).1)
              have B4 := hideG hb4
              have O4 := hideG (show w4.ownsRow (w.heap.size + 1) 147 4 v' (Cli.toldN c l m t (k + 1)).length (flat4 (Cli.toldN c l m t (k + 1))) by
                rw [HS2.out, flat4_append, HT.out, List.length_append]; exact hown')
              have BO4 := hideG ((HBO.out.below (((Below.refl wr.heap.size wr).alloc (Nat.le_refl _) _).alloc (by simp) _) (by omega)).block (hgrow'.block w.heap.size (by simp; omega) (fun e => by have := (HO.out.lt w.heap.size e.symm).1; omega)))
              have z4 := BO4.out.cell k hlt2
              rw [q] at z4; clear q
              have hpe := far_cell hgrow' wr.heap.size 0 (by simp; omega) (fun e => by have := (HO.out.lt wr.heap.size e).2; omega)
              simp [go_sem] at hpe
              clear hown' hgrow' hb4
              go_wp2_with fail
              go_roundw
              case rel => exact ⟨k + 1, by omega, by go_num, BO4.out, O4.out, B4.out⟩
              case measure => simp [intOf]; omega
        · have ek : k = 13 := by omega
          subst ek
          go_wp2_with fail
          go_ret
          exact ⟨_, rfl, by rw [← HAL.out]; exact ownsRow_base HO.out (Nat.le_succ _), HBW.out⟩
end Go.Proofs.YtchideljndagjabGreat
