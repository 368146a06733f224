/- Contract of the program's client: does Ask agree. (the client somewhere in a block) -/
import Derived.Test.YtchideljndagjabGreatPkIdAJ
import Derived.Test.YtchideljndagjabGreatPkIdAN
import Derived.Test.YtchideljndagjabGreatPkIdAL
import Derived.Test.YtchideljndagjabGreatPkIdAO
import Derived.Test.YtchideljndagjabGreatPkIdAM
import Derived.Test.YtchideljndagjabGreatPkIdAP
namespace Go.Proofs.YtchideljndagjabGreat.Co
open Go.ChangeShapes Go.WideShapes Go.ChangeAt Go.RowKit
set_option linter.unusedVariables false
set_option maxHeartbeats 2000000 in
set_option maxRecDepth 100000 in
theorem askAgrees_calls (b oo : Nat) (S : PS) (v : Value) (l : List Frm.It) (w : World) (h : PSAt w b oo S) (hl : ItemsAt w v l) (hr : Frm.riseB l = true) (hlen : l.length ≤ 12) (ht : 1 ≤ S.t ∧ S.t ≤ 12) :
    Calls Tryz.prog 263 #[.pointer (some ⟨b, oo, none⟩), v] w fun e w' =>
      e = .returned (.bool ((l.all fun x => (S.f x.1.toNat).mem) && (Cli.hasI l S.id && decide (S.t ≤ (l.length : Int))))) ∧ Below w.heap.size w w' := by
  have hbl := h.lt
  have HP := hideG (fun (w1 : World) (hb : Below w.heap.size w w1) (u : Nat) (hu : u < 13) => (show w1.cell? ⟨b, oo, none⟩ = some (.int .i64 S.id) ∧ w1.cell? ⟨b, oo + 12 + u * 5, none⟩ = some (.bool (S.f u).mem) from
    ⟨(h.below hb).c0, ((h.below hb).peer u hu).1⟩))
  have c5 := h.c5
  obtain ⟨a, cap, rfl, l2, l3, _, hc⟩ := items_view hl
  have HC := hideG hc
  have HI := hideG (fun j (hj : j < l.length) => (Cli.rise_pair hr).2 (Frm.it l j) (by rw [Cli.it_get l j hj]; exact List.getElem_mem hj))
  clear h hl hr hc
  generalize S.id = id at *
  generalize S.f = f at *
  generalize S.t = t at *
  obtain ⟨n, hn⟩ : ∃ n, n = l.length := ⟨_, rfl⟩
  rw [← hn] at l2 HC hlen ⊢
  have HN := hideG hn
  clear hn
  by_cases t0 : (n : Int) < t
  · have H := hideG (decide_eq_false (show ¬ t ≤ (n : Int) by omega))
    go_enter Tryz.func263, Tryz.ntmps263
    go_wp2_with fail
    go_ret
    exact ⟨ret_bool (by rw [H.out, Bool.and_false, Bool.and_false]), Below.refl _ _⟩
  have HT := hideG (decide_eq_true (show t ≤ (n : Int) by omega))
  go_enter Tryz.func263, Tryz.ntmps263
  go_wp2_with fail
  go_loopw [5, 17] (fun o i wr => ∃ k : Nat, k ≤ n ∧ i = .int .i64 k ∧ o = .bool (Cli.hasI (l.take k) id) ∧ (∀ j, j < k → (f (Frm.it l j).1.toNat).mem = true) ∧ Below w.heap.size w wr) (fun _ i _ => n - (intOf i).toNat)
  case atStart => exact ⟨0, Nat.zero_le _, rfl, by simp [Cli.hasI], fun j hj => absurd hj (by omega), Below.refl _ _⟩
  case round =>
    obtain ⟨k, hk, rfl, rfl, hall, hbel⟩ := hrel
    have HA := hideG hall
    have HB := hideG hbel
    have hsz := hbel.size
    clear hall hbel
    by_cases hlt : k < n
    · obtain ⟨b', off, rfl, hb, hit⟩ := HC.out k hlt
      obtain ⟨d0, d1, d2, d3⟩ := hit.below hb HB.out
      obtain ⟨u, hu⟩ : ∃ u : Nat, (Frm.it l k).1 = (u : Int) := ⟨(Frm.it l k).1.toNat, by have := HI.out k (by rw [← HN.out]; exact hlt); omega⟩
      have hub := HI.out k (by rw [← HN.out]; exact hlt)
      rw [hu] at hub d0
      have u13 : u < 13 := by omega
      have u13' : (u : Int) < 13 := by omega
      obtain ⟨c0, cm⟩ := HP.out _ HB.out u u13
      clear hit
      have al : ∀ (ob : Obj) (o : Nat), (wr.alloc ob).cell? ⟨b, o, none⟩ = wr.cell? ⟨b, o, none⟩ := fun ob o => ((Below.refl wr.heap.size wr).alloc (Nat.le_refl _) ob).cell (p := ⟨b, o, none⟩) (by show b < _; omega)
      have HS := hideG (Cli.hasI_take_succ l k (by rw [← HN.out]; exact hlt) id)
      have HX := hideG hu
      have HM := hideG (show (f (Frm.it l k).1.toNat).mem = (f u).mem by rw [hu, Int.toNat_natCast])
      clear hu
      generalize (Frm.it l k).2.1 = xa at *
      generalize (Frm.it l k).2.2.1 = xb at *
      generalize (Frm.it l k).2.2.2 = xc at *
      obtain ⟨o, ho⟩ : ∃ o, o = Cli.hasI (l.take k) id := ⟨_, rfl⟩
      rw [← ho]
      have HOO := hideG ho
      clear ho
      cases q1 : (f u).mem
      · rw [q1] at cm
        have H := hideG (show (l.all fun x => (f x.1.toNat).mem) = false from List.all_eq_false.2 ⟨Frm.it l k, by rw [Cli.it_get l k (by rw [← HN.out]; exact hlt)]; exact List.getElem_mem _, by rw [HM.out, q1]; exact Bool.false_ne_true⟩)
        have Q1 := hideG q1
        clear q1
        go_wp2_with fail
        go_quiet (fail)
        go_wp2_with fail
        go_ret
        exact ⟨ret_bool (by rw [H.out, Bool.false_and]), (HB.out.alloc (by omega) _).trans ((below_drewN _ _).mono (by simp; omega))⟩
      · rw [q1] at cm
        have Q1 := hideG q1
        clear q1
        by_cases q2 : (u : Int) = id
        · have q2' : ((u : Int) == id) = true := by simpa using q2
          have HF := hideG (show Cli.hasI (l.take (k + 1)) id = true by rw [HS.out, HX.out, decide_eq_true q2, Bool.or_true])
          have HID := hideG q2
          clear q2
          go_wp2_with fail
          go_quiet (fail)
          go_wp2_with fail
          go_quiet (fail)
          go_wp2_with fail
          go_roundw
          case rel =>
            refine ⟨k + 1, by omega, by go_num, by rw [HF.out], fun j hj => ?_, (HB.out.alloc (by omega) _).trans ((below_drewN _ _).mono (by simp; omega))⟩
            by_cases e : j = k
            · subst e; rw [HM.out, Q1.out]
            · exact HA.out j (by omega)
          case measure => simp [intOf]; omega
        · have q2' : ((u : Int) == id) = false := by simpa using q2
          have HF := hideG (show Cli.hasI (l.take (k + 1)) id = o by rw [HS.out, HX.out, decide_eq_false q2, Bool.or_false, HOO.out])
          have HID := hideG q2
          clear q2
          go_wp2_with fail
          go_quiet (fail)
          go_wp2_with fail
          go_quiet (fail)
          go_wp2_with fail
          go_roundw
          case rel =>
            refine ⟨k + 1, by omega, by go_num, by rw [HF.out], fun j hj => ?_, (HB.out.alloc (by omega) _).trans ((below_drewN _ _).mono (by simp; omega))⟩
            by_cases e : j = k
            · subst e; rw [HM.out, Q1.out]
            · exact HA.out j (by omega)
          case measure => simp [intOf]; omega
    · have ek : k = n := by omega
      subst ek
      have H1 := hideG (show (l.all fun x => (f x.1.toNat).mem) = true from List.all_eq_true.2 fun x hx => by
        obtain ⟨i, hi, rfl⟩ := List.getElem_of_mem hx
        have := HA.out i (by rw [HN.out]; exact hi)
        rw [Cli.it_get l i hi] at this
        exact this)
      have H2 := hideG (show Cli.hasI (l.take k) id = Cli.hasI l id by rw [HN.out, List.take_length])
      go_wp2_with fail
      go_ret
      exact ⟨ret_bool (by rw [H1.out, HT.out, H2.out, Bool.and_true]; rfl), HB.out⟩
end Go.Proofs.YtchideljndagjabGreat.Co
namespace Go.Proofs.YtchideljndagjabGreat.Co
open Go.ChangeShapes Go.WideShapes Go.ChangeAt Go.RowKit
set_option linter.unusedVariables false
set_option maxHeartbeats 3000000 in
set_option maxRecDepth 100000 in
theorem shares_calls (b oo : Nat) (S : PS) (c : Cli.Cl) (v : Value) (l m t : List Frm.It) (w : World) (h : PSAt w b oo S) (hv : ItemsAt w v t) (hr : Frm.riseB t = true) (hlen : t.length ≤ 12) (hm : Frm.riseB m = true)
    (hc : Cli.Good c) (hf : ∀ v, v < 13 → S.f v = Cli.secondP c l m v) (hno : Cli.hasI m c.id = false) (hown : Cli.hasI t c.id = true) :
    Calls Tryz.prog 264 #[.pointer (some ⟨b, oo, none⟩), v] w fun e w' =>
      ∃ va, e = .returned va ∧ w'.ownsRow w.heap.size 147 4 va (Cli.tells c l m t).length (flat4 (Cli.tells c l m t)) ∧ Below w.heap.size w w' := by
  obtain ⟨i1, hi1, hy0, hy1, hy2⟩ := info_parts infoIt
  have hbl := h.lt
  have HRG := hideG (fun (w1 : World) (hb : Below w.heap.size w w1) => (h.below hb).range)
  have HRL := hideG (circ_length S.f)
  have HIX := hideG (run_index_circ S.f)
  have HF := hideG hf
  have HAL := hideG (Cli.told_all hc hm l t)
  have HNO := hideG hno
  have HOW := hideG hown
  obtain ⟨a, cap, rfl, l2, l3, _, hcl⟩ := items_view hv
  have HC := hideG hcl
  have HI := hideG (fun j (hj : j < t.length) => (Cli.rise_pair hr).2 (Frm.it t j) (by rw [Cli.it_get t j hj]; exact List.getElem_mem hj))
  have HUP := hideG (has_upd t)
  clear h hv hr hcl hf hno hown hm hc
  generalize S.f = f at *
  obtain ⟨CS, hCS⟩ : ∃ CS, CS = circ f := ⟨_, rfl⟩
  rw [← hCS] at HRG HRL HIX
  clear hCS
  obtain ⟨n, hn⟩ : ∃ n, n = t.length := ⟨_, rfl⟩
  rw [← hn] at l2 HC hlen HI HUP ⊢
  have HTT := hideG (show t.take n = t by rw [hn, List.take_length])
  clear hn
  go_enter Tryz.func264, Tryz.ntmps264
  go_wp2_with fail
  go_loopw [13] (fun i wr => ∃ j : Nat, j ≤ n ∧ i = .int .i64 j ∧ BoolsAt wr w.heap.size 36 (fun v : Nat => Cli.hasI (t.take j) v) ∧ Below w.heap.size w wr) (fun i _ => n - (intOf i).toNat)
  case atStart =>
    refine ⟨0, Nat.zero_le _, rfl, ?_, (Below.refl _ _).alloc (Nat.le_refl _) _⟩
    have e : (fun v : Nat => Cli.hasI (t.take 0) v) = fun _ => false := by funext v; simp [Cli.hasI]
    rw [e]; exact heap_alloc_new w _
  case round =>
    obtain ⟨j, hj, rfl, hbo, hbel⟩ := hrel
    have HBO := hideG hbo
    have HB := hideG hbel
    have hsz := hbel.size
    have hs1 := hbo.lt
    clear hbo hbel
    by_cases hlt : j < n
    · obtain ⟨b', off, rfl, hb, hit⟩ := HC.out j hlt
      obtain ⟨d0, d1, d2, d3⟩ := hit.below hb HB.out
      obtain ⟨u, hu⟩ : ∃ u : Nat, (Frm.it t j).1 = (u : Int) := ⟨(Frm.it t j).1.toNat, by have := HI.out j hlt; omega⟩
      have hub := HI.out j hlt
      rw [hu] at hub d0
      have u13 : u < 13 := by omega
      have u13' : (u : Int) < 13 := by omega
      have HU2 := hideG (HUP.out j hlt u hu)
      have z0 := HBO.out.cell u u13
      have zf := HBO.out.froz u
      have al : ∀ (ob : Obj) (o : Nat), (wr.alloc ob).cell? ⟨w.heap.size, o, none⟩ = wr.cell? ⟨w.heap.size, o, none⟩ := fun ob o => ((Below.refl wr.heap.size wr).alloc (Nat.le_refl _) ob).cell (p := ⟨w.heap.size, o, none⟩) (by show w.heap.size < _; omega)
      have alf : ∀ (ob : Obj) (o : Nat), (wr.alloc ob).frozen? ⟨w.heap.size, o, none⟩ = wr.frozen? ⟨w.heap.size, o, none⟩ := fun ob o => ((Below.refl wr.heap.size wr).alloc (Nat.le_refl _) ob).frozen (p := ⟨w.heap.size, o, none⟩) (by show w.heap.size < _; omega)
      clear hit hu
      generalize (Frm.it t j).2.1 = xa at *
      generalize (Frm.it t j).2.2.1 = xb at *
      generalize (Frm.it t j).2.2.2 = xc at *
      go_wp2_with fail
      go_roundw
      case rel =>
        refine ⟨j + 1, by omega, by go_num, ?_, (HB.out.setCell (p := ⟨w.heap.size, u, none⟩) (Nat.le_refl _) _).alloc (by simp; omega) _⟩
        rw [HU2.out]
        exact (HBO.out.set u u13 true).below ((Below.refl (wr.setCell ⟨w.heap.size, u, none⟩ (.bool true)).heap.size _).alloc (Nat.le_refl _) _) (by simp; omega)
      case measure => simp [intOf]; omega
    · have ej : j = n := by omega
      subst ej
      have HST := hideG (show BoolsAt wr w.heap.size 36 (fun v : Nat => Cli.hasI t v) by have := HBO.out; rwa [HTT.out] at this)
      have HRG1 := hideG (HRG.out wr HB.out)
      obtain ⟨wo, hwo⟩ : ∃ wo : World, wo = wr := ⟨_, rfl⟩
      rw [← hwo] at HST HB hsz hs1 HRG1 ⊢
      clear HBO hwo wr
      go_wp2_with (refine wpList_load_mid rfl 203 _ rfl b (oo + 12) rfl CS _ HRG1.out Tryz.underlying203 rfl ?z ?_)
      case z => rw [size_circ, HRL.out]
      go_wp2_with fail
      go_loopw [8, 25] (fun u i wr => ∃ k : Nat, k ≤ 13 ∧ i = .int .i64 k ∧ BoolsAt wr w.heap.size 36 (fun v : Nat => Cli.hasI t v) ∧ wr.ownsRow (w.heap.size + 1) 147 4 u (Cli.toldN c l m t k).length (flat4 (Cli.toldN c l m t k)) ∧ Below w.heap.size w wr) (fun _ i _ => 13 - (intOf i).toNat)
      case atStart => exact ⟨0, by omega, rfl, HST.out, World.ownsRow_nil _ _ _ _, HB.out⟩
      case round =>
        obtain ⟨k, hk, rfl, hbo, hown, hbel⟩ := hrel
        have HBO := hideG hbo
        have HO := hideG hown
        have HBW := hideG hbel
        have hszw := hbel.size
        have hs1w := hbo.lt
        obtain ⟨a3, c3, hv3⟩ := owns_form hown
        subst hv3
        clear hbo hown hbel HST
        by_cases hlt2 : k < 13
        · have hlt' : (k : Int) < 13 := by omega
          have hix := HIX.out k hlt2
          have z0 := HBO.out.cell k hlt2
          have hfk := HF.out k hlt2
          have HSU := hideG (Cli.toldN_succ c l m t k)
          have al : ∀ (ob : Obj) (o : Nat), (wr.alloc ob).cell? ⟨w.heap.size, o, none⟩ = wr.cell? ⟨w.heap.size, o, none⟩ := fun ob o => ((Below.refl wr.heap.size wr).alloc (Nat.le_refl _) ob).cell (p := ⟨w.heap.size, o, none⟩) (by show w.heap.size < _; omega)
          have hmem : (f k).mem = (Cli.hasI m k || decide ((k : Int) = c.id)) := by
            rw [hfk]; unfold Cli.secondP
            cases e : Cli.hasI m (k : Int)
            · rw [if_neg (by simp)]
              by_cases q : (k : Int) = c.id
              · rw [if_pos q, decide_eq_true q]; rfl
              · rw [if_neg q, decide_eq_false q]; rfl
            · rw [if_pos rfl]; rfl
          rw [← hmem] at HSU
          have HSS := hideG (show (f k).mem = true → Cli.hasI t (k : Int) = true → (f k).ss = Cli.sShare c l m k from fun e1 e2 => by
            rw [hfk]; unfold Cli.secondP
            cases e : Cli.hasI m (k : Int)
            · rw [e] at hmem
              have q : (k : Int) = c.id := by rw [e1] at hmem; simpa using hmem
              rw [if_neg (by simp), if_pos q]
              unfold Cli.sShare; rw [if_pos q]; rfl
            · rw [if_pos rfl]; rfl)
          have HMS := hideG (show (f k).mem = true → Cli.hasI t (k : Int) = false → (f k).ms = Cli.mShare c l m k from fun e1 e2 => by
            rw [hfk]; unfold Cli.secondP
            cases e : Cli.hasI m (k : Int)
            · rw [e] at hmem
              have q : (k : Int) = c.id := by rw [e1] at hmem; simpa using hmem
              rw [q, HOW.out] at e2; cases e2
            · rw [if_pos rfl]; rfl)
          clear hfk hmem
          obtain ⟨F, hF⟩ : ∃ F, F = f k := ⟨_, rfl⟩
          rw [← hF] at hix HSU HSS HMS
          clear hF
          obtain ⟨F0, F1, F2, F3, F4⟩ := F
          have hl13 := toldN_len c l m t k
          cases F0
          · have HS2 := hideG (show Cli.toldN c l m t (k + 1) = Cli.toldN c l m t k by rw [HSU.out]; simp)
            go_wp2_with fail
            go_roundw
            case rel => exact ⟨k + 1, by omega, by go_num, HBO.out.below ((Below.refl wr.heap.size wr).alloc (Nat.le_refl _) _) (by omega), by rw [HS2.out]; exact HO.out.alloc _, HBW.out.alloc (by omega) _⟩
            case measure => simp [intOf]; omega
          · have HS2 := hideG (show Cli.toldN c l m t (k + 1) = Cli.toldN c l m t k ++ [Cli.tellI c l m t k] by rw [HSU.out]; simp)
            cases q : Cli.hasI t (k : Int)
            · rw [q] at z0
              have HT := hideG (show Cli.tellI c l m t (k : Int) = ((k : Int), 2, F3, 0) by unfold Cli.tellI; rw [q, if_neg (by simp), if_neg (by simp), ← HMS.out rfl q])
              go_wp2_with (at_builtin; refine wpList_append_own _ rfl _ _ 63 rfl (w.heap.size + 1) 147 i1 (.agg #[.int .i64 0, .int .i64 0, .int .i64 0, .int .i64 0]) 4 32 Tryz.underlying63 hi1 hy0 hy1 hy2 rfl (by decide) _ _ _ rfl ((HO.out.alloc _).alloc _) ⟨wr.heap.size + 1, 0, none⟩ 1 1 [.int .i64 k, .int .i64 2, .int .i64 F3, .int .i64 0] rfl rfl ?c1 ?c2 ?c3 ?c4 ?c5 ?_)
              case c2 => first | exact ⟨rfl, rfl, rfl, rfl⟩ | (intro u hu; simp at hu; rcases hu with rfl | rfl | rfl | rfl <;> rfl)
              case c3 => unfold maxLen; omega
              case c4 => omega
              case c5 => first | omega | (simp; omega)
              intro v' w4 hown' hgrow' _
              have hb4 := ((HBW.out.alloc (by omega) _).alloc (by simp; omega) _).grown hgrow' (by simp; omega) (fun y hy => Nat.le_trans (Nat.le_succ _) (HO.out.lt y hy).1)
              have B4 := hideG hb4
              have O4 := hideG (show w4.ownsRow (w.heap.size + 1) 147 4 v' (Cli.toldN c l m t (k + 1)).length (flat4 (Cli.toldN c l m t (k + 1))) by
                rw [HS2.out, flat4_append, HT.out, List.length_append]; exact hown')
              have BO4 := hideG ((HBO.out.below (((Below.refl wr.heap.size wr).alloc (Nat.le_refl _) _).alloc (by simp) _) (by omega)).block (hgrow'.block w.heap.size (by simp; omega) (fun e => by have := (HO.out.lt w.heap.size e.symm).1; omega)))
              have z4 := BO4.out.cell k hlt2
              rw [q] at z4; clear q
              have hpe := far_cell hgrow' wr.heap.size 0 (by simp; omega) (fun e => by have := (HO.out.lt wr.heap.size e).2; omega)
              simp [go_sem] at hpe
              clear hown' hgrow' hb4
              go_wp2_with fail
              go_roundw
              case rel => exact ⟨k + 1, by omega, by go_num, BO4.out, O4.out, B4.out⟩
              case measure => simp [intOf]; omega
            · rw [q] at z0
              have HT := hideG (show Cli.tellI c l m t (k : Int) = ((k : Int), 1, F4, 0) by unfold Cli.tellI; rw [q, if_pos rfl, if_pos rfl, ← HSS.out rfl q])
              go_wp2_with (at_builtin; refine wpList_append_own _ rfl _ _ 63 rfl (w.heap.size + 1) 147 i1 (.agg #[.int .i64 0, .int .i64 0, .int .i64 0, .int .i64 0]) 4 32 Tryz.underlying63 hi1 hy0 hy1 hy2 rfl (by decide) _ _ _ rfl ((HO.out.alloc _).alloc _) ⟨wr.heap.size + 1, 0, none⟩ 1 1 [.int .i64 k, .int .i64 1, .int .i64 F4, .int .i64 0] rfl rfl ?d1 ?d2 ?d3 ?d4 ?d5 ?_)
              case d2 => first | exact ⟨rfl, rfl, rfl, rfl⟩ | (intro u hu; simp at hu; rcases hu with rfl | rfl | rfl | rfl <;> rfl)
              case d3 => unfold maxLen; omega
              case d4 => omega
              case d5 => first | omega | (simp; omega)
              intro v' w4 hown' hgrow' _
              have hb4 := ((HBW.out.alloc (by omega) _).alloc (by simp; omega) _).grown hgrow' (by simp; omega) (fun y hy => Nat.le_trans (Nat.le_succ _) (HO.out.lt y hy).1)
              have B4 := hideG hb4
              have O4 := hideG (show w4.ownsRow (w.heap.size + 1) 147 4 v' (Cli.toldN c l m t (k + 1)).length (flat4 (Cli.toldN c l m t (k + 1))) by
                rw [HS2.out, flat4_append, HT.out, List.length_append]; exact hown')
              have BO4 := hideG ((HBO.out.below (((Below.refl wr.heap.size wr).alloc (Nat.le_refl _) _).alloc (by simp) _) (by omega)).block (hgrow'.block w.heap.size (by simp; omega) (fun e => by have := (HO.out.lt w.heap.size e.symm).1; omega)))
              have z4 := BO4.out.cell k hlt2
              rw [q] at z4; clear q
              have hpe := far_cell hgrow' wr.heap.size 0 (by simp; omega) (fun e => by have := (HO.out.lt wr.heap.size e).2; omega)
              simp [go_sem] at hpe
              clear hown' hgrow' hb4
              go_wp2_with fail
              go_roundw
              case rel => exact ⟨k + 1, by omega, by go_num, BO4.out, O4.out, B4.out⟩
              case measure => simp [intOf]; omega
        · have ek : k = 13 := by omega
          subst ek
          go_wp2_with fail
          go_ret
          exact ⟨_, rfl, by rw [← HAL.out]; exact ownsRow_base HO.out (Nat.le_succ _), HBW.out⟩
end Go.Proofs.YtchideljndagjabGreat.Co
namespace Go.Proofs.YtchideljndagjabGreat.Co
open Go.ChangeShapes Go.WideShapes Go.ChangeAt Go.RowKit
set_option linter.unusedVariables false
theorem ask_eq {w : World} {b oo : Nat} {c : Cli.Cl} {s : Cli.St} {S : PS} {l : List Frm.It} (h : CliAt w b oo c s S) (h3 : s.1 = 3) (hr : Frm.riseB l = true) :
    ((l.all fun x => (S.f x.1.toNat).mem) && (Cli.hasI l S.id && decide (S.t ≤ (l.length : Int)))) = Cli.askAgree c s.2.2.1 l := by
  rw [h.eid, h.et (by omega) (by omega)]
  unfold Cli.askAgree
  congr 1
  refine all_alike fun x hx => ?_
  have hb := (Cli.rise_pair hr).2 x hx
  have e : ((x.1.toNat : Nat) : Int) = x.1 := by omega
  rw [(h.three h3).1 _ (by omega)]
  unfold Cli.secondP
  rw [e]
  cases q : Cli.hasI s.2.2.1 x.1
  · rw [if_neg (by simp)]
    by_cases q2 : x.1 = c.id
    · rw [if_pos q2, decide_eq_true q2]; rfl
    · rw [if_neg q2, decide_eq_false q2]; rfl
  · rw [if_pos rfl]; rfl
set_option maxHeartbeats 2000000 in
set_option maxRecDepth 100000 in
theorem takeAsk_calls (b oo : Nat) (c : Cli.Cl) (s : Cli.St) (S : PS) (v : Value) (fr : Int) (l : List Frm.It) (w : World) (hc : Cli.Good c) (hw : CliW w b oo c s S) (h3 : s.1 = 3) (hl : ItemsAt w v l) (ho : Frm.okF 6 fr l = true) :
    Calls Tryz.prog 208 #[.pointer (some ⟨b, oo, none⟩), v] w fun e w' => ∃ va, e = .returned va ∧ ∃ S', Took w w' b oo c (if Cli.askAgree c s.2.2.1 l = true then (4, s.2.1, s.2.2.1, l) else (0, s.2.1, s.2.2.1, l)) S S' ∧ Ans w w' b S' va (if Cli.askAgree c s.2.2.1 l = true then some (7, c.id, Cli.tells c s.2.1 s.2.2.1 l) else none) := by
  have h := hw.cli
  have HLOW := hideG hw.low
  clear hw
  obtain ⟨o1, o2, o3, o4, o5⟩ := Frm.okF_parts ho
  have gt := hc.t
  have gn := hc.n
  have et := h.et (by omega) (by omega)
  obtain ⟨n1, n2, n3⟩ := h.three h3
  obtain ⟨a1, a2, a3, a4⟩ := h.apart
  have hbl := h.at_.lt
  have HK := hideG (askAgrees_calls b oo S v l w h.at_ hl o3 o1 (by rw [et]; omega))
  rw [ask_eq h h3 o3] at HK
  obtain ⟨k, hk⟩ : ∃ k, k = s.2.1 := ⟨_, rfl⟩
  obtain ⟨m, hm⟩ : ∃ m, m = s.2.2.1 := ⟨_, rfl⟩
  rw [← hm] at HK
  rw [← hk, ← hm] at n1 n3 ⊢
  rw [← hm] at n2
  have HH := hideG (fun w1 hp => halt_calls b oo S w1 hp)
  have HPS := hideG (fun w1 (hb : Below w.heap.size w w1) => h.at_.below hb)
  have HE := hideG (And.intro h.eid (And.intro h.ecp h.emp))
  cases hag : Cli.askAgree c m l
  · rw [hag] at HK
    rw [if_neg (by simp), if_neg (by simp)]
    obtain ⟨a, cap, rfl, -⟩ := items_view hl
    clear h hl ho o1 o2 o3 o4 o5 et n1 n2 n3 a1 a2 a3 a4 hag hk hm
    go_enter Tryz.func208, Tryz.ntmps208
    go_wp2_with fail
    refine HK.out.mono ?_
    rintro e w1 ⟨rfl, hb1⟩
    have B1 := hideG hb1
    clear hb1
    go_wp2_with fail
    refine (HH.out _ (HPS.out _ B1.out)).mono ?_
    rintro e w2 ⟨rfl, hp, hch⟩
    have HP := hideG hp
    have HC := hideG hch
    clear hp hch
    go_wp2_with fail
    go_ret
    exact ⟨_, rfl, haltS S, took_halt rfl HP.out HE.out.1 HE.out.2.1 HE.out.2.2 (ChgC.of_below B1.out hbl) HC.out, rfl⟩
  · rw [hag] at HK
    rw [if_pos rfl, if_pos rfl]
    have hno : Cli.hasI m c.id = false := by unfold Cli.boxAgree at n3; rw [Bool.and_eq_true] at n3; simpa using n3.1
    have hown : Cli.hasI l c.id = true := by unfold Cli.askAgree at hag; rw [Bool.and_eq_true, Bool.and_eq_true] at hag; exact hag.2.1
    have HSH := hideG (fun (w1 : World) (hb : Below w.heap.size w w1) => shares_calls b oo S c v k m l w1 (h.at_.below hb) (hl.below hb) o3 o1 n2 hc n1 hno hown)
    have HSO := hideG (Cli.tells_ok hc k m l)
    have HCLI := hideG (fun (w1 : World) (va : Value) (hp : PSAt w1 b oo (toldS S va)) (hi : ItemsAt w1 va (Cli.tells c k m l)) (hva : va.ownBlock ≠ some b) => (show CliAt w1 b oo c (4, k, m, l) (toldS S va) from
      { at_ := hp, ph := ⟨by show (0 : Int) ≤ 4; omega, by show (4 : Int) ≤ 4; omega⟩, eid := h.eid, eph := rfl, ecp := h.ecp, emp := h.emp, one := fun e => absurd e (by show ¬ (4 : Int) = 1; omega), mid := fun _ e => absurd e (by show ¬ (4 : Int) ≤ 2; omega), et := fun _ e => absurd e (by show ¬ (4 : Int) ≤ 3; omega),
        two := fun e => absurd e (by show ¬ (4 : Int) = 2; omega), three := fun e => absurd e (by show ¬ (4 : Int) = 3; omega), nil := fun e => absurd rfl e, four := fun _ => hi,
        apart := ⟨a1, a2, a3, hva⟩ }))
    obtain ⟨a, cap, rfl, -⟩ := items_view hl
    clear h hl ho o1 o2 o3 o4 o5 et n1 n2 n3 a1 a2 a3 a4 hag hk hm hno hown
    have HZL := hideG zero_list
    go_enter Tryz.func208, Tryz.ntmps208
    go_wp2_with fail
    refine HK.out.mono ?_
    rintro e w1 ⟨rfl, hb1⟩
    have B1 := hideG hb1
    have s1 := hb1.size
    clear hb1
    go_wp2_with fail
    refine (HSH.out w1 B1.out).mono ?_
    rintro e w2 ⟨va, rfl, hown, hb2⟩
    have s2 := hb2.size
    have B2 := hideG (B1.out.trans (hb2.mono s1))
    have PS2 := hideG (HPS.out w2 B2.out)
    have O2 := hideG hown
    obtain ⟨a2, c2, hv2⟩ := owns_form hown
    subst hv2
    clear hown hb2
    have e1 := PS2.out.c1
    have e77 := PS2.out.c77
    have ef1 := PS2.out.froz 1 (by decide); have ef77 := PS2.out.froz 77 (by decide)
    obtain ⟨V, hV⟩ : ∃ V, V = Value.slice a2 (Cli.tells c k m l).length c2 := ⟨_, rfl⟩
    have PS4 := hideG (show PSAt ((w2.setCell ⟨b, oo + 77, none⟩ V).setCell ⟨b, oo + 1, none⟩ (.int .i64 4)) b oo { S with told := V, ph := 4 } from (PS2.out.setTold V).setPh 4)
    have HTH := hideG (show ((w2.setCell ⟨b, oo + 77, none⟩ V).setCell ⟨b, oo + 1, none⟩ (.int .i64 4)).there b (oo + 12) Tryz.zeroCells203.toList.length by rw [HZL.out, circ_length]; exact PS4.out.there 12 65 (by omega))
    have hst := stc Tryz.prog b (oo + 12) Tryz.zeroCells203.toList _ HTH.out (by rw [HZL.out]; exact circ_one _)
    have PS5 := hideG (show PSAt (((w2.setCell ⟨b, oo + 77, none⟩ V).setCell ⟨b, oo + 1, none⟩ (.int .i64 4)).setCells b (oo + 12) Tryz.zeroCells203.toList) b oo (toldS S V) by rw [HZL.out]; exact PS4.out.setF _)
    have hc5 : ChgC b oo w2 (((w2.setCell ⟨b, oo + 77, none⟩ V).setCell ⟨b, oo + 1, none⟩ (.int .i64 4)).setCells b (oo + 12) Tryz.zeroCells203.toList) := ((ChgC.cell w2 V 77 (by decide)).also (ChgC.cell _ _ 1 (by decide))).also (ChgC.cells _ _ 12 (by rw [HZL.out, circ_length]; decide))
    obtain ⟨w5, hw5⟩ : ∃ w5, w5 = ((w2.setCell ⟨b, oo + 77, none⟩ V).setCell ⟨b, oo + 1, none⟩ (.int .i64 4)).setCells b (oo + 12) Tryz.zeroCells203.toList := ⟨_, rfl⟩
    rw [← hw5] at PS5 hc5 hst
    clear hw5
    have C5 := hideG ((ChgC.of_below B2.out hbl).also hc5)
    have s5 := C5.out.size
    have O5 := hideG (ownsRow_chg O2.out hc5.chg (fun x e hx => by have := (O2.out.lt x e).1; omega))
    have I5 := hideG (itemsAt_of_owns O5.out (okF_in HSO.out))
    rw [← hV] at I5 O5
    have g77 := PS5.out.c77
    have WR := hideG (written_calls_c b oo (toldS S V) 7 V (Cli.tells c k m l) w5 PS5.out I5.out (by show Frm.okF 7 S.id _ = true; rw [HE.out.1]; exact HSO.out))
    rw [hV] at hst WR
    change w5.cell? _ = some V at g77
    rw [hV] at g77
    have HV := hideG hV
    clear hV hc5
    go_wp2_with fail
    refine WR.out.mono ?_
    rintro e w7 ⟨vb, rfl, hown7, hb7⟩
    have C7 := hideG (C5.out.grow hb7 PS5.out.lt)
    have PS7 := hideG (PS5.out.below hb7)
    have I7 := hideG (I5.out.below hb7)
    have O7 := hideG hown7
    have s7 := hb7.size
    clear hown7 hb7
    go_wp2_with fail
    go_ret
    have hlt : ∀ x, V.ownBlock = some x → w1.heap.size ≤ x ∧ x < w5.heap.size := fun x hx => O5.out.lt x hx
    have hfoot : ∀ x, CFoot b (toldS S V) x → CFoot b S x ∨ (w.heap.size ≤ x ∧ x < w5.heap.size) := fun x hx => by
      rcases hx with hx | hx | hx | hx | hx
      · exact .inl (.inl hx)
      · exact .inl (.inr (.inl hx))
      · exact .inl (.inr (.inr (.inl hx)))
      · exact .inl (.inr (.inr (.inr (.inl hx))))
      · have := hlt x hx; exact .inr ⟨by omega, this.2⟩
    have hlow : ∀ x, CFoot b (toldS S V) x → x < w5.heap.size := fun x hx => by
      rcases hfoot x hx with h | h
      · have := HLOW.out x h; omega
      · exact h.2
    refine ⟨_, rfl, toldS S V, ⟨⟨HCLI.out w7 V PS7.out I7.out (fun e => by have := (hlt b e).1; omega), fun x hx => Nat.lt_of_lt_of_le (hlow x hx) s7⟩, C7.out, fun x hx => (hfoot x hx).imp id (fun h => h.1)⟩, ?_, fun x hx hf => ?_⟩
    · have e : (toldS S (Value.slice a2 (Cli.tells c k m l).length c2)).id = c.id := HE.out.1
      have := O7.out
      rw [e] at this
      exact ownsRow_base this s5
    · have hl := (O7.out.lt x hx).1
      have := hlow x hf
      omega
end Go.Proofs.YtchideljndagjabGreat.Co
namespace Go.Proofs.YtchideljndagjabGreat.Co
open Go.ChangeShapes Go.WideShapes Go.ChangeAt Go.RowKit
set_option linter.unusedVariables false
theorem took_same {w w' : World} {b oo : Nat} {c : Cli.Cl} {s : Cli.St} {S : PS} (h : CliW w b oo c s S) (hb : Below w.heap.size w w') : Took w w' b oo c s S S := ⟨h.below hb, ChgC.of_below hb h.cli.at_.lt, fun _ hx => .inl hx⟩
theorem Took.after {w w1 w' : World} {b oo : Nat} {c : Cli.Cl} {s' : Cli.St} {S S' : PS} (h : Took w1 w' b oo c s' S S') (hb : Below w.heap.size w w1) (hl : b < w.heap.size) : Took w w' b oo c s' S S' :=
  ⟨h.cli, (ChgC.of_below hb hl).also h.chg, fun x hx => (h.foot x hx).imp id (fun e => Nat.le_trans hb.size e)⟩
set_option maxHeartbeats 4000000 in
set_option maxRecDepth 100000 in
theorem take_calls (b oo : Nat) (c : Cli.Cl) (s : Cli.St) (S : PS) (v : Value) (zs : List Int) (w : World) (hc : Cli.Good c) (hw : CliW w b oo c s S) (hv : BytesAt w v zs) :
    Calls Tryz.prog 141 #[.pointer (some ⟨b, oo, none⟩), v] w fun e w' => ∃ va, e = .returned va ∧ ∃ S', Took w w' b oo c (stepD c s zs) S S' ∧ Ans w w' b S' va (ansD c s zs) := by
  have hbl := hw.cli.at_.lt
  have HD := hideG (decode_calls v zs w hv)
  have c1 := hw.cli.at_.c1
  rw [hw.cli.eph] at c1
  have hph := hw.cli.ph
  obtain ⟨az, cz, rfl, -, -, hB, -⟩ := bytes_view hv
  have HW := hideG hw
  clear hv hw
  cases hd : Frm.decF zs with
  | none =>
    obtain ⟨x1, x2, x3, x4⟩ := d_none hd
    rw [x1, x2, x3, x4] at HD
    obtain ⟨y1, y2⟩ := stepD_none (c := c) (s := s) hd
    rw [y1, y2]
    clear x1 x2 x3 x4 y1 y2 hd c1 hB
    go_enter Tryz.func141, Tryz.ntmps141
    go_wp2_with fail
    refine HD.out.mono ?_
    rintro e w1 ⟨va, rfl, hown, hb⟩
    obtain ⟨a', c', hv'⟩ := owns_form hown
    subst hv'
    have HB := hideG hb
    clear hown hb
    go_wp2_with fail
    go_ret
    exact ⟨_, rfl, S, took_same HW.out (HB.out.alloc HB.out.size _), rfl⟩
  | some f =>
    obtain ⟨k, fr, l⟩ := f
    obtain ⟨x1, x2, x3, x4⟩ := d_some hd
    rw [x1, x2, x3, x4] at HD
    obtain ⟨y1, y2, y3⟩ := Frm.enc_dec hB hd
    have HOK := hideG y1
    have HIN := hideG (okF_in y1)
    have HDE := hideG hd
    clear x1 x2 x3 x4 y1 y2 y3 hd hB
    have HM := hideG (fun (w1 : World) (a' : Option Addr) (c' : Nat) (hb : Below w.heap.size w w1) (hown : w1.ownsRow w.heap.size 147 4 (.slice a' l.length c') l.length (flat4 l)) =>
      (show ∀ (o : Obj), Below w.heap.size w (w1.alloc o) ∧ CliW (w1.alloc o) b oo c s S ∧ ItemsAt (w1.alloc o) (.slice a' l.length c') l ∧ w.heap.size ≤ (w1.alloc o).heap.size from fun o => by
        have hb2 := hb.alloc hb.size o
        exact ⟨hb2, HW.out.below hb2, (itemsAt_of_owns hown HIN.out).below ((Below.refl _ _).alloc (Nat.le_refl _) _), hb2.size⟩))
    by_cases k1 : s.1 = 1 ∧ k = 2
    · obtain ⟨p1, rfl⟩ := k1
      obtain ⟨y1, y2⟩ := stepD_keys (c := c) HDE.out p1
      obtain ⟨s', hs'⟩ : ∃ s', s' = stepD c s zs := ⟨_, rfl⟩
      obtain ⟨o', ho'⟩ : ∃ o', o' = ansD c s zs := ⟨_, rfl⟩
      rw [← hs', ← ho']
      have HSS := hideG (hs'.trans y1)
      have HOO := hideG (ho'.trans y2)
      clear hs' ho'
      rw [p1] at c1
      have HP := hideG p1
      clear p1 y1 y2 hph
      go_enter Tryz.func141, Tryz.ntmps141
      go_wp2_with fail
      refine HD.out.mono ?_
      rintro e w1 ⟨va, rfl, hown, hb⟩
      obtain ⟨a', c', hv'⟩ := owns_form hown
      subst hv'
      have s1 := hb.size
      have MM := hideG (HM.out w1 a' c' hb hown)
      have al : ∀ (ob : Obj), (w1.alloc ob).cell? ⟨b, oo + 1, none⟩ = some (.int .i64 1) := fun ob => by
        rw [((Below.refl w1.heap.size w1).alloc (Nat.le_refl _) ob).cell (p := ⟨b, oo + 1, none⟩) (by show b < _; omega), hb.cell (p := ⟨b, oo + 1, none⟩) hbl]; exact c1
      clear hown hb
      go_wp2_with fail
      obtain ⟨m1, m2, m3, m4⟩ := MM.out (.cells #[.int .i64 2, .int .i64 fr, .slice a' l.length c'] 65)
      have M1 := hideG m1
      have M4 := hideG m4
      have CON := hideG (show Calls Tryz.prog 206 #[.pointer (some ⟨b, oo, none⟩), .slice a' l.length c'] (w1.alloc (.cells #[.int .i64 2, .int .i64 fr, .slice a' l.length c'] 65)) fun e w' => ∃ va, e = .returned va ∧ ∃ S', Took (w1.alloc (.cells #[.int .i64 2, .int .i64 fr, .slice a' l.length c'] 65)) w' b oo c (if Cli.keysAgree c l = true then (2, l, [], []) else (0, l, [], [])) S S' ∧ Ans (w1.alloc (.cells #[.int .i64 2, .int .i64 fr, .slice a' l.length c'] 65)) w' b S' va (if Cli.keysAgree c l = true then some (3, c.id, Cli.sharing c l) else none) by
        cases e : Cli.keysAgree c l
        · exact takeKeys_no b oo c s S _ fr l _ hc m2 HP.out m3 HOK.out e (0, l, [], []) rfl
        · exact takeKeys_yes b oo c s S _ fr l _ hc m2 HP.out m3 HOK.out e)
      rw [← HSS.out, ← HOO.out] at CON
      clear m1 m2 m3 m4
      refine CON.out.mono ?_
      rintro e w2 ⟨vb, rfl, S', ht, hans⟩
      obtain ⟨a3, n3, c3, hv3⟩ := hans.form
      have HT := hideG ht
      have HA := hideG hans
      rw [hv3] at HA ⊢
      clear ht hans hv3
      go_wp2_with fail
      go_ret
      exact ⟨_, rfl, S', HT.out.after M1.out hbl, HA.out.after M4.out⟩
    · by_cases k2 : s.1 = 2 ∧ k = 4
      · obtain ⟨p1, rfl⟩ := k2
        obtain ⟨y1, y2⟩ := stepD_box (c := c) HDE.out p1
        obtain ⟨s', hs'⟩ : ∃ s', s' = stepD c s zs := ⟨_, rfl⟩
        obtain ⟨o', ho'⟩ : ∃ o', o' = ansD c s zs := ⟨_, rfl⟩
        rw [← hs', ← ho']
        have HSS := hideG (hs'.trans y1)
        have HOO := hideG (ho'.trans y2)
        clear hs' ho'
        rw [p1] at c1
        have HP := hideG p1
        clear p1 y1 y2 hph k1
        go_enter Tryz.func141, Tryz.ntmps141
        go_wp2_with fail
        refine HD.out.mono ?_
        rintro e w1 ⟨va, rfl, hown, hb⟩
        obtain ⟨a', c', hv'⟩ := owns_form hown
        subst hv'
        have s1 := hb.size
        have MM := hideG (HM.out w1 a' c' hb hown)
        have al : ∀ (ob : Obj), (w1.alloc ob).cell? ⟨b, oo + 1, none⟩ = some (.int .i64 2) := fun ob => by
          rw [((Below.refl w1.heap.size w1).alloc (Nat.le_refl _) ob).cell (p := ⟨b, oo + 1, none⟩) (by show b < _; omega), hb.cell (p := ⟨b, oo + 1, none⟩) hbl]; exact c1
        clear hown hb
        go_wp2_with fail
        obtain ⟨m1, m2, m3, m4⟩ := MM.out (.cells #[.int .i64 4, .int .i64 fr, .slice a' l.length c'] 65)
        have M1 := hideG m1
        have M4 := hideG m4
        have CON := hideG (takeBox_calls b oo c s S _ fr l _ hc m2 HP.out m3 HOK.out)
        rw [← HSS.out, ← HOO.out] at CON
        clear m1 m2 m3 m4
        refine CON.out.mono ?_
        rintro e w2 ⟨vb, rfl, S', ht, hans⟩
        obtain ⟨a3, n3, c3, hv3⟩ := hans.form
        have HT := hideG ht
        have HA := hideG hans
        rw [hv3] at HA ⊢
        clear ht hans hv3
        go_wp2_with fail
        go_ret
        exact ⟨_, rfl, S', HT.out.after M1.out hbl, HA.out.after M4.out⟩
      · by_cases k3 : s.1 = 3 ∧ k = 6
        · obtain ⟨p1, rfl⟩ := k3
          obtain ⟨y1, y2⟩ := stepD_ask (c := c) HDE.out p1
          obtain ⟨s', hs'⟩ : ∃ s', s' = stepD c s zs := ⟨_, rfl⟩
          obtain ⟨o', ho'⟩ : ∃ o', o' = ansD c s zs := ⟨_, rfl⟩
          rw [← hs', ← ho']
          have HSS := hideG (hs'.trans y1)
          have HOO := hideG (ho'.trans y2)
          clear hs' ho'
          rw [p1] at c1
          have HP := hideG p1
          clear p1 y1 y2 hph k1 k2
          go_enter Tryz.func141, Tryz.ntmps141
          go_wp2_with fail
          refine HD.out.mono ?_
          rintro e w1 ⟨va, rfl, hown, hb⟩
          obtain ⟨a', c', hv'⟩ := owns_form hown
          subst hv'
          have s1 := hb.size
          have MM := hideG (HM.out w1 a' c' hb hown)
          have al : ∀ (ob : Obj), (w1.alloc ob).cell? ⟨b, oo + 1, none⟩ = some (.int .i64 3) := fun ob => by
            rw [((Below.refl w1.heap.size w1).alloc (Nat.le_refl _) ob).cell (p := ⟨b, oo + 1, none⟩) (by show b < _; omega), hb.cell (p := ⟨b, oo + 1, none⟩) hbl]; exact c1
          clear hown hb
          go_wp2_with fail
          obtain ⟨m1, m2, m3, m4⟩ := MM.out (.cells #[.int .i64 6, .int .i64 fr, .slice a' l.length c'] 65)
          have M1 := hideG m1
          have M4 := hideG m4
          have CON := hideG (takeAsk_calls b oo c s S _ fr l _ hc m2 HP.out m3 HOK.out)
          rw [← HSS.out, ← HOO.out] at CON
          clear m1 m2 m3 m4
          refine CON.out.mono ?_
          rintro e w2 ⟨vb, rfl, S', ht, hans⟩
          obtain ⟨a3, n3, c3, hv3⟩ := hans.form
          have HT := hideG ht
          have HA := hideG hans
          rw [hv3] at HA ⊢
          clear ht hans hv3
          go_wp2_with fail
          go_ret
          exact ⟨_, rfl, S', HT.out.after M1.out hbl, HA.out.after M4.out⟩
        · obtain ⟨y1, y2⟩ := stepD_rest (c := c) HDE.out k1 k2 k3
          rw [y1, y2]
          clear y1 y2
          by_cases p1 : s.1 = 1
          · have hkk : (k == 2) = false := by simpa using fun e => k1 ⟨p1, e⟩
            rw [p1] at c1
            clear p1 k1 k2 k3 hph
            go_enter Tryz.func141, Tryz.ntmps141
            go_wp2_with fail
            refine HD.out.mono ?_
            rintro e w1 ⟨va, rfl, hown, hb⟩
            obtain ⟨a', c', hv'⟩ := owns_form hown
            subst hv'
            have s1 := hb.size
            have al : ∀ (ob : Obj), (w1.alloc ob).cell? ⟨b, oo + 1, none⟩ = some (.int .i64 1) := fun ob => by
              rw [((Below.refl w1.heap.size w1).alloc (Nat.le_refl _) ob).cell (p := ⟨b, oo + 1, none⟩) (by show b < _; omega), hb.cell (p := ⟨b, oo + 1, none⟩) hbl]; exact c1
            have HB := hideG hb
            clear hown hb c1
            go_wp2_with fail
            go_ret
            exact ⟨_, rfl, S, took_same HW.out (HB.out.alloc HB.out.size _), rfl⟩
          by_cases p2 : s.1 = 2
          · have hkk : (k == 4) = false := by simpa using fun e => k2 ⟨p2, e⟩
            rw [p2] at c1
            clear p2 k1 k2 k3 hph p1
            go_enter Tryz.func141, Tryz.ntmps141
            go_wp2_with fail
            refine HD.out.mono ?_
            rintro e w1 ⟨va, rfl, hown, hb⟩
            obtain ⟨a', c', hv'⟩ := owns_form hown
            subst hv'
            have s1 := hb.size
            have al : ∀ (ob : Obj), (w1.alloc ob).cell? ⟨b, oo + 1, none⟩ = some (.int .i64 2) := fun ob => by
              rw [((Below.refl w1.heap.size w1).alloc (Nat.le_refl _) ob).cell (p := ⟨b, oo + 1, none⟩) (by show b < _; omega), hb.cell (p := ⟨b, oo + 1, none⟩) hbl]; exact c1
            have HB := hideG hb
            clear hown hb c1
            go_wp2_with fail
            go_ret
            exact ⟨_, rfl, S, took_same HW.out (HB.out.alloc HB.out.size _), rfl⟩
          by_cases p3 : s.1 = 3
          · have hkk : (k == 6) = false := by simpa using fun e => k3 ⟨p3, e⟩
            rw [p3] at c1
            clear p3 k1 k2 k3 hph p1 p2
            go_enter Tryz.func141, Tryz.ntmps141
            go_wp2_with fail
            refine HD.out.mono ?_
            rintro e w1 ⟨va, rfl, hown, hb⟩
            obtain ⟨a', c', hv'⟩ := owns_form hown
            subst hv'
            have s1 := hb.size
            have al : ∀ (ob : Obj), (w1.alloc ob).cell? ⟨b, oo + 1, none⟩ = some (.int .i64 3) := fun ob => by
              rw [((Below.refl w1.heap.size w1).alloc (Nat.le_refl _) ob).cell (p := ⟨b, oo + 1, none⟩) (by show b < _; omega), hb.cell (p := ⟨b, oo + 1, none⟩) hbl]; exact c1
            have HB := hideG hb
            clear hown hb c1
            go_wp2_with fail
            go_ret
            exact ⟨_, rfl, S, took_same HW.out (HB.out.alloc HB.out.size _), rfl⟩
          obtain ⟨ph, hph'⟩ : ∃ ph, ph = s.1 := ⟨_, rfl⟩
          rw [← hph'] at p1 p2 p3 c1
          have q1 : (ph == 1) = false := by simpa using p1
          have q2 : (ph == 2) = false := by simpa using p2
          have q3 : (ph == 3) = false := by simpa using p3
          clear hph' hph k1 k2 k3 p1 p2 p3
          go_enter Tryz.func141, Tryz.ntmps141
          go_wp2_with fail
          refine HD.out.mono ?_
          rintro e w1 ⟨va, rfl, hown, hb⟩
          obtain ⟨a', c', hv'⟩ := owns_form hown
          subst hv'
          have s1 := hb.size
          have al : ∀ (ob : Obj), (w1.alloc ob).cell? ⟨b, oo + 1, none⟩ = some (.int .i64 ph) := fun ob => by
            rw [((Below.refl w1.heap.size w1).alloc (Nat.le_refl _) ob).cell (p := ⟨b, oo + 1, none⟩) (by show b < _; omega), hb.cell (p := ⟨b, oo + 1, none⟩) hbl]; exact c1
          have HB := hideG hb
          clear hown hb c1
          go_wp2_with fail
          go_ret
          exact ⟨_, rfl, S, took_same HW.out (HB.out.alloc HB.out.size _), rfl⟩
end Go.Proofs.YtchideljndagjabGreat.Co
namespace Go.Proofs.YtchideljndagjabGreat.Co
open Go.ChangeShapes Go.WideShapes Go.ChangeAt Go.RowKit
set_option linter.unusedVariables false
set_option maxHeartbeats 1000000 in
set_option maxRecDepth 100000 in
theorem hello_calls (b oo : Nat) (S : PS) (w : World) (h : PSAt w b oo S) (ho : Frm.okF 1 S.id [(S.id, S.cp, S.mp, 0)] = true) :
    Calls Tryz.prog 127 #[.pointer (some ⟨b, oo, none⟩)] w fun e w' => ∃ va, e = .returned va ∧ w'.ownsRow w.heap.size 5 1 va (Frm.encF 1 S.id [(S.id, S.cp, S.mp, 0)]).length ((Frm.encF 1 S.id [(S.id, S.cp, S.mp, 0)]).map (Value.int .u8)) ∧ Below w.heap.size w w' := by
  have hbl := h.lt
  have c0 := h.c0
  have c2 := h.c2
  have c3 := h.c3
  have HIN := hideG (okF_in ho)
  have HW := hideG (fun (W : World) (v : Value) (hb : Below w.heap.size w W) (hl : ItemsAt W v [(S.id, S.cp, S.mp, 0)]) => written_calls_c b oo S 1 v [(S.id, S.cp, S.mp, 0)] W (h.below hb) hl ho)
  clear h ho
  have al : ∀ (ob : Obj) (o : Nat), (w.alloc ob).cell? ⟨b, o, none⟩ = w.cell? ⟨b, o, none⟩ := fun ob o => ((Below.refl w.heap.size w).alloc (Nat.le_refl _) ob).cell (p := ⟨b, o, none⟩) hbl
  generalize S.id = x0 at *
  generalize S.cp = x1 at *
  generalize S.mp = x2 at *
  go_enter Tryz.func127, Tryz.ntmps127
  go_wp2_with fail
  go_region
  go_wp2_with fail
  obtain ⟨W, hW⟩ : ∃ W, W = ((w.alloc (.cells #[.int .i64 x0, .int .i64 x1, .int .i64 x2, .int .i64 0] 147)).alloc (.cells #[.int .i64 x0, .int .i64 x1, .int .i64 x2, .int .i64 0] 147)).drew := ⟨_, rfl⟩
  rw [← hW]
  have HB := hideG (show Below w.heap.size w W by rw [hW]; exact (((Below.refl _ _).alloc (Nat.le_refl _) _).alloc (by simp) _).drew)
  have HI := hideG (show ItemsAt W (.slice (some ⟨w.heap.size + 1, 0, none⟩) 1 1) [(x0, x1, x2, 0)] by
    refine ⟨_, _, rfl, by simp, by unfold maxLen; omega, HIN.out, .inr ⟨w.heap.size + 1, 0, rfl, by rw [hW]; simp, fun i hi => ?_⟩⟩
    obtain rfl : i = 0 := by simpa using hi
    rw [hW]
    refine ⟨?_, ?_, ?_, ?_⟩ <;> simp [Frm.it])
  clear hW
  refine (HW.out W _ HB.out HI.out).mono ?_
  rintro e w1 ⟨va, rfl, hown, hb1⟩
  have s1 := HB.out.size
  have O1 := hideG (ownsRow_base hown s1)
  have B1 := hideG (HB.out.trans (hb1.mono s1))
  obtain ⟨a3, c3', hv3⟩ := owns_form hown
  subst hv3
  clear hown hb1
  go_wp2_with fail
  go_ret
  exact ⟨_, rfl, O1.out, B1.out⟩
theorem relL_items {w : World} {b oo : Nat} {c : Cli.Cl} {s : Cli.St} {S : PS} (h : CliAt w b oo c s S) : ItemsAt w S.told (relL c s) := by
  unfold relL
  by_cases e : s.1 = 4
  · rw [if_pos e]; exact h.four e
  · rw [if_neg e, h.nil e]; exact ⟨none, 0, rfl, by simp, Nat.zero_le _, (fun x hx => by cases hx), .inl rfl⟩
def goneS (S : PS) : PS := { haltS S with told := S.told }
set_option maxHeartbeats 1000000 in
set_option maxRecDepth 100000 in
theorem crash_calls (b oo : Nat) (S : PS) (w : World) (h : PSAt w b oo S) (hv : ∃ a n c, S.told = .slice a n c) :
    Calls Tryz.prog 133 #[.pointer (some ⟨b, oo, none⟩)] w fun e w' => e = .returned (.tuple #[]) ∧ PSAt w' b oo (goneS S) ∧ ChgC b oo w w' := by
  obtain ⟨a, n, c, hv⟩ := hv
  have c77 := h.c77
  have HH := hideG (halt_calls b oo S w h)
  have HV := hideG hv
  rw [hv] at c77
  have hbl := h.lt
  clear h hv
  go_enter Tryz.func133, Tryz.ntmps133
  go_wp2_with fail
  refine HH.out.mono ?_
  rintro e w1 ⟨rfl, hp, hc⟩
  have d77 := hp.c77
  have f77 := hp.froz 77 (by decide)
  have s1 := hc.size
  have FIN := hideG (show PSAt (w1.setCell ⟨b, oo + 77, none⟩ (.slice a n c)) b oo (goneS S) ∧ ChgC b oo w (w1.setCell ⟨b, oo + 77, none⟩ (.slice a n c)) from ⟨by have := hp.setTold (.slice a n c); rw [← HV.out] at this ⊢; exact this, hc.also (ChgC.cell w1 _ 77 (by decide))⟩)
  clear hp hc c77
  go_wp2_with fail
  go_end0
  exact ⟨rfl, FIN.out⟩
end Go.Proofs.YtchideljndagjabGreat.Co
