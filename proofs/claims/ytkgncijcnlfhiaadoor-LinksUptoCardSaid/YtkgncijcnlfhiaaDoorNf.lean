import Derived.Deep.Cut
import Derived.Deep.CutRange
import Derived.Test.YtkgncijcnlfhiaaDoorNe
namespace Go.Proofs.YtkgncijcnlfhiaaDoor
set_option linter.unusedVariables false
set_option linter.unusedSimpArgs false
open Go.RowKit
attribute [local go_sem ↓] Go.wp_at_zero Go.wp_at_succ
theorem Tryd.tgtF (a b c d e : Value) (w : World) : (Instr.field 210 (.agg #[a, b, c, d, e]) 0).run Tryd.prog w = .ok (.agg #[a, b, c, d]) w := by kernel_rfl
theorem Tryd.tgtN (a b c d e : Value) (w : World) : (Instr.field 210 (.agg #[a, b, c, d, e]) 1).run Tryd.prog w = .ok e w := by kernel_rfl
set_option maxRecDepth 100000 in
set_option maxHeartbeats 2000000 in
theorem ask_alike (W : World) (l : List PUnit) (mb n : Nat) (N : List UInt8 → Option (PFunc × Int)) (W0 : World) (hW0 : Gr W0 W) (hM : MapT W0 W mb n N) (hN : ∀ u ∈ l, ∀ i ∈ u.imports, (N i.name).isSome = true) :
    AskC W 104 #[.map (some mb)] #[] 8 l (fun _ u => u.imports.any fun i => !alikeI N i) (fun _ V => Gr W V) (fun V => Gr W V) := by
  intro k u V vu hu hg hR
  show Calls Tryd.prog 104 #[.map (some mb), vu, .agg #[.int .i64 8, .int .i64 0, .int .i64 (k : Int)]] V _
  obtain ⟨a1, a2, a3, a4, a5, c1, c2, c3, c4, c5, rfl, _, _, _, r4, _⟩ := (hR.gr hg).parts
  obtain ⟨ao, cap, he, hm4, hc4⟩ := r4
  simp only [Value.slice.injEq, true_and] at he
  obtain ⟨rfl, rfl⟩ := he
  have HC := hide hc4
  have HM := hide (hM.gr hg)
  have HG := hide hg
  have HW0 := hide (hW0.trans hg)
  have HNN := hide (hN u (List.mem_of_getElem? hu))
  unfold maxLen at hm4
  have HY := hide (Why.new (V.alloc (.cells #[.slice a1 u.shapes.length c1, .slice a2 u.consts.length c2, .slice a3 u.funcs.length c3, .slice a4 u.imports.length c4, .slice a5 u.exports.length c5] 28)) 8 (k : Int) 83)
  have HGV := hide (((Gr.refl V).alloc (.cells #[.slice a1 u.shapes.length c1, .slice a2 u.consts.length c2, .slice a3 u.funcs.length c3, .slice a4 u.imports.length c4, .slice a5 u.exports.length c5] 28)).alloc (.cells #[.int .i64 8, .int .i64 0, .int .i64 (k : Int)] 83))
  have hbb : (V.alloc (.cells #[.slice a1 u.shapes.length c1, .slice a2 u.consts.length c2, .slice a3 u.funcs.length c3, .slice a4 u.imports.length c4, .slice a5 u.exports.length c5] 28)).heap.size = V.heap.size + 1 := by simp
  rw [hbb] at HY
  clear hM hg hR hu hc4 hbb hN hW0
  go_enter Tryd.func104, Tryd.ntmps104
  go_wp2_with fail
  generalize (V.alloc (.cells #[.slice a1 u.shapes.length c1, .slice a2 u.consts.length c2, .slice a3 u.funcs.length c3, .slice a4 u.imports.length c4, .slice a5 u.exports.length c5] 28)).alloc (.cells #[.int .i64 8, .int .i64 0, .int .i64 (k : Int)] 83) = W1 at HY HGV ⊢
  generalize V.heap.size + 1 = yb at HY ⊢
  go_loopw [12] (fun i wr => ∃ j : Nat, i = .int .i64 (j : Int) ∧ j ≤ u.imports.length ∧ (∀ m x, m < j → u.imports[m]? = some x → alikeI N x = true) ∧ Gr W1 wr) (fun i _ => u.imports.length - (intOf i).toNat)
  case atStart => exact ⟨0, rfl, Nat.zero_le _, fun m x hm => by omega, Gr.refl _⟩
  case round =>
    obtain ⟨j, rfl, hj, hall, hgr⟩ := hrel
    have HA := hide hall
    have HGR := hide hgr
    clear hall hgr
    by_cases hlt : j < u.imports.length
    · obtain ⟨x, hx⟩ := getElem?_lt hlt
      obtain ⟨b, off, vs, vp, rfl, k0, k1, k2, ⟨s, rfl, hs, hsz⟩, rp⟩ := HC.out j x hx
      obtain ⟨ap, cp, rfl⟩ := rp.shape
      have g1 := HGV.out.trans HGR.out
      have k0 := g1.cell k0 (by simp)
      have k1 := g1.cell k1 (by simp)
      have k2 := g1.cell k2 (by simp)
      have hji : (j : Int) < (u.imports.length : Int) := by omega
      have hw : IntKind.i64.wrap ((j : Int) + 1) = (j : Int) + 1 := Go.IntWalk.i64_in _ (by omega)
      have HX := hide hx
      have hga := (Gr.refl wr).alloc (.cells #[.string s, .slice ap x.params.length cp, .int .i64 x.result] 79)
      have hba := heap_alloc_new wr (.cells #[.string s, .slice ap x.params.length cp, .int .i64 x.result] 79)
      rcases (HM.out.gr g1).find s hsz with ⟨e1, _, _⟩ | ⟨g, kk, v, e1, e2, _, e3⟩
      · have := HNN.out x (List.mem_of_getElem? hx)
        rw [← hs, e1] at this; cases this
      · obtain ⟨tp, tcp, tl, tnl, tcl, tc, tnc, tcc, rfl, rtp⟩ := e2
        have hlk := e3 _ hga
        have hgb := hga.alloc (.cells #[.slice tp g.params.length tcp, .int .i64 g.result, .slice tl tnl tcl, .slice tc tnc tcc] 76)
        have hbb := heap_alloc_new (wr.alloc (.cells #[.string s, .slice ap x.params.length cp, .int .i64 x.result] 79)) (.cells #[.slice tp g.params.length tcp, .int .i64 g.result, .slice tl tnl tcl, .slice tc tnc tcc] 76)
        have hsb : (wr.alloc (.cells #[.string s, .slice ap x.params.length cp, .int .i64 x.result] 79)).heap.size = wr.heap.size + 1 := by simp
        rw [hsb] at hbb
        have hg2 : Gr (wr.alloc (.cells #[.string s, .slice ap x.params.length cp, .int .i64 x.result] 79)) ((wr.alloc (.cells #[.string s, .slice ap x.params.length cp, .int .i64 x.result] 79)).alloc (.cells #[.slice tp g.params.length tcp, .int .i64 g.result, .slice tl tnl tcl, .slice tc tnc tcc] 76)) := (Gr.refl _).alloc _
        have HY2 := hide ((HY.out.gr HGR.out).gr hgb)
        have HN : Hid (alikeI N x = decide (x.params = g.params ∧ x.result = g.result)) := hide (by unfold alikeI; rw [← hs, e1])
        have HGB := hide hgb
        have HRP := hide ((rp.gr g1).gr hgb)
        have HRT := hide (((rtp.gr HW0.out).gr g1).gr hgb)
        have KS : Hid (∀ w', Gr ((wr.alloc (.cells #[.string s, .slice ap x.params.length cp, .int .i64 x.result] 79)).alloc (.cells #[.slice tp g.params.length tcp, .int .i64 g.result, .slice tl tnl tcl, .slice tc tnc tcc] 76)) w' → w'.cell? ⟨yb, 0, none⟩ = some (.int .i64 8) ∧ w'.cell? ⟨yb, 1, none⟩ = some (.int .i64 0) ∧ w'.cell? ⟨yb, 2, none⟩ = some (.int .i64 (k : Int)) ∧ w'.cell? ⟨wr.heap.size, 1, none⟩ = some (.slice ap x.params.length cp) ∧ w'.cell? ⟨wr.heap.size, 2, none⟩ = some (.int .i64 x.result) ∧ w'.cell? ⟨wr.heap.size + 1, 0, none⟩ = some (.slice tp g.params.length tcp) ∧ w'.cell? ⟨wr.heap.size + 1, 1, none⟩ = some (.int .i64 g.result)) := hide (fun w' g => by
          have e0 : w'.heap[wr.heap.size]? = _ := ((hg2.trans g).block wr.heap.size (by simp) (by simp)).trans hba
          have e1 : w'.heap[wr.heap.size + 1]? = _ := (g.block (wr.heap.size + 1) (by simp) (by simp)).trans hbb
          obtain ⟨y0, y1, y2⟩ := HY2.out.gr g
          exact ⟨y0, y1, y2, by rw [hcell_ e0]; rfl, by rw [hcell_ e0]; rfl, by rw [hcell_ e1]; rfl, by rw [hcell_ e1]; rfl⟩)
        clear e1 e3 hs hsz rp hx hga hgb g1 rtp hba hbb hsb hg2
        have hft := fun (a b c d e : Value) (w : World) => Tryd.tgtF a b c d e w
        go_upto_region 5 with fail
        clear hft
        generalize (wr.alloc (.cells #[.string s, .slice ap x.params.length cp, .int .i64 x.result] 79)).alloc (.cells #[.slice tp g.params.length tcp, .int .i64 g.result, .slice tl tnl tcl, .slice tc tnc tcc] 76) = W2 at KS HGB HRP HRT ⊢
        clear hlk k0 k1 k2 HY2
        refine wp_region_held_drew (S := (fun w' => w'.cell? ⟨yb, 0, none⟩ = some (.int .i64 8) ∧ w'.cell? ⟨yb, 1, none⟩ = some (.int .i64 0) ∧ w'.cell? ⟨yb, 2, none⟩ = some (.int .i64 (k : Int)) ∧ w'.cell? ⟨wr.heap.size, 1, none⟩ = some (.slice ap x.params.length cp) ∧ w'.cell? ⟨wr.heap.size, 2, none⟩ = some (.int .i64 x.result) ∧ w'.cell? ⟨wr.heap.size + 1, 0, none⟩ = some (.slice tp g.params.length tcp) ∧ w'.cell? ⟨wr.heap.size + 1, 1, none⟩ = some (.int .i64 g.result))) (by kernel_rfl) (KS.out _ (Gr.drew (Gr.refl _))) (fun hHeld => ?_)
        refine takeL (i := 0) (v := ?av0) rfl (by kernel_rfl) (by kernel_rfl) (by kernel_rfl) (by intro c a w h; exact h) (by rfl) ?ahy0 hHeld ?arest0
        case ahy0 => (intro w hSw; (try dsimp only at hSw); go_simp <;> with_reducible rfl)
        simp only [Act.put, List.setIfInBounds_toArray, List.set_cons_zero, List.set_cons_succ]
        refine takeL (i := 1) (v := ?av1) rfl (by kernel_rfl) (by kernel_rfl) (by kernel_rfl) (by intro c a w h; exact h) (by rfl) ?ahy1 hHeld ?arest1
        case ahy1 => (intro w hSw; (try dsimp only at hSw); go_simp <;> with_reducible rfl)
        simp only [Act.put, List.setIfInBounds_toArray, List.set_cons_zero, List.set_cons_succ]
        refine takeL (i := 2) (v := ?av2) rfl (by kernel_rfl) (by kernel_rfl) (by kernel_rfl) (by intro c a w h; exact h) (by rfl) ?ahy2 hHeld ?arest2
        case ahy2 => (intro w hSw; (try dsimp only at hSw); go_simp <;> with_reducible rfl)
        simp only [Act.put, List.setIfInBounds_toArray, List.set_cons_zero, List.set_cons_succ]
        refine takeL (i := 3) (v := ?av3) rfl (by kernel_rfl) (by kernel_rfl) (by kernel_rfl) (by intro c a w h; exact h) (by rfl) ?ahy3 hHeld ?arest3
        case ahy3 => (intro w hSw; (try dsimp only at hSw); go_simp <;> with_reducible rfl)
        simp only [Act.put, List.setIfInBounds_toArray, List.set_cons_zero, List.set_cons_succ]
        refine takeL (i := 4) (v := ?av4) rfl (by kernel_rfl) (by kernel_rfl) (by kernel_rfl) (by intro c a w h; exact h) (by rfl) ?ahy4 hHeld ?arest4
        case ahy4 => (intro w hSw; (try dsimp only at hSw); go_simp <;> with_reducible rfl)
        simp only [Act.put, List.setIfInBounds_toArray, List.set_cons_zero, List.set_cons_succ]
        refine aloneL (i := 5) rfl (by kernel_rfl) (fun K hK => ?_)
        refine step_calls_w rfl 101 _ _ rfl #[.slice ap x.params.length cp, .slice tp g.params.length tcp] (by simp [Act.eval]) (Tryd.callEqI _ _) ((equal_any _ _ x.params g.params _ (HRP.out.gr (Gr.drew (Gr.refl _))) (HRT.out.gr (Gr.drew (Gr.refl _)))).mono ?_)
        rintro z w2 ⟨rfl, hg2⟩
        have HG2 := hide ((Gr.drew (Gr.refl W2)).trans hg2)
        clear hg2
        refine .inl ⟨_, rfl, ?_⟩
        refine hK.out _ _ (KS.out _ HG2.out) (fun hHeld => ?_)
        clear hK
        try simp only [Act.put, List.setIfInBounds_toArray, List.set_cons_zero, List.set_cons_succ]
        by_cases h1 : x.params = g.params
        · have ed : decide (x.params = g.params) = true := by simpa using h1
          rw [ed]
          clear ed
          refine takeL (i := 6) (v := ?bv6) rfl (by kernel_rfl) (by kernel_rfl) (by kernel_rfl) (by intro c a w h; exact h) (by rfl) ?bhy6 hHeld ?brest6
          case bhy6 => (intro w hSw; (try dsimp only at hSw); go_simp <;> with_reducible rfl)
          simp only [Act.put, List.setIfInBounds_toArray, List.set_cons_zero, List.set_cons_succ]
          refine takeL (i := 7) (v := ?bv7) rfl (by kernel_rfl) (by kernel_rfl) (by kernel_rfl) (by intro c a w h; exact h) (by rfl) ?bhy7 hHeld ?brest7
          case bhy7 => (intro w hSw; (try dsimp only at hSw); go_simp <;> with_reducible rfl)
          simp only [Act.put, List.setIfInBounds_toArray, List.set_cons_zero, List.set_cons_succ]
          refine takeL (i := 8) (v := ?bv8) rfl (by kernel_rfl) (by kernel_rfl) (by kernel_rfl) (by intro c a w h; exact h) (by rfl) ?bhy8 hHeld ?brest8
          case bhy8 => (intro w hSw; (try dsimp only at hSw); go_simp <;> with_reducible rfl)
          simp only [Act.put, List.setIfInBounds_toArray, List.set_cons_zero, List.set_cons_succ]
          refine takeL (i := 9) (v := ?bv9) rfl (by kernel_rfl) (by kernel_rfl) (by kernel_rfl) (by intro c a w h; exact h) (by rfl) ?bhy9 hHeld ?brest9
          case bhy9 => (intro w hSw; (try dsimp only at hSw); go_simp <;> with_reducible rfl)
          simp only [Act.put, List.setIfInBounds_toArray, List.set_cons_zero, List.set_cons_succ]
          refine takeL (i := 10) (v := ?bv10) rfl (by kernel_rfl) (by kernel_rfl) (by kernel_rfl) (by intro c a w h; exact h) (by rfl) ?bhy10 hHeld ?brest10
          case bhy10 => (intro w hSw; (try dsimp only at hSw); go_simp <;> with_reducible rfl)
          simp only [Act.put, List.setIfInBounds_toArray, List.set_cons_zero, List.set_cons_succ]
          by_cases h2 : x.result = g.result
          · have ed : (x.result == g.result) = true := by simpa using h2
            refine takeL (i := 11) (v := ?cv11) rfl (by kernel_rfl) (by kernel_rfl) (by kernel_rfl) (by intro c a w h; exact h) (by rfl) ?chy11 hHeld ?crest11
            case chy11 => (intro w hSw; (try dsimp only at hSw); go_simp <;> with_reducible rfl)
            simp only [Act.put, List.setIfInBounds_toArray, List.set_cons_zero, List.set_cons_succ]
            refine takeL (i := 12) (v := ?cv12) rfl (by kernel_rfl) (by kernel_rfl) (by kernel_rfl) (by intro c a w h; exact h) (by rfl) ?chy12 hHeld ?crest12
            case chy12 => (intro w hSw; (try dsimp only at hSw); go_simp <;> with_reducible rfl)
            simp only [Act.put, List.setIfInBounds_toArray, List.set_cons_zero, List.set_cons_succ]
            refine aloneL (i := 13) rfl (by kernel_rfl) (fun K hK => ?_)
            refine step_calls_w rfl 76 _ _ rfl #[.agg #[.int .i64 8, .int .i64 0, .int .i64 (k : Int)], .bool true] (by simp [Act.eval, ed]) (Tryd.callUnl _ _) ((unless_yes _ _ _).mono ?_)
            rintro z w3 ⟨rfl, hg3⟩
            have HG4 := hide (HG2.out.trans hg3)
            clear hg3
            refine .inl ⟨_, rfl, ?_⟩
            refine hK.out _ _ (KS.out _ HG4.out) (fun hHeld => ?_)
            clear hK
            try simp only [Act.put, List.setIfInBounds_toArray, List.set_cons_zero, List.set_cons_succ]
            refine wpAnyH_done (by kernel_rfl) ?_ _
            have HG3 := hide (HGR.out.trans (HGB.out.trans HG4.out))
            clear KS HGB HG4 HG2 HRP HRT hHeld
            go_wp2_with fail
            refine ⟨⟨j + 1, by simp, hlt, ?_, HG3.out⟩, by simp [intOf]; omega⟩
            intro m z hm hz
            by_cases e : m = j
            · subst e
              rw [HX.out] at hz; cases hz; rw [HN.out]; simp [h1, h2]
            · exact HA.out m z (by omega) hz
          · have ed : (x.result == g.result) = false := by simpa using h2
            refine takeL (i := 11) (v := ?dv11) rfl (by kernel_rfl) (by kernel_rfl) (by kernel_rfl) (by intro c a w h; exact h) (by rfl) ?dhy11 hHeld ?drest11
            case dhy11 => (intro w hSw; (try dsimp only at hSw); go_simp <;> with_reducible rfl)
            simp only [Act.put, List.setIfInBounds_toArray, List.set_cons_zero, List.set_cons_succ]
            refine takeL (i := 12) (v := ?dv12) rfl (by kernel_rfl) (by kernel_rfl) (by kernel_rfl) (by intro c a w h; exact h) (by rfl) ?dhy12 hHeld ?drest12
            case dhy12 => (intro w hSw; (try dsimp only at hSw); go_simp <;> with_reducible rfl)
            simp only [Act.put, List.setIfInBounds_toArray, List.set_cons_zero, List.set_cons_succ]
            refine aloneL (i := 13) rfl (by kernel_rfl) (fun K hK => ?_)
            refine step_calls_w rfl 76 _ _ rfl #[.agg #[.int .i64 8, .int .i64 0, .int .i64 (k : Int)], .bool false] (by simp [Act.eval, ed]) (Tryd.callUnl _ _) ((unless_no _ _ _).mono ?_)
            rintro z w3 ⟨rfl, hg3⟩
            refine .inr ⟨_, rfl, ?_⟩
            exact ⟨rfl, .inr ⟨any_at HX.out (by rw [HN.out]; simp [h1, h2]), rfl, HG.out.trans (HGV.out.trans (HGR.out.trans (HGB.out.trans (HG2.out.trans hg3))))⟩⟩
        · have ed : decide (x.params = g.params) = false := by simpa using h1
          rw [ed]
          clear ed
          refine takeL (i := 6) (v := ?ev6) rfl (by kernel_rfl) (by kernel_rfl) (by kernel_rfl) (by intro c a w h; exact h) (by rfl) ?ehy6 hHeld ?erest6
          case ehy6 => (intro w hSw; (try dsimp only at hSw); go_simp <;> with_reducible rfl)
          simp only [Act.put, List.setIfInBounds_toArray, List.set_cons_zero, List.set_cons_succ]
          refine skipL (i := 7) rfl (by kernel_rfl) (by kernel_rfl) (by kernel_rfl) (by intro c a w h; exact h) (by rfl) hHeld ?_
          simp only [Act.put, List.setIfInBounds_toArray, List.set_cons_zero, List.set_cons_succ]
          refine skipL (i := 8) rfl (by kernel_rfl) (by kernel_rfl) (by kernel_rfl) (by intro c a w h; exact h) (by rfl) hHeld ?_
          simp only [Act.put, List.setIfInBounds_toArray, List.set_cons_zero, List.set_cons_succ]
          refine skipL (i := 9) rfl (by kernel_rfl) (by kernel_rfl) (by kernel_rfl) (by intro c a w h; exact h) (by rfl) hHeld ?_
          simp only [Act.put, List.setIfInBounds_toArray, List.set_cons_zero, List.set_cons_succ]
          refine skipL (i := 10) rfl (by kernel_rfl) (by kernel_rfl) (by kernel_rfl) (by intro c a w h; exact h) (by rfl) hHeld ?_
          simp only [Act.put, List.setIfInBounds_toArray, List.set_cons_zero, List.set_cons_succ]
          refine skipL (i := 11) rfl (by kernel_rfl) (by kernel_rfl) (by kernel_rfl) (by intro c a w h; exact h) (by rfl) hHeld ?_
          simp only [Act.put, List.setIfInBounds_toArray, List.set_cons_zero, List.set_cons_succ]
          refine takeL (i := 12) (v := ?ev12) rfl (by kernel_rfl) (by kernel_rfl) (by kernel_rfl) (by intro c a w h; exact h) (by rfl) ?ehy12 hHeld ?erest12
          case ehy12 => (intro w hSw; (try dsimp only at hSw); go_simp <;> with_reducible rfl)
          simp only [Act.put, List.setIfInBounds_toArray, List.set_cons_zero, List.set_cons_succ]
          refine aloneL (i := 13) rfl (by kernel_rfl) (fun K hK => ?_)
          refine step_calls_w rfl 76 _ _ rfl #[.agg #[.int .i64 8, .int .i64 0, .int .i64 (k : Int)], .bool false] (by simp [Act.eval]) (Tryd.callUnl _ _) ((unless_no _ _ _).mono ?_)
          rintro z w3 ⟨rfl, hg3⟩
          refine .inr ⟨_, rfl, ?_⟩
          exact ⟨rfl, .inr ⟨any_at HX.out (by rw [HN.out]; simp [h1]), rfl, HG.out.trans (HGV.out.trans (HGR.out.trans (HGB.out.trans (HG2.out.trans hg3))))⟩⟩
    · have hjj : j = u.imports.length := by omega
      subst hjj
      clear hlt hj
      go_wp2_with fail
      go_end0
      refine .inl ⟨?_, rfl, HG.out.trans (HGV.out.trans HGR.out)⟩
      exact any_none (fun m x hm hx => by rw [HA.out m x hm hx]; rfl)
end Go.Proofs.YtkgncijcnlfhiaaDoor

