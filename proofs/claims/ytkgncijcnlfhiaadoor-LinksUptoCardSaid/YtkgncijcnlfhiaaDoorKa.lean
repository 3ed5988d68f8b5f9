import Derived.Test.YtkgncijcnlfhiaaDoorK9
namespace Go.Proofs.YtkgncijcnlfhiaaDoor
set_option linter.unusedVariables false
set_option linter.unusedSimpArgs false
open Go.RowKit
attribute [local go_sem ↓] Go.wp_at_zero Go.wp_at_succ
/-- the function that an import is of -/
def Hit (l : List PUnit) (i : PImp) (v : PUnit) (g : PFunc) : Prop := l[(expoL i.name 0 l (0, 0, 0)).2.1]? = some v ∧ ∃ f : Nat, (expoL i.name 0 l (0, 0, 0)).2.2 = (f : Int) ∧ v.funcs[f]? = some g
theorem Hit.same {l : List PUnit} {i : PImp} {v v' : PUnit} {g g' : PFunc} (h : Hit l i v g) (h' : Hit l i v' g') : v = v' ∧ g = g' := by
  obtain ⟨h1, f, h2, h3⟩ := h
  obtain ⟨k1, f', k2, k3⟩ := h'
  rw [h1] at k1
  obtain rfl := Option.some.inj k1
  have : f = f' := by have := h2.symm.trans k2; omega
  subst this
  rw [h3] at k3
  exact ⟨rfl, Option.some.inj k3⟩
theorem RUnit.funcAt {w : World} {v1 v2 v4 v5 : Value} {a3 : Option Addr} {c3 : Nat} {u : PUnit} (h : RUnit w (.agg #[v1, v2, .slice a3 u.funcs.length c3, v4, v5]) u) {i : Nat} {g : PFunc} (hg : u.funcs[i]? = some g) : ∃ fb fo pa pc, a3 = some ⟨fb, fo, none⟩ ∧ w.cell? ⟨fb, fo + i * 4, none⟩ = some (.slice pa g.params.length pc) ∧ RInts w (.slice pa g.params.length pc) g.params ∧ w.cell? ⟨fb, fo + i * 4 + 1, none⟩ = some (.int .i64 g.result) := by
  obtain ⟨y1, y2, y3, y4, y5, hv, k1, k2, k3, k4, k5⟩ := h
  simp only [Value.agg.injEq, Array.mk.injEq, List.cons.injEq, and_true] at hv
  obtain ⟨rfl, rfl, rfl, rfl, rfl⟩ := hv
  obtain ⟨ao, cp, hv, hm, hx⟩ := k3
  simp only [Value.slice.injEq, true_and] at hv
  obtain ⟨rfl, rfl⟩ := hv
  obtain ⟨fb, fo, vp, vl, vc, q1, q2, q3, q4, q5, q6, q7, q8⟩ := hx i g hg
  obtain ⟨pa, pc, rfl⟩ := q6.shape
  exact ⟨fb, fo, pa, pc, q1, q2, q6, q3⟩
theorem Tryd.callSi (vals : Array Value) (w : World) : (callFunc 109 vals).run Tryd.prog w = .ok (.enter 109 vals) w := by kernel_rfl
set_option maxRecDepth 100000 in
set_option maxHeartbeats 4000000 in
theorem refused_8 (l : List PUnit) (vl : Value) (k : Nat) (u : PUnit) (w : World) (hR : RUnits w vl l) (hu : l[k]? = some u) (hl : l.length ≤ 6) (hE : ∀ u ∈ l, u.exports.length ≤ 20) (hI : u.imports.length ≤ 20) (hF : ∀ i ∈ u.imports, ∃ v g, Hit l i v g) (hf30 : ∀ u ∈ l, u.funcs.length ≤ 30) :
    Calls Tryd.prog 49 #[vl, .int .i64 (k : Int), .int .i64 8] w (RefR (∃ i ∈ u.imports, ∃ v g, Hit l i v g ∧ ¬ (g.params = i.params ∧ g.result = i.result)) w) := by
  have hkl : k < l.length := (List.getElem?_eq_some_iff.1 hu).1
  obtain ⟨b, off, cap, a1, c1, a2, c2, a3, c3, a4, c4, a5, c5, rfl, x1, x2, x3, x4, x5, hr⟩ := hR.at_all hu
  have hd0 : (0 : Int) ≤ (k : Int) := by omega
  have hd1 : (k : Int) < (l.length : Int) := by omega
  have HR := hide hr
  have HRl := hide hR
  have HG := hide ((Gr.refl w).alloc (.cells #[.slice a1 u.shapes.length c1, .slice a2 u.consts.length c2, .slice a3 u.funcs.length c3, .slice a4 u.imports.length c4, .slice a5 u.exports.length c5] 28))
  have HBX := hide (heap_alloc_new w (.cells #[.slice a1 u.shapes.length c1, .slice a2 u.consts.length c2, .slice a3 u.funcs.length c3, .slice a4 u.imports.length c4, .slice a5 u.exports.length c5] 28))
  clear hr hR
  have HF := hide hF
  clear hF
  go_enter Tryd.func49, Tryd.ntmps49
  go_upto_region 17 with fail
  obtain ⟨e0, e1, e2, e3, e4⟩ := heap_box5 HBX.out
  generalize (w.alloc (.cells #[.slice a1 u.shapes.length c1, .slice a2 u.consts.length c2, .slice a3 u.funcs.length c3, .slice a4 u.imports.length c4, .slice a5 u.exports.length c5] 28)) = W at HG HBX e0 e1 e2 e3 e4 ⊢
  have HE3 := hide e3
  clear e0 e1 e2 e3 e4 x1 x2 x3 x4 x5
  go_wp2_with fail
  go_loopw [14] (fun iv wr => ∃ i : Nat, i ≤ u.imports.length ∧ iv = .int .i64 (i : Int) ∧ Hid (∀ j e, j < i → u.imports[j]? = some e → ∀ v g, Hit l e v g → g.params = e.params ∧ g.result = e.result) ∧ Hid (Gr W wr)) (fun iv _ => u.imports.length - (intOf iv).toNat)
  case atStart => exact ⟨0, Nat.zero_le _, rfl, hide (fun j e hj => by omega), hide (Gr.refl W)⟩
  case round =>
    obtain ⟨i, hi, rfl, HN, HGr⟩ := hrel
    have e3 := HGr.out.cell HE3.out (by simp)
    by_cases hlt : i < u.imports.length
    · obtain ⟨e, he⟩ : ∃ e, u.imports[i]? = some e := ⟨_, List.getElem?_eq_getElem hlt⟩
      have HGw := hide (HG.out.trans HGr.out)
      obtain ⟨xb, xo, s, qa, qc, rfl, hx0, hxs, hx1, hqr, hx2⟩ := (HR.out.gr HGw.out).impAt he
      have hi0 : (0 : Int) ≤ (i : Int) := by omega
      have hi1 : (i : Int) < (u.imports.length : Int) := by omega
      have HE := hide he
      obtain ⟨v, g, hit⟩ := HF.out e (List.mem_of_getElem? he)
      have HIT := hide hit
      have HC := hide (exported_ref l _ s l.length 0 wr (HRl.out.gr HGw.out) (by omega) (by omega) (by omega) hE)
      rw [hxs, expoK_all _ _ _ _ _ (by omega)] at HC
      obtain ⟨hl1, f, hf1, hg1⟩ := hit
      have hal : (expoL e.name 0 l (0, 0, 0)).2.1 < l.length := (List.getElem?_eq_some_iff.1 hl1).1
      obtain ⟨b', off', cap', _, _, _, _, a3', fc, _, _, _, _, hv, _, _, y3, _, _, hrv⟩ := (HRl.out.gr HGw.out).at_all hl1
      simp only [Value.slice.injEq, Option.some.injEq, Addr.mk.injEq, and_true, true_and] at hv
      obtain ⟨⟨rfl, rfl⟩, rfl⟩ := hv
      obtain ⟨fb, fo, pa, pc, rfl, hp0, hpr, hp1⟩ := hrv.funcAt hg1
      have hfl : f < v.funcs.length := (List.getElem?_eq_some_iff.1 hg1).1
      have hvl := hf30 v (List.mem_of_getElem? hl1)
      rw [hf1] at HC
      generalize (expoL e.name 0 l (0, 0, 0)).2.1 = a at HC hal y3
      generalize (expoL e.name 0 l (0, 0, 0)).1 = nn at HC
      have ha0 : (0 : Int) ≤ (a : Int) := by omega
      have ha1 : (a : Int) < (l.length : Int) := by omega
      have hf0 : (0 : Int) ≤ (f : Int) := by omega
      have hf2 : (f : Int) < (v.funcs.length : Int) := by omega
      have KS : Hid (∀ w', Gr wr w' → (fun w' : World => w'.cell? ⟨b, off + a * 5 + 2, none⟩ = some (.slice (some ⟨fb, fo, none⟩) v.funcs.length fc) ∧ w'.cell? ⟨fb, fo + f * 4, none⟩ = some (.slice pa g.params.length pc) ∧ w'.cell? ⟨w.heap.size, 3, none⟩ = some (.slice (some ⟨xb, xo, none⟩) u.imports.length c4) ∧ w'.cell? ⟨xb, xo + i * 3 + 1, none⟩ = some (.slice qa e.params.length qc) ∧ w'.cell? ⟨fb, fo + f * 4 + 1, none⟩ = some (.int .i64 g.result) ∧ w'.cell? ⟨xb, xo + i * 3 + 2, none⟩ = some (.int .i64 e.result)) w') := hide (fun w' g => ⟨g.cell y3 (by simp), g.cell hp0 (by simp), g.cell e3 (by simp), g.cell hx1 (by simp), g.cell hp1 (by simp), g.cell hx2 (by simp)⟩)
      have HP0 := hide hpr
      have HQ0 := hide hqr
      clear he hxs hl1 hf1 hg1 hrv hpr hqr
      go_wp2_with fail
      refine HC.out.mono ?_
      rintro x w1 ⟨rfl, hw1⟩
      obtain rfl := hw1.symm
      clear HC hx0 hx1 hx2 y3 hp0 hp1 e3
      go_wp2_with fail
      refine wp_region_held_drew (S := (fun w' : World => w'.cell? ⟨b, off + a * 5 + 2, none⟩ = some (.slice (some ⟨fb, fo, none⟩) v.funcs.length fc) ∧ w'.cell? ⟨fb, fo + f * 4, none⟩ = some (.slice pa g.params.length pc) ∧ w'.cell? ⟨w.heap.size, 3, none⟩ = some (.slice (some ⟨xb, xo, none⟩) u.imports.length c4) ∧ w'.cell? ⟨xb, xo + i * 3 + 1, none⟩ = some (.slice qa e.params.length qc) ∧ w'.cell? ⟨fb, fo + f * 4 + 1, none⟩ = some (.int .i64 g.result) ∧ w'.cell? ⟨xb, xo + i * 3 + 2, none⟩ = some (.int .i64 e.result))) (by kernel_rfl) (KS.out _ (Gr.drew (Gr.refl _))) (fun hHeld => ?_)
      refine takeL (i := 0) (v := ?sv0) rfl (by kernel_rfl) (by kernel_rfl) (by kernel_rfl) (by intro c a w h; exact h) (by rfl) ?shy0 hHeld ?srest0
      case shy0 => (intro w hSw; (try dsimp only at hSw); go_simp <;> with_reducible rfl)
      simp only [Act.put, List.setIfInBounds_toArray, List.set_cons_zero, List.set_cons_succ]
      refine takeL (i := 1) (v := ?sv1) rfl (by kernel_rfl) (by kernel_rfl) (by kernel_rfl) (by intro c a w h; exact h) (by rfl) ?shy1 hHeld ?srest1
      case shy1 => (intro w hSw; (try dsimp only at hSw); go_simp <;> with_reducible rfl)
      simp only [Act.put, List.setIfInBounds_toArray, List.set_cons_zero, List.set_cons_succ]
      refine takeL (i := 2) (v := ?sv2) rfl (by kernel_rfl) (by kernel_rfl) (by kernel_rfl) (by intro c a w h; exact h) (by rfl) ?shy2 hHeld ?srest2
      case shy2 => (intro w hSw; (try dsimp only at hSw); go_simp <;> with_reducible rfl)
      simp only [Act.put, List.setIfInBounds_toArray, List.set_cons_zero, List.set_cons_succ]
      refine takeL (i := 3) (v := ?sv3) rfl (by kernel_rfl) (by kernel_rfl) (by kernel_rfl) (by intro c a w h; exact h) (by rfl) ?shy3 hHeld ?srest3
      case shy3 => (intro w hSw; (try dsimp only at hSw); go_simp <;> with_reducible rfl)
      simp only [Act.put, List.setIfInBounds_toArray, List.set_cons_zero, List.set_cons_succ]
      refine takeL (i := 4) (v := ?sv4) rfl (by kernel_rfl) (by kernel_rfl) (by kernel_rfl) (by intro c a w h; exact h) (by rfl) ?shy4 hHeld ?srest4
      case shy4 => (intro w hSw; (try dsimp only at hSw); go_simp <;> with_reducible rfl)
      simp only [Act.put, List.setIfInBounds_toArray, List.set_cons_zero, List.set_cons_succ]
      refine takeL (i := 5) (v := ?sv5) rfl (by kernel_rfl) (by kernel_rfl) (by kernel_rfl) (by intro c a w h; exact h) (by rfl) ?shy5 hHeld ?srest5
      case shy5 => (intro w hSw; (try dsimp only at hSw); go_simp <;> with_reducible rfl)
      simp only [Act.put, List.setIfInBounds_toArray, List.set_cons_zero, List.set_cons_succ]
      refine takeL (i := 6) (v := ?sv6) rfl (by kernel_rfl) (by kernel_rfl) (by kernel_rfl) (by intro c a w h; exact h) (by rfl) ?shy6 hHeld ?srest6
      case shy6 => (intro w hSw; (try dsimp only at hSw); go_simp <;> with_reducible rfl)
      simp only [Act.put, List.setIfInBounds_toArray, List.set_cons_zero, List.set_cons_succ]
      refine takeL (i := 7) (v := ?sv7) rfl (by kernel_rfl) (by kernel_rfl) (by kernel_rfl) (by intro c a w h; exact h) (by rfl) ?shy7 hHeld ?srest7
      case shy7 => (intro w hSw; (try dsimp only at hSw); go_simp <;> with_reducible rfl)
      simp only [Act.put, List.setIfInBounds_toArray, List.set_cons_zero, List.set_cons_succ]
      refine takeL (i := 8) (v := ?sv8) rfl (by kernel_rfl) (by kernel_rfl) (by kernel_rfl) (by intro c a w h; exact h) (by rfl) ?shy8 hHeld ?srest8
      case shy8 => (intro w hSw; (try dsimp only at hSw); go_simp <;> with_reducible rfl)
      simp only [Act.put, List.setIfInBounds_toArray, List.set_cons_zero, List.set_cons_succ]
      refine takeL (i := 9) (v := ?sv9) rfl (by kernel_rfl) (by kernel_rfl) (by kernel_rfl) (by intro c a w h; exact h) (by rfl) ?shy9 hHeld ?srest9
      case shy9 => (intro w hSw; (try dsimp only at hSw); go_simp <;> with_reducible rfl)
      simp only [Act.put, List.setIfInBounds_toArray, List.set_cons_zero, List.set_cons_succ]
      refine takeL (i := 10) (v := ?sv10) rfl (by kernel_rfl) (by kernel_rfl) (by kernel_rfl) (by intro c a w h; exact h) (by rfl) ?shy10 hHeld ?srest10
      case shy10 => (intro w hSw; (try dsimp only at hSw); go_simp <;> with_reducible rfl)
      simp only [Act.put, List.setIfInBounds_toArray, List.set_cons_zero, List.set_cons_succ]
      refine takeL (i := 11) (v := ?sv11) rfl (by kernel_rfl) (by kernel_rfl) (by kernel_rfl) (by intro c a w h; exact h) (by rfl) ?shy11 hHeld ?srest11
      case shy11 => (intro w hSw; (try dsimp only at hSw); go_simp <;> with_reducible rfl)
      simp only [Act.put, List.setIfInBounds_toArray, List.set_cons_zero, List.set_cons_succ]
      refine takeL (i := 12) (v := ?sv12) rfl (by kernel_rfl) (by kernel_rfl) (by kernel_rfl) (by intro c a w h; exact h) (by rfl) ?shy12 hHeld ?srest12
      case shy12 => (intro w hSw; (try dsimp only at hSw); go_simp <;> with_reducible rfl)
      simp only [Act.put, List.setIfInBounds_toArray, List.set_cons_zero, List.set_cons_succ]
      refine takeL (i := 13) (v := ?sv13) rfl (by kernel_rfl) (by kernel_rfl) (by kernel_rfl) (by intro c a w h; exact h) (by rfl) ?shy13 hHeld ?srest13
      case shy13 => (intro w hSw; (try dsimp only at hSw); go_simp <;> with_reducible rfl)
      simp only [Act.put, List.setIfInBounds_toArray, List.set_cons_zero, List.set_cons_succ]
      refine takeL (i := 14) (v := ?sv14) rfl (by kernel_rfl) (by kernel_rfl) (by kernel_rfl) (by intro c a w h; exact h) (by rfl) ?shy14 hHeld ?srest14
      case shy14 => (intro w hSw; (try dsimp only at hSw); go_simp <;> with_reducible rfl)
      simp only [Act.put, List.setIfInBounds_toArray, List.set_cons_zero, List.set_cons_succ]
      refine aloneL (i := 15) rfl (by kernel_rfl) (fun K hK => ?_)
      refine step_calls_w rfl 109 _ _ rfl #[.slice pa g.params.length pc, .slice qa e.params.length qc] (by simp [Act.eval]) (Tryd.callSi _ _) ((ref_same_ints _ _ g.params e.params _ (HP0.out.gr (Gr.drew (Gr.refl _))) (HQ0.out.gr (Gr.drew (Gr.refl _)))).mono ?_)
      rintro x w2 ⟨rfl, hg2⟩
      have HG2 := hide ((Gr.drew (Gr.refl wr)).trans hg2)
      refine .inl ⟨_, rfl, ?_⟩
      refine hK.out _ _ (KS.out _ HG2.out) (fun hHeld => ?_)
      clear hK
      try simp only [Act.put, List.setIfInBounds_toArray, List.set_cons_zero, List.set_cons_succ]
      refine takeL (i := 16) (v := ?tv16) rfl (by kernel_rfl) (by kernel_rfl) (by kernel_rfl) (by intro c a w h; exact h) (by rfl) ?thy16 hHeld ?trest16
      case thy16 => (intro w hSw; (try dsimp only at hSw); go_simp <;> with_reducible rfl)
      simp only [Act.put, List.setIfInBounds_toArray, List.set_cons_zero, List.set_cons_succ]
      refine wpAnyH_done (by kernel_rfl) ?_ _
      clear hHeld hg2
      have HG3 := hide (HGr.out.trans HG2.out)
      by_cases hpp : g.params = e.params
      · have hpd : decide (g.params = e.params) = true := decide_eq_true hpp
        rw [hpd]
        have HPP := hide hpp
        clear hpp hpd
        by_cases hrr : g.result = e.result
        · have HN2 : Hid (∀ j e, j < i + 1 → u.imports[j]? = some e → ∀ v g, Hit l e v g → g.params = e.params ∧ g.result = e.result) := hide (fun j e' hj he' v' g' ht => by
            by_cases e0 : j = i
            · subst e0
              rw [HE.out] at he'
              obtain rfl := Option.some.inj he'
              obtain ⟨rfl, rfl⟩ := HIT.out.same ht
              exact ⟨HPP.out, hrr⟩
            · exact HN.out j e' (by omega) he' v' g' ht)
          rw [hrr] at KS
          go_wp2_with fail
          refine wp_region_held_drew (S := (fun w' : World => w'.cell? ⟨b, off + a * 5 + 2, none⟩ = some (.slice (some ⟨fb, fo, none⟩) v.funcs.length fc) ∧ w'.cell? ⟨fb, fo + f * 4, none⟩ = some (.slice pa g.params.length pc) ∧ w'.cell? ⟨w.heap.size, 3, none⟩ = some (.slice (some ⟨xb, xo, none⟩) u.imports.length c4) ∧ w'.cell? ⟨xb, xo + i * 3 + 1, none⟩ = some (.slice qa e.params.length qc) ∧ w'.cell? ⟨fb, fo + f * 4 + 1, none⟩ = some (.int .i64 e.result) ∧ w'.cell? ⟨xb, xo + i * 3 + 2, none⟩ = some (.int .i64 e.result))) (by kernel_rfl) (KS.out _ (HG2.out.trans (Gr.drew (Gr.refl _)))) (fun hHeld => ?_)
          refine takeL (i := 0) (v := ?yv0) rfl (by kernel_rfl) (by kernel_rfl) (by kernel_rfl) (by intro c a w h; exact h) (by rfl) ?yhy0 hHeld ?yrest0
          case yhy0 => (intro w hSw; (try dsimp only at hSw); go_simp <;> with_reducible rfl)
          simp only [Act.put, List.setIfInBounds_toArray, List.set_cons_zero, List.set_cons_succ]
          refine takeL (i := 1) (v := ?yv1) rfl (by kernel_rfl) (by kernel_rfl) (by kernel_rfl) (by intro c a w h; exact h) (by rfl) ?yhy1 hHeld ?yrest1
          case yhy1 => (intro w hSw; (try dsimp only at hSw); go_simp <;> with_reducible rfl)
          simp only [Act.put, List.setIfInBounds_toArray, List.set_cons_zero, List.set_cons_succ]
          refine takeL (i := 2) (v := ?yv2) rfl (by kernel_rfl) (by kernel_rfl) (by kernel_rfl) (by intro c a w h; exact h) (by rfl) ?yhy2 hHeld ?yrest2
          case yhy2 => (intro w hSw; (try dsimp only at hSw); go_simp <;> with_reducible rfl)
          simp only [Act.put, List.setIfInBounds_toArray, List.set_cons_zero, List.set_cons_succ]
          refine takeL (i := 3) (v := ?yv3) rfl (by kernel_rfl) (by kernel_rfl) (by kernel_rfl) (by intro c a w h; exact h) (by rfl) ?yhy3 hHeld ?yrest3
          case yhy3 => (intro w hSw; (try dsimp only at hSw); go_simp <;> with_reducible rfl)
          simp only [Act.put, List.setIfInBounds_toArray, List.set_cons_zero, List.set_cons_succ]
          refine takeL (i := 4) (v := ?yv4) rfl (by kernel_rfl) (by kernel_rfl) (by kernel_rfl) (by intro c a w h; exact h) (by rfl) ?yhy4 hHeld ?yrest4
          case yhy4 => (intro w hSw; (try dsimp only at hSw); go_simp <;> with_reducible rfl)
          simp only [Act.put, List.setIfInBounds_toArray, List.set_cons_zero, List.set_cons_succ]
          refine takeL (i := 5) (v := ?yv5) rfl (by kernel_rfl) (by kernel_rfl) (by kernel_rfl) (by intro c a w h; exact h) (by rfl) ?yhy5 hHeld ?yrest5
          case yhy5 => (intro w hSw; (try dsimp only at hSw); go_simp <;> with_reducible rfl)
          simp only [Act.put, List.setIfInBounds_toArray, List.set_cons_zero, List.set_cons_succ]
          refine takeL (i := 6) (v := ?yv6) rfl (by kernel_rfl) (by kernel_rfl) (by kernel_rfl) (by intro c a w h; exact h) (by rfl) ?yhy6 hHeld ?yrest6
          case yhy6 => (intro w hSw; (try dsimp only at hSw); go_simp <;> with_reducible rfl)
          simp only [Act.put, List.setIfInBounds_toArray, List.set_cons_zero, List.set_cons_succ]
          refine takeL (i := 7) (v := ?yv7) rfl (by kernel_rfl) (by kernel_rfl) (by kernel_rfl) (by intro c a w h; exact h) (by rfl) ?yhy7 hHeld ?yrest7
          case yhy7 => (intro w hSw; (try dsimp only at hSw); go_simp <;> with_reducible rfl)
          simp only [Act.put, List.setIfInBounds_toArray, List.set_cons_zero, List.set_cons_succ]
          refine takeL (i := 8) (v := ?yv8) rfl (by kernel_rfl) (by kernel_rfl) (by kernel_rfl) (by intro c a w h; exact h) (by rfl) ?yhy8 hHeld ?yrest8
          case yhy8 => (intro w hSw; (try dsimp only at hSw); go_simp <;> with_reducible rfl)
          simp only [Act.put, List.setIfInBounds_toArray, List.set_cons_zero, List.set_cons_succ]
          refine takeL (i := 9) (v := ?yv9) rfl (by kernel_rfl) (by kernel_rfl) (by kernel_rfl) (by intro c a w h; exact h) (by rfl) ?yhy9 hHeld ?yrest9
          case yhy9 => (intro w hSw; (try dsimp only at hSw); go_simp <;> with_reducible rfl)
          simp only [Act.put, List.setIfInBounds_toArray, List.set_cons_zero, List.set_cons_succ]
          refine takeL (i := 10) (v := ?yv10) rfl (by kernel_rfl) (by kernel_rfl) (by kernel_rfl) (by intro c a w h; exact h) (by rfl) ?yhy10 hHeld ?yrest10
          case yhy10 => (intro w hSw; (try dsimp only at hSw); go_simp <;> with_reducible rfl)
          simp only [Act.put, List.setIfInBounds_toArray, List.set_cons_zero, List.set_cons_succ]
          refine takeL (i := 11) (v := ?yv11) rfl (by kernel_rfl) (by kernel_rfl) (by kernel_rfl) (by intro c a w h; exact h) (by rfl) ?yhy11 hHeld ?yrest11
          case yhy11 => (intro w hSw; (try dsimp only at hSw); go_simp <;> with_reducible rfl)
          simp only [Act.put, List.setIfInBounds_toArray, List.set_cons_zero, List.set_cons_succ]
          refine takeL (i := 12) (v := ?yv12) rfl (by kernel_rfl) (by kernel_rfl) (by kernel_rfl) (by intro c a w h; exact h) (by rfl) ?yhy12 hHeld ?yrest12
          case yhy12 => (intro w hSw; (try dsimp only at hSw); go_simp <;> with_reducible rfl)
          simp only [Act.put, List.setIfInBounds_toArray, List.set_cons_zero, List.set_cons_succ]
          refine takeL (i := 13) (v := ?yv13) rfl (by kernel_rfl) (by kernel_rfl) (by kernel_rfl) (by intro c a w h; exact h) (by rfl) ?yhy13 hHeld ?yrest13
          case yhy13 => (intro w hSw; (try dsimp only at hSw); go_simp <;> with_reducible rfl)
          simp only [Act.put, List.setIfInBounds_toArray, List.set_cons_zero, List.set_cons_succ]
          refine takeL (i := 14) (v := ?yv14) rfl (by kernel_rfl) (by kernel_rfl) (by kernel_rfl) (by intro c a w h; exact h) (by rfl) ?yhy14 hHeld ?yrest14
          case yhy14 => (intro w hSw; (try dsimp only at hSw); go_simp <;> with_reducible rfl)
          simp only [Act.put, List.setIfInBounds_toArray, List.set_cons_zero, List.set_cons_succ]
          refine takeL (i := 15) (v := ?yv15) rfl (by kernel_rfl) (by kernel_rfl) (by kernel_rfl) (by intro c a w h; exact h) (by rfl) ?yhy15 hHeld ?yrest15
          case yhy15 => (intro w hSw; (try dsimp only at hSw); go_simp <;> with_reducible rfl)
          simp only [Act.put, List.setIfInBounds_toArray, List.set_cons_zero, List.set_cons_succ]
          refine takeL (i := 16) (v := ?yv16) rfl (by kernel_rfl) (by kernel_rfl) (by kernel_rfl) (by intro c a w h; exact h) (by rfl) ?yhy16 hHeld ?yrest16
          case yhy16 => (intro w hSw; (try dsimp only at hSw); go_simp <;> with_reducible rfl)
          simp only [Act.put, List.setIfInBounds_toArray, List.set_cons_zero, List.set_cons_succ]
          refine takeL (i := 17) (v := ?yv17) rfl (by kernel_rfl) (by kernel_rfl) (by kernel_rfl) (by intro c a w h; exact h) (by rfl) ?yhy17 hHeld ?yrest17
          case yhy17 => (intro w hSw; (try dsimp only at hSw); go_simp <;> with_reducible rfl)
          simp only [Act.put, List.setIfInBounds_toArray, List.set_cons_zero, List.set_cons_succ]
          refine takeL (i := 18) (v := ?yv18) rfl (by kernel_rfl) (by kernel_rfl) (by kernel_rfl) (by intro c a w h; exact h) (by rfl) ?yhy18 hHeld ?yrest18
          case yhy18 => (intro w hSw; (try dsimp only at hSw); go_simp <;> with_reducible rfl)
          simp only [Act.put, List.setIfInBounds_toArray, List.set_cons_zero, List.set_cons_succ]
          refine takeL (i := 19) (v := ?yv19) rfl (by kernel_rfl) (by kernel_rfl) (by kernel_rfl) (by intro c a w h; exact h) (by rfl) ?yhy19 hHeld ?yrest19
          case yhy19 => (intro w hSw; (try dsimp only at hSw); go_simp <;> with_reducible rfl)
          simp only [Act.put, List.setIfInBounds_toArray, List.set_cons_zero, List.set_cons_succ]
          refine wpAnyH_done (by kernel_rfl) ?_ _
          clear hHeld KS
          go_wp2_with fail
          go_roundw
          case rel => exact ⟨i + 1, by omega, by go_num, HN2, hide (HG3.out.trans (Gr.drew (Gr.refl _)))⟩
          case measure => simp [intOf]; omega
        · have HP : Hid (∃ i ∈ u.imports, ∃ v g, Hit l i v g ∧ ¬ (g.params = i.params ∧ g.result = i.result)) := hide ⟨e, List.mem_of_getElem? HE.out, v, g, HIT.out, fun h => hrr h.2⟩
          have hrb : (g.result != e.result) = true := by simp [hrr]
          clear hrr
          go_wp2_with fail
          refine wp_region_held_drew (S := (fun w' : World => w'.cell? ⟨b, off + a * 5 + 2, none⟩ = some (.slice (some ⟨fb, fo, none⟩) v.funcs.length fc) ∧ w'.cell? ⟨fb, fo + f * 4, none⟩ = some (.slice pa g.params.length pc) ∧ w'.cell? ⟨w.heap.size, 3, none⟩ = some (.slice (some ⟨xb, xo, none⟩) u.imports.length c4) ∧ w'.cell? ⟨xb, xo + i * 3 + 1, none⟩ = some (.slice qa e.params.length qc) ∧ w'.cell? ⟨fb, fo + f * 4 + 1, none⟩ = some (.int .i64 g.result) ∧ w'.cell? ⟨xb, xo + i * 3 + 2, none⟩ = some (.int .i64 e.result))) (by kernel_rfl) (KS.out _ (HG2.out.trans (Gr.drew (Gr.refl _)))) (fun hHeld => ?_)
          refine takeL (i := 0) (v := ?zv0) rfl (by kernel_rfl) (by kernel_rfl) (by kernel_rfl) (by intro c a w h; exact h) (by rfl) ?zhy0 hHeld ?zrest0
          case zhy0 => (intro w hSw; (try dsimp only at hSw); go_simp <;> with_reducible rfl)
          simp only [Act.put, List.setIfInBounds_toArray, List.set_cons_zero, List.set_cons_succ]
          refine takeL (i := 1) (v := ?zv1) rfl (by kernel_rfl) (by kernel_rfl) (by kernel_rfl) (by intro c a w h; exact h) (by rfl) ?zhy1 hHeld ?zrest1
          case zhy1 => (intro w hSw; (try dsimp only at hSw); go_simp <;> with_reducible rfl)
          simp only [Act.put, List.setIfInBounds_toArray, List.set_cons_zero, List.set_cons_succ]
          refine takeL (i := 2) (v := ?zv2) rfl (by kernel_rfl) (by kernel_rfl) (by kernel_rfl) (by intro c a w h; exact h) (by rfl) ?zhy2 hHeld ?zrest2
          case zhy2 => (intro w hSw; (try dsimp only at hSw); go_simp <;> with_reducible rfl)
          simp only [Act.put, List.setIfInBounds_toArray, List.set_cons_zero, List.set_cons_succ]
          refine takeL (i := 3) (v := ?zv3) rfl (by kernel_rfl) (by kernel_rfl) (by kernel_rfl) (by intro c a w h; exact h) (by rfl) ?zhy3 hHeld ?zrest3
          case zhy3 => (intro w hSw; (try dsimp only at hSw); go_simp <;> with_reducible rfl)
          simp only [Act.put, List.setIfInBounds_toArray, List.set_cons_zero, List.set_cons_succ]
          refine takeL (i := 4) (v := ?zv4) rfl (by kernel_rfl) (by kernel_rfl) (by kernel_rfl) (by intro c a w h; exact h) (by rfl) ?zhy4 hHeld ?zrest4
          case zhy4 => (intro w hSw; (try dsimp only at hSw); go_simp <;> with_reducible rfl)
          simp only [Act.put, List.setIfInBounds_toArray, List.set_cons_zero, List.set_cons_succ]
          refine takeL (i := 5) (v := ?zv5) rfl (by kernel_rfl) (by kernel_rfl) (by kernel_rfl) (by intro c a w h; exact h) (by rfl) ?zhy5 hHeld ?zrest5
          case zhy5 => (intro w hSw; (try dsimp only at hSw); go_simp <;> with_reducible rfl)
          simp only [Act.put, List.setIfInBounds_toArray, List.set_cons_zero, List.set_cons_succ]
          refine takeL (i := 6) (v := ?zv6) rfl (by kernel_rfl) (by kernel_rfl) (by kernel_rfl) (by intro c a w h; exact h) (by rfl) ?zhy6 hHeld ?zrest6
          case zhy6 => (intro w hSw; (try dsimp only at hSw); go_simp <;> with_reducible rfl)
          simp only [Act.put, List.setIfInBounds_toArray, List.set_cons_zero, List.set_cons_succ]
          refine takeL (i := 7) (v := ?zv7) rfl (by kernel_rfl) (by kernel_rfl) (by kernel_rfl) (by intro c a w h; exact h) (by rfl) ?zhy7 hHeld ?zrest7
          case zhy7 => (intro w hSw; (try dsimp only at hSw); go_simp <;> with_reducible rfl)
          simp only [Act.put, List.setIfInBounds_toArray, List.set_cons_zero, List.set_cons_succ]
          refine takeL (i := 8) (v := ?zv8) rfl (by kernel_rfl) (by kernel_rfl) (by kernel_rfl) (by intro c a w h; exact h) (by rfl) ?zhy8 hHeld ?zrest8
          case zhy8 => (intro w hSw; (try dsimp only at hSw); go_simp <;> with_reducible rfl)
          simp only [Act.put, List.setIfInBounds_toArray, List.set_cons_zero, List.set_cons_succ]
          refine takeL (i := 9) (v := ?zv9) rfl (by kernel_rfl) (by kernel_rfl) (by kernel_rfl) (by intro c a w h; exact h) (by rfl) ?zhy9 hHeld ?zrest9
          case zhy9 => (intro w hSw; (try dsimp only at hSw); go_simp <;> with_reducible rfl)
          simp only [Act.put, List.setIfInBounds_toArray, List.set_cons_zero, List.set_cons_succ]
          refine takeL (i := 10) (v := ?zv10) rfl (by kernel_rfl) (by kernel_rfl) (by kernel_rfl) (by intro c a w h; exact h) (by rfl) ?zhy10 hHeld ?zrest10
          case zhy10 => (intro w hSw; (try dsimp only at hSw); go_simp <;> with_reducible rfl)
          simp only [Act.put, List.setIfInBounds_toArray, List.set_cons_zero, List.set_cons_succ]
          refine takeL (i := 11) (v := ?zv11) rfl (by kernel_rfl) (by kernel_rfl) (by kernel_rfl) (by intro c a w h; exact h) (by rfl) ?zhy11 hHeld ?zrest11
          case zhy11 => (intro w hSw; (try dsimp only at hSw); go_simp <;> with_reducible rfl)
          simp only [Act.put, List.setIfInBounds_toArray, List.set_cons_zero, List.set_cons_succ]
          refine takeL (i := 12) (v := ?zv12) rfl (by kernel_rfl) (by kernel_rfl) (by kernel_rfl) (by intro c a w h; exact h) (by rfl) ?zhy12 hHeld ?zrest12
          case zhy12 => (intro w hSw; (try dsimp only at hSw); go_simp <;> with_reducible rfl)
          simp only [Act.put, List.setIfInBounds_toArray, List.set_cons_zero, List.set_cons_succ]
          refine takeL (i := 13) (v := ?zv13) rfl (by kernel_rfl) (by kernel_rfl) (by kernel_rfl) (by intro c a w h; exact h) (by rfl) ?zhy13 hHeld ?zrest13
          case zhy13 => (intro w hSw; (try dsimp only at hSw); go_simp <;> with_reducible rfl)
          simp only [Act.put, List.setIfInBounds_toArray, List.set_cons_zero, List.set_cons_succ]
          refine takeL (i := 14) (v := ?zv14) rfl (by kernel_rfl) (by kernel_rfl) (by kernel_rfl) (by intro c a w h; exact h) (by rfl) ?zhy14 hHeld ?zrest14
          case zhy14 => (intro w hSw; (try dsimp only at hSw); go_simp <;> with_reducible rfl)
          simp only [Act.put, List.setIfInBounds_toArray, List.set_cons_zero, List.set_cons_succ]
          refine takeL (i := 15) (v := ?zv15) rfl (by kernel_rfl) (by kernel_rfl) (by kernel_rfl) (by intro c a w h; exact h) (by rfl) ?zhy15 hHeld ?zrest15
          case zhy15 => (intro w hSw; (try dsimp only at hSw); go_simp <;> with_reducible rfl)
          simp only [Act.put, List.setIfInBounds_toArray, List.set_cons_zero, List.set_cons_succ]
          refine takeL (i := 16) (v := ?zv16) rfl (by kernel_rfl) (by kernel_rfl) (by kernel_rfl) (by intro c a w h; exact h) (by rfl) ?zhy16 hHeld ?zrest16
          case zhy16 => (intro w hSw; (try dsimp only at hSw); go_simp <;> with_reducible rfl)
          simp only [Act.put, List.setIfInBounds_toArray, List.set_cons_zero, List.set_cons_succ]
          refine takeL (i := 17) (v := ?zv17) rfl (by kernel_rfl) (by kernel_rfl) (by kernel_rfl) (by intro c a w h; exact h) (by rfl) ?zhy17 hHeld ?zrest17
          case zhy17 => (intro w hSw; (try dsimp only at hSw); go_simp <;> with_reducible rfl)
          simp only [Act.put, List.setIfInBounds_toArray, List.set_cons_zero, List.set_cons_succ]
          refine takeL (i := 18) (v := ?zv18) rfl (by kernel_rfl) (by kernel_rfl) (by kernel_rfl) (by intro c a w h; exact h) (by rfl) ?zhy18 hHeld ?zrest18
          case zhy18 => (intro w hSw; (try dsimp only at hSw); go_simp <;> with_reducible rfl)
          simp only [Act.put, List.setIfInBounds_toArray, List.set_cons_zero, List.set_cons_succ]
          refine takeL (i := 19) (v := ?zv19) rfl (by kernel_rfl) (by kernel_rfl) (by kernel_rfl) (by intro c a w h; exact h) (by rfl) ?zhy19 hHeld ?zrest19
          case zhy19 => (intro w hSw; (try dsimp only at hSw); go_simp <;> with_reducible rfl)
          simp only [Act.put, List.setIfInBounds_toArray, List.set_cons_zero, List.set_cons_succ]
          refine wpAnyH_done (by kernel_rfl) ?_ _
          clear hHeld KS
          go_wp2_with fail
          go_ret
          exact ⟨true, rfl, ⟨fun _ => HP.out, fun _ => rfl⟩, HG.out.trans (HG3.out.trans (Gr.drew (Gr.refl _)))⟩
      · have HP : Hid (∃ i ∈ u.imports, ∃ v g, Hit l i v g ∧ ¬ (g.params = i.params ∧ g.result = i.result)) := hide ⟨e, List.mem_of_getElem? HE.out, v, g, HIT.out, fun h => hpp h.1⟩
        have hpd : decide (g.params = e.params) = false := decide_eq_false hpp
        rw [hpd]
        clear hpp hpd
        · skip
          go_wp2_with fail
          refine wp_region_held_drew (S := (fun w' : World => w'.cell? ⟨b, off + a * 5 + 2, none⟩ = some (.slice (some ⟨fb, fo, none⟩) v.funcs.length fc) ∧ w'.cell? ⟨fb, fo + f * 4, none⟩ = some (.slice pa g.params.length pc) ∧ w'.cell? ⟨w.heap.size, 3, none⟩ = some (.slice (some ⟨xb, xo, none⟩) u.imports.length c4) ∧ w'.cell? ⟨xb, xo + i * 3 + 1, none⟩ = some (.slice qa e.params.length qc) ∧ w'.cell? ⟨fb, fo + f * 4 + 1, none⟩ = some (.int .i64 g.result) ∧ w'.cell? ⟨xb, xo + i * 3 + 2, none⟩ = some (.int .i64 e.result))) (by kernel_rfl) (KS.out _ (HG2.out.trans (Gr.drew (Gr.refl _)))) (fun hHeld => ?_)
          refine takeL (i := 0) (v := ?xv0) rfl (by kernel_rfl) (by kernel_rfl) (by kernel_rfl) (by intro c a w h; exact h) (by rfl) ?xhy0 hHeld ?xrest0
          case xhy0 => (intro w hSw; (try dsimp only at hSw); go_simp <;> with_reducible rfl)
          simp only [Act.put, List.setIfInBounds_toArray, List.set_cons_zero, List.set_cons_succ]
          refine takeL (i := 1) (v := ?xv1) rfl (by kernel_rfl) (by kernel_rfl) (by kernel_rfl) (by intro c a w h; exact h) (by rfl) ?xhy1 hHeld ?xrest1
          case xhy1 => (intro w hSw; (try dsimp only at hSw); go_simp <;> with_reducible rfl)
          simp only [Act.put, List.setIfInBounds_toArray, List.set_cons_zero, List.set_cons_succ]
          refine takeL (i := 2) (v := ?xv2) rfl (by kernel_rfl) (by kernel_rfl) (by kernel_rfl) (by intro c a w h; exact h) (by rfl) ?xhy2 hHeld ?xrest2
          case xhy2 => (intro w hSw; (try dsimp only at hSw); go_simp <;> with_reducible rfl)
          simp only [Act.put, List.setIfInBounds_toArray, List.set_cons_zero, List.set_cons_succ]
          refine skipL (i := 3) rfl (by kernel_rfl) (by kernel_rfl) (by kernel_rfl) (by intro c a w h; exact h) (by rfl) hHeld ?_
          simp only [Act.put, List.setIfInBounds_toArray, List.set_cons_zero, List.set_cons_succ]
          refine skipL (i := 4) rfl (by kernel_rfl) (by kernel_rfl) (by kernel_rfl) (by intro c a w h; exact h) (by rfl) hHeld ?_
          simp only [Act.put, List.setIfInBounds_toArray, List.set_cons_zero, List.set_cons_succ]
          refine skipL (i := 5) rfl (by kernel_rfl) (by kernel_rfl) (by kernel_rfl) (by intro c a w h; exact h) (by rfl) hHeld ?_
          simp only [Act.put, List.setIfInBounds_toArray, List.set_cons_zero, List.set_cons_succ]
          refine skipL (i := 6) rfl (by kernel_rfl) (by kernel_rfl) (by kernel_rfl) (by intro c a w h; exact h) (by rfl) hHeld ?_
          simp only [Act.put, List.setIfInBounds_toArray, List.set_cons_zero, List.set_cons_succ]
          refine skipL (i := 7) rfl (by kernel_rfl) (by kernel_rfl) (by kernel_rfl) (by intro c a w h; exact h) (by rfl) hHeld ?_
          simp only [Act.put, List.setIfInBounds_toArray, List.set_cons_zero, List.set_cons_succ]
          refine skipL (i := 8) rfl (by kernel_rfl) (by kernel_rfl) (by kernel_rfl) (by intro c a w h; exact h) (by rfl) hHeld ?_
          simp only [Act.put, List.setIfInBounds_toArray, List.set_cons_zero, List.set_cons_succ]
          refine skipL (i := 9) rfl (by kernel_rfl) (by kernel_rfl) (by kernel_rfl) (by intro c a w h; exact h) (by rfl) hHeld ?_
          simp only [Act.put, List.setIfInBounds_toArray, List.set_cons_zero, List.set_cons_succ]
          refine skipL (i := 10) rfl (by kernel_rfl) (by kernel_rfl) (by kernel_rfl) (by intro c a w h; exact h) (by rfl) hHeld ?_
          simp only [Act.put, List.setIfInBounds_toArray, List.set_cons_zero, List.set_cons_succ]
          refine skipL (i := 11) rfl (by kernel_rfl) (by kernel_rfl) (by kernel_rfl) (by intro c a w h; exact h) (by rfl) hHeld ?_
          simp only [Act.put, List.setIfInBounds_toArray, List.set_cons_zero, List.set_cons_succ]
          refine skipL (i := 12) rfl (by kernel_rfl) (by kernel_rfl) (by kernel_rfl) (by intro c a w h; exact h) (by rfl) hHeld ?_
          simp only [Act.put, List.setIfInBounds_toArray, List.set_cons_zero, List.set_cons_succ]
          refine skipL (i := 13) rfl (by kernel_rfl) (by kernel_rfl) (by kernel_rfl) (by intro c a w h; exact h) (by rfl) hHeld ?_
          simp only [Act.put, List.setIfInBounds_toArray, List.set_cons_zero, List.set_cons_succ]
          refine skipL (i := 14) rfl (by kernel_rfl) (by kernel_rfl) (by kernel_rfl) (by intro c a w h; exact h) (by rfl) hHeld ?_
          simp only [Act.put, List.setIfInBounds_toArray, List.set_cons_zero, List.set_cons_succ]
          refine skipL (i := 15) rfl (by kernel_rfl) (by kernel_rfl) (by kernel_rfl) (by intro c a w h; exact h) (by rfl) hHeld ?_
          simp only [Act.put, List.setIfInBounds_toArray, List.set_cons_zero, List.set_cons_succ]
          refine skipL (i := 16) rfl (by kernel_rfl) (by kernel_rfl) (by kernel_rfl) (by intro c a w h; exact h) (by rfl) hHeld ?_
          simp only [Act.put, List.setIfInBounds_toArray, List.set_cons_zero, List.set_cons_succ]
          refine skipL (i := 17) rfl (by kernel_rfl) (by kernel_rfl) (by kernel_rfl) (by intro c a w h; exact h) (by rfl) hHeld ?_
          simp only [Act.put, List.setIfInBounds_toArray, List.set_cons_zero, List.set_cons_succ]
          refine skipL (i := 18) rfl (by kernel_rfl) (by kernel_rfl) (by kernel_rfl) (by intro c a w h; exact h) (by rfl) hHeld ?_
          simp only [Act.put, List.setIfInBounds_toArray, List.set_cons_zero, List.set_cons_succ]
          refine takeL (i := 19) (v := ?xv19) rfl (by kernel_rfl) (by kernel_rfl) (by kernel_rfl) (by intro c a w h; exact h) (by rfl) ?xhy19 hHeld ?xrest19
          case xhy19 => (intro w hSw; (try dsimp only at hSw); go_simp <;> with_reducible rfl)
          simp only [Act.put, List.setIfInBounds_toArray, List.set_cons_zero, List.set_cons_succ]
          refine wpAnyH_done (by kernel_rfl) ?_ _
          clear hHeld KS
          go_wp2_with fail
          go_ret
          exact ⟨true, rfl, ⟨fun _ => HP.out, fun _ => rfl⟩, HG.out.trans (HG3.out.trans (Gr.drew (Gr.refl _)))⟩
    · have hie : i = u.imports.length := by omega
      subst hie
      have HP : Hid (¬ ∃ i ∈ u.imports, ∃ v g, Hit l i v g ∧ ¬ (g.params = i.params ∧ g.result = i.result)) := hide (fun ⟨e, h1, v, g, h2, h3⟩ => by
        obtain ⟨j, hj⟩ := List.mem_iff_getElem?.1 h1
        exact h3 (HN.out j e (List.getElem?_eq_some_iff.1 hj).1 hj v g h2))
      go_wp2_with fail
      go_ret
      exact ⟨false, rfl, ⟨fun h => (by cases h), fun h => absurd h HP.out⟩, HG.out.trans HGr.out⟩
end Go.Proofs.YtkgncijcnlfhiaaDoor

