import Derived.Test.YtkgncijcnlfhiaaDoorJ2
namespace Go.Proofs.YtkgncijcnlfhiaaDoor
set_option linter.unusedVariables false
set_option linter.unusedSimpArgs false
open Go.RowKit
attribute [local go_sem ↓] Go.wp_at_zero Go.wp_at_succ
set_option maxRecDepth 100000 in
set_option maxHeartbeats 4000000 in
theorem effect_ref_d (u : PUnit) (f : PFunc) (i : PIns) (hi : insOk i = true) (hops : i.op = 13 ∨ i.op = 15) (v1 v2 v3 v4 v5 vp vl vc : Value) (w : World) (hU : RUnit w (.agg #[v1, v2, v3, v4, v5]) u) (hp : RInts w vp f.params) (hl : RInts w vl f.locals) (hc : ∃ a c, vc = .slice a f.code.length c) (hpl : f.params.length ≤ 10000) (hll : f.locals.length ≤ 10000) (hcl : f.code.length ≤ 1000000) (hul : u.shapes.length ≤ 1000000 ∧ u.consts.length ≤ 1000000 ∧ u.funcs.length ≤ 1000000 ∧ u.imports.length ≤ 1000000) (hsm : ∀ s ∈ u.shapes, s.length ≤ 1000000) (hfm : ∀ g ∈ u.funcs, g.params.length ≤ 1000000) (him : ∀ g ∈ u.imports, g.params.length ≤ 1000000) :
    Calls Tryd.prog 152 #[.agg #[v1, v2, v3, v4, v5], .agg #[vp, .int .i64 f.result, vl, vc], .agg #[.int .i64 i.op, .int .i64 i.a, .int .i64 i.b]] w (ErfR (effP u f i) w) := by
  obtain ⟨x1, x2, x3, x4, x5, he, h1, h2, h3, h4, h5⟩ := hU
  simp only [Value.agg.injEq, Array.mk.injEq, List.cons.injEq, and_true] at he
  obtain ⟨rfl, rfl, rfl, rfl, rfl⟩ := he
  obtain ⟨a1, c1, rfl⟩ := h1.shape
  obtain ⟨a2, c2, rfl⟩ := h2.shape
  obtain ⟨a3, c3, rfl⟩ := h3.shape
  obtain ⟨a4, c4, rfl⟩ := h4.shape
  obtain ⟨a5, c5, rfl⟩ := h5.shape
  obtain ⟨ap, cp, rfl⟩ := hp.shape
  obtain ⟨al, cl, rfl⟩ := hl.shape
  obtain ⟨ac, cc, rfl⟩ := hc
  have H1 := hide h1
  have H3 := hide h3
  have H4 := hide h4
  have HP := hide hp
  have HLo := hide hl
  have HB := hide (EfB.new w u f i a1 a2 a3 a4 a5 ap al ac c1 c2 c3 c4 c5 cp cl cc)
  have HN := hide (ins_natJ hi)
  have HOPS := hide hops
  have HSM := hide hsm
  have HFM := hide hfm
  have HIM := hide him
  obtain ⟨ul1, ul2, ul3, ul4⟩ := hul
  clear h1 h2 h3 h4 h5 hp hl hi hsm hfm him hops
  go_enter Tryd.func152, Tryd.ntmps152
  go_upto_region 1 with fail
  generalize (((w.alloc (.cells #[.slice a1 u.shapes.length c1, .slice a2 u.consts.length c2, .slice a3 u.funcs.length c3, .slice a4 u.imports.length c4, .slice a5 u.exports.length c5] 28)).alloc (.cells #[.slice ap f.params.length cp, .int .i64 f.result, .slice al f.locals.length cl, .slice ac f.code.length cc] 76)).alloc (.cells #[.int .i64 i.op, .int .i64 i.a, .int .i64 i.b] 91)).alloc (.cells #[.slice none 0 0, .slice none 0 0] 223) = V at HB ⊢
  have hVs := HB.out.sz
  obtain ⟨v6, w6, hr6, ho6, hg6⟩ := run_app_ints (World.ownsRow_nil V V.heap.size 3 1) (HP.out.gr HB.out.gr) (by omega) (Nat.le_refl _) 23
  rw [Nat.zero_add, List.nil_append] at ho6
  obtain ⟨a6, c6, rfl⟩ := own_shape_ ho6
  have hgr6 : Gr V w6 := hg6
  obtain ⟨v7, w7, hr7, ho7, hg7⟩ := run_app_ints ho6 (HLo.out.gr (HB.out.gr.trans hgr6)) (by omega) hgr6.size 23
  obtain ⟨a7, c7, rfl⟩ := own_shape_ ho7
  have hgr7 : Gr V w7 := gr_own hgr6 ho6 hg7
  have HR6 := hide hr6
  have HR7 := hide hr7
  have hro : RIntsQ (fun b => V.heap.size ≤ b ∧ TyI w7 b) w7 (.slice a7 (f.params.length + f.locals.length) c7) (f.params ++ f.locals) := own_rints (by
    rw [List.length_append]
    have : ivL (f.params ++ f.locals) = ivL f.params ++ ivL f.locals := by simp [ivL]
    rw [this]
    exact ho7)
  have HR8 := hide hro.to
  have HB7 := hide (HB.out.go hgr7)
  have HB6 := hide (HB.out.go hgr6)
  obtain ⟨k0, k1, k2, k3, k4, k5, k6, k7, k8, k9, k10, k11⟩ := HB.out.cs
  obtain ⟨m0, m1, m2, m3, m4, m5, m6, m7, m8, m9, m10, m11⟩ := HB6.out.cs
  clear ho6 ho7 hg6 hg7 hgr6 hr6 hr7 hro
  go_upto_region 3 with (at_builtin; refine Lib.wpList_append_run _ rfl _ _ _ _ rfl _ _ rfl rfl _ _ HR6.out ?_)
  go_upto_region 5 with (at_builtin; refine Lib.wpList_append_run _ rfl _ _ _ _ rfl _ _ rfl rfl _ _ HR7.out ?_)
  clear HR6 HR7 k0 k1 k2 k3 k4 k5 k6 k7 k8 k9 k10 k11 m0 m1 m2 m3 m4 m5 m6 m7 m8 m9 m10 m11
  obtain ⟨k0, k1, k2, k3, k4, k5, k6, k7, k8, k9, k10, k11⟩ := HB7.out.cs
  go_cut [10] from 13 (fun v10 wx => v10 = .bool (shapeO u i.a).isSome ∧ wx = w7)
  case first =>
    by_cases hx : 1 ≤ i.a
    · have hxd : decide ((1 : Int) ≤ i.a) = true := by simpa using hx
      have e : (shapeO u i.a).isSome = decide (i.a ≤ (u.shapes.length : Int)) := by
        unfold shapeO; rw [if_pos hx, Bool.eq_iff_iff, Option.isSome_iff_exists, decide_eq_true_eq]
        constructor
        · rintro ⟨s, hs⟩; have := (List.getElem?_eq_some_iff.1 hs).1; omega
        · intro h; exact ⟨_, List.getElem?_eq_getElem (by omega)⟩
      have HE := hide e
      clear e
      go_wp2_with fail
      all_goals
        go_meet
        exact ⟨by rw [HE.out], rfl⟩
    · have hxd : decide ((1 : Int) ≤ i.a) = false := by simpa using hx
      have HE : Hid ((shapeO u i.a).isSome = false) := hide (by unfold shapeO; rw [if_neg hx]; rfl)
      go_wp2_with fail
      all_goals
        go_meet
        exact ⟨by rw [HE.out], rfl⟩
  case rest =>
    obtain ⟨rfl, hwx⟩ := hcut
    obtain rfl := hwx
    go_upto_if 32 with fail
    go_cut [9, 10] from 13 (fun v9 v10 wx => v10 = .bool (shapeO u i.a).isSome ∧ wx = wc ∧ RInts wc v9 ((shapeO u i.a).getD []))
    case first =>
      cases hs : shapeO u i.a with
      | none =>
        simp only [Option.isSome_none]
        have HSS := hide hs
        clear hs
        go_wp2_with fail
        go_meet
        exact ⟨by rw [HSS.out]; rfl, rfl, by rw [HSS.out]; exact rints_nil _⟩
      | some s =>
        simp only [Option.isSome_some]
        have hx : 1 ≤ i.a := by
          unfold shapeO at hs
          by_cases h : 1 ≤ i.a
          · exact h
          · rw [if_neg h] at hs; cases hs
        have hs2 : u.shapes[(i.a - 1).toNat]? = some s := by unfold shapeO at hs; rw [if_pos hx] at hs; exact hs
        have hlt := (List.getElem?_eq_some_iff.1 hs2).1
        obtain ⟨ao1, cc1, he1, _, hc1⟩ := H1.out
        simp only [Value.slice.injEq, true_and] at he1
        obtain ⟨b1, o1, vx, e1, e2, e3⟩ := hc1 _ s hs2
        obtain ⟨rfl, rfl⟩ := he1
        subst e1
        have hgw := HB7.out.gr
        have e2 := hgw.cell e2 (by simp)
        have HRX := hide (e3.gr hgw)
        obtain ⟨xa, xc, rfl⟩ := e3.shape
        obtain ⟨j, hj⟩ : ∃ j : Nat, (i.a - 1).toNat = j := ⟨_, rfl⟩
        have hw1 : IntKind.i64.wrap (i.a - 1) = (j : Int) := by rw [Go.IntWalk.i64_in _ (by omega)]; omega
        rw [hj] at e2 hlt
        have hji : (j : Int) < (u.shapes.length : Int) := by omega
        have HSS := hide hs
        clear hs hs2 hc1 e3 hj hgw hx
        go_wp2_with fail
        go_meet
        exact ⟨by rw [HSS.out]; rfl, rfl, by rw [HSS.out]; exact HRX.out⟩
    case rest =>
      obtain ⟨rfl, hwx, hr9⟩ := hcut
      obtain rfl := hwx
      obtain ⟨hop, hab⟩ := HN.out
      have heb := HB7.out.eb
      have r0 := heap_cell_ (o := 0) heb
      have r1 := heap_cell_ (o := 1) heb
      have f0 := heap_frozen_ (o := 0) heb
      have f1 := heap_frozen_ (o := 1) heb
      simp at r0 r1
      clear heb
      have hsz := HB7.out.sz
      have hlt : w.heap.size + 1 + 1 + 1 < wc.heap.size := by omega
      have hne : ¬ w.heap.size + 1 + 1 + 1 = wc.heap.size := by omega
      have hne2 : ¬ w.heap.size + 1 + 1 + 1 = wc.heap.size + 1 := by omega
      have hne3 : ¬ w.heap.size + 1 + 1 = wc.heap.size := by omega
      have hfz : ∀ (o o' : Obj) (k : Nat), ((wc.alloc o).alloc o').frozen? ⟨w.heap.size + 1 + 1 + 1, k, none⟩ = false := fun o o' k => heap_frozen_ (((((Gr.refl wc).alloc o).alloc o').block _ hlt (by simp)).trans HB7.out.eb)
      have hcz : ∀ (o o' : Obj), ((wc.alloc o).alloc o').cell? ⟨w.heap.size + 1 + 1 + 1, 0, none⟩ = some (.slice none 0 0) ∧ ((wc.alloc o).alloc o').cell? ⟨w.heap.size + 1 + 1 + 1, 1, none⟩ = some (.slice none 0 0) := fun o o' => ⟨(((Gr.refl wc).alloc o).alloc o').cell r0 (by simp), (((Gr.refl wc).alloc o).alloc o').cell r1 (by simp)⟩
      have hcz0 := fun o o' => (hcz o o').1
      have hcz1 := fun o o' => (hcz o o').2
      clear hcz
      have hd := HOPS.out
      have HAB := hide hab
      have HR9 := hide hr9
      obtain ⟨a9, c9, rfl⟩ := hr9.shape
      clear hop hab hr9
      rcases hd with ho | ho
      · rw [ho] at k9
        obtain ⟨ja, hja⟩ : ∃ ja : Nat, i.a = (ja : Int) := ⟨i.a.toNat, by have := HAB.out; omega⟩
        have hj1 : ja ≤ 65535 := by have := HAB.out; omega
        have HJA := hide hja
        rw [hja] at k10
        by_cases hg1 : ja < u.funcs.length
        · obtain ⟨g, hg⟩ := getElem?_lt hg1
          have HE : Hid (effP u f i = some (g.params, [g.result])) := hide (by unfold effP; simp [ho, hja, hg])
          have hpm := HFM.out g (List.mem_of_getElem? hg)
          obtain ⟨ao3, cp3, e3x, _, hc3⟩ := H3.out
          obtain ⟨b3, o3, vgp, vgl, vgc, rfl, g0, g1, g2, g3, hgp, hgl, hgc⟩ := hc3 ja g hg
          simp only [Value.slice.injEq, true_and] at e3x
          obtain ⟨rfl, rfl⟩ := e3x
          obtain ⟨agp, cgp, rfl⟩ := hgp.shape
          have hb3 : b3 < w.heap.size := World.block_lt_of_cell? w _ g0
          have e0 := HB7.out.gr.cell g0 (by simp)
          have e1 := HB7.out.gr.cell g1 (by simp)
          have HGP := hide hgp
          have hji : (ja : Int) < (u.funcs.length : Int) := by omega
          clear ho hja hc3 hg g0 g1 g2 g3 hgp hgl hgc
          go_upto_region 36 with fail
          refine wp_region_held_drew (S := (fun w' => w'.cell? ⟨w.heap.size, 0, none⟩ = some (.slice a1 u.shapes.length c1) ∧ w'.cell? ⟨w.heap.size, 1, none⟩ = some (.slice a2 u.consts.length c2) ∧ w'.cell? ⟨w.heap.size, 2, none⟩ = some (.slice (some ⟨b3, o3, none⟩) u.funcs.length c3) ∧ w'.cell? ⟨w.heap.size, 3, none⟩ = some (.slice a4 u.imports.length c4) ∧ w'.cell? ⟨w.heap.size, 4, none⟩ = some (.slice a5 u.exports.length c5) ∧ w'.cell? ⟨w.heap.size + 1, 0, none⟩ = some (.slice ap f.params.length cp) ∧ w'.cell? ⟨w.heap.size + 1, 1, none⟩ = some (.int .i64 f.result) ∧ w'.cell? ⟨w.heap.size + 1, 2, none⟩ = some (.slice al f.locals.length cl) ∧ w'.cell? ⟨w.heap.size + 1, 3, none⟩ = some (.slice ac f.code.length cc) ∧ w'.cell? ⟨w.heap.size + 1 + 1, 0, none⟩ = some (.int .i64 13) ∧ w'.cell? ⟨w.heap.size + 1 + 1, 1, none⟩ = some (.int .i64 (ja : Int)) ∧ w'.cell? ⟨w.heap.size + 1 + 1, 2, none⟩ = some (.int .i64 i.b) ∧ w'.cell? ⟨b3, o3 + ja * 4, none⟩ = some (.slice agp g.params.length cgp) ∧ w'.cell? ⟨b3, o3 + ja * 4 + 1, none⟩ = some (.int .i64 g.result))) (by kernel_rfl) (⟨k0, k1, k2, k3, k4, k5, k6, k7, k8, k9, k10, k11, e0, e1⟩) (fun hHeld => ?_)
          refine takeL (i := 0) (v := ?o13v0) rfl (by kernel_rfl) (by kernel_rfl) (by kernel_rfl) (by intro c a w h; exact h) (by rfl) ?o13hy0 hHeld ?o13rest0
          case o13hy0 => (intro w hSw; (try dsimp only at hSw); (obtain ⟨q0, q1, q2, q3, q4, q5, q6, q7, q8, q9, q10, q11, q12, q13⟩ := hSw; go_simp) <;> with_reducible rfl)
          simp only [Act.put, List.setIfInBounds_toArray, List.set_cons_zero, List.set_cons_succ]
          refine takeL (i := 1) (v := ?o13v1) rfl (by kernel_rfl) (by kernel_rfl) (by kernel_rfl) (by intro c a w h; exact h) (by rfl) ?o13hy1 hHeld ?o13rest1
          case o13hy1 => (intro w hSw; (try dsimp only at hSw); (obtain ⟨q0, q1, q2, q3, q4, q5, q6, q7, q8, q9, q10, q11, q12, q13⟩ := hSw; go_simp) <;> with_reducible rfl)
          simp only [Act.put, List.setIfInBounds_toArray, List.set_cons_zero, List.set_cons_succ]
          refine takeL (i := 2) (v := ?o13v2) rfl (by kernel_rfl) (by kernel_rfl) (by kernel_rfl) (by intro c a w h; exact h) (by rfl) ?o13hy2 hHeld ?o13rest2
          case o13hy2 => (intro w hSw; (try dsimp only at hSw); (obtain ⟨q0, q1, q2, q3, q4, q5, q6, q7, q8, q9, q10, q11, q12, q13⟩ := hSw; go_simp) <;> with_reducible rfl)
          simp only [Act.put, List.setIfInBounds_toArray, List.set_cons_zero, List.set_cons_succ]
          refine takeL (i := 3) (v := ?o13v3) rfl (by kernel_rfl) (by kernel_rfl) (by kernel_rfl) (by intro c a w h; exact h) (by rfl) ?o13hy3 hHeld ?o13rest3
          case o13hy3 => (intro w hSw; (try dsimp only at hSw); (obtain ⟨q0, q1, q2, q3, q4, q5, q6, q7, q8, q9, q10, q11, q12, q13⟩ := hSw; go_simp) <;> with_reducible rfl)
          simp only [Act.put, List.setIfInBounds_toArray, List.set_cons_zero, List.set_cons_succ]
          refine takeL (i := 4) (v := ?o13v4) rfl (by kernel_rfl) (by kernel_rfl) (by kernel_rfl) (by intro c a w h; exact h) (by rfl) ?o13hy4 hHeld ?o13rest4
          case o13hy4 => (intro w hSw; (try dsimp only at hSw); (obtain ⟨q0, q1, q2, q3, q4, q5, q6, q7, q8, q9, q10, q11, q12, q13⟩ := hSw; go_simp) <;> with_reducible rfl)
          simp only [Act.put, List.setIfInBounds_toArray, List.set_cons_zero, List.set_cons_succ]
          refine takeL (i := 5) (v := ?o13v5) rfl (by kernel_rfl) (by kernel_rfl) (by kernel_rfl) (by intro c a w h; exact h) (by rfl) ?o13hy5 hHeld ?o13rest5
          case o13hy5 => (intro w hSw; (try dsimp only at hSw); (obtain ⟨q0, q1, q2, q3, q4, q5, q6, q7, q8, q9, q10, q11, q12, q13⟩ := hSw; go_simp) <;> with_reducible rfl)
          simp only [Act.put, List.setIfInBounds_toArray, List.set_cons_zero, List.set_cons_succ]
          refine takeL (i := 6) (v := ?o13v6) rfl (by kernel_rfl) (by kernel_rfl) (by kernel_rfl) (by intro c a w h; exact h) (by rfl) ?o13hy6 hHeld ?o13rest6
          case o13hy6 => (intro w hSw; (try dsimp only at hSw); (obtain ⟨q0, q1, q2, q3, q4, q5, q6, q7, q8, q9, q10, q11, q12, q13⟩ := hSw; go_simp) <;> with_reducible rfl)
          simp only [Act.put, List.setIfInBounds_toArray, List.set_cons_zero, List.set_cons_succ]
          refine takeL (i := 7) (v := ?o13v7) rfl (by kernel_rfl) (by kernel_rfl) (by kernel_rfl) (by intro c a w h; exact h) (by rfl) ?o13hy7 hHeld ?o13rest7
          case o13hy7 => (intro w hSw; (try dsimp only at hSw); (obtain ⟨q0, q1, q2, q3, q4, q5, q6, q7, q8, q9, q10, q11, q12, q13⟩ := hSw; go_simp) <;> with_reducible rfl)
          simp only [Act.put, List.setIfInBounds_toArray, List.set_cons_zero, List.set_cons_succ]
          refine takeL (i := 8) (v := ?o13v8) rfl (by kernel_rfl) (by kernel_rfl) (by kernel_rfl) (by intro c a w h; exact h) (by rfl) ?o13hy8 hHeld ?o13rest8
          case o13hy8 => (intro w hSw; (try dsimp only at hSw); (obtain ⟨q0, q1, q2, q3, q4, q5, q6, q7, q8, q9, q10, q11, q12, q13⟩ := hSw; go_simp) <;> with_reducible rfl)
          simp only [Act.put, List.setIfInBounds_toArray, List.set_cons_zero, List.set_cons_succ]
          refine takeL (i := 9) (v := ?o13v9) rfl (by kernel_rfl) (by kernel_rfl) (by kernel_rfl) (by intro c a w h; exact h) (by rfl) ?o13hy9 hHeld ?o13rest9
          case o13hy9 => (intro w hSw; (try dsimp only at hSw); (obtain ⟨q0, q1, q2, q3, q4, q5, q6, q7, q8, q9, q10, q11, q12, q13⟩ := hSw; go_simp) <;> with_reducible rfl)
          simp only [Act.put, List.setIfInBounds_toArray, List.set_cons_zero, List.set_cons_succ]
          refine takeL (i := 10) (v := ?o13v10) rfl (by kernel_rfl) (by kernel_rfl) (by kernel_rfl) (by intro c a w h; exact h) (by rfl) ?o13hy10 hHeld ?o13rest10
          case o13hy10 => (intro w hSw; (try dsimp only at hSw); (obtain ⟨q0, q1, q2, q3, q4, q5, q6, q7, q8, q9, q10, q11, q12, q13⟩ := hSw; go_simp) <;> with_reducible rfl)
          simp only [Act.put, List.setIfInBounds_toArray, List.set_cons_zero, List.set_cons_succ]
          refine takeL (i := 11) (v := ?o13v11) rfl (by kernel_rfl) (by kernel_rfl) (by kernel_rfl) (by intro c a w h; exact h) (by rfl) ?o13hy11 hHeld ?o13rest11
          case o13hy11 => (intro w hSw; (try dsimp only at hSw); (obtain ⟨q0, q1, q2, q3, q4, q5, q6, q7, q8, q9, q10, q11, q12, q13⟩ := hSw; go_simp) <;> with_reducible rfl)
          simp only [Act.put, List.setIfInBounds_toArray, List.set_cons_zero, List.set_cons_succ]
          refine takeL (i := 12) (v := ?o13v12) rfl (by kernel_rfl) (by kernel_rfl) (by kernel_rfl) (by intro c a w h; exact h) (by rfl) ?o13hy12 hHeld ?o13rest12
          case o13hy12 => (intro w hSw; (try dsimp only at hSw); (obtain ⟨q0, q1, q2, q3, q4, q5, q6, q7, q8, q9, q10, q11, q12, q13⟩ := hSw; go_simp) <;> with_reducible rfl)
          simp only [Act.put, List.setIfInBounds_toArray, List.set_cons_zero, List.set_cons_succ]
          refine takeL (i := 13) (v := ?o13v13) rfl (by kernel_rfl) (by kernel_rfl) (by kernel_rfl) (by intro c a w h; exact h) (by rfl) ?o13hy13 hHeld ?o13rest13
          case o13hy13 => (intro w hSw; (try dsimp only at hSw); (obtain ⟨q0, q1, q2, q3, q4, q5, q6, q7, q8, q9, q10, q11, q12, q13⟩ := hSw; go_simp) <;> with_reducible rfl)
          simp only [Act.put, List.setIfInBounds_toArray, List.set_cons_zero, List.set_cons_succ]
          refine aloneL (i := 14) rfl (by kernel_rfl) (fun K hK => ?_)
          refine want_yes (by rfl) ?_
          go_simp
          refine hK.out _ _ ((fun g : Gr wc _ => ⟨g.cell k0 (by simp), g.cell k1 (by simp), g.cell k2 (by simp), g.cell k3 (by simp), g.cell k4 (by simp), g.cell k5 (by simp), g.cell k6 (by simp), g.cell k7 (by simp), g.cell k8 (by simp), g.cell k9 (by simp), g.cell k10 (by simp), g.cell k11 (by simp), g.cell e0 (by simp), g.cell e1 (by simp)⟩) (by repeat (first | with_reducible exact Gr.refl _ | with_reducible refine Gr.drew ?_ | with_reducible refine Gr.alloc ?_ _))) (fun hHeld => ?_)
          clear hK
          try simp only [Act.put, List.setIfInBounds_toArray, List.set_cons_zero, List.set_cons_succ]
          refine takeL (i := 15) (v := ?o13v15) rfl (by kernel_rfl) (by kernel_rfl) (by kernel_rfl) (by intro c a w h; exact h) (by rfl) ?o13hy15 hHeld ?o13rest15
          case o13hy15 => (intro w hSw; (try dsimp only at hSw); go_simp <;> with_reducible rfl)
          simp only [Act.put, List.setIfInBounds_toArray, List.set_cons_zero, List.set_cons_succ]
          refine aloneL (i := 16) rfl (by kernel_rfl) (fun K hK => ?_)
          refine want_yes (by rfl) (wp_store_row (P := Tryd.prog) 223 _ _ rfl (w.heap.size + 1 + 1 + 1) #[.slice agp g.params.length cgp, .slice (some ⟨wc.heap.size, 0, none⟩) 1 1] (by rfl) (by simp [Act.eval]) 223 _ (((show Gr wc _ from (by repeat (first | with_reducible exact Gr.refl _ | with_reducible refine Gr.drew ?_ | with_reducible refine Gr.alloc ?_ _))).block _ hlt (by simp)).trans HB7.out.eb) Tryd.infErf rfl (by simp [Value.oneCell']) ?_)
          refine hK.out _ _ ((fun g : Gr wc _ => ⟨cell_row_ (by omega) (g.cell k0 (by simp)), cell_row_ (by omega) (g.cell k1 (by simp)), cell_row_ (by omega) (g.cell k2 (by simp)), cell_row_ (by omega) (g.cell k3 (by simp)), cell_row_ (by omega) (g.cell k4 (by simp)), cell_row_ (by omega) (g.cell k5 (by simp)), cell_row_ (by omega) (g.cell k6 (by simp)), cell_row_ (by omega) (g.cell k7 (by simp)), cell_row_ (by omega) (g.cell k8 (by simp)), cell_row_ (by omega) (g.cell k9 (by simp)), cell_row_ (by omega) (g.cell k10 (by simp)), cell_row_ (by omega) (g.cell k11 (by simp)), cell_row_ (by omega) (g.cell e0 (by simp)), cell_row_ (by omega) (g.cell e1 (by simp))⟩) (by repeat (first | with_reducible exact Gr.refl _ | with_reducible refine Gr.drew ?_ | with_reducible refine Gr.alloc ?_ _))) (fun hHeld => ?_)
          clear hK
          try simp only [Act.put, List.setIfInBounds_toArray, List.set_cons_zero, List.set_cons_succ]
          refine takeL (i := 17) (v := ?o13v17) rfl (by kernel_rfl) (by kernel_rfl) (by kernel_rfl) (by intro c a w h; exact h) (by rfl) ?o13hy17 hHeld ?o13rest17
          case o13hy17 => (intro w hSw; (try dsimp only at hSw); go_simp <;> with_reducible rfl)
          simp only [Act.put, List.setIfInBounds_toArray, List.set_cons_zero, List.set_cons_succ]
          refine wpAnyH_done (by kernel_rfl) ?_ _
          go_wp2_with fail
          have hpr := setRow_heap ((wc.alloc (.cells #[.int .i64 g.result] 3)).drew) (w.heap.size + 1 + 1 + 1) _ #[.slice agp g.params.length cgp, .slice (some ⟨wc.heap.size, 0, none⟩) 1 1] 223 _ (((show Gr wc _ from (by repeat (first | with_reducible exact Gr.refl _ | with_reducible refine Gr.drew ?_ | with_reducible refine Gr.alloc ?_ _))).block _ hlt (by simp)).trans HB7.out.eb)
          have hp0 := (heap_cell_ (o := 0) hpr).trans (show _ = some (.slice agp g.params.length cgp) from rfl)
          have hp1 := (heap_cell_ (o := 1) hpr).trans (show _ = some (.slice (some ⟨wc.heap.size, 0, none⟩) 1 1) from rfl)
          exact bodyPost_ret (v := .tuple #[.agg #[.slice agp g.params.length cgp, .slice (some ⟨wc.heap.size, 0, none⟩) 1 1], .bool true]) (by simp [results, Tryd.results152, go_sem, hp0, hp1]) rfl (erf_yes (ts := g.params) (ps := [g.result]) HE.out (by repeat (first | with_reducible exact HB7.out.gr | with_reducible refine Gr.drew ?_ | with_reducible refine Gr.alloc ?_ _ | with_reducible refine gr_put ?_ (by omega) | with_reducible refine gr_row2 ?_ (by omega))) (HGP.out.gr (by repeat (first | with_reducible exact HB7.out.gr | with_reducible refine Gr.drew ?_ | with_reducible refine Gr.alloc ?_ _ | with_reducible refine gr_put ?_ (by omega) | with_reducible refine gr_row2 ?_ (by omega)))) (rints_one (cell_row_ (by omega) (by simp [go_sem]))) hpm (by simp))
        · by_cases hg2 : ja < u.funcs.length + u.imports.length
          · obtain ⟨jn, hjn⟩ : ∃ jn : Nat, jn = ja - u.funcs.length := ⟨_, rfl⟩
            obtain ⟨g, hg⟩ := getElem?_lt (show jn < u.imports.length by omega)
            have HE : Hid (effP u f i = some (g.params, [g.result])) := hide (by
              have h1 : u.funcs[ja]? = none := List.getElem?_eq_none (by omega)
              unfold effP; simp [ho, hja, h1, ← hjn, hg])
            have hpm := HIM.out g (List.mem_of_getElem? hg)
            obtain ⟨ao3, cp3, e3x, _, hc3⟩ := H4.out
            obtain ⟨b3, o3, vgs, vgp, rfl, g0, g1, g2, hgt, hgp⟩ := hc3 jn g hg
            simp only [Value.slice.injEq, true_and] at e3x
            obtain ⟨rfl, rfl⟩ := e3x
            obtain ⟨agp, cgp, rfl⟩ := hgp.shape
            obtain ⟨sg, rfl, _, _⟩ := hgt
            have e0 := HB7.out.gr.cell g0 (by simp)
            have e1 := HB7.out.gr.cell g1 (by simp)
            have e2 := HB7.out.gr.cell g2 (by simp)
            have HGP := hide hgp
            have hji : ¬ (ja : Int) < (u.funcs.length : Int) := by omega
            have hji2 : (ja : Int) < (u.funcs.length : Int) + (u.imports.length : Int) := by omega
            have hw1 : IntKind.i64.wrap ((u.funcs.length : Int) + (u.imports.length : Int)) = (u.funcs.length : Int) + (u.imports.length : Int) := Go.IntWalk.i64_in _ (by omega)
            have hw2 : IntKind.i64.wrap ((ja : Int) - (u.funcs.length : Int)) = (jn : Int) := by rw [Go.IntWalk.i64_in _ (by omega)]; omega
            have hw3 : (ja : Int) - (u.funcs.length : Int) = (jn : Int) := by omega
            have hjni : (jn : Int) < (u.imports.length : Int) := by omega
            clear ho hja hc3 hg g0 g1 g2 hgp hjn
            go_wp2_with fail
            exact bodyPost_ret (v := .tuple #[.agg #[.slice agp g.params.length cgp, .slice (some ⟨wc.heap.size + 1, 0, none⟩) 1 1], .bool true]) (by simp [results, Tryd.results152, go_sem, r0, r1, hlt, hne, hne2, hne3, hcz0, hcz1]) rfl (erf_yes HE.out (by repeat (first | with_reducible exact HB7.out.gr | with_reducible refine Gr.drew ?_ | with_reducible refine Gr.alloc ?_ _ | with_reducible refine gr_put ?_ (by omega) | with_reducible refine gr_row2 ?_ (by omega))) (HGP.out.gr (by repeat (first | with_reducible exact HB7.out.gr | with_reducible refine Gr.drew ?_ | with_reducible refine Gr.alloc ?_ _ | with_reducible refine gr_put ?_ (by omega) | with_reducible refine gr_row2 ?_ (by omega)))) (rints_one (by simp [go_sem])) hpm (by simp))
          · have HE : Hid (effP u f i = none) := hide (by
              have h1 : u.funcs[ja]? = none := List.getElem?_eq_none (by omega)
              have h2 : u.imports[ja - u.funcs.length]? = none := List.getElem?_eq_none (by omega)
              unfold effP; simp [ho, hja, h1, h2])
            have hji : ¬ (ja : Int) < (u.funcs.length : Int) := by omega
            have hji2 : ¬ (ja : Int) < (u.funcs.length : Int) + (u.imports.length : Int) := by omega
            have hw1 : IntKind.i64.wrap ((u.funcs.length : Int) + (u.imports.length : Int)) = (u.funcs.length : Int) + (u.imports.length : Int) := Go.IntWalk.i64_in _ (by omega)
            clear ho hja
            go_wp2_with fail
            exact bodyPost_ret (v := .tuple #[.agg #[.slice none 0 0, .slice none 0 0], .bool false]) (by simp [results, Tryd.results152, go_sem, r0, r1, hlt, hne, hne2, hne3, hcz0, hcz1]) rfl (erf_no (ts := []) (ps := []) HE.out (by repeat (first | with_reducible exact HB7.out.gr | with_reducible refine Gr.drew ?_ | with_reducible refine Gr.alloc ?_ _ | with_reducible refine gr_put ?_ (by omega) | with_reducible refine gr_row2 ?_ (by omega))) (rints_nil _) (rints_nil _) (by simp) (by simp))
      · rw [ho] at k9
        have HO := hide ho
        clear ho
        generalize hs : shapeO u i.a = S at *
        cases S with
        | none =>
          have HE : Hid (effP u f i = none) := hide (by rw [effP_15 HO.out, hs]; rfl)
          simp only [Option.isSome_none, Option.getD_none] at *
          clear hs
          go_wp2_with fail
          exact bodyPost_ret (v := .tuple #[.agg #[.slice a9 0 c9, .slice (some ⟨wc.heap.size, 0, none⟩) 1 1], .bool false]) (by simp [results, Tryd.results152, go_sem, r0, r1, hlt, hne, hne2, hne3, hcz0, hcz1]) rfl (erf_no (ts := []) (ps := [i.a]) HE.out (by repeat (first | with_reducible exact HB7.out.gr | with_reducible refine Gr.drew ?_ | with_reducible refine Gr.alloc ?_ _ | with_reducible refine gr_put ?_ (by omega) | with_reducible refine gr_row2 ?_ (by omega))) ((rints_put2 HR9.out r0 r1).gr ((Gr.refl _).alloc _)) (rints_one (by simp [go_sem])) (by simp) (by simp))
        | some s =>
          have HE : Hid (effP u f i = some (s, [i.a])) := hide (by rw [effP_15 HO.out, hs]; rfl)
          have hsl : s.length ≤ 1000000 := HSM.out s (by unfold shapeO at hs; split at hs; exact List.mem_of_getElem? hs; cases hs)
          simp only [Option.isSome_some, Option.getD_some] at *
          clear hs
          go_wp2_with fail
          exact bodyPost_ret (v := .tuple #[.agg #[.slice a9 s.length c9, .slice (some ⟨wc.heap.size, 0, none⟩) 1 1], .bool true]) (by simp [results, Tryd.results152, go_sem, r0, r1, hlt, hne, hne2, hne3, hcz0, hcz1]) rfl (erf_yes HE.out (by repeat (first | with_reducible exact HB7.out.gr | with_reducible refine Gr.drew ?_ | with_reducible refine Gr.alloc ?_ _ | with_reducible refine gr_put ?_ (by omega) | with_reducible refine gr_row2 ?_ (by omega))) ((rints_put2 HR9.out r0 r1).gr ((Gr.refl _).alloc _)) (rints_one (by simp [go_sem])) hsl (by simp))
end Go.Proofs.YtkgncijcnlfhiaaDoor

