import Derived.Test.YtkgncijcnlfhiabGreatZo
import Derived.Test.YtkgncijcnlfhiabGreatY3
import Derived.Test.YtkgncijcnlfhiabGreatZn
namespace Go.Proofs.YtkgncijcnlfhiabGreat
set_option linter.unusedVariables false
set_option linter.unusedSimpArgs false
open Go.RowKit
attribute [local go_sem ↓] Go.wp_at_zero Go.wp_at_succ
theorem Tryz.callScope (vals : Array Value) (w : World) : (callFunc 32 vals).run Tryz.prog w = .ok (.enter 32 vals) w := by kernel_rfl
theorem Tryz.infLooker : (Tryz.prog.info? 87).map (·.size) = some 12 := by kernel_rfl
theorem gr_row {W w : World} {g : Nat} {cs : Array Value} (h : Gr W w) (hg : W.heap.size ≤ g) : Gr W (w.setRow g cs) :=
  ⟨h.os, h.tape, h.output, by simpa using h.size, fun i hi hne => by rw [setRow_other w g i cs (by omega)]; exact h.block i hi hne⟩
theorem TyI.gr {w w' : World} {b : Nat} (h : TyI w b) (g : Gr w w') : TyI w' b := by
  obtain ⟨arr, e⟩ := h
  exact ⟨arr, (g.block b (Array.getElem?_eq_some_iff.1 e).1 (by simp)).trans e⟩
def ThX (W0 : World) (v1 v2 v3 v4 v5 : Value) (N : Nat) (res : Int) (sl : List Int) (v : Value) (w : World) : Prop := ∃ vs, v = .agg #[v1, v2, v3, v4, v5, vs, .int .i64 (N : Int), .int .i64 res] ∧ RIntsQ (fun b => W0.heap.size ≤ b ∧ TyI w b) w vs sl
def ThY (W0 : World) (v : Value) (w : World) : Prop := ∃ mb, v = .map (some mb) ∧ W0.heap.size ≤ mb ∧ w.heap[mb]? = some (.map #[] 0)
def ThZ (W0 : World) (v : Value) (w : World) : Prop := ∃ lb, v = .pointer (some ⟨lb, 0, none⟩) ∧ W0.heap.size ≤ lb ∧ w.heap[lb]? = some (.cells #[.slice none 0 0, .slice none 0 0, .slice none 0 0, .slice none 0 0, .slice none 0 0, .slice none 0 0, .int .i64 0, .int .i64 0, .int .i64 0, .slice none 0 0, .map none, .slice none 0 0] 87 (0, 0))
def ThT (k : Nat) (vc vx vy vt : Value) : Prop := ∃ x1 x2 x3 x4 x5 x6 x7 x8 mb, vx = .agg #[x1, x2, x3, x4, x5, x6, x7, x8] ∧ vy = .map (some mb) ∧ vt = .agg #[x1, x2, x3, x4, x5, x6, x7, x8, .int .i64 (k : Int), vc, .map (some mb), .slice none 0 0]
theorem ThX.gr {W0 w w' : World} {v1 v2 v3 v4 v5 v : Value} {N : Nat} {res : Int} {sl : List Int} (h : ThX W0 v1 v2 v3 v4 v5 N res sl v w) (g : Gr w w') : ThX W0 v1 v2 v3 v4 v5 N res sl v w' := by
  obtain ⟨vs, e, r⟩ := h
  exact ⟨vs, e, r.mono fun b hb hl => ⟨g.block b hl (by simp), hb.1, hb.2.gr g⟩⟩
theorem ThY.gr {W0 w w' : World} {v : Value} (h : ThY W0 v w) (g : Gr w w') : ThY W0 v w' := by
  obtain ⟨mb, e, h1, h2⟩ := h
  exact ⟨mb, e, h1, (g.block mb (Array.getElem?_eq_some_iff.1 h2).1 (by simp)).trans h2⟩
theorem ThZ.gr {W0 w w' : World} {v : Value} (h : ThZ W0 v w) (g : Gr w w') : ThZ W0 v w' := by
  obtain ⟨mb, e, h1, h2⟩ := h
  exact ⟨mb, e, h1, (g.block mb (Array.getElem?_eq_some_iff.1 h2).1 (by simp)).trans h2⟩
theorem MapIs.empty {w : World} {b : Nat} (h : w.heap[b]? = some (.map #[] 0)) : MapIs w b 0 (fun _ => none) := by
  obtain ⟨D, ⟨es, clock, hb, r⟩, h2⟩ := (MapIs.made w).is
  rw [heap_alloc_new] at hb
  simp only [Option.some.injEq, Obj.map.injEq] at hb
  obtain ⟨rfl, rfl⟩ := hb
  exact ⟨D, ⟨_, _, h, r⟩, h2⟩
theorem undone_nn (n : Nat) : undone n (fun _ => (none : Option (List Int)).isSome) = n := undone_none n
theorem unit_small {u : PUnit} (h : unitOk u = true) : u.consts.length ≤ 50 ∧ u.funcs.length ≤ 30 ∧ u.imports.length ≤ 20 ∧ ∀ f ∈ u.funcs, f.params.length ≤ 6 ∧ f.locals.length ≤ 10 ∧ 1 ≤ f.code.length ∧ f.code.length ≤ 200 ∧ f.code.all insOk = true := by
  unfold unitOk constsOk funcsOk importsOk wB at h
  simp only [Bool.and_eq_true, decide_eq_true_eq] at h
  obtain ⟨-, h2, ⟨h3, h4⟩, ⟨h5, -⟩, -⟩ := h
  refine ⟨by omega, by omega, by omega, fun f hf => ?_⟩
  have := List.all_eq_true.1 h4 f hf
  unfold funcOk sigOk codeOk wB at this
  simp only [Bool.and_eq_true, decide_eq_true_eq] at this
  obtain ⟨⟨p1, -⟩, q1, -, ⟨c1, c2⟩⟩ := this
  exact ⟨by omega, by omega, by omega, by omega, c2⟩

set_option maxRecDepth 100000 in
set_option maxHeartbeats 4000000 in
theorem through_any (u : PUnit) : ThroughC u := by
  intro V vu hR
  have HRU := hide hR
  obtain ⟨v1, v2, v3, v4, v5, rfl, h1, h2, h3, h4, h5⟩ := hR
  obtain ⟨a1, c1, rfl⟩ := h1.shape
  obtain ⟨a2, c2, rfl⟩ := h2.shape
  obtain ⟨a4, c4, rfl⟩ := h4.shape
  obtain ⟨a5, c5, rfl⟩ := h5.shape
  have H3 := hide h3
  have H1 := hide h1
  have H4 := hide h4
  obtain ⟨a3, c3, rfl, hm3, hc3⟩ := h3
  have HC3 := hide hc3
  unfold maxLen at hm3
  clear h1 h2 h4 h5 hc3
  have HGA := hide (Gr.alloc (Gr.refl V) (.cells #[.slice a1 u.shapes.length c1, .slice a2 u.consts.length c2, .slice a3 u.funcs.length c3, .slice a4 u.imports.length c4, .slice a5 u.exports.length c5] 29))
  have HUN := hide (unit_any u (.agg #[.slice a1 u.shapes.length c1, .slice a2 u.consts.length c2, .slice a3 u.funcs.length c3, .slice a4 u.imports.length c4, .slice a5 u.exports.length c5]) 1 0 _ (HRU.out.gr HGA.out))
  cases hok : unitOk u with
  | false =>
    have HV : Hid (verifyP u = (1, 0, 0)) := hide (by unfold verifyP; rw [hok]; rfl)
    rw [hok, ends_f] at HUN
    clear hok
    go_enter Tryz.func18, Tryz.ntmps18
    go_wp2_with fail
    refine HUN.out.mono ?_
    rintro x w1 ⟨rfl, hg1⟩
    refine ⟨rfl, ?_, .inr ?_⟩
    · exact (Below.refl V.heap.size V).grown (HGA.out.trans hg1) (Nat.le_refl _) (by simp)
    · rw [HV.out]; rfl
  | true =>
    have HV : Hid (verifyP u = funcsP u 0 u.funcs) := hide (by unfold verifyP; rw [hok]; rfl)
    have HOK := hide hok
    rw [hok, ends_t] at HUN
    clear hok
    go_enter Tryz.func18, Tryz.ntmps18
    go_wp2_with fail
    refine HUN.out.mono ?_
    rintro x w1 ⟨rfl, hg1⟩
    have HG1 := hide hg1
    have KB : Hid (∀ w', Gr (V.alloc (.cells #[.slice a1 u.shapes.length c1, .slice a2 u.consts.length c2, .slice a3 u.funcs.length c3, .slice a4 u.imports.length c4, .slice a5 u.exports.length c5] 29)) w' → w'.cell? ⟨V.heap.size, 0, none⟩ = some (.slice a1 u.shapes.length c1) ∧ w'.cell? ⟨V.heap.size, 1, none⟩ = some (.slice a2 u.consts.length c2) ∧ w'.cell? ⟨V.heap.size, 2, none⟩ = some (.slice a3 u.funcs.length c3) ∧ w'.cell? ⟨V.heap.size, 3, none⟩ = some (.slice a4 u.imports.length c4) ∧ w'.cell? ⟨V.heap.size, 4, none⟩ = some (.slice a5 u.exports.length c5)) := hide (fun w' g => by
      have e0 := (g.block V.heap.size (by simp) (by simp)).trans (heap_alloc_new V _)
      refine ⟨?_, ?_, ?_, ?_, ?_⟩ <;> (rw [heap_cell_ e0]; rfl))
    obtain ⟨s0, s1, s2, s3, s4⟩ := KB.out w1 hg1
    clear hg1 HUN
    go_wp2_with fail
    go_loopw [11] (fun i wr => ∃ k : Nat, i = .int .i64 (k : Int) ∧ k ≤ u.funcs.length ∧ verifyP u = funcsP u k (u.funcs.drop k) ∧ Gr (V.alloc (.cells #[.slice a1 u.shapes.length c1, .slice a2 u.consts.length c2, .slice a3 u.funcs.length c3, .slice a4 u.imports.length c4, .slice a5 u.exports.length c5] 29)) wr) (fun i _ => u.funcs.length - (intOf i).toNat)
    case atStart => exact ⟨0, rfl, Nat.zero_le _, HV.out, HG1.out⟩
    case round =>
      obtain ⟨k, rfl, hk, hv, hg⟩ := hrel
      have HVk := hide hv
      have HGk := hide hg
      obtain ⟨e0, e1, e2, e3, e4⟩ := KB.out wr hg
      clear hv hg HV HG1 s0 s1 s2 s3 s4
      by_cases hlt : k < u.funcs.length
      · obtain ⟨f, hf⟩ := getElem?_lt hlt
        have hfm : f ∈ u.funcs := List.mem_of_getElem? hf
        obtain ⟨b, off, vp, vl, vc, rfl, f0, f1, f2, f3, hRp, hRl, hRc⟩ := HC3.out k f hf
        obtain ⟨ap, cp, rfl⟩ := hRp.shape
        obtain ⟨al, cl, rfl⟩ := hRl.shape
        obtain ⟨ac, cc, rfl⟩ := hRc.shape
        have hgw : Gr V wr := HGA.out.trans HGk.out
        have f0 := hgw.cell f0 (by simp)
        have f1 := hgw.cell f1 (by simp)
        have f2 := hgw.cell f2 (by simp)
        have f3 := hgw.cell f3 (by simp)
        have hki : (k : Int) < (u.funcs.length : Int) := by omega
        have hw : IntKind.i64.wrap ((k : Int) + 1) = (k : Int) + 1 := Go.IntWalk.i64_in _ (by omega)
        obtain ⟨us2, us3, us4, usf⟩ := unit_small HOK.out
        obtain ⟨hpl, hll, hcl1, hcl2, hall⟩ := usf f hfm
        have hpl : f.params.length ≤ 10000 := by omega
        have hll : f.locals.length ≤ 10000 := by omega
        have HST : Hid (verifyP u = match wrongP u f with | some q => (10, k, q) | none => funcsP u (k + 1) (u.funcs.drop (k + 1))) := hide (by
          rw [HVk.out, List.drop_eq_getElem_cons hlt]
          have : u.funcs[k] = f := by rw [List.getElem?_eq_getElem hlt] at hf; exact Option.some.inj hf
          rw [this, funcsP]
          cases wrongP u f <;> rfl)
        clear hf HVk
        have hga2 := Gr.alloc (Gr.refl wr) (.cells #[.slice ap f.params.length cp, .int .i64 f.result, .slice al f.locals.length cl, .slice ac f.code.length cc] 47)
        have HGF := hide hga2
        have HFB := hide (heap_alloc_new wr (.cells #[.slice ap f.params.length cp, .int .i64 f.result, .slice al f.locals.length cl, .slice ac f.code.length cc] 47))
        have HSZ : Hid ((wr.alloc (.cells #[.slice ap f.params.length cp, .int .i64 f.result, .slice al f.locals.length cl, .slice ac f.code.length cc] 47)).heap.size = wr.heap.size + 1) := hide (by simp)
        go_upto_region 5 with fail
        generalize wr.alloc (.cells #[.slice ap f.params.length cp, .int .i64 f.result, .slice al f.locals.length cl, .slice ac f.code.length cc] 47) = W0 at HGF HFB HSZ ⊢
        have HRp := hide ((hRp.gr hgw).gr HGF.out)
        have HRl := hide ((hRl.gr hgw).gr HGF.out)
        have HGV := hide (hgw.trans HGF.out)
        have HGU := hide (HGk.out.trans HGF.out)
        have HRc := hide ((hRc.gr hgw).gr HGF.out)
        have HLU : Hid (LkU W0 u f (.slice a1 u.shapes.length c1) (.slice a2 u.consts.length c2) (.slice (some ⟨b, off, none⟩) u.funcs.length c3) (.slice a4 u.imports.length c4) (.slice a5 u.exports.length c5) (.slice ac f.code.length cc)) := hide ⟨H1.out.gr HGV.out, ⟨_, _, rfl⟩, H3.out.gr HGV.out, H4.out.gr HGV.out, ⟨_, _, _, rfl⟩, by omega, by omega, by omega, HRc.out, hall⟩
        have KS : Hid (∀ w', Gr W0 w' → w'.cell? ⟨V.heap.size, 0, none⟩ = some (.slice a1 u.shapes.length c1) ∧ w'.cell? ⟨V.heap.size, 1, none⟩ = some (.slice a2 u.consts.length c2) ∧ w'.cell? ⟨V.heap.size, 2, none⟩ = some (.slice (some ⟨b, off, none⟩) u.funcs.length c3) ∧ w'.cell? ⟨V.heap.size, 3, none⟩ = some (.slice a4 u.imports.length c4) ∧ w'.cell? ⟨V.heap.size, 4, none⟩ = some (.slice a5 u.exports.length c5) ∧ w'.cell? ⟨wr.heap.size, 0, none⟩ = some (.slice ap f.params.length cp) ∧ w'.cell? ⟨wr.heap.size, 1, none⟩ = some (.int .i64 f.result) ∧ w'.cell? ⟨wr.heap.size, 2, none⟩ = some (.slice al f.locals.length cl) ∧ w'.cell? ⟨wr.heap.size, 3, none⟩ = some (.slice ac f.code.length cc)) := hide (fun w' g => by
          obtain ⟨x0, x1, x2, x3, x4⟩ := KB.out w' (HGU.out.trans g)
          have hsz := HSZ.out
          have ef := (g.block wr.heap.size (by omega) (by simp)).trans HFB.out
          refine ⟨x0, x1, x2, x3, x4, ?_, ?_, ?_, ?_⟩ <;> (rw [heap_cell_ ef]; rfl))
        clear hRp hRl hRc hgw hga2 f0 f1 f2 f3 e0 e1 e2 e3 e4 usf
        refine wp_region_held_drew (S := (fun w' => w'.cell? ⟨V.heap.size, 0, none⟩ = some (.slice a1 u.shapes.length c1) ∧ w'.cell? ⟨V.heap.size, 1, none⟩ = some (.slice a2 u.consts.length c2) ∧ w'.cell? ⟨V.heap.size, 2, none⟩ = some (.slice (some ⟨b, off, none⟩) u.funcs.length c3) ∧ w'.cell? ⟨V.heap.size, 3, none⟩ = some (.slice a4 u.imports.length c4) ∧ w'.cell? ⟨V.heap.size, 4, none⟩ = some (.slice a5 u.exports.length c5) ∧ w'.cell? ⟨wr.heap.size, 0, none⟩ = some (.slice ap f.params.length cp) ∧ w'.cell? ⟨wr.heap.size, 1, none⟩ = some (.int .i64 f.result) ∧ w'.cell? ⟨wr.heap.size, 2, none⟩ = some (.slice al f.locals.length cl) ∧ w'.cell? ⟨wr.heap.size, 3, none⟩ = some (.slice ac f.code.length cc))) (by kernel_rfl) (KS.out _ (Gr.drew (Gr.refl _))) (fun hHeld => ?_)
        refine takeL (i := 0) (v := ?av0) rfl (by kernel_rfl) (by kernel_rfl) (by kernel_rfl) (by intro c a w h; exact h) (by rfl) ?ahy0 hHeld ?arest0
        case ahy0 => (intro w hSw; (try dsimp only at hSw); go_simp <;> with_reducible rfl)
        simp only [Act.put, List.setIfInBounds_toArray, List.set_cons_zero, List.set_cons_succ]
        refine takeL (i := 1) (v := ?av1) rfl (by kernel_rfl) (by kernel_rfl) (by kernel_rfl) (by intro c a w h; exact h) (by rfl) ?ahy1 hHeld ?arest1
        case ahy1 => (intro w hSw; (try dsimp only at hSw); go_simp <;> with_reducible rfl)
        simp only [Act.put, List.setIfInBounds_toArray, List.set_cons_zero, List.set_cons_succ]
        refine takeL (i := 3) (v := ?av3) rfl (by kernel_rfl) (by kernel_rfl) (by kernel_rfl) (by intro c a w h; exact h) (by rfl) ?ahy3 hHeld ?arest3
        case ahy3 => (intro w hSw; (try dsimp only at hSw); go_simp <;> with_reducible rfl)
        simp only [Act.put, List.setIfInBounds_toArray, List.set_cons_zero, List.set_cons_succ]
        refine takeL (i := 4) (v := ?av4) rfl (by kernel_rfl) (by kernel_rfl) (by kernel_rfl) (by intro c a w h; exact h) (by rfl) ?ahy4 hHeld ?arest4
        case ahy4 => (intro w hSw; (try dsimp only at hSw); go_simp <;> with_reducible rfl)
        simp only [Act.put, List.setIfInBounds_toArray, List.set_cons_zero, List.set_cons_succ]
        refine takeL (i := 5) (v := ?av5) rfl (by kernel_rfl) (by kernel_rfl) (by kernel_rfl) (by intro c a w h; exact h) (by rfl) ?ahy5 hHeld ?arest5
        case ahy5 => (intro w hSw; (try dsimp only at hSw); go_simp <;> with_reducible rfl)
        simp only [Act.put, List.setIfInBounds_toArray, List.set_cons_zero, List.set_cons_succ]
        refine phase3t (x := 2) (y := 6) (z := 8) (t := 7) rfl rfl rfl rfl (by kernel_rfl) (by kernel_rfl) (by kernel_rfl) (by kernel_rfl) (by kernel_rfl) (by decide) (by decide) (by decide) (by decide) (by kernel_rfl) (by kernel_rfl) (by kernel_rfl) (by kernel_rfl) (by kernel_rfl) (by kernel_rfl) (by kernel_rfl) (by kernel_rfl) (by kernel_rfl) (by kernel_rfl) (by kernel_rfl) (by rfl) (by rfl) (by rfl) (fun c a d v w h => by cases d <;> exact h) (fun c a d v w h => by cases d <;> exact h) (fun w' => Gr W0 w') (ThX W0 (.slice a1 u.shapes.length c1) (.slice a2 u.consts.length c2) (.slice (some ⟨b, off, none⟩) u.funcs.length c3) (.slice a4 u.imports.length c4) (.slice a5 u.exports.length c5) f.code.length f.result (f.params ++ f.locals)) (ThY W0) (ThZ W0) (ThT k (.slice ac f.code.length cc)) (fun w' g => KS.out w' g) (Gr.drew (Gr.refl _)) ?stX ?stY ?stZ ?stT ?stR
        case stX =>
          intro w' j K hK
          have HK := hide hK
          clear hK
          refine wp_calls 32 _ _ rfl #[.agg #[.slice a1 u.shapes.length c1, .slice a2 u.consts.length c2, .slice (some ⟨b, off, none⟩) u.funcs.length c3, .slice a4 u.imports.length c4, .slice a5 u.exports.length c5], .agg #[.slice ap f.params.length cp, .int .i64 f.result, .slice al f.locals.length cl, .slice ac f.code.length cc]] (by simp [Act.eval]) (Tryz.callScope _ _) ((scope_any _ _ _ _ _ _ _ _ f w' (by simp) (HRp.out.gr j) (HRl.out.gr j) ⟨_, _, rfl⟩ hpl hll).mono ?_)
          rintro x w2 ⟨vs, rfl, hg, hri⟩
          exact .inl ⟨_, rfl, HK.out _ _ ⟨j.trans hg, ⟨vs, rfl, hri.mono fun b hb hl => ⟨rfl, Nat.le_trans j.size hb.1, hb.2⟩⟩, fun u h => h.gr hg, fun u h => h.gr hg⟩⟩
        case stY =>
          intro w' j K hK
          have HK := hide hK
          clear hK
          go_simp
          exact HK.out (.map (some w'.heap.size)) _ ⟨j.alloc _, ⟨_, rfl, j.size, heap_alloc_new w' _⟩, fun u h => h.gr ((Gr.refl w').alloc _), fun u h => h.gr ((Gr.refl w').alloc _)⟩
        case stZ =>
          intro w' j K hK
          have HK := hide hK
          clear hK
          go_simp
          exact HK.out (.pointer (some ⟨w'.heap.size, 0, none⟩)) _ ⟨j.alloc _, ⟨_, rfl, j.size, heap_alloc_new w' _⟩, fun u h => h.gr ((Gr.refl w').alloc _), fun u h => h.gr ((Gr.refl w').alloc _)⟩
        case stT =>
          rintro vx vy w' j ⟨vs, rfl, hri⟩ ⟨mb, rfl, hmb, hmh⟩
          obtain ⟨as_, cs, rfl⟩ := hri.to.shape
          clear hri hmh
          refine ⟨_, ⟨_, _, _, _, _, _, _, _, _, rfl, rfl, rfl⟩, by rfl, ?_⟩
          intro w hSw
          simp only [Act.put, List.setIfInBounds_toArray, List.set_cons_zero, List.set_cons_succ]
          go_simp
        case stR =>
          rintro vx vy vz vt w2 j ⟨vs, rfl, hri⟩ ⟨mb, rfl, hmb, hmh⟩ ⟨lb, rfl, hlb, hlh⟩ ⟨x1, x2, x3, x4, x5, x6, x7, x8, mb2, e1, e2, rfl⟩
          simp only [Value.agg.injEq, Array.mk.injEq, List.cons.injEq, and_true, Value.map.injEq, Option.some.injEq] at e1 e2
          obtain ⟨rfl, rfl, rfl, rfl, rfl, rfl, rfl, rfl⟩ := e1
          obtain rfl := e2
          obtain ⟨as_, cs, rfl⟩ := hri.to.shape
          have hHeld := KS.out w2 j
          have HJ := hide j
          have HRI := hide hri
          have HMH := hide hmh
          have HLH := hide hlh
          clear hri j hmh hlh
          simp only [Act.put, List.setIfInBounds_toArray, List.set_cons_zero, List.set_cons_succ]
          refine aloneL (i := 9) rfl (by kernel_rfl) (fun K hK => ?_)
          refine want_yes (by rfl) (wp_store_row (P := Tryz.prog) 87 _ _ rfl lb #[.slice a1 u.shapes.length c1, .slice a2 u.consts.length c2, .slice (some ⟨b, off, none⟩) u.funcs.length c3, .slice a4 u.imports.length c4, .slice a5 u.exports.length c5, .slice as_ (f.params ++ f.locals).length cs, .int .i64 (f.code.length : Int), .int .i64 f.result, .int .i64 (k : Int), .slice ac f.code.length cc, .map (some mb), .slice none 0 0] (by rfl) (by simp [Act.eval]) 87 _ HLH.out Tryz.infLooker rfl (by simp [Value.oneCell']) ?_)
          refine hK.out _ _ (KS.out _ (gr_row HJ.out hlb)) (fun hHeld => ?_)
          clear hK
          try simp only [Act.put, List.setIfInBounds_toArray, List.set_cons_zero, List.set_cons_succ]
          refine wpAnyH_done (by kernel_rfl) ?_ _
          have hLb : (w2.setRow lb #[.slice a1 u.shapes.length c1, .slice a2 u.consts.length c2, .slice (some ⟨b, off, none⟩) u.funcs.length c3, .slice a4 u.imports.length c4, .slice a5 u.exports.length c5, .slice as_ (f.params ++ f.locals).length cs, .int .i64 (f.code.length : Int), .int .i64 f.result, .int .i64 (k : Int), .slice ac f.code.length cc, .map (some mb), .slice none 0 0]).heap[lb]? = some (.cells #[.slice a1 u.shapes.length c1, .slice a2 u.consts.length c2, .slice (some ⟨b, off, none⟩) u.funcs.length c3, .slice a4 u.imports.length c4, .slice a5 u.exports.length c5, .slice as_ (f.params ++ f.locals).length cs, .int .i64 (f.code.length : Int), .int .i64 f.result, .int .i64 (k : Int), .slice ac f.code.length cc, .map (some mb), .slice none 0 0] 87 (0, 0)) := setRow_heap w2 lb _ _ _ _ HLH.out
          have hml : ¬ mb = lb := fun e => by have h1 := HMH.out; rw [e, HLH.out] at h1; cases h1
          have hMb : (w2.setRow lb #[.slice a1 u.shapes.length c1, .slice a2 u.consts.length c2, .slice (some ⟨b, off, none⟩) u.funcs.length c3, .slice a4 u.imports.length c4, .slice a5 u.exports.length c5, .slice as_ (f.params ++ f.locals).length cs, .int .i64 (f.code.length : Int), .int .i64 f.result, .int .i64 (k : Int), .slice ac f.code.length cc, .map (some mb), .slice none 0 0]).heap[mb]? = some (.map #[] 0) := (setRow_other w2 lb mb _ hml).trans HMH.out
          have hlls : lb < (w2.setRow lb #[.slice a1 u.shapes.length c1, .slice a2 u.consts.length c2, .slice (some ⟨b, off, none⟩) u.funcs.length c3, .slice a4 u.imports.length c4, .slice a5 u.exports.length c5, .slice as_ (f.params ++ f.locals).length cs, .int .i64 (f.code.length : Int), .int .i64 f.result, .int .i64 (k : Int), .slice ac f.code.length cc, .map (some mb), .slice none 0 0]).heap.size := (Array.getElem?_eq_some_iff.1 hLb).1
          have hmls : mb < (w2.setRow lb #[.slice a1 u.shapes.length c1, .slice a2 u.consts.length c2, .slice (some ⟨b, off, none⟩) u.funcs.length c3, .slice a4 u.imports.length c4, .slice a5 u.exports.length c5, .slice as_ (f.params ++ f.locals).length cs, .int .i64 (f.code.length : Int), .int .i64 f.result, .int .i64 (k : Int), .slice ac f.code.length cc, .map (some mb), .slice none 0 0]).heap.size := (Array.getElem?_eq_some_iff.1 hMb).1
          have hGrF : Gr W0 (w2.setRow lb #[.slice a1 u.shapes.length c1, .slice a2 u.consts.length c2, .slice (some ⟨b, off, none⟩) u.funcs.length c3, .slice a4 u.imports.length c4, .slice a5 u.exports.length c5, .slice as_ (f.params ++ f.locals).length cs, .int .i64 (f.code.length : Int), .int .i64 f.result, .int .i64 (k : Int), .slice ac f.code.length cc, .map (some mb), .slice none 0 0]) := gr_row HJ.out hlb
          have hSl : RIntsQ (fun bb => ¬ bb = lb ∧ ¬ bb = mb ∧ bb < (w2.setRow lb #[.slice a1 u.shapes.length c1, .slice a2 u.consts.length c2, .slice (some ⟨b, off, none⟩) u.funcs.length c3, .slice a4 u.imports.length c4, .slice a5 u.exports.length c5, .slice as_ (f.params ++ f.locals).length cs, .int .i64 (f.code.length : Int), .int .i64 f.result, .int .i64 (k : Int), .slice ac f.code.length cc, .map (some mb), .slice none 0 0]).heap.size) (w2.setRow lb #[.slice a1 u.shapes.length c1, .slice a2 u.consts.length c2, .slice (some ⟨b, off, none⟩) u.funcs.length c3, .slice a4 u.imports.length c4, .slice a5 u.exports.length c5, .slice as_ (f.params ++ f.locals).length cs, .int .i64 (f.code.length : Int), .int .i64 f.result, .int .i64 (k : Int), .slice ac f.code.length cc, .map (some mb), .slice none 0 0]) (.slice as_ (f.params ++ f.locals).length cs) (f.params ++ f.locals) := HRI.out.mono fun bb hb hl => by
            obtain ⟨arr, harr⟩ := hb.2
            have n1 : ¬ bb = lb := fun e => by rw [e, HLH.out] at harr; cases harr
            have n2 : ¬ bb = mb := fun e => by rw [e, HMH.out] at harr; cases harr
            exact ⟨setRow_other w2 lb bb _ n1, n1, n2, by rw [setRow_size]; exact hl⟩
          have HLk : Hid (LkAt W0 (w2.setRow lb #[.slice a1 u.shapes.length c1, .slice a2 u.consts.length c2, .slice (some ⟨b, off, none⟩) u.funcs.length c3, .slice a4 u.imports.length c4, .slice a5 u.exports.length c5, .slice as_ (f.params ++ f.locals).length cs, .int .i64 (f.code.length : Int), .int .i64 f.result, .int .i64 (k : Int), .slice ac f.code.length cc, .map (some mb), .slice none 0 0]) lb mb (w2.setRow lb #[.slice a1 u.shapes.length c1, .slice a2 u.consts.length c2, .slice (some ⟨b, off, none⟩) u.funcs.length c3, .slice a4 u.imports.length c4, .slice a5 u.exports.length c5, .slice as_ (f.params ++ f.locals).length cs, .int .i64 (f.code.length : Int), .int .i64 f.result, .int .i64 (k : Int), .slice ac f.code.length cc, .map (some mb), .slice none 0 0]).heap.size (.slice a1 u.shapes.length c1) (.slice a2 u.consts.length c2) (.slice (some ⟨b, off, none⟩) u.funcs.length c3) (.slice a4 u.imports.length c4) (.slice a5 u.exports.length c5) (.slice as_ (f.params ++ f.locals).length cs) (f.params ++ f.locals) f.code.length f.result k (.slice ac f.code.length cc) (.slice none 0 0) (fun _ => none) (fun _ => false) (fun _ => none) [] 0) := hide
            ⟨hLb, World.ownsRow_nil _ _ _ _, hlls, Nat.le_refl _, MapIs.empty hMb, hmls, hml, (fun j s h => by cases h), (fun j s h => by cases h), (fun j h => rfl), Wait.empty _ _, by rw [undone_nn]; omega, by omega, by simp, hSl, (Below.refl W0.heap.size W0).grown hGrF (Nat.le_refl _) (by simp), hlb, hmb⟩
          have HTH := hide (through_of W0 _ lb mb _ _ _ _ _ _ _ _ u f k _ (look_any W0 lb mb _ _ _ _ _ _ (.slice as_ (f.params ++ f.locals).length cs) u f k _ HLU.out) HOK.out hfm (by omega) HLk.out)
          clear HLk hSl hLb hMb hGrF KS
          generalize w2.setRow lb #[.slice a1 u.shapes.length c1, .slice a2 u.consts.length c2, .slice (some ⟨b, off, none⟩) u.funcs.length c3, .slice a4 u.imports.length c4, .slice a5 u.exports.length c5, .slice as_ (f.params ++ f.locals).length cs, .int .i64 (f.code.length : Int), .int .i64 f.result, .int .i64 (k : Int), .slice ac f.code.length cc, .map (some mb), .slice none 0 0] = wf at HTH hlls hmls ⊢
          go_wp2_with fail
          refine HTH.out.mono ?_
          intro x w3 h3
          unfold ThruR at h3
          obtain ⟨hlow, hres⟩ := h3
          have hgf : Gr W0 w3 := below_gr_ hlow
          have HG3 := hide hgf
          cases hwp : wrongP u f with
          | some q =>
            rw [hwp] at hres
            simp only [] at hres
            subst hres
            refine ⟨rfl, (Below.refl V.heap.size V).grown (HGV.out.trans hgf) (Nat.le_refl _) (by simp), .inr ?_⟩
            have e : verifyP u = (10, k, q) := by rw [HST.out, hwp]
            rw [e]; rfl
          | none =>
            rw [hwp] at hres
            simp only [] at hres
            subst hres
            have HV2 : Hid (verifyP u = funcsP u (k + 1) (u.funcs.drop (k + 1))) := hide (by rw [HST.out, hwp])
            clear hwp hlow hgf HTH HST
            go_wp2_with fail
            exact ⟨⟨k + 1, by simp, hlt, HV2.out, HGU.out.trans HG3.out⟩, by simp [intOf]; omega⟩

      · have hkk : k = u.funcs.length := by omega
        subst hkk
        have HV2 : Hid (verifyP u = (0, 0, 0)) := hide (by rw [HVk.out, List.drop_length]; rfl)
        clear hlt hk HVk
        go_wp2_with fail
        go_end0
        exact ⟨(Below.refl V.heap.size V).grown (HGA.out.trans HGk.out) (Nat.le_refl _) (by simp), .inl ⟨rfl, HV2.out⟩⟩
end Go.Proofs.YtkgncijcnlfhiabGreat

