import Derived.Test.YtkgncijcnlfhiaaDoorJ2z
namespace Go.Proofs.YtkgncijcnlfhiaaDoor
set_option linter.unusedVariables false
set_option linter.unusedSimpArgs false
open Go.RowKit
attribute [local go_sem ↓] Go.wp_at_zero Go.wp_at_succ
def anyR : List Int → List Int → Int → Int
  | t :: ts, s :: ss, a => anyR ts ss (if t < 0 then s else a)
  | _, _, a => a
theorem anyR_nn : ∀ (ts ss : List Int) (a : Int), (∀ t ∈ ts, 0 ≤ t) → anyR ts ss a = a
  | [], _, _, _ => by simp [anyR]
  | _ :: _, [], _, _ => by simp [anyR]
  | t :: ts, s :: ss, a, h => by
    have ht : ¬ t < 0 := by have := h t (by simp); omega
    rw [anyR, if_neg ht, anyR_nn ts ss a (fun x hx => h x (by simp [hx]))]
theorem anyP_nn : ∀ (ts ss : List Int), (∀ t ∈ ts, 0 ≤ t) → anyP ts ss = 0
  | [], _, _ => by simp [anyP]
  | _ :: _, [], _ => by simp [anyP]
  | t :: ts, s :: ss, h => by
    have ht : ¬ t < 0 := by have := h t (by simp); omega
    rw [anyP, if_neg ht, anyP_nn ts ss (fun x hx => h x (by simp [hx]))]
theorem anyR_eq {ts ss : List Int} (h : ts = [-1] ∨ ∀ t ∈ ts, 0 ≤ t) : anyR ts ss 0 = anyP ts ss := by
  rcases h with rfl | h
  · cases ss with
    | nil => rfl
    | cons s ss => cases ss <;> simp [anyR, anyP]
  · rw [anyR_nn ts ss 0 h, anyP_nn ts ss h]
theorem fitsP_step {ts ss : List Int} {k : Nat} (h1 : k < ts.length) (h2 : k < ss.length) : fitsP (ts.drop k) (ss.drop k) = ((decide (ts[k] < 0) || decide (ts[k] = ss[k])) && fitsP (ts.drop (k + 1)) (ss.drop (k + 1))) := by
  rw [List.drop_eq_getElem_cons h1, List.drop_eq_getElem_cons h2, fitsP]
theorem anyR_step {ts ss : List Int} {k : Nat} {a : Int} (h1 : k < ts.length) (h2 : k < ss.length) : anyR (ts.drop k) (ss.drop k) a = anyR (ts.drop (k + 1)) (ss.drop (k + 1)) (if ts[k] < 0 then ss[k] else a) := by
  rw [List.drop_eq_getElem_cons h1, List.drop_eq_getElem_cons h2, anyR]
def DonR (u : PUnit) (f : PFunc) (i : PIns) (s : List Int) (w : World) (x : Ending) (w' : World) : Prop := Gr w w' ∧ ∃ v out, x = .returned (.tuple #[v, .bool (doneP u f i s).isSome]) ∧ RIntsQ (fun b => w.heap.size ≤ b) w' v out ∧ (∀ o, doneP u f i s = some o → o = out)
theorem getD_lt {l : List Int} {k : Nat} (h : k < l.length) : l.getD k 0 = l[k] := by rw [List.getD_eq_getElem?_getD, List.getElem?_eq_getElem h]; rfl

set_option maxRecDepth 100000 in
set_option maxHeartbeats 4000000 in
theorem done_ref (u : PUnit) (f : PFunc) (i : PIns) (s : List Int) (hi : insOk i = true) (hef : ∀ ts ps, effP u f i = some (ts, ps) → ts = [-1] ∨ ∀ t ∈ ts, 0 ≤ t) (v1 v2 v3 v4 v5 vp vl vc vst : Value) (w : World) (hU : RUnit w (.agg #[v1, v2, v3, v4, v5]) u) (hp : RInts w vp f.params) (hl : RInts w vl f.locals) (hc : ∃ a c, vc = .slice a f.code.length c) (hs : RInts w vst s) (hscap : ∃ a c, vst = .slice a s.length c ∧ s.length ≤ c) (hsl : s.length ≤ 20)
    (hE : ∀ V, Gr w V → Calls Tryd.prog 152 #[.agg #[v1, v2, v3, v4, v5], .agg #[vp, .int .i64 f.result, vl, vc], .agg #[.int .i64 i.op, .int .i64 i.a, .int .i64 i.b]] V (ErfR (effP u f i) V)) :
    Calls Tryd.prog 112 #[.agg #[v1, v2, v3, v4, v5], .agg #[vp, .int .i64 f.result, vl, vc], .agg #[.int .i64 i.op, .int .i64 i.a, .int .i64 i.b], vst] w (DonR u f i s w) := by
  obtain ⟨x1, x2, x3, x4, x5, he, h1, h2, h3, h4, h5⟩ := hU
  simp only [Value.agg.injEq, Array.mk.injEq, List.cons.injEq, and_true] at he
  obtain ⟨rfl, rfl, rfl, rfl, rfl⟩ := he
  obtain ⟨a1, c1, rfl⟩ := h1.shape
  obtain ⟨a2, c2, rfl⟩ := h2.shape
  obtain ⟨a3, c3, rfl⟩ := h3.shape
  obtain ⟨a4, c4, rfl⟩ := h4.shape
  obtain ⟨a5, c5, rfl⟩ := h5.shape
  obtain ⟨ap, cp, rfl⟩ := hp.shape
  obtain ⟨al, cl, rfl⟩ := hl.shape
  obtain ⟨ac, cc, rfl⟩ := hc
  obtain ⟨ast, cst, rfl, hscap⟩ := hscap
  have HS := hide hs
  have HE := hide hE
  have HEF := hide hef
  have hg3 : Gr w (((w.alloc (.cells #[.slice a1 u.shapes.length c1, .slice a2 u.consts.length c2, .slice a3 u.funcs.length c3, .slice a4 u.imports.length c4, .slice a5 u.exports.length c5] 28)).alloc (.cells #[.slice ap f.params.length cp, .int .i64 f.result, .slice al f.locals.length cl, .slice ac f.code.length cc] 76)).alloc (.cells #[.int .i64 i.op, .int .i64 i.a, .int .i64 i.b] 91)) := (((Gr.refl w).alloc _).alloc _).alloc _
  have HG3 := hide hg3
  have k9 : (((w.alloc (.cells #[.slice a1 u.shapes.length c1, .slice a2 u.consts.length c2, .slice a3 u.funcs.length c3, .slice a4 u.imports.length c4, .slice a5 u.exports.length c5] 28)).alloc (.cells #[.slice ap f.params.length cp, .int .i64 f.result, .slice al f.locals.length cl, .slice ac f.code.length cc] 76)).alloc (.cells #[.int .i64 i.op, .int .i64 i.a, .int .i64 i.b] 91)).cell? ⟨w.heap.size + 1 + 1, 0, none⟩ = some (.int .i64 i.op) := by simp [go_sem]
  have K9 := hide k9
  clear h1 h2 h3 h4 h5 hp hl hs hE hef hg3 k9
  go_enter Tryd.func112, Tryd.ntmps112
  go_wp2_with fail
  refine (HE.out _ HG3.out).mono ?_
  rintro x w1 ⟨hg1, vt, vp, ts, ps, rfl, hrt, hrp, hlt, hlp, hsome⟩
  obtain ⟨xt, ct, rfl⟩ := hrt.shape
  obtain ⟨xp, cp2, rfl⟩ := hrp.shape
  have HG1 := hide (HG3.out.trans hg1)
  have k9 := hg1.cell K9.out (by simp)
  have HGA := hide (HG1.out.alloc (.cells #[.slice xt ts.length ct, .slice xp ps.length cp2] 223))
  have HRT := hide (hrt.gr ((Gr.refl w1).alloc (.cells #[.slice xt ts.length ct, .slice xp ps.length cp2] 223)))
  have HRP := hide (hrp.gr ((Gr.refl w1).alloc (.cells #[.slice xt ts.length ct, .slice xp ps.length cp2] 223)))
  have k9 := ((Gr.refl w1).alloc (.cells #[.slice xt ts.length ct, .slice xp ps.length cp2] 223)).cell k9 (by simp)
  have e0 : (w1.alloc (.cells #[.slice xt ts.length ct, .slice xp ps.length cp2] 223)).cell? ⟨w1.heap.size, 0, none⟩ = some (.slice xt ts.length ct) := by simp [go_sem]
  have e1 : (w1.alloc (.cells #[.slice xt ts.length ct, .slice xp ps.length cp2] 223)).cell? ⟨w1.heap.size, 1, none⟩ = some (.slice xp ps.length cp2) := by simp [go_sem]
  have E0 := hide e0
  have E1 := hide e1
  have K9 := hide k9
  have HSM := hide hsome
  have hw1 : IntKind.i64.wrap ((s.length : Int) - (ts.length : Int)) = (s.length : Int) - (ts.length : Int) := Go.IntWalk.i64_in _ (by omega)
  clear hg1 hrt hrp hsome e0 e1 k9 HE
  cases hef : effP u f i with
  | none =>
    have HD : Hid (doneP u f i s = none) := hide (by unfold doneP; rw [hef])
    simp only [Option.isSome_none]
    clear hef
    go_wp2_with fail
    go_ret2
    exact ⟨HGA.out, _, [], by rw [HD.out]; rfl, rintsq_nil _ _, fun o h => by rw [HD.out] at h; cases h⟩
  | some tp =>
    have hq := HSM.out (by rw [hef]; rfl)
    have HQ := hide hq
    have hts2 := HEF.out ts ps hq
    have HANY := hide (fun ss => anyR_eq (ss := ss) hts2)
    simp only [Option.isSome_some]
    clear hef hq hts2 HSM HEF
    by_cases hle : ts.length ≤ s.length
    · obtain ⟨d, hd⟩ : ∃ d : Nat, d = s.length - ts.length := ⟨_, rfl⟩
      have hw2 : (s.length : Int) - (ts.length : Int) = (d : Int) := by omega
      have hw3 := hw1.trans hw2
      have HDD := hide hd
      have hdl : d + ts.length = s.length := by omega
      have HDL := hide hdl
      have hdg : ¬ (d : Int) < 0 := by omega
      have hdd : decide ((d : Int) < 0) = false := by simp
      have HSL : Hid ((s.drop d).length = ts.length) := hide (by rw [List.length_drop]; omega)
      clear hw2 hd hw1
      go_wp2_with fail
      generalize hA : w1.alloc (.cells #[.slice xt ts.length ct, .slice xp ps.length cp2] 223) = A at HGA HRT HRP E0 E1 K9 ⊢
      clear hA
      generalize w1.heap.size = eb at E0 E1 ⊢
      go_loopw [13, 14] (fun va vk wr => ∃ (k : Nat) (y : Int), vk = .int .i64 (k : Int) ∧ k ≤ ts.length ∧ va = .int .i64 y ∧ fitsP ts (s.drop d) = fitsP (ts.drop k) ((s.drop d).drop k) ∧ anyR ts (s.drop d) 0 = anyR (ts.drop k) ((s.drop d).drop k) y ∧ ∃ n, wr = A.drewN n) (fun _ vk _ => ts.length - (intOf vk).toNat)
      case atStart => exact ⟨0, 0, rfl, Nat.zero_le _, rfl, rfl, rfl, 0, rfl⟩
      case round =>
        obtain ⟨k, y, rfl, hk, rfl, hfit, hany, nd, rfl⟩ := hrel
        have HF := hide hfit
        have HA := hide hany
        have e0 := E0.out
        clear hfit hany
        by_cases hlt2 : k < ts.length
        · obtain ⟨xt', ct', hxe, _, hxc⟩ := HRT.out
          obtain ⟨bt, ot, rfl, hct⟩ := hxc k hlt2
          simp only [Value.slice.injEq, true_and] at hxe
          obtain ⟨rfl, rfl⟩ := hxe
          obtain ⟨xs', cs', hse, _, hsc⟩ := HS.out
          obtain ⟨bs, os_, rfl, hcs⟩ := hsc (d + k) (by omega)
          simp only [Value.slice.injEq, true_and] at hse
          obtain ⟨rfl, rfl⟩ := hse
          have hcs := HGA.out.cell hcs (by simp)
          have hdk : d + k < s.length := by omega
          have hkd : k < (s.drop d).length := by rw [List.length_drop]; omega
          have hsk2 : (s.drop d)[k] = s[d + k] := List.getElem_drop
          rw [getD_lt hlt2] at hct
          rw [getD_lt hdk] at hcs
          have hF := fitsP_step hlt2 hkd
          have hA := anyR_step (a := y) hlt2 hkd
          rw [hsk2] at hF hA
          generalize ts[k] = tk at hct hF hA
          generalize s[d + k] = sk at hcs hF hA
          have HF2 := hide (HF.out.trans hF)
          have HA2 := hide (HA.out.trans hA)
          have hki : (k : Int) < (ts.length : Int) := by omega
          have hdki : (d : Int) + (k : Int) < (s.length : Int) := by omega
          have hwk : IntKind.i64.wrap ((d : Int) + (k : Int)) = (d : Int) + (k : Int) := Go.IntWalk.i64_in _ (by omega)
          have h0dk : (0 : Int) ≤ (d : Int) + (k : Int) := by omega
          have htn : ((d : Int) + (k : Int)).toNat = d + k := by omega
          have hwk1 : IntKind.i64.wrap ((k : Int) + 1) = (k : Int) + 1 := Go.IntWalk.i64_in _ (by omega)
          clear hxc hsc hF hA hsk2 HF HA hdk hkd hdd
          by_cases htk : tk < 0
          · have htd : decide (tk < 0) = true := by simpa using htk
            have HFE : Hid (fitsP ts (s.drop d) = fitsP (ts.drop (k + 1)) ((s.drop d).drop (k + 1))) := hide (by rw [HF2.out]; simp [htk])
            have HAE : Hid (anyR ts (s.drop d) 0 = anyR (ts.drop (k + 1)) ((s.drop d).drop (k + 1)) sk) := hide (by rw [HA2.out, if_pos htk])
            clear HF2 HA2
            go_wp2_with fail
            exact ⟨⟨k + 1, sk, by simp, hlt2, rfl, HFE.out, HAE.out, nd, rfl⟩, by simp [intOf]; omega⟩
          · have htd : decide (tk < 0) = false := by simpa using htk
            have HAE : Hid (anyR ts (s.drop d) 0 = anyR (ts.drop (k + 1)) ((s.drop d).drop (k + 1)) y) := hide (by rw [HA2.out, if_neg htk])
            clear HA2
            go_upto_region 11 with fail
            by_cases hts : tk = sk
            · have hb : (tk != sk) = false := by simp [hts]
              have HFE : Hid (fitsP ts (s.drop d) = fitsP (ts.drop (k + 1)) ((s.drop d).drop (k + 1))) := hide (by rw [HF2.out]; simp [hts])
              clear hts HF2
              refine wp_region_held_drew (S := (fun w' => w'.cell? ⟨eb, 0, none⟩ = some (.slice (some ⟨bt, ot, none⟩) ts.length ct) ∧ w'.cell? ⟨bt, ot + k, none⟩ = some (.int .i64 tk) ∧ w'.cell? ⟨bs, os_ + (d + k), none⟩ = some (.int .i64 sk))) (by kernel_rfl) (⟨e0, hct, hcs⟩) (fun hHeld => ?_)
              refine takeL (i := 0) (v := ?r11yv0) rfl (by kernel_rfl) (by kernel_rfl) (by kernel_rfl) (by intro c a w h; exact h) (by rfl) ?r11yhy0 hHeld ?r11yrest0
              case r11yhy0 => (intro w hSw; (try dsimp only at hSw); go_simp <;> with_reducible rfl)
              simp only [Act.put, List.setIfInBounds_toArray, List.set_cons_zero, List.set_cons_succ]
              refine takeL (i := 1) (v := ?r11yv1) rfl (by kernel_rfl) (by kernel_rfl) (by kernel_rfl) (by intro c a w h; exact h) (by rfl) ?r11yhy1 hHeld ?r11yrest1
              case r11yhy1 => (intro w hSw; (try dsimp only at hSw); go_simp <;> with_reducible rfl)
              simp only [Act.put, List.setIfInBounds_toArray, List.set_cons_zero, List.set_cons_succ]
              refine takeL (i := 2) (v := ?r11yv2) rfl (by kernel_rfl) (by kernel_rfl) (by kernel_rfl) (by intro c a w h; exact h) (by rfl) ?r11yhy2 hHeld ?r11yrest2
              case r11yhy2 => (intro w hSw; (try dsimp only at hSw); go_simp <;> with_reducible rfl)
              simp only [Act.put, List.setIfInBounds_toArray, List.set_cons_zero, List.set_cons_succ]
              refine takeL (i := 3) (v := ?r11yv3) rfl (by kernel_rfl) (by kernel_rfl) (by kernel_rfl) (by intro c a w h; exact h) (by rfl) ?r11yhy3 hHeld ?r11yrest3
              case r11yhy3 => (intro w hSw; (try dsimp only at hSw); go_simp <;> with_reducible rfl)
              simp only [Act.put, List.setIfInBounds_toArray, List.set_cons_zero, List.set_cons_succ]
              refine takeL (i := 4) (v := ?r11yv4) rfl (by kernel_rfl) (by kernel_rfl) (by kernel_rfl) (by intro c a w h; exact h) (by rfl) ?r11yhy4 hHeld ?r11yrest4
              case r11yhy4 => (intro w hSw; (try dsimp only at hSw); go_simp <;> with_reducible rfl)
              simp only [Act.put, List.setIfInBounds_toArray, List.set_cons_zero, List.set_cons_succ]
              refine takeL (i := 5) (v := ?r11yv5) rfl (by kernel_rfl) (by kernel_rfl) (by kernel_rfl) (by intro c a w h; exact h) (by rfl) ?r11yhy5 hHeld ?r11yrest5
              case r11yhy5 => (intro w hSw; (try dsimp only at hSw); go_simp <;> with_reducible rfl)
              simp only [Act.put, List.setIfInBounds_toArray, List.set_cons_zero, List.set_cons_succ]
              refine takeL (i := 6) (v := ?r11yv6) rfl (by kernel_rfl) (by kernel_rfl) (by kernel_rfl) (by intro c a w h; exact h) (by rfl) ?r11yhy6 hHeld ?r11yrest6
              case r11yhy6 => (intro w hSw; (try dsimp only at hSw); go_simp <;> with_reducible rfl)
              simp only [Act.put, List.setIfInBounds_toArray, List.set_cons_zero, List.set_cons_succ]
              refine takeL (i := 7) (v := ?r11yv7) rfl (by kernel_rfl) (by kernel_rfl) (by kernel_rfl) (by intro c a w h; exact h) (by rfl) ?r11yhy7 hHeld ?r11yrest7
              case r11yhy7 => (intro w hSw; (try dsimp only at hSw); go_simp <;> with_reducible rfl)
              simp only [Act.put, List.setIfInBounds_toArray, List.set_cons_zero, List.set_cons_succ]
              refine takeL (i := 8) (v := ?r11yv8) rfl (by kernel_rfl) (by kernel_rfl) (by kernel_rfl) (by intro c a w h; exact h) (by rfl) ?r11yhy8 hHeld ?r11yrest8
              case r11yhy8 => (intro w hSw; (try dsimp only at hSw); go_simp <;> with_reducible rfl)
              simp only [Act.put, List.setIfInBounds_toArray, List.set_cons_zero, List.set_cons_succ]
              refine takeL (i := 9) (v := ?r11yv9) rfl (by kernel_rfl) (by kernel_rfl) (by kernel_rfl) (by intro c a w h; exact h) (by rfl) ?r11yhy9 hHeld ?r11yrest9
              case r11yhy9 => (intro w hSw; (try dsimp only at hSw); go_simp <;> with_reducible rfl)
              simp only [Act.put, List.setIfInBounds_toArray, List.set_cons_zero, List.set_cons_succ]
              refine takeL (i := 10) (v := ?r11yv10) rfl (by kernel_rfl) (by kernel_rfl) (by kernel_rfl) (by intro c a w h; exact h) (by rfl) ?r11yhy10 hHeld ?r11yrest10
              case r11yhy10 => (intro w hSw; (try dsimp only at hSw); go_simp <;> with_reducible rfl)
              simp only [Act.put, List.setIfInBounds_toArray, List.set_cons_zero, List.set_cons_succ]
              refine takeL (i := 11) (v := ?r11yv11) rfl (by kernel_rfl) (by kernel_rfl) (by kernel_rfl) (by intro c a w h; exact h) (by rfl) ?r11yhy11 hHeld ?r11yrest11
              case r11yhy11 => (intro w hSw; (try dsimp only at hSw); go_simp <;> with_reducible rfl)
              simp only [Act.put, List.setIfInBounds_toArray, List.set_cons_zero, List.set_cons_succ]
              refine wpAnyH_done (by kernel_rfl) ?_ _
              go_wp2_with fail
              exact ⟨⟨k + 1, y, by simp, hlt2, rfl, HFE.out, HAE.out, nd + 1, rfl⟩, by simp [intOf]; omega⟩
            · have hb : (tk != sk) = true := by simp [hts]
              have HD : Hid (doneP u f i s = none) := hide (by
                have hff : fitsP ts (s.drop d) = false := by rw [HF2.out]; simp [hts, htk]
                unfold doneP; rw [HQ.out]; simp only []; rw [if_neg (by omega), ← HDD.out, if_pos hff])
              clear hts HF2
              refine wp_region_held_drew (S := (fun w' => w'.cell? ⟨eb, 0, none⟩ = some (.slice (some ⟨bt, ot, none⟩) ts.length ct) ∧ w'.cell? ⟨bt, ot + k, none⟩ = some (.int .i64 tk) ∧ w'.cell? ⟨bs, os_ + (d + k), none⟩ = some (.int .i64 sk))) (by kernel_rfl) (⟨e0, hct, hcs⟩) (fun hHeld => ?_)
              refine takeL (i := 0) (v := ?r11nv0) rfl (by kernel_rfl) (by kernel_rfl) (by kernel_rfl) (by intro c a w h; exact h) (by rfl) ?r11nhy0 hHeld ?r11nrest0
              case r11nhy0 => (intro w hSw; (try dsimp only at hSw); go_simp <;> with_reducible rfl)
              simp only [Act.put, List.setIfInBounds_toArray, List.set_cons_zero, List.set_cons_succ]
              refine takeL (i := 1) (v := ?r11nv1) rfl (by kernel_rfl) (by kernel_rfl) (by kernel_rfl) (by intro c a w h; exact h) (by rfl) ?r11nhy1 hHeld ?r11nrest1
              case r11nhy1 => (intro w hSw; (try dsimp only at hSw); go_simp <;> with_reducible rfl)
              simp only [Act.put, List.setIfInBounds_toArray, List.set_cons_zero, List.set_cons_succ]
              refine takeL (i := 2) (v := ?r11nv2) rfl (by kernel_rfl) (by kernel_rfl) (by kernel_rfl) (by intro c a w h; exact h) (by rfl) ?r11nhy2 hHeld ?r11nrest2
              case r11nhy2 => (intro w hSw; (try dsimp only at hSw); go_simp <;> with_reducible rfl)
              simp only [Act.put, List.setIfInBounds_toArray, List.set_cons_zero, List.set_cons_succ]
              refine takeL (i := 3) (v := ?r11nv3) rfl (by kernel_rfl) (by kernel_rfl) (by kernel_rfl) (by intro c a w h; exact h) (by rfl) ?r11nhy3 hHeld ?r11nrest3
              case r11nhy3 => (intro w hSw; (try dsimp only at hSw); go_simp <;> with_reducible rfl)
              simp only [Act.put, List.setIfInBounds_toArray, List.set_cons_zero, List.set_cons_succ]
              refine takeL (i := 4) (v := ?r11nv4) rfl (by kernel_rfl) (by kernel_rfl) (by kernel_rfl) (by intro c a w h; exact h) (by rfl) ?r11nhy4 hHeld ?r11nrest4
              case r11nhy4 => (intro w hSw; (try dsimp only at hSw); go_simp <;> with_reducible rfl)
              simp only [Act.put, List.setIfInBounds_toArray, List.set_cons_zero, List.set_cons_succ]
              refine takeL (i := 5) (v := ?r11nv5) rfl (by kernel_rfl) (by kernel_rfl) (by kernel_rfl) (by intro c a w h; exact h) (by rfl) ?r11nhy5 hHeld ?r11nrest5
              case r11nhy5 => (intro w hSw; (try dsimp only at hSw); go_simp <;> with_reducible rfl)
              simp only [Act.put, List.setIfInBounds_toArray, List.set_cons_zero, List.set_cons_succ]
              refine takeL (i := 6) (v := ?r11nv6) rfl (by kernel_rfl) (by kernel_rfl) (by kernel_rfl) (by intro c a w h; exact h) (by rfl) ?r11nhy6 hHeld ?r11nrest6
              case r11nhy6 => (intro w hSw; (try dsimp only at hSw); go_simp <;> with_reducible rfl)
              simp only [Act.put, List.setIfInBounds_toArray, List.set_cons_zero, List.set_cons_succ]
              refine takeL (i := 7) (v := ?r11nv7) rfl (by kernel_rfl) (by kernel_rfl) (by kernel_rfl) (by intro c a w h; exact h) (by rfl) ?r11nhy7 hHeld ?r11nrest7
              case r11nhy7 => (intro w hSw; (try dsimp only at hSw); go_simp <;> with_reducible rfl)
              simp only [Act.put, List.setIfInBounds_toArray, List.set_cons_zero, List.set_cons_succ]
              refine takeL (i := 8) (v := ?r11nv8) rfl (by kernel_rfl) (by kernel_rfl) (by kernel_rfl) (by intro c a w h; exact h) (by rfl) ?r11nhy8 hHeld ?r11nrest8
              case r11nhy8 => (intro w hSw; (try dsimp only at hSw); go_simp <;> with_reducible rfl)
              simp only [Act.put, List.setIfInBounds_toArray, List.set_cons_zero, List.set_cons_succ]
              refine takeL (i := 9) (v := ?r11nv9) rfl (by kernel_rfl) (by kernel_rfl) (by kernel_rfl) (by intro c a w h; exact h) (by rfl) ?r11nhy9 hHeld ?r11nrest9
              case r11nhy9 => (intro w hSw; (try dsimp only at hSw); go_simp <;> with_reducible rfl)
              simp only [Act.put, List.setIfInBounds_toArray, List.set_cons_zero, List.set_cons_succ]
              refine takeL (i := 10) (v := ?r11nv10) rfl (by kernel_rfl) (by kernel_rfl) (by kernel_rfl) (by intro c a w h; exact h) (by rfl) ?r11nhy10 hHeld ?r11nrest10
              case r11nhy10 => (intro w hSw; (try dsimp only at hSw); go_simp <;> with_reducible rfl)
              simp only [Act.put, List.setIfInBounds_toArray, List.set_cons_zero, List.set_cons_succ]
              refine takeL (i := 11) (v := ?r11nv11) rfl (by kernel_rfl) (by kernel_rfl) (by kernel_rfl) (by intro c a w h; exact h) (by rfl) ?r11nhy11 hHeld ?r11nrest11
              case r11nhy11 => (intro w hSw; (try dsimp only at hSw); go_simp <;> with_reducible rfl)
              simp only [Act.put, List.setIfInBounds_toArray, List.set_cons_zero, List.set_cons_succ]
              refine wpAnyH_done (by kernel_rfl) ?_ _
              go_wp2_with fail
              go_ret2
              exact ⟨gr_drewN_f HGA.out _, _, [], by rw [HD.out]; rfl, rintsq_nil _ _, fun o h => by rw [HD.out] at h; cases h⟩
        · have hkk : k = ts.length := by omega
          subst hkk
          have hfit : fitsP ts (s.drop d) = true := by
            rw [HF.out, List.drop_length, List.drop_of_length_le (by have := HSL.out; omega)]; rfl
          have hyy : y = anyP ts (s.drop d) := by
            rw [← HANY.out (s.drop d), HA.out, List.drop_length, List.drop_of_length_le (by have := HSL.out; omega)]; rfl
          have HDP : Hid (doneP u f i s = if (s.take d ++ ps.map fun p => if p < 0 then y else p).length ≤ 20 ∧ (i.op ≠ 14 ∨ s.length = ts.length) then some (s.take d ++ ps.map fun p => if p < 0 then y else p) else none) := hide (by
            unfold doneP; rw [HQ.out]; simp only []; rw [if_neg (by omega), ← HDD.out, hfit, ← hyy]; simp)
          have e1 := E1.out
          clear hfit hyy HF HA hlt2 e1 e0
          have HGB := hide (gr_drewN_f HGA.out nd)
          have HSB := hide ((HS.out.gr HGA.out).gr (gr_drewN_f (Gr.refl A) nd))
          have HPB := hide (HRP.out.gr (gr_drewN_f (Gr.refl A) nd))
          have e0 := (gr_drewN_f (Gr.refl A) nd).cell E0.out (by simp)
          have e1 := (gr_drewN_f (Gr.refl A) nd).cell E1.out (by simp)
          have k9 := (gr_drewN_f (Gr.refl A) nd).cell K9.out (by simp)
          generalize A.drewN nd = B at HGB HSB HPB e0 e1 k9 ⊢
          have hdc : d ≤ cst := by omega
          have hdci : (d : Int) ≤ (cst : Int) := by omega
          obtain ⟨v6, w6, hr6, ho6, hg6⟩ := run_app_ints (World.ownsRow_nil B B.heap.size 3 1) (rints_take HSB.out (show d ≤ s.length by omega)) (by rw [List.length_take]; omega) (Nat.le_refl _) 23
          have hlt6 : (s.take d).length = d := by rw [List.length_take]; omega
          rw [List.nil_append, Nat.zero_add, hlt6] at ho6
          have HR6 := hide hr6
          have HO6 := hide ho6
          have HG6 : Hid (Gr B w6) := hide hg6
          have E1B := hide e1
          have K9B := hide k9
          clear hr6 ho6 hg6 hlt6 e1 k9 HRT HRP E0 E1 K9 HGA HSL HANY
          go_upto_region 15 with (at_builtin; refine Lib.wpList_append_run _ rfl _ _ _ _ rfl _ _ rfl rfl _ _ HR6.out ?_)
          go_wp2_with fail
          go_loopw [15, 16] (fun v vk wr => ∃ (k : Nat) (l : List Int), vk = .int .i64 (k : Int) ∧ k ≤ ps.length ∧ l = s.take d ++ (ps.take k).map (fun p => if p < 0 then y else p) ∧ wr.ownsRow B.heap.size 3 1 v l.length (ivL l) ∧ Gr B wr) (fun _ vk _ => ps.length - (intOf vk).toNat)
          case atStart =>
            have hlt6 : (s.take d).length = d := by rw [List.length_take]; omega
            exact ⟨0, s.take d, rfl, Nat.zero_le _, by simp, by rw [hlt6]; exact HO6.out, HG6.out⟩
          case round =>
            obtain ⟨k, l, rfl, hk, hl, ho, hg⟩ := hrel
            have hll : l.length ≤ 1000 := by rw [hl, List.length_append, List.length_map, List.length_take, List.length_take]; omega
            obtain ⟨av, cv, rfl⟩ := own_shape_ ho
            have HO := hide ho
            have HL := hide hl
            have HG := hide hg
            have e1 := hg.cell E1B.out (by simp)
            have k9 := hg.cell K9B.out (by simp)
            clear ho hl hg HR6 HO6 HG6
            by_cases hlt3 : k < ps.length
            · obtain ⟨xp', cp', hxe, _, hxc⟩ := HPB.out
              obtain ⟨bp, op_, rfl, hcp⟩ := hxc k hlt3
              simp only [Value.slice.injEq, true_and] at hxe
              obtain ⟨rfl, rfl⟩ := hxe
              have hcp := HG.out.cell hcp (by simp)
              rw [getD_lt hlt3] at hcp
              have hki : (k : Int) < (ps.length : Int) := by omega
              have hwk1 : IntKind.i64.wrap ((k : Int) + 1) = (k : Int) + 1 := Go.IntWalk.i64_in _ (by omega)
              have HLN : Hid (∀ z, (if ps[k] < 0 then y else ps[k]) = z → l ++ [z] = s.take d ++ (ps.take (k + 1)).map (fun p => if p < 0 then y else p)) := hide (fun z hz => by
                rw [HL.out, List.take_succ_eq_append_getElem hlt3, List.map_append, List.append_assoc]; simp [hz])
              generalize ps[k] = pk at hcp HLN
              have HNX : Hid (∀ z : Int, ∃ v' w', (Builtin.append_ #[23, 23] 23 #[.slice av l.length cv, .slice (some ⟨wr.heap.size, 0, none⟩) 1 1]).run Tryd.prog (wr.alloc (.cells #[.int .i64 z] 3)) = .ok v' w' ∧ w'.ownsRow B.heap.size 3 1 v' (l ++ [z]).length (ivL (l ++ [z])) ∧ Gr B w') := hide (fun z => by
                have hga := Gr.alloc (Gr.refl wr) (.cells #[.int .i64 z] 3)
                have ho2 : (wr.alloc (.cells #[.int .i64 z] 3)).ownsRow B.heap.size 3 1 (.slice av l.length cv) l.length (ivL l) := HpRow.keep HO.out (fun b hb => hga.block b (World.ownsRow.lt HO.out b hb).2 (by simp))
                obtain ⟨v', w', hr, how, hgr⟩ := run_app_ints (w := wr.alloc (.cells #[.int .i64 z] 3)) ho2 (rints_one (b := wr.heap.size) (y := z) (by simp [go_sem])) (by simp; omega) (by have := HG.out.size; simp; omega) 23
                refine ⟨v', w', hr, ?_, gr_own (HG.out.trans hga) ho2 hgr⟩
                have e : ivL (l ++ [z]) = ivL l ++ ivL [z] := by simp [ivL]
                rw [e, List.length_append]; exact how)
              clear hxc HL HO
              by_cases hpk : pk < 0
              · have hpd : decide (pk < 0) = true := by simpa using hpk
                obtain ⟨v7, w7, hr7, ho7, hg7⟩ := HNX.out y
                have HR7 := hide hr7
                have HO7 := hide ho7
                have HG7 := hide hg7
                have HLL := hide (HLN.out y (by rw [if_pos hpk]))
                clear hr7 ho7 hg7 HNX HLN
                go_wp2_with (at_builtin; refine Lib.wpList_append_run _ rfl _ _ _ _ rfl _ _ rfl rfl _ _ HR7.out ?_)
                exact ⟨⟨k + 1, l ++ [y], by simp, hlt3, HLL.out, HO7.out, HG7.out⟩, by simp [intOf]; omega⟩
              · have hpd : decide (pk < 0) = false := by simpa using hpk
                obtain ⟨v7, w7, hr7, ho7, hg7⟩ := HNX.out pk
                have HR7 := hide hr7
                have HO7 := hide ho7
                have HG7 := hide hg7
                have HLL := hide (HLN.out pk (by rw [if_neg hpk]))
                clear hr7 ho7 hg7 HNX HLN
                go_wp2_with (at_builtin; refine Lib.wpList_append_run _ rfl _ _ _ _ rfl _ _ rfl rfl _ _ HR7.out ?_)
                exact ⟨⟨k + 1, l ++ [pk], by simp, hlt3, HLL.out, HO7.out, HG7.out⟩, by simp [intOf]; omega⟩
            · have hkk : k = ps.length := by omega
              subst hkk
              have hle2 : l = s.take d ++ ps.map (fun p => if p < 0 then y else p) := by rw [HL.out, List.take_length]
              have HDQ : Hid (doneP u f i s = if l.length ≤ 20 ∧ (i.op ≠ 14 ∨ s.length = ts.length) then some l else none) := hide (by rw [HDP.out, hle2])
              have HRQ : Hid (RIntsQ (fun b => w.heap.size ≤ b) wr (.slice av l.length cv) l) := hide ((own_rints HO.out).mono fun b hb hl => ⟨rfl, Nat.le_trans HGB.out.size hb.1⟩)
              have HGW := hide (HGB.out.trans HG.out)
              clear HL HDP hle2 HO HG hlt3
              by_cases h20 : l.length ≤ 20
              · have h20i : (l.length : Int) ≤ 20 := by omega
                have h20d : decide ((l.length : Int) ≤ 20) = true := by simpa using h20i
                by_cases h14 : i.op = 14
                · have hb : (i.op != 14) = false := by simp [h14]
                  by_cases hd0 : d = 0
                  · have hbd : ((d : Int) == 0) = true := by simpa using hd0
                    have HD : Hid (doneP u f i s = some l) := hide (by rw [HDQ.out, if_pos ⟨h20, .inr (by omega)⟩])
                    clear HDQ hd0 h14
                    go_wp2_with fail
                    go_ret2
                    exact ⟨HGW.out, _, l, by rw [HD.out]; rfl, HRQ.out, fun o h => by rw [HD.out] at h; exact (Option.some.inj h).symm⟩
                  · have hbd : ((d : Int) == 0) = false := by simpa using hd0
                    have HD : Hid (doneP u f i s = none) := hide (by rw [HDQ.out, if_neg (by rintro ⟨_, h | h⟩; exact h h14; omega)])
                    clear HDQ hd0 h14
                    go_wp2_with fail
                    go_ret2
                    exact ⟨HGW.out, _, l, by rw [HD.out]; rfl, HRQ.out, fun o h => by rw [HD.out] at h; cases h⟩
                · have hb : (i.op != 14) = true := by simp [h14]
                  have HD : Hid (doneP u f i s = some l) := hide (by rw [HDQ.out, if_pos ⟨h20, .inl h14⟩])
                  clear HDQ h14
                  go_wp2_with fail
                  go_ret2
                  exact ⟨HGW.out, _, l, by rw [HD.out]; rfl, HRQ.out, fun o h => by rw [HD.out] at h; exact (Option.some.inj h).symm⟩
              · have h20i : ¬ (l.length : Int) ≤ 20 := by omega
                have h20d : decide ((l.length : Int) ≤ 20) = false := by simpa using h20i
                have HD : Hid (doneP u f i s = none) := hide (by rw [HDQ.out, if_neg (fun h => h20 h.1)])
                clear HDQ
                go_wp2_with fail
                go_ret2
                exact ⟨HGW.out, _, l, by rw [HD.out]; rfl, HRQ.out, fun o h => by rw [HD.out] at h; cases h⟩
    · have HD : Hid (doneP u f i s = none) := hide (by unfold doneP; rw [HQ.out]; simp only []; rw [if_pos (by omega)])
      obtain ⟨D, hD⟩ : ∃ D : Int, D = (s.length : Int) - (ts.length : Int) := ⟨_, rfl⟩
      have hw3 := hw1.trans hD.symm
      have hneg : D < 0 := by omega
      have hnegd : decide (D < 0) = true := by simpa using hneg
      clear hD hw1 hle
      go_wp2_with fail
      go_ret2
      exact ⟨HGA.out, _, [], by rw [HD.out]; rfl, rintsq_nil _ _, fun o h => by rw [HD.out] at h; cases h⟩
end Go.Proofs.YtkgncijcnlfhiaaDoor

