import Derived.Lib.AppendZerosOnto
import Derived.Laws.OwnMore
import Derived.Maps.AppendAt
import Derived.Test.YtkgncijcnlfhiabGreatZ3
import Derived.Test.YtkgncijcnlfhiabGreatRg
import Derived.Test.YtkgncijcnlfhiabGreatY3
import Derived.Test.YtkgncijcnlfhiabGreatY2
namespace Go.Proofs.YtkgncijcnlfhiabGreat
set_option linter.unusedVariables false
set_option linter.unusedSimpArgs false
open Go.RowKit
attribute [local go_sem ↓] Go.wp_at_zero Go.wp_at_succ
theorem eq_of_getD_ {l m : List Int} (hl : l.length = m.length) (h : ∀ j, j < l.length → l.getD j 0 = m.getD j 0) : l = m := by
  apply List.ext_getElem hl
  intro i h1 h2
  have := h i h1
  rw [List.getD_eq_getElem?_getD, List.getD_eq_getElem?_getD, List.getElem?_eq_getElem h1, List.getElem?_eq_getElem h2] at this
  exact this
theorem gr_drewN_f {w w' : World} (h : Gr w w') (n : Nat) : Gr w (w'.drewN n) := ⟨h.os, h.tape, h.output, h.size, h.block⟩
set_option maxRecDepth 100000 in
set_option maxHeartbeats 1000000 in
theorem equal_any (va vb : Value) (l m : List Int) (w : World) (ha : RInts w va l) (hb : RInts w vb m) :
    Calls Tryz.prog 83 #[va, vb] w fun x w' => x = .returned (.bool (decide (l = m))) ∧ Gr w w' := by
  have HA := hide ha
  have HBb := hide hb
  obtain ⟨a1, c1, rfl, hm, _⟩ := ha
  obtain ⟨a2, c2, rfl, hm2, _⟩ := hb
  unfold maxLen at hm hm2
  by_cases hlen : l.length = m.length
  · have hne : ((l.length : Int) != (m.length : Int)) = false := by simp [hlen]
    have hM : m.length = l.length := hlen.symm
    have HLen := hide hlen
    rw [hM] at hne ⊢
    clear hlen
    have HMM := hide hM
    clear hM
    go_enter Tryz.func83, Tryz.ntmps83
    go_wp2_with fail
    go_loopw [13] (fun i wr => ∃ k : Nat, i = .int .i64 k ∧ k ≤ l.length ∧ (∀ j, j < k → l.getD j 0 = m.getD j 0) ∧ Gr w wr) (fun i _ => l.length - (intOf i).toNat)
    case atStart => exact ⟨0, rfl, Nat.zero_le _, fun j h => by omega, Gr.refl _⟩
    case round =>
      obtain ⟨k, rfl, hk, hall, hg⟩ := hrel
      have HAll := hide hall
      clear hall
      by_cases hlt : k < l.length
      · obtain ⟨a1', c1', h1e, _, hc1⟩ := HA.out
        obtain ⟨a2', c2', h2e, _, hc2⟩ := HBb.out
        rw [HMM.out] at h2e hc2
        simp only [Value.slice.injEq, true_and] at h1e h2e
        obtain ⟨b1, o1, rfl, hx1⟩ := hc1 k hlt
        obtain ⟨b2, o2, rfl, hx2⟩ := hc2 k hlt
        obtain ⟨rfl, rfl⟩ := h1e
        obtain ⟨rfl, rfl⟩ := h2e
        have hy1 := hg.cell hx1 (by simp)
        have hy2 := hg.cell hx2 (by simp)
        have HX : ∀ x y, l.getD k 0 = x → m.getD k 0 = y → Hid (l.getD k 0 = x ∧ m.getD k 0 = y) := fun x y h1 h2 => hide ⟨h1, h2⟩
        obtain ⟨x, hx⟩ : ∃ x, l.getD k 0 = x := ⟨_, rfl⟩
        obtain ⟨y, hy⟩ : ∃ y, m.getD k 0 = y := ⟨_, rfl⟩
        have HXY := HX x y hx hy
        rw [hx] at hy1
        rw [hy] at hy2
        have HG := hide hg
        clear hc1 hc2 hx1 hx2 hg HA HBb HX hx hy
        by_cases hxy : x = y
        · have hb1 : (x != y) = false := by simp [hxy]
          have HA2 : Hid (∀ j, j < k + 1 → l.getD j 0 = m.getD j 0) := hide (fun j hj => by
            by_cases e : j = k
            · subst e; rw [HXY.out.1, HXY.out.2, hxy]
            · exact HAll.out j (by omega))
          clear hxy
          go_wp2_with fail
          go_quiet (fail)
          go_wp2_with fail
          exact ⟨⟨k + 1, by simp, hlt, HA2.out, gr_drewN_f HG.out _⟩, by simp [intOf]; omega⟩
        · have hb1 : (x != y) = true := by simp [hxy]
          have HD : Hid (decide (l = m) = false) := hide (by
            rw [decide_eq_false_iff_not]; intro e; subst e; exact hxy (HXY.out.1.symm.trans HXY.out.2))
          clear hxy
          go_wp2_with fail
          go_quiet (fail)
          go_wp2_with fail
          go_ret
          exact ⟨by rw [HD.out]; rfl, gr_drewN_f HG.out _⟩
      · have hkk : k = l.length := by omega
        subst hkk
        have HD : Hid (decide (l = m) = true) := hide (by rw [decide_eq_true_eq]; exact eq_of_getD_ HLen.out HAll.out)
        have HG := hide hg
        clear hg
        go_wp2_with fail
        go_ret
        exact ⟨by rw [HD.out]; rfl, HG.out⟩
  · have hne : ((l.length : Int) != (m.length : Int)) = true := by rw [bne_iff_ne]; omega
    have HD : Hid (decide (l = m) = false) := hide (by rw [decide_eq_false_iff_not]; intro e; subst e; exact hlen rfl)
    clear hlen
    go_enter Tryz.func83, Tryz.ntmps83
    go_wp2_with fail
    go_ret
    exact ⟨by rw [HD.out]; rfl, Gr.refl _⟩

theorem Tryz.infF : (Tryz.prog.info? 3).map (fun i => (i.zero, i.size, i.bytes)) = some (some (Value.int .i64 0), 1, 8) := by kernel_rfl
theorem Tryz.uInts : Tryz.prog.underlying 24 = some (.slice 3) := by kernel_rfl
theorem Tryz.uIntF : Tryz.prog.underlying 3 = some (.int .i64) := by kernel_rfl
def GrowR (w : World) (e : Ending) (w' : World) : Prop := ∃ v, e = .returned v ∧ w'.ownsRow w.heap.size 3 1 v 0 [] ∧ Gr w w'
set_option maxRecDepth 100000 in
set_option maxHeartbeats 1000000 in
theorem grow_nil (n : Nat) (hn : n ≤ 100000) (w : World) : Calls Tryz.prog 104 #[.slice none 0 0, .int .i64 (n : Int)] w (GrowR w) := by
  have h1 : ¬ ((n : Int) < 0) := by omega
  have h3 : wrap64 (n : Int) = (n : Int) := by unfold wrap64; omega
  have h3b : IntKind.i64.wrap (n : Int) = (n : Int) := Go.IntWalk.i64_in _ (by omega)
  by_cases h0 : n = 0
  · subst h0
    go_enter Tryz.func104, Tryz.ntmps104
    go_wp2_with fail
    go_ret
    exact ⟨_, rfl, World.ownsRow_nil _ _ _ _, Gr.refl _⟩
  · have h4 : (n : Int) > 0 := by omega
    have h4b : (0 : Int) < (n : Int) := by omega
    obtain ⟨i0, hi, hz0, hz1, hz2⟩ := info_parts Tryz.infF
    have hrz := fun ty => Lib.run_append_grow_zeros w 24 3 ty 3 i0 (.int .i64 0) .i64 .i64 Tryz.uInts Tryz.uIntF hi hz0 none 0 0 [] (run_firstCells_none w.drew i0.size 0 0 0) n (by omega) (by omega) (by omega) (by omega) (by rw [hz2]; omega) (growslice_fits (by omega) (by rw [hz2]; omega))
    have hGn : 0 + n ≤ grownCap w (0 + n) 0 3 := grownCap_ge w _ _ _
    have hGm := grownCap_le_maxLen w (0 + n) 0 3 (by unfold maxLen; omega)
    generalize grownCap w (0 + n) 0 3 = G at hrz hGn hGm
    rw [Nat.zero_add] at hrz hGn
    have HOW : Hid ((w.alloc (.cells (Builtin.zeroCells #[Value.int .i64 0] n ++ Builtin.zeroCells #[Value.int .i64 0] (G - n)) 3)).drew.ownsRow w.heap.size 3 1 (.slice (some ⟨w.heap.size, 0, none⟩) 0 G) 0 []) := hide (by
      have := World.ownsRow_made (base := w.heap.size) (e := 3) (size := 1) w (Builtin.zeroCells #[Value.int .i64 0] n ++ Builtin.zeroCells #[Value.int .i64 0] (G - n)) G (Nat.le_refl _) hGm (by simp [Builtin.zeroCells]; omega)
      exact this)
    have hG63 : G ≤ 9223372036854775807 := by unfold maxLen at hGm; omega
    have HGR : Hid (Gr w (w.alloc (.cells (Builtin.zeroCells #[Value.int .i64 0] n ++ Builtin.zeroCells #[Value.int .i64 0] (G - n)) 3)).drew) := hide (((Gr.refl w).alloc _).drew)
    have HRZ := hide hrz
    clear hrz hGm
    go_enter Tryz.func104, Tryz.ntmps104
    go_wp2_with (at_builtin; refine Lib.wpList_append_run _ rfl _ _ _ _ rfl _ _ rfl rfl _ _ (HRZ.out _) ?_)
    all_goals go_ret
    all_goals exact ⟨.slice (some ⟨w.heap.size, 0, none⟩) 0 G, rfl, HOW.out, HGR.out⟩
end Go.Proofs.YtkgncijcnlfhiabGreat

namespace Go.Proofs.YtkgncijcnlfhiabGreat
set_option linter.unusedVariables false
set_option linter.unusedSimpArgs false
open Go.RowKit
attribute [local go_sem ↓] Go.wp_at_zero Go.wp_at_succ
def RUnits (w : World) (v : Value) (l : List PUnit) : Prop :=
  ∃ ao cap, v = .slice ao l.length cap ∧ l.length ≤ maxLen ∧ ∀ i u, l[i]? = some u → ∃ b off v1 v2 v3 v4 v5, ao = some ⟨b, off, none⟩ ∧
    w.cell? ⟨b, off + i * 5, none⟩ = some v1 ∧ w.cell? ⟨b, off + i * 5 + 1, none⟩ = some v2 ∧ w.cell? ⟨b, off + i * 5 + 2, none⟩ = some v3 ∧ w.cell? ⟨b, off + i * 5 + 3, none⟩ = some v4 ∧ w.cell? ⟨b, off + i * 5 + 4, none⟩ = some v5 ∧ RUnit w (.agg #[v1, v2, v3, v4, v5]) u
theorem RUnits.gr {w w' : World} {v : Value} {l : List PUnit} (h : RUnits w v l) (g : Gr w w') : RUnits w' v l := by
  obtain ⟨ao, cap, hv, hm, hc⟩ := h
  refine ⟨ao, cap, hv, hm, fun i x hi => ?_⟩
  obtain ⟨b, off, v1, v2, v3, v4, v5, h1, k1, k2, k3, k4, k5, hu⟩ := hc i x hi
  exact ⟨b, off, v1, v2, v3, v4, v5, h1, g.cell k1 (by simp), g.cell k2 (by simp), g.cell k3 (by simp), g.cell k4 (by simp), g.cell k5 (by simp), hu.gr g⟩
theorem RUnits.shape {w : World} {v : Value} {l : List PUnit} (h : RUnits w v l) : ∃ ao cap, v = .slice ao l.length cap := by
  obtain ⟨ao, cap, hv, _⟩ := h; exact ⟨ao, cap, hv⟩
/-- a unit's five values are slices -/
theorem RUnit.slices {w : World} {v1 v2 v3 v4 v5 : Value} {u : PUnit} (h : RUnit w (.agg #[v1, v2, v3, v4, v5]) u) : (∃ a c, v1 = .slice a u.shapes.length c) ∧ (∃ a c, v2 = .slice a u.consts.length c) ∧ (∃ a c, v3 = .slice a u.funcs.length c) ∧ (∃ a c, v4 = .slice a u.imports.length c) ∧ ∃ a c, v5 = .slice a u.exports.length c := by
  obtain ⟨x1, x2, x3, x4, x5, he, h1, h2, h3, h4, h5⟩ := h
  simp only [Value.agg.injEq, Array.mk.injEq, List.cons.injEq, and_true] at he
  obtain ⟨rfl, rfl, rfl, rfl, rfl⟩ := he
  exact ⟨h1.shape, h2.shape, h3.shape, h4.shape, h5.shape⟩
/-- what a round over the units comes to: p: it applies to the unit -/
def EachR (e : Int) (I : Nat → World → Prop) (B : World → Prop) (n : Nat) (o : Option Nat) (x : Ending) (w' : World) : Prop := match o with
  | none => x = .returned (.tuple #[]) ∧ I n w'
  | some k => x = .panicked (thrown e (k : Int)) ∧ B w'
/-- the first to which it applies, from k on -/
def firstI (p : Nat → PUnit → Bool) : Nat → List PUnit → Option Nat
  | _, [] => none
  | k, u :: l => if p k u = true then some k else firstI p (k + 1) l
theorem firstI_eq (p : PUnit → Bool) : ∀ (l : List PUnit) (k : Nat), firstI (fun _ => p) k l = firstU p k l
  | [], _ => rfl
  | u :: l, k => by rw [firstI, firstU, firstI_eq p l (k + 1)]
/-- one unit asked -/
def AskC (W : World) (f : FuncId) (first caps : Array Value) (e : Int) (l : List PUnit) (p : Nat → PUnit → Bool) (I : Nat → World → Prop) (B : World → Prop) : Prop :=
  ∀ (k : Nat) (u : PUnit) (V : World) (vu : Value), l[k]? = some u → I k V → RUnit W vu u →
    Calls Tryz.prog f (first ++ (#[vu, .agg #[.int .i64 e, .int .i64 0, .int .i64 (k : Int)]] ++ caps)) V fun x V' => (p k u = false ∧ x = .returned (.tuple #[]) ∧ I (k + 1) V') ∨ (p k u = true ∧ x = .panicked (thrown e (k : Int)) ∧ B V')

set_option maxRecDepth 100000 in
set_option maxHeartbeats 2000000 in
theorem each_any (f : FuncId) (first caps : Array Value) (hcf : ∀ (vu vr : Value) (w : World), (callFunc f (first ++ (#[vu, vr] ++ caps))).run Tryz.prog w = .ok (.enter f (first ++ (#[vu, vr] ++ caps))) w) (e : Int) (l : List PUnit) (vl : Value) (p : Nat → PUnit → Bool) (I : Nat → World → Prop) (B : World → Prop) (W w : World)
    (hR : RUnits W vl l) (hB : ∀ k V, I k V → Gr W V) (hI : ∀ k V V', I k V → Gr V V' → I k V') (h0 : I 0 w) (hA : AskC W f first caps e l p I B) (hlen : l.length ≤ 1000000) (hlw : ∃ a c, vl = .slice a l.length c) :
    Calls Tryz.prog 80 #[vl, .int .i64 e, .func (.func f) first caps] w (EachR e I B l.length (firstI p 0 l)) := by
  obtain ⟨al, cl, rfl⟩ := hlw
  have HR := hide hR
  have HI := hide hI
  have HBs := hide hB
  have HA := hide hA
  have H0 := hide h0
  have HCF := hide hcf
  clear hR hI h0 hA hcf hB
  go_enter Tryz.func80, Tryz.ntmps80
  go_wp2_with fail
  go_loopw [10] (fun i wr => ∃ k : Nat, i = .int .i64 (k : Int) ∧ k ≤ l.length ∧ firstI p 0 l = firstI p k (l.drop k) ∧ I k wr) (fun i _ => l.length - (intOf i).toNat)
  case atStart => exact ⟨0, rfl, Nat.zero_le _, rfl, H0.out⟩
  case round =>
    obtain ⟨k, rfl, hk, hf, hi⟩ := hrel
    have HF := hide hf
    have HIk := hide hi
    clear hf hi H0
    by_cases hlt : k < l.length
    · obtain ⟨u, hu⟩ := getElem?_lt hlt
      obtain ⟨ao, cap, he, _, hc⟩ := HR.out
      obtain ⟨b, off, v1, v2, v3, v4, v5, rfl, k1, k2, k3, k4, k5, hru⟩ := hc k u hu
      have hbs := HBs.out k wr HIk.out
      have k1 := hbs.cell k1 (by simp)
      have k2 := hbs.cell k2 (by simp)
      have k3 := hbs.cell k3 (by simp)
      have k4 := hbs.cell k4 (by simp)
      have k5 := hbs.cell k5 (by simp)
      simp only [Value.slice.injEq, true_and] at he
      obtain ⟨rfl, rfl⟩ := he
      obtain ⟨⟨a1, c1, rfl⟩, ⟨a2, c2, rfl⟩, ⟨a3, c3, rfl⟩, ⟨a4, c4, rfl⟩, ⟨a5, c5, rfl⟩⟩ := hru.slices
      have hki : (k : Int) < (l.length : Int) := by omega
      have hw : IntKind.i64.wrap ((k : Int) + 1) = (k : Int) + 1 := Go.IntWalk.i64_in _ (by omega)
      have hga := Gr.alloc (Gr.refl wr) (.cells #[.slice a1 u.shapes.length c1, .slice a2 u.consts.length c2, .slice a3 u.funcs.length c3, .slice a4 u.imports.length c4, .slice a5 u.exports.length c5] 29)
      have HCK := hide (HA.out k u _ _ hu (HI.out k wr _ HIk.out hga) hru)
      have HS : Hid (firstI p 0 l = if p k u = true then some k else firstI p (k + 1) (l.drop (k + 1))) := hide (by
        rw [HF.out, List.drop_eq_getElem_cons hlt]
        have : l[k] = u := by rw [List.getElem?_eq_getElem hlt] at hu; exact Option.some.inj hu
        rw [this, firstI])
      clear hc hru hu hga HF hbs
      go_wp2_with fail
      rw [HCF.out, Oper.upon_enter]
      refine HCK.out.mono ?_
      rintro x w2 (⟨hp, rfl, hi2⟩ | ⟨hp, rfl, hb2⟩)
      · have HI2 := hide hi2
        have HN : Hid (firstI p 0 l = firstI p (k + 1) (l.drop (k + 1))) := hide (by rw [HS.out, hp]; rfl)
        clear hp hi2 HS HCK
        go_wp2_with fail
        exact ⟨⟨k + 1, by simp, hlt, HN.out, HI2.out⟩, by simp [intOf]; omega⟩
      · refine ⟨rfl, ?_⟩
        rw [HS.out, if_pos hp]
        exact ⟨rfl, hb2⟩
    · have hkk : k = l.length := by omega
      subst hkk
      have HN : Hid (firstI p 0 l = none) := hide (by rw [HF.out, List.drop_length]; rfl)
      clear hlt hk HF
      go_wp2_with fail
      go_end0
      rw [HN.out]
      exact ⟨rfl, HIk.out⟩
end Go.Proofs.YtkgncijcnlfhiabGreat

