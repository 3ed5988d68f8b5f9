import Derived.Test.YtkgncijcnlfhiabGreatNa
import Derived.StringKeys
import Derived.Test.YtkgncijcnlfhiabGreatZ3
import Derived.Deep.AppendLies
namespace Go.Proofs.YtkgncijcnlfhiabGreat
set_option linter.unusedVariables false
set_option linter.unusedSimpArgs false
open Go.RowKit
attribute [local go_sem ↓] Go.wp_at_zero Go.wp_at_succ
theorem eq_of_get {α : Type} {l m : List α} (hl : l.length = m.length) (h : ∀ j, j < l.length → l[j]? = m[j]?) : l = m := by
  apply List.ext_getElem? 
  intro i
  by_cases hi : i < l.length
  · exact h i hi
  · rw [List.getElem?_eq_none (by omega), List.getElem?_eq_none (by omega)]
set_option maxRecDepth 100000 in
set_option maxHeartbeats 2000000 in
theorem equalf_any (va vb : Value) (l m : List (List Int)) (w : World) (ha : RShapes w va l) (hb : RShapes w vb m) :
    Calls Tryz.prog 82 #[va, vb, .func (.func 83) #[] #[]] w fun x w' => x = .returned (.bool (decide (l = m))) ∧ Gr w w' := by
  have hnot : ∀ (x : Bool) (w : World), (Op.unary .not (.bool x)).run Tryz.prog w = .ok (.bool (!x)) w := fun _ _ => rfl
  obtain ⟨a1, c1, rfl, hm, hc1⟩ := ha
  obtain ⟨a2, c2, rfl, hm2, hc2⟩ := hb
  unfold maxLen at hm hm2
  have HC1 := hide hc1
  have HC2 := hide hc2
  clear hc1 hc2
  by_cases hlen : l.length = m.length
  · have hne : ((l.length : Int) != (m.length : Int)) = false := by simp [hlen]
    have HLen := hide hlen
    clear hlen
    go_enter Tryz.func82, Tryz.ntmps82
    go_wp2_with fail
    go_loopw [17] (fun i wr => ∃ k : Nat, i = .int .i64 k ∧ k ≤ l.length ∧ (∀ j, j < k → l[j]? = m[j]?) ∧ Gr w wr) (fun i _ => l.length - (intOf i).toNat)
    case atStart => exact ⟨0, rfl, Nat.zero_le _, fun j h => by omega, Gr.refl _⟩
    case round =>
      obtain ⟨k, rfl, hk, hall, hg⟩ := hrel
      have HAll := hide hall
      have HG := hide hg
      clear hall hg
      by_cases hlt : k < l.length
      · obtain ⟨x, hx⟩ := getElem?_lt hlt
        obtain ⟨y, hy⟩ := getElem?_lt (show k < m.length by have := HLen.out; omega)
        obtain ⟨b1, o1, vx, rfl, x1, x2⟩ := HC1.out k x hx
        obtain ⟨b2, o2, vy, rfl, y1, y2⟩ := HC2.out k y hy
        obtain ⟨p1, q1, rfl⟩ := x2.shape
        obtain ⟨p2, q2, rfl⟩ := y2.shape
        have x1 := HG.out.cell x1 (by simp)
        have y1 := HG.out.cell y1 (by simp)
        have hki : (k : Int) < (l.length : Int) := by omega
        have hki2 : (k : Int) < (m.length : Int) := by have := HLen.out; omega
        have hw : IntKind.i64.wrap ((k : Int) + 1) = (k : Int) + 1 := Go.IntWalk.i64_in _ (by omega)
        have HEQ := hide (equal_any _ _ x y wr (x2.gr HG.out) (y2.gr HG.out))
        have HX := hide hx
        have HY := hide hy
        clear hx hy x2 y2
        go_wp2_with fail
        refine HEQ.out.mono ?_
        rintro z w2 ⟨rfl, hg2⟩
        have HG2 := hide (HG.out.trans hg2)
        clear hg2 HEQ
        by_cases hxy : x = y
        · have hd : decide (x = y) = true := by simpa using hxy
          rw [hd]
          have HA2 : Hid (∀ j, j < k + 1 → l[j]? = m[j]?) := hide (fun j hj => by
            by_cases e : j = k
            · subst e; rw [HX.out, HY.out, hxy]
            · exact HAll.out j (by omega))
          clear hd hxy
          go_wp2_with fail
          exact ⟨⟨k + 1, by simp, hlt, HA2.out, HG2.out⟩, by simp [intOf]; omega⟩
        · have hd : decide (x = y) = false := by simpa using hxy
          rw [hd]
          have HD : Hid (decide (l = m) = false) := hide (by
            rw [decide_eq_false_iff_not]; intro e; subst e; exact hxy (Option.some.inj (HX.out.symm.trans HY.out)))
          clear hd hxy
          go_wp2_with fail
          go_ret
          exact ⟨by rw [HD.out]; rfl, HG2.out⟩
      · have hkk : k = l.length := by omega
        subst hkk
        have HD : Hid (decide (l = m) = true) := hide (by rw [decide_eq_true_eq]; exact eq_of_get HLen.out HAll.out)
        clear hlt hk
        go_wp2_with fail
        go_ret
        exact ⟨by rw [HD.out]; rfl, HG.out⟩
  · have hne : ((l.length : Int) != (m.length : Int)) = true := by rw [bne_iff_ne]; omega
    have HD : Hid (decide (l = m) = false) := hide (by rw [decide_eq_false_iff_not]; intro e; subst e; exact hlen rfl)
    clear hlen
    go_enter Tryz.func82, Tryz.ntmps82
    go_wp2_with fail
    go_ret
    exact ⟨by rw [HD.out]; rfl, Gr.refl _⟩
end Go.Proofs.YtkgncijcnlfhiabGreat

namespace Go.Proofs.YtkgncijcnlfhiabGreat
set_option linter.unusedVariables false
set_option linter.unusedSimpArgs false
open Go.RowKit Go.Maps Go.WideMaps Go.WideMaps
theorem Tryz.uMapT : Tryz.prog.underlying 155 = some (.map 9 205) := by kernel_rfl
def zTgt : Value := .agg #[.slice none 0 0, .int .i64 0, .slice none 0 0, .slice none 0 0, .int .i64 0]
theorem Tryz.zMapT (w : World) : (zeroValue 205).run Tryz.prog w = .ok zTgt w := by kernel_rfl
theorem Tryz.kStr : Tryz.prog.underlying 9 = some .string := by kernel_rfl
theorem Tryz.keyedS : Keyed Tryz.prog 9 := string_keyed Tryz.kStr
theorem keyS_is (s : ByteArray) (hs : s.size ≤ maxLen) : keyOf Tryz.prog 9 (.string s) = some (.string s.data.toList) := keyOf_string_mk Tryz.kStr hs
structure MapS (w : World) (b n : Nat) (m : List UInt8 → Option Value) : Prop where
  is : ∃ D : DataW Value, w.ownsMap Tryz.prog 9 valR b n D ∧ ∀ k, Maps.has D (.string k) = (m k).isSome ∧ D.atKey (.string k) (.held zTgt) = .held ((m k).getD zTgt)
theorem MapS.made (w : World) : MapS (w.alloc (.map #[] 0)) w.heap.size 0 (fun _ => none) :=
  ⟨_, World.ownsMap_made w _ _ _, fun k => ⟨rfl, rfl⟩⟩
theorem MapS.empty {w : World} {b : Nat} (h : w.heap[b]? = some (.map #[] 0)) : MapS w b 0 (fun _ => none) := by
  obtain ⟨D, ⟨es, clock, hb, r⟩, h2⟩ := (MapS.made w).is
  have hb2 : (w.alloc (.map #[] 0)).heap[w.heap.size]? = some (.map #[] 0) := by show (w.heap.push _)[w.heap.size]? = _; simp
  rw [hb2] at hb
  simp only [Option.some.injEq, Obj.map.injEq] at hb
  obtain ⟨rfl, rfl⟩ := hb
  exact ⟨D, ⟨_, _, h, r⟩, h2⟩
theorem MapS.lt {w : World} {b n : Nat} {m : List UInt8 → Option Value} (h : MapS w b n m) : b < w.heap.size := by
  obtain ⟨D, h1, _⟩ := h.is; exact h1.lt
theorem MapS.kept {w w' : World} {b n : Nat} {m : List UInt8 → Option Value} (h : MapS w b n m) (g : w'.heap[b]? = w.heap[b]?) : MapS w' b n m := by
  obtain ⟨D, ⟨es, clock, hb, r⟩, h2⟩ := h.is
  exact ⟨D, ⟨es, clock, g.trans hb, r⟩, h2⟩
theorem MapS.look {w : World} {b n : Nat} {m : List UInt8 → Option Value} (h : MapS w b n m) (s : ByteArray) (hs : s.size ≤ maxLen) : (Instr.lookup 155 (.map (some b)) (.string s) true).run Tryz.prog w = .ok (.tuple #[(m s.data.toList).getD zTgt, .bool (m s.data.toList).isSome]) w := by
  obtain ⟨D, h1, h2⟩ := h.is
  obtain ⟨v, ps, hrun, hv⟩ := h1.look_ok Tryz.keyedS Tryz.uMapT (Tryz.zMapT w) (zd := .held zTgt) (zp := []) rfl (keyS_is s hs)
  rw [hrun, (h2 _).1]
  have := congrArg Prod.fst (Option.some.inj hv)
  simp only [(h2 _).2, DataW.held.injEq] at this
  rw [this]
theorem MapS.look1 {w : World} {b n : Nat} {m : List UInt8 → Option Value} (h : MapS w b n m) (s : ByteArray) (hs : s.size ≤ maxLen) : (Instr.lookup 155 (.map (some b)) (.string s) false).run Tryz.prog w = .ok ((m s.data.toList).getD zTgt) w := by
  obtain ⟨D, h1, h2⟩ := h.is
  obtain ⟨v, ps, hrun, hv⟩ := h1.lookup Tryz.keyedS Tryz.uMapT (Tryz.zMapT w) (zd := .held zTgt) (zp := []) rfl (keyS_is s hs)
  rw [hrun]
  have := congrArg Prod.fst (Option.some.inj hv)
  simp only [(h2 _).2, DataW.held.injEq] at this
  rw [this]
theorem MapS.store {w : World} {b n : Nat} {m : List UInt8 → Option Value} (h : MapS w b n m) (s : ByteArray) (hs : s.size ≤ maxLen) (hn : n < 1000000) (v : Value) :
    ∃ w', (Instr.mapUpdate 155 (.map (some b)) (.string s) v).run Tryz.prog w = .ok () w' ∧ MapS w' b (n + 1) (fun j => if j = s.data.toList then some v else m j) ∧ w.grownBy w' (some b) := by
  obtain ⟨D, h1, h2⟩ := h.is
  obtain ⟨w', hrun, hown, hturn⟩ := h1.store Tryz.keyedS Tryz.uMapT (by unfold maxLen; omega) (keyS_is s hs) (val := v) (d := .held v) (ps := []) rfl
  refine ⟨w', hrun, ⟨_, hown, fun j => ?_⟩, hturn.grown⟩
  by_cases e : j = s.data.toList
  · subst e
    rw [has_put_same h1.isMap (by trivial), atKey_put_same h1.isMap (by trivial)]
    simp
  · have hne : (Lit.string j) ≠ Lit.string s.data.toList := fun h => e (by injection h)
    rw [has_put_other hne, atKey_put_other hne, if_neg e]
    exact h2 j
end Go.Proofs.YtkgncijcnlfhiabGreat

namespace Go.Proofs.YtkgncijcnlfhiabGreat
set_option linter.unusedVariables false
set_option linter.unusedSimpArgs false
open Go.RowKit
attribute [local go_sem ↓] Go.wp_at_zero Go.wp_at_succ
theorem Tryz.callUnl (vals : Array Value) (w : World) : (callFunc 64 vals).run Tryz.prog w = .ok (.enter 64 vals) w := by kernel_rfl
theorem Tryz.callEqF (vals : Array Value) (w : World) : (callFunc 82 vals).run Tryz.prog w = .ok (.enter 82 vals) w := by kernel_rfl
theorem Tryz.callEqI (vals : Array Value) (w : World) : (callFunc 83 vals).run Tryz.prog w = .ok (.enter 83 vals) w := by kernel_rfl
theorem hcell_ {w : World} {b : Nat} {arr : Array Value} {t : TypeId} {o : Nat} {f : Nat × Nat} (h : w.heap[b]? = some (.cells arr t f)) : w.cell? ⟨b, o, none⟩ = arr[o]? := by
  simp [World.cell?, h]
theorem ask_unit (W : World) (l : List PUnit) : AskC W 31 #[] #[] 1 l (fun _ u => !unitOk u) (fun _ V => Gr W V) (fun V => Gr W V) := by
  intro k u V vu hu hg hR
  refine (unit_any u vu 1 (k : Int) V (hR.gr hg)).mono ?_
  rintro x w' ⟨rfl, hg2⟩
  cases h : unitOk u with
  | true => exact .inl ⟨by simp [h], by rw [ends_t], hg.trans hg2⟩
  | false => exact .inr ⟨by simp [h], by rw [ends_f], hg.trans hg2⟩
theorem RUnit.parts {w : World} {v : Value} {u : PUnit} (h : RUnit w v u) : ∃ a1 a2 a3 a4 a5 c1 c2 c3 c4 c5, v = .agg #[.slice a1 u.shapes.length c1, .slice a2 u.consts.length c2, .slice a3 u.funcs.length c3, .slice a4 u.imports.length c4, .slice a5 u.exports.length c5] ∧ RShapes w (.slice a1 u.shapes.length c1) u.shapes ∧ RInts w (.slice a2 u.consts.length c2) u.consts ∧ RFuncs w (.slice a3 u.funcs.length c3) u.funcs ∧ RImports w (.slice a4 u.imports.length c4) u.imports ∧ RExports w (.slice a5 u.exports.length c5) u.exports := by
  obtain ⟨x1, x2, x3, x4, x5, he, h1, h2, h3, h4, h5⟩ := h
  obtain ⟨a1, c1, rfl⟩ := h1.shape
  obtain ⟨a2, c2, rfl⟩ := h2.shape
  obtain ⟨a3, c3, rfl⟩ := h3.shape
  obtain ⟨a4, c4, rfl⟩ := h4.shape
  obtain ⟨a5, c5, rfl⟩ := h5.shape
  exact ⟨a1, a2, a3, a4, a5, c1, c2, c3, c4, c5, he, h1, h2, h3, h4, h5⟩
/-- the first unit's shapes, as they lie in the list of units -/
structure Fst (W : World) (ub b off n : Nat) (cl : Nat) (a0 : Option Addr) (c0 : Nat) (sh : List (List Int)) : Prop where
  box : W.cell? ⟨ub, 0, none⟩ = some (.slice (some ⟨b, off, none⟩) n cl)
  cell : W.cell? ⟨b, off, none⟩ = some (.slice a0 sh.length c0)
  row : RShapes W (.slice a0 sh.length c0) sh
  pos : 0 < n

set_option maxRecDepth 100000 in
set_option maxHeartbeats 2000000 in
theorem ask_shapes (W : World) (l : List PUnit) (ub b off n cl : Nat) (a0 : Option Addr) (c0 : Nat) (sh : List (List Int)) (hF : Fst W ub b off n cl a0 c0 sh) :
    AskC W 81 #[] #[.pointer (some ⟨ub, 0, none⟩)] 5 l (fun _ u => !decide (u.shapes = sh)) (fun _ V => Gr W V) (fun V => Gr W V) := by
  intro k u V vu hu hg hR
  show Calls Tryz.prog 81 #[vu, .agg #[.int .i64 5, .int .i64 0, .int .i64 (k : Int)], .pointer (some ⟨ub, 0, none⟩)] V _
  obtain ⟨a1, a2, a3, a4, a5, c1, c2, c3, c4, c5, rfl, r1, _, _, _, _⟩ := (hR.gr hg).parts
  have HG := hide hg
  have HR1 := hide r1
  have HF := hide hF
  have hn : (0 : Int) < (n : Int) := by have := hF.pos; omega
  have hn0 : 0 < n := hF.pos
  clear hg r1 hu hR hF
  go_enter Tryz.func81, Tryz.ntmps81
  go_wp2_with fail
  have hgW : Gr V ((V.alloc (.cells #[.slice a1 u.shapes.length c1, .slice a2 u.consts.length c2, .slice a3 u.funcs.length c3, .slice a4 u.imports.length c4, .slice a5 u.exports.length c5] 29)).alloc (.cells #[.int .i64 5, .int .i64 0, .int .i64 (k : Int)] 62)) := ((Gr.refl V).alloc _).alloc _
  have hb0 := heap_alloc_new V (.cells #[.slice a1 u.shapes.length c1, .slice a2 u.consts.length c2, .slice a3 u.funcs.length c3, .slice a4 u.imports.length c4, .slice a5 u.exports.length c5] 29)
  have hb1 := heap_alloc_new (V.alloc (.cells #[.slice a1 u.shapes.length c1, .slice a2 u.consts.length c2, .slice a3 u.funcs.length c3, .slice a4 u.imports.length c4, .slice a5 u.exports.length c5] 29)) (.cells #[.int .i64 5, .int .i64 0, .int .i64 (k : Int)] 62)
  have hg1 : Gr (V.alloc (.cells #[.slice a1 u.shapes.length c1, .slice a2 u.consts.length c2, .slice a3 u.funcs.length c3, .slice a4 u.imports.length c4, .slice a5 u.exports.length c5] 29)) ((V.alloc (.cells #[.slice a1 u.shapes.length c1, .slice a2 u.consts.length c2, .slice a3 u.funcs.length c3, .slice a4 u.imports.length c4, .slice a5 u.exports.length c5] 29)).alloc (.cells #[.int .i64 5, .int .i64 0, .int .i64 (k : Int)] 62)) := (Gr.refl _).alloc _
  have hbb : (V.alloc (.cells #[.slice a1 u.shapes.length c1, .slice a2 u.consts.length c2, .slice a3 u.funcs.length c3, .slice a4 u.imports.length c4, .slice a5 u.exports.length c5] 29)).heap.size = V.heap.size + 1 := by simp
  rw [hbb] at hb1
  have KS : Hid (∀ w', Gr ((V.alloc (.cells #[.slice a1 u.shapes.length c1, .slice a2 u.consts.length c2, .slice a3 u.funcs.length c3, .slice a4 u.imports.length c4, .slice a5 u.exports.length c5] 29)).alloc (.cells #[.int .i64 5, .int .i64 0, .int .i64 (k : Int)] 62)) w' → w'.cell? ⟨V.heap.size + 1, 0, none⟩ = some (.int .i64 5) ∧ w'.cell? ⟨V.heap.size + 1, 1, none⟩ = some (.int .i64 0) ∧ w'.cell? ⟨V.heap.size + 1, 2, none⟩ = some (.int .i64 (k : Int)) ∧ w'.cell? ⟨V.heap.size, 0, none⟩ = some (.slice a1 u.shapes.length c1) ∧ w'.cell? ⟨ub, 0, none⟩ = some (.slice (some ⟨b, off, none⟩) n cl) ∧ w'.cell? ⟨b, off, none⟩ = some (.slice a0 sh.length c0)) := hide (fun w' g => by
    have g0 := hg1.trans g
    have gV := HG.out.trans (hgW.trans g)
    have e0 : w'.heap[V.heap.size]? = _ := (g0.block V.heap.size (by simp) (by simp)).trans hb0
    have e1 : w'.heap[V.heap.size + 1]? = _ := (g.block (V.heap.size + 1) (by simp) (by simp)).trans hb1
    exact ⟨by rw [hcell_ e1]; rfl, by rw [hcell_ e1]; rfl, by rw [hcell_ e1]; rfl, by rw [hcell_ e0]; rfl, gV.cell HF.out.box (by simp), gV.cell HF.out.cell (by simp)⟩)
  have HGW := hide hgW
  clear hb0 hb1 hg1 hgW hbb
  generalize (V.alloc (.cells #[.slice a1 u.shapes.length c1, .slice a2 u.consts.length c2, .slice a3 u.funcs.length c3, .slice a4 u.imports.length c4, .slice a5 u.exports.length c5] 29)).alloc (.cells #[.int .i64 5, .int .i64 0, .int .i64 (k : Int)] 62) = W1 at KS HGW ⊢
  refine wp_region_held_drew (S := (fun w' => w'.cell? ⟨V.heap.size + 1, 0, none⟩ = some (.int .i64 5) ∧ w'.cell? ⟨V.heap.size + 1, 1, none⟩ = some (.int .i64 0) ∧ w'.cell? ⟨V.heap.size + 1, 2, none⟩ = some (.int .i64 (k : Int)) ∧ w'.cell? ⟨V.heap.size, 0, none⟩ = some (.slice a1 u.shapes.length c1) ∧ w'.cell? ⟨ub, 0, none⟩ = some (.slice (some ⟨b, off, none⟩) n cl) ∧ w'.cell? ⟨b, off, none⟩ = some (.slice a0 sh.length c0))) (by kernel_rfl) (KS.out _ (Gr.drew (Gr.refl _))) (fun hHeld => ?_)
  refine takeL (i := 0) (v := ?av0) rfl (by kernel_rfl) (by kernel_rfl) (by kernel_rfl) (by intro c a w h; exact h) (by rfl) ?ahy0 hHeld ?arest0
  case ahy0 => (intro w hSw; (try dsimp only at hSw); go_simp <;> with_reducible rfl)
  simp only [Act.put, List.setIfInBounds_toArray, List.set_cons_zero, List.set_cons_succ]
  refine takeL (i := 1) (v := ?av1) rfl (by kernel_rfl) (by kernel_rfl) (by kernel_rfl) (by intro c a w h; exact h) (by rfl) ?ahy1 hHeld ?arest1
  case ahy1 => (intro w hSw; (try dsimp only at hSw); go_simp <;> with_reducible rfl)
  simp only [Act.put, List.setIfInBounds_toArray, List.set_cons_zero, List.set_cons_succ]
  refine takeL (i := 2) (v := ?av2) rfl (by kernel_rfl) (by kernel_rfl) (by kernel_rfl) (by intro c a w h; exact h) (by rfl) ?ahy2 hHeld ?arest2
  case ahy2 => (intro w hSw; (try dsimp only at hSw); go_simp <;> with_reducible rfl)
  simp only [Act.put, List.setIfInBounds_toArray, List.set_cons_zero, List.set_cons_succ]
  refine takeL (i := 3) (v := ?av3) rfl (by kernel_rfl) (by kernel_rfl) (by kernel_rfl) (by intro c a w h; exact h) (by rfl) ?ahy3 hHeld ?arest3
  case ahy3 => (intro w hSw; (try dsimp only at hSw); go_simp <;> with_reducible rfl)
  simp only [Act.put, List.setIfInBounds_toArray, List.set_cons_zero, List.set_cons_succ]
  refine takeL (i := 4) (v := ?av4) rfl (by kernel_rfl) (by kernel_rfl) (by kernel_rfl) (by intro c a w h; exact h) (by rfl) ?ahy4 hHeld ?arest4
  case ahy4 => (intro w hSw; (try dsimp only at hSw); go_simp <;> with_reducible rfl)
  simp only [Act.put, List.setIfInBounds_toArray, List.set_cons_zero, List.set_cons_succ]
  refine takeL (i := 5) (v := ?av5) rfl (by kernel_rfl) (by kernel_rfl) (by kernel_rfl) (by intro c a w h; exact h) (by rfl) ?ahy5 hHeld ?arest5
  case ahy5 => (intro w hSw; (try dsimp only at hSw); go_simp <;> with_reducible rfl)
  simp only [Act.put, List.setIfInBounds_toArray, List.set_cons_zero, List.set_cons_succ]
  refine takeL (i := 6) (v := ?av6) rfl (by kernel_rfl) (by kernel_rfl) (by kernel_rfl) (by intro c a w h; exact h) (by rfl) ?ahy6 hHeld ?arest6
  case ahy6 => (intro w hSw; (try dsimp only at hSw); go_simp <;> with_reducible rfl)
  simp only [Act.put, List.setIfInBounds_toArray, List.set_cons_zero, List.set_cons_succ]
  refine aloneL (i := 7) rfl (by kernel_rfl) (fun K hK => ?_)
  refine step_calls_w rfl 82 _ _ rfl #[.slice a1 u.shapes.length c1, .slice a0 sh.length c0, .func (.func 83) #[] #[]] (by simp [Act.eval]) (Tryz.callEqF _ _) ((equalf_any _ _ u.shapes sh _ (HR1.out.gr (HGW.out.trans (Gr.drew (Gr.refl _)))) (HF.out.row.gr (HG.out.trans (HGW.out.trans (Gr.drew (Gr.refl _)))))).mono ?_)
  rintro x w2 ⟨rfl, hg2⟩
  have HG2 := hide ((Gr.drew (Gr.refl W1)).trans hg2)
  clear hg2
  refine .inl ⟨_, rfl, ?_⟩
  refine hK.out _ _ (KS.out _ HG2.out) (fun hHeld => ?_)
  clear hK
  try simp only [Act.put, List.setIfInBounds_toArray, List.set_cons_zero, List.set_cons_succ]
  refine aloneL (i := 8) rfl (by kernel_rfl) (fun K hK => ?_)
  by_cases hd : u.shapes = sh
  · have e : decide (u.shapes = sh) = true := by simpa using hd
    refine step_calls_w rfl 64 _ _ rfl #[.agg #[.int .i64 5, .int .i64 0, .int .i64 (k : Int)], .bool true] (by simp [Act.eval, e]) (Tryz.callUnl _ _) ((unless_yes _ _ _).mono ?_)
    rintro x w3 ⟨rfl, hg3⟩
    have HG3 := hide (HG2.out.trans hg3)
    clear hg3
    refine .inl ⟨_, rfl, ?_⟩
    refine hK.out _ _ (KS.out _ HG3.out) (fun hHeld => ?_)
    clear hK
    try simp only [Act.put, List.setIfInBounds_toArray, List.set_cons_zero, List.set_cons_succ]
    refine wpAnyH_done (by kernel_rfl) ?_ _
    go_wp2_with fail
    go_end0
    exact .inl ⟨by simp [hd], rfl, HG.out.trans (HGW.out.trans HG3.out)⟩
  · have e : decide (u.shapes = sh) = false := by simpa using hd
    refine step_calls_w rfl 64 _ _ rfl #[.agg #[.int .i64 5, .int .i64 0, .int .i64 (k : Int)], .bool false] (by simp [Act.eval, e]) (Tryz.callUnl _ _) ((unless_no _ _ _).mono ?_)
    rintro x w3 ⟨rfl, hg3⟩
    refine .inr ⟨_, rfl, ?_⟩
    exact ⟨rfl, .inr ⟨by simp [hd], rfl, HG.out.trans (HGW.out.trans (HG2.out.trans hg3))⟩⟩
end Go.Proofs.YtkgncijcnlfhiabGreat

