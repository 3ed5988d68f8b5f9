import Derived.Deep.AppendLies
import Derived.Test.YtkgncijcnlfhiaaDoorNc
namespace Go.Proofs.YtkgncijcnlfhiaaDoor
set_option linter.unusedVariables false
set_option linter.unusedSimpArgs false
open Go.RowKit
attribute [local go_sem ↓] Go.wp_at_zero Go.wp_at_succ
theorem Tryd.callUnl (vals : Array Value) (w : World) : (callFunc 76 vals).run Tryd.prog w = .ok (.enter 76 vals) w := by kernel_rfl
theorem Tryd.callEqF (vals : Array Value) (w : World) : (callFunc 100 vals).run Tryd.prog w = .ok (.enter 100 vals) w := by kernel_rfl
theorem Tryd.callEqI (vals : Array Value) (w : World) : (callFunc 101 vals).run Tryd.prog w = .ok (.enter 101 vals) w := by kernel_rfl
theorem hcell_ {w : World} {b : Nat} {arr : Array Value} {t : TypeId} {o : Nat} {f : Nat × Nat} (h : w.heap[b]? = some (.cells arr t f)) : w.cell? ⟨b, o, none⟩ = arr[o]? := by
  simp [World.cell?, h]
theorem ask_unit (W : World) (l : List PUnit) : AskC W 57 #[] #[] 1 l (fun _ u => !unitOk u) (fun _ V => Gr W V) (fun V => Gr W V) := by
  intro k u V vu hu hg hR
  refine (unit_any u vu 1 (k : Int) V (hR.gr hg)).mono ?_
  rintro x w' ⟨rfl, hg2⟩
  cases h : unitOk u with
  | true => exact .inl ⟨by simp [h], by rw [ends_t], hg.trans hg2⟩
  | false => exact .inr ⟨by simp [h], by rw [ends_f], hg.trans hg2⟩
theorem RUnit.parts {w : World} {v : Value} {u : PUnit} (h : RUnit w v u) : ∃ a1 a2 a3 a4 a5 c1 c2 c3 c4 c5, v = .agg #[.slice a1 u.shapes.length c1, .slice a2 u.consts.length c2, .slice a3 u.funcs.length c3, .slice a4 u.imports.length c4, .slice a5 u.exports.length c5] ∧ RShapes w (.slice a1 u.shapes.length c1) u.shapes ∧ RInts w (.slice a2 u.consts.length c2) u.consts ∧ RFuncs w (.slice a3 u.funcs.length c3) u.funcs ∧ RImports w (.slice a4 u.imports.length c4) u.imports ∧ RExports w (.slice a5 u.exports.length c5) u.exports := by
  obtain ⟨x1, x2, x3, x4, x5, he, h1, h2, h3, h4, h5⟩ := h
  obtain ⟨a1, c1, rfl⟩ := h1.shape
  obtain ⟨a2, c2, rfl⟩ := h2.shape
  obtain ⟨a3, c3, rfl⟩ := h3.shape
  obtain ⟨a4, c4, rfl⟩ := h4.shape
  obtain ⟨a5, c5, rfl⟩ := h5.shape
  exact ⟨a1, a2, a3, a4, a5, c1, c2, c3, c4, c5, he, h1, h2, h3, h4, h5⟩
/-- the first unit's shapes, as they lie in the list of units -/
structure Fst (W : World) (ub b off n : Nat) (cl : Nat) (a0 : Option Addr) (c0 : Nat) (sh : List (List Int)) : Prop where
  box : W.cell? ⟨ub, 0, none⟩ = some (.slice (some ⟨b, off, none⟩) n cl)
  cell : W.cell? ⟨b, off, none⟩ = some (.slice a0 sh.length c0)
  row : RShapes W (.slice a0 sh.length c0) sh
  pos : 0 < n

set_option maxRecDepth 100000 in
set_option maxHeartbeats 2000000 in
theorem ask_shapes (W : World) (l : List PUnit) (ub b off n cl : Nat) (a0 : Option Addr) (c0 : Nat) (sh : List (List Int)) (hF : Fst W ub b off n cl a0 c0 sh) :
    AskC W 99 #[] #[.pointer (some ⟨ub, 0, none⟩)] 5 l (fun _ u => !decide (u.shapes = sh)) (fun _ V => Gr W V) (fun V => Gr W V) := by
  intro k u V vu hu hg hR
  show Calls Tryd.prog 99 #[vu, .agg #[.int .i64 5, .int .i64 0, .int .i64 (k : Int)], .pointer (some ⟨ub, 0, none⟩)] V _
  obtain ⟨a1, a2, a3, a4, a5, c1, c2, c3, c4, c5, rfl, r1, _, _, _, _⟩ := (hR.gr hg).parts
  have HG := hide hg
  have HR1 := hide r1
  have HF := hide hF
  have hn : (0 : Int) < (n : Int) := by have := hF.pos; omega
  have hn0 : 0 < n := hF.pos
  clear hg r1 hu hR hF
  go_enter Tryd.func99, Tryd.ntmps99
  go_wp2_with fail
  have hgW : Gr V ((V.alloc (.cells #[.slice a1 u.shapes.length c1, .slice a2 u.consts.length c2, .slice a3 u.funcs.length c3, .slice a4 u.imports.length c4, .slice a5 u.exports.length c5] 28)).alloc (.cells #[.int .i64 5, .int .i64 0, .int .i64 (k : Int)] 83)) := ((Gr.refl V).alloc _).alloc _
  have hb0 := heap_alloc_new V (.cells #[.slice a1 u.shapes.length c1, .slice a2 u.consts.length c2, .slice a3 u.funcs.length c3, .slice a4 u.imports.length c4, .slice a5 u.exports.length c5] 28)
  have hb1 := heap_alloc_new (V.alloc (.cells #[.slice a1 u.shapes.length c1, .slice a2 u.consts.length c2, .slice a3 u.funcs.length c3, .slice a4 u.imports.length c4, .slice a5 u.exports.length c5] 28)) (.cells #[.int .i64 5, .int .i64 0, .int .i64 (k : Int)] 83)
  have hg1 : Gr (V.alloc (.cells #[.slice a1 u.shapes.length c1, .slice a2 u.consts.length c2, .slice a3 u.funcs.length c3, .slice a4 u.imports.length c4, .slice a5 u.exports.length c5] 28)) ((V.alloc (.cells #[.slice a1 u.shapes.length c1, .slice a2 u.consts.length c2, .slice a3 u.funcs.length c3, .slice a4 u.imports.length c4, .slice a5 u.exports.length c5] 28)).alloc (.cells #[.int .i64 5, .int .i64 0, .int .i64 (k : Int)] 83)) := (Gr.refl _).alloc _
  have hbb : (V.alloc (.cells #[.slice a1 u.shapes.length c1, .slice a2 u.consts.length c2, .slice a3 u.funcs.length c3, .slice a4 u.imports.length c4, .slice a5 u.exports.length c5] 28)).heap.size = V.heap.size + 1 := by simp
  rw [hbb] at hb1
  have KS : Hid (∀ w', Gr ((V.alloc (.cells #[.slice a1 u.shapes.length c1, .slice a2 u.consts.length c2, .slice a3 u.funcs.length c3, .slice a4 u.imports.length c4, .slice a5 u.exports.length c5] 28)).alloc (.cells #[.int .i64 5, .int .i64 0, .int .i64 (k : Int)] 83)) w' → w'.cell? ⟨V.heap.size + 1, 0, none⟩ = some (.int .i64 5) ∧ w'.cell? ⟨V.heap.size + 1, 1, none⟩ = some (.int .i64 0) ∧ w'.cell? ⟨V.heap.size + 1, 2, none⟩ = some (.int .i64 (k : Int)) ∧ w'.cell? ⟨V.heap.size, 0, none⟩ = some (.slice a1 u.shapes.length c1) ∧ w'.cell? ⟨ub, 0, none⟩ = some (.slice (some ⟨b, off, none⟩) n cl) ∧ w'.cell? ⟨b, off, none⟩ = some (.slice a0 sh.length c0)) := hide (fun w' g => by
    have g0 := hg1.trans g
    have gV := HG.out.trans (hgW.trans g)
    have e0 : w'.heap[V.heap.size]? = _ := (g0.block V.heap.size (by simp) (by simp)).trans hb0
    have e1 : w'.heap[V.heap.size + 1]? = _ := (g.block (V.heap.size + 1) (by simp) (by simp)).trans hb1
    exact ⟨by rw [hcell_ e1]; rfl, by rw [hcell_ e1]; rfl, by rw [hcell_ e1]; rfl, by rw [hcell_ e0]; rfl, gV.cell HF.out.box (by simp), gV.cell HF.out.cell (by simp)⟩)
  have HGW := hide hgW
  clear hb0 hb1 hg1 hgW hbb
  generalize (V.alloc (.cells #[.slice a1 u.shapes.length c1, .slice a2 u.consts.length c2, .slice a3 u.funcs.length c3, .slice a4 u.imports.length c4, .slice a5 u.exports.length c5] 28)).alloc (.cells #[.int .i64 5, .int .i64 0, .int .i64 (k : Int)] 83) = W1 at KS HGW ⊢
  refine wp_region_held_drew (S := (fun w' => w'.cell? ⟨V.heap.size + 1, 0, none⟩ = some (.int .i64 5) ∧ w'.cell? ⟨V.heap.size + 1, 1, none⟩ = some (.int .i64 0) ∧ w'.cell? ⟨V.heap.size + 1, 2, none⟩ = some (.int .i64 (k : Int)) ∧ w'.cell? ⟨V.heap.size, 0, none⟩ = some (.slice a1 u.shapes.length c1) ∧ w'.cell? ⟨ub, 0, none⟩ = some (.slice (some ⟨b, off, none⟩) n cl) ∧ w'.cell? ⟨b, off, none⟩ = some (.slice a0 sh.length c0))) (by kernel_rfl) (KS.out _ (Gr.drew (Gr.refl _))) (fun hHeld => ?_)
  refine takeL (i := 0) (v := ?av0) rfl (by kernel_rfl) (by kernel_rfl) (by kernel_rfl) (by intro c a w h; exact h) (by rfl) ?ahy0 hHeld ?arest0
  case ahy0 => (intro w hSw; (try dsimp only at hSw); go_simp <;> with_reducible rfl)
  simp only [Act.put, List.setIfInBounds_toArray, List.set_cons_zero, List.set_cons_succ]
  refine takeL (i := 1) (v := ?av1) rfl (by kernel_rfl) (by kernel_rfl) (by kernel_rfl) (by intro c a w h; exact h) (by rfl) ?ahy1 hHeld ?arest1
  case ahy1 => (intro w hSw; (try dsimp only at hSw); go_simp <;> with_reducible rfl)
  simp only [Act.put, List.setIfInBounds_toArray, List.set_cons_zero, List.set_cons_succ]
  refine takeL (i := 2) (v := ?av2) rfl (by kernel_rfl) (by kernel_rfl) (by kernel_rfl) (by intro c a w h; exact h) (by rfl) ?ahy2 hHeld ?arest2
  case ahy2 => (intro w hSw; (try dsimp only at hSw); go_simp <;> with_reducible rfl)
  simp only [Act.put, List.setIfInBounds_toArray, List.set_cons_zero, List.set_cons_succ]
  refine takeL (i := 3) (v := ?av3) rfl (by kernel_rfl) (by kernel_rfl) (by kernel_rfl) (by intro c a w h; exact h) (by rfl) ?ahy3 hHeld ?arest3
  case ahy3 => (intro w hSw; (try dsimp only at hSw); go_simp <;> with_reducible rfl)
  simp only [Act.put, List.setIfInBounds_toArray, List.set_cons_zero, List.set_cons_succ]
  refine takeL (i := 4) (v := ?av4) rfl (by kernel_rfl) (by kernel_rfl) (by kernel_rfl) (by intro c a w h; exact h) (by rfl) ?ahy4 hHeld ?arest4
  case ahy4 => (intro w hSw; (try dsimp only at hSw); go_simp <;> with_reducible rfl)
  simp only [Act.put, List.setIfInBounds_toArray, List.set_cons_zero, List.set_cons_succ]
  refine takeL (i := 5) (v := ?av5) rfl (by kernel_rfl) (by kernel_rfl) (by kernel_rfl) (by intro c a w h; exact h) (by rfl) ?ahy5 hHeld ?arest5
  case ahy5 => (intro w hSw; (try dsimp only at hSw); go_simp <;> with_reducible rfl)
  simp only [Act.put, List.setIfInBounds_toArray, List.set_cons_zero, List.set_cons_succ]
  refine takeL (i := 6) (v := ?av6) rfl (by kernel_rfl) (by kernel_rfl) (by kernel_rfl) (by intro c a w h; exact h) (by rfl) ?ahy6 hHeld ?arest6
  case ahy6 => (intro w hSw; (try dsimp only at hSw); go_simp <;> with_reducible rfl)
  simp only [Act.put, List.setIfInBounds_toArray, List.set_cons_zero, List.set_cons_succ]
  refine aloneL (i := 7) rfl (by kernel_rfl) (fun K hK => ?_)
  refine step_calls_w rfl 100 _ _ rfl #[.slice a1 u.shapes.length c1, .slice a0 sh.length c0, .func (.func 101) #[] #[]] (by simp [Act.eval]) (Tryd.callEqF _ _) ((equalf_any _ _ u.shapes sh _ (HR1.out.gr (HGW.out.trans (Gr.drew (Gr.refl _)))) (HF.out.row.gr (HG.out.trans (HGW.out.trans (Gr.drew (Gr.refl _)))))).mono ?_)
  rintro x w2 ⟨rfl, hg2⟩
  have HG2 := hide ((Gr.drew (Gr.refl W1)).trans hg2)
  clear hg2
  refine .inl ⟨_, rfl, ?_⟩
  refine hK.out _ _ (KS.out _ HG2.out) (fun hHeld => ?_)
  clear hK
  try simp only [Act.put, List.setIfInBounds_toArray, List.set_cons_zero, List.set_cons_succ]
  refine aloneL (i := 8) rfl (by kernel_rfl) (fun K hK => ?_)
  by_cases hd : u.shapes = sh
  · have e : decide (u.shapes = sh) = true := by simpa using hd
    refine step_calls_w rfl 76 _ _ rfl #[.agg #[.int .i64 5, .int .i64 0, .int .i64 (k : Int)], .bool true] (by simp [Act.eval, e]) (Tryd.callUnl _ _) ((unless_yes _ _ _).mono ?_)
    rintro x w3 ⟨rfl, hg3⟩
    have HG3 := hide (HG2.out.trans hg3)
    clear hg3
    refine .inl ⟨_, rfl, ?_⟩
    refine hK.out _ _ (KS.out _ HG3.out) (fun hHeld => ?_)
    clear hK
    try simp only [Act.put, List.setIfInBounds_toArray, List.set_cons_zero, List.set_cons_succ]
    refine wpAnyH_done (by kernel_rfl) ?_ _
    go_wp2_with fail
    go_end0
    exact .inl ⟨by simp [hd], rfl, HG.out.trans (HGW.out.trans HG3.out)⟩
  · have e : decide (u.shapes = sh) = false := by simpa using hd
    refine step_calls_w rfl 76 _ _ rfl #[.agg #[.int .i64 5, .int .i64 0, .int .i64 (k : Int)], .bool false] (by simp [Act.eval, e]) (Tryd.callUnl _ _) ((unless_no _ _ _).mono ?_)
    rintro x w3 ⟨rfl, hg3⟩
    refine .inr ⟨_, rfl, ?_⟩
    exact ⟨rfl, .inr ⟨by simp [hd], rfl, HG.out.trans (HGW.out.trans (HG2.out.trans hg3))⟩⟩
end Go.Proofs.YtkgncijcnlfhiaaDoor

namespace Go.Proofs.YtkgncijcnlfhiaaDoor
set_option linter.unusedVariables false
set_option linter.unusedSimpArgs false
open Go.RowKit
attribute [local go_sem ↓] Go.wp_at_zero Go.wp_at_succ
def TgtV (w : World) (v : Value) (g : PFunc) (k : Int) : Prop := ∃ ap cp al nl cl ac nc cc, v = .agg #[.slice ap g.params.length cp, .int .i64 g.result, .slice al nl cl, .slice ac nc cc, .int .i64 k] ∧ RInts w (.slice ap g.params.length cp) g.params
theorem TgtV.gr {w w' : World} {v : Value} {g : PFunc} {k : Int} (h : TgtV w v g k) (hg : Gr w w') : TgtV w' v g k := by
  obtain ⟨ap, cp, al, nl, cl, ac, nc, cc, e, r⟩ := h
  exact ⟨ap, cp, al, nl, cl, ac, nc, cc, e, r.gr hg⟩
def MapT (W w : World) (b n : Nat) (N : List UInt8 → Option (PFunc × Int)) : Prop := ∃ m, MapS w b n m ∧ ∀ s, (N s = none ∧ m s = none) ∨ ∃ g k v, N s = some (g, k) ∧ m s = some v ∧ TgtV W v g k
theorem MapT.lt {W w : World} {b n : Nat} {N : List UInt8 → Option (PFunc × Int)} (h : MapT W w b n N) : b < w.heap.size := by
  obtain ⟨m, h1, _⟩ := h; exact h1.lt
theorem MapT.kept {W w w' : World} {b n : Nat} {N : List UInt8 → Option (PFunc × Int)} (h : MapT W w b n N) (g : w'.heap[b]? = w.heap[b]?) : MapT W w' b n N := by
  obtain ⟨m, h1, h2⟩ := h
  exact ⟨m, h1.kept g, h2⟩
theorem MapT.gr {W w w' : World} {b n : Nat} {N : List UInt8 → Option (PFunc × Int)} (h : MapT W w b n N) (hg : Gr w w') : MapT W w' b n N := h.kept (hg.block b h.lt (by simp))
theorem MapT.find {W w : World} {b n : Nat} {N : List UInt8 → Option (PFunc × Int)} (h : MapT W w b n N) (s : ByteArray) (hs : s.size ≤ maxLen) :
    (N s.data.toList = none ∧ (∀ w', Gr w w' → (Instr.lookup 161 (.map (some b)) (.string s) true).run Tryd.prog w' = .ok (.tuple #[zTgt, .bool false]) w') ∧ ∀ w', Gr w w' → (Instr.lookup 161 (.map (some b)) (.string s) false).run Tryd.prog w' = .ok zTgt w') ∨
    ∃ g k v, N s.data.toList = some (g, k) ∧ TgtV W v g k ∧ (∀ w', Gr w w' → (Instr.lookup 161 (.map (some b)) (.string s) true).run Tryd.prog w' = .ok (.tuple #[v, .bool true]) w') ∧ ∀ w', Gr w w' → (Instr.lookup 161 (.map (some b)) (.string s) false).run Tryd.prog w' = .ok v w' := by
  have hl := h.lt
  obtain ⟨m, h1, h2⟩ := h
  rcases h2 s.data.toList with ⟨e1, e2⟩ | ⟨g, k, v, e1, e2, e3⟩
  · refine .inl ⟨e1, fun w' hg => ?_, fun w' hg => ?_⟩
    · have := (h1.kept (hg.block b hl (by simp))).look s hs
      rw [e2] at this; exact this
    · have := (h1.kept (hg.block b hl (by simp))).look1 s hs
      rw [e2] at this; exact this
  · refine .inr ⟨g, k, v, e1, e3, fun w' hg => ?_, fun w' hg => ?_⟩
    · have := (h1.kept (hg.block b hl (by simp))).look s hs
      rw [e2] at this; exact this
    · have := (h1.kept (hg.block b hl (by simp))).look1 s hs
      rw [e2] at this; exact this
theorem any_at {α : Type} {p : α → Bool} {l : List α} {j : Nat} {x : α} (hx : l[j]? = some x) (hp : p x = true) : l.any p = true := by
  rw [List.any_eq_true]; exact ⟨x, List.mem_of_getElem? hx, hp⟩
theorem any_none {α : Type} {p : α → Bool} {l : List α} (h : ∀ m x, m < l.length → l[m]? = some x → p x = false) : l.any p = false := by
  rw [Bool.eq_false_iff]; intro c
  rw [List.any_eq_true] at c
  obtain ⟨x, hx, hp⟩ := c
  obtain ⟨m, hm, rfl⟩ := List.getElem_of_mem hx
  rw [h m _ hm (List.getElem?_eq_getElem hm)] at hp; cases hp
/-- the refusal in its box -/
def Why (w : World) (b : Nat) (e k : Int) : Prop := w.cell? ⟨b, 0, none⟩ = some (.int .i64 e) ∧ w.cell? ⟨b, 1, none⟩ = some (.int .i64 0) ∧ w.cell? ⟨b, 2, none⟩ = some (.int .i64 k)
theorem Why.gr {w w' : World} {b : Nat} {e k : Int} (h : Why w b e k) (g : Gr w w') : Why w' b e k := ⟨g.cell h.1 (by simp), g.cell h.2.1 (by simp), g.cell h.2.2 (by simp)⟩
theorem Why.new (w : World) (e k : Int) (t : TypeId) : Why (w.alloc (.cells #[.int .i64 e, .int .i64 0, .int .i64 k] t)) w.heap.size e k := by
  have h := heap_alloc_new w (.cells #[.int .i64 e, .int .i64 0, .int .i64 k] t)
  exact ⟨by rw [hcell_ h]; rfl, by rw [hcell_ h]; rfl, by rw [hcell_ h]; rfl⟩

set_option maxRecDepth 100000 in
set_option maxHeartbeats 2000000 in
theorem ask_there (W : World) (l : List PUnit) (mb n : Nat) (N : List UInt8 → Option (PFunc × Int)) (W0 : World) (hW0 : Gr W0 W) (hM : MapT W0 W mb n N) :
    AskC W 103 #[.map (some mb)] #[] 7 l (fun _ u => u.imports.any fun i => !(N i.name).isSome) (fun _ V => Gr W V) (fun V => Gr W V) := by
  intro k u V vu hu hg hR
  show Calls Tryd.prog 103 #[.map (some mb), vu, .agg #[.int .i64 7, .int .i64 0, .int .i64 (k : Int)]] V _
  obtain ⟨a1, a2, a3, a4, a5, c1, c2, c3, c4, c5, rfl, _, _, _, r4, _⟩ := (hR.gr hg).parts
  obtain ⟨ao, cap, he, hm4, hc4⟩ := r4
  simp only [Value.slice.injEq, true_and] at he
  obtain ⟨rfl, rfl⟩ := he
  have HC := hide hc4
  have HM := hide (hM.gr hg)
  have HG := hide hg
  unfold maxLen at hm4
  have HY := hide (Why.new (V.alloc (.cells #[.slice a1 u.shapes.length c1, .slice a2 u.consts.length c2, .slice a3 u.funcs.length c3, .slice a4 u.imports.length c4, .slice a5 u.exports.length c5] 28)) 7 (k : Int) 83)
  have HGV := hide (((Gr.refl V).alloc (.cells #[.slice a1 u.shapes.length c1, .slice a2 u.consts.length c2, .slice a3 u.funcs.length c3, .slice a4 u.imports.length c4, .slice a5 u.exports.length c5] 28)).alloc (.cells #[.int .i64 7, .int .i64 0, .int .i64 (k : Int)] 83))
  have hbb : (V.alloc (.cells #[.slice a1 u.shapes.length c1, .slice a2 u.consts.length c2, .slice a3 u.funcs.length c3, .slice a4 u.imports.length c4, .slice a5 u.exports.length c5] 28)).heap.size = V.heap.size + 1 := by simp
  rw [hbb] at HY
  clear hM hg hR hu hc4 hbb hW0
  go_enter Tryd.func103, Tryd.ntmps103
  go_wp2_with fail
  generalize (V.alloc (.cells #[.slice a1 u.shapes.length c1, .slice a2 u.consts.length c2, .slice a3 u.funcs.length c3, .slice a4 u.imports.length c4, .slice a5 u.exports.length c5] 28)).alloc (.cells #[.int .i64 7, .int .i64 0, .int .i64 (k : Int)] 83) = W1 at HY HGV ⊢
  generalize V.heap.size + 1 = yb at HY ⊢
  go_loopw [13] (fun i wr => ∃ j : Nat, i = .int .i64 (j : Int) ∧ j ≤ u.imports.length ∧ (∀ m x, m < j → u.imports[m]? = some x → (N x.name).isSome = true) ∧ Gr W1 wr) (fun i _ => u.imports.length - (intOf i).toNat)
  case atStart => exact ⟨0, rfl, Nat.zero_le _, fun m x hm => by omega, Gr.refl _⟩
  case round =>
    obtain ⟨j, rfl, hj, hall, hgr⟩ := hrel
    have HA := hide hall
    have HGR := hide hgr
    clear hall hgr
    by_cases hlt : j < u.imports.length
    · obtain ⟨x, hx⟩ := getElem?_lt hlt
      obtain ⟨b, off, vs, vp, rfl, k0, k1, k2, ⟨s, rfl, hs, hsz⟩, rp⟩ := HC.out j x hx
      obtain ⟨ap, cp, rfl⟩ := rp.shape
      have g1 := HGV.out.trans HGR.out
      have k0 := g1.cell k0 (by simp)
      have k1 := g1.cell k1 (by simp)
      have k2 := g1.cell k2 (by simp)
      have hji : (j : Int) < (u.imports.length : Int) := by omega
      have hw : IntKind.i64.wrap ((j : Int) + 1) = (j : Int) + 1 := Go.IntWalk.i64_in _ (by omega)
      have HX := hide hx
      have hga := (Gr.refl wr).alloc (.cells #[.string s, .slice ap x.params.length cp, .int .i64 x.result] 79)
      rcases (HM.out.gr g1).find s hsz with ⟨e1, e2, _⟩ | ⟨g, kk, v, e1, e2, e3, _⟩
      · have hlk := e2 _ hga
        have hgb := hga.alloc (.cells #[.slice none 0 0, .int .i64 0, .slice none 0 0, .slice none 0 0, .int .i64 0] 210)
        obtain ⟨y0, y1, y2⟩ := (HY.out.gr HGR.out).gr hgb
        have HN : Hid ((N x.name).isSome = false) := hide (by rw [← hs, e1]; rfl)
        have HGB := hide hgb
        unfold zTgt at hlk
        clear e1 e2 hs hsz rp hx hga hgb g1
        go_wp2_with fail
        refine (unless_no _ _ _).mono ?_
        rintro z w3 ⟨rfl, hg3⟩
        refine ⟨rfl, .inr ⟨?_, rfl, ?_⟩⟩
        · exact any_at HX.out (by rw [HN.out]; rfl)
        · exact HG.out.trans (HGV.out.trans (HGR.out.trans (HGB.out.trans hg3)))
      · obtain ⟨tp, tcp, tl, tnl, tcl, tc, tnc, tcc, rfl, _⟩ := e2
        have hlk := e3 _ hga
        have hgb := hga.alloc (.cells #[.slice tp g.params.length tcp, .int .i64 g.result, .slice tl tnl tcl, .slice tc tnc tcc, .int .i64 kk] 210)
        obtain ⟨y0, y1, y2⟩ := (HY.out.gr HGR.out).gr hgb
        have HN : Hid ((N x.name).isSome = true) := hide (by rw [← hs, e1]; rfl)
        have HGB := hide hgb
        clear e1 e3 hs hsz rp hx hga hgb g1
        go_wp2_with fail
        refine (unless_yes _ _ _).mono ?_
        rintro z w3 ⟨rfl, hg3⟩
        have HG3 := hide (HGR.out.trans (HGB.out.trans hg3))
        clear hg3 hlk y0 y1 y2 k0 k1 k2 HGB
        go_wp2_with fail
        refine ⟨⟨j + 1, by simp, hlt, ?_, HG3.out⟩, by simp [intOf]; omega⟩
        intro m z hm hz
        by_cases e : m = j
        · subst e
          rw [HX.out] at hz; cases hz; exact HN.out
        · exact HA.out m z (by omega) hz
    · have hjj : j = u.imports.length := by omega
      subst hjj
      clear hlt hj
      go_wp2_with fail
      go_end0
      refine .inl ⟨?_, rfl, HG.out.trans (HGV.out.trans HGR.out)⟩
      exact any_none (fun m x hm hx => by rw [HA.out m x hm hx]; rfl)
end Go.Proofs.YtkgncijcnlfhiaaDoor

