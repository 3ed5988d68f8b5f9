import Derived.Test.YtkgncijcnlfhiaaDoorNm
namespace Go.Proofs.YtkgncijcnlfhiaaDoor
set_option linter.unusedVariables false
set_option linter.unusedSimpArgs false
open Go.RowKit
attribute [local go_sem ↓] Go.wp_at_zero Go.wp_at_succ
structure OU (B : Nat) (w : World) (v1 v2 v3 v5 : Value) (es1 : List (Value × List Int)) (cs : List Int) (es3 : List LF) (es5 : List LX) (ρ : Nat → Rl) : Prop where
  bs : B ≤ w.heap.size
  o1 : Ow ρ .sh w B 23 1 v1 es1.length (es1.map (·.1))
  o1i : ∀ i e, es1[i]? = some e → Ow ρ (.sI i) w B 3 1 e.1 e.2.length (ivL e.2)
  o2 : Ow ρ .co w B 3 1 v2 cs.length (ivL cs)
  o3 : Ow ρ .fu w B 76 4 v3 es3.length (es3.flatMap cF)
  o3i : ∀ i e, es3[i]? = some e → Ow ρ (.fp i) w B 3 1 e.vp e.f.params.length (ivL e.f.params) ∧ Ow ρ (.fl i) w B 3 1 e.vl e.f.locals.length (ivL e.f.locals) ∧ Ow ρ (.fc i) w B 91 3 e.vc e.f.code.length (e.f.code.flatMap cC)
  o5 : Ow ρ .ex w B 81 2 v5 es5.length (es5.flatMap cX)
theorem JA.ou {B ab : Nat} {w : World} {v1 v2 v3 v5 : Value} {es1 : List (Value × List Int)} {cs : List Int} {es3 : List LF} {es5 : List LX} {ρ : Nat → Rl} (h : JA B ab w v1 v2 v3 v5 es1 cs es3 es5 ρ) : OU B w v1 v2 v3 v5 es1 cs es3 es5 ρ := ⟨h.bs, h.o1, h.o1i, h.o2, h.o3, h.o3i, h.o5⟩
theorem OU.mv {B : Nat} {w w' : World} {v1 v2 v3 v5 : Value} {es1 : List (Value × List Int)} {cs : List Int} {es3 : List LF} {es5 : List LX} {ρ : Nat → Rl} (h : OU B w v1 v2 v3 v5 es1 cs es3 es5 ρ) (hs : w.heap.size ≤ w'.heap.size) (g : ∀ k, B ≤ k → k < w.heap.size → w'.heap[k]? = w.heap[k]?) : OU B w' v1 v2 v3 v5 es1 cs es3 es5 ρ := by
  have m : Mv B .bx w w' ρ ρ := ⟨hs, fun k hk hB => ⟨rfl, fun _ => g k hB hk⟩⟩
  exact ⟨Nat.le_trans h.bs hs, h.o1.mv m nofun, fun i e he => (h.o1i i e he).mv m nofun, h.o2.mv m nofun, h.o3.mv m nofun, fun i e he => ⟨(h.o3i i e he).1.mv m nofun, (h.o3i i e he).2.1.mv m nofun, (h.o3i i e he).2.2.mv m nofun⟩, h.o5.mv m nofun⟩
theorem own_len {w : World} {B : Nat} {e : TypeId} {n len : Nat} {v : Value} {xs : List Value} (h : w.ownsRow B e n v len xs) : len ≤ maxLen := by
  rcases h.2 with ⟨_, rfl⟩ | ⟨g, cap, cur, _, _, _, h1, h2, _⟩
  · exact Nat.zero_le _
  · exact Nat.le_trans h1 h2
theorem own_cell {w : World} {B : Nat} {e : TypeId} {n len : Nat} {v : Value} {xs : List Value} (h : w.ownsRow B e n v len xs) {j : Nat} (hj : j < len * n) : ∃ b cap, v = .slice (some ⟨b, 0, none⟩) len cap ∧ w.cell? ⟨b, j, none⟩ = xs[j]? := by
  rcases h.2 with ⟨_, h0⟩ | ⟨g, cap, cur, e1, e2, e3, e4, e5, e6, e7⟩
  · subst h0; omega
  · refine ⟨g, cap, e1, ?_⟩
    rw [hcell_ e3, ← e7, List.getElem?_take, if_pos hj, Array.getElem?_toList]
theorem rints_of {w : World} {B : Nat} {e : TypeId} {v : Value} {l : List Int} (h : w.ownsRow B e 1 v l.length (ivL l)) : RInts w v l := by
  obtain ⟨ao, cap, rfl⟩ := own_shape_ h
  refine ⟨ao, cap, rfl, own_len h, fun i hi => ?_⟩
  obtain ⟨b, cp, e1, e2⟩ := own_cell h (j := i) (by omega)
  simp only [Value.slice.injEq, true_and] at e1
  exact ⟨b, 0, e1.1, by rw [Nat.zero_add, e2]; simp [ivL, hi, List.getD_eq_getElem?_getD]⟩
theorem rcode_of {w : World} {B : Nat} {e : TypeId} {v : Value} {l : List PIns} (h : w.ownsRow B e 3 v l.length (l.flatMap cC)) : RCode w v l := by
  obtain ⟨ao, cap, rfl⟩ := own_shape_ h
  refine ⟨ao, cap, rfl, own_len h, fun i x hx => ?_⟩
  have hi : i < l.length := (List.getElem?_eq_some_iff.1 hx).1
  obtain ⟨b, cp, e1, e2⟩ := own_cell h (j := i * 3) (by omega)
  obtain ⟨b', cp', e1', e2'⟩ := own_cell h (j := i * 3 + 1) (by omega)
  obtain ⟨b'', cp'', e1'', e2''⟩ := own_cell h (j := i * 3 + 2) (by omega)
  simp only [Value.slice.injEq, true_and] at e1 e1' e1''
  obtain ⟨rfl, rfl⟩ := e1
  simp only [Option.some.injEq, Addr.mk.injEq, and_true] at e1' e1''
  obtain ⟨rfl, -⟩ := e1'
  obtain ⟨rfl, -⟩ := e1''
  refine ⟨b, 0, rfl, ?_, ?_, ?_⟩
  · rw [Nat.zero_add, e2]; exact flat_put cC_len l i 0 x hx (by omega)
  · rw [Nat.zero_add, e2']; exact flat_put cC_len l i 1 x hx (by omega)
  · rw [Nat.zero_add, e2'']; exact flat_put cC_len l i 2 x hx (by omega)
theorem OU.runit {B : Nat} {w : World} {v1 v2 v3 v5 : Value} {es1 : List (Value × List Int)} {cs : List Int} {es3 : List LF} {es5 : List LX} {ρ : Nat → Rl} (h : OU B w v1 v2 v3 v5 es1 cs es3 es5 ρ) (hx : ∀ e ∈ es5, e.s.size ≤ maxLen) : RUnit w (.agg #[v1, v2, v3, .slice none 0 0, v5]) ⟨es1.map (·.2), cs, es3.map (·.f), [], es5.map (·.p)⟩ := by
  refine ⟨v1, v2, v3, .slice none 0 0, v5, rfl, ?_, rints_of h.o2.1, ?_, ⟨none, 0, rfl, Nat.zero_le _, fun i x hi => by simp at hi⟩, ?_⟩
  · obtain ⟨ao, cap, rfl⟩ := own_shape_ h.o1.1
    refine ⟨ao, cap, by simp, by simpa using own_len h.o1.1, fun i x hi => ?_⟩
    simp only [List.getElem?_map, Option.map_eq_some_iff] at hi
    obtain ⟨e, he, rfl⟩ := hi
    have hl : i < es1.length := (List.getElem?_eq_some_iff.1 he).1
    obtain ⟨b, cp, e1, e2⟩ := own_cell h.o1.1 (j := i) (by omega)
    simp only [Value.slice.injEq, true_and] at e1
    exact ⟨b, 0, e.1, e1.1, by rw [Nat.zero_add, e2]; simp [he], rints_of (h.o1i i e he).1⟩
  · obtain ⟨ao, cap, rfl⟩ := own_shape_ h.o3.1
    refine ⟨ao, cap, by simp, by simpa using own_len h.o3.1, fun i x hi => ?_⟩
    simp only [List.getElem?_map, Option.map_eq_some_iff] at hi
    obtain ⟨e, he, rfl⟩ := hi
    have hl : i < es3.length := (List.getElem?_eq_some_iff.1 he).1
    obtain ⟨b, cp, e1, e2⟩ := own_cell h.o3.1 (j := i * 4) (by omega)
    simp only [Value.slice.injEq, true_and] at e1
    obtain ⟨rfl, rfl⟩ := e1
    have hc : ∀ r, r < 4 → w.cell? ⟨b, 0 + i * 4 + r, none⟩ = (cF e)[r]? := fun r hr => by
      obtain ⟨b', cp', e1', e2'⟩ := own_cell h.o3.1 (j := i * 4 + r) (by omega)
      simp only [Value.slice.injEq, Option.some.injEq, Addr.mk.injEq, and_true, true_and] at e1'
      obtain ⟨rfl, -⟩ := e1'
      rw [Nat.zero_add, e2']; exact flat_put cF_len es3 i r e he hr
    obtain ⟨p1, p2, p3⟩ := h.o3i i e he
    exact ⟨b, 0, e.vp, e.vl, e.vc, rfl, hc 0 (by omega), hc 1 (by omega), hc 2 (by omega), hc 3 (by omega), rints_of p1.1, rints_of p2.1, rcode_of p3.1⟩
  · obtain ⟨ao, cap, rfl⟩ := own_shape_ h.o5.1
    refine ⟨ao, cap, by simp, by simpa using own_len h.o5.1, fun i x hi => ?_⟩
    simp only [List.getElem?_map, Option.map_eq_some_iff] at hi
    obtain ⟨e, he, rfl⟩ := hi
    have hl : i < es5.length := (List.getElem?_eq_some_iff.1 he).1
    obtain ⟨b, cp, e1, e2⟩ := own_cell h.o5.1 (j := i * 2) (by omega)
    simp only [Value.slice.injEq, true_and] at e1
    obtain ⟨rfl, rfl⟩ := e1
    have hc : ∀ r, r < 2 → w.cell? ⟨b, 0 + i * 2 + r, none⟩ = (cX e)[r]? := fun r hr => by
      obtain ⟨b', cp', e1', e2'⟩ := own_cell h.o5.1 (j := i * 2 + r) (by omega)
      simp only [Value.slice.injEq, Option.some.injEq, Addr.mk.injEq, and_true, true_and] at e1'
      obtain ⟨rfl, -⟩ := e1'
      rw [Nat.zero_add, e2']; exact flat_put cX_len es5 i r e he hr
    exact ⟨b, 0, .string e.s, rfl, hc 0 (by omega), hc 1 (by omega), e.s, rfl, rfl, hx e (List.mem_of_getElem? he)⟩
theorem joinF_len (N : List UInt8 → Int) : ∀ (l : List PUnit) (c f : Nat), (joinF N c f l).1.length = (l.map fun u => u.consts.length).sum ∧ (joinF N c f l).2.1.length = (l.map fun u => u.funcs.length).sum ∧ (joinF N c f l).2.2.length = (l.map fun u => u.exports.length).sum
  | [], c, f => ⟨rfl, rfl, rfl⟩
  | u :: l, c, f => by
    obtain ⟨h1, h2, h3⟩ := joinF_len N l (c + u.consts.length) (f + u.funcs.length)
    simp only [joinF, List.length_append, List.length_map, List.map_cons, List.sum_cons, h1, h2, h3, and_self]
theorem few_join (N : List UInt8 → Int) (l : List PUnit) : fewL l = !decide (30 < (joinF N 0 0 l).2.1.length ∨ 50 < (joinF N 0 0 l).1.length ∨ 20 < (joinF N 0 0 l).2.2.length) := by
  obtain ⟨h1, h2, h3⟩ := joinF_len N l 0 0
  rw [h1, h2, h3]
  unfold fewL aheadF aheadC aheadE
  rw [List.take_length]
  rw [Bool.eq_iff_iff]
  simp
theorem numN_tgt (l : List PUnit) : numN (tgtL 0 l fun _ => none) = tgtN l := by funext n; rfl
end Go.Proofs.YtkgncijcnlfhiaaDoor

namespace Go.Proofs.YtkgncijcnlfhiaaDoor
set_option linter.unusedVariables false
set_option linter.unusedSimpArgs false
open Go.RowKit
attribute [local go_sem ↓] Go.wp_at_zero Go.wp_at_succ
theorem joinF_names (N : List UInt8 → Int) : ∀ (l : List PUnit) (c f : Nat), ∀ e ∈ (joinF N c f l).2.2, ∃ u ∈ l, ∃ x ∈ u.exports, e.name = x.name
  | [], c, f, e, h => by simp [joinF] at h
  | u :: l, c, f, e, h => by
    simp only [joinF, List.mem_append, List.mem_map] at h
    rcases h with ⟨x, hx, rfl⟩ | h
    · exact ⟨u, List.mem_cons_self, x, hx, rfl⟩
    · obtain ⟨u', hu, x, hx, e1⟩ := joinF_names N l _ _ e h
      exact ⟨u', List.mem_cons_of_mem _ hu, x, hx, e1⟩
/-- the linked unit, in new blocks that it owns -/
def LnkV (C : Nat) (w : World) (v : Value) (u : PUnit) : Prop := ∃ v1 v2 v3 v5 es1 cs es3 es5 ρ B, v = .agg #[v1, v2, v3, .slice none 0 0, v5] ∧ C ≤ B ∧ OU B w v1 v2 v3 v5 es1 cs es3 es5 ρ ∧ u = ⟨es1.map (·.2), cs, es3.map (·.f), [], es5.map (·.p)⟩ ∧ ∀ e ∈ es5, e.s.size ≤ maxLen
theorem LnkV.runit {C : Nat} {w : World} {v : Value} {u : PUnit} (h : LnkV C w v u) : RUnit w v u := by
  obtain ⟨v1, v2, v3, v5, es1, cs, es3, es5, ρ, B, rfl, _, ho, rfl, hx⟩ := h
  exact ho.runit hx
theorem LnkV.mv {C : Nat} {w w' : World} {v : Value} {u : PUnit} (h : LnkV C w v u) (hs : w.heap.size ≤ w'.heap.size) (g : ∀ k, C ≤ k → k < w.heap.size → w'.heap[k]? = w.heap[k]?) : LnkV C w' v u := by
  obtain ⟨v1, v2, v3, v5, es1, cs, es3, es5, ρ, B, e1, hb, ho, e2, hx⟩ := h
  exact ⟨v1, v2, v3, v5, es1, cs, es3, es5, ρ, B, e1, hb, ho.mv hs (fun k hk hl => g k (Nat.le_trans hb hk) hl), e2, hx⟩
theorem LnkV.slices {C : Nat} {w : World} {v : Value} {u : PUnit} (h : LnkV C w v u) : ∃ a1 a2 a3 a5 n1 n2 n3 n5 c1 c2 c3 c5, v = .agg #[.slice a1 n1 c1, .slice a2 n2 c2, .slice a3 n3 c3, .slice none 0 0, .slice a5 n5 c5] := by
  obtain ⟨v1, v2, v3, v5, es1, cs, es3, es5, ρ, B, rfl, _, ho, _⟩ := h
  obtain ⟨a1, c1, rfl⟩ := own_shape_ ho.o1.1
  obtain ⟨a2, c2, rfl⟩ := own_shape_ ho.o2.1
  obtain ⟨a3, c3, rfl⟩ := own_shape_ ho.o3.1
  obtain ⟨a5, c5, rfl⟩ := own_shape_ ho.o5.1
  exact ⟨_, _, _, _, _, _, _, _, _, _, _, _, rfl⟩
def UnitsR (W : World) (l : List PUnit) (x : Ending) (w' : World) : Prop := Gr W w' ∧ ((∃ v u, linkP l = .inl u ∧ x = .returned v ∧ LnkV W.heap.size w' v u) ∨ ∃ (e : Int) (k : Nat), linkP l = .inr (e, k) ∧ x = .panicked (thrown e (k : Int)))
theorem Tryd.callWf (vu vr : Value) (w : World) : (callFunc 57 (#[] ++ (#[vu, vr] ++ #[]))).run Tryd.prog w = .ok (.enter 57 (#[] ++ (#[vu, vr] ++ #[]))) w := by kernel_rfl
theorem Tryd.callU1 (vu vr v1 : Value) (w : World) : (callFunc 99 (#[] ++ (#[vu, vr] ++ #[v1]))).run Tryd.prog w = .ok (.enter 99 (#[] ++ (#[vu, vr] ++ #[v1]))) w := by kernel_rfl
theorem Tryd.callTh (v1 vu vr : Value) (w : World) : (callFunc 103 (#[v1] ++ (#[vu, vr] ++ #[]))).run Tryd.prog w = .ok (.enter 103 (#[v1] ++ (#[vu, vr] ++ #[]))) w := by kernel_rfl
theorem Tryd.callAl (v1 vu vr : Value) (w : World) : (callFunc 104 (#[v1] ++ (#[vu, vr] ++ #[]))).run Tryd.prog w = .ok (.enter 104 (#[v1] ++ (#[vu, vr] ++ #[]))) w := by kernel_rfl
theorem any_false {α : Type} {p : α → Bool} {l : List α} (h : (l.any fun x => !p x) = false) : ∀ x ∈ l, p x = true := by
  intro x hx
  cases hp : p x with
  | true => rfl
  | false =>
    have : (l.any fun x => !p x) = true := List.any_eq_true.2 ⟨x, hx, by simp [hp]⟩
    rw [h] at this; cases this

set_option maxRecDepth 100000 in
set_option maxHeartbeats 4000000 in
theorem units_any (W : World) (l : List PUnit) (vl : Value) (hR : RUnits W vl l) : Calls Tryd.prog 48 #[vl] W (UnitsR W l) := by
  have hmf : ∀ (fn : Fn) (first cap : Array Value) (w : World), (Instr.makeFunc fn first cap).run Tryd.prog w = .ok (.func fn first cap) w := fun _ _ _ _ => rfl
  obtain ⟨al, cl, rfl⟩ := hR.shape
  have hm : l.length ≤ maxLen := by obtain ⟨_, _, _, hm, _⟩ := hR; exact hm
  unfold maxLen at hm
  have g1 : Gr W ((W.alloc (.cells #[.slice al l.length cl] 45)).alloc (.cells #[.slice none 0 0, .slice none 0 0, .slice none 0 0, .slice none 0 0, .slice none 0 0] 28)) := ((Gr.refl W).alloc _).alloc _
  have hb0 := heap_alloc_new W (.cells #[.slice al l.length cl] 45)
  have hb1 := heap_alloc_new (W.alloc (.cells #[.slice al l.length cl] 45)) (.cells #[.slice none 0 0, .slice none 0 0, .slice none 0 0, .slice none 0 0, .slice none 0 0] 28)
  have s1 : (W.alloc (.cells #[.slice al l.length cl] 45)).heap.size = W.heap.size + 1 := by simp
  have s2 : ((W.alloc (.cells #[.slice al l.length cl] 45)).alloc (.cells #[.slice none 0 0, .slice none 0 0, .slice none 0 0, .slice none 0 0, .slice none 0 0] 28)).heap.size = W.heap.size + 2 := by simp
  rw [s1] at hb1
  have HB0 : Hid (((W.alloc (.cells #[.slice al l.length cl] 45)).alloc (.cells #[.slice none 0 0, .slice none 0 0, .slice none 0 0, .slice none 0 0, .slice none 0 0] 28)).cell? ⟨W.heap.size, 0, none⟩ = some (.slice al l.length cl)) := hide (((Gr.refl _).alloc _ : Gr _ _).cell (by rw [hcell_ hb0]; rfl) (by simp))
  have HB1 := hide hb1
  have HG1 := hide g1
  have HR := hide hR
  have HS2 := hide s2
  clear hR hb0 hb1 s1 s2 g1
  by_cases hc : 1 ≤ l.length ∧ l.length ≤ 6
  · obtain ⟨hl1, hl6⟩ := hc
    obtain ⟨h0, t, hlt⟩ : ∃ h t, l = h :: t := by
      cases l with
      | nil => simp at hl1
      | cons h t => exact ⟨h, t, rfl⟩
    have HL0 : Hid (l[0]? = some h0) := hide (by rw [hlt]; rfl)
    have HLE : Hid (linkP l = match firstU (fun u => !unitOk u) 0 l with
        | some k => .inr (1, k)
        | none => match firstU (fun u => !decide (u.shapes = h0.shapes)) 0 l with
        | some k => .inr (5, k)
        | none => match twiceP [] 0 l with
        | some k => .inr (6, k)
        | none => match firstU (fun u => u.imports.any fun i => !(tgtL 0 l (fun _ => none) i.name).isSome) 0 l with
        | some k => .inr (7, k)
        | none => match firstU (fun u => u.imports.any fun i => !alikeI (tgtL 0 l fun _ => none) i) 0 l with
        | some k => .inr (8, k)
        | none => if 30 < (joinF (tgtN l) 0 0 l).2.1.length ∨ 50 < (joinF (tgtN l) 0 0 l).1.length ∨ 20 < (joinF (tgtN l) 0 0 l).2.2.length then .inr (9, 0) else .inl ⟨h0.shapes, (joinF (tgtN l) 0 0 l).1, (joinF (tgtN l) 0 0 l).2.1, [], (joinF (tgtN l) 0 0 l).2.2⟩) := hide (by
      subst hlt
      rw [linkP, if_neg (by simp at hl6 ⊢; omega)]
      rfl)
    clear hlt
    have i1 : (1 : Int) ≤ (l.length : Int) := by omega
    have i6 : (l.length : Int) ≤ 6 := by omega
    obtain ⟨ao, cap, he, _, hcu⟩ := HR.out
    simp only [Value.slice.injEq, true_and] at he
    obtain ⟨rfl, rfl⟩ := he
    obtain ⟨b0, off0, x1, x2, x3, x4, x5, rfl, q1, _, _, _, _, hru0⟩ := hcu 0 h0 HL0.out
    simp only [Nat.zero_mul, Nat.add_zero] at q1
    obtain ⟨sa, _, _, _, _, sc, _, _, _, _, he, rs, _⟩ := hru0.parts
    simp only [Value.agg.injEq, Array.mk.injEq, List.cons.injEq, and_true] at he
    obtain ⟨rfl, -, -, -, -⟩ := he
    have HQ1 := hide q1
    have HRS := hide rs
    have c0 := HB0.out
    clear q1 rs hru0 hcu
    go_enter Tryd.func48, Tryd.ntmps48
    go_wp2_with fail
    generalize (W.alloc (.cells #[.slice (some ⟨b0, off0, none⟩) l.length cl] 45)).alloc (.cells #[.slice none 0 0, .slice none 0 0, .slice none 0 0, .slice none 0 0, .slice none 0 0] 28) = V1 at HB0 HB1 HG1 HS2 c0 ⊢
    refine (unless_yes _ _ _).mono ?_
    rintro z w2 ⟨rfl, hg2⟩
    have HG2 := hide hg2
    have c2 := hg2.cell c0 (by simp)
    clear c0 hg2 i1 i6
    go_wp2_with fail
    refine (each_any 57 #[] #[] (fun vu vr w => Tryd.callWf vu vr w) 1 l (.slice (some ⟨b0, off0, none⟩) l.length cl) (fun _ u => !unitOk u) (fun _ V => Gr w2 V) (fun V => Gr w2 V) w2 w2 (HR.out.gr (HG1.out.trans HG2.out)) (fun k V h => h) (fun k V V' h g => h.trans g) (Gr.refl _) (ask_unit w2 l) (by omega) ⟨_, _, rfl⟩).mono ?_
    intro x w3 hx
    rw [firstI_eq] at hx
    cases hf : firstU (fun u => !unitOk u) 0 l with
    | some k =>
      rw [hf] at hx
      obtain ⟨rfl, hb⟩ := hx
      exact ⟨rfl, HG1.out.trans (HG2.out.trans hb), .inr ⟨1, k, by rw [HLE.out, hf], rfl⟩⟩
    | none =>
    rw [hf] at hx
    obtain ⟨rfl, hg3⟩ := hx
    have HOK : Hid (∀ u ∈ l, unitOk u = true) := hide (fun u hu => by have := (firstU_none l 0).1 hf u hu; simpa using this)
    have HF1 := hide hf
    have HG3 := hide (HG2.out.trans hg3)
    have c3 := hg3.cell c2 (by simp)
    clear c2 hg3 hf
    go_wp2_with fail
    refine (each_any 99 #[] #[.pointer (some ⟨W.heap.size, 0, none⟩)] (fun vu vr w => Tryd.callU1 vu vr _ w) 5 l (.slice (some ⟨b0, off0, none⟩) l.length cl) (fun _ u => !decide (u.shapes = h0.shapes)) (fun _ V => Gr w3 V) (fun V => Gr w3 V) w3 w3 (HR.out.gr (HG1.out.trans HG3.out)) (fun k V h => h) (fun k V V' h g => h.trans g) (Gr.refl _) (ask_shapes w3 l W.heap.size b0 off0 l.length cl sa sc h0.shapes ⟨c3, (HG1.out.trans HG3.out).cell HQ1.out (by simp), HRS.out.gr (HG1.out.trans HG3.out), by omega⟩) (by omega) ⟨_, _, rfl⟩).mono ?_
    intro x w4 hx
    rw [firstI_eq] at hx
    cases hf : firstU (fun u => !decide (u.shapes = h0.shapes)) 0 l with
    | some k =>
      rw [hf] at hx
      obtain ⟨rfl, hb⟩ := hx
      exact ⟨rfl, HG1.out.trans (HG3.out.trans hb), .inr ⟨5, k, by rw [HLE.out, HF1.out, hf], rfl⟩⟩
    | none =>
    rw [hf] at hx
    obtain ⟨rfl, hg4⟩ := hx
    have HF2 := hide hf
    have HG4 := hide (HG3.out.trans hg4)
    have c4 := hg4.cell c3 (by simp)
    clear c3 hg4 hf
    go_wp2_with fail
    refine (exported_any w4 l _ (HR.out.gr (HG1.out.trans HG4.out)) hl6 HOK.out).mono ?_
    rintro x w5 ⟨hg5, hx⟩
    cases hf : twiceP [] 0 l with
    | some k =>
      rw [hf] at hx
      obtain rfl := hx
      exact ⟨rfl, HG1.out.trans (HG4.out.trans hg5), .inr ⟨6, k, by rw [HLE.out, HF1.out, HF2.out, hf], rfl⟩⟩
    | none =>
    rw [hf] at hx
    obtain ⟨mb, nn, rfl, hmt⟩ := hx
    have HF3 := hide hf
    have HMT := hide hmt
    have HG45 := hide hg5
    have HG5 := hide (HG4.out.trans hg5)
    have c5 := hg5.cell c4 (by simp)
    clear c4 hg5 hf hmt
    go_wp2_with fail
    refine (each_any 103 #[.map (some mb)] #[] (fun vu vr w => Tryd.callTh _ vu vr w) 7 l (.slice (some ⟨b0, off0, none⟩) l.length cl) (fun _ u => u.imports.any fun i => !(tgtL 0 l (fun _ => none) i.name).isSome) (fun _ V => Gr w5 V) (fun V => Gr w5 V) w5 w5 (HR.out.gr (HG1.out.trans HG5.out)) (fun k V h => h) (fun k V V' h g => h.trans g) (Gr.refl _) (ask_there w5 l mb nn _ w4 HG45.out HMT.out) (by omega) ⟨_, _, rfl⟩).mono ?_
    intro x w6 hx
    rw [firstI_eq] at hx
    cases hf : firstU (fun u => u.imports.any fun i => !(tgtL 0 l (fun _ => none) i.name).isSome) 0 l with
    | some k =>
      rw [hf] at hx
      obtain ⟨rfl, hb⟩ := hx
      exact ⟨rfl, HG1.out.trans (HG5.out.trans hb), .inr ⟨7, k, by rw [HLE.out, HF1.out, HF2.out, HF3.out, hf], rfl⟩⟩
    | none =>
    rw [hf] at hx
    obtain ⟨rfl, hg6⟩ := hx
    have HNN : Hid (∀ u ∈ l, ∀ i ∈ u.imports, (tgtL 0 l (fun _ => none) i.name).isSome = true) := hide (fun u hu => any_false ((firstU_none l 0).1 hf u hu))
    have HF4 := hide hf
    have HG46 := hide (HG45.out.trans hg6)
    have HMT6 := hide (HMT.out.gr hg6)
    have HG6 := hide (HG5.out.trans hg6)
    have c6 := hg6.cell c5 (by simp)
    clear c5 hg6 hf HMT HG45
    go_wp2_with fail
    refine (each_any 104 #[.map (some mb)] #[] (fun vu vr w => Tryd.callAl _ vu vr w) 8 l (.slice (some ⟨b0, off0, none⟩) l.length cl) (fun _ u => u.imports.any fun i => !alikeI (tgtL 0 l fun _ => none) i) (fun _ V => Gr w6 V) (fun V => Gr w6 V) w6 w6 (HR.out.gr (HG1.out.trans HG6.out)) (fun k V h => h) (fun k V V' h g => h.trans g) (Gr.refl _) (ask_alike w6 l mb nn _ w4 HG46.out HMT6.out HNN.out) (by omega) ⟨_, _, rfl⟩).mono ?_
    intro x w7 hx
    rw [firstI_eq] at hx
    cases hf : firstU (fun u => u.imports.any fun i => !alikeI (tgtL 0 l fun _ => none) i) 0 l with
    | some k =>
      rw [hf] at hx
      obtain ⟨rfl, hb⟩ := hx
      exact ⟨rfl, HG1.out.trans (HG6.out.trans hb), .inr ⟨8, k, by rw [HLE.out, HF1.out, HF2.out, HF3.out, HF4.out, hf], rfl⟩⟩
    | none =>
    rw [hf] at hx
    obtain ⟨rfl, hg7⟩ := hx
    have HF5 := hide hf
    have HG47 := hide (HG46.out.trans hg7)
    have HMT7 := hide (HMT6.out.gr hg7)
    have HG7 := hide (HG6.out.trans hg7)
    have c7 := hg7.cell c6 (by simp)
    clear c6 hg7 hf HMT6 HG46
    go_wp2_with fail
    refine (few_any w7 l _ (HR.out.gr (HG1.out.trans HG7.out)) hl6 HOK.out).mono ?_
    rintro x w8 ⟨rfl, hg8⟩
    cases hfew : fewL l with
    | false =>
      have HEW : Hid (linkP l = .inr (9, 0)) := hide (by
        have := few_join (tgtN l) l
        rw [hfew] at this
        rw [HLE.out, HF1.out, HF2.out, HF3.out, HF4.out, HF5.out]
        exact if_pos (by
          have h2 := this.symm
          rw [Bool.not_eq_false', decide_eq_true_eq] at h2
          exact h2))
      clear hfew c7
      go_wp2_with fail
      refine (unless_no _ _ _).mono ?_
      rintro z w9 ⟨rfl, hg9⟩
      exact ⟨rfl, HG1.out.trans (HG7.out.trans (hg8.trans hg9)), .inr ⟨9, 0, HEW.out, rfl⟩⟩
    | true =>
      have HEW : Hid (linkP l = .inl ⟨h0.shapes, (joinF (tgtN l) 0 0 l).1, (joinF (tgtN l) 0 0 l).2.1, [], (joinF (tgtN l) 0 0 l).2.2⟩) := hide (by
        have := few_join (tgtN l) l
        rw [hfew] at this
        rw [HLE.out, HF1.out, HF2.out, HF3.out, HF4.out, HF5.out]
        exact if_neg (by simpa using this.symm))
      have HG8 := hide hg8
      have c8 := hg8.cell c7 (by simp)
      clear hfew c7 hg8
      go_wp2_with fail
      refine (unless_yes _ _ _).mono ?_
      rintro z w9 ⟨rfl, hg9⟩
      have HG49 := hide (HG47.out.trans (HG8.out.trans hg9))
      have HMT9 := hide (HMT7.out.gr (HG8.out.trans hg9))
      have HG9 := hide (HG7.out.trans (HG8.out.trans hg9))
      have c9 := hg9.cell c8 (by simp)
      clear c8 hg9 HMT7 HG47 HG8
      go_wp2_with fail
      refine (joined_any w4 w9 l h0 _ mb nn _ HL0.out (HR.out.gr (HG1.out.trans HG4.out)) HG49.out HMT9.out hl6 HOK.out).mono ?_
      rintro x w10 ⟨v1, v2, v3, v5, es1, cs, es3, es5, ρ, B, ab, rfl, hab, hJ, he1, hjn, hg10⟩
      obtain ⟨ao1, cp1, rfl⟩ := own_shape_ hJ.o1.1
      obtain ⟨ao2, cp2, rfl⟩ := own_shape_ hJ.o2.1
      obtain ⟨ao3, cp3, rfl⟩ := own_shape_ hJ.o3.1
      obtain ⟨ao5, cp5, rfl⟩ := own_shape_ hJ.o5.1
      have hrb := ((HG9.out.trans hg10).block (W.heap.size + 1) (by have := HS2.out; omega) (by simp)).trans HB1.out
      have p0 : w10.cell? ⟨W.heap.size + 1, 0, none⟩ = some (.slice none 0 0) := by rw [hcell_ hrb]; rfl
      have p1 : w10.cell? ⟨W.heap.size + 1, 1, none⟩ = some (.slice none 0 0) := by rw [hcell_ hrb]; rfl
      have p2 : w10.cell? ⟨W.heap.size + 1, 2, none⟩ = some (.slice none 0 0) := by rw [hcell_ hrb]; rfl
      have p3 : w10.cell? ⟨W.heap.size + 1, 3, none⟩ = some (.slice none 0 0) := by rw [hcell_ hrb]; rfl
      have p4 : w10.cell? ⟨W.heap.size + 1, 4, none⟩ = some (.slice none 0 0) := by rw [hcell_ hrb]; rfl
      have z0 : w10.frozen? ⟨W.heap.size + 1, 0, none⟩ = false := hfrozen_ hrb
      have z1 : w10.frozen? ⟨W.heap.size + 1, 1, none⟩ = false := hfrozen_ hrb
      have z2 : w10.frozen? ⟨W.heap.size + 1, 2, none⟩ = false := hfrozen_ hrb
      have z3 : w10.frozen? ⟨W.heap.size + 1, 3, none⟩ = false := hfrozen_ hrb
      have z4 : w10.frozen? ⟨W.heap.size + 1, 4, none⟩ = false := hfrozen_ hrb
      have HRB2 := hide hrb
      have HJ := hide hJ
      have HE1 := hide he1
      have HJN := hide hjn
      have HG10 := hide (HG9.out.trans hg10)
      have hB1 : W.heap.size + 2 ≤ ab := by have := HG9.out.size; have := HS2.out; omega
      clear hrb hJ he1 hjn hg10 c9 hab
      go_wp2_with fail
      rw [put5j_eq]
      have hwf : ∀ q, ¬ q = W.heap.size + 1 → (put5j w10 (W.heap.size + 1) (.slice ao1 es1.length cp1) (.slice ao2 cs.length cp2) (.slice ao3 es3.length cp3) (.slice none 0 0) (.slice ao5 es5.length cp5)).heap[q]? = w10.heap[q]? := fun q hq => put5j_other hq
      have hwb := put5j_same (y0 := .slice ao1 es1.length cp1) (y1 := .slice ao2 cs.length cp2) (y2 := .slice ao3 es3.length cp3) (y3 := .slice none 0 0) (y4 := .slice ao5 es5.length cp5) HRB2.out
      have hws : (put5j w10 (W.heap.size + 1) (.slice ao1 es1.length cp1) (.slice ao2 cs.length cp2) (.slice ao3 es3.length cp3) (.slice none 0 0) (.slice ao5 es5.length cp5)).heap.size = w10.heap.size := by unfold put5j; simp
      have hgw := HG1.out.trans HG10.out
      have hwt : Gr W (put5j w10 (W.heap.size + 1) (.slice ao1 es1.length cp1) (.slice ao2 cs.length cp2) (.slice ao3 es3.length cp3) (.slice none 0 0) (.slice ao5 es5.length cp5)) := ⟨hgw.os, hgw.tape, hgw.output, by rw [hws]; exact hgw.size, fun i hi hne => (hwf i (by omega)).trans (hgw.block i hi hne)⟩
      generalize put5j w10 (W.heap.size + 1) (.slice ao1 es1.length cp1) (.slice ao2 cs.length cp2) (.slice ao3 es3.length cp3) (.slice none 0 0) (.slice ao5 es5.length cp5) = WE at hwf hwb hws hwt ⊢
      have t0 : WE.cell? ⟨W.heap.size + 1, 0, none⟩ = some (.slice ao1 es1.length cp1) := by rw [hcell_ hwb]; rfl
      have t1 : WE.cell? ⟨W.heap.size + 1, 1, none⟩ = some (.slice ao2 cs.length cp2) := by rw [hcell_ hwb]; rfl
      have t2 : WE.cell? ⟨W.heap.size + 1, 2, none⟩ = some (.slice ao3 es3.length cp3) := by rw [hcell_ hwb]; rfl
      have t3 : WE.cell? ⟨W.heap.size + 1, 3, none⟩ = some (.slice none 0 0) := by rw [hcell_ hwb]; rfl
      have t4 : WE.cell? ⟨W.heap.size + 1, 4, none⟩ = some (.slice ao5 es5.length cp5) := by rw [hcell_ hwb]; rfl
      refine bodyPost_ret (v := .agg #[.slice ao1 es1.length cp1, .slice ao2 cs.length cp2, .slice ao3 es3.length cp3, .slice none 0 0, .slice ao5 es5.length cp5]) (by simp [results, Tryd.results48, go_sem, t0, t1, t2, t3, t4]) rfl ?_
      have hjn := HJN.out
      rw [numN_tgt] at hjn
      have j1 := congrArg (·.1) hjn
      have j2 := congrArg (·.2.1) hjn
      have j3 := congrArg (·.2.2) hjn
      simp only at j1 j2 j3
      have hB2 := HJ.out.ab
      refine ⟨hwt, .inl ⟨_, _, HEW.out, rfl, ⟨_, _, _, _, es1, cs, es3, es5, ρ, B, rfl, by omega, (HJ.out.keep (rb := W.heap.size + 1) (by omega) hwf (by omega) (by omega)).ou, ?_, ?_⟩⟩⟩
      · rw [HE1.out, j1, j2, j3]
      · intro e he
        have hm : e.p ∈ (joinF (tgtN l) 0 0 l).2.2 := by rw [← j3]; exact List.mem_map_of_mem he
        obtain ⟨u, hu, x, hx, ex⟩ := joinF_names _ _ _ _ _ hm
        have := exp_name (HOK.out u hu) hx
        rw [← ex] at this
        have e2 : e.p.name.length = e.s.size := by show e.s.data.toList.length = e.s.size; rw [Array.length_toList]; rfl
        unfold maxLen; omega
  · have HLE : Hid (linkP l = .inr (4, 0)) := hide (by
      cases l with
      | nil => rfl
      | cons h t => rw [linkP, if_pos (by simp at hc ⊢; omega)])
    have c0 := HB0.out
    by_cases h1 : 1 ≤ l.length
    · have i1 : (1 : Int) ≤ (l.length : Int) := by omega
      have n6 : ¬ l.length ≤ 6 := fun e => hc ⟨h1, e⟩
      have i6 : ¬ (l.length : Int) ≤ 6 := by omega
      have d6 : decide ((l.length : Int) ≤ 6) = false := by simpa using i6
      clear hc
      go_enter Tryd.func48, Tryd.ntmps48
      go_wp2_with fail
      refine (unless_no _ _ _).mono ?_
      rintro z w2 ⟨rfl, hg2⟩
      exact ⟨rfl, HG1.out.trans hg2, .inr ⟨4, 0, HLE.out, rfl⟩⟩
    · have i1 : ¬ (1 : Int) ≤ (l.length : Int) := by omega
      have d1 : decide ((1 : Int) ≤ (l.length : Int)) = false := by simpa using i1
      clear hc
      go_enter Tryd.func48, Tryd.ntmps48
      go_wp2_with fail
      refine (unless_no _ _ _).mono ?_
      rintro z w2 ⟨rfl, hg2⟩
      exact ⟨rfl, HG1.out.trans hg2, .inr ⟨4, 0, HLE.out, rfl⟩⟩
end Go.Proofs.YtkgncijcnlfhiaaDoor

