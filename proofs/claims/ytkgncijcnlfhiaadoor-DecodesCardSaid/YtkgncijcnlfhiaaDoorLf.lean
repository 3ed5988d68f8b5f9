import Derived.Test.YtkgncijcnlfhiaaDoorLe
namespace Go.Proofs.YtkgncijcnlfhiaaDoor
set_option linter.unusedVariables false
set_option linter.unusedSimpArgs false
open Go.RowKit
theorem flatN {α : Type} {f : α → List Value} {n : Nat} (hf : ∀ e, (f e).length = n) : ∀ (l : List α) (i r : Nat) (x : α), l[i]? = some x → r < n → (l.flatMap f)[i * n + r]? = (f x)[r]?
  | [], i, r, x, h, hr => by simp at h
  | y :: l, 0, r, x, h, hr => by
    simp at h
    subst h
    rw [List.flatMap_cons, List.getElem?_append_left (by rw [hf]; omega), Nat.zero_mul, Nat.zero_add]
  | y :: l, i + 1, r, x, h, hr => by
    have e1 : (i + 1) * n = i * n + n := Nat.succ_mul i n
    rw [List.flatMap_cons, List.getElem?_append_right (by rw [hf]; omega), hf, show (i + 1) * n + r - n = i * n + r by omega]
    exact flatN hf l i r x (by simpa using h) hr
theorem lown_rows {α : Type} {f : α → List Value} {w : World} {B n : Nat} {e : TypeId} {v : Value} {l : List α} (hf : ∀ e, (f e).length = n) (hn : 0 < n) (h : w.ownsRow B e n v l.length (l.flatMap f)) : ∃ ao cap, v = .slice ao l.length cap ∧ l.length ≤ maxLen ∧ ∀ (i : Nat) (x : α), l[i]? = some x → ∃ b, ao = some ⟨b, 0, none⟩ ∧ ∀ r, r < n → w.cell? ⟨b, 0 + i * n + r, none⟩ = (f x)[r]? := by
  rcases h.2 with ⟨rfl, h0⟩ | ⟨k, cap, cur, rfl, h1, h2, h3, h4, h5, h6⟩
  · exact ⟨none, 0, by rw [h0], by rw [h0]; exact Nat.zero_le _, fun i x hx => by have := (List.getElem?_eq_some_iff.1 hx).1; omega⟩
  · refine ⟨_, cap, rfl, by omega, fun i x hx => ⟨k, rfl, fun r hr => ?_⟩⟩
    have hi := (List.getElem?_eq_some_iff.1 hx).1
    have e0 : (i + 1) * n ≤ l.length * n := Nat.mul_le_mul_right n hi
    have e2 : (i + 1) * n = i * n + n := Nat.succ_mul i n
    have e1 : (cur.toList.take (l.length * n))[i * n + r]? = cur.toList[i * n + r]? := by rw [List.getElem?_take, if_pos (by omega)]
    rw [Nat.zero_add, lcell_ h2, ← Array.getElem?_toList, ← e1, h6]
    exact flatN hf l i r x hx hr
theorem map_at {α β : Type} {f : α → β} {l : List α} {i : Nat} {y : β} (h : (l.map f)[i]? = some y) : ∃ x, l[i]? = some x ∧ f x = y := by
  rw [List.getElem?_map] at h; exact Option.map_eq_some_iff.1 h
section
variable {w : World} {B : Nat} {t : TypeId} {v : Value}
theorem rshapes_own {es : List (Value × List Int)} (h : w.ownsRow B t 1 v es.length (es.flatMap fun e : Value × List Int => [e.1])) (he : ∀ e ∈ es, RInts w e.1 e.2) : RShapes w v (es.map (·.2)) := by
  obtain ⟨ao, cap, hv, hm, hc⟩ := lown_rows (n := 1) (fun _ => rfl) (by decide) h
  refine ⟨ao, cap, by rw [List.length_map]; exact hv, by rw [List.length_map]; exact hm, fun i x hx => ?_⟩
  obtain ⟨e, hx2, rfl⟩ := map_at hx
  obtain ⟨b, hb, hk⟩ := hc i e hx2
  exact ⟨b, 0, e.1, hb, by have := hk 0 (by decide); simpa using this, he e (List.mem_of_getElem? hx2)⟩
theorem rints_own {es : List Int} (h : w.ownsRow B t 1 v es.length (es.flatMap fun x : Int => [Value.int .i64 x])) : RInts w v es := by
  obtain ⟨ao, cap, hv, hm, hc⟩ := lown_rows (n := 1) (fun _ => rfl) (by decide) h
  refine ⟨ao, cap, hv, hm, fun i hi => ?_⟩
  obtain ⟨b, hb, hk⟩ := hc i es[i] (List.getElem?_eq_getElem hi)
  exact ⟨b, 0, hb, by have := hk 0 (by decide); rw [List.getD_eq_getElem?_getD, List.getElem?_eq_getElem hi]; simpa using this⟩
theorem rfuncs_own {es : List ((Value × Value × Value) × PFunc)} (h : w.ownsRow B t 4 v es.length (es.flatMap fun e : (Value × Value × Value) × PFunc => [e.1.1, Value.int .i64 e.2.result, e.1.2.1, e.1.2.2])) (he : ∀ e ∈ es, RInts w e.1.1 e.2.params ∧ RInts w e.1.2.1 e.2.locals ∧ RCode w e.1.2.2 e.2.code) : RFuncs w v (es.map (·.2)) := by
  obtain ⟨ao, cap, hv, hm, hc⟩ := lown_rows (n := 4) (fun _ => rfl) (by decide) h
  refine ⟨ao, cap, by rw [List.length_map]; exact hv, by rw [List.length_map]; exact hm, fun i x hx => ?_⟩
  obtain ⟨e, hx2, rfl⟩ := map_at hx
  obtain ⟨b, hb, hk⟩ := hc i e hx2
  exact ⟨b, 0, e.1.1, e.1.2.1, e.1.2.2, hb, hk 0 (by decide), hk 1 (by decide), hk 2 (by decide), hk 3 (by decide), he e (List.mem_of_getElem? hx2)⟩
theorem rimports_own {es : List ((Value × Value) × PImp)} (h : w.ownsRow B t 3 v es.length (es.flatMap fun e : (Value × Value) × PImp => [e.1.1, e.1.2, Value.int .i64 e.2.result])) (he : ∀ e ∈ es, RText e.1.1 e.2.name ∧ RInts w e.1.2 e.2.params) : RImports w v (es.map (·.2)) := by
  obtain ⟨ao, cap, hv, hm, hc⟩ := lown_rows (n := 3) (fun _ => rfl) (by decide) h
  refine ⟨ao, cap, by rw [List.length_map]; exact hv, by rw [List.length_map]; exact hm, fun i x hx => ?_⟩
  obtain ⟨e, hx2, rfl⟩ := map_at hx
  obtain ⟨b, hb, hk⟩ := hc i e hx2
  exact ⟨b, 0, e.1.1, e.1.2, hb, hk 0 (by decide), hk 1 (by decide), hk 2 (by decide), he e (List.mem_of_getElem? hx2)⟩
theorem rexports_own {es : List (Value × PExp)} (h : w.ownsRow B t 2 v es.length (es.flatMap fun e : Value × PExp => [e.1, Value.int .i64 e.2.func])) (he : ∀ e ∈ es, RText e.1 e.2.name) : RExports w v (es.map (·.2)) := by
  obtain ⟨ao, cap, hv, hm, hc⟩ := lown_rows (n := 2) (fun _ => rfl) (by decide) h
  refine ⟨ao, cap, by rw [List.length_map]; exact hv, by rw [List.length_map]; exact hm, fun i x hx => ?_⟩
  obtain ⟨e, hx2, rfl⟩ := map_at hx
  obtain ⟨b, hb, hk⟩ := hc i e hx2
  exact ⟨b, 0, e.1, hb, hk 0 (by decide), hk 1 (by decide), he e (List.mem_of_getElem? hx2)⟩
end
/-- the unit's box ub, and the unit in every world that has all blocks behind the box but rb -/
structure UBx (rb ub : Nat) (w : World) (x1 x2 x3 x4 x5 : Value) (u : PUnit) : Prop where
  bx : Box5 w ub x1 x2 x3 x4 x5
  sr : ∀ wq : World, (∀ b (x : Obj), ub < b → ¬ b = rb → w.heap[b]? = some x → wq.heap[b]? = some x) → RUnit wq (.agg #[x1, x2, x3, x4, x5]) u
theorem UBx.gc {rb ub : Nat} {w w' : World} {x1 x2 x3 x4 x5 : Value} {u : PUnit} (h : UBx rb ub w x1 x2 x3 x4 x5 u) (hlt : ub < rb) (g : Gc rb w w') : UBx rb ub w' x1 x2 x3 x4 x5 u :=
  ⟨h.bx.gc g (by omega), fun wq hq => h.sr wq (fun b x h1 h2 h3 => hq b x h1 h2 ((g.block b (Array.getElem?_eq_some_iff.1 h3).1 (by intro e; exact h2 (Option.some.inj e))).trans h3))⟩
theorem UBx.gr {rb ub : Nat} {w w' : World} {x1 x2 x3 x4 x5 : Value} {u : PUnit} (h : UBx rb ub w x1 x2 x3 x4 x5 u) (g : Gr w w') : UBx rb ub w' x1 x2 x3 x4 x5 u :=
  ⟨h.bx.gr g, fun wq hq => h.sr wq (fun b x h1 h2 h3 => hq b x h1 h2 ((g.block b (Array.getElem?_eq_some_iff.1 h3).1 (by simp)).trans h3))⟩
theorem UBx.unit {rb ub : Nat} {w : World} {x1 x2 x3 x4 x5 : Value} {u : PUnit} (h : UBx rb ub w x1 x2 x3 x4 x5 u) : RUnit w (.agg #[x1, x2, x3, x4, x5]) u := h.sr w (fun _ _ _ _ h => h)
/-- another reader: a block that is not there yet -/
theorem UBx.again {rb rb' ub : Nat} {w : World} {x1 x2 x3 x4 x5 : Value} {u : PUnit} (h : UBx rb ub w x1 x2 x3 x4 x5 u) (hr : w.heap.size ≤ rb') : UBx rb' ub w x1 x2 x3 x4 x5 u :=
  ⟨h.bx, fun wq hq => h.sr wq (fun b x h1 h2 h3 => hq b x h1 (by have := (Array.getElem?_eq_some_iff.1 h3).1; omega) h3)⟩
/-- what a fill leaves -/
structure Fld (rb ub : Nat) (s : ByteArray) (w w' : World) (r : List UInt8) (bad : Bool) : Prop where
  ls : LsR w' rb s r bad
  low : ∀ b, b < w.heap.size → ¬ b = rb → ¬ b = ub → w'.heap[b]? = w.heap[b]?
  hs : w.heap.size ≤ w'.heap.size
  env : w'.os = w.os ∧ w'.tape = w.tape ∧ w'.output = w.output
theorem FlW.fld {α : Type} {w w' : World} {rb ub : Nat} {s : ByteArray} {o n : Nat} {t : TypeId} {f : α → List Value} {E : World → α → Prop} {es : List α} {vl : Value} {r : List UInt8} {bad : Bool} (h : FlW w w.heap.size rb ub s o n t f E es vl r bad w') : Fld rb ub s w w' r bad := ⟨h.ls, h.low, h.hs, h.env⟩
theorem FlW.olds {α : Type} {w w' : World} {rb ub : Nat} {s : ByteArray} {o n : Nat} {t : TypeId} {f : α → List Value} {E : World → α → Prop} {es : List α} {vl : Value} {r : List UInt8} {bad : Bool} (h : FlW w w.heap.size rb ub s o n t f E es vl r bad w') {x1 x2 x3 x4 x5 : Value} {u : PUnit} (hu : UBx rb ub w x1 x2 x3 x4 x5 u) {wq : World} (hq : ∀ b (x : Obj), ub < b → ¬ b = rb → w'.heap[b]? = some x → wq.heap[b]? = some x) :
    RUnit wq (.agg #[x1, x2, x3, x4, x5]) u ∧ wq.ownsRow w.heap.size t n vl es.length (es.flatMap f) ∧ ∀ e ∈ es, E wq e := by
  have hlt := h.lt
  refine ⟨hu.sr wq (fun b x h1 h2 h3 => hq b x h1 h2 ((h.low b (Array.getElem?_eq_some_iff.1 h3).1 h2 (by omega)).trans h3)), lown_at h.ow (fun k x hk hx => hq k x (by have := (lown_lt h.ow k hk).1; omega) (by have := (lown_lt h.ow k hk).1; omega) hx), fun e he => h.el e he wq (fun b x h1 h2 h3 => hq b x (by omega) (by omega) h3)⟩
theorem fill1_u (rb ub : Nat) (s : ByteArray) (r : List UInt8) (bad : Bool) (w : World) (h : LsR w rb s r bad) (hlt : ub < rb) (ht : Tab w) (h0 : ¬ ub = 0) (x2 x3 x4 x5 : Value) (u : PUnit) (hu : UBx rb ub w (.slice none 0 0) x2 x3 x4 x5 u) :
    Calls Tryd.prog 44 #[.pointer (some ⟨rb, 0, none⟩), .pointer (some ⟨ub, 0, none⟩), .int .i64 1] w fun x w' => x = .returned (.tuple #[]) ∧ ∃ y, UBx rb ub w' y x2 x3 x4 x5 (fillU 1 u r bad).1 ∧ Fld rb ub s w w' (fillU 1 u r bad).2.1 (fillU 1 u r bad).2.2 := by
  have hrb : rb < w.heap.size := by obtain ⟨q, h1, _⟩ := h; exact block_lt h1.1
  refine (fill1_ls rb ub s r bad w h (by omega) (by omega) ⟨hu.bx.1, hu.bx.2.2.2.2.2.1⟩).mono ?_
  rintro x w' ⟨rfl, es, vl, hf, he⟩
  refine ⟨rfl, vl, ⟨⟨hf.here.1, (hf.rest 1 (by decide)).1.trans hu.bx.2.1, (hf.rest 2 (by decide)).1.trans hu.bx.2.2.1, (hf.rest 3 (by decide)).1.trans hu.bx.2.2.2.1, (hf.rest 4 (by decide)).1.trans hu.bx.2.2.2.2.1, hf.here.2, (hf.rest 1 (by decide)).2.trans hu.bx.2.2.2.2.2.2.1, (hf.rest 2 (by decide)).2.trans hu.bx.2.2.2.2.2.2.2.1, (hf.rest 3 (by decide)).2.trans hu.bx.2.2.2.2.2.2.2.2.1, (hf.rest 4 (by decide)).2.trans hu.bx.2.2.2.2.2.2.2.2.2⟩, fun wq hq => ?_⟩, hf.fld⟩
  obtain ⟨hU, ho, hE⟩ := hf.olds hu hq
  obtain ⟨z1, z2, z3, z4, z5, hv, k1, k2, k3, k4, k5⟩ := hU
  simp only [Value.agg.injEq, Array.mk.injEq, List.cons.injEq, and_true] at hv
  obtain ⟨e1, e2, e3, e4, e5⟩ := hv
  subst e1 e2 e3 e4 e5
  exact ⟨_, _, _, _, _, rfl, (by show RShapes wq vl (lfill llist r bad).1; rw [he]; exact rshapes_own ho hE), k2, k3, k4, k5⟩
theorem fill2_u (rb ub : Nat) (s : ByteArray) (r : List UInt8) (bad : Bool) (w : World) (h : LsR w rb s r bad) (hlt : ub < rb) (ht : Tab w) (h0 : ¬ ub = 0) (x1 x3 x4 x5 : Value) (u : PUnit) (hu : UBx rb ub w x1 (.slice none 0 0) x3 x4 x5 u) :
    Calls Tryd.prog 44 #[.pointer (some ⟨rb, 0, none⟩), .pointer (some ⟨ub, 0, none⟩), .int .i64 2] w fun x w' => x = .returned (.tuple #[]) ∧ ∃ y, UBx rb ub w' x1 y x3 x4 x5 (fillU 2 u r bad).1 ∧ Fld rb ub s w w' (fillU 2 u r bad).2.1 (fillU 2 u r bad).2.2 := by
  have hrb : rb < w.heap.size := by obtain ⟨q, h1, _⟩ := h; exact block_lt h1.1
  refine (fill2_ls rb ub s r bad w h (by omega) (by omega) ⟨hu.bx.2.1, hu.bx.2.2.2.2.2.2.1⟩).mono ?_
  rintro x w' ⟨rfl, es, vl, hf, he⟩
  refine ⟨rfl, vl, ⟨⟨(hf.rest 0 (by decide)).1.trans hu.bx.1, hf.here.1, (hf.rest 2 (by decide)).1.trans hu.bx.2.2.1, (hf.rest 3 (by decide)).1.trans hu.bx.2.2.2.1, (hf.rest 4 (by decide)).1.trans hu.bx.2.2.2.2.1, (hf.rest 0 (by decide)).2.trans hu.bx.2.2.2.2.2.1, hf.here.2, (hf.rest 2 (by decide)).2.trans hu.bx.2.2.2.2.2.2.2.1, (hf.rest 3 (by decide)).2.trans hu.bx.2.2.2.2.2.2.2.2.1, (hf.rest 4 (by decide)).2.trans hu.bx.2.2.2.2.2.2.2.2.2⟩, fun wq hq => ?_⟩, hf.fld⟩
  obtain ⟨hU, ho, hE⟩ := hf.olds hu hq
  obtain ⟨z1, z2, z3, z4, z5, hv, k1, k2, k3, k4, k5⟩ := hU
  simp only [Value.agg.injEq, Array.mk.injEq, List.cons.injEq, and_true] at hv
  obtain ⟨e1, e2, e3, e4, e5⟩ := hv
  subst e1 e2 e3 e4 e5
  exact ⟨_, _, _, _, _, rfl, k1, (by show RInts wq vl (lfill lsigned r bad).1; rw [he]; exact rints_own ho), k3, k4, k5⟩
theorem fill3_u (rb ub : Nat) (s : ByteArray) (r : List UInt8) (bad : Bool) (w : World) (h : LsR w rb s r bad) (hlt : ub < rb) (ht : Tab w) (h0 : ¬ ub = 0) (x1 x2 x4 x5 : Value) (u : PUnit) (hu : UBx rb ub w x1 x2 (.slice none 0 0) x4 x5 u) :
    Calls Tryd.prog 44 #[.pointer (some ⟨rb, 0, none⟩), .pointer (some ⟨ub, 0, none⟩), .int .i64 3] w fun x w' => x = .returned (.tuple #[]) ∧ ∃ y, UBx rb ub w' x1 x2 y x4 x5 (fillU 3 u r bad).1 ∧ Fld rb ub s w w' (fillU 3 u r bad).2.1 (fillU 3 u r bad).2.2 := by
  have hrb : rb < w.heap.size := by obtain ⟨q, h1, _⟩ := h; exact block_lt h1.1
  refine (fill3_ls rb ub s r bad w h (by omega) (by omega) ht (by omega) h0 ⟨hu.bx.2.2.1, hu.bx.2.2.2.2.2.2.2.1⟩).mono ?_
  rintro x w' ⟨rfl, es, vl, hf, he⟩
  refine ⟨rfl, vl, ⟨⟨(hf.rest 0 (by decide)).1.trans hu.bx.1, (hf.rest 1 (by decide)).1.trans hu.bx.2.1, hf.here.1, (hf.rest 3 (by decide)).1.trans hu.bx.2.2.2.1, (hf.rest 4 (by decide)).1.trans hu.bx.2.2.2.2.1, (hf.rest 0 (by decide)).2.trans hu.bx.2.2.2.2.2.1, (hf.rest 1 (by decide)).2.trans hu.bx.2.2.2.2.2.2.1, hf.here.2, (hf.rest 3 (by decide)).2.trans hu.bx.2.2.2.2.2.2.2.2.1, (hf.rest 4 (by decide)).2.trans hu.bx.2.2.2.2.2.2.2.2.2⟩, fun wq hq => ?_⟩, hf.fld⟩
  obtain ⟨hU, ho, hE⟩ := hf.olds hu hq
  obtain ⟨z1, z2, z3, z4, z5, hv, k1, k2, k3, k4, k5⟩ := hU
  simp only [Value.agg.injEq, Array.mk.injEq, List.cons.injEq, and_true] at hv
  obtain ⟨e1, e2, e3, e4, e5⟩ := hv
  subst e1 e2 e3 e4 e5
  exact ⟨_, _, _, _, _, rfl, k1, k2, (by show RFuncs wq vl (lfill lfunc r bad).1; rw [he]; exact rfuncs_own ho hE), k4, k5⟩
theorem fill4_u (rb ub : Nat) (s : ByteArray) (r : List UInt8) (bad : Bool) (w : World) (h : LsR w rb s r bad) (hlt : ub < rb) (ht : Tab w) (h0 : ¬ ub = 0) (x1 x2 x3 x5 : Value) (u : PUnit) (hu : UBx rb ub w x1 x2 x3 (.slice none 0 0) x5 u) :
    Calls Tryd.prog 44 #[.pointer (some ⟨rb, 0, none⟩), .pointer (some ⟨ub, 0, none⟩), .int .i64 4] w fun x w' => x = .returned (.tuple #[]) ∧ ∃ y, UBx rb ub w' x1 x2 x3 y x5 (fillU 4 u r bad).1 ∧ Fld rb ub s w w' (fillU 4 u r bad).2.1 (fillU 4 u r bad).2.2 := by
  have hrb : rb < w.heap.size := by obtain ⟨q, h1, _⟩ := h; exact block_lt h1.1
  refine (fill4_ls rb ub s r bad w h (by omega) (by omega) ⟨hu.bx.2.2.2.1, hu.bx.2.2.2.2.2.2.2.2.1⟩).mono ?_
  rintro x w' ⟨rfl, es, vl, hf, he⟩
  refine ⟨rfl, vl, ⟨⟨(hf.rest 0 (by decide)).1.trans hu.bx.1, (hf.rest 1 (by decide)).1.trans hu.bx.2.1, (hf.rest 2 (by decide)).1.trans hu.bx.2.2.1, hf.here.1, (hf.rest 4 (by decide)).1.trans hu.bx.2.2.2.2.1, (hf.rest 0 (by decide)).2.trans hu.bx.2.2.2.2.2.1, (hf.rest 1 (by decide)).2.trans hu.bx.2.2.2.2.2.2.1, (hf.rest 2 (by decide)).2.trans hu.bx.2.2.2.2.2.2.2.1, hf.here.2, (hf.rest 4 (by decide)).2.trans hu.bx.2.2.2.2.2.2.2.2.2⟩, fun wq hq => ?_⟩, hf.fld⟩
  obtain ⟨hU, ho, hE⟩ := hf.olds hu hq
  obtain ⟨z1, z2, z3, z4, z5, hv, k1, k2, k3, k4, k5⟩ := hU
  simp only [Value.agg.injEq, Array.mk.injEq, List.cons.injEq, and_true] at hv
  obtain ⟨e1, e2, e3, e4, e5⟩ := hv
  subst e1 e2 e3 e4 e5
  exact ⟨_, _, _, _, _, rfl, k1, k2, k3, (by show RImports wq vl (lfill limp r bad).1; rw [he]; exact rimports_own ho hE), k5⟩
theorem fill5_u (rb ub : Nat) (s : ByteArray) (r : List UInt8) (bad : Bool) (w : World) (h : LsR w rb s r bad) (hlt : ub < rb) (ht : Tab w) (h0 : ¬ ub = 0) (x1 x2 x3 x4 : Value) (u : PUnit) (hu : UBx rb ub w x1 x2 x3 x4 (.slice none 0 0) u) :
    Calls Tryd.prog 44 #[.pointer (some ⟨rb, 0, none⟩), .pointer (some ⟨ub, 0, none⟩), .int .i64 5] w fun x w' => x = .returned (.tuple #[]) ∧ ∃ y, UBx rb ub w' x1 x2 x3 x4 y (fillU 5 u r bad).1 ∧ Fld rb ub s w w' (fillU 5 u r bad).2.1 (fillU 5 u r bad).2.2 := by
  have hrb : rb < w.heap.size := by obtain ⟨q, h1, _⟩ := h; exact block_lt h1.1
  refine (fill5_ls rb ub s r bad w h (by omega) (by omega) ⟨hu.bx.2.2.2.2.1, hu.bx.2.2.2.2.2.2.2.2.2⟩).mono ?_
  rintro x w' ⟨rfl, es, vl, hf, he⟩
  refine ⟨rfl, vl, ⟨⟨(hf.rest 0 (by decide)).1.trans hu.bx.1, (hf.rest 1 (by decide)).1.trans hu.bx.2.1, (hf.rest 2 (by decide)).1.trans hu.bx.2.2.1, (hf.rest 3 (by decide)).1.trans hu.bx.2.2.2.1, hf.here.1, (hf.rest 0 (by decide)).2.trans hu.bx.2.2.2.2.2.1, (hf.rest 1 (by decide)).2.trans hu.bx.2.2.2.2.2.2.1, (hf.rest 2 (by decide)).2.trans hu.bx.2.2.2.2.2.2.2.1, (hf.rest 3 (by decide)).2.trans hu.bx.2.2.2.2.2.2.2.2.1, hf.here.2⟩, fun wq hq => ?_⟩, hf.fld⟩
  obtain ⟨hU, ho, hE⟩ := hf.olds hu hq
  obtain ⟨z1, z2, z3, z4, z5, hv, k1, k2, k3, k4, k5⟩ := hU
  simp only [Value.agg.injEq, Array.mk.injEq, List.cons.injEq, and_true] at hv
  obtain ⟨e1, e2, e3, e4, e5⟩ := hv
  subst e1 e2 e3 e4 e5
  exact ⟨_, _, _, _, _, rfl, k1, k2, k3, k4, (by show RExports wq vl (lfill lexp r bad).1; rw [he]; exact rexports_own ho hE)⟩
def Nils (k : Nat) (x1 x2 x3 x4 x5 : Value) : Prop := (k ≤ 1 → x1 = .slice none 0 0) ∧ (k ≤ 2 → x2 = .slice none 0 0) ∧ (k ≤ 3 → x3 = .slice none 0 0) ∧ (k ≤ 4 → x4 = .slice none 0 0) ∧ (k ≤ 5 → x5 = .slice none 0 0)
theorem fillK_u (k : Nat) (h1 : 1 ≤ k) (h5 : k ≤ 5) (rb ub : Nat) (s : ByteArray) (r : List UInt8) (bad : Bool) (w : World) (h : LsR w rb s r bad) (hlt : ub < rb) (ht : Tab w) (h0 : ¬ ub = 0) (x1 x2 x3 x4 x5 : Value) (u : PUnit) (hu : UBx rb ub w x1 x2 x3 x4 x5 u) (hn : Nils k x1 x2 x3 x4 x5) :
    Calls Tryd.prog 44 #[.pointer (some ⟨rb, 0, none⟩), .pointer (some ⟨ub, 0, none⟩), .int .i64 (k : Int)] w fun x w' => x = .returned (.tuple #[]) ∧ ∃ y1 y2 y3 y4 y5, UBx rb ub w' y1 y2 y3 y4 y5 (fillU k u r bad).1 ∧ Nils (k + 1) y1 y2 y3 y4 y5 ∧ Fld rb ub s w w' (fillU k u r bad).2.1 (fillU k u r bad).2.2 := by
  obtain ⟨n1, n2, n3, n4, n5⟩ := hn
  have hc : k = 1 ∨ k = 2 ∨ k = 3 ∨ k = 4 ∨ k = 5 := by omega
  rcases hc with rfl | rfl | rfl | rfl | rfl
  · obtain rfl := n1 (by decide)
    refine Calls.mono (fill1_u rb ub s r bad w h hlt ht h0 x2 x3 x4 x5 u hu) ?_
    rintro x w' ⟨rfl, y, hy, hf⟩
    exact ⟨rfl, y, x2, x3, x4, x5, hy, ⟨fun h => absurd h (by omega), fun h => n2 (by omega), fun h => n3 (by omega), fun h => n4 (by omega), fun h => n5 (by omega)⟩, hf⟩
  · obtain rfl := n2 (by decide)
    refine Calls.mono (fill2_u rb ub s r bad w h hlt ht h0 x1 x3 x4 x5 u hu) ?_
    rintro x w' ⟨rfl, y, hy, hf⟩
    exact ⟨rfl, x1, y, x3, x4, x5, hy, ⟨fun h => n1 (by omega), fun h => absurd h (by omega), fun h => n3 (by omega), fun h => n4 (by omega), fun h => n5 (by omega)⟩, hf⟩
  · obtain rfl := n3 (by decide)
    refine Calls.mono (fill3_u rb ub s r bad w h hlt ht h0 x1 x2 x4 x5 u hu) ?_
    rintro x w' ⟨rfl, y, hy, hf⟩
    exact ⟨rfl, x1, x2, y, x4, x5, hy, ⟨fun h => n1 (by omega), fun h => n2 (by omega), fun h => absurd h (by omega), fun h => n4 (by omega), fun h => n5 (by omega)⟩, hf⟩
  · obtain rfl := n4 (by decide)
    refine Calls.mono (fill4_u rb ub s r bad w h hlt ht h0 x1 x2 x3 x5 u hu) ?_
    rintro x w' ⟨rfl, y, hy, hf⟩
    exact ⟨rfl, x1, x2, x3, y, x5, hy, ⟨fun h => n1 (by omega), fun h => n2 (by omega), fun h => n3 (by omega), fun h => absurd h (by omega), fun h => n5 (by omega)⟩, hf⟩
  · obtain rfl := n5 (by decide)
    refine Calls.mono (fill5_u rb ub s r bad w h hlt ht h0 x1 x2 x3 x4 u hu) ?_
    rintro x w' ⟨rfl, y, hy, hf⟩
    exact ⟨rfl, x1, x2, x3, x4, y, hy, ⟨fun h => n1 (by omega), fun h => n2 (by omega), fun h => n3 (by omega), fun h => n4 (by omega), fun h => absurd h (by omega)⟩, hf⟩
end Go.Proofs.YtkgncijcnlfhiaaDoor

