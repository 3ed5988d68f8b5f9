import Derived.Test.YtkgncijcnlfhiaaDoorLa
namespace Go.Proofs.YtkgncijcnlfhiaaDoor
set_option linter.unusedVariables false
set_option linter.unusedSimpArgs false
open Go.RowKit
/-- ub: the unit's box; its field o is the list es (n cells an element, by f), in blocks from H on; E: what an element is, in every world that differs in the list's own block alone -/
structure FlW {α : Type} (V : World) (H rb ub : Nat) (s : ByteArray) (o n : Nat) (t : TypeId) (f : α → List Value) (E : World → α → Prop) (es : List α) (vl : Value) (r : List UInt8) (bad : Bool) (w : World) : Prop where
  lt : rb < H ∧ ub < H ∧ ¬ rb = ub
  here : w.cell? ⟨ub, o, none⟩ = some vl ∧ w.frozen? ⟨ub, o, none⟩ = false
  rest : ∀ j, ¬ j = o → w.cell? ⟨ub, j, none⟩ = V.cell? ⟨ub, j, none⟩ ∧ w.frozen? ⟨ub, j, none⟩ = V.frozen? ⟨ub, j, none⟩
  low : ∀ b, b < H → ¬ b = rb → ¬ b = ub → w.heap[b]? = V.heap[b]?
  hs : H ≤ w.heap.size
  ow : w.ownsRow H t n vl es.length (es.flatMap f)
  el : ∀ e ∈ es, ∀ wq : World, (∀ b (x : Obj), H ≤ b → some b ≠ vl.ownBlock → w.heap[b]? = some x → wq.heap[b]? = some x) → E wq e
  ls : LsR w rb s r bad
  env : w.os = V.os ∧ w.tape = V.tape ∧ w.output = V.output
section
variable {α : Type} {V w w' : World} {H rb ub : Nat} {s : ByteArray} {o n : Nat} {t : TypeId} {f : α → List Value} {E : World → α → Prop} {es : List α} {vl : Value} {r r' : List UInt8} {bad bad' : Bool}
theorem FlW.call (h : FlW V H rb ub s o n t f E es vl r bad w) (g : Gc rb w w') (hl : LsR w' rb s r' bad') : FlW V H rb ub s o n t f E es vl r' bad' w' := by
  have hlt := h.lt
  have hs := h.hs
  have hb : ∀ b, b < w.heap.size → ¬ b = rb → w'.heap[b]? = w.heap[b]? := fun b h1 h2 => g.block b h1 (by intro e; exact h2 (Option.some.inj e))
  have hu := hb ub (by omega) (by omega)
  refine ⟨hlt, ⟨(World.cell?_of_block hu).trans h.here.1, (World.frozen?_of_block hu).trans h.here.2⟩, fun j hj => ⟨(World.cell?_of_block hu).trans (h.rest j hj).1, (World.frozen?_of_block hu).trans (h.rest j hj).2⟩, fun b h1 h2 h3 => (hb b (by omega) h2).trans (h.low b h1 h2 h3), Nat.le_trans hs g.size, lown_same h.ow (fun k hk => hb k (lown_lt h.ow k hk).2 (by have := (lown_lt h.ow k hk).1; omega)), fun e he wq hq => h.el e he wq (fun b x h1 h2 h3 => hq b x h1 h2 ((hb b (Array.getElem?_eq_some_iff.1 h3).1 (by omega)).trans h3)), hl, by rw [g.os, g.tape, g.output]; exact h.env⟩
theorem FlW.gr (h : FlW V H rb ub s o n t f E es vl r bad w) (g : Gr w w') : FlW V H rb ub s o n t f E es vl r bad w' := h.call g.toGc (h.ls.gr g)
theorem FlW.new {V : World} (hlt : rb < V.heap.size ∧ ub < V.heap.size ∧ ¬ rb = ub) (hc : V.cell? ⟨ub, o, none⟩ = some (.slice none 0 0) ∧ V.frozen? ⟨ub, o, none⟩ = false) (hl : LsR V rb s r bad) : FlW V V.heap.size rb ub s o n t f E [] (.slice none 0 0) r bad V :=
  ⟨hlt, hc, fun _ _ => ⟨rfl, rfl⟩, fun _ _ _ _ => rfl, Nat.le_refl _, ⟨by simp, .inl ⟨rfl, rfl⟩⟩, fun e he => by simp at he, hl, rfl, rfl, rfl⟩
/-- an element more -/
theorem FlW.put {w3 : World} {v3 : Value} {e : α} (h : FlW V H rb ub s o n t f E es vl r bad w) (hap : Ap H t n w vl w3 v3 (es.length + 1) (es.flatMap f ++ f e)) (he : ∀ wq : World, (∀ b (x : Obj), H ≤ b → some b ≠ vl.ownBlock → w.heap[b]? = some x → wq.heap[b]? = some x) → E wq e) :
    (w3.cell? ⟨ub, o, none⟩ = some vl ∧ w3.frozen? ⟨ub, o, none⟩ = false) ∧ FlW V H rb ub s o n t f E (es ++ [e]) v3 r bad (w3.setCell ⟨ub, o, none⟩ v3) := by
  have hlt := h.lt
  have hs := h.hs
  have old : ∀ b, b < w.heap.size → some b ≠ vl.ownBlock → w3.heap[b]? = w.heap[b]? := fun b hb hne => hap.frm.block b hb hne
  have oldH : ∀ b, b < H → w3.heap[b]? = w.heap[b]? := fun b hb => old b (by omega) (fun e => by have := lown_ge h.ow _ e.symm; omega)
  have hu := oldH ub hlt.2.1
  have c3 : w3.cell? ⟨ub, o, none⟩ = some vl ∧ w3.frozen? ⟨ub, o, none⟩ = false := ⟨(World.cell?_of_block hu).trans h.here.1, (World.frozen?_of_block hu).trans h.here.2⟩
  have oth : ∀ b, ¬ b = ub → (w3.setCell ⟨ub, o, none⟩ v3).heap[b]? = w3.heap[b]? := fun b hb => Below.heap_setCell _ _ _ _ hb
  have far : ∀ (wq : World), (∀ b (x : Obj), H ≤ b → some b ≠ v3.ownBlock → (w3.setCell ⟨ub, o, none⟩ v3).heap[b]? = some x → wq.heap[b]? = some x) → ∀ b (x : Obj), H ≤ b → some b ≠ vl.ownBlock → w.heap[b]? = some x → wq.heap[b]? = some x := fun wq hq b x h1 h2 h3 => by
    have hb := (Array.getElem?_eq_some_iff.1 h3).1
    refine hq b x h1 (fun e3 => ?_) ((oth b (by omega)).trans ((old b hb h2).trans h3))
    rcases hap.lies b e3.symm with e4 | e4
    · exact h2 e4.symm
    · omega
  refine ⟨c3, hlt, ⟨World.cell?_setCell_same _ _ _ c3.1, by rw [World.frozen?_setCell]; exact c3.2⟩, fun j hj => ⟨(cell_set_ne (by omega)).trans ((World.cell?_of_block hu).trans (h.rest j hj).1), by rw [World.frozen?_setCell]; exact (World.frozen?_of_block hu).trans (h.rest j hj).2⟩, fun b h1 h2 h3 => (oth b h3).trans ((oldH b h1).trans (h.low b h1 h2 h3)), by have := hap.frm.size; simp; omega, ?_, ?_, ?_, by show w3.os = V.os ∧ w3.tape = V.tape ∧ w3.output = V.output; rw [hap.frm.os, hap.frm.tape, hap.frm.output]; exact h.env⟩
  · rw [List.length_append, List.flatMap_append]
    refine lown_same (w := w3) ?_ (fun k hk => oth k (by have := lown_ge hap.own k hk; omega))
    simpa using hap.own
  · intro x hx wq hq
    rcases List.mem_append.1 hx with hx | hx
    · exact h.el x hx wq (far wq hq)
    · rw [List.mem_singleton.1 hx]; exact he wq (far wq hq)
  · obtain ⟨q, h1, h2⟩ := h.ls
    exact ⟨q, ⟨(oth rb hlt.2.2).trans ((oldH rb hlt.1).trans h1.1), h1.2⟩, h2⟩
end
end Go.Proofs.YtkgncijcnlfhiaaDoor

