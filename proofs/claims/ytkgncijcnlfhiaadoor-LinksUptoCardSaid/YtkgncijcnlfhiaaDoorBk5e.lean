import Derived.Test.YtkgncijcnlfhiaaDoorBk5c
import Derived.Test.YtkgncijcnlfhiaaDoorW4
namespace Go.Proofs.YtkgncijcnlfhiaaDoor
set_option linter.unusedVariables false
set_option linter.unusedSimpArgs false
open Go.RowKit
def BSt (db ub : Nat) (vo : Value) (m : Int) (v1 v2 v3 v4 v5 : Value) (es1 : List (Value × Nat)) (es3 : List UF) (es4 : List UI) (n5 n B0 : Nat) (W : World) (ρ0 : Nat → BR) (live : BR → Prop) (a b c d K : Nat) (w : World) : Prop :=
  ∃ V X ρ, BookS db w vo ((n + K : Nat) : Int) V X ρ ∧ BookE w ρ X ∧ UnP db ub m v1 v2 v3 v4 v5 es1 es3 es4 n5 live a b c d ρ w ∧ MvU db W w ρ0 ρ ∧ ∀ i, (X i).length ≤ B0 + 4 * K
/-- a unit whose lists are its own -/
structure UnO (db : Nat) (v1 v2 v3 v4 v5 : Value) (es1 : List (Value × Nat)) (n2 : Nat) (es3 : List UF) (es4 : List UI) (n5 : Nat) (ρ : Nat → BR) (w : World) : Prop where
  inn : ∀ r v T sz n, Inn es1 es3 es4 r v T sz n → (∃ xs, OwR ρ r w (db + 1) T sz v n xs) ∧ n ≤ 100000
  o1 : OwR ρ (.ls 0 0) w (db + 1) 23 1 v1 es1.length (es1.map (·.1))
  o2 : (∃ xs, OwR ρ (.ls 1 0) w (db + 1) 3 1 v2 n2 xs) ∧ n2 ≤ 100000
  o3 : OwR ρ (.ls 2 0) w (db + 1) 76 4 v3 es3.length (es3.flatMap bF)
  o4 : OwR ρ (.ls 3 0) w (db + 1) 79 3 v4 es4.length (es4.flatMap bI)
  o5 : ∃ xs, OwR ρ (.ls 4 0) w (db + 1) 81 2 v5 n5 xs
theorem UnO.mv {db : Nat} {v1 v2 v3 v4 v5 : Value} {es1 : List (Value × Nat)} {n2 : Nat} {es3 : List UF} {es4 : List UI} {n5 : Nat} {ρ ρ' : Nat → BR} {w w' : World} (h : UnO db v1 v2 v3 v4 v5 es1 n2 es3 es4 n5 ρ w) (mv : MvR db (fun _ => False) w w' ρ ρ') : UnO db v1 v2 v3 v4 v5 es1 n2 es3 es4 n5 ρ' w' :=
  ⟨fun r v T sz n hi => ⟨(h.inn r v T sz n hi).1.imp fun xs ho => ho.mv mv id, (h.inn r v T sz n hi).2⟩, h.o1.mv mv id, ⟨h.o2.1.imp fun xs ho => ho.mv mv id, h.o2.2⟩, h.o3.mv mv id, h.o4.mv mv id, h.o5.imp fun xs ho => ho.mv mv id⟩
theorem UnO.start {db ub : Nat} {v1 v2 v3 v4 v5 : Value} {es1 : List (Value × Nat)} {n2 : Nat} {es3 : List UF} {es4 : List UI} {n5 : Nat} {ρ : Nat → BR} {w : World} (m : Int) (h : UnO db v1 v2 v3 v4 v5 es1 n2 es3 es4 n5 ρ w) (hb : w.heap[ub]? = some (.cells #[v1, v2, v3, v4, v5] 28 (0, 0))) (hu : ρ ub = .no ∧ ub ≠ db) : UnP db ub m v1 v2 v3 v4 v5 es1 es3 es4 n5 (fun _ => True) 0 0 0 0 ρ w :=
  ⟨hb, hu, fun r v T sz n hi _ => h.inn r v T sz n hi, ⟨_, h.o1, fun j hj => by omega, fun j e _ he => by rw [List.getElem?_map, he]; rfl⟩, ⟨_, h.o3, fun j q hj => by omega, fun j e q _ he hq => flat_at (n := 4) (fun _ => rfl) he hq⟩, ⟨_, h.o4, fun j q hj => by omega, fun j e q _ he hq => flat_at (n := 3) (fun _ => rfl) he hq⟩, h.o5.imp fun xs ho => ⟨ho, fun j q hj => by omega⟩⟩
section
variable {db ub : Nat} {vo : Value} {m : Int} {v1 v2 v3 v4 v5 : Value} {es1 : List (Value × Nat)} {es3 : List UF} {es4 : List UI} {n5 n B0 : Nat} {W : World} {ρ0 : Nat → BR} {live : BR → Prop} {a b c d K : Nat} {w : World}
theorem BSt.num (h : BSt db ub vo m v1 v2 v3 v4 v5 es1 es3 es4 n5 n B0 W ρ0 live a b c d K w) {k0 j0 nn : Nat} {v : Value} (hi : Inn es1 es3 es4 (.ls k0 j0) v 3 1 nn) (hl : live (.ls k0 j0)) (hK : n + K ≤ 1000000) (hB : B0 + 4 * K ≤ 1000000) :
    Calls Tryd.prog 45 #[.pointer (some ⟨db, 1, none⟩), v] w (fun x w' => x = .returned (.tuple #[]) ∧ BSt db ub vo m v1 v2 v3 v4 v5 es1 es3 es4 n5 n B0 W ρ0 (fun r => live r ∧ r ≠ .ls k0 j0) a b c d (K + 1) w') := by
  obtain ⟨V, X, ρ, hS, hE, hU, hM, hX⟩ := h
  obtain ⟨⟨xs, ho⟩, hn⟩ := hU.inn _ _ _ _ _ hi hl
  obtain ⟨k, j, e, hk⟩ := hi.ge
  injection e with e1 e2
  refine (numbers_any db vo (n + K) V X ρ w k0 j0 v nn xs hS hE ho hK hn (fun i => by have := hX i; omega)).mono ?_
  rintro x w' ⟨rfl, V', X', ρ', hS', hE', hM', hX'⟩
  exact ⟨rfl, V', X', ρ', hS', hE', hU.mvd hM' (.inl (by omega)) hS.db_no, hM.trans (hM'.u fun r hr => ⟨_, _, hr⟩), fun i => by have h1 := hX i; have h2 := hX' i; omega⟩
theorem BSt.code (h : BSt db ub vo m v1 v2 v3 v4 v5 es1 es3 es4 n5 n B0 W ρ0 live a b c d K w) {k0 j0 nn : Nat} {v : Value} (hi : Inn es1 es3 es4 (.ls k0 j0) v 91 3 nn) (hl : live (.ls k0 j0)) (hK : n + K ≤ 1000000) (hB : B0 + 4 * K ≤ 1000000) :
    Calls Tryd.prog 46 #[.pointer (some ⟨db, 1, none⟩), v] w (fun x w' => x = .returned (.tuple #[]) ∧ BSt db ub vo m v1 v2 v3 v4 v5 es1 es3 es4 n5 n B0 W ρ0 (fun r => live r ∧ r ≠ .ls k0 j0) a b c d (K + 1) w') := by
  obtain ⟨V, X, ρ, hS, hE, hU, hM, hX⟩ := h
  obtain ⟨⟨xs, ho⟩, hn⟩ := hU.inn _ _ _ _ _ hi hl
  obtain ⟨k, j, e, hk⟩ := hi.ge
  injection e with e1 e2
  refine (code_any_ db vo (n + K) V X ρ w k0 j0 v nn xs hS hE ho hK hn (fun i => by have := hX i; omega)).mono ?_
  rintro x w' ⟨rfl, V', X', ρ', hS', hE', hM', hX'⟩
  exact ⟨rfl, V', X', ρ', hS', hE', hU.mvd hM' (.inl (by omega)) hS.db_no, hM.trans (hM'.u fun r hr => ⟨_, _, hr⟩), fun i => by have h1 := hX i; have h2 := hX' i; omega⟩
theorem BSt.box (h : BSt db ub vo m v1 v2 v3 v4 v5 es1 es3 es4 n5 n B0 W ρ0 live a b c d K w) : w.cell? ⟨ub, 0, none⟩ = some v1 ∧ w.cell? ⟨ub, 1, none⟩ = some v2 ∧ w.cell? ⟨ub, 2, none⟩ = some v3 ∧ w.cell? ⟨ub, 3, none⟩ = some v4 ∧ w.cell? ⟨ub, 4, none⟩ = some v5 := by
  obtain ⟨V, X, ρ, hS, hE, hU, hM, hX⟩ := h
  refine ⟨?_, ?_, ?_, ?_, ?_⟩ <;> rw [heap_cell hU.box] <;> rfl
theorem BSt.at1 (h : BSt db ub vo m v1 v2 v3 v4 v5 es1 es3 es4 n5 n B0 W ρ0 live a b c d K w) {e : Value × Nat} (he : es1[a]? = some e) : ∃ g cap, v1 = .slice (some ⟨g, 0, none⟩) es1.length cap ∧ w.cell? ⟨g, a, none⟩ = some e.1 ∧ w.frozen? ⟨g, a, none⟩ = false := by
  obtain ⟨V, X, ρ, hS, hE, hU, hM, hX⟩ := h
  obtain ⟨xs, p1, p2, p3⟩ := hU.o1
  have hl : a < es1.length := (List.getElem?_eq_some_iff.1 he).1
  obtain ⟨g, cap, rfl, hc⟩ := own_cellz p1.1 (by omega)
  obtain ⟨g', e1, _, _, e4⟩ := own_at p1.1 (j := a) (by omega)
  obtain rfl := Option.some.inj e1
  rw [Nat.zero_add] at e4
  exact ⟨_, cap, rfl, e4.trans (p3 a e (Nat.le_refl _) he), (hc a (by omega)).2⟩
theorem BSt.at3 (h : BSt db ub vo m v1 v2 v3 v4 v5 es1 es3 es4 n5 n B0 W ρ0 live a b c d K w) {e : UF} (he : es3[b]? = some e) : ∃ g cap, v3 = .slice (some ⟨g, 0, none⟩) es3.length cap ∧ ∀ q, q < 4 → w.cell? ⟨g, b * 4 + q, none⟩ = (bF e)[q]? ∧ w.frozen? ⟨g, b * 4 + q, none⟩ = false := by
  obtain ⟨V, X, ρ, hS, hE, hU, hM, hX⟩ := h
  obtain ⟨xs, p1, p2, p3⟩ := hU.o3
  have hl : b < es3.length := (List.getElem?_eq_some_iff.1 he).1
  obtain ⟨g, cap, rfl, hc⟩ := own_cellz p1.1 (by omega)
  refine ⟨g, cap, rfl, fun q hq => ⟨?_, (hc _ (by omega)).2⟩⟩
  obtain ⟨g', e1, _, _, e4⟩ := own_at p1.1 (j := b * 4 + q) (by omega)
  obtain rfl := Option.some.inj e1
  rw [Nat.zero_add] at e4
  exact e4.trans (p3 b e q (Nat.le_refl _) he hq)
theorem BSt.at4 (h : BSt db ub vo m v1 v2 v3 v4 v5 es1 es3 es4 n5 n B0 W ρ0 live a b c d K w) {e : UI} (he : es4[c]? = some e) : ∃ g cap, v4 = .slice (some ⟨g, 0, none⟩) es4.length cap ∧ ∀ q, q < 3 → w.cell? ⟨g, c * 3 + q, none⟩ = (bI e)[q]? ∧ w.frozen? ⟨g, c * 3 + q, none⟩ = false := by
  obtain ⟨V, X, ρ, hS, hE, hU, hM, hX⟩ := h
  obtain ⟨xs, p1, p2, p3⟩ := hU.o4
  have hl : c < es4.length := (List.getElem?_eq_some_iff.1 he).1
  obtain ⟨g, cap, rfl, hc⟩ := own_cellz p1.1 (by omega)
  refine ⟨g, cap, rfl, fun q hq => ⟨?_, (hc _ (by omega)).2⟩⟩
  obtain ⟨g', e1, _, _, e4⟩ := own_at p1.1 (j := c * 3 + q) (by omega)
  obtain rfl := Option.some.inj e1
  rw [Nat.zero_add] at e4
  exact e4.trans (p3 c e q (Nat.le_refl _) he hq)
theorem BSt.at5 (h : BSt db ub vo m v1 v2 v3 v4 v5 es1 es3 es4 n5 n B0 W ρ0 live a b c d K w) (hd : d < n5) : ∃ g cap, v5 = .slice (some ⟨g, 0, none⟩) n5 cap ∧ ∀ q, q < 2 → (∃ x, w.cell? ⟨g, d * 2 + q, none⟩ = some x) ∧ w.frozen? ⟨g, d * 2 + q, none⟩ = false := by
  obtain ⟨V, X, ρ, hS, hE, hU, hM, hX⟩ := h
  obtain ⟨xs, p1, p2⟩ := hU.o5
  obtain ⟨g, cap, rfl, hc⟩ := own_cellz p1.1 (by omega)
  exact ⟨g, cap, rfl, fun q hq => hc _ (by omega)⟩
theorem BSt.put1 (h : BSt db ub vo m v1 v2 v3 v4 v5 es1 es3 es4 n5 n B0 W ρ0 live a b c d K w) {g : Nat} (hg : v1.ownBlock = some g) (ha : a < es1.length) : BSt db ub vo m v1 v2 v3 v4 v5 es1 es3 es4 n5 n B0 W ρ0 live (a + 1) b c d K ((w.alloc (.cells #[.int .i64 m] 3)).setCell ⟨g, a, none⟩ (.slice (some ⟨w.heap.size, 0, none⟩) 1 1)) := by
  obtain ⟨V, X, ρ, hS, hE, hU, hM, hX⟩ := h
  have hd := hS.db_no
  obtain ⟨h1, mv⟩ := hU.put1 hg ha (fun b hb => (hS.pl b hb).2) hd
  obtain ⟨xs, p1, _⟩ := hU.o1
  have hgd : ¬ db = g := fun e => by have := (p1.1.lt g hg).1; omega
  exact ⟨V, X, _, hS.mv mv (fun i e => by cases e) ((Below.heap_setCell _ _ _ _ hgd).trans (heap_alloc_old w _ hS.lt)), hE.stay (mv.stay nofun (by rw [hd]; nofun)), h1, hM.trans (mv.u ⟨nofun, nofun⟩), hX⟩
theorem puts_db {w : World} {g db : Nat} (h : ¬ db = g) : ∀ (ys : List Value) (w : World) (o : Nat), (puts w g o ys).heap[db]? = w.heap[db]?
  | [], _, _ => rfl
  | y :: ys, w, o => (puts_db (w := w) h ys _ (o + 1)).trans (Below.heap_setCell _ _ _ _ h)
theorem BSt.put3 (h : BSt db ub vo m v1 v2 v3 v4 v5 es1 es3 es4 n5 n B0 W ρ0 live a b c d K w) {g : Nat} (hg : v3.ownBlock = some g) (hb : b < es3.length) : BSt db ub vo m v1 v2 v3 v4 v5 es1 es3 es4 n5 n B0 W ρ0 live a (b + 1) c d K (puts w g (b * 4) (yF m)) := by
  obtain ⟨V, X, ρ, hS, hE, hU, hM, hX⟩ := h
  have hd := hS.db_no
  obtain ⟨h1, mv⟩ := hU.put3 hg hb (fun b hb => (hS.pl b hb).2) hd
  obtain ⟨xs, p1, _⟩ := hU.o3
  have hgd : ¬ db = g := fun e => by have := (p1.1.lt g hg).1; omega
  exact ⟨V, X, _, hS.mv mv (fun i e => by cases e) (puts_db (w := w) hgd _ _ _), hE.stay (mv.stay nofun (by rw [hd]; nofun)), h1, hM.trans (mv.u ⟨nofun, nofun⟩), hX⟩
theorem BSt.put4 (h : BSt db ub vo m v1 v2 v3 v4 v5 es1 es3 es4 n5 n B0 W ρ0 live a b c d K w) {g : Nat} (hg : v4.ownBlock = some g) (hb : c < es4.length) : BSt db ub vo m v1 v2 v3 v4 v5 es1 es3 es4 n5 n B0 W ρ0 live a b (c + 1) d K (puts w g (c * 3) (yI m)) := by
  obtain ⟨V, X, ρ, hS, hE, hU, hM, hX⟩ := h
  have hd := hS.db_no
  obtain ⟨h1, mv⟩ := hU.put4 hg hb (fun b hb => (hS.pl b hb).2) hd
  obtain ⟨xs, p1, _⟩ := hU.o4
  have hgd : ¬ db = g := fun e => by have := (p1.1.lt g hg).1; omega
  exact ⟨V, X, _, hS.mv mv (fun i e => by cases e) (puts_db (w := w) hgd _ _ _), hE.stay (mv.stay nofun (by rw [hd]; nofun)), h1, hM.trans (mv.u ⟨nofun, nofun⟩), hX⟩
theorem BSt.put5 (h : BSt db ub vo m v1 v2 v3 v4 v5 es1 es3 es4 n5 n B0 W ρ0 live a b c d K w) {g : Nat} (hg : v5.ownBlock = some g) (hb : d < n5) : BSt db ub vo m v1 v2 v3 v4 v5 es1 es3 es4 n5 n B0 W ρ0 live a b c (d + 1) K (puts w g (d * 2) (yE m)) := by
  obtain ⟨V, X, ρ, hS, hE, hU, hM, hX⟩ := h
  have hd := hS.db_no
  obtain ⟨h1, mv⟩ := hU.put5 hg hb (fun b hb => (hS.pl b hb).2) hd
  obtain ⟨xs, p1, _⟩ := hU.o5
  have hgd : ¬ db = g := fun e => by have := (p1.1.lt g hg).1; omega
  exact ⟨V, X, _, hS.mv mv (fun i e => by cases e) (puts_db (w := w) hgd _ _ _), hE.stay (mv.stay nofun (by rw [hd]; nofun)), h1, hM.trans (mv.u ⟨nofun, nofun⟩), hX⟩
theorem BSt.weak {live' : BR → Prop} (h : BSt db ub vo m v1 v2 v3 v4 v5 es1 es3 es4 n5 n B0 W ρ0 live a b c d K w) (hl : ∀ r, live' r → live r) : BSt db ub vo m v1 v2 v3 v4 v5 es1 es3 es4 n5 n B0 W ρ0 live' a b c d K w := by
  obtain ⟨V, X, ρ, hS, hE, hU, hM, hX⟩ := h
  exact ⟨V, X, ρ, hS, hE, ⟨hU.box, hU.ubn, fun r v T sz n hi h => hU.inn r v T sz n hi (hl r h), hU.o1, hU.o3, hU.o4, hU.o5⟩, hM, hX⟩
theorem BSt.inn_shape (h : BSt db ub vo m v1 v2 v3 v4 v5 es1 es3 es4 n5 n B0 W ρ0 live a b c d K w) {r : BR} {v : Value} {T : TypeId} {sz nn : Nat} (hi : Inn es1 es3 es4 r v T sz nn) (hl : live r) : ∃ ao c, v = .slice ao nn c := by
  obtain ⟨V, X, ρ, hS, hE, hU, hM, hX⟩ := h
  obtain ⟨⟨xs, ho⟩, _⟩ := hU.inn _ _ _ _ _ hi hl
  exact (own_form ho.1).1
end
end Go.Proofs.YtkgncijcnlfhiaaDoor

namespace Go.Proofs.YtkgncijcnlfhiaaDoor
set_option linter.unusedVariables false
set_option linter.unusedSimpArgs false
def Whole (x : Int) : Prop := 0 ≤ x ∧ x ≤ 9223372036854775807
end Go.Proofs.YtkgncijcnlfhiaaDoor

namespace Go.Proofs.YtkgncijcnlfhiaaDoor
set_option linter.unusedVariables false
set_option linter.unusedSimpArgs false

theorem unit_parts {u : PUnit} (h : unitOk u = true) : shapesOk u.shapes = true ∧ constsOk u.consts = true ∧ funcsOk u.funcs u.shapes.length = true ∧ importsOk u.imports u.shapes.length = true ∧ exportsOk u.exports u.funcs.length = true := by
  unfold unitOk at h
  simp only [Bool.and_eq_true] at h
  obtain ⟨h1, h2, h3, h4, h5⟩ := h
  exact ⟨h1, h2, h3, h4, h5⟩
end Go.Proofs.YtkgncijcnlfhiaaDoor

namespace Go.Proofs.YtkgncijcnlfhiaaDoor
set_option linter.unusedVariables false
set_option linter.unusedSimpArgs false
open Go.RowKit
open Classical in
section
variable {w : World} {b1 g1 n1 b2 g2 b3 g3 n3 b4 g4 n4 g5 : Nat}
end
theorem lens_ok {u : PUnit} (h : unitOk u = true) : u.shapes.length ≤ 20 ∧ (∀ x ∈ u.shapes, x.length ≤ 8) ∧ u.consts.length ≤ 50 ∧ u.funcs.length ≤ 30 ∧ (∀ f ∈ u.funcs, f.params.length ≤ 6 ∧ f.locals.length ≤ 10 ∧ f.code.length ≤ 200) ∧ u.imports.length ≤ 20 ∧ (∀ i ∈ u.imports, i.params.length ≤ 6) ∧ u.exports.length ≤ 20 := by
  obtain ⟨h1, h2, h3, h4, h5⟩ := unit_parts h
  simp only [shapesOk, constsOk, funcsOk, importsOk, exportsOk, wB, Bool.and_eq_true, decide_eq_true_eq, List.all_eq_true] at h1 h2 h3 h4 h5
  refine ⟨by omega, fun x hx => ?_, by omega, by omega, fun f hf => ?_, by omega, fun i hi => ?_, by omega⟩
  · have := h1.2 x hx
    simp only [shapeOk, wB, Bool.and_eq_true, decide_eq_true_eq] at this
    omega
  · have := h3.2 f hf
    simp only [funcOk, sigOk, codeOk, wB, Bool.and_eq_true, decide_eq_true_eq] at this
    omega
  · have := h4.2 i hi
    simp only [impOk, sigOk, wB, Bool.and_eq_true, decide_eq_true_eq] at this
    omega
end Go.Proofs.YtkgncijcnlfhiaaDoor

namespace Go.Proofs.YtkgncijcnlfhiaaDoor
set_option linter.unusedVariables false
set_option linter.unusedSimpArgs false
open Go.RowKit
structure B5 (db : Nat) (vo : Value) (nK : Int) (W : World) (ρ0 : Nat → BR) (X0 : Nat → List Value) (m : Int) (v1 v3 v4 v5 : Value) (L1 L3 L4 L5 : Nat) (xs1 : List Value) (es : List OE) (V : Nat → Value) (X : Nat → List Value) (ρ : Nat → BR) (w : World) : Prop where
  s : BookS db w vo nK V X ρ
  e : BookE w ρ X0
  c : Ch db m ρ w v1 v3 v4 v5 L1 L3 L4 L5 xs1 es
  u : MvU db W w ρ0 ρ
section
variable {db : Nat} {vo : Value} {nK : Int} {W : World} {ρ0 : Nat → BR} {X0 : Nat → List Value} {m : Int} {v1 v3 v4 v5 : Value} {L1 L3 L4 L5 : Nat} {xs1 : List Value} {es : List OE} {V : Nat → Value} {X : Nat → List Value} {ρ : Nat → BR} {w w' : World}
theorem B5.row (h : B5 db vo nK W ρ0 X0 m v1 v3 v4 v5 L1 L3 L4 L5 xs1 es V X ρ w) {i : Nat} (h2 : 2 ≤ i) (h10 : i ≤ 10) {v' y : Value} (hap : Ap (db + 1) (bT i) 1 w (V i) w' v' ((X i).length + 1) (X i ++ [y])) : B5 db vo nK W ρ0 X0 m v1 v3 v4 v5 L1 L3 L4 L5 xs1 es (upb V i v') (upb X i (X i ++ [y])) (grw w.heap.size v' (.row i) ρ) (w'.setCell ⟨db, i, none⟩ v') := by
  obtain ⟨hs, mv⟩ := h.s.app h2 h10 hap
  have hd := h.s.db_no
  exact ⟨hs, h.e.stay (mv.stay nofun (by rw [hd]; nofun)), h.c.mv mv (fun r hr => ⟨i, hr⟩) hd, h.u.trans (mv.u ⟨nofun, nofun⟩)⟩
theorem B5.new (h : B5 db vo nK W ρ0 X0 m v1 v3 v4 v5 L1 L3 L4 L5 xs1 es V X ρ w) (M : Array Value) (T : TypeId) : B5 db vo nK W ρ0 X0 m v1 v3 v4 v5 L1 L3 L4 L5 xs1 es V X (new1 w.heap.size ρ) (w.alloc (.cells M T)) := by
  have mv : MvR db (fun _ => False) w (w.alloc (.cells M T)) ρ (new1 w.heap.size ρ) := mv_new M T
  have hd := h.s.db_no
  exact ⟨h.s.mv mv (fun _ => id) (heap_alloc_old w _ h.s.lt), h.e.stay (mv.stay id (by rw [hd]; nofun)), h.c.mv mv (fun _ h => h.elim) hd, h.u.trans (mv.u ⟨id, id⟩)⟩
theorem own_ndb {db : Nat} {w : World} {e : TypeId} {n len : Nat} {v : Value} {xs : List Value} (h : w.ownsRow (db + 1) e n v len xs) : ¬ v.ownBlock = some db := fun e => by have := (h.lt db e).1; omega
theorem B5.ap {q0 : Nat} {r : BR} {v v' : Value} {e : TypeId} {sz L : Nat} {xs : List Value} (h : B5 db vo nK W ρ0 X0 m v1 v3 v4 v5 L1 L3 L4 L5 xs1 es V X ρ w) (hr : r = .ls q0 0) (ho : ∀ k, v.ownBlock = some k → ρ k = r) (hnd : ¬ v.ownBlock = some db) (hap : Ap (db + 1) e sz w v w' v' L xs) : BookS db w' vo nK V X (grw w.heap.size v' r ρ) ∧ BookE w' (grw w.heap.size v' r ρ) X0 ∧ MvU db W w' ρ0 (grw w.heap.size v' r ρ) := by
  have mv : MvR db (· = r) w w' ρ (grw w.heap.size v' r ρ) := mv_ap hap ho
  have hd := h.s.db_no
  subst hr
  exact ⟨h.s.mv mv (fun i e => by cases e) (hap.frm.block db h.s.lt (fun e => hnd e.symm)), h.e.stay (mv.stay nofun (by rw [hd]; nofun)), h.u.trans (mv.u ⟨nofun, nofun⟩)⟩
theorem B5.app1 (h : B5 db vo nK W ρ0 X0 m v1 v3 v4 v5 L1 L3 L4 L5 xs1 es V X ρ w) {vx v' : Value} (hx : RIntsP (fun b => ρ b = .dn) w vx [m]) (hap : Ap (db + 1) 23 1 w v1 w' v' (L1 + 1) (xs1 ++ [vx])) (hk : v'.ownBlock = v1.ownBlock ∨ w.grownBy w' none) : B5 db vo nK W ρ0 X0 m v' v3 v4 v5 (L1 + 1) L3 L4 L5 (xs1 ++ [vx]) es V X (grw w.heap.size v' (.ls 0 0) ρ) w' := by
  obtain ⟨a, b, c⟩ := h.ap rfl h.c.o1.2 (own_ndb h.c.o1.1) hap
  exact ⟨a, b, h.c.app1 hx hap hk h.s.db_no, c⟩
theorem B5.app3 (h : B5 db vo nK W ρ0 X0 m v1 v3 v4 v5 L1 L3 L4 L5 xs1 es V X ρ w) {v' : Value} (hap : Ap (db + 1) 76 4 w v3 w' v' (L3 + 1) (rp L3 (yF m) ++ yF m)) (hk : v'.ownBlock = v3.ownBlock ∨ w.grownBy w' none) : B5 db vo nK W ρ0 X0 m v1 v' v4 v5 L1 (L3 + 1) L4 L5 xs1 es V X (grw w.heap.size v' (.ls 2 0) ρ) w' := by
  obtain ⟨a, b, c⟩ := h.ap rfl h.c.o3.2 (own_ndb h.c.o3.1) hap
  exact ⟨a, b, h.c.app3 hap hk h.s.db_no, c⟩
theorem B5.app4 (h : B5 db vo nK W ρ0 X0 m v1 v3 v4 v5 L1 L3 L4 L5 xs1 es V X ρ w) {v' : Value} (hap : Ap (db + 1) 79 3 w v4 w' v' (L4 + 1) (rp L4 (yI m) ++ yI m)) (hk : v'.ownBlock = v4.ownBlock ∨ w.grownBy w' none) : B5 db vo nK W ρ0 X0 m v1 v3 v' v5 L1 L3 (L4 + 1) L5 xs1 es V X (grw w.heap.size v' (.ls 3 0) ρ) w' := by
  obtain ⟨a, b, c⟩ := h.ap rfl h.c.o4.2 (own_ndb h.c.o4.1) hap
  exact ⟨a, b, h.c.app4 hap hk h.s.db_no, c⟩
theorem B5.app5 (h : B5 db vo nK W ρ0 X0 m v1 v3 v4 v5 L1 L3 L4 L5 xs1 es V X ρ w) {v' : Value} (hap : Ap (db + 1) 81 2 w v5 w' v' (L5 + 1) (rp L5 (yE m) ++ yE m)) (hk : v'.ownBlock = v5.ownBlock ∨ w.grownBy w' none) : B5 db vo nK W ρ0 X0 m v1 v3 v4 v' L1 L3 L4 (L5 + 1) xs1 es V X (grw w.heap.size v' (.ls 4 0) ρ) w' := by
  obtain ⟨a, b, c⟩ := h.ap rfl h.c.o5.2 (own_ndb h.c.o5.1) hap
  exact ⟨a, b, h.c.app5 hap hk h.s.db_no, c⟩
theorem B5.push (h : B5 db vo nK W ρ0 X0 m v1 v3 v4 v5 L1 L3 L4 L5 xs1 es V X ρ w) : B5 db vo nK W ρ0 X0 m v1 v3 v4 v5 L1 L3 L4 L5 xs1 (es ++ [((v3, v1, v5, v4), (L3, L1, L5, L4))]) V X ρ w := ⟨h.s, h.e, h.c.push, h.u⟩
end
/-- the rows of the book, against those before the last loop -/
def XEq (X0 X : Nat → List Value) (m : Int) (es : List OE) : Prop := X 6 = X0 6 ++ es.map (·.1.1) ∧ X 7 = X0 7 ++ es.map (·.1.2.1) ∧ X 8 = X0 8 ++ es.map (·.1.2.2.1) ∧ X 9 = X0 9 ++ es.map (·.1.2.2.2) ∧ X 10 = X0 10 ++ es.map (fun _ => .int .i64 m) ∧ ∀ q, (q < 6 ∨ 10 < q) → X q = X0 q
theorem XEq.len {X0 X : Nat → List Value} {m : Int} {es : List OE} (h : XEq X0 X m es) {B : Nat} (hB : ∀ i, (X0 i).length ≤ B) (i : Nat) : (X i).length ≤ B + es.length := by
  obtain ⟨h6, h7, h8, h9, h10, h0⟩ := h
  have hb := hB i
  by_cases hl : i < 6 ∨ 10 < i
  · rw [h0 i hl]; omega
  · have hc : i = 6 ∨ i = 7 ∨ i = 8 ∨ i = 9 ∨ i = 10 := by omega
    rcases hc with rfl | rfl | rfl | rfl | rfl
    · rw [h6]; simp; omega
    · rw [h7]; simp; omega
    · rw [h8]; simp; omega
    · rw [h9]; simp; omega
    · rw [h10]; simp; omega
/-- a round more -/
theorem XEq.round {X0 X Xa Xb Xc Xd Xe : Nat → List Value} {m : Int} {es : List OE} {v1 v3 v4 v5 : Value} {L1 L3 L4 L5 : Nat} (h : XEq X0 X m es) (a1 : Xa 7 = X 7 ++ [v1]) (a2 : ∀ q, q ≠ 7 → Xa q = X q) (b1 : Xb 6 = Xa 6 ++ [v3]) (b2 : ∀ q, q ≠ 6 → Xb q = Xa q) (c1 : Xc 9 = Xb 9 ++ [v4]) (c2 : ∀ q, q ≠ 9 → Xc q = Xb q) (d1 : Xd 8 = Xc 8 ++ [v5]) (d2 : ∀ q, q ≠ 8 → Xd q = Xc q) (e1 : Xe 10 = Xd 10 ++ [.int .i64 m]) (e2 : ∀ q, q ≠ 10 → Xe q = Xd q) : XEq X0 Xe m (es ++ [((v3, v1, v5, v4), (L3, L1, L5, L4))]) := by
  obtain ⟨h6, h7, h8, h9, h10, h0⟩ := h
  refine ⟨?_, ?_, ?_, ?_, ?_, fun q hq => ?_⟩
  · rw [e2 6 (by decide), d2 6 (by decide), c2 6 (by decide), b1, a2 6 (by decide), h6]; simp
  · rw [e2 7 (by decide), d2 7 (by decide), c2 7 (by decide), b2 7 (by decide), a1, h7]; simp
  · rw [e2 8 (by decide), d1, c2 8 (by decide), b2 8 (by decide), a2 8 (by decide), h8]; simp
  · rw [e2 9 (by decide), d2 9 (by decide), c1, b2 9 (by decide), a2 9 (by decide), h9]; simp
  · rw [e1, d2 10 (by decide), c2 10 (by decide), b2 10 (by decide), a2 10 (by decide), h10]; simp
  · rw [e2 q (by omega), d2 q (by omega), c2 q (by omega), b2 q (by omega), a2 q (by omega)]; exact h0 q hq
/-- a block that is no list's -/
theorem mv_box {db : Nat} {w : World} {ρ : Nat → BR} (M : Array Value) (T : TypeId) (hp : ∀ b, ρ b ≠ .no → b < w.heap.size) : MvR db (fun _ => False) w (w.alloc (.cells M T)) ρ ρ :=
  ⟨by simp, fun _ _ => rfl, fun k hk _ _ => heap_alloc_old w _ hk, fun k hk hn => by have := hp k hn; omega, rfl, rfl, rfl⟩
/-- a unit was written in the book -/
def BunR (db : Nat) (vo : Value) (n B0 K : Nat) (ρ : Nat → BR) (w : World) (x : Ending) (w' : World) : Prop :=
  x = .returned (.tuple #[]) ∧ ∃ V' X' ρ', BookS db w' vo ((n + K + 2 : Nat) : Int) V' X' ρ' ∧ BookE w' ρ' X' ∧ MvU db w w' ρ ρ' ∧ ∀ i, (X' i).length ≤ B0 + 4 * K + 12
end Go.Proofs.YtkgncijcnlfhiaaDoor

