import Derived.Test.YtkgncijcnlfhiaaDoorBk5c
import Derived.Test.YtkgncijcnlfhiaaDoorQ3
namespace Go.Proofs.YtkgncijcnlfhiaaDoor
set_option linter.unusedVariables false
set_option linter.unusedSimpArgs false
open Go.RowKit
def BSt (db ub : Nat) (vo : Value) (m : Int) (v1 v2 v3 v4 v5 : Value) (es1 : List (Value × Nat)) (es3 : List UF) (es4 : List UI) (n5 n B0 : Nat) (W : World) (ρ0 : Nat → BR) (live : BR → Prop) (a b c d K : Nat) (w : World) : Prop :=
  ∃ V X ρ, BookS db w vo ((n + K : Nat) : Int) V X ρ ∧ BookE w ρ X ∧ UnP db ub m v1 v2 v3 v4 v5 es1 es3 es4 n5 live a b c d ρ w ∧ MvU db W w ρ0 ρ ∧ ∀ i, (X i).length ≤ B0 + 4 * K
/-- a unit whose lists are its own -/
structure UnO (db : Nat) (v1 v2 v3 v4 v5 : Value) (es1 : List (Value × Nat)) (n2 : Nat) (es3 : List UF) (es4 : List UI) (n5 : Nat) (ρ : Nat → BR) (w : World) : Prop where
  inn : ∀ r v T sz n, Inn es1 es3 es4 r v T sz n → (∃ xs, OwR ρ r w (db + 1) T sz v n xs) ∧ n ≤ 100000
  o1 : OwR ρ (.ls 0 0) w (db + 1) 23 1 v1 es1.length (es1.map (·.1))
  o2 : (∃ xs, OwR ρ (.ls 1 0) w (db + 1) 3 1 v2 n2 xs) ∧ n2 ≤ 100000
  o3 : OwR ρ (.ls 2 0) w (db + 1) 76 4 v3 es3.length (es3.flatMap bF)
  o4 : OwR ρ (.ls 3 0) w (db + 1) 79 3 v4 es4.length (es4.flatMap bI)
  o5 : ∃ xs, OwR ρ (.ls 4 0) w (db + 1) 81 2 v5 n5 xs
theorem UnO.mv {db : Nat} {v1 v2 v3 v4 v5 : Value} {es1 : List (Value × Nat)} {n2 : Nat} {es3 : List UF} {es4 : List UI} {n5 : Nat} {ρ ρ' : Nat → BR} {w w' : World} (h : UnO db v1 v2 v3 v4 v5 es1 n2 es3 es4 n5 ρ w) (mv : MvR db (fun _ => False) w w' ρ ρ') : UnO db v1 v2 v3 v4 v5 es1 n2 es3 es4 n5 ρ' w' :=
  ⟨fun r v T sz n hi => ⟨(h.inn r v T sz n hi).1.imp fun xs ho => ho.mv mv id, (h.inn r v T sz n hi).2⟩, h.o1.mv mv id, ⟨h.o2.1.imp fun xs ho => ho.mv mv id, h.o2.2⟩, h.o3.mv mv id, h.o4.mv mv id, h.o5.imp fun xs ho => ho.mv mv id⟩
theorem UnO.start {db ub : Nat} {v1 v2 v3 v4 v5 : Value} {es1 : List (Value × Nat)} {n2 : Nat} {es3 : List UF} {es4 : List UI} {n5 : Nat} {ρ : Nat → BR} {w : World} (m : Int) (h : UnO db v1 v2 v3 v4 v5 es1 n2 es3 es4 n5 ρ w) (hb : w.heap[ub]? = some (.cells #[v1, v2, v3, v4, v5] 28 (0, 0))) (hu : ρ ub = .no ∧ ub ≠ db) : UnP db ub m v1 v2 v3 v4 v5 es1 es3 es4 n5 (fun _ => True) 0 0 0 0 ρ w :=
  ⟨hb, hu, fun r v T sz n hi _ => h.inn r v T sz n hi, ⟨_, h.o1, fun j hj => by omega, fun j e _ he => by rw [List.getElem?_map, he]; rfl⟩, ⟨_, h.o3, fun j q hj => by omega, fun j e q _ he hq => flat_at (n := 4) (fun _ => rfl) he hq⟩, ⟨_, h.o4, fun j q hj => by omega, fun j e q _ he hq => flat_at (n := 3) (fun _ => rfl) he hq⟩, h.o5.imp fun xs ho => ⟨ho, fun j q hj => by omega⟩⟩
section
variable {db ub : Nat} {vo : Value} {m : Int} {v1 v2 v3 v4 v5 : Value} {es1 : List (Value × Nat)} {es3 : List UF} {es4 : List UI} {n5 n B0 : Nat} {W : World} {ρ0 : Nat → BR} {live : BR → Prop} {a b c d K : Nat} {w : World}
theorem BSt.num (h : BSt db ub vo m v1 v2 v3 v4 v5 es1 es3 es4 n5 n B0 W ρ0 live a b c d K w) {k0 j0 nn : Nat} {v : Value} (hi : Inn es1 es3 es4 (.ls k0 j0) v 3 1 nn) (hl : live (.ls k0 j0)) (hK : n + K ≤ 1000000) (hB : B0 + 4 * K ≤ 1000000) :
    Calls Tryd.prog 45 #[.pointer (some ⟨db, 1, none⟩), v] w (fun x w' => x = .returned (.tuple #[]) ∧ BSt db ub vo m v1 v2 v3 v4 v5 es1 es3 es4 n5 n B0 W ρ0 (fun r => live r ∧ r ≠ .ls k0 j0) a b c d (K + 1) w') := by
  obtain ⟨V, X, ρ, hS, hE, hU, hM, hX⟩ := h
  obtain ⟨⟨xs, ho⟩, hn⟩ := hU.inn _ _ _ _ _ hi hl
  obtain ⟨k, j, e, hk⟩ := hi.ge
  injection e with e1 e2
  refine (numbers_any db vo (n + K) V X ρ w k0 j0 v nn xs hS hE ho hK hn (fun i => by have := hX i; omega)).mono ?_
  rintro x w' ⟨rfl, V', X', ρ', hS', hE', hM', hX'⟩
  exact ⟨rfl, V', X', ρ', hS', hE', hU.mvd hM' (.inl (by omega)) hS.db_no, hM.trans (hM'.u fun r hr => ⟨_, _, hr⟩), fun i => by have h1 := hX i; have h2 := hX' i; omega⟩
theorem BSt.code (h : BSt db ub vo m v1 v2 v3 v4 v5 es1 es3 es4 n5 n B0 W ρ0 live a b c d K w) {k0 j0 nn : Nat} {v : Value} (hi : Inn es1 es3 es4 (.ls k0 j0) v 91 3 nn) (hl : live (.ls k0 j0)) (hK : n + K ≤ 1000000) (hB : B0 + 4 * K ≤ 1000000) :
    Calls Tryd.prog 46 #[.pointer (some ⟨db, 1, none⟩), v] w (fun x w' => x = .returned (.tuple #[]) ∧ BSt db ub vo m v1 v2 v3 v4 v5 es1 es3 es4 n5 n B0 W ρ0 (fun r => live r ∧ r ≠ .ls k0 j0) a b c d (K + 1) w') := by
  obtain ⟨V, X, ρ, hS, hE, hU, hM, hX⟩ := h
  obtain ⟨⟨xs, ho⟩, hn⟩ := hU.inn _ _ _ _ _ hi hl
  obtain ⟨k, j, e, hk⟩ := hi.ge
  injection e with e1 e2
  refine (code_any_ db vo (n + K) V X ρ w k0 j0 v nn xs hS hE ho hK hn (fun i => by have := hX i; omega)).mono ?_
  rintro x w' ⟨rfl, V', X', ρ', hS', hE', hM', hX'⟩
  exact ⟨rfl, V', X', ρ', hS', hE', hU.mvd hM' (.inl (by omega)) hS.db_no, hM.trans (hM'.u fun r hr => ⟨_, _, hr⟩), fun i => by have h1 := hX i; have h2 := hX' i; omega⟩
theorem BSt.box (h : BSt db ub vo m v1 v2 v3 v4 v5 es1 es3 es4 n5 n B0 W ρ0 live a b c d K w) : w.cell? ⟨ub, 0, none⟩ = some v1 ∧ w.cell? ⟨ub, 1, none⟩ = some v2 ∧ w.cell? ⟨ub, 2, none⟩ = some v3 ∧ w.cell? ⟨ub, 3, none⟩ = some v4 ∧ w.cell? ⟨ub, 4, none⟩ = some v5 := by
  obtain ⟨V, X, ρ, hS, hE, hU, hM, hX⟩ := h
  refine ⟨?_, ?_, ?_, ?_, ?_⟩ <;> rw [heap_cell hU.box] <;> rfl
theorem BSt.at1 (h : BSt db ub vo m v1 v2 v3 v4 v5 es1 es3 es4 n5 n B0 W ρ0 live a b c d K w) {e : Value × Nat} (he : es1[a]? = some e) : ∃ g cap, v1 = .slice (some ⟨g, 0, none⟩) es1.length cap ∧ w.cell? ⟨g, a, none⟩ = some e.1 ∧ w.frozen? ⟨g, a, none⟩ = false := by
  obtain ⟨V, X, ρ, hS, hE, hU, hM, hX⟩ := h
  obtain ⟨xs, p1, p2, p3⟩ := hU.o1
  have hl : a < es1.length := (List.getElem?_eq_some_iff.1 he).1
  obtain ⟨g, cap, rfl, hc⟩ := own_cellz p1.1 (by omega)
  obtain ⟨g', e1, _, _, e4⟩ := own_at p1.1 (j := a) (by omega)
  obtain rfl := Option.some.inj e1
  rw [Nat.zero_add] at e4
  exact ⟨_, cap, rfl, e4.trans (p3 a e (Nat.le_refl _) he), (hc a (by omega)).2⟩
theorem BSt.at3 (h : BSt db ub vo m v1 v2 v3 v4 v5 es1 es3 es4 n5 n B0 W ρ0 live a b c d K w) {e : UF} (he : es3[b]? = some e) : ∃ g cap, v3 = .slice (some ⟨g, 0, none⟩) es3.length cap ∧ ∀ q, q < 4 → w.cell? ⟨g, b * 4 + q, none⟩ = (bF e)[q]? ∧ w.frozen? ⟨g, b * 4 + q, none⟩ = false := by
  obtain ⟨V, X, ρ, hS, hE, hU, hM, hX⟩ := h
  obtain ⟨xs, p1, p2, p3⟩ := hU.o3
  have hl : b < es3.length := (List.getElem?_eq_some_iff.1 he).1
  obtain ⟨g, cap, rfl, hc⟩ := own_cellz p1.1 (by omega)
  refine ⟨g, cap, rfl, fun q hq => ⟨?_, (hc _ (by omega)).2⟩⟩
  obtain ⟨g', e1, _, _, e4⟩ := own_at p1.1 (j := b * 4 + q) (by omega)
  obtain rfl := Option.some.inj e1
  rw [Nat.zero_add] at e4
  exact e4.trans (p3 b e q (Nat.le_refl _) he hq)
theorem BSt.at4 (h : BSt db ub vo m v1 v2 v3 v4 v5 es1 es3 es4 n5 n B0 W ρ0 live a b c d K w) {e : UI} (he : es4[c]? = some e) : ∃ g cap, v4 = .slice (some ⟨g, 0, none⟩) es4.length cap ∧ ∀ q, q < 3 → w.cell? ⟨g, c * 3 + q, none⟩ = (bI e)[q]? ∧ w.frozen? ⟨g, c * 3 + q, none⟩ = false := by
  obtain ⟨V, X, ρ, hS, hE, hU, hM, hX⟩ := h
  obtain ⟨xs, p1, p2, p3⟩ := hU.o4
  have hl : c < es4.length := (List.getElem?_eq_some_iff.1 he).1
  obtain ⟨g, cap, rfl, hc⟩ := own_cellz p1.1 (by omega)
  refine ⟨g, cap, rfl, fun q hq => ⟨?_, (hc _ (by omega)).2⟩⟩
  obtain ⟨g', e1, _, _, e4⟩ := own_at p1.1 (j := c * 3 + q) (by omega)
  obtain rfl := Option.some.inj e1
  rw [Nat.zero_add] at e4
  exact e4.trans (p3 c e q (Nat.le_refl _) he hq)
theorem BSt.at5 (h : BSt db ub vo m v1 v2 v3 v4 v5 es1 es3 es4 n5 n B0 W ρ0 live a b c d K w) (hd : d < n5) : ∃ g cap, v5 = .slice (some ⟨g, 0, none⟩) n5 cap ∧ ∀ q, q < 2 → (∃ x, w.cell? ⟨g, d * 2 + q, none⟩ = some x) ∧ w.frozen? ⟨g, d * 2 + q, none⟩ = false := by
  obtain ⟨V, X, ρ, hS, hE, hU, hM, hX⟩ := h
  obtain ⟨xs, p1, p2⟩ := hU.o5
  obtain ⟨g, cap, rfl, hc⟩ := own_cellz p1.1 (by omega)
  exact ⟨g, cap, rfl, fun q hq => hc _ (by omega)⟩
theorem BSt.put1 (h : BSt db ub vo m v1 v2 v3 v4 v5 es1 es3 es4 n5 n B0 W ρ0 live a b c d K w) {g : Nat} (hg : v1.ownBlock = some g) (ha : a < es1.length) : BSt db ub vo m v1 v2 v3 v4 v5 es1 es3 es4 n5 n B0 W ρ0 live (a + 1) b c d K ((w.alloc (.cells #[.int .i64 m] 3)).setCell ⟨g, a, none⟩ (.slice (some ⟨w.heap.size, 0, none⟩) 1 1)) := by
  obtain ⟨V, X, ρ, hS, hE, hU, hM, hX⟩ := h
  have hd := hS.db_no
  obtain ⟨h1, mv⟩ := hU.put1 hg ha (fun b hb => (hS.pl b hb).2) hd
  obtain ⟨xs, p1, _⟩ := hU.o1
  have hgd : ¬ db = g := fun e => by have := (p1.1.lt g hg).1; omega
  exact ⟨V, X, _, hS.mv mv (fun i e => by cases e) ((Below.heap_setCell _ _ _ _ hgd).trans (heap_alloc_old w _ hS.lt)), hE.stay (mv.stay nofun (by rw [hd]; nofun)), h1, hM.trans (mv.u ⟨nofun, nofun⟩), hX⟩
theorem puts_db {w : World} {g db : Nat} (h : ¬ db = g) : ∀ (ys : List Value) (w : World) (o : Nat), (puts w g o ys).heap[db]? = w.heap[db]?
  | [], _, _ => rfl
  | y :: ys, w, o => (puts_db (w := w) h ys _ (o + 1)).trans (Below.heap_setCell _ _ _ _ h)
theorem BSt.put3 (h : BSt db ub vo m v1 v2 v3 v4 v5 es1 es3 es4 n5 n B0 W ρ0 live a b c d K w) {g : Nat} (hg : v3.ownBlock = some g) (hb : b < es3.length) : BSt db ub vo m v1 v2 v3 v4 v5 es1 es3 es4 n5 n B0 W ρ0 live a (b + 1) c d K (puts w g (b * 4) (yF m)) := by
  obtain ⟨V, X, ρ, hS, hE, hU, hM, hX⟩ := h
  have hd := hS.db_no
  obtain ⟨h1, mv⟩ := hU.put3 hg hb (fun b hb => (hS.pl b hb).2) hd
  obtain ⟨xs, p1, _⟩ := hU.o3
  have hgd : ¬ db = g := fun e => by have := (p1.1.lt g hg).1; omega
  exact ⟨V, X, _, hS.mv mv (fun i e => by cases e) (puts_db (w := w) hgd _ _ _), hE.stay (mv.stay nofun (by rw [hd]; nofun)), h1, hM.trans (mv.u ⟨nofun, nofun⟩), hX⟩
theorem BSt.put4 (h : BSt db ub vo m v1 v2 v3 v4 v5 es1 es3 es4 n5 n B0 W ρ0 live a b c d K w) {g : Nat} (hg : v4.ownBlock = some g) (hb : c < es4.length) : BSt db ub vo m v1 v2 v3 v4 v5 es1 es3 es4 n5 n B0 W ρ0 live a b (c + 1) d K (puts w g (c * 3) (yI m)) := by
  obtain ⟨V, X, ρ, hS, hE, hU, hM, hX⟩ := h
  have hd := hS.db_no
  obtain ⟨h1, mv⟩ := hU.put4 hg hb (fun b hb => (hS.pl b hb).2) hd
  obtain ⟨xs, p1, _⟩ := hU.o4
  have hgd : ¬ db = g := fun e => by have := (p1.1.lt g hg).1; omega
  exact ⟨V, X, _, hS.mv mv (fun i e => by cases e) (puts_db (w := w) hgd _ _ _), hE.stay (mv.stay nofun (by rw [hd]; nofun)), h1, hM.trans (mv.u ⟨nofun, nofun⟩), hX⟩
theorem BSt.put5 (h : BSt db ub vo m v1 v2 v3 v4 v5 es1 es3 es4 n5 n B0 W ρ0 live a b c d K w) {g : Nat} (hg : v5.ownBlock = some g) (hb : d < n5) : BSt db ub vo m v1 v2 v3 v4 v5 es1 es3 es4 n5 n B0 W ρ0 live a b c (d + 1) K (puts w g (d * 2) (yE m)) := by
  obtain ⟨V, X, ρ, hS, hE, hU, hM, hX⟩ := h
  have hd := hS.db_no
  obtain ⟨h1, mv⟩ := hU.put5 hg hb (fun b hb => (hS.pl b hb).2) hd
  obtain ⟨xs, p1, _⟩ := hU.o5
  have hgd : ¬ db = g := fun e => by have := (p1.1.lt g hg).1; omega
  exact ⟨V, X, _, hS.mv mv (fun i e => by cases e) (puts_db (w := w) hgd _ _ _), hE.stay (mv.stay nofun (by rw [hd]; nofun)), h1, hM.trans (mv.u ⟨nofun, nofun⟩), hX⟩
theorem BSt.weak {live' : BR → Prop} (h : BSt db ub vo m v1 v2 v3 v4 v5 es1 es3 es4 n5 n B0 W ρ0 live a b c d K w) (hl : ∀ r, live' r → live r) : BSt db ub vo m v1 v2 v3 v4 v5 es1 es3 es4 n5 n B0 W ρ0 live' a b c d K w := by
  obtain ⟨V, X, ρ, hS, hE, hU, hM, hX⟩ := h
  exact ⟨V, X, ρ, hS, hE, ⟨hU.box, hU.ubn, fun r v T sz n hi h => hU.inn r v T sz n hi (hl r h), hU.o1, hU.o3, hU.o4, hU.o5⟩, hM, hX⟩
theorem BSt.inn_shape (h : BSt db ub vo m v1 v2 v3 v4 v5 es1 es3 es4 n5 n B0 W ρ0 live a b c d K w) {r : BR} {v : Value} {T : TypeId} {sz nn : Nat} (hi : Inn es1 es3 es4 r v T sz nn) (hl : live r) : ∃ ao c, v = .slice ao nn c := by
  obtain ⟨V, X, ρ, hS, hE, hU, hM, hX⟩ := h
  obtain ⟨⟨xs, ho⟩, _⟩ := hU.inn _ _ _ _ _ hi hl
  exact (own_form ho.1).1
end
end Go.Proofs.YtkgncijcnlfhiaaDoor

namespace Go.Proofs.YtkgncijcnlfhiaaDoor
set_option linter.unusedVariables false
set_option linter.unusedSimpArgs false
def Fwd {α : Type} (f : List UInt8 → Option (α × List UInt8)) (g : α → List UInt8) (Q : α → Prop) : Prop := ∀ y r, Q y → f (g y ++ r) = some (y, r)

theorem unzig_zig {x : Int} : unzig (zig x) = x := by
  unfold unzig zig; split
  · rw [if_pos (by omega)]; omega
  · rw [if_neg (by omega)]; omega
def Fit (x : Int) : Prop := -9223372036854775808 ≤ x ∧ x ≤ 9223372036854775807
def Whole (x : Int) : Prop := 0 ≤ x ∧ x ≤ 9223372036854775807
theorem signed_fwd : Fwd rdSigned encSigned Fit := by
  intro y r h
  unfold rdSigned encSigned
  rw [num_fwd r (zig_lt h.1 h.2)]
  simp [unzig_zig]
theorem whole_fwd : Fwd rdWhole encWhole Whole := by
  intro y r h
  unfold rdWhole encWhole
  have h1 := h.1
  have h2 := h.2
  rw [num_fwd r (by omega)]
  simp only
  rw [if_pos (by omega)]
  simp; omega
theorem text_fwd : Fwd rdText encText (fun s => s.length < 18446744073709551616) := by
  intro y r h
  unfold rdText encText
  rw [List.append_assoc, num_fwd _ h]
  exact take_fwd y r
theorem rdN_fwd {α : Type} {f : List UInt8 → Option (α × List UInt8)} {g : α → List UInt8} {Q : α → Prop} (hf : Fwd f g Q) : ∀ (ys : List α) (r : List UInt8), (∀ y ∈ ys, Q y) → rdN f ys.length (ys.flatMap g ++ r) = some (ys, r)
  | [], r, _ => rfl
  | y :: ys, r, h => by
    have h1 := hf y (ys.flatMap g ++ r) (h y List.mem_cons_self)
    have h2 := rdN_fwd hf ys r (fun z hz => h z (List.mem_cons_of_mem _ hz))
    simp only [List.flatMap_cons, List.length_cons, List.append_assoc]
    unfold rdN
    rw [h1]
    simp only [h2]
theorem flat_ge {α : Type} {g : α → List UInt8} (hg : ∀ y, 1 ≤ (g y).length) : ∀ ys : List α, ys.length ≤ (ys.flatMap g).length
  | [] => by simp
  | y :: ys => by
    have := flat_ge hg ys
    have := hg y
    simp only [List.flatMap_cons, List.length_cons, List.length_append]; omega
theorem list_fwd {α : Type} {f : List UInt8 → Option (α × List UInt8)} {g : α → List UInt8} {Q : α → Prop} (hf : Fwd f g Q) (hg : ∀ y, 1 ≤ (g y).length) : Fwd (rdList f) (encs g) (fun ys => ys.length < 18446744073709551616 ∧ ∀ y ∈ ys, Q y) := by
  intro ys r h
  unfold rdList encs
  rw [List.append_assoc, num_fwd _ h.1]
  simp only
  rw [if_pos (by have := flat_ge hg ys; simp only [List.length_append]; omega)]
  exact rdN_fwd hf ys r h.2
theorem num_ge (n : Nat) : 1 ≤ (num n).length := (numF_len 10 n).2
theorem kinds_fwd : Fwd rdKinds encKinds (fun ys => ys.length < 18446744073709551616 ∧ ∀ y ∈ ys, Whole y) := list_fwd whole_fwd (fun y => num_ge _)
theorem imp_fwd : Fwd rdImp encImp (fun i => i.name.length < 18446744073709551616 ∧ (i.params.length < 18446744073709551616 ∧ ∀ y ∈ i.params, Whole y) ∧ Whole i.result) := by
  intro y r h
  unfold rdImp encImp
  rw [List.append_assoc, text_fwd _ _ h.1]
  simp only
  rw [List.append_assoc, kinds_fwd _ _ h.2.1]
  simp only
  have := whole_fwd y.result r h.2.2
  unfold encWhole at this
  rw [this]
theorem exp_fwd : Fwd rdExp encExp (fun e => e.name.length < 18446744073709551616 ∧ Whole e.func) := by
  intro y r h
  unfold rdExp encExp
  rw [List.append_assoc, text_fwd _ _ h.1]
  simp only
  have := whole_fwd y.func r h.2
  unfold encWhole at this
  rw [this]
end Go.Proofs.YtkgncijcnlfhiaaDoor

namespace Go.Proofs.YtkgncijcnlfhiaaDoor
set_option linter.unusedVariables false
set_option linter.unusedSimpArgs false

theorem ins_fwd : Fwd rdIns encIns (fun i => insOk i = true) := by
  intro y r h
  unfold insOk at h
  simp only [Bool.and_eq_true] at h
  obtain ⟨h1, h2, h3⟩ := h
  have h1' : 0 ≤ y.op ∧ y.op ≤ 20 := by simpa [wB] using h1
  have hb : (((UInt8.ofNat y.op.toNat).toNat : Nat) : Int) = y.op := (byte_op h1'.1 h1'.2).symm
  unfold rdIns encIns
  simp only [List.cons_append, rdByte, hb]
  rw [if_pos h1]
  by_cases e1 : y.op = 1
  · rw [if_pos e1, if_pos e1]
    rw [if_pos e1] at h2
    have h2' : -2147483648 ≤ y.a ∧ y.a ≤ 2147483647 := by simpa [wB] using h2
    have hN : operandsN y.op = 1 := by rw [e1]; decide
    have h3' : y.b = 0 := by rw [hN] at h3; simpa [operandOk] using h3
    have hs := signed_fwd y.a r ⟨by omega, by omega⟩
    unfold encSigned at hs
    rw [hs]
    simp only
    rw [← h3']
  · rw [if_neg e1, if_neg e1]
    rw [if_neg e1] at h2
    rcases operandsN_cases y.op with hN | hN | hN
    · rw [if_pos hN]
      have h2' : y.a = 0 := by rw [hN] at h2; simpa [operandOk] using h2
      have h3' : y.b = 0 := by rw [hN] at h3; simpa [operandOk] using h3
      simp only [hN]
      simp
      cases y; simp_all
    · rw [if_neg (by omega)]
      have h2' : 0 ≤ y.a ∧ y.a ≤ 65535 := by rw [hN] at h2; simpa [operandOk, wB] using h2
      have h3' : y.b = 0 := by rw [hN] at h3; simpa [operandOk] using h3
      have hs := whole_fwd y.a r ⟨by omega, by omega⟩
      unfold encWhole at hs
      simp only [hN]
      simp only [show (1 : Int) ≤ 1 by decide, show ¬ (2 : Int) ≤ 1 by decide, if_true, if_false, List.append_nil, hs]
      rw [← h3']
    · rw [if_neg (by omega)]
      have h2' : 0 ≤ y.a ∧ y.a ≤ 65535 := by rw [hN] at h2; simpa [operandOk, wB] using h2
      have h3' : 0 ≤ y.b ∧ y.b ≤ 65535 := by rw [hN] at h3; simpa [operandOk, wB] using h3
      have hs := whole_fwd y.a (num y.b.toNat ++ r) ⟨by omega, by omega⟩
      have hs2 := whole_fwd y.b r ⟨by omega, by omega⟩
      unfold encWhole at hs hs2
      simp only [hN]
      simp only [show (1 : Int) ≤ 2 by decide, show (2 : Int) ≤ 2 by decide, if_true, List.append_assoc, hs, show ¬ (2 : Int) = 1 by decide, if_false, hs2]

theorem inB_whole {n : Int} (hn : n ≤ 1000000) {x : Int} (h : inB n x = true) : Whole x := by
  have : 0 ≤ x ∧ x ≤ n := by simpa [inB, wB] using h
  exact ⟨this.1, by omega⟩
theorem all_whole {n : Int} (hn : n ≤ 1000000) {l : List Int} (h : l.all (inB n) = true) : ∀ y ∈ l, Whole y := fun y hy => inB_whole hn (List.all_eq_true.1 h y hy)
theorem wB_le {n l m : Int} (h : wB n l m = true) : l ≤ n ∧ n ≤ m := by simpa [wB] using h
theorem func_fwd {n : Int} (hn : n ≤ 1000000) : Fwd rdFunc encFunc (fun f => funcOk n f = true) := by
  intro y r h
  unfold funcOk sigOk codeOk at h
  simp only [Bool.and_eq_true] at h
  obtain ⟨⟨p1, p2, p3⟩, l1, l2, c1, c2⟩ := h
  have q1 := wB_le p1
  have q2 := wB_le l1
  have q3 := wB_le c1
  unfold rdFunc encFunc
  rw [List.append_assoc, kinds_fwd _ _ ⟨by omega, all_whole hn p2⟩]
  simp only
  rw [List.append_assoc, kinds_fwd _ _ ⟨by omega, all_whole hn l2⟩]
  simp only
  have hs := whole_fwd y.result (encs encIns y.code ++ r) (inB_whole hn p3)
  unfold encWhole at hs
  rw [List.append_assoc, hs]
  simp only
  rw [list_fwd ins_fwd (fun i => by unfold encIns; simp) y.code r ⟨by omega, fun i hi => List.all_eq_true.1 c2 i hi⟩]
end Go.Proofs.YtkgncijcnlfhiaaDoor

namespace Go.Proofs.YtkgncijcnlfhiaaDoor
set_option linter.unusedVariables false
set_option linter.unusedSimpArgs false

theorem body_fwd {α : Type} {f : List UInt8 → Option (List α × List UInt8)} {g : List α → List UInt8} {Q : List α → Prop} (hf : Fwd f g Q) {y : List α} (hy : Q y) : rdBody f (g y) = some y := by
  have h := hf y [] hy
  rw [List.append_nil] at h
  unfold rdBody; rw [h]
theorem unit_parts {u : PUnit} (h : unitOk u = true) : shapesOk u.shapes = true ∧ constsOk u.consts = true ∧ funcsOk u.funcs u.shapes.length = true ∧ importsOk u.imports u.shapes.length = true ∧ exportsOk u.exports u.funcs.length = true := by
  unfold unitOk at h
  simp only [Bool.and_eq_true] at h
  obtain ⟨h1, h2, h3, h4, h5⟩ := h
  exact ⟨h1, h2, h3, h4, h5⟩
structure Bodies (u : PUnit) : Prop where
  b1 : rdBody (rdList rdKinds) (body1 u) = some u.shapes
  b2 : rdBody (rdList rdSigned) (body2 u) = some u.consts
  b3 : rdBody (rdList rdFunc) (body3 u) = some u.funcs
  b4 : rdBody (rdList rdImp) (body4 u) = some u.imports
  b5 : rdBody (rdList rdExp) (body5 u) = some u.exports
theorem unit_bodies {u : PUnit} (h : unitOk u = true) (hF : Fits u) : Bodies u := by
  obtain ⟨h1, h2, h3, h4, h5⟩ := unit_parts h
  have k2 := wB_le h2
  unfold shapesOk at h1
  unfold funcsOk at h3
  unfold importsOk at h4
  unfold exportsOk at h5
  simp only [Bool.and_eq_true] at h1 h3 h4 h5
  have k1 := wB_le h1.1
  have k3 := wB_le h3.1
  have k4 := wB_le h4.1
  have k5 := wB_le h5.1
  refine ⟨?_, ?_, ?_, ?_, ?_⟩
  · refine body_fwd (list_fwd kinds_fwd (fun y => by unfold encKinds; exact encs_pos)) ⟨by omega, fun y hy => ?_⟩
    have h := List.all_eq_true.1 h1.2 y hy
    unfold shapeOk at h
    simp only [Bool.and_eq_true] at h
    have := wB_le h.1
    exact ⟨by omega, all_whole (by omega) h.2⟩
  · exact body_fwd (list_fwd signed_fwd (fun y => num_ge _)) ⟨by omega, fun y hy => hF y hy⟩
  · refine body_fwd (list_fwd (func_fwd (n := u.shapes.length) (by omega)) (fun y => ?_)) ⟨by omega, fun y hy => List.all_eq_true.1 h3.2 y hy⟩
    unfold encFunc; have : 1 ≤ (encKinds y.params).length := by unfold encKinds; exact encs_pos
    simp only [List.length_append]; omega
  · refine body_fwd (list_fwd imp_fwd (fun y => ?_)) ⟨by omega, fun y hy => ?_⟩
    · unfold encImp encText; have := num_ge y.name.length; simp only [List.length_append]; omega
    · have h := List.all_eq_true.1 h4.2 y hy
      unfold impOk nameOk sigOk at h
      simp only [Bool.and_eq_true] at h
      have q1 := wB_le h.1
      have q2 := wB_le h.2.1
      exact ⟨by omega, ⟨by omega, all_whole (by omega) h.2.2.1⟩, inB_whole (by omega) h.2.2.2⟩
  · refine body_fwd (list_fwd exp_fwd (fun y => ?_)) ⟨by omega, fun y hy => ?_⟩
    · unfold encExp encText; have := num_ge y.name.length; simp only [List.length_append]; omega
    · have h := List.all_eq_true.1 h5.2 y hy
      unfold expOk nameOk at h
      simp only [Bool.and_eq_true] at h
      have q1 := wB_le h.1
      have q2 := wB_le h.2
      exact ⟨by omega, ⟨by omega, by omega⟩⟩
theorem sect_body_len (n : Nat) (b : List UInt8) : b.length ≤ (sect n b).length := by unfold sect; simp only [List.length_append]; omega

end Go.Proofs.YtkgncijcnlfhiaaDoor

