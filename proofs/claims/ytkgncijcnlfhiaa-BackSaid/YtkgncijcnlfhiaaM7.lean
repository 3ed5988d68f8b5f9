import Derived.Test.YtkgncijcnlfhiaaM6
namespace Go.Proofs.Ytkgncijcnlfhiaa
set_option linter.unusedVariables false
set_option linter.unusedSimpArgs false
open Go.RowKit
theorem mtake_ok : ∀ (k : Nat) (n : Nat) (r : List Int), (mtake k ((n : Int) + 1) r).1.length = k ∧ (mtake k ((n : Int) + 1) r).1.all (inB n) = true
  | 0, n, r => by simp [mtake]
  | k + 1, n, r => by
    obtain ⟨h1, h2⟩ := mtake_ok k n r.tail
    have h3 := mpick_lt (r := r) (n := (n : Int) + 1) (by omega)
    refine ⟨by simp [mtake, h1], ?_⟩
    simp only [mtake, List.all_cons, h2, Bool.and_true, inB, wB, decide_eq_true_eq]
    omega
theorem ic_flat (l : List Int) : ic l = l.flatMap fI := by
  induction l with
  | nil => rfl
  | cons a l ih => simp only [ic, List.map_cons, List.flatMap_cons, fI] at ih ⊢; rw [ih]; rfl
theorem kinds_made (mb : Nat) (r : List Int) (least most shapes : Nat) (hlm : least ≤ most) (hmo : most ≤ 100) (hsh : shapes ≤ 100) (w : World) (h : MkR w mb r) :
    Calls Try.prog 18 #[.pointer (some ⟨mb, 0, none⟩), .int .i64 least, .int .i64 most, .int .i64 shapes] w fun x w' =>
      ∃ (v : Value) (l : List Int), x = .returned v ∧ w'.ownsRow w.heap.size 3 1 v l.length (l.flatMap fI) ∧ (least ≤ l.length ∧ l.length ≤ most ∧ l.all (inB shapes) = true) ∧ (∃ r', MkR w' mb r') ∧ Gc mb w w' := by
  refine (mkinds_any mb r least most shapes hlm hmo hsh w h).mono ?_
  rintro x w' ⟨v, hx, ho, hm, hg⟩
  have hq := mpick_lt (r := r) (n := (most : Int) - least + 1) (by omega)
  obtain ⟨h1, h2⟩ := mtake_ok ((least : Int) + mpick r ((most : Int) - least + 1)).toNat shapes r.tail
  refine ⟨v, (mkinds least most shapes r).1, hx, by rw [← ic_flat]; exact ho, ⟨?_, ?_, h2⟩, ⟨_, hm⟩, hg⟩
  · show least ≤ (mtake _ _ _).1.length; rw [h1]; omega
  · show (mtake _ _ _).1.length ≤ most; rw [h1]; omega

abbrev nilS : Value := .slice none 0 0
/-- the unit that is being made, and the maker -/
def UB (w : World) (mb : Nat) (wr : World) (v1 v2 v3 v4 v5 : Value) : Prop :=
  Box5 wr w.heap.size (.slice none 0 0) (.slice none 0 0) (.slice none 0 0) (.slice none 0 0) (.slice none 0 0) ∧ Box5 wr (w.heap.size + 1) v1 v2 v3 v4 v5 ∧ (∃ r, MkR wr mb r) ∧ Gc mb w wr ∧ w.heap.size + 2 ≤ wr.heap.size ∧ mb < w.heap.size
theorem UB.gc {w wr w2 : World} {mb : Nat} {v1 v2 v3 v4 v5 : Value} (h : UB w mb wr v1 v2 v3 v4 v5) (g : Gc mb wr w2) (hm : ∃ r, MkR w2 mb r) : UB w mb w2 v1 v2 v3 v4 v5 := by
  obtain ⟨h1, h2, h3, h4, h5, h6⟩ := h
  exact ⟨h1.gc g (by omega), h2.gc g (by omega), hm, h4.trans g, Nat.le_trans h5 g.size, h6⟩
theorem UB.gr {w wr w2 : World} {mb : Nat} {v1 v2 v3 v4 v5 : Value} (h : UB w mb wr v1 v2 v3 v4 v5) (g : Gr wr w2) : UB w mb w2 v1 v2 v3 v4 v5 := by
  obtain ⟨r, hr⟩ := h.2.2.1
  exact h.gc g.toGc ⟨r, hr.gr g⟩
theorem UB.grown {w wr w2 : World} {mb : Nat} {v1 v2 v3 v4 v5 : Value} {o : Option Nat} (h : UB w mb wr v1 v2 v3 v4 v5) (g : wr.grownBy w2 o) (ho : ∀ k, o = some k → w.heap.size + 2 ≤ k) : UB w mb w2 v1 v2 v3 v4 v5 := by
  obtain ⟨h1, h2, ⟨r, hr⟩, h4, h5, h6⟩ := h
  have hb : ∀ b, b < w.heap.size + 2 → w2.heap[b]? = wr.heap[b]? := fun b hb => g.block b (by omega) (fun e => by have := ho b e.symm; omega)
  have hbox : ∀ {b : Nat} {x0 x1 x2 x3 x4 : Value}, b < w.heap.size + 2 → Box5 wr b x0 x1 x2 x3 x4 → Box5 w2 b x0 x1 x2 x3 x4 := by
    intro b x0 x1 x2 x3 x4 hlt hx
    obtain ⟨k0, k1, k2, k3, k4, z0, z1, z2, z3, z4⟩ := hx
    have hc : ∀ o, w2.cell? ⟨b, o, none⟩ = wr.cell? ⟨b, o, none⟩ := fun o => World.cell?_of_block (a := ⟨b, o, none⟩) (hb b hlt)
    have hf : ∀ o, w2.frozen? ⟨b, o, none⟩ = wr.frozen? ⟨b, o, none⟩ := fun o => World.frozen?_of_block (a := ⟨b, o, none⟩) (hb b hlt)
    exact ⟨(hc 0).trans k0, (hc 1).trans k1, (hc 2).trans k2, (hc 3).trans k3, (hc 4).trans k4, (hf 0).trans z0, (hf 1).trans z1, (hf 2).trans z2, (hf 3).trans z3, (hf 4).trans z4⟩
  exact ⟨hbox (by omega) h1, hbox (by omega) h2, ⟨r, hr.low fun k hk => hb k (by omega)⟩, gc_grown h4 g (fun k e => by have := ho k e; omega), Nat.le_trans h5 g.size, h6⟩
theorem UB.set0 {w wr : World} {mb : Nat} {v1 v2 v3 v4 v5 : Value} (v : Value) (h : UB w mb wr v1 v2 v3 v4 v5) : UB w mb (wr.setCell ⟨w.heap.size + 1, 0, none⟩ v) v v2 v3 v4 v5 := by
  obtain ⟨h1, h2, ⟨r, hr⟩, h4, h5, h6⟩ := h
  exact ⟨h1.other (by omega), h2.set0 v, ⟨r, hr.set (by omega)⟩, gc_new h4 (by omega), by simpa using h5, h6⟩
theorem UB.set1 {w wr : World} {mb : Nat} {v1 v2 v3 v4 v5 : Value} (v : Value) (h : UB w mb wr v1 v2 v3 v4 v5) : UB w mb (wr.setCell ⟨w.heap.size + 1, 1, none⟩ v) v1 v v3 v4 v5 := by
  obtain ⟨h1, h2, ⟨r, hr⟩, h4, h5, h6⟩ := h
  exact ⟨h1.other (by omega), h2.set1 v, ⟨r, hr.set (by omega)⟩, gc_new h4 (by omega), by simpa using h5, h6⟩
theorem UB.set2 {w wr : World} {mb : Nat} {v1 v2 v3 v4 v5 : Value} (v : Value) (h : UB w mb wr v1 v2 v3 v4 v5) : UB w mb (wr.setCell ⟨w.heap.size + 1, 2, none⟩ v) v1 v2 v v4 v5 := by
  obtain ⟨h1, h2, ⟨r, hr⟩, h4, h5, h6⟩ := h
  exact ⟨h1.other (by omega), h2.set2 v, ⟨r, hr.set (by omega)⟩, gc_new h4 (by omega), by simpa using h5, h6⟩
theorem UB.set3 {w wr : World} {mb : Nat} {v1 v2 v3 v4 v5 : Value} (v : Value) (h : UB w mb wr v1 v2 v3 v4 v5) : UB w mb (wr.setCell ⟨w.heap.size + 1, 3, none⟩ v) v1 v2 v3 v v5 := by
  obtain ⟨h1, h2, ⟨r, hr⟩, h4, h5, h6⟩ := h
  exact ⟨h1.other (by omega), h2.set3 v, ⟨r, hr.set (by omega)⟩, gc_new h4 (by omega), by simpa using h5, h6⟩
theorem UB.set4 {w wr : World} {mb : Nat} {v1 v2 v3 v4 v5 : Value} (v : Value) (h : UB w mb wr v1 v2 v3 v4 v5) : UB w mb (wr.setCell ⟨w.heap.size + 1, 4, none⟩ v) v1 v2 v3 v4 v := by
  obtain ⟨h1, h2, ⟨r, hr⟩, h4, h5, h6⟩ := h
  exact ⟨h1.other (by omega), h2.set4 v, ⟨r, hr.set (by omega)⟩, gc_new h4 (by omega), by simpa using h5, h6⟩
theorem UB.new (w : World) (mb : Nat) (r : List Int) (h : MkR w mb r) : UB w mb ((w.alloc (.cells #[.slice none 0 0, .slice none 0 0, .slice none 0 0, .slice none 0 0, .slice none 0 0] 28)).alloc (.cells #[.slice none 0 0, .slice none 0 0, .slice none 0 0, .slice none 0 0, .slice none 0 0] 28)) nilS nilS nilS nilS nilS := by
  have g0 := Gr.alloc (Gr.refl w) (.cells #[.slice none 0 0, .slice none 0 0, .slice none 0 0, .slice none 0 0, .slice none 0 0] 28)
  have g1 := Gr.alloc (Gr.refl (w.alloc (.cells #[.slice none 0 0, .slice none 0 0, .slice none 0 0, .slice none 0 0, .slice none 0 0] 28))) (.cells #[.slice none 0 0, .slice none 0 0, .slice none 0 0, .slice none 0 0, .slice none 0 0] 28)
  have hb := Box5.new (w.alloc (.cells #[.slice none 0 0, .slice none 0 0, .slice none 0 0, .slice none 0 0, .slice none 0 0] 28)) 28 (.slice none 0 0) (.slice none 0 0) (.slice none 0 0) (.slice none 0 0) (.slice none 0 0)
  rw [show (w.alloc (.cells #[.slice none 0 0, .slice none 0 0, .slice none 0 0, .slice none 0 0, .slice none 0 0] 28)).heap.size = w.heap.size + 1 by simp] at hb
  exact ⟨(Box5.new w 28 _ _ _ _ _).gr g1, hb, ⟨r, h.gr (g0.trans g1)⟩, (g0.trans g1).toGc, by simp, h.lt⟩

/-- what is made already -/
def Fin (P : Nat → Prop) (w : World) (v1 v2 v3 v4 : Value) (u : PUnit) : Prop :=
  RShapesP P w v1 u.shapes ∧ RIntsP P w v2 u.consts ∧ RFuncsP P w v3 u.funcs ∧ RImportsP P w v4 u.imports
theorem Fin.stay {P P' : Nat → Prop} {w w' : World} {v1 v2 v3 v4 : Value} {u : PUnit} (h : Fin P w v1 v2 v3 v4 u) (g : Stay P P' w w') : Fin P' w' v1 v2 v3 v4 u :=
  ⟨h.1.stay g, h.2.1.stay g, h.2.2.1.stay g, h.2.2.2.stay g⟩
theorem nil_shapes (P : Nat → Prop) (w : World) : RShapesP P w nilS [] := ⟨none, 0, rfl, by decide, fun i x hi => by simp at hi⟩
theorem nil_ints (P : Nat → Prop) (w : World) : RIntsP P w nilS [] := ⟨none, 0, rfl, by decide, fun i x hi => by simp at hi⟩
theorem nil_code (P : Nat → Prop) (w : World) : RCodeP P w nilS [] := ⟨none, 0, rfl, by decide, fun i x hi => by simp at hi⟩
theorem nil_funcs (P : Nat → Prop) (w : World) : RFuncsP P w nilS [] := ⟨none, 0, rfl, by decide, fun i x hi => by simp at hi⟩
theorem nil_imps (P : Nat → Prop) (w : World) : RImportsP P w nilS [] := ⟨none, 0, rfl, by decide, fun i x hi => by simp at hi⟩
/-- how large what is made may be -/
structure Small (N : Nat) (u : PUnit) : Prop where
  n : N ≤ 3
  s1 : u.shapes.length ≤ 3
  s2 : ∀ s ∈ u.shapes, (1 ≤ s.length ∧ s.length ≤ 4) ∧ s.all (inB N) = true
  c1 : u.consts.length ≤ 4
  c2 : ∀ x ∈ u.consts, fitsI x
  f1 : u.funcs.length ≤ 3
  f2 : ∀ f ∈ u.funcs, (f.params.length ≤ 4 ∧ f.params.all (inB N) = true) ∧ inB N f.result = true ∧ (f.locals.length ≤ 4 ∧ f.locals.all (inB N) = true) ∧ (1 ≤ f.code.length ∧ f.code.length ≤ 12) ∧ f.code.all insOk = true
  i1 : u.imports.length ≤ 3
  i2 : ∀ i ∈ u.imports, (1 ≤ i.name.length ∧ i.name.length ≤ 4) ∧ (i.params.length ≤ 4 ∧ i.params.all (inB N) = true) ∧ inB N i.result = true
  e1 : u.exports.length ≤ 3
  e2 : ∀ e ∈ u.exports, (1 ≤ e.name.length ∧ e.name.length ≤ 4) ∧ wB e.func 0 ((u.funcs.length : Int) - 1) = true
theorem own_lt {w : World} {B : Nat} {e : TypeId} {n len : Nat} {v : Value} {xs : List Value} (h : w.ownsRow B e n v len xs) : ∀ k, v.ownBlock = some k → k < w.heap.size := fun k hk => (h.lt k hk).2
theorem own_kept {w w' : World} {B : Nat} {e : TypeId} {n len : Nat} {v : Value} {xs : List Value} (h : w.ownsRow B e n v len xs) (g : ∀ b, v.ownBlock = some b → w'.heap[b]? = w.heap[b]?) : w'.ownsRow B e n v len xs := by
  refine ⟨h.1, ?_⟩
  rcases h.2 with h' | ⟨b, cap, cur, rfl, h1, h2, h3⟩
  · exact .inl h'
  · exact .inr ⟨b, cap, cur, rfl, h1, (g b rfl).trans h2, h3⟩
theorem own_gc {w w' : World} {B mb : Nat} {e : TypeId} {n len : Nat} {v : Value} {xs : List Value} (h : w.ownsRow B e n v len xs) (g : Gc mb w w') (hm : mb < B) : w'.ownsRow B e n v len xs :=
  own_kept h fun b hb => g.block b (own_lt h b hb) (by intro e; simp only [Option.some.injEq] at e; have := own_ge h b hb; omega)
theorem own_set {w : World} {B g o : Nat} {u : Value} {e : TypeId} {n len : Nat} {v : Value} {xs : List Value} (h : w.ownsRow B e n v len xs) (hg : ¬ v.ownBlock = some g) : (w.setCell ⟨g, o, none⟩ u).ownsRow B e n v len xs :=
  own_kept h fun b hb => Below.heap_setCell _ _ _ _ (by intro e; exact hg (by rw [hb, e]))
theorem own_alloc {w : World} {B : Nat} {o : Obj} {e : TypeId} {n len : Nat} {v : Value} {xs : List Value} (h : w.ownsRow B e n v len xs) : (w.alloc o).ownsRow B e n v len xs :=
  own_kept h fun b hb => Below.heap_alloc _ _ _ (own_lt h b hb)
/-- a new list lies apart from a row that was there -/
theorem bt_new {w : World} {B H : Nat} {e : TypeId} {n len : Nat} {v : Value} {xs : List Value} (h : w.ownsRow B e n v len xs) (hH : w.heap.size ≤ H) (hB : B ≤ H) : ∀ b, H ≤ b → Bt B v b := fun b hb => ⟨by omega, fun e => by have := own_lt h b e; omega⟩
end Go.Proofs.Ytkgncijcnlfhiaa
