import Derived.Test.YtkgncijcnlfhiaaC2
import Derived.Test.YtkgncijcnlfhiaaB6
namespace Go.Proofs.Ytkgncijcnlfhiaa
set_option linter.unusedVariables false
set_option linter.unusedSimpArgs false

def magic : List UInt8 := [75, 73, 76, 78, 1]
def body1 (u : PUnit) : List UInt8 := encs encKinds u.shapes
def body2 (u : PUnit) : List UInt8 := encs encSigned u.consts
def body3 (u : PUnit) : List UInt8 := encs encFunc u.funcs
def body4 (u : PUnit) : List UInt8 := encs encImp u.imports
def body5 (u : PUnit) : List UInt8 := encs encExp u.exports
def enc1 (u : PUnit) : List UInt8 := magic ++ sect 1 (body1 u)
def enc2 (u : PUnit) : List UInt8 := enc1 u ++ sect 2 (body2 u)
def enc3 (u : PUnit) : List UInt8 := enc2 u ++ sect 3 (body3 u)
def enc4 (u : PUnit) : List UInt8 := enc3 u ++ sect 4 (body4 u)
def enc (u : PUnit) : List UInt8 := enc4 u ++ sect 5 (body5 u)
/-- its numbers have room in 64 bits -/
def Fits (u : PUnit) : Prop := ∀ x ∈ u.consts, -9223372036854775808 ≤ x ∧ x ≤ 9223372036854775807

theorem flat_len {α : Type} {f : α → List UInt8} {B : Nat} : ∀ {xs : List α}, (∀ x ∈ xs, (f x).length ≤ B) → (xs.flatMap f).length ≤ xs.length * B
  | [], _ => by simp
  | x :: xs, h => by
    have h1 := h x (by simp)
    have h2 := flat_len (xs := xs) fun y hy => h y (by simp [hy])
    simp only [List.flatMap_cons, List.length_append, List.length_cons, Nat.add_mul]; omega
theorem encs_len {α : Type} {f : α → List UInt8} {B N : Nat} {xs : List α} (h : ∀ x ∈ xs, (f x).length ≤ B) (hN : xs.length ≤ N) : (encs f xs).length ≤ 11 + N * B := by
  have h1 := num_len xs.length
  have h2 := flat_len h
  have h3 : xs.length * B ≤ N * B := Nat.mul_le_mul_right B hN
  unfold encs; rw [List.length_append]; omega
theorem encs_pos {α : Type} {f : α → List UInt8} {xs : List α} : 1 ≤ (encs f xs).length := by
  have := (numF_len 10 xs.length).2
  unfold encs num; rw [List.length_append]; omega
theorem encKinds_len {l : List Int} {N : Nat} (h : l.length ≤ N) : (encKinds l).length ≤ 11 + N * 11 := encs_len (fun x _ => num_len _) h
theorem encIns_len (i : PIns) : (encIns i).length ≤ 23 := by
  have h1 := num_len (zig i.a); have h2 := num_len i.a.toNat; have h3 := num_len i.b.toNat
  unfold encIns; rw [List.length_cons]
  split
  · omega
  · rw [List.length_append]; split <;> split <;> simp <;> omega

theorem wB_iff {v l m : Int} : wB v l m = true ↔ l ≤ v ∧ v ≤ m := by simp [wB]
theorem inB_all {n : Int} {l : List Int} (h : l.all (inB n) = true) (hn : n ≤ 1000) : ∀ x ∈ l, 0 ≤ x ∧ x ≤ 9223372036854775807 := by
  intro x hx
  have := List.all_eq_true.1 h x hx
  simp only [inB, wB, decide_eq_true_eq] at this; omega

structure Room (u : PUnit) : Prop where
  b1 : (body1 u).length ≤ 1000000
  b2 : (body2 u).length ≤ 1000000
  b3 : (body3 u).length ≤ 1000000
  b4 : (body4 u).length ≤ 1000000
  b5 : (body5 u).length ≤ 1000000
  f1 : ∀ x ∈ u.shapes, ∀ y ∈ x, 0 ≤ y ∧ y ≤ 9223372036854775807
  f3 : ∀ x ∈ u.funcs, FuncFit x
  f4 : ∀ x ∈ u.imports, ImpFit x
  f5 : ∀ x ∈ u.exports, ExpFit x

theorem funcOk_room {n : Int} {f : PFunc} (hn : n ≤ 1000) (h : funcOk n f = true) : FuncFit f ∧ (encFunc f).length ≤ 5000 := by
  simp only [funcOk, sigOk, codeOk, Bool.and_eq_true] at h
  obtain ⟨⟨h1, h2, h3⟩, h4, h5, h6, h7⟩ := h
  simp only [wB_iff, inB] at h1 h3 h4 h6
  refine ⟨⟨inB_all h2 hn, ⟨h3.1, by omega⟩, inB_all h5 hn, fun i hi => List.all_eq_true.1 h7 i hi⟩, ?_⟩
  have a1 := encKinds_len (l := f.params) (N := 6) (by omega)
  have a2 := encKinds_len (l := f.locals) (N := 10) (by omega)
  have a3 := num_len f.result.toNat
  have a4 := encs_len (f := encIns) (B := 23) (N := 200) (xs := f.code) (fun x _ => encIns_len x) (by omega)
  unfold encFunc; simp only [List.length_append]; omega
theorem impOk_room {n : Int} {f : PImp} (hn : n ≤ 1000) (h : impOk n f = true) : ImpFit f ∧ (encImp f).length ≤ 5000 := by
  simp only [impOk, sigOk, nameOk, Bool.and_eq_true] at h
  obtain ⟨h0, h1, h2, h3⟩ := h
  simp only [wB_iff, inB] at h0 h1 h3
  refine ⟨⟨by omega, inB_all h2 hn, ⟨h3.1, by omega⟩⟩, ?_⟩
  have a1 := encKinds_len (l := f.params) (N := 6) (by omega)
  have a3 := num_len f.result.toNat
  have a4 := num_len f.name.length
  unfold encImp encText; simp only [List.length_append]; omega
theorem expOk_room {n : Int} {f : PExp} (hn : n ≤ 1000) (h : expOk n f = true) : ExpFit f ∧ (encExp f).length ≤ 5000 := by
  simp only [expOk, nameOk, Bool.and_eq_true] at h
  obtain ⟨h0, h1⟩ := h
  simp only [wB_iff] at h0 h1
  refine ⟨⟨by omega, ⟨h1.1, by omega⟩⟩, ?_⟩
  have a3 := num_len f.func.toNat
  have a4 := num_len f.name.length
  unfold encExp encText; simp only [List.length_append]; omega

theorem unitOk_room {u : PUnit} (h : unitOk u = true) : Room u := by
  simp only [unitOk, shapesOk, constsOk, funcsOk, importsOk, exportsOk, Bool.and_eq_true] at h
  obtain ⟨⟨s1, s2⟩, c1, ⟨f1, f2⟩, ⟨i1, i2⟩, e1, e2⟩ := h
  simp only [wB_iff] at s1 c1 f1 i1 e1
  have S : ∀ x ∈ u.shapes, shapeOk u.shapes.length x = true := fun x hx => List.all_eq_true.1 s2 x hx
  have F : ∀ x ∈ u.funcs, FuncFit x ∧ (encFunc x).length ≤ 5000 := fun x hx => funcOk_room (by omega) (List.all_eq_true.1 f2 x hx)
  have I : ∀ x ∈ u.imports, ImpFit x ∧ (encImp x).length ≤ 5000 := fun x hx => impOk_room (by omega) (List.all_eq_true.1 i2 x hx)
  have E : ∀ x ∈ u.exports, ExpFit x ∧ (encExp x).length ≤ 5000 := fun x hx => expOk_room (by omega) (List.all_eq_true.1 e2 x hx)
  have S1 : ∀ x ∈ u.shapes, x.length ≤ 8 ∧ ∀ y ∈ x, 0 ≤ y ∧ y ≤ 9223372036854775807 := by
    intro x hx
    have := S x hx
    simp only [shapeOk, Bool.and_eq_true, wB_iff] at this
    exact ⟨by omega, inB_all this.2 (by omega)⟩
  refine ⟨?_, ?_, ?_, ?_, ?_, fun x hx => (S1 x hx).2, fun x hx => (F x hx).1, fun x hx => (I x hx).1, fun x hx => (E x hx).1⟩
  · have := encs_len (f := encKinds) (B := 99) (N := 20) (xs := u.shapes) (fun x hx => encKinds_len (S1 x hx).1) (by omega)
    unfold body1; omega
  · have := encs_len (f := encSigned) (B := 11) (N := 50) (xs := u.consts) (fun x hx => num_len _) (by omega)
    unfold body2; omega
  · have := encs_len (N := 30) (fun x hx => (F x hx).2) (by omega)
    unfold body3; omega
  · have := encs_len (N := 20) (fun x hx => (I x hx).2) (by omega)
    unfold body4; omega
  · have := encs_len (N := 20) (fun x hx => (E x hx).2) (by omega)
    unfold body5; omega
end Go.Proofs.Ytkgncijcnlfhiaa
