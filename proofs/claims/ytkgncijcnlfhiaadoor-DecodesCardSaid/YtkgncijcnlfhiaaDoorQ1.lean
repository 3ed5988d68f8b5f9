import Derived.ArgAppend
import Derived.Deep.Onto
import Derived.Test.YtkgncijcnlfhiaaDoorT1
import Derived.Test.YtkgncijcnlfhiaaDoorB4
import Derived.Test.YtkgncijcnlfhiaaDoorS1
namespace Go.Proofs.YtkgncijcnlfhiaaDoor
set_option linter.unusedVariables false
set_option linter.unusedSimpArgs false
open Go.RowKit

section
variable {ops : Array Oper} {rest : List Oper} {o : Oper} {a : Act} {Q : Exit → Act → World → Prop}
end

/-- owned, or a row that is full (that of a text that was turned into bytes) -/
def Own0 (base : Nat) (w : World) (v : Value) (l : List UInt8) : Prop :=
  w.ownsRow base 5 1 v l.length (bc l) ∨ ∃ b, base ≤ b ∧ b < w.heap.size ∧ v = .slice (some ⟨b, 0, none⟩) l.length l.length ∧ ∀ j u, (bc l)[j]? = some u → w.cell? ((⟨b, 0, none⟩ : Addr).add j) = some u
theorem Own0.lt {base : Nat} {w : World} {v : Value} {l : List UInt8} (h : Own0 base w v l) : ∀ k, v.ownBlock = some k → base ≤ k ∧ k < w.heap.size := by
  rcases h with h | ⟨b, h1, h2, rfl, _⟩
  · exact h.lt
  · intro k hk; simp [Value.ownBlock] at hk; subst hk; exact ⟨h1, h2⟩
structure Wr0 (W w : World) (v : Value) (l : List UInt8) : Prop where
  low : Below W.heap.size W w
  own : Own0 W.heap.size w v l
theorem Wr0.base {W w : World} {v : Value} {l : List UInt8} (h : Wr0 W w v l) : W.heap.size ≤ w.heap.size := h.low.size
theorem Wr0.app {W w w' : World} {v v' : Value} {l l' : List UInt8} (h : Wr0 W w v l) (k : App W.heap.size w v w' v' l') : Wr W w' v' l' :=
  ⟨h.low.trans ((Below.refl _ _).grown k.frm h.base fun i hi => (h.own.lt i hi).1), k.own⟩
theorem Wr0.gr {W w w' : World} {v : Value} {l : List UInt8} (h : Wr0 W w v l) (g : Gr w w') : Wr0 W w' v l := by
  refine ⟨h.low.grown g h.base (by simp), ?_⟩
  rcases h.own with ho | ⟨b, h1, h2, rfl, h3⟩
  · exact .inl (ho.kept g (by cases v.ownBlock <;> simp))
  · exact .inr ⟨b, h1, Nat.lt_of_lt_of_le h2 g.size, rfl, fun j u hu => g.cell (h3 j u hu) (by simp)⟩
theorem Wr0.apart {W w : World} {v : Value} {l : List UInt8} (h : Wr0 W w v l) {g : Nat} (hg : w.heap.size ≤ g) : v.ownBlock ≠ some g := fun e => by have := (h.own.lt g e).2; omega

section
variable {ops : Array Oper} {rest : List Oper} {o : Oper} {a : Act} {Q : Exit → Act → World → Prop}
end

def leK (c k : Nat) : List UInt8 := (List.range k).map fun j => UInt8.ofNat (c / 256 ^ j % 256)
theorem leK_len (c k : Nat) : (leK c k).length = k := by simp [leK]
def sect (n : Nat) (b : List UInt8) : List UInt8 := [UInt8.ofNat n] ++ num b.length ++ b ++ leK (crc b) 4
end Go.Proofs.YtkgncijcnlfhiaaDoor

namespace Go.Proofs.YtkgncijcnlfhiaaDoor
set_option linter.unusedVariables false
set_option linter.unusedSimpArgs false
open Go.RowKit

def FuncFit (f : PFunc) : Prop := (∀ x ∈ f.params, 0 ≤ x ∧ x ≤ 9223372036854775807) ∧ (0 ≤ f.result ∧ f.result ≤ 9223372036854775807) ∧ (∀ x ∈ f.locals, 0 ≤ x ∧ x ≤ 9223372036854775807) ∧ ∀ i ∈ f.code, insOk i = true
def ImpFit (f : PImp) : Prop := f.name.length ≤ 1000000 ∧ (∀ x ∈ f.params, 0 ≤ x ∧ x ≤ 9223372036854775807) ∧ (0 ≤ f.result ∧ f.result ≤ 9223372036854775807)
def ExpFit (f : PExp) : Prop := f.name.length ≤ 1000000 ∧ (0 ≤ f.func ∧ f.func ≤ 9223372036854775807)

end Go.Proofs.YtkgncijcnlfhiaaDoor

namespace Go.Proofs.YtkgncijcnlfhiaaDoor
set_option linter.unusedVariables false
set_option linter.unusedSimpArgs false

def magic : List UInt8 := [75, 73, 76, 78, 1]
def body1 (u : PUnit) : List UInt8 := encs encKinds u.shapes
def body2 (u : PUnit) : List UInt8 := encs encSigned u.consts
def body3 (u : PUnit) : List UInt8 := encs encFunc u.funcs
def body4 (u : PUnit) : List UInt8 := encs encImp u.imports
def body5 (u : PUnit) : List UInt8 := encs encExp u.exports
def enc1 (u : PUnit) : List UInt8 := magic ++ sect 1 (body1 u)
def enc2 (u : PUnit) : List UInt8 := enc1 u ++ sect 2 (body2 u)
def enc3 (u : PUnit) : List UInt8 := enc2 u ++ sect 3 (body3 u)
def enc4 (u : PUnit) : List UInt8 := enc3 u ++ sect 4 (body4 u)
def enc (u : PUnit) : List UInt8 := enc4 u ++ sect 5 (body5 u)
/-- its numbers have room in 64 bits -/
def Fits (u : PUnit) : Prop := ∀ x ∈ u.consts, -9223372036854775808 ≤ x ∧ x ≤ 9223372036854775807

theorem flat_len {α : Type} {f : α → List UInt8} {B : Nat} : ∀ {xs : List α}, (∀ x ∈ xs, (f x).length ≤ B) → (xs.flatMap f).length ≤ xs.length * B
  | [], _ => by simp
  | x :: xs, h => by
    have h1 := h x (by simp)
    have h2 := flat_len (xs := xs) fun y hy => h y (by simp [hy])
    simp only [List.flatMap_cons, List.length_append, List.length_cons, Nat.add_mul]; omega
theorem encs_len {α : Type} {f : α → List UInt8} {B N : Nat} {xs : List α} (h : ∀ x ∈ xs, (f x).length ≤ B) (hN : xs.length ≤ N) : (encs f xs).length ≤ 11 + N * B := by
  have h1 := num_len xs.length
  have h2 := flat_len h
  have h3 : xs.length * B ≤ N * B := Nat.mul_le_mul_right B hN
  unfold encs; rw [List.length_append]; omega
theorem encs_pos {α : Type} {f : α → List UInt8} {xs : List α} : 1 ≤ (encs f xs).length := by
  have := (numF_len 10 xs.length).2
  unfold encs num; rw [List.length_append]; omega
theorem encKinds_len {l : List Int} {N : Nat} (h : l.length ≤ N) : (encKinds l).length ≤ 11 + N * 11 := encs_len (fun x _ => num_len _) h
theorem encIns_len (i : PIns) : (encIns i).length ≤ 23 := by
  have h1 := num_len (zig i.a); have h2 := num_len i.a.toNat; have h3 := num_len i.b.toNat
  unfold encIns; rw [List.length_cons]
  split
  · omega
  · rw [List.length_append]; split <;> split <;> simp <;> omega

theorem wB_iff {v l m : Int} : wB v l m = true ↔ l ≤ v ∧ v ≤ m := by simp [wB]
theorem inB_all {n : Int} {l : List Int} (h : l.all (inB n) = true) (hn : n ≤ 1000) : ∀ x ∈ l, 0 ≤ x ∧ x ≤ 9223372036854775807 := by
  intro x hx
  have := List.all_eq_true.1 h x hx
  simp only [inB, wB, decide_eq_true_eq] at this; omega

structure Room (u : PUnit) : Prop where
  b1 : (body1 u).length ≤ 1000000
  b2 : (body2 u).length ≤ 1000000
  b3 : (body3 u).length ≤ 1000000
  b4 : (body4 u).length ≤ 1000000
  b5 : (body5 u).length ≤ 1000000
  f1 : ∀ x ∈ u.shapes, ∀ y ∈ x, 0 ≤ y ∧ y ≤ 9223372036854775807
  f3 : ∀ x ∈ u.funcs, FuncFit x
  f4 : ∀ x ∈ u.imports, ImpFit x
  f5 : ∀ x ∈ u.exports, ExpFit x

theorem funcOk_room {n : Int} {f : PFunc} (hn : n ≤ 1000) (h : funcOk n f = true) : FuncFit f ∧ (encFunc f).length ≤ 5000 := by
  simp only [funcOk, sigOk, codeOk, Bool.and_eq_true] at h
  obtain ⟨⟨h1, h2, h3⟩, h4, h5, h6, h7⟩ := h
  simp only [wB_iff, inB] at h1 h3 h4 h6
  refine ⟨⟨inB_all h2 hn, ⟨h3.1, by omega⟩, inB_all h5 hn, fun i hi => List.all_eq_true.1 h7 i hi⟩, ?_⟩
  have a1 := encKinds_len (l := f.params) (N := 6) (by omega)
  have a2 := encKinds_len (l := f.locals) (N := 10) (by omega)
  have a3 := num_len f.result.toNat
  have a4 := encs_len (f := encIns) (B := 23) (N := 200) (xs := f.code) (fun x _ => encIns_len x) (by omega)
  unfold encFunc; simp only [List.length_append]; omega
theorem impOk_room {n : Int} {f : PImp} (hn : n ≤ 1000) (h : impOk n f = true) : ImpFit f ∧ (encImp f).length ≤ 5000 := by
  simp only [impOk, sigOk, nameOk, Bool.and_eq_true] at h
  obtain ⟨h0, h1, h2, h3⟩ := h
  simp only [wB_iff, inB] at h0 h1 h3
  refine ⟨⟨by omega, inB_all h2 hn, ⟨h3.1, by omega⟩⟩, ?_⟩
  have a1 := encKinds_len (l := f.params) (N := 6) (by omega)
  have a3 := num_len f.result.toNat
  have a4 := num_len f.name.length
  unfold encImp encText; simp only [List.length_append]; omega
theorem expOk_room {n : Int} {f : PExp} (hn : n ≤ 1000) (h : expOk n f = true) : ExpFit f ∧ (encExp f).length ≤ 5000 := by
  simp only [expOk, nameOk, Bool.and_eq_true] at h
  obtain ⟨h0, h1⟩ := h
  simp only [wB_iff] at h0 h1
  refine ⟨⟨by omega, ⟨h1.1, by omega⟩⟩, ?_⟩
  have a3 := num_len f.func.toNat
  have a4 := num_len f.name.length
  unfold encExp encText; simp only [List.length_append]; omega

theorem unitOk_room {u : PUnit} (h : unitOk u = true) : Room u := by
  simp only [unitOk, shapesOk, constsOk, funcsOk, importsOk, exportsOk, Bool.and_eq_true] at h
  obtain ⟨⟨s1, s2⟩, c1, ⟨f1, f2⟩, ⟨i1, i2⟩, e1, e2⟩ := h
  simp only [wB_iff] at s1 c1 f1 i1 e1
  have S : ∀ x ∈ u.shapes, shapeOk u.shapes.length x = true := fun x hx => List.all_eq_true.1 s2 x hx
  have F : ∀ x ∈ u.funcs, FuncFit x ∧ (encFunc x).length ≤ 5000 := fun x hx => funcOk_room (by omega) (List.all_eq_true.1 f2 x hx)
  have I : ∀ x ∈ u.imports, ImpFit x ∧ (encImp x).length ≤ 5000 := fun x hx => impOk_room (by omega) (List.all_eq_true.1 i2 x hx)
  have E : ∀ x ∈ u.exports, ExpFit x ∧ (encExp x).length ≤ 5000 := fun x hx => expOk_room (by omega) (List.all_eq_true.1 e2 x hx)
  have S1 : ∀ x ∈ u.shapes, x.length ≤ 8 ∧ ∀ y ∈ x, 0 ≤ y ∧ y ≤ 9223372036854775807 := by
    intro x hx
    have := S x hx
    simp only [shapeOk, Bool.and_eq_true, wB_iff] at this
    exact ⟨by omega, inB_all this.2 (by omega)⟩
  refine ⟨?_, ?_, ?_, ?_, ?_, fun x hx => (S1 x hx).2, fun x hx => (F x hx).1, fun x hx => (I x hx).1, fun x hx => (E x hx).1⟩
  · have := encs_len (f := encKinds) (B := 99) (N := 20) (xs := u.shapes) (fun x hx => encKinds_len (S1 x hx).1) (by omega)
    unfold body1; omega
  · have := encs_len (f := encSigned) (B := 11) (N := 50) (xs := u.consts) (fun x hx => num_len _) (by omega)
    unfold body2; omega
  · have := encs_len (N := 30) (fun x hx => (F x hx).2) (by omega)
    unfold body3; omega
  · have := encs_len (N := 20) (fun x hx => (I x hx).2) (by omega)
    unfold body4; omega
  · have := encs_len (N := 20) (fun x hx => (E x hx).2) (by omega)
    unfold body5; omega
end Go.Proofs.YtkgncijcnlfhiaaDoor

namespace Go.Proofs.YtkgncijcnlfhiaaDoor
set_option linter.unusedVariables false
set_option linter.unusedSimpArgs false
theorem rdNum_far : ∀ (r : List UInt8) (k v : Nat), 10 ≤ k → rdNum k v r = none
  | [], _, _, _ => rfl
  | b :: r, k, v, hk => by
    unfold rdNum
    by_cases hf : b.toNat % 128 * 2 ^ (7 * k) < 18446744073709551616
    · rw [if_pos hf]
      have hz : b.toNat % 128 = 0 := by
        rcases Nat.eq_zero_or_pos (b.toNat % 128) with h | h
        · exact h
        · have h1 : 2 ^ 64 ≤ 2 ^ (7 * k) := Nat.pow_le_pow_right (by decide) (by omega)
          have h2 : 1 * 2 ^ (7 * k) ≤ b.toNat % 128 * 2 ^ (7 * k) := Nat.mul_le_mul_right _ h
          omega
      by_cases hb : b.toNat < 128
      · rw [if_pos hb, if_neg]
        intro h; rcases h with h | h
        · omega
        · omega
      · rw [if_neg hb]; exact rdNum_far r _ _ (by omega)
    · rw [if_neg hf]

theorem rdNum_inv : ∀ (r : List UInt8) (k v n : Nat) (r' : List UInt8), k ≤ 9 → rdNum k v r = some (n, r') → ∃ m, n = v + m * 2 ^ (7 * k) ∧ r = numF (10 - k) m ++ r' ∧ (k ≠ 0 → m ≠ 0)
  | [], _, _, _, _, _, h => by simp [rdNum] at h
  | b :: r, k, v, n, r', hk, h => by
    unfold rdNum at h
    have hb256 := b.toNat_lt
    by_cases hf : b.toNat % 128 * 2 ^ (7 * k) < 18446744073709551616
    · rw [if_pos hf] at h
      by_cases hb : b.toNat < 128
      · rw [if_pos hb] at h
        by_cases hc : b.toNat ≠ 0 ∨ k = 0
        · rw [if_pos hc] at h
          simp only [Option.some.injEq, Prod.mk.injEq] at h
          refine ⟨b.toNat, ?_, ?_, ?_⟩
          · rw [← h.1, Nat.mod_eq_of_lt hb]
          · rw [numF_small hb, ← h.2, UInt8.ofNat_toNat]; rfl
          · intro h0; rcases hc with h1 | h1
            · exact h1
            · exact absurd h1 h0
        · rw [if_neg hc] at h; cases h
      · rw [if_neg hb] at h
        by_cases hk9 : k + 1 ≤ 9
        · obtain ⟨m, e1, e2, e3⟩ := rdNum_inv r (k + 1) _ n r' hk9 h
          have hm : m ≠ 0 := e3 (by omega)
          refine ⟨b.toNat % 128 + 128 * m, ?_, ?_, fun _ => by omega⟩
          · rw [e1, show 7 * (k + 1) = 7 * k + 7 by omega, Nat.pow_add, Nat.add_mul]
            rw [show m * (2 ^ (7 * k) * 2 ^ 7) = 128 * m * 2 ^ (7 * k) by rw [show (2 : Nat) ^ 7 = 128 by rfl, Nat.mul_comm (2 ^ (7 * k)) 128, ← Nat.mul_assoc, Nat.mul_comm m 128]]
            omega
          · rw [show 10 - k = (10 - (k + 1)) + 1 by omega, numF_big (by omega), e2]
            have h1 : (b.toNat % 128 + 128 * m) % 128 = b.toNat % 128 := by omega
            have h2 : (b.toNat % 128 + 128 * m) / 128 = m := by omega
            rw [h1, h2, show b.toNat % 128 + 128 = b.toNat by omega, UInt8.ofNat_toNat]; rfl
        · rw [rdNum_far r _ _ (by omega)] at h; cases h
    · rw [if_neg hf] at h; cases h
theorem num_inv {r r' : List UInt8} {n : Nat} (h : rdNum 0 0 r = some (n, r')) : r = num n ++ r' := by
  obtain ⟨m, h1, h2, _⟩ := rdNum_inv r 0 0 n r' (by decide) h
  have : n = m := by simpa using h1
  subst this; exact h2

/-- a reader that reads just what a writer writes -/
def Inv {α : Type} (f : List UInt8 → Option (α × List UInt8)) (g : α → List UInt8) : Prop := ∀ r y r', f r = some (y, r') → r = g y ++ r'

theorem zig_unzig {v : Nat} : zig (unzig v) = v := by
  unfold unzig zig; split
  · rw [if_pos (by omega)]; omega
  · rw [if_neg (by omega)]; omega
theorem unzig_fits {v : Nat} (h : v < 18446744073709551616) : -9223372036854775808 ≤ unzig v ∧ unzig v ≤ 9223372036854775807 := by
  unfold unzig; split <;> omega
theorem signed_inv : Inv rdSigned encSigned := by
  intro r y r' h
  unfold rdSigned at h
  cases hn : rdNum 0 0 r with
  | none => rw [hn] at h; cases h
  | some p =>
    obtain ⟨n, r1⟩ := p
    rw [hn] at h
    simp only [Option.map_some, Option.some.injEq, Prod.mk.injEq] at h
    rw [num_inv hn, ← h.1, ← h.2]
    unfold encSigned; rw [zig_unzig]
theorem whole_inv : Inv rdWhole encWhole := by
  intro r y r' h
  unfold rdWhole at h
  cases hn : rdNum 0 0 r with
  | none => rw [hn] at h; cases h
  | some p =>
    obtain ⟨n, r1⟩ := p
    rw [hn] at h
    simp only at h
    split at h
    · simp only [Option.some.injEq, Prod.mk.injEq] at h
      rw [num_inv hn, ← h.1, ← h.2]
      unfold encWhole; simp
    · cases h
theorem take_inv {n : Nat} {r y r' : List UInt8} (h : rdTake n r = some (y, r')) : r = y ++ r' ∧ y.length = n := by
  unfold rdTake at h
  split at h
  · simp only [Option.some.injEq, Prod.mk.injEq] at h
    rw [← h.1, ← h.2]
    exact ⟨(List.take_append_drop _ _).symm, by rw [List.length_take]; omega⟩
  · cases h
theorem text_inv : Inv rdText encText := by
  intro r y r' h
  unfold rdText at h
  cases hn : rdNum 0 0 r with
  | none => rw [hn] at h; cases h
  | some p =>
    obtain ⟨n, r1⟩ := p
    rw [hn] at h
    simp only at h
    obtain ⟨h1, h2⟩ := take_inv h
    rw [num_inv hn, h1]
    unfold encText; rw [h2, List.append_assoc]
theorem rdN_inv {α : Type} {f : List UInt8 → Option (α × List UInt8)} {g : α → List UInt8} (hf : Inv f g) : ∀ (n : Nat) (r : List UInt8) (ys : List α) (r' : List UInt8), rdN f n r = some (ys, r') → ys.length = n ∧ r = ys.flatMap g ++ r'
  | 0, r, ys, r', h => by
    simp only [rdN, Option.some.injEq, Prod.mk.injEq] at h
    rw [← h.1, ← h.2]; simp
  | n + 1, r, ys, r', h => by
    simp only [rdN] at h
    cases h1 : f r with
    | none => rw [h1] at h; cases h
    | some p =>
      obtain ⟨y, r1⟩ := p
      rw [h1] at h
      simp only at h
      cases h2 : rdN f n r1 with
      | none => rw [h2] at h; cases h
      | some q =>
        obtain ⟨zs, r2⟩ := q
        rw [h2] at h
        simp only [Option.some.injEq, Prod.mk.injEq] at h
        obtain ⟨e1, e2⟩ := rdN_inv hf n r1 zs r2 h2
        rw [← h.1, ← h.2, hf r y r1 h1, e2]
        simp [e1]
theorem list_inv {α : Type} {f : List UInt8 → Option (α × List UInt8)} {g : α → List UInt8} (hf : Inv f g) : Inv (rdList f) (encs g) := by
  intro r ys r' h
  unfold rdList at h
  cases hn : rdNum 0 0 r with
  | none => rw [hn] at h; cases h
  | some p =>
    obtain ⟨n, r1⟩ := p
    rw [hn] at h
    simp only at h
    split at h
    · obtain ⟨e1, e2⟩ := rdN_inv hf n r1 ys r' h
      rw [num_inv hn, e2]
      unfold encs; rw [e1, List.append_assoc]
    · cases h
theorem kinds_inv : Inv rdKinds encKinds := list_inv whole_inv
theorem ins_inv : Inv rdIns encIns := by
  intro r y r' h
  cases r with
  | nil => simp [rdIns, rdByte] at h
  | cons b r1 =>
    simp only [rdIns, rdByte] at h
    have hb : UInt8.ofNat ((b.toNat : Int)).toNat = b := by simp
    by_cases h1 : wB (b.toNat : Int) 0 20 = true
    · rw [if_pos h1] at h
      by_cases h2 : (b.toNat : Int) = 1
      · rw [if_pos h2] at h
        cases hs : rdSigned r1 with
        | none => rw [hs] at h; cases h
        | some p =>
          obtain ⟨v, r2⟩ := p
          rw [hs] at h
          simp only [Option.some.injEq, Prod.mk.injEq] at h
          rw [signed_inv r1 v r2 hs, ← h.1, ← h.2]
          unfold encIns; simp only [if_pos h2, hb]; rfl
      · rw [if_neg h2] at h
        rcases operandsN_cases (b.toNat : Int) with hN | hN | hN
        · rw [if_pos hN] at h
          simp only [Option.some.injEq, Prod.mk.injEq] at h
          rw [← h.1, ← h.2]
          unfold encIns; simp [if_neg h2, hN]
        · rw [if_neg (by omega)] at h
          cases hs : rdWhole r1 with
          | none => rw [hs] at h; cases h
          | some p =>
            obtain ⟨v, r2⟩ := p
            rw [hs] at h
            simp only [if_pos hN, Option.some.injEq, Prod.mk.injEq] at h
            rw [whole_inv r1 v r2 hs, ← h.1, ← h.2]
            unfold encIns encWhole; simp [if_neg h2, hN]
        · rw [if_neg (by omega)] at h
          cases hs : rdWhole r1 with
          | none => rw [hs] at h; cases h
          | some p =>
            obtain ⟨v, r2⟩ := p
            rw [hs] at h
            simp only [if_neg (show ¬ operandsN (b.toNat : Int) = 1 by omega)] at h
            cases hs2 : rdWhole r2 with
            | none => rw [hs2] at h; cases h
            | some q =>
              obtain ⟨u, r3⟩ := q
              rw [hs2] at h
              simp only [Option.some.injEq, Prod.mk.injEq] at h
              rw [whole_inv r1 v r2 hs, whole_inv r2 u r3 hs2, ← h.1, ← h.2]
              unfold encIns encWhole; simp [if_neg h2, hN]
    · rw [if_neg h1] at h; cases h
theorem func_inv : Inv rdFunc encFunc := by
  intro r y r' h
  unfold rdFunc at h
  cases h1 : rdKinds r with
  | none => rw [h1] at h; cases h
  | some p1 =>
    obtain ⟨ps, r1⟩ := p1
    rw [h1] at h; simp only at h
    cases h2 : rdKinds r1 with
    | none => rw [h2] at h; cases h
    | some p2 =>
      obtain ⟨ls, r2⟩ := p2
      rw [h2] at h; simp only at h
      cases h3 : rdWhole r2 with
      | none => rw [h3] at h; cases h
      | some p3 =>
        obtain ⟨res, r3⟩ := p3
        rw [h3] at h; simp only at h
        cases h4 : rdList rdIns r3 with
        | none => rw [h4] at h; cases h
        | some p4 =>
          obtain ⟨c, r4⟩ := p4
          rw [h4] at h
          simp only [Option.some.injEq, Prod.mk.injEq] at h
          rw [kinds_inv r ps r1 h1, kinds_inv r1 ls r2 h2, whole_inv r2 res r3 h3, list_inv ins_inv r3 c r4 h4, ← h.1, ← h.2]
          unfold encFunc encWhole; simp only [List.append_assoc]
theorem imp_inv : Inv rdImp encImp := by
  intro r y r' h
  unfold rdImp at h
  cases h1 : rdText r with
  | none => rw [h1] at h; cases h
  | some p1 =>
    obtain ⟨s, r1⟩ := p1
    rw [h1] at h; simp only at h
    cases h2 : rdKinds r1 with
    | none => rw [h2] at h; cases h
    | some p2 =>
      obtain ⟨ls, r2⟩ := p2
      rw [h2] at h; simp only at h
      cases h3 : rdWhole r2 with
      | none => rw [h3] at h; cases h
      | some p3 =>
        obtain ⟨res, r3⟩ := p3
        rw [h3] at h
        simp only [Option.some.injEq, Prod.mk.injEq] at h
        rw [text_inv r s r1 h1, kinds_inv r1 ls r2 h2, whole_inv r2 res r3 h3, ← h.1, ← h.2]
        unfold encImp encWhole; simp only [List.append_assoc]
theorem exp_inv : Inv rdExp encExp := by
  intro r y r' h
  unfold rdExp at h
  cases h1 : rdText r with
  | none => rw [h1] at h; cases h
  | some p1 =>
    obtain ⟨s, r1⟩ := p1
    rw [h1] at h; simp only at h
    cases h3 : rdWhole r1 with
    | none => rw [h3] at h; cases h
    | some p3 =>
      obtain ⟨res, r3⟩ := p3
      rw [h3] at h
      simp only [Option.some.injEq, Prod.mk.injEq] at h
      rw [text_inv r s r1 h1, whole_inv r1 res r3 h3, ← h.1, ← h.2]
      unfold encExp encWhole; simp only [List.append_assoc]
end Go.Proofs.YtkgncijcnlfhiaaDoor

