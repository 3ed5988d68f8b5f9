import Derived.Test.YtkgncijcnlfhiaaQ3
import Derived.Test.YtkgncijcnlfhiaaV6
import Derived.Test.YtkgncijcnlfhiaaE1
namespace Go.Proofs.Ytkgncijcnlfhiaa
set_option linter.unusedVariables false
set_option linter.unusedSimpArgs false
open Go.RowKit
attribute [local go_sem ↓] Go.wp_at_zero Go.wp_at_succ

theorem magic_eq (l : List UInt8) : (l == [75, 73, 76, 78, 1]) = decide (l = magic) := by rw [Bool.eq_iff_iff, beq_iff_eq, decide_eq_true_eq]; rfl

set_option maxRecDepth 100000 in
set_option maxHeartbeats 1000000 in
theorem hasPrefix_any (s : ByteArray) (w : World) (hs : s.size ≤ maxLen) :
    Calls Try.prog 59 #[.string s, .string ⟨#[75, 73, 76, 78, 1]⟩] w fun x w' => x = .returned (.bool (decide (s.data.toList.take 5 = magic))) ∧ w' = w := by
  unfold maxLen at hs
  by_cases h5 : 5 ≤ s.size
  · have hd : (5 : Int) ≤ (s.size : Int) := by omega
    have hd2 : decide ((5 : Int) ≤ (s.size : Int)) = true := by simpa using hd
    have hex := take_bytes s 5
    go_enter Try.func59, Try.ntmps59
    go_wp2
    go_ret
    exact ⟨by rw [← magic_eq]; rfl, rfl⟩
  · have hd2 : decide ((5 : Int) ≤ (s.size : Int)) = false := by rw [decide_eq_false_iff_not]; omega
    have hl : s.data.toList.length = s.size := by rw [Array.length_toList]; rfl
    go_enter Try.func59, Try.ntmps59
    go_wp2
    go_ret
    have hf : decide (s.data.toList.take 5 = magic) = false := by
      rw [decide_eq_false_iff_not]; intro h
      have := congrArg List.length h
      rw [List.length_take] at this
      have hm : magic.length = 5 := rfl
      omega
    exact ⟨by rw [hf]; rfl, rfl⟩

/-- how a section's reader ends -/
def SectR {α : Type} (sb : Nat) (t : List UInt8) (p B : Nat) (w : World) (R : Nat → World → Value → List α → Prop) : Option (List α × List UInt8) → Ending → World → Prop
  | some (y, r), x, w' => ∃ v, x = .returned (.tuple #[v, .agg #[.int .i64 2, .int .i64 0, .int .i64 (p : Int)]]) ∧ R B w' v y ∧ Sec w' sb t (t.length - r.length) ∧ Gc sb w w'
  | none, x, w' => x = .panicked (thrown 2 p) ∧ Gc sb w w'
def SaidSect (K fn : FuncId) (z : Int) (n : Nat) {α : Type} (R : Nat → World → Value → List α → Prop) (rd : List UInt8 → Option (List α × List UInt8)) : Prop :=
  ∀ (sb B : Nat) (t : List UInt8) (p : Nat) (w : World), Sec w sb t p → sb < B → B ≤ w.heap.size →
    Calls Try.prog K #[.pointer (some ⟨sb, 0, none⟩), .int .u8 z, .func (.func fn) #[] #[]] w (SectR sb t p B w R (rdSect n rd (t.drop p)))
structure Sections : Prop where
  s1 : SaidSect 38 39 1 1 RShapesF (rdList rdKinds)
  s2 : SaidSect 41 42 2 2 RIntsF (rdList rdSigned)
  s3 : SaidSect 44 45 3 3 RFuncsF (rdList rdFunc)
  s4 : SaidSect 47 48 4 4 RImportsF (rdList rdImp)
  s5 : SaidSect 50 51 5 5 RExportsF (rdList rdExp)

def dec5 (t : List UInt8) (sh : List (List Int)) (cs : List Int) (fs : List PFunc) (im : List PImp) (r4 : List UInt8) : PUnit ⊕ (Int × Nat) := match rdSect 5 (rdList rdExp) r4 with
  | none => .inr (2, pl t r4)
  | some (ex, r5) => if exportsOk ex fs.length = false then .inr (2, pl t r4) else if r5 = [] then .inl ⟨sh, cs, fs, im, ex⟩ else .inr (2, pl t r5)
def dec4 (t : List UInt8) (sh : List (List Int)) (cs : List Int) (fs : List PFunc) (r3 : List UInt8) : PUnit ⊕ (Int × Nat) := match rdSect 4 (rdList rdImp) r3 with
  | none => .inr (2, pl t r3)
  | some (im, r4) => if importsOk im sh.length = false then .inr (2, pl t r3) else dec5 t sh cs fs im r4
def dec3 (t : List UInt8) (sh : List (List Int)) (cs : List Int) (r2 : List UInt8) : PUnit ⊕ (Int × Nat) := match rdSect 3 (rdList rdFunc) r2 with
  | none => .inr (2, pl t r2)
  | some (fs, r3) => if funcsOk fs sh.length = false then .inr (2, pl t r2) else dec4 t sh cs fs r3
def dec2 (t : List UInt8) (sh : List (List Int)) (r1 : List UInt8) : PUnit ⊕ (Int × Nat) := match rdSect 2 (rdList rdSigned) r1 with
  | none => .inr (2, pl t r1)
  | some (cs, r2) => if constsOk cs = false then .inr (2, pl t r1) else dec3 t sh cs r2
theorem dec_head {t : List UInt8} (h1 : ¬ 20000 < t.length) (h2 : t.take 5 = magic) : dec t = match rdSect 1 (rdList rdKinds) (t.drop 5) with
    | none => .inr (2, 5)
    | some (sh, r1) => if shapesOk sh = false then .inr (2, 5) else dec2 t sh r1 := by
  unfold dec; rw [if_neg h1, if_neg (fun h => h h2)]; rfl
theorem drop_pl {t x r : List UInt8} {p : Nat} (h : t.drop p = x ++ r) : t.drop (pl t r) = r := by
  have e : r = t.drop (p + x.length) := by rw [← List.drop_drop, h]; simp
  unfold pl
  by_cases hp : p + x.length ≤ t.length
  · have hl : r.length = t.length - (p + x.length) := by rw [e, List.length_drop]
    rw [hl, show t.length - (t.length - (p + x.length)) = p + x.length by omega]; exact e.symm
  · have hr : r = [] := by rw [e]; exact List.drop_eq_nil_of_le (by omega)
    rw [hr]; simp
theorem rdSect_suffix {α : Type} {n : Nat} {f : List UInt8 → Option (List α × List UInt8)} {r r' : List UInt8} {y : List α} (h : rdSect n f r = some (y, r')) : ∃ x, r = x ++ r' := by
  unfold rdSect at h
  cases ho : rdOpen n r with
  | none => rw [ho] at h; cases h
  | some p =>
    obtain ⟨b, r1⟩ := p
    rw [ho] at h
    simp only at h
    cases hb : rdBody f b with
    | none => rw [hb] at h; cases h
    | some z =>
      rw [hb] at h
      simp only [Option.some.injEq, Prod.mk.injEq] at h
      rw [← h.2]; exact ⟨_, open_inv ho⟩
/-- a unit in new memory: all its blocks from B on -/
def RUnitF (B : Nat) (w : World) (v : Value) (u : PUnit) : Prop :=
  ∃ v1 v2 v3 v4 v5, v = .agg #[v1, v2, v3, v4, v5] ∧ RShapesF B w v1 u.shapes ∧ RIntsF B w v2 u.consts ∧ RFuncsF B w v3 u.funcs ∧ RImportsF B w v4 u.imports ∧ RExportsF B w v5 u.exports
theorem RUnitF.to {B : Nat} {w : World} {v : Value} {u : PUnit} (h : RUnitF B w v u) : RUnit w v u := by
  obtain ⟨v1, v2, v3, v4, v5, h, h1, h2, h3, h4, h5⟩ := h
  exact ⟨v1, v2, v3, v4, v5, h, h1.to, h2.to, h3.to, h4.to, h5.to⟩
theorem RUnitF.kp {B : Nat} {w w' : World} {v : Value} {u : PUnit} (h : RUnitF B w v u) (g : Kp B w w') : RUnitF B w' v u := by
  obtain ⟨v1, v2, v3, v4, v5, h, h1, h2, h3, h4, h5⟩ := h
  exact ⟨v1, v2, v3, v4, v5, h, h1.kp g, h2.kp g, h3.kp g, h4.kp g, h5.kp g⟩
def ReadR (w : World) : PUnit ⊕ (Int × Nat) → Ending → World → Prop
  | .inl u, x, w' => ∃ v B, x = .returned v ∧ w.heap.size ≤ B ∧ RUnitF B w' v u ∧ Gr w w'
  | .inr (e, p), x, w' => x = .panicked (thrown e p) ∧ Gr w w'
end Go.Proofs.Ytkgncijcnlfhiaa
