import Derived.Test.YtkgncijcnlfhiabGreatB5
namespace Go.Proofs.YtkgncijcnlfhiabGreat
set_option linter.unusedVariables false
set_option linter.unusedSimpArgs false
open Go.RowKit

set_option maxHeartbeats 1000000 in
theorem list_func (W : World) (v : Value) (l : List UInt8) (xs : List PFunc) (vx : Value) (w : World) (hR : RFuncs W vx xs) (hneed : ∀ x ∈ xs, FuncFit x) (hw : Wr W w v l) (hlen : (l ++ encs encFunc xs).length ≤ 10000000) :
    Calls Tryz.prog 39 #[v, vx, .func (.func 40) #[] #[]] w fun x w' => ∃ v', x = .returned v' ∧ App W.heap.size w v w' v' (l ++ encs encFunc xs) := by
  obtain ⟨ao, cap, rfl, hm, hc⟩ := hR
  unfold maxLen at hm
  have HC := hide hc
  clear hc
  have hl1 : l.length ≤ 10000000 := by simp only [List.length_append] at hlen; omega
  have HLen := hide hlen
  clear hlen
  go_enter Tryz.func39, Tryz.ntmps39
  go_wp2_with (go_at_call 65; refine (whole_any W _ l xs.length _ (by omega) (by omega) (by exact hw) hl1).mono ?_; rintro e w1 ⟨v1, rfl, happ⟩; rw [Int.toNat_natCast] at happ; have hw1 := hw.app happ)
  have H1 := hide happ
  clear happ
  go_loopw [0, 15] (fun vo i wr => ∃ k : Nat, k ≤ xs.length ∧ i = .int .i64 k ∧ App W.heap.size w v wr vo (l ++ encTo encFunc xs k)) (fun _ i _ => xs.length - (intOf i).toNat)
  case atStart => exact ⟨0, Nat.zero_le _, rfl, by rw [encTo_zero]; exact H1.out⟩
  case round =>
    obtain ⟨k, hk, rfl, happ⟩ := hrel
    have hwr := hw.app happ
    have H2 := hide happ
    clear happ hw1
    by_cases hlt : k < xs.length
    · obtain ⟨x, hx⟩ := getElem?_lt hlt
      obtain ⟨b, off, vp, vl, vc, hao, hc0, hc1, hc2, hc3, hRp, hRl, hRc⟩ := HC.out k x hx
      subst hao
      have hc0' := below_cell hwr.low hc0
      have hc1' := below_cell hwr.low hc1
      have hc2' := below_cell hwr.low hc2
      have hc3' := below_cell hwr.low hc3
      have HNX := hide (hneed x (List.mem_of_getElem? hx))
      have HP := hide hRp
      have HL := hide hRl
      have HCC := hide hRc
      obtain ⟨ap, cp, rfl⟩ := hRp.shape
      obtain ⟨al, cl, rfl⟩ := hRl.shape
      obtain ⟨ac, cc, rfl⟩ := hRc.shape
      clear hc0 hc1 hc2 hc3 hRp hRl hRc
      have HX := hide hx
      clear hx
      go_wp2_with (go_at_call 40; refine (func_write W _ _ x _ _ _ _ HP.out HL.out HCC.out HNX.out (by exact hwr.gr (World.grownBy_alloc _ _ none)) (encTo_bd2 HX.out HLen.out)).mono ?_; rintro e w2 ⟨v2, rfl, happ2⟩)
      have H3 := hide happ2
      clear happ2
      go_roundw
      case rel => exact ⟨k + 1, by omega, by go_num, by rw [encTo_succ HX.out, ← List.append_assoc]; exact H2.out.trans (App.gr (World.grownBy_alloc _ _ none) H3.out)⟩
      case measure => simp [intOf]; omega
    · go_wp2
      go_ret
      refine ⟨_, rfl, ?_⟩
      rw [encs_end hlt]
      exact H2.out

set_option maxHeartbeats 1000000 in
theorem list_imp (W : World) (v : Value) (l : List UInt8) (xs : List PImp) (vx : Value) (w : World) (hR : RImports W vx xs) (hneed : ∀ x ∈ xs, ImpFit x) (hw : Wr W w v l) (hlen : (l ++ encs encImp xs).length ≤ 10000000) :
    Calls Tryz.prog 41 #[v, vx, .func (.func 42) #[] #[]] w fun x w' => ∃ v', x = .returned v' ∧ App W.heap.size w v w' v' (l ++ encs encImp xs) := by
  obtain ⟨ao, cap, rfl, hm, hc⟩ := hR
  unfold maxLen at hm
  have HC := hide hc
  clear hc
  have hl1 : l.length ≤ 10000000 := by simp only [List.length_append] at hlen; omega
  have HLen := hide hlen
  clear hlen
  go_enter Tryz.func41, Tryz.ntmps41
  go_wp2_with (go_at_call 65; refine (whole_any W _ l xs.length _ (by omega) (by omega) (by exact hw) hl1).mono ?_; rintro e w1 ⟨v1, rfl, happ⟩; rw [Int.toNat_natCast] at happ; have hw1 := hw.app happ)
  have H1 := hide happ
  clear happ
  go_loopw [0, 15] (fun vo i wr => ∃ k : Nat, k ≤ xs.length ∧ i = .int .i64 k ∧ App W.heap.size w v wr vo (l ++ encTo encImp xs k)) (fun _ i _ => xs.length - (intOf i).toNat)
  case atStart => exact ⟨0, Nat.zero_le _, rfl, by rw [encTo_zero]; exact H1.out⟩
  case round =>
    obtain ⟨k, hk, rfl, happ⟩ := hrel
    have hwr := hw.app happ
    have H2 := hide happ
    clear happ hw1
    by_cases hlt : k < xs.length
    · obtain ⟨x, hx⟩ := getElem?_lt hlt
      obtain ⟨b, off, vs, vp, hao, hc0, hc1, hc2, hRs, hRp⟩ := HC.out k x hx
      subst hao
      have hc0' := below_cell hwr.low hc0
      have hc1' := below_cell hwr.low hc1
      have hc2' := below_cell hwr.low hc2
      have HNX := hide (hneed x (List.mem_of_getElem? hx))
      have HP := hide hRp
      have HS := hide hRs
      obtain ⟨ap, cp, rfl⟩ := hRp.shape
      obtain ⟨s, rfl, hsl, hsm⟩ := hRs
      clear hc0 hc1 hc2 hRp hsl hsm
      have HX := hide hx
      clear hx
      go_wp2_with (go_at_call 42; refine (imp_write W _ _ x _ _ _ HS.out HP.out HNX.out (by exact hwr.gr (World.grownBy_alloc _ _ none)) (encTo_bd2 HX.out HLen.out)).mono ?_; rintro e w2 ⟨v2, rfl, happ2⟩)
      have H3 := hide happ2
      clear happ2
      go_roundw
      case rel => exact ⟨k + 1, by omega, by go_num, by rw [encTo_succ HX.out, ← List.append_assoc]; exact H2.out.trans (App.gr (World.grownBy_alloc _ _ none) H3.out)⟩
      case measure => simp [intOf]; omega
    · go_wp2
      go_ret
      refine ⟨_, rfl, ?_⟩
      rw [encs_end hlt]
      exact H2.out

set_option maxHeartbeats 1000000 in
theorem list_exp (W : World) (v : Value) (l : List UInt8) (xs : List PExp) (vx : Value) (w : World) (hR : RExports W vx xs) (hneed : ∀ x ∈ xs, ExpFit x) (hw : Wr W w v l) (hlen : (l ++ encs encExp xs).length ≤ 10000000) :
    Calls Tryz.prog 43 #[v, vx, .func (.func 44) #[] #[]] w fun x w' => ∃ v', x = .returned v' ∧ App W.heap.size w v w' v' (l ++ encs encExp xs) := by
  obtain ⟨ao, cap, rfl, hm, hc⟩ := hR
  unfold maxLen at hm
  have HC := hide hc
  clear hc
  have hl1 : l.length ≤ 10000000 := by simp only [List.length_append] at hlen; omega
  have HLen := hide hlen
  clear hlen
  go_enter Tryz.func43, Tryz.ntmps43
  go_wp2_with (go_at_call 65; refine (whole_any W _ l xs.length _ (by omega) (by omega) (by exact hw) hl1).mono ?_; rintro e w1 ⟨v1, rfl, happ⟩; rw [Int.toNat_natCast] at happ; have hw1 := hw.app happ)
  have H1 := hide happ
  clear happ
  go_loopw [0, 15] (fun vo i wr => ∃ k : Nat, k ≤ xs.length ∧ i = .int .i64 k ∧ App W.heap.size w v wr vo (l ++ encTo encExp xs k)) (fun _ i _ => xs.length - (intOf i).toNat)
  case atStart => exact ⟨0, Nat.zero_le _, rfl, by rw [encTo_zero]; exact H1.out⟩
  case round =>
    obtain ⟨k, hk, rfl, happ⟩ := hrel
    have hwr := hw.app happ
    have H2 := hide happ
    clear happ hw1
    by_cases hlt : k < xs.length
    · obtain ⟨x, hx⟩ := getElem?_lt hlt
      obtain ⟨b, off, vs, hao, hc0, hc1, hRs⟩ := HC.out k x hx
      subst hao
      have hc0' := below_cell hwr.low hc0
      have hc1' := below_cell hwr.low hc1
      have HNX := hide (hneed x (List.mem_of_getElem? hx))
      have HS := hide hRs
      obtain ⟨s, rfl, hsl, hsm⟩ := hRs
      clear hc0 hc1 hsl hsm
      have HX := hide hx
      clear hx
      go_wp2_with (go_at_call 44; refine (exp_write W _ _ x _ _ HS.out HNX.out (by exact hwr.gr (World.grownBy_alloc _ _ none)) (encTo_bd2 HX.out HLen.out)).mono ?_; rintro e w2 ⟨v2, rfl, happ2⟩)
      have H3 := hide happ2
      clear happ2
      go_roundw
      case rel => exact ⟨k + 1, by omega, by go_num, by rw [encTo_succ HX.out, ← List.append_assoc]; exact H2.out.trans (App.gr (World.grownBy_alloc _ _ none) H3.out)⟩
      case measure => simp [intOf]; omega
    · go_wp2
      go_ret
      refine ⟨_, rfl, ?_⟩
      rw [encs_end hlt]
      exact H2.out

set_option maxHeartbeats 1000000 in
theorem list_shape (W : World) (v : Value) (l : List UInt8) (xs : List (List Int)) (vx : Value) (w : World) (hR : RShapes W vx xs) (hneed : ∀ x ∈ xs, ∀ y ∈ x, 0 ≤ y ∧ y ≤ 9223372036854775807) (hw : Wr W w v l) (hlen : (l ++ encs encKinds xs).length ≤ 10000000) :
    Calls Tryz.prog 35 #[v, vx, .func (.func 36) #[] #[]] w fun x w' => ∃ v', x = .returned v' ∧ App W.heap.size w v w' v' (l ++ encs encKinds xs) := by
  obtain ⟨ao, cap, rfl, hm, hc⟩ := hR
  unfold maxLen at hm
  have HC := hide hc
  clear hc
  have hl1 : l.length ≤ 10000000 := by simp only [List.length_append] at hlen; omega
  have HLen := hide hlen
  clear hlen
  go_enter Tryz.func35, Tryz.ntmps35
  go_wp2_with (go_at_call 65; refine (whole_any W _ l xs.length _ (by omega) (by omega) (by exact hw) hl1).mono ?_; rintro e w1 ⟨v1, rfl, happ⟩; rw [Int.toNat_natCast] at happ; have hw1 := hw.app happ)
  have H1 := hide happ
  clear happ
  go_loopw [0, 15] (fun vo i wr => ∃ k : Nat, k ≤ xs.length ∧ i = .int .i64 k ∧ App W.heap.size w v wr vo (l ++ encTo encKinds xs k)) (fun _ i _ => xs.length - (intOf i).toNat)
  case atStart => exact ⟨0, Nat.zero_le _, rfl, by rw [encTo_zero]; exact H1.out⟩
  case round =>
    obtain ⟨k, hk, rfl, happ⟩ := hrel
    have hwr := hw.app happ
    have H2 := hide happ
    clear happ hw1
    by_cases hlt : k < xs.length
    · obtain ⟨x, hx⟩ := getElem?_lt hlt
      obtain ⟨b, off, vk, hao, hc0, hRp⟩ := HC.out k x hx
      subst hao
      have hc0' := below_cell hwr.low hc0
      have HNX := hide (hneed x (List.mem_of_getElem? hx))
      have HP := hide hRp
      clear hc0 hRp
      have HX := hide hx
      clear hx
      go_wp2_with (go_at_call 36; refine (kinds_write W _ _ x _ _ HP.out HNX.out (by exact hwr) (encTo_bd2 HX.out HLen.out)).mono ?_; rintro e w2 ⟨v2, rfl, happ2⟩)
      have H3 := hide happ2
      clear happ2
      go_roundw
      case rel => exact ⟨k + 1, by omega, by go_num, by rw [encTo_succ HX.out, ← List.append_assoc]; exact H2.out.trans H3.out⟩
      case measure => simp [intOf]; omega
    · go_wp2
      go_ret
      refine ⟨_, rfl, ?_⟩
      rw [encs_end hlt]
      exact H2.out
end Go.Proofs.YtkgncijcnlfhiabGreat

namespace Go.Proofs.YtkgncijcnlfhiabGreat
set_option linter.unusedVariables false
set_option linter.unusedSimpArgs false

def magic : List UInt8 := [75, 73, 76, 78, 1]
def body1 (u : PUnit) : List UInt8 := encs encKinds u.shapes
def body2 (u : PUnit) : List UInt8 := encs encSigned u.consts
def body3 (u : PUnit) : List UInt8 := encs encFunc u.funcs
def body4 (u : PUnit) : List UInt8 := encs encImp u.imports
def body5 (u : PUnit) : List UInt8 := encs encExp u.exports
def enc1 (u : PUnit) : List UInt8 := magic ++ sect 1 (body1 u)
def enc2 (u : PUnit) : List UInt8 := enc1 u ++ sect 2 (body2 u)
def enc3 (u : PUnit) : List UInt8 := enc2 u ++ sect 3 (body3 u)
def enc4 (u : PUnit) : List UInt8 := enc3 u ++ sect 4 (body4 u)
def enc (u : PUnit) : List UInt8 := enc4 u ++ sect 5 (body5 u)
/-- its numbers have room in 64 bits -/
def Fits (u : PUnit) : Prop := ∀ x ∈ u.consts, -9223372036854775808 ≤ x ∧ x ≤ 9223372036854775807

theorem flat_len {α : Type} {f : α → List UInt8} {B : Nat} : ∀ {xs : List α}, (∀ x ∈ xs, (f x).length ≤ B) → (xs.flatMap f).length ≤ xs.length * B
  | [], _ => by simp
  | x :: xs, h => by
    have h1 := h x (by simp)
    have h2 := flat_len (xs := xs) fun y hy => h y (by simp [hy])
    simp only [List.flatMap_cons, List.length_append, List.length_cons, Nat.add_mul]; omega
theorem encs_len {α : Type} {f : α → List UInt8} {B N : Nat} {xs : List α} (h : ∀ x ∈ xs, (f x).length ≤ B) (hN : xs.length ≤ N) : (encs f xs).length ≤ 11 + N * B := by
  have h1 := num_len xs.length
  have h2 := flat_len h
  have h3 : xs.length * B ≤ N * B := Nat.mul_le_mul_right B hN
  unfold encs; rw [List.length_append]; omega
theorem encs_pos {α : Type} {f : α → List UInt8} {xs : List α} : 1 ≤ (encs f xs).length := by
  have := (numF_len 10 xs.length).2
  unfold encs num; rw [List.length_append]; omega
theorem encKinds_len {l : List Int} {N : Nat} (h : l.length ≤ N) : (encKinds l).length ≤ 11 + N * 11 := encs_len (fun x _ => num_len _) h
theorem encIns_len (i : PIns) : (encIns i).length ≤ 23 := by
  have h1 := num_len (zig i.a); have h2 := num_len i.a.toNat; have h3 := num_len i.b.toNat
  unfold encIns; rw [List.length_cons]
  split
  · omega
  · rw [List.length_append]; split <;> split <;> simp <;> omega

theorem wB_iff {v l m : Int} : wB v l m = true ↔ l ≤ v ∧ v ≤ m := by simp [wB]
theorem inB_all {n : Int} {l : List Int} (h : l.all (inB n) = true) (hn : n ≤ 1000) : ∀ x ∈ l, 0 ≤ x ∧ x ≤ 9223372036854775807 := by
  intro x hx
  have := List.all_eq_true.1 h x hx
  simp only [inB, wB, decide_eq_true_eq] at this; omega

structure Room (u : PUnit) : Prop where
  b1 : (body1 u).length ≤ 1000000
  b2 : (body2 u).length ≤ 1000000
  b3 : (body3 u).length ≤ 1000000
  b4 : (body4 u).length ≤ 1000000
  b5 : (body5 u).length ≤ 1000000
  f1 : ∀ x ∈ u.shapes, ∀ y ∈ x, 0 ≤ y ∧ y ≤ 9223372036854775807
  f3 : ∀ x ∈ u.funcs, FuncFit x
  f4 : ∀ x ∈ u.imports, ImpFit x
  f5 : ∀ x ∈ u.exports, ExpFit x

theorem funcOk_room {n : Int} {f : PFunc} (hn : n ≤ 1000) (h : funcOk n f = true) : FuncFit f ∧ (encFunc f).length ≤ 5000 := by
  simp only [funcOk, sigOk, codeOk, Bool.and_eq_true] at h
  obtain ⟨⟨h1, h2, h3⟩, h4, h5, h6, h7⟩ := h
  simp only [wB_iff, inB] at h1 h3 h4 h6
  refine ⟨⟨inB_all h2 hn, ⟨h3.1, by omega⟩, inB_all h5 hn, fun i hi => List.all_eq_true.1 h7 i hi⟩, ?_⟩
  have a1 := encKinds_len (l := f.params) (N := 6) (by omega)
  have a2 := encKinds_len (l := f.locals) (N := 10) (by omega)
  have a3 := num_len f.result.toNat
  have a4 := encs_len (f := encIns) (B := 23) (N := 200) (xs := f.code) (fun x _ => encIns_len x) (by omega)
  unfold encFunc; simp only [List.length_append]; omega
theorem impOk_room {n : Int} {f : PImp} (hn : n ≤ 1000) (h : impOk n f = true) : ImpFit f ∧ (encImp f).length ≤ 5000 := by
  simp only [impOk, sigOk, nameOk, Bool.and_eq_true] at h
  obtain ⟨h0, h1, h2, h3⟩ := h
  simp only [wB_iff, inB] at h0 h1 h3
  refine ⟨⟨by omega, inB_all h2 hn, ⟨h3.1, by omega⟩⟩, ?_⟩
  have a1 := encKinds_len (l := f.params) (N := 6) (by omega)
  have a3 := num_len f.result.toNat
  have a4 := num_len f.name.length
  unfold encImp encText; simp only [List.length_append]; omega
theorem expOk_room {n : Int} {f : PExp} (hn : n ≤ 1000) (h : expOk n f = true) : ExpFit f ∧ (encExp f).length ≤ 5000 := by
  simp only [expOk, nameOk, Bool.and_eq_true] at h
  obtain ⟨h0, h1⟩ := h
  simp only [wB_iff] at h0 h1
  refine ⟨⟨by omega, ⟨h1.1, by omega⟩⟩, ?_⟩
  have a3 := num_len f.func.toNat
  have a4 := num_len f.name.length
  unfold encExp encText; simp only [List.length_append]; omega

theorem unitOk_room {u : PUnit} (h : unitOk u = true) : Room u := by
  simp only [unitOk, shapesOk, constsOk, funcsOk, importsOk, exportsOk, Bool.and_eq_true] at h
  obtain ⟨⟨s1, s2⟩, c1, ⟨f1, f2⟩, ⟨i1, i2⟩, e1, e2⟩ := h
  simp only [wB_iff] at s1 c1 f1 i1 e1
  have S : ∀ x ∈ u.shapes, shapeOk u.shapes.length x = true := fun x hx => List.all_eq_true.1 s2 x hx
  have F : ∀ x ∈ u.funcs, FuncFit x ∧ (encFunc x).length ≤ 5000 := fun x hx => funcOk_room (by omega) (List.all_eq_true.1 f2 x hx)
  have I : ∀ x ∈ u.imports, ImpFit x ∧ (encImp x).length ≤ 5000 := fun x hx => impOk_room (by omega) (List.all_eq_true.1 i2 x hx)
  have E : ∀ x ∈ u.exports, ExpFit x ∧ (encExp x).length ≤ 5000 := fun x hx => expOk_room (by omega) (List.all_eq_true.1 e2 x hx)
  have S1 : ∀ x ∈ u.shapes, x.length ≤ 8 ∧ ∀ y ∈ x, 0 ≤ y ∧ y ≤ 9223372036854775807 := by
    intro x hx
    have := S x hx
    simp only [shapeOk, Bool.and_eq_true, wB_iff] at this
    exact ⟨by omega, inB_all this.2 (by omega)⟩
  refine ⟨?_, ?_, ?_, ?_, ?_, fun x hx => (S1 x hx).2, fun x hx => (F x hx).1, fun x hx => (I x hx).1, fun x hx => (E x hx).1⟩
  · have := encs_len (f := encKinds) (B := 99) (N := 20) (xs := u.shapes) (fun x hx => encKinds_len (S1 x hx).1) (by omega)
    unfold body1; omega
  · have := encs_len (f := encSigned) (B := 11) (N := 50) (xs := u.consts) (fun x hx => num_len _) (by omega)
    unfold body2; omega
  · have := encs_len (N := 30) (fun x hx => (F x hx).2) (by omega)
    unfold body3; omega
  · have := encs_len (N := 20) (fun x hx => (I x hx).2) (by omega)
    unfold body4; omega
  · have := encs_len (N := 20) (fun x hx => (E x hx).2) (by omega)
    unfold body5; omega
end Go.Proofs.YtkgncijcnlfhiabGreat

