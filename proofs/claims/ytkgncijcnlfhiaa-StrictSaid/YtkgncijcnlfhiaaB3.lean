import Derived.Test.YtkgncijcnlfhiaaB2
namespace Go.Proofs.Ytkgncijcnlfhiaa
set_option linter.unusedVariables false
set_option linter.unusedSimpArgs false
open Go.RowKit

theorem RShapes.below {W w : World} {v : Value} {l : List (List Int)} (h : RShapes W v l) (g : Below W.heap.size W w) : RShapes w v l := by
  obtain ⟨ao, cap, hv, hm, hc⟩ := h
  refine ⟨ao, cap, hv, hm, fun i x hi => ?_⟩
  obtain ⟨b, off, vx, h1, h2, h3⟩ := hc i x hi
  exact ⟨b, off, vx, h1, below_cell g h2, h3.below g⟩
theorem RCode.below {W w : World} {v : Value} {l : List PIns} (h : RCode W v l) (g : Below W.heap.size W w) : RCode w v l := by
  obtain ⟨ao, cap, hv, hm, hc⟩ := h
  refine ⟨ao, cap, hv, hm, fun i x hi => ?_⟩
  obtain ⟨b, off, h1, h2, h3, h4⟩ := hc i x hi
  exact ⟨b, off, h1, below_cell g h2, below_cell g h3, below_cell g h4⟩
theorem RFuncs.below {W w : World} {v : Value} {l : List PFunc} (h : RFuncs W v l) (g : Below W.heap.size W w) : RFuncs w v l := by
  obtain ⟨ao, cap, hv, hm, hc⟩ := h
  refine ⟨ao, cap, hv, hm, fun i x hi => ?_⟩
  obtain ⟨b, off, vp, vl, vc, h1, h2, h3, h4, h5, h6, h7, h8⟩ := hc i x hi
  exact ⟨b, off, vp, vl, vc, h1, below_cell g h2, below_cell g h3, below_cell g h4, below_cell g h5, h6.below g, h7.below g, h8.below g⟩
theorem RImports.below {W w : World} {v : Value} {l : List PImp} (h : RImports W v l) (g : Below W.heap.size W w) : RImports w v l := by
  obtain ⟨ao, cap, hv, hm, hc⟩ := h
  refine ⟨ao, cap, hv, hm, fun i x hi => ?_⟩
  obtain ⟨b, off, vs, vp, h1, h2, h3, h4, h5, h6⟩ := hc i x hi
  exact ⟨b, off, vs, vp, h1, below_cell g h2, below_cell g h3, below_cell g h4, h5, h6.below g⟩
theorem RExports.below {W w : World} {v : Value} {l : List PExp} (h : RExports W v l) (g : Below W.heap.size W w) : RExports w v l := by
  obtain ⟨ao, cap, hv, hm, hc⟩ := h
  refine ⟨ao, cap, hv, hm, fun i x hi => ?_⟩
  obtain ⟨b, off, vs, h1, h2, h3, h4⟩ := hc i x hi
  exact ⟨b, off, vs, h1, below_cell g h2, below_cell g h3, h4⟩

/-- lists in bytes -/
def encs {α : Type} (f : α → List UInt8) (xs : List α) : List UInt8 := num xs.length ++ xs.flatMap f
def encTo {α : Type} (f : α → List UInt8) (xs : List α) (k : Nat) : List UInt8 := num xs.length ++ (xs.take k).flatMap f
theorem encTo_zero {α : Type} (f : α → List UInt8) (xs : List α) : encTo f xs 0 = num xs.length := by simp [encTo]
theorem encTo_succ {α : Type} {f : α → List UInt8} {xs : List α} {k : Nat} {x : α} (h : xs[k]? = some x) : encTo f xs (k + 1) = encTo f xs k ++ f x := by
  obtain ⟨hk, rfl⟩ := List.getElem?_eq_some_iff.1 h
  unfold encTo
  rw [List.take_succ_eq_append_getElem hk, List.flatMap_append, List.append_assoc]; simp
theorem encs_end {α : Type} {f : α → List UInt8} {xs : List α} {k : Nat} (h : ¬ k < xs.length) : encs f xs = encTo f xs k := by
  unfold encs encTo; rw [List.take_of_length_le (by omega)]
theorem encTo_le {α : Type} (f : α → List UInt8) (xs : List α) (k : Nat) : (encTo f xs k).length ≤ (encs f xs).length := by
  have e : xs.flatMap f = (xs.take k).flatMap f ++ (xs.drop k).flatMap f := by rw [← List.flatMap_append, List.take_append_drop]
  unfold encs encTo; rw [e]; simp only [List.length_append]; omega
theorem encTo_bd {α : Type} {f : α → List UInt8} {xs : List α} {l : List UInt8} (k : Nat) (h : (l ++ encs f xs).length ≤ 10000000) : (l ++ encTo f xs k).length ≤ 10000000 := by
  have := encTo_le f xs k
  simp only [List.length_append] at h ⊢; omega
theorem encTo_bd2 {α : Type} {f : α → List UInt8} {xs : List α} {l : List UInt8} {k : Nat} {x : α} (hx : xs[k]? = some x) (h : (l ++ encs f xs).length ≤ 10000000) : ((l ++ encTo f xs k) ++ f x).length ≤ 10000000 := by
  have := encTo_bd (k + 1) h
  rwa [encTo_succ hx, ← List.append_assoc] at this

def encWhole (x : Int) : List UInt8 := num x.toNat
def encSigned (x : Int) : List UInt8 := num (zig x)
def encKinds (l : List Int) : List UInt8 := encs encWhole l
def encIns (i : PIns) : List UInt8 :=
  UInt8.ofNat i.op.toNat :: (if i.op = 1 then num (zig i.a) else (if 1 ≤ operandsN i.op then num i.a.toNat else []) ++ (if 2 ≤ operandsN i.op then num i.b.toNat else []))
def encFunc (f : PFunc) : List UInt8 := encKinds f.params ++ (encKinds f.locals ++ (num f.result.toNat ++ encs encIns f.code))
def encText (s : List UInt8) : List UInt8 := num s.length ++ s
def encImp (i : PImp) : List UInt8 := encText i.name ++ (encKinds i.params ++ num i.result.toNat)
def encExp (e : PExp) : List UInt8 := encText e.name ++ num e.func.toNat

set_option maxHeartbeats 1000000 in
theorem list_whole (W : World) (v : Value) (l : List UInt8) (xs : List Int) (vx : Value) (w : World) (hR : RInts W vx xs) (hneed : ∀ x ∈ xs, 0 ≤ x ∧ x ≤ 9223372036854775807) (hw : Wr W w v l) (hlen : (l ++ encs encWhole xs).length ≤ 10000000) :
    Calls Try.prog 28 #[v, vx, .func (.func 55) #[] #[]] w fun x w' => ∃ v', x = .returned v' ∧ App W.heap.size w v w' v' (l ++ encs encWhole xs) := by
  obtain ⟨ao, cap, rfl, hm, hc⟩ := hR
  unfold maxLen at hm
  have HC := hide hc
  clear hc
  have hl1 : l.length ≤ 10000000 := by simp only [List.length_append] at hlen; omega
  have HLen := hide hlen
  clear hlen
  go_enter Try.func28, Try.ntmps28
  go_wp2_with (go_at_call 55; refine (whole_any W _ l xs.length _ (by omega) (by omega) (by exact hw) hl1).mono ?_; rintro e w1 ⟨v1, rfl, happ⟩; rw [Int.toNat_natCast] at happ; have hw1 := hw.app happ)
  have H1 := hide happ
  clear happ
  go_loopw [0, 15] (fun vo i wr => ∃ k : Nat, k ≤ xs.length ∧ i = .int .i64 k ∧ App W.heap.size w v wr vo (l ++ encTo encWhole xs k)) (fun _ i _ => xs.length - (intOf i).toNat)
  case atStart => exact ⟨0, Nat.zero_le _, rfl, by rw [encTo_zero]; exact H1.out⟩
  case round =>
    obtain ⟨k, hk, rfl, happ⟩ := hrel
    have hwr := hw.app happ
    have H2 := hide happ
    clear happ hw1
    by_cases hlt : k < xs.length
    · obtain ⟨x, hx⟩ := getElem?_lt hlt
      obtain ⟨b, off, hao, hcell⟩ := HC.out k hlt
      subst hao
      rw [List.getD_eq_getElem?_getD, hx] at hcell
      simp only [Option.getD_some] at hcell
      have hcell' := below_cell hwr.low hcell
      have hnx := hneed x (List.mem_of_getElem? hx)
      clear hcell
      have HX := hide hx
      clear hx
      go_wp2_with (go_at_call 55; refine (whole_any W _ _ x _ hnx.1 hnx.2 (by exact hwr) (encTo_bd k HLen.out)).mono ?_; rintro e w2 ⟨v2, rfl, happ2⟩)
      have H3 := hide happ2
      clear happ2
      go_roundw
      case rel => exact ⟨k + 1, by omega, by go_num, by rw [encTo_succ HX.out, ← List.append_assoc]; exact H2.out.trans H3.out⟩
      case measure => simp [intOf]; omega
    · go_wp2
      go_ret
      refine ⟨_, rfl, ?_⟩
      rw [encs_end hlt]
      exact H2.out

set_option maxHeartbeats 1000000 in
theorem list_signed (W : World) (v : Value) (l : List UInt8) (xs : List Int) (vx : Value) (w : World) (hR : RInts W vx xs) (hneed : ∀ x ∈ xs, -9223372036854775808 ≤ x ∧ x ≤ 9223372036854775807) (hw : Wr W w v l) (hlen : (l ++ encs encSigned xs).length ≤ 10000000) :
    Calls Try.prog 28 #[v, vx, .func (.func 29) #[] #[]] w fun x w' => ∃ v', x = .returned v' ∧ App W.heap.size w v w' v' (l ++ encs encSigned xs) := by
  obtain ⟨ao, cap, rfl, hm, hc⟩ := hR
  unfold maxLen at hm
  have HC := hide hc
  clear hc
  have hl1 : l.length ≤ 10000000 := by simp only [List.length_append] at hlen; omega
  have HLen := hide hlen
  clear hlen
  go_enter Try.func28, Try.ntmps28
  go_wp2_with (go_at_call 55; refine (whole_any W _ l xs.length _ (by omega) (by omega) (by exact hw) hl1).mono ?_; rintro e w1 ⟨v1, rfl, happ⟩; rw [Int.toNat_natCast] at happ; have hw1 := hw.app happ)
  have H1 := hide happ
  clear happ
  go_loopw [0, 15] (fun vo i wr => ∃ k : Nat, k ≤ xs.length ∧ i = .int .i64 k ∧ App W.heap.size w v wr vo (l ++ encTo encSigned xs k)) (fun _ i _ => xs.length - (intOf i).toNat)
  case atStart => exact ⟨0, Nat.zero_le _, rfl, by rw [encTo_zero]; exact H1.out⟩
  case round =>
    obtain ⟨k, hk, rfl, happ⟩ := hrel
    have hwr := hw.app happ
    have H2 := hide happ
    clear happ hw1
    by_cases hlt : k < xs.length
    · obtain ⟨x, hx⟩ := getElem?_lt hlt
      obtain ⟨b, off, hao, hcell⟩ := HC.out k hlt
      subst hao
      rw [List.getD_eq_getElem?_getD, hx] at hcell
      simp only [Option.getD_some] at hcell
      have hcell' := below_cell hwr.low hcell
      have hnx := hneed x (List.mem_of_getElem? hx)
      clear hcell
      have HX := hide hx
      clear hx
      go_wp2_with (go_at_call 29; refine (signed_any W _ _ x _ hnx.1 hnx.2 (by exact hwr) (encTo_bd k HLen.out)).mono ?_; rintro e w2 ⟨v2, rfl, happ2⟩)
      have H3 := hide happ2
      clear happ2
      go_roundw
      case rel => exact ⟨k + 1, by omega, by go_num, by rw [encTo_succ HX.out, ← List.append_assoc]; exact H2.out.trans H3.out⟩
      case measure => simp [intOf]; omega
    · go_wp2
      go_ret
      refine ⟨_, rfl, ?_⟩
      rw [encs_end hlt]
      exact H2.out

theorem kinds_write (W : World) (v : Value) (l : List UInt8) (xs : List Int) (vx : Value) (w : World) (hR : RInts W vx xs) (hneed : ∀ x ∈ xs, 0 ≤ x ∧ x ≤ 9223372036854775807) (hw : Wr W w v l) (hlen : (l ++ encKinds xs).length ≤ 10000000) :
    Calls Try.prog 27 #[v, vx] w fun x w' => ∃ v', x = .returned v' ∧ App W.heap.size w v w' v' (l ++ encKinds xs) := by
  have HR := hide hR
  have HN := hide hneed
  have HLen := hide hlen
  clear hR hneed hlen
  go_enter Try.func27, Try.ntmps27
  go_wp2_with (go_at_call 28; refine (list_whole W _ l xs _ _ HR.out HN.out (by exact hw) HLen.out).mono ?_; rintro e w1 ⟨v1, rfl, happ⟩)
  go_ret
  exact ⟨v1, rfl, happ⟩
end Go.Proofs.Ytkgncijcnlfhiaa
