import Derived.Test.YtkgncijcnlfhiaaDoorB3
import Derived.Test.YtkgncijcnlfhiaaDoorW4c
namespace Go.Proofs.YtkgncijcnlfhiaaDoor
set_option linter.unusedVariables false
set_option linter.unusedSimpArgs false
open Go.RowKit
attribute [local go_sem ↓] Go.wp_at_zero Go.wp_at_succ
/- the document's own answer: numbers and lists as bytes -/
theorem one_byte (w : World) (q : Nat) (hq : q < 256) : (convert 113 9 (.slice (some ⟨w.heap.size, 0, none⟩) 1 1)).run Tryd.prog (w.alloc (.cells #[.int .u8 (q : Int)] 5)) = .ok (.string ⟨#[UInt8.ofNat q]⟩) (w.alloc (.cells #[.int .u8 (q : Int)] 5)) := by
  have h := run_convert_bytes_back (P := Tryd.prog) (w.alloc (.cells #[.int .u8 (q : Int)] 5)) 113 9 5 ⟨w.heap.size, 0, none⟩ 1 [UInt8.ofNat q] Tryd.underlying113 Tryd.underlying5 Tryd.underlying9 (by
    intro j hj
    have hj0 : j = 0 := by simp at hj; omega
    subst hj0
    have e : (⟨w.heap.size, 0, none⟩ : Addr).add 0 = ⟨w.heap.size, 0, none⟩ := by simp [Addr.add]
    rw [e]
    have e2 : (UInt8.ofNat q).toNat = q := by rw [UInt8.toNat_ofNat']; exact Nat.mod_eq_of_lt hq
    simp [go_sem]; try omega)
  exact h
theorem one_byte_at (w : World) (g q : Nat) (hq : q < 256) (hc : w.cell? ⟨g, 0, none⟩ = some (.int .u8 (q : Int))) : (convert 113 9 (.slice (some ⟨g, 0, none⟩) 1 1)).run Tryd.prog w = .ok (.string ⟨#[UInt8.ofNat q]⟩) w := by
  have h := run_convert_bytes_back (P := Tryd.prog) w 113 9 5 ⟨g, 0, none⟩ 1 [UInt8.ofNat q] Tryd.underlying113 Tryd.underlying5 Tryd.underlying9 (by
    intro j hj
    have hj0 : j = 0 := by simp at hj; omega
    subst hj0
    have e : (⟨g, 0, none⟩ : Addr).add 0 = ⟨g, 0, none⟩ := by simp [Addr.add]
    rw [e]
    have e2 : (UInt8.ofNat q).toNat = q := by rw [UInt8.toNat_ofNat']; exact Nat.mod_eq_of_lt hq
    rw [hc]; simp; omega)
  exact h
theorem str_app (l m : List UInt8) : (ByteArray.mk l.toArray ++ ByteArray.mk m.toArray) = ByteArray.mk (l ++ m).toArray := by
  apply ByteArray.ext; rw [ByteArray.data_append]; simp

set_option maxRecDepth 100000 in
set_option maxHeartbeats 1000000 in
theorem number_ref : ∀ (k q : Nat), k ≤ 10 → q < 128 ^ (k + 1) → q < 18446744073709551616 → ∀ w : World,
    Calls Tryd.prog 124 #[.int .u64 (q : Int)] w fun x w' => x = .returned (.string ⟨(numF k q).toArray⟩) ∧ Gr w w' := by
  intro k
  induction k with
  | zero =>
    intro q _ hq _ w
    have hq' : q < 128 := by simpa using hq
    have HN := hide (numF_small (k := 0) hq')
    have hob := one_byte w q (by omega)
    have hw8 : IntKind.u8.wrap (q : Int) = (q : Int) := by rw [IntKind.wrap_u8]; omega
    go_enter Tryd.func124, Tryd.ntmps124
    go_wp2_with fail
    go_ret
    exact ⟨by rw [HN.out]; rfl, (Gr.refl w).alloc _⟩
  | succ k ih =>
    intro q hk hq hq64 w
    by_cases hs : q < 128
    · have HN := hide (numF_small (k := k + 1) hs)
      have hob := one_byte w q (by omega)
      have hw8 : IntKind.u8.wrap (q : Int) = (q : Int) := by rw [IntKind.wrap_u8]; omega
      clear ih hq
      go_enter Tryd.func124, Tryd.ntmps124
      go_wp2_with fail
      go_ret
      exact ⟨by rw [HN.out]; rfl, (Gr.refl w).alloc _⟩
    · obtain ⟨y, hy⟩ : ∃ y, y = q % 128 + 128 := ⟨_, rfl⟩
      obtain ⟨z, hz⟩ : ∃ z, z = q / 128 := ⟨_, rfl⟩
      have HN : Hid (numF (k + 1) q = UInt8.ofNat y :: numF k z) := hide (by rw [numF_big (k := k) hs, hy, hz])
      have hih := fun V : World => hide (ih z (by omega) (by rw [hz, Nat.div_lt_iff_lt_mul (by decide)]; rw [Nat.pow_succ] at hq; exact hq) (by omega) V)
      have hy256 : y < 256 := by omega
      have ht : (q : Int).tmod 128 = ((q % 128 : Nat) : Int) := by rw [Int.tmod_eq_emod_of_nonneg (by omega)]; omega
      have hr1 : IntKind.u64.wrap ((128 : Int) + (q : Int).tmod 128) = (y : Int) := by rw [ht, Go.IntWalk.u64_in _ (by omega)]; omega
      have hr3 : IntKind.u8.wrap (y : Int) = (y : Int) := by rw [IntKind.wrap_u8]; omega
      have hr4 : (q : Int).tdiv 128 = (z : Int) := by rw [Int.tdiv_eq_ediv_of_nonneg (by omega)]; omega
      have hr5 : IntKind.u64.wrap (z : Int) = (z : Int) := Go.IntWalk.u64_in _ (by omega)
      have hsz : (numF k z).length ≤ 100 := by have := (numF_len k z).1; omega
      clear ht ih hq hy hz
      go_enter Tryd.func124, Tryd.ntmps124
      go_wp2_with fail
      have hobA : (convert 113 9 (.slice (some ⟨w.heap.size, 0, none⟩) 1 1)).run Tryd.prog (w.alloc (.cells #[.int .u8 (y : Int)] 5)).drew = .ok (.string ⟨#[UInt8.ofNat y]⟩) (w.alloc (.cells #[.int .u8 (y : Int)] 5)).drew := one_byte w.drew y hy256
      have hob := fun V : World => one_byte V y hy256
      go_region_with (first | (go_at_call 124; refine (hih _).out.mono ?_; rintro x w1 ⟨rfl, hg1⟩; (first | have hobC := one_byte_at w1 w.heap.size y hy256 (hg1.cell (show (w.alloc (.cells #[.int .u8 (y : Int)] 5)).drew.cell? ⟨w.heap.size, 0, none⟩ = some (.int .u8 (y : Int)) by simp [go_sem]) (by simp)) | skip)))
      all_goals go_wp2_with fail
      all_goals go_ret
      all_goals rw [HN.out]
      all_goals refine ⟨congrArg (fun t => Ending.returned (Value.string t)) (str_app [UInt8.ofNat y] (numF k z)), ?_⟩
      all_goals first | exact (Gr.drew ((Gr.refl w).alloc _)).trans hg1 | exact ((Gr.drew (Gr.refl w)).trans hg1).alloc _
theorem num_ref (q : Nat) (hq : q < 18446744073709551616) (w : World) :
    Calls Tryd.prog 124 #[.int .u64 (q : Int)] w fun x w' => x = .returned (.string ⟨(num q).toArray⟩) ∧ Gr w w' := number_ref 10 q (Nat.le_refl _) (Nat.lt_trans hq (by decide)) hq w
set_option maxRecDepth 100000 in
theorem count_ref (n : Int) (h0 : 0 ≤ n) (hn : n ≤ 9223372036854775807) (w : World) :
    Calls Tryd.prog 73 #[.int .i64 n] w fun x w' => x = .returned (.string ⟨(num n.toNat).toArray⟩) ∧ Gr w w' := by
  have hw : IntKind.u64.wrap n = ((n.toNat : Nat) : Int) := by rw [Go.IntWalk.u64_in _ (by omega)]; omega
  have hc := fun V : World => hide (num_ref n.toNat (by omega) V)
  generalize n.toNat = q at hw hc ⊢
  go_enter Tryd.func73, Tryd.ntmps73
  go_wp2_with fail
  refine (hc _).out.mono ?_
  rintro x w1 ⟨rfl, hg1⟩
  go_wp2_with fail
  go_ret
  exact ⟨rfl, hg1⟩
set_option maxRecDepth 100000 in
theorem signed_ref (n : Int) (h0 : -9223372036854775808 ≤ n) (hn : n ≤ 9223372036854775807) (w : World) :
    Calls Tryd.prog 122 #[.int .i64 n] w fun x w' => x = .returned (.string ⟨(num (zig n)).toArray⟩) ∧ Gr w w' := by
  have hc := fun V : World => hide (num_ref (zig n) (zig_lt h0 hn) V)
  by_cases hneg : n < 0
  · have hz : (zig n : Int) = -2 * n - 1 := by unfold zig; rw [if_pos hneg]; omega
    generalize zig n = q at hz hc ⊢
    have hd : decide (n < 0) = true := by simpa using hneg
    have e1 : IntKind.i64.wrap (n + 1) = n + 1 := Go.IntWalk.i64_in _ (by omega)
    have e2 : IntKind.i64.wrap (-(n + 1)) = -(n + 1) := Go.IntWalk.i64_in _ (by omega)
    have e3 : IntKind.u64.wrap (-(n + 1)) = -(n + 1) := Go.IntWalk.u64_in _ (by omega)
    have e4 : IntKind.u64.wrap (2 * -(n + 1)) = 2 * -(n + 1) := Go.IntWalk.u64_in _ (by omega)
    have e5 : IntKind.u64.wrap (2 * -(n + 1) + 1) = (q : Int) := by rw [Go.IntWalk.u64_in _ (by omega)]; omega
    have HZ := hide hz
    clear hz
    go_enter Tryd.func122, Tryd.ntmps122
    go_wp2_with fail
    refine (hc _).out.mono ?_
    rintro x w1 ⟨rfl, hg1⟩
    go_wp2_with fail
    go_ret
    exact ⟨rfl, hg1⟩
  · have hz : (zig n : Int) = 2 * n := by unfold zig; rw [if_neg hneg]; omega
    generalize zig n = q at hz hc ⊢
    have hd : decide (n < 0) = false := by simpa using hneg
    have e3 : IntKind.u64.wrap n = n := Go.IntWalk.u64_in _ (by omega)
    have e5 : IntKind.u64.wrap (2 * n) = (q : Int) := by rw [Go.IntWalk.u64_in _ (by omega)]; omega
    clear hz
    go_enter Tryd.func122, Tryd.ntmps122
    go_wp2_with fail
    refine (hc _).out.mono ?_
    rintro x w1 ⟨rfl, hg1⟩
    go_wp2_with fail
    go_ret
    exact ⟨rfl, hg1⟩
theorem encTo_small {α : Type} {f : α → List UInt8} {xs : List α} {B : Nat} (h : ∀ x ∈ xs, (f x).length ≤ B) (hl : xs.length ≤ 300) (hB : B ≤ 3000) (k : Nat) : (encTo f xs k).length ≤ 1000000 := by
  have h1 := encTo_le f xs k
  have h2 : (encs f xs).length ≤ 11 + 300 * B := by
    have a1 := num_len xs.length
    have a2 : ∀ {ys : List α}, (∀ x ∈ ys, (f x).length ≤ B) → (ys.flatMap f).length ≤ ys.length * B := by
      intro ys hy
      induction ys with
      | nil => simp
      | cons y ys ih =>
        have b1 := hy y (by simp)
        have b2 := ih fun z hz => hy z (by simp [hz])
        simp only [List.flatMap_cons, List.length_append, List.length_cons, Nat.add_mul]; omega
    have a3 := a2 h
    have a4 : xs.length * B ≤ 300 * B := Nat.mul_le_mul_right B hl
    unfold encs; rw [List.length_append]; omega
  have h3 : 300 * B ≤ 300 * 3000 := Nat.mul_le_mul_left 300 hB
  omega
set_option maxRecDepth 100000 in
set_option maxHeartbeats 1000000 in
theorem list_ref (v : Value) (l : List Int) (w : World) (hR : RInts w v l) (hl : l.length ≤ 300) (hx : ∀ x ∈ l, 0 ≤ x ∧ x ≤ 9223372036854775807) :
    Calls Tryd.prog 121 #[v] w fun x w' => x = .returned (.string ⟨(encKinds l).toArray⟩) ∧ Gr w w' := by
  have HR := hide hR
  obtain ⟨a1, c1, rfl, _, _⟩ := hR
  have HX := hide hx
  have hc0 := fun V : World => hide (count_ref (l.length : Int) (by omega) (by omega) V)
  simp only [Int.toNat_natCast] at hc0
  have hsm := encTo_small (f := encWhole) (xs := l) (B := 11) (fun x _ => num_len _) hl (by decide)
  clear hx
  go_enter Tryd.func121, Tryd.ntmps121
  go_wp2_with fail
  refine (hc0 _).out.mono ?_
  rintro x w1 ⟨rfl, hg1⟩
  have HG1 := hide hg1
  clear hg1 hc0
  go_wp2_with fail
  go_loopw [3, 4] (fun s i wr => ∃ k : Nat, i = .int .i64 k ∧ k ≤ l.length ∧ s = .string ⟨(encTo encWhole l k).toArray⟩ ∧ Gr w wr) (fun _ i _ => l.length - (intOf i).toNat)
  case atStart => exact ⟨0, rfl, Nat.zero_le _, by rw [encTo_zero], HG1.out⟩
  case round =>
    obtain ⟨k, rfl, hk, rfl, hg⟩ := hrel
    clear HG1
    have HG := hide hg
    by_cases hlt : k < l.length
    · obtain ⟨a1', c1', h1e, _, hc1⟩ := HR.out
      simp only [Value.slice.injEq, true_and] at h1e
      obtain ⟨b1, o1, rfl, hx1⟩ := hc1 k hlt
      obtain ⟨rfl, rfl⟩ := h1e
      have hy1 := hg.cell hx1 (by simp)
      have hxk : l[k]? = some (l.getD k 0) := by simp [List.getD_eq_getElem?_getD, hlt]
      have hb := HX.out _ (List.mem_of_getElem? hxk)
      have HS := hide (encTo_succ (f := encWhole) hxk)
      generalize l.getD k 0 = x at hy1 hxk hb HS
      have hcx := fun V : World => hide (count_ref x hb.1 hb.2 V)
      have h1 := hsm k
      have h2 := num_len x.toNat
      generalize hT : encTo encWhole l k = T at h1 HS ⊢
      have HS2 : Hid (encTo encWhole l (k + 1) = T ++ num x.toNat) := HS
      generalize num x.toNat = U at h2 hcx HS2
      clear hc1 hx1 hg hxk hb HS hT
      go_wp2_with fail
      refine (hcx _).out.mono ?_
      rintro x w2 ⟨rfl, hg2⟩
      have HG2 := hide (HG.out.trans hg2)
      clear hg2 hcx hy1
      go_wp2_with fail
      refine ⟨⟨k + 1, by simp, hlt, by rw [HS2.out, str_app], HG2.out⟩, by simp [intOf]; omega⟩
    · have hkk : k = l.length := by omega
      subst hkk
      have HE := hide (encs_end (f := encWhole) (xs := l) (k := l.length) (by omega))
      clear hg
      go_wp2_with fail
      go_ret
      exact ⟨by unfold encKinds; rw [HE.out]; rfl, HG.out⟩
end Go.Proofs.YtkgncijcnlfhiaaDoor
namespace Go.Proofs.YtkgncijcnlfhiaaDoor
set_option linter.unusedVariables false
set_option linter.unusedSimpArgs false
open Go.RowKit
attribute [local go_sem ↓] Go.wp_at_zero Go.wp_at_succ
/-- the document's table of operands lies where it was laid -/
def Tab (w : World) : Prop := ∀ j : Nat, j < 21 → w.cell? ⟨0, j, none⟩ = some (.int .i64 (operandsN j))
theorem Tab.gr {w w' : World} (h : Tab w) (g : Gr w w') : Tab w' := fun j hj => g.cell (h j hj) (by simp)
theorem opN_cases (op : Int) : operandsN op = 0 ∨ operandsN op = 1 ∨ operandsN op = 2 := by
  unfold operandsN; split
  · exact .inr (.inr rfl)
  · split
    · exact .inr (.inl rfl)
    · exact .inl rfl

set_option maxRecDepth 100000 in
set_option maxHeartbeats 1000000 in
theorem kinds_ref (v : Value) (l : List Int) (n most : Int) (w : World) (hR : RInts w v l) :
    Calls Tryd.prog 69 #[v, .int .i64 n, .int .i64 most] w fun x w' => x = .returned (.bool (l.all (inB n) && decide ((l.length : Int) ≤ most))) ∧ w' = w := by
  have HR := hide hR
  obtain ⟨a1, c1, rfl, hm, _⟩ := hR
  unfold maxLen at hm
  go_enter Tryd.func69, Tryd.ntmps69
  go_wp2_with fail
  go_loopw [7] (fun i wr => ∃ k : Nat, i = .int .i64 k ∧ k ≤ l.length ∧ (l.take k).all (inB n) = true ∧ wr = w) (fun i _ => l.length - (intOf i).toNat)
  case atStart => exact ⟨0, rfl, Nat.zero_le _, by simp, rfl⟩
  case round =>
    obtain ⟨k, rfl, hk, hall, rfl⟩ := hrel
    have HA := hide hall
    clear hall
    by_cases hlt : k < l.length
    · obtain ⟨a1', c1', h1e, _, hc1⟩ := HR.out
      simp only [Value.slice.injEq, true_and] at h1e
      obtain ⟨b1, o1, rfl, hx1⟩ := hc1 k hlt
      obtain ⟨rfl, rfl⟩ := h1e
      have hxk : l[k]? = some (l.getD k 0) := by simp [List.getD_eq_getElem?_getD, hlt]
      generalize l.getD k 0 = x at hx1 hxk
      have HXk := hide hxk
      clear hc1 hxk
      by_cases h0 : x < 0
      · have HF : Hid (l.all (inB n) = false) := hide (all_false_at HXk.out (by simp [inB, wB]; omega))
        go_wp2_with fail
        go_ret
        exact ⟨by rw [HF.out]; rfl, rfl⟩
      · by_cases h1 : n < x
        · have HF : Hid (l.all (inB n) = false) := hide (all_false_at HXk.out (by simp [inB, wB]; omega))
          go_wp2_with fail
          go_ret
          exact ⟨by rw [HF.out]; rfl, rfl⟩
        · have HT : Hid ((l.take (k + 1)).all (inB n) = true) := hide (by rw [all_take_succ HXk.out, HA.out]; simp [inB, wB]; omega)
          go_wp2_with fail
          exact ⟨⟨k + 1, by simp, hlt, HT.out, trivial⟩, by simp [intOf]; omega⟩
    · have hkk : k = l.length := by omega
      subst hkk
      have HE : Hid (l.all (inB n) = true) := hide (by have h := HA.out; rwa [List.take_length] at h)
      go_wp2_with fail
      go_ret
      exact ⟨by rw [HE.out]; rfl, rfl⟩

set_option maxRecDepth 100000 in
set_option maxHeartbeats 2000000 in
theorem ins_ref (i : PIns) (w : World) (hT : Tab w) :
    Calls Tryd.prog 120 #[.agg #[.int .i64 i.op, .int .i64 i.a, .int .i64 i.b]] w fun x w' => x = .returned (.bool (insOk i)) ∧ Gr w w' := by
  obtain ⟨op, a, b⟩ := i
  have hga := Gr.alloc (Gr.refl w) (.cells #[.int .i64 op, .int .i64 a, .int .i64 b] 91)
  have HG := hide hga
  by_cases hr : 0 ≤ op ∧ op ≤ 20
  · obtain ⟨j, rfl⟩ : ∃ j : Nat, op = (j : Int) := ⟨op.toNat, by omega⟩
    have hj : j < 21 := by omega
    have ht := hga.cell (hT j hj) (by simp)
    by_cases h1 : j = 1
    · subst h1
      clear ht hga
      go_enter Tryd.func120, Tryd.ntmps120
      go_wp2_with fail
      all_goals go_ret
      all_goals refine ⟨?_, (Gr.refl w).alloc _⟩
      all_goals show Ending.returned (Value.bool _) = Ending.returned (Value.bool _)
      all_goals refine congrArg (fun t => Ending.returned (Value.bool t)) ?_
      all_goals rw [Bool.eq_iff_iff]
      all_goals simp [insOk, wB, operandOk, operandsN]
      all_goals omega
    · have hj1 : ¬ (j : Int) = 1 := by omega
      have hjb : ((j : Int) == 1) = false := by simpa using hj1
      have HOK : Hid (∀ a b, insOk ⟨j, a, b⟩ = (operandOk a (decide (1 ≤ operandsN j)) && operandOk b (decide (2 ≤ operandsN j)))) := hide (by
        intro a b; unfold insOk; simp only [if_neg hj1]; rw [show wB (j : Int) 0 20 = true by simp [wB]; omega]; simp)
      have HN := hide (opN_cases (j : Int))
      clear hga
      generalize operandsN (j : Int) = n at ht HOK HN
      have hj0 : (0 : Int) ≤ (j : Int) := by omega
      have hj2 : (j : Int) < 21 := by omega
      by_cases hb0 : b = 0
      · subst hb0
        rcases HN.out with rfl | rfl | rfl
        · clear HN hr hj1
          go_enter Tryd.func120, Tryd.ntmps120
          go_wp2_with fail
          all_goals go_ret
          all_goals refine ⟨?_, (Gr.refl w).alloc _⟩
          all_goals show Ending.returned (Value.bool _) = Ending.returned (Value.bool _)
          all_goals refine congrArg (fun t => Ending.returned (Value.bool t)) ?_
          all_goals rw [HOK.out, Bool.eq_iff_iff]
          all_goals simp [wB, operandOk]
          all_goals omega
        · clear HN hr hj1
          go_enter Tryd.func120, Tryd.ntmps120
          go_wp2_with fail
          all_goals go_ret
          all_goals refine ⟨?_, (Gr.refl w).alloc _⟩
          all_goals show Ending.returned (Value.bool _) = Ending.returned (Value.bool _)
          all_goals refine congrArg (fun t => Ending.returned (Value.bool t)) ?_
          all_goals rw [HOK.out, Bool.eq_iff_iff]
          all_goals simp [wB, operandOk]
          all_goals omega
        · clear HN hr hj1
          go_enter Tryd.func120, Tryd.ntmps120
          go_wp2_with fail
          all_goals go_ret
          all_goals refine ⟨?_, (Gr.refl w).alloc _⟩
          all_goals show Ending.returned (Value.bool _) = Ending.returned (Value.bool _)
          all_goals refine congrArg (fun t => Ending.returned (Value.bool t)) ?_
          all_goals rw [HOK.out, Bool.eq_iff_iff]
          all_goals simp [wB, operandOk]
          all_goals omega
      · have hbn : (b != 0) = true := by simpa using hb0
        rcases HN.out with rfl | rfl | rfl
        · clear HN hr hj1
          go_enter Tryd.func120, Tryd.ntmps120
          go_wp2_with fail
          all_goals go_ret
          all_goals refine ⟨?_, (Gr.refl w).alloc _⟩
          all_goals show Ending.returned (Value.bool _) = Ending.returned (Value.bool _)
          all_goals refine congrArg (fun t => Ending.returned (Value.bool t)) ?_
          all_goals rw [HOK.out, Bool.eq_iff_iff]
          all_goals simp [wB, operandOk]
          all_goals omega
        · clear HN hr hj1
          go_enter Tryd.func120, Tryd.ntmps120
          go_wp2_with fail
          all_goals go_ret
          all_goals refine ⟨?_, (Gr.refl w).alloc _⟩
          all_goals show Ending.returned (Value.bool _) = Ending.returned (Value.bool _)
          all_goals refine congrArg (fun t => Ending.returned (Value.bool t)) ?_
          all_goals rw [HOK.out, Bool.eq_iff_iff]
          all_goals simp [wB, operandOk]
          all_goals omega
        · clear HN hr hj1
          go_enter Tryd.func120, Tryd.ntmps120
          go_wp2_with fail
          all_goals go_ret
          all_goals refine ⟨?_, (Gr.refl w).alloc _⟩
          all_goals show Ending.returned (Value.bool _) = Ending.returned (Value.bool _)
          all_goals refine congrArg (fun t => Ending.returned (Value.bool t)) ?_
          all_goals rw [HOK.out, Bool.eq_iff_iff]
          all_goals simp [wB, operandOk]
          all_goals omega
  · have HF : Hid (insOk ⟨op, a, b⟩ = false) := hide (by unfold insOk; rw [show wB op 0 20 = false by simp [wB]; omega]; rfl)
    clear hga
    by_cases h0 : op < 0
    · go_enter Tryd.func120, Tryd.ntmps120
      go_wp2_with fail
      go_ret
      exact ⟨by rw [HF.out]; rfl, HG.out⟩
    · have h20 : 20 < op := by omega
      go_enter Tryd.func120, Tryd.ntmps120
      go_wp2_with fail
      go_ret
      exact ⟨by rw [HF.out]; rfl, HG.out⟩
end Go.Proofs.YtkgncijcnlfhiaaDoor
