import Derived.Test.YtkgncijcnlfhiaaM3
namespace Go.Proofs.Ytkgncijcnlfhiaa
set_option linter.unusedVariables false
set_option linter.unusedSimpArgs false
open Go.RowKit
theorem MkR.set {w : World} {mb g o : Nat} {v : Value} {r : List Int} (h : MkR w mb r) (hg : mb < g) : MkR (w.setCell ⟨g, o, none⟩ v) mb r := h.low fun k hk => Below.heap_setCell _ _ _ _ (by show k ≠ g; omega)
def MadeIns (mb : Nat) (w : World) (x : Ending) (w' : World) : Prop :=
  ∃ i : PIns, x = .returned (.agg #[.int .i64 i.op, .int .i64 i.a, .int .i64 i.b]) ∧ insOk i = true ∧ (∃ r', MkR w' mb r') ∧ Gc mb w w'

set_option maxRecDepth 100000 in
set_option maxHeartbeats 2000000 in
theorem ins_0 (mb : Nat) (r : List Int) (w : World) (h : MkR w mb r) (hq : mpick r 21 = 0) :
    Calls Try.prog 20 #[.pointer (some ⟨mb, 0, none⟩)] w (MadeIns mb w) := by
  have HM := hide h
  have hml := h.lt
  clear h
  have HB0 := hide (Box3.new w 54 (.int .i64 0) (.int .i64 0) (.int .i64 0))
  have HGw := hide ((Gr.alloc (Gr.refl w) (.cells #[.int .i64 0, .int .i64 0, .int .i64 0] 54)).toGc (cb := mb))
  have HN1 : ∀ V : World, Hid (MkR V mb r → Calls Try.prog 17 #[.pointer (some ⟨mb, 0, none⟩), .int .i64 21] V fun x w' => x = .returned (.int .i64 0) ∧ MkR w' mb r.tail ∧ Gc mb V w') := fun V => hide (by
    intro hV; have hh := next_any mb r 21 (by decide) (by decide) V hV; rw [hq] at hh; exact hh)
  clear hq
  go_enter Try.func20, Try.ntmps20
  go_wp2_with fail
  refine ((HN1 _).out (HM.out.gr ((Gr.refl w).alloc _))).mono ?_
  rintro x w1 ⟨rfl, hm1, hg1⟩
  have hs1 : w.heap.size < w1.heap.size := by have := hg1.size; simp at this; omega
  have hga := Gr.alloc (Gr.refl w1) (.cells #[.int .i64 0, .int .i64 0, .int .i64 0] 54)
  have HRB1 := hide ((HB0.out.gc hg1 (by omega)).gc (hga.toGc (cb := mb)) (by omega))
  have HIB1 := hide (Box3.new w1 54 (.int .i64 0) (.int .i64 0) (.int .i64 0))
  have HG1 := hide ((HGw.out.trans hg1).trans (hga.toGc (cb := mb)))
  have HM1 := hide (hm1.gr hga)
  have hne : ¬ w.heap.size = w1.heap.size := by omega
  have hne2 : ¬ w1.heap.size = w.heap.size := by omega
  clear hm1 hg1 hga HB0 HGw HN1 HM
  obtain ⟨i0, i1, i2, y0, y1, y2⟩ := HIB1.out
  obtain ⟨m0, m1, m2, n0, n1, n2⟩ := HRB1.out
  have hq1 := mpick_lt (r := r.tail) (n := 6) (by decide)
  have HN2 : ∀ V : World, Hid (MkR V mb r.tail → Calls Try.prog 17 #[.pointer (some ⟨mb, 0, none⟩), .int .i64 6] V fun x w' => x = .returned (.int .i64 (mpick r.tail 6)) ∧ MkR w' mb r.tail.tail ∧ Gc mb V w') := fun V => hide (next_any mb r.tail 6 (by decide) (by decide) V)
  generalize mpick r.tail 6 = q1 at hq1 HN2
  go_wp2_with fail
  refine ((HN2 _).out HM1.out).mono ?_
  rintro x w2 ⟨rfl, hm2, hg2⟩
  have hib := HIB1.out.gc hg2 (by omega)
  have hrb := HRB1.out.gc hg2 (by omega)
  have hgx := HG1.out.trans hg2
  have hs2 : w1.heap.size < w2.heap.size := Nat.lt_of_lt_of_le (World.block_lt_of_cell? _ _ HIB1.out.1) hg2.size
  obtain ⟨i0, i1, i2, y0, y1, y2⟩ := hib
  obtain ⟨m0, m1, m2, n0, n1, n2⟩ := hrb
  have HIB2 := hide (Box3.set1 (.int .i64 q1) (HIB1.out.gc hg2 (by omega)))
  have HRB2 := hide ((HRB1.out.gc hg2 (by omega)).other (g := w1.heap.size) (o := 1) (v := (.int .i64 q1)) (by omega))
  have HG2 := hide (gc_new (g := w1.heap.size) (o := 1) (v := (.int .i64 q1)) hgx (by omega))
  have HM2 := hide (hm2.set (g := w1.heap.size) (o := 1) (v := (.int .i64 q1)) (by omega))
  clear hm2 hg2 hgx HIB1 HRB1 HG1 HM1 HN2
  have hq2 := mpick_lt (r := r.tail.tail) (n := 9) (by decide)
  have HN3 : ∀ V : World, Hid (MkR V mb r.tail.tail → Calls Try.prog 17 #[.pointer (some ⟨mb, 0, none⟩), .int .i64 9] V fun x w' => x = .returned (.int .i64 (mpick r.tail.tail 9)) ∧ MkR w' mb r.tail.tail.tail ∧ Gc mb V w') := fun V => hide (next_any mb r.tail.tail 9 (by decide) (by decide) V)
  generalize mpick r.tail.tail 9 = q2 at hq2 HN3
  go_wp2_with fail
  refine ((HN3 _).out HM2.out).mono ?_
  rintro x w3 ⟨rfl, hm3, hg3⟩
  have hib := HIB2.out.gc hg3 (by omega)
  have hrb := HRB2.out.gc hg3 (by omega)
  have hgx := HG2.out.trans hg3
  have hs3 : w1.heap.size < w3.heap.size := Nat.lt_of_lt_of_le (World.block_lt_of_cell? _ _ HIB2.out.1) hg3.size
  obtain ⟨i0, i1, i2, y0, y1, y2⟩ := hib
  obtain ⟨m0, m1, m2, n0, n1, n2⟩ := hrb
  have HIB3 := hide (HIB2.out.gc hg3 (by omega))
  have HRB3 := hide (HRB2.out.gc hg3 (by omega))
  have HG3 := hide hgx
  have HM3 := hide hm3
  clear hm3 hg3 hgx HIB2 HRB2 HG2 HM2 HN3
  by_cases hz : q2 = 0
  · have hq3 := mpick_lt (r := r.tail.tail.tail) (n := 65536) (by decide)
    have HN4 : ∀ V : World, Hid (MkR V mb r.tail.tail.tail → Calls Try.prog 17 #[.pointer (some ⟨mb, 0, none⟩), .int .i64 65536] V fun x w' => x = .returned (.int .i64 (mpick r.tail.tail.tail 65536)) ∧ MkR w' mb r.tail.tail.tail.tail ∧ Gc mb V w') := fun V => hide (next_any mb r.tail.tail.tail 65536 (by decide) (by decide) V)
    generalize mpick r.tail.tail.tail 65536 = q3 at hq3 HN4
    subst hz
    go_wp2_with fail
    refine ((HN4 _).out HM3.out).mono ?_
    rintro x w4 ⟨rfl, hm4, hg4⟩
    have hib := HIB3.out.gc hg4 (by omega)
    have hrb := HRB3.out.gc hg4 (by omega)
    have hgx := HG3.out.trans hg4
    have hs4 : w1.heap.size < w4.heap.size := Nat.lt_of_lt_of_le (World.block_lt_of_cell? _ _ HIB3.out.1) hg4.size
    obtain ⟨i0, i1, i2, y0, y1, y2⟩ := hib
    obtain ⟨m0, m1, m2, n0, n1, n2⟩ := hrb
    have HIB4 := hide (Box3.set1 (.int .i64 q3) (HIB3.out.gc hg4 (by omega)))
    have HRB4 := hide ((HRB3.out.gc hg4 (by omega)).other (g := w1.heap.size) (o := 1) (v := (.int .i64 q3)) (by omega))
    have HG4 := hide (gc_new (g := w1.heap.size) (o := 1) (v := (.int .i64 q3)) hgx (by omega))
    have HM4 := hide (hm4.set (g := w1.heap.size) (o := 1) (v := (.int .i64 q3)) (by omega))
    clear hm4 hg4 hgx HIB3 HRB3 HG3 HM3 HN4
    go_wp2
    exact bodyPost_ret (v := .agg #[.int .i64 0, .int .i64 q3, .int .i64 0]) (by simp [results, Try.results20, go_sem, m0, m1, m2]) rfl (by exact ⟨⟨0, q3, 0⟩, rfl, by simp [insOk, wB, operandOk, operandsN]; omega, ⟨_, ((HM4.out.set (g := w.heap.size) (by omega)).set (g := w.heap.size) (by omega)).set (g := w.heap.size) (by omega)⟩, gc_new (gc_new (gc_new HG4.out (Nat.le_refl _)) (Nat.le_refl _)) (Nat.le_refl _)⟩)
  · have hzb : (q2 == 0) = false := by simpa using hz
    go_wp2
    exact bodyPost_ret (v := .agg #[.int .i64 0, .int .i64 q1, .int .i64 0]) (by simp [results, Try.results20, go_sem, m0, m1, m2]) rfl (by exact ⟨⟨0, q1, 0⟩, rfl, by simp [insOk, wB, operandOk, operandsN]; omega, ⟨_, ((HM3.out.set (g := w.heap.size) (by omega)).set (g := w.heap.size) (by omega)).set (g := w.heap.size) (by omega)⟩, gc_new (gc_new (gc_new HG3.out (Nat.le_refl _)) (Nat.le_refl _)) (Nat.le_refl _)⟩)

set_option maxRecDepth 100000 in
set_option maxHeartbeats 2000000 in
theorem ins_1 (mb : Nat) (r : List Int) (w : World) (h : MkR w mb r) (hq : mpick r 21 = 1) :
    Calls Try.prog 20 #[.pointer (some ⟨mb, 0, none⟩)] w (MadeIns mb w) := by
  have HM := hide h
  have hml := h.lt
  clear h
  have HB0 := hide (Box3.new w 54 (.int .i64 0) (.int .i64 0) (.int .i64 0))
  have HGw := hide ((Gr.alloc (Gr.refl w) (.cells #[.int .i64 0, .int .i64 0, .int .i64 0] 54)).toGc (cb := mb))
  have HN1 : ∀ V : World, Hid (MkR V mb r → Calls Try.prog 17 #[.pointer (some ⟨mb, 0, none⟩), .int .i64 21] V fun x w' => x = .returned (.int .i64 1) ∧ MkR w' mb r.tail ∧ Gc mb V w') := fun V => hide (by
    intro hV; have hh := next_any mb r 21 (by decide) (by decide) V hV; rw [hq] at hh; exact hh)
  clear hq
  go_enter Try.func20, Try.ntmps20
  go_wp2_with fail
  refine ((HN1 _).out (HM.out.gr ((Gr.refl w).alloc _))).mono ?_
  rintro x w1 ⟨rfl, hm1, hg1⟩
  have hs1 : w.heap.size < w1.heap.size := by have := hg1.size; simp at this; omega
  have hga := Gr.alloc (Gr.refl w1) (.cells #[.int .i64 1, .int .i64 0, .int .i64 0] 54)
  have HRB1 := hide ((HB0.out.gc hg1 (by omega)).gc (hga.toGc (cb := mb)) (by omega))
  have HIB1 := hide (Box3.new w1 54 (.int .i64 1) (.int .i64 0) (.int .i64 0))
  have HG1 := hide ((HGw.out.trans hg1).trans (hga.toGc (cb := mb)))
  have HM1 := hide (hm1.gr hga)
  have hne : ¬ w.heap.size = w1.heap.size := by omega
  have hne2 : ¬ w1.heap.size = w.heap.size := by omega
  clear hm1 hg1 hga HB0 HGw HN1 HM
  obtain ⟨i0, i1, i2, y0, y1, y2⟩ := HIB1.out
  obtain ⟨m0, m1, m2, n0, n1, n2⟩ := HRB1.out
  have hq1 := mpick_lt (r := r.tail) (n := 4294967296) (by decide)
  have HN2 : ∀ V : World, Hid (MkR V mb r.tail → Calls Try.prog 17 #[.pointer (some ⟨mb, 0, none⟩), .int .i64 4294967296] V fun x w' => x = .returned (.int .i64 (mpick r.tail 4294967296)) ∧ MkR w' mb r.tail.tail ∧ Gc mb V w') := fun V => hide (next_any mb r.tail 4294967296 (by decide) (by decide) V)
  generalize mpick r.tail 4294967296 = q1 at hq1 HN2
  go_wp2_with fail
  refine ((HN2 _).out HM1.out).mono ?_
  rintro x w2 ⟨rfl, hm2, hg2⟩
  have hib := HIB1.out.gc hg2 (by omega)
  have hrb := HRB1.out.gc hg2 (by omega)
  have hgx := HG1.out.trans hg2
  have hs2 : w1.heap.size < w2.heap.size := Nat.lt_of_lt_of_le (World.block_lt_of_cell? _ _ HIB1.out.1) hg2.size
  obtain ⟨i0, i1, i2, y0, y1, y2⟩ := hib
  obtain ⟨m0, m1, m2, n0, n1, n2⟩ := hrb
  have HIB2 := hide (Box3.set1 (.int .i64 (q1 - 2147483648)) (HIB1.out.gc hg2 (by omega)))
  have HRB2 := hide ((HRB1.out.gc hg2 (by omega)).other (g := w1.heap.size) (o := 1) (v := (.int .i64 (q1 - 2147483648))) (by omega))
  have HG2 := hide (gc_new (g := w1.heap.size) (o := 1) (v := (.int .i64 (q1 - 2147483648))) hgx (by omega))
  have HM2 := hide (hm2.set (g := w1.heap.size) (o := 1) (v := (.int .i64 (q1 - 2147483648))) (by omega))
  clear hm2 hg2 hgx HIB1 HRB1 HG1 HM1 HN2
  have hwr : IntKind.i64.wrap (q1 - 2147483648) = q1 - 2147483648 := Go.IntWalk.i64_in _ (by omega)
  go_wp2
  exact bodyPost_ret (v := .agg #[.int .i64 1, .int .i64 (q1 - 2147483648), .int .i64 0]) (by simp [results, Try.results20, go_sem, m0, m1, m2]) rfl (by exact ⟨⟨1, q1 - 2147483648, 0⟩, rfl, by simp [insOk, wB, operandOk, operandsN]; omega, ⟨_, ((HM2.out.set (g := w.heap.size) (by omega)).set (g := w.heap.size) (by omega)).set (g := w.heap.size) (by omega)⟩, gc_new (gc_new (gc_new HG2.out (Nat.le_refl _)) (Nat.le_refl _)) (Nat.le_refl _)⟩)

set_option maxRecDepth 100000 in
set_option maxHeartbeats 2000000 in
theorem ins_2 (mb : Nat) (r : List Int) (w : World) (h : MkR w mb r) (hq : mpick r 21 = 2) :
    Calls Try.prog 20 #[.pointer (some ⟨mb, 0, none⟩)] w (MadeIns mb w) := by
  have HM := hide h
  have hml := h.lt
  clear h
  have HB0 := hide (Box3.new w 54 (.int .i64 0) (.int .i64 0) (.int .i64 0))
  have HGw := hide ((Gr.alloc (Gr.refl w) (.cells #[.int .i64 0, .int .i64 0, .int .i64 0] 54)).toGc (cb := mb))
  have HN1 : ∀ V : World, Hid (MkR V mb r → Calls Try.prog 17 #[.pointer (some ⟨mb, 0, none⟩), .int .i64 21] V fun x w' => x = .returned (.int .i64 2) ∧ MkR w' mb r.tail ∧ Gc mb V w') := fun V => hide (by
    intro hV; have hh := next_any mb r 21 (by decide) (by decide) V hV; rw [hq] at hh; exact hh)
  clear hq
  go_enter Try.func20, Try.ntmps20
  go_wp2_with fail
  refine ((HN1 _).out (HM.out.gr ((Gr.refl w).alloc _))).mono ?_
  rintro x w1 ⟨rfl, hm1, hg1⟩
  have hs1 : w.heap.size < w1.heap.size := by have := hg1.size; simp at this; omega
  have hga := Gr.alloc (Gr.refl w1) (.cells #[.int .i64 2, .int .i64 0, .int .i64 0] 54)
  have HRB1 := hide ((HB0.out.gc hg1 (by omega)).gc (hga.toGc (cb := mb)) (by omega))
  have HIB1 := hide (Box3.new w1 54 (.int .i64 2) (.int .i64 0) (.int .i64 0))
  have HG1 := hide ((HGw.out.trans hg1).trans (hga.toGc (cb := mb)))
  have HM1 := hide (hm1.gr hga)
  have hne : ¬ w.heap.size = w1.heap.size := by omega
  have hne2 : ¬ w1.heap.size = w.heap.size := by omega
  clear hm1 hg1 hga HB0 HGw HN1 HM
  obtain ⟨i0, i1, i2, y0, y1, y2⟩ := HIB1.out
  obtain ⟨m0, m1, m2, n0, n1, n2⟩ := HRB1.out
  have hq1 := mpick_lt (r := r.tail) (n := 6) (by decide)
  have HN2 : ∀ V : World, Hid (MkR V mb r.tail → Calls Try.prog 17 #[.pointer (some ⟨mb, 0, none⟩), .int .i64 6] V fun x w' => x = .returned (.int .i64 (mpick r.tail 6)) ∧ MkR w' mb r.tail.tail ∧ Gc mb V w') := fun V => hide (next_any mb r.tail 6 (by decide) (by decide) V)
  generalize mpick r.tail 6 = q1 at hq1 HN2
  go_wp2_with fail
  refine ((HN2 _).out HM1.out).mono ?_
  rintro x w2 ⟨rfl, hm2, hg2⟩
  have hib := HIB1.out.gc hg2 (by omega)
  have hrb := HRB1.out.gc hg2 (by omega)
  have hgx := HG1.out.trans hg2
  have hs2 : w1.heap.size < w2.heap.size := Nat.lt_of_lt_of_le (World.block_lt_of_cell? _ _ HIB1.out.1) hg2.size
  obtain ⟨i0, i1, i2, y0, y1, y2⟩ := hib
  obtain ⟨m0, m1, m2, n0, n1, n2⟩ := hrb
  have HIB2 := hide (Box3.set1 (.int .i64 q1) (HIB1.out.gc hg2 (by omega)))
  have HRB2 := hide ((HRB1.out.gc hg2 (by omega)).other (g := w1.heap.size) (o := 1) (v := (.int .i64 q1)) (by omega))
  have HG2 := hide (gc_new (g := w1.heap.size) (o := 1) (v := (.int .i64 q1)) hgx (by omega))
  have HM2 := hide (hm2.set (g := w1.heap.size) (o := 1) (v := (.int .i64 q1)) (by omega))
  clear hm2 hg2 hgx HIB1 HRB1 HG1 HM1 HN2
  have hq2 := mpick_lt (r := r.tail.tail) (n := 9) (by decide)
  have HN3 : ∀ V : World, Hid (MkR V mb r.tail.tail → Calls Try.prog 17 #[.pointer (some ⟨mb, 0, none⟩), .int .i64 9] V fun x w' => x = .returned (.int .i64 (mpick r.tail.tail 9)) ∧ MkR w' mb r.tail.tail.tail ∧ Gc mb V w') := fun V => hide (next_any mb r.tail.tail 9 (by decide) (by decide) V)
  generalize mpick r.tail.tail 9 = q2 at hq2 HN3
  go_wp2_with fail
  refine ((HN3 _).out HM2.out).mono ?_
  rintro x w3 ⟨rfl, hm3, hg3⟩
  have hib := HIB2.out.gc hg3 (by omega)
  have hrb := HRB2.out.gc hg3 (by omega)
  have hgx := HG2.out.trans hg3
  have hs3 : w1.heap.size < w3.heap.size := Nat.lt_of_lt_of_le (World.block_lt_of_cell? _ _ HIB2.out.1) hg3.size
  obtain ⟨i0, i1, i2, y0, y1, y2⟩ := hib
  obtain ⟨m0, m1, m2, n0, n1, n2⟩ := hrb
  have HIB3 := hide (HIB2.out.gc hg3 (by omega))
  have HRB3 := hide (HRB2.out.gc hg3 (by omega))
  have HG3 := hide hgx
  have HM3 := hide hm3
  clear hm3 hg3 hgx HIB2 HRB2 HG2 HM2 HN3
  by_cases hz : q2 = 0
  · have hq3 := mpick_lt (r := r.tail.tail.tail) (n := 65536) (by decide)
    have HN4 : ∀ V : World, Hid (MkR V mb r.tail.tail.tail → Calls Try.prog 17 #[.pointer (some ⟨mb, 0, none⟩), .int .i64 65536] V fun x w' => x = .returned (.int .i64 (mpick r.tail.tail.tail 65536)) ∧ MkR w' mb r.tail.tail.tail.tail ∧ Gc mb V w') := fun V => hide (next_any mb r.tail.tail.tail 65536 (by decide) (by decide) V)
    generalize mpick r.tail.tail.tail 65536 = q3 at hq3 HN4
    subst hz
    go_wp2_with fail
    refine ((HN4 _).out HM3.out).mono ?_
    rintro x w4 ⟨rfl, hm4, hg4⟩
    have hib := HIB3.out.gc hg4 (by omega)
    have hrb := HRB3.out.gc hg4 (by omega)
    have hgx := HG3.out.trans hg4
    have hs4 : w1.heap.size < w4.heap.size := Nat.lt_of_lt_of_le (World.block_lt_of_cell? _ _ HIB3.out.1) hg4.size
    obtain ⟨i0, i1, i2, y0, y1, y2⟩ := hib
    obtain ⟨m0, m1, m2, n0, n1, n2⟩ := hrb
    have HIB4 := hide (Box3.set1 (.int .i64 q3) (HIB3.out.gc hg4 (by omega)))
    have HRB4 := hide ((HRB3.out.gc hg4 (by omega)).other (g := w1.heap.size) (o := 1) (v := (.int .i64 q3)) (by omega))
    have HG4 := hide (gc_new (g := w1.heap.size) (o := 1) (v := (.int .i64 q3)) hgx (by omega))
    have HM4 := hide (hm4.set (g := w1.heap.size) (o := 1) (v := (.int .i64 q3)) (by omega))
    clear hm4 hg4 hgx HIB3 HRB3 HG3 HM3 HN4
    go_wp2
    exact bodyPost_ret (v := .agg #[.int .i64 2, .int .i64 q3, .int .i64 0]) (by simp [results, Try.results20, go_sem, m0, m1, m2]) rfl (by exact ⟨⟨2, q3, 0⟩, rfl, by simp [insOk, wB, operandOk, operandsN]; omega, ⟨_, ((HM4.out.set (g := w.heap.size) (by omega)).set (g := w.heap.size) (by omega)).set (g := w.heap.size) (by omega)⟩, gc_new (gc_new (gc_new HG4.out (Nat.le_refl _)) (Nat.le_refl _)) (Nat.le_refl _)⟩)
  · have hzb : (q2 == 0) = false := by simpa using hz
    go_wp2
    exact bodyPost_ret (v := .agg #[.int .i64 2, .int .i64 q1, .int .i64 0]) (by simp [results, Try.results20, go_sem, m0, m1, m2]) rfl (by exact ⟨⟨2, q1, 0⟩, rfl, by simp [insOk, wB, operandOk, operandsN]; omega, ⟨_, ((HM3.out.set (g := w.heap.size) (by omega)).set (g := w.heap.size) (by omega)).set (g := w.heap.size) (by omega)⟩, gc_new (gc_new (gc_new HG3.out (Nat.le_refl _)) (Nat.le_refl _)) (Nat.le_refl _)⟩)

set_option maxRecDepth 100000 in
set_option maxHeartbeats 2000000 in
theorem ins_3 (mb : Nat) (r : List Int) (w : World) (h : MkR w mb r) (hq : mpick r 21 = 3) :
    Calls Try.prog 20 #[.pointer (some ⟨mb, 0, none⟩)] w (MadeIns mb w) := by
  have HM := hide h
  have hml := h.lt
  clear h
  have HB0 := hide (Box3.new w 54 (.int .i64 0) (.int .i64 0) (.int .i64 0))
  have HGw := hide ((Gr.alloc (Gr.refl w) (.cells #[.int .i64 0, .int .i64 0, .int .i64 0] 54)).toGc (cb := mb))
  have HN1 : ∀ V : World, Hid (MkR V mb r → Calls Try.prog 17 #[.pointer (some ⟨mb, 0, none⟩), .int .i64 21] V fun x w' => x = .returned (.int .i64 3) ∧ MkR w' mb r.tail ∧ Gc mb V w') := fun V => hide (by
    intro hV; have hh := next_any mb r 21 (by decide) (by decide) V hV; rw [hq] at hh; exact hh)
  clear hq
  go_enter Try.func20, Try.ntmps20
  go_wp2_with fail
  refine ((HN1 _).out (HM.out.gr ((Gr.refl w).alloc _))).mono ?_
  rintro x w1 ⟨rfl, hm1, hg1⟩
  have hs1 : w.heap.size < w1.heap.size := by have := hg1.size; simp at this; omega
  have hga := Gr.alloc (Gr.refl w1) (.cells #[.int .i64 3, .int .i64 0, .int .i64 0] 54)
  have HRB1 := hide ((HB0.out.gc hg1 (by omega)).gc (hga.toGc (cb := mb)) (by omega))
  have HIB1 := hide (Box3.new w1 54 (.int .i64 3) (.int .i64 0) (.int .i64 0))
  have HG1 := hide ((HGw.out.trans hg1).trans (hga.toGc (cb := mb)))
  have HM1 := hide (hm1.gr hga)
  have hne : ¬ w.heap.size = w1.heap.size := by omega
  have hne2 : ¬ w1.heap.size = w.heap.size := by omega
  clear hm1 hg1 hga HB0 HGw HN1 HM
  obtain ⟨i0, i1, i2, y0, y1, y2⟩ := HIB1.out
  obtain ⟨m0, m1, m2, n0, n1, n2⟩ := HRB1.out
  have hq1 := mpick_lt (r := r.tail) (n := 6) (by decide)
  have HN2 : ∀ V : World, Hid (MkR V mb r.tail → Calls Try.prog 17 #[.pointer (some ⟨mb, 0, none⟩), .int .i64 6] V fun x w' => x = .returned (.int .i64 (mpick r.tail 6)) ∧ MkR w' mb r.tail.tail ∧ Gc mb V w') := fun V => hide (next_any mb r.tail 6 (by decide) (by decide) V)
  generalize mpick r.tail 6 = q1 at hq1 HN2
  go_wp2_with fail
  refine ((HN2 _).out HM1.out).mono ?_
  rintro x w2 ⟨rfl, hm2, hg2⟩
  have hib := HIB1.out.gc hg2 (by omega)
  have hrb := HRB1.out.gc hg2 (by omega)
  have hgx := HG1.out.trans hg2
  have hs2 : w1.heap.size < w2.heap.size := Nat.lt_of_lt_of_le (World.block_lt_of_cell? _ _ HIB1.out.1) hg2.size
  obtain ⟨i0, i1, i2, y0, y1, y2⟩ := hib
  obtain ⟨m0, m1, m2, n0, n1, n2⟩ := hrb
  have HIB2 := hide (Box3.set1 (.int .i64 q1) (HIB1.out.gc hg2 (by omega)))
  have HRB2 := hide ((HRB1.out.gc hg2 (by omega)).other (g := w1.heap.size) (o := 1) (v := (.int .i64 q1)) (by omega))
  have HG2 := hide (gc_new (g := w1.heap.size) (o := 1) (v := (.int .i64 q1)) hgx (by omega))
  have HM2 := hide (hm2.set (g := w1.heap.size) (o := 1) (v := (.int .i64 q1)) (by omega))
  clear hm2 hg2 hgx HIB1 HRB1 HG1 HM1 HN2
  have hq2 := mpick_lt (r := r.tail.tail) (n := 9) (by decide)
  have HN3 : ∀ V : World, Hid (MkR V mb r.tail.tail → Calls Try.prog 17 #[.pointer (some ⟨mb, 0, none⟩), .int .i64 9] V fun x w' => x = .returned (.int .i64 (mpick r.tail.tail 9)) ∧ MkR w' mb r.tail.tail.tail ∧ Gc mb V w') := fun V => hide (next_any mb r.tail.tail 9 (by decide) (by decide) V)
  generalize mpick r.tail.tail 9 = q2 at hq2 HN3
  go_wp2_with fail
  refine ((HN3 _).out HM2.out).mono ?_
  rintro x w3 ⟨rfl, hm3, hg3⟩
  have hib := HIB2.out.gc hg3 (by omega)
  have hrb := HRB2.out.gc hg3 (by omega)
  have hgx := HG2.out.trans hg3
  have hs3 : w1.heap.size < w3.heap.size := Nat.lt_of_lt_of_le (World.block_lt_of_cell? _ _ HIB2.out.1) hg3.size
  obtain ⟨i0, i1, i2, y0, y1, y2⟩ := hib
  obtain ⟨m0, m1, m2, n0, n1, n2⟩ := hrb
  have HIB3 := hide (HIB2.out.gc hg3 (by omega))
  have HRB3 := hide (HRB2.out.gc hg3 (by omega))
  have HG3 := hide hgx
  have HM3 := hide hm3
  clear hm3 hg3 hgx HIB2 HRB2 HG2 HM2 HN3
  by_cases hz : q2 = 0
  · have hq3 := mpick_lt (r := r.tail.tail.tail) (n := 65536) (by decide)
    have HN4 : ∀ V : World, Hid (MkR V mb r.tail.tail.tail → Calls Try.prog 17 #[.pointer (some ⟨mb, 0, none⟩), .int .i64 65536] V fun x w' => x = .returned (.int .i64 (mpick r.tail.tail.tail 65536)) ∧ MkR w' mb r.tail.tail.tail.tail ∧ Gc mb V w') := fun V => hide (next_any mb r.tail.tail.tail 65536 (by decide) (by decide) V)
    generalize mpick r.tail.tail.tail 65536 = q3 at hq3 HN4
    subst hz
    go_wp2_with fail
    refine ((HN4 _).out HM3.out).mono ?_
    rintro x w4 ⟨rfl, hm4, hg4⟩
    have hib := HIB3.out.gc hg4 (by omega)
    have hrb := HRB3.out.gc hg4 (by omega)
    have hgx := HG3.out.trans hg4
    have hs4 : w1.heap.size < w4.heap.size := Nat.lt_of_lt_of_le (World.block_lt_of_cell? _ _ HIB3.out.1) hg4.size
    obtain ⟨i0, i1, i2, y0, y1, y2⟩ := hib
    obtain ⟨m0, m1, m2, n0, n1, n2⟩ := hrb
    have HIB4 := hide (Box3.set1 (.int .i64 q3) (HIB3.out.gc hg4 (by omega)))
    have HRB4 := hide ((HRB3.out.gc hg4 (by omega)).other (g := w1.heap.size) (o := 1) (v := (.int .i64 q3)) (by omega))
    have HG4 := hide (gc_new (g := w1.heap.size) (o := 1) (v := (.int .i64 q3)) hgx (by omega))
    have HM4 := hide (hm4.set (g := w1.heap.size) (o := 1) (v := (.int .i64 q3)) (by omega))
    clear hm4 hg4 hgx HIB3 HRB3 HG3 HM3 HN4
    go_wp2
    exact bodyPost_ret (v := .agg #[.int .i64 3, .int .i64 q3, .int .i64 0]) (by simp [results, Try.results20, go_sem, m0, m1, m2]) rfl (by exact ⟨⟨3, q3, 0⟩, rfl, by simp [insOk, wB, operandOk, operandsN]; omega, ⟨_, ((HM4.out.set (g := w.heap.size) (by omega)).set (g := w.heap.size) (by omega)).set (g := w.heap.size) (by omega)⟩, gc_new (gc_new (gc_new HG4.out (Nat.le_refl _)) (Nat.le_refl _)) (Nat.le_refl _)⟩)
  · have hzb : (q2 == 0) = false := by simpa using hz
    go_wp2
    exact bodyPost_ret (v := .agg #[.int .i64 3, .int .i64 q1, .int .i64 0]) (by simp [results, Try.results20, go_sem, m0, m1, m2]) rfl (by exact ⟨⟨3, q1, 0⟩, rfl, by simp [insOk, wB, operandOk, operandsN]; omega, ⟨_, ((HM3.out.set (g := w.heap.size) (by omega)).set (g := w.heap.size) (by omega)).set (g := w.heap.size) (by omega)⟩, gc_new (gc_new (gc_new HG3.out (Nat.le_refl _)) (Nat.le_refl _)) (Nat.le_refl _)⟩)

set_option maxRecDepth 100000 in
set_option maxHeartbeats 2000000 in
theorem ins_4 (mb : Nat) (r : List Int) (w : World) (h : MkR w mb r) (hq : mpick r 21 = 4) :
    Calls Try.prog 20 #[.pointer (some ⟨mb, 0, none⟩)] w (MadeIns mb w) := by
  have HM := hide h
  have hml := h.lt
  clear h
  have HB0 := hide (Box3.new w 54 (.int .i64 0) (.int .i64 0) (.int .i64 0))
  have HGw := hide ((Gr.alloc (Gr.refl w) (.cells #[.int .i64 0, .int .i64 0, .int .i64 0] 54)).toGc (cb := mb))
  have HN1 : ∀ V : World, Hid (MkR V mb r → Calls Try.prog 17 #[.pointer (some ⟨mb, 0, none⟩), .int .i64 21] V fun x w' => x = .returned (.int .i64 4) ∧ MkR w' mb r.tail ∧ Gc mb V w') := fun V => hide (by
    intro hV; have hh := next_any mb r 21 (by decide) (by decide) V hV; rw [hq] at hh; exact hh)
  clear hq
  go_enter Try.func20, Try.ntmps20
  go_wp2_with fail
  refine ((HN1 _).out (HM.out.gr ((Gr.refl w).alloc _))).mono ?_
  rintro x w1 ⟨rfl, hm1, hg1⟩
  have hs1 : w.heap.size < w1.heap.size := by have := hg1.size; simp at this; omega
  have hga := Gr.alloc (Gr.refl w1) (.cells #[.int .i64 4, .int .i64 0, .int .i64 0] 54)
  have HRB1 := hide ((HB0.out.gc hg1 (by omega)).gc (hga.toGc (cb := mb)) (by omega))
  have HIB1 := hide (Box3.new w1 54 (.int .i64 4) (.int .i64 0) (.int .i64 0))
  have HG1 := hide ((HGw.out.trans hg1).trans (hga.toGc (cb := mb)))
  have HM1 := hide (hm1.gr hga)
  have hne : ¬ w.heap.size = w1.heap.size := by omega
  have hne2 : ¬ w1.heap.size = w.heap.size := by omega
  obtain ⟨p0, p1, p2, r0, r1, r2⟩ := HB0.out.gc hg1 (by omega)
  have HM0 := hide hm1
  have HG0 := hide (HGw.out.trans hg1)
  clear hm1 hg1 hga HB0 HGw HN1 HM
  obtain ⟨i0, i1, i2, y0, y1, y2⟩ := HIB1.out
  obtain ⟨m0, m1, m2, n0, n1, n2⟩ := HRB1.out
  clear m0 m1 m2 n0 n1 n2
  have hF : Box3 ((((w1.setCell ⟨w.heap.size, 0, none⟩ (.int .i64 4)).setCell ⟨w.heap.size, 1, none⟩ (.int .i64 0)).setCell ⟨w.heap.size, 2, none⟩ (.int .i64 0)).alloc (.cells #[.int .i64 4, .int .i64 0, .int .i64 0] 54)) w.heap.size (.int .i64 4) (.int .i64 0) (.int .i64 0) := (((Box3.set0 (.int .i64 4) (show Box3 w1 w.heap.size (.int .i64 0) (.int .i64 0) (.int .i64 0) from ⟨p0, p1, p2, r0, r1, r2⟩)).set1 (.int .i64 0)).set2 (.int .i64 0)).gc ((Gr.alloc (Gr.refl _) (.cells #[.int .i64 4, .int .i64 0, .int .i64 0] 54)).toGc (cb := mb)) (by omega)
  have HF := hide hF
  clear hF
  go_wp2
  obtain ⟨c0, c1, c2, _, _, _⟩ := HF.out
  exact bodyPost_ret (v := .agg #[.int .i64 4, .int .i64 0, .int .i64 0]) (by simp [results, Try.results20, go_sem, c0, c1, c2]) rfl (by exact ⟨⟨4, 0, 0⟩, rfl, by simp [insOk, wB, operandOk, operandsN], ⟨_, (((HM0.out.set (g := w.heap.size) (by omega)).set (g := w.heap.size) (by omega)).set (g := w.heap.size) (by omega)).gr ((Gr.refl _).alloc _)⟩, Gc.trans_ (gc_new (gc_new (gc_new HG0.out (Nat.le_refl _)) (Nat.le_refl _)) (Nat.le_refl _)) ((Gr.refl _).alloc _).toGc⟩)

set_option maxRecDepth 100000 in
set_option maxHeartbeats 2000000 in
theorem ins_5 (mb : Nat) (r : List Int) (w : World) (h : MkR w mb r) (hq : mpick r 21 = 5) :
    Calls Try.prog 20 #[.pointer (some ⟨mb, 0, none⟩)] w (MadeIns mb w) := by
  have HM := hide h
  have hml := h.lt
  clear h
  have HB0 := hide (Box3.new w 54 (.int .i64 0) (.int .i64 0) (.int .i64 0))
  have HGw := hide ((Gr.alloc (Gr.refl w) (.cells #[.int .i64 0, .int .i64 0, .int .i64 0] 54)).toGc (cb := mb))
  have HN1 : ∀ V : World, Hid (MkR V mb r → Calls Try.prog 17 #[.pointer (some ⟨mb, 0, none⟩), .int .i64 21] V fun x w' => x = .returned (.int .i64 5) ∧ MkR w' mb r.tail ∧ Gc mb V w') := fun V => hide (by
    intro hV; have hh := next_any mb r 21 (by decide) (by decide) V hV; rw [hq] at hh; exact hh)
  clear hq
  go_enter Try.func20, Try.ntmps20
  go_wp2_with fail
  refine ((HN1 _).out (HM.out.gr ((Gr.refl w).alloc _))).mono ?_
  rintro x w1 ⟨rfl, hm1, hg1⟩
  have hs1 : w.heap.size < w1.heap.size := by have := hg1.size; simp at this; omega
  have hga := Gr.alloc (Gr.refl w1) (.cells #[.int .i64 5, .int .i64 0, .int .i64 0] 54)
  have HRB1 := hide ((HB0.out.gc hg1 (by omega)).gc (hga.toGc (cb := mb)) (by omega))
  have HIB1 := hide (Box3.new w1 54 (.int .i64 5) (.int .i64 0) (.int .i64 0))
  have HG1 := hide ((HGw.out.trans hg1).trans (hga.toGc (cb := mb)))
  have HM1 := hide (hm1.gr hga)
  have hne : ¬ w.heap.size = w1.heap.size := by omega
  have hne2 : ¬ w1.heap.size = w.heap.size := by omega
  obtain ⟨p0, p1, p2, r0, r1, r2⟩ := HB0.out.gc hg1 (by omega)
  have HM0 := hide hm1
  have HG0 := hide (HGw.out.trans hg1)
  clear hm1 hg1 hga HB0 HGw HN1 HM
  obtain ⟨i0, i1, i2, y0, y1, y2⟩ := HIB1.out
  obtain ⟨m0, m1, m2, n0, n1, n2⟩ := HRB1.out
  clear m0 m1 m2 n0 n1 n2
  have hF : Box3 ((((w1.setCell ⟨w.heap.size, 0, none⟩ (.int .i64 5)).setCell ⟨w.heap.size, 1, none⟩ (.int .i64 0)).setCell ⟨w.heap.size, 2, none⟩ (.int .i64 0)).alloc (.cells #[.int .i64 5, .int .i64 0, .int .i64 0] 54)) w.heap.size (.int .i64 5) (.int .i64 0) (.int .i64 0) := (((Box3.set0 (.int .i64 5) (show Box3 w1 w.heap.size (.int .i64 0) (.int .i64 0) (.int .i64 0) from ⟨p0, p1, p2, r0, r1, r2⟩)).set1 (.int .i64 0)).set2 (.int .i64 0)).gc ((Gr.alloc (Gr.refl _) (.cells #[.int .i64 5, .int .i64 0, .int .i64 0] 54)).toGc (cb := mb)) (by omega)
  have HF := hide hF
  clear hF
  go_wp2
  obtain ⟨c0, c1, c2, _, _, _⟩ := HF.out
  exact bodyPost_ret (v := .agg #[.int .i64 5, .int .i64 0, .int .i64 0]) (by simp [results, Try.results20, go_sem, c0, c1, c2]) rfl (by exact ⟨⟨5, 0, 0⟩, rfl, by simp [insOk, wB, operandOk, operandsN], ⟨_, (((HM0.out.set (g := w.heap.size) (by omega)).set (g := w.heap.size) (by omega)).set (g := w.heap.size) (by omega)).gr ((Gr.refl _).alloc _)⟩, Gc.trans_ (gc_new (gc_new (gc_new HG0.out (Nat.le_refl _)) (Nat.le_refl _)) (Nat.le_refl _)) ((Gr.refl _).alloc _).toGc⟩)

set_option maxRecDepth 100000 in
set_option maxHeartbeats 2000000 in
theorem ins_6 (mb : Nat) (r : List Int) (w : World) (h : MkR w mb r) (hq : mpick r 21 = 6) :
    Calls Try.prog 20 #[.pointer (some ⟨mb, 0, none⟩)] w (MadeIns mb w) := by
  have HM := hide h
  have hml := h.lt
  clear h
  have HB0 := hide (Box3.new w 54 (.int .i64 0) (.int .i64 0) (.int .i64 0))
  have HGw := hide ((Gr.alloc (Gr.refl w) (.cells #[.int .i64 0, .int .i64 0, .int .i64 0] 54)).toGc (cb := mb))
  have HN1 : ∀ V : World, Hid (MkR V mb r → Calls Try.prog 17 #[.pointer (some ⟨mb, 0, none⟩), .int .i64 21] V fun x w' => x = .returned (.int .i64 6) ∧ MkR w' mb r.tail ∧ Gc mb V w') := fun V => hide (by
    intro hV; have hh := next_any mb r 21 (by decide) (by decide) V hV; rw [hq] at hh; exact hh)
  clear hq
  go_enter Try.func20, Try.ntmps20
  go_wp2_with fail
  refine ((HN1 _).out (HM.out.gr ((Gr.refl w).alloc _))).mono ?_
  rintro x w1 ⟨rfl, hm1, hg1⟩
  have hs1 : w.heap.size < w1.heap.size := by have := hg1.size; simp at this; omega
  have hga := Gr.alloc (Gr.refl w1) (.cells #[.int .i64 6, .int .i64 0, .int .i64 0] 54)
  have HRB1 := hide ((HB0.out.gc hg1 (by omega)).gc (hga.toGc (cb := mb)) (by omega))
  have HIB1 := hide (Box3.new w1 54 (.int .i64 6) (.int .i64 0) (.int .i64 0))
  have HG1 := hide ((HGw.out.trans hg1).trans (hga.toGc (cb := mb)))
  have HM1 := hide (hm1.gr hga)
  have hne : ¬ w.heap.size = w1.heap.size := by omega
  have hne2 : ¬ w1.heap.size = w.heap.size := by omega
  obtain ⟨p0, p1, p2, r0, r1, r2⟩ := HB0.out.gc hg1 (by omega)
  have HM0 := hide hm1
  have HG0 := hide (HGw.out.trans hg1)
  clear hm1 hg1 hga HB0 HGw HN1 HM
  obtain ⟨i0, i1, i2, y0, y1, y2⟩ := HIB1.out
  obtain ⟨m0, m1, m2, n0, n1, n2⟩ := HRB1.out
  clear m0 m1 m2 n0 n1 n2
  have hF : Box3 ((((w1.setCell ⟨w.heap.size, 0, none⟩ (.int .i64 6)).setCell ⟨w.heap.size, 1, none⟩ (.int .i64 0)).setCell ⟨w.heap.size, 2, none⟩ (.int .i64 0)).alloc (.cells #[.int .i64 6, .int .i64 0, .int .i64 0] 54)) w.heap.size (.int .i64 6) (.int .i64 0) (.int .i64 0) := (((Box3.set0 (.int .i64 6) (show Box3 w1 w.heap.size (.int .i64 0) (.int .i64 0) (.int .i64 0) from ⟨p0, p1, p2, r0, r1, r2⟩)).set1 (.int .i64 0)).set2 (.int .i64 0)).gc ((Gr.alloc (Gr.refl _) (.cells #[.int .i64 6, .int .i64 0, .int .i64 0] 54)).toGc (cb := mb)) (by omega)
  have HF := hide hF
  clear hF
  go_wp2
  obtain ⟨c0, c1, c2, _, _, _⟩ := HF.out
  exact bodyPost_ret (v := .agg #[.int .i64 6, .int .i64 0, .int .i64 0]) (by simp [results, Try.results20, go_sem, c0, c1, c2]) rfl (by exact ⟨⟨6, 0, 0⟩, rfl, by simp [insOk, wB, operandOk, operandsN], ⟨_, (((HM0.out.set (g := w.heap.size) (by omega)).set (g := w.heap.size) (by omega)).set (g := w.heap.size) (by omega)).gr ((Gr.refl _).alloc _)⟩, Gc.trans_ (gc_new (gc_new (gc_new HG0.out (Nat.le_refl _)) (Nat.le_refl _)) (Nat.le_refl _)) ((Gr.refl _).alloc _).toGc⟩)

set_option maxRecDepth 100000 in
set_option maxHeartbeats 2000000 in
theorem ins_7 (mb : Nat) (r : List Int) (w : World) (h : MkR w mb r) (hq : mpick r 21 = 7) :
    Calls Try.prog 20 #[.pointer (some ⟨mb, 0, none⟩)] w (MadeIns mb w) := by
  have HM := hide h
  have hml := h.lt
  clear h
  have HB0 := hide (Box3.new w 54 (.int .i64 0) (.int .i64 0) (.int .i64 0))
  have HGw := hide ((Gr.alloc (Gr.refl w) (.cells #[.int .i64 0, .int .i64 0, .int .i64 0] 54)).toGc (cb := mb))
  have HN1 : ∀ V : World, Hid (MkR V mb r → Calls Try.prog 17 #[.pointer (some ⟨mb, 0, none⟩), .int .i64 21] V fun x w' => x = .returned (.int .i64 7) ∧ MkR w' mb r.tail ∧ Gc mb V w') := fun V => hide (by
    intro hV; have hh := next_any mb r 21 (by decide) (by decide) V hV; rw [hq] at hh; exact hh)
  clear hq
  go_enter Try.func20, Try.ntmps20
  go_wp2_with fail
  refine ((HN1 _).out (HM.out.gr ((Gr.refl w).alloc _))).mono ?_
  rintro x w1 ⟨rfl, hm1, hg1⟩
  have hs1 : w.heap.size < w1.heap.size := by have := hg1.size; simp at this; omega
  have hga := Gr.alloc (Gr.refl w1) (.cells #[.int .i64 7, .int .i64 0, .int .i64 0] 54)
  have HRB1 := hide ((HB0.out.gc hg1 (by omega)).gc (hga.toGc (cb := mb)) (by omega))
  have HIB1 := hide (Box3.new w1 54 (.int .i64 7) (.int .i64 0) (.int .i64 0))
  have HG1 := hide ((HGw.out.trans hg1).trans (hga.toGc (cb := mb)))
  have HM1 := hide (hm1.gr hga)
  have hne : ¬ w.heap.size = w1.heap.size := by omega
  have hne2 : ¬ w1.heap.size = w.heap.size := by omega
  obtain ⟨p0, p1, p2, r0, r1, r2⟩ := HB0.out.gc hg1 (by omega)
  have HM0 := hide hm1
  have HG0 := hide (HGw.out.trans hg1)
  clear hm1 hg1 hga HB0 HGw HN1 HM
  obtain ⟨i0, i1, i2, y0, y1, y2⟩ := HIB1.out
  obtain ⟨m0, m1, m2, n0, n1, n2⟩ := HRB1.out
  clear m0 m1 m2 n0 n1 n2
  have hF : Box3 ((((w1.setCell ⟨w.heap.size, 0, none⟩ (.int .i64 7)).setCell ⟨w.heap.size, 1, none⟩ (.int .i64 0)).setCell ⟨w.heap.size, 2, none⟩ (.int .i64 0)).alloc (.cells #[.int .i64 7, .int .i64 0, .int .i64 0] 54)) w.heap.size (.int .i64 7) (.int .i64 0) (.int .i64 0) := (((Box3.set0 (.int .i64 7) (show Box3 w1 w.heap.size (.int .i64 0) (.int .i64 0) (.int .i64 0) from ⟨p0, p1, p2, r0, r1, r2⟩)).set1 (.int .i64 0)).set2 (.int .i64 0)).gc ((Gr.alloc (Gr.refl _) (.cells #[.int .i64 7, .int .i64 0, .int .i64 0] 54)).toGc (cb := mb)) (by omega)
  have HF := hide hF
  clear hF
  go_wp2
  obtain ⟨c0, c1, c2, _, _, _⟩ := HF.out
  exact bodyPost_ret (v := .agg #[.int .i64 7, .int .i64 0, .int .i64 0]) (by simp [results, Try.results20, go_sem, c0, c1, c2]) rfl (by exact ⟨⟨7, 0, 0⟩, rfl, by simp [insOk, wB, operandOk, operandsN], ⟨_, (((HM0.out.set (g := w.heap.size) (by omega)).set (g := w.heap.size) (by omega)).set (g := w.heap.size) (by omega)).gr ((Gr.refl _).alloc _)⟩, Gc.trans_ (gc_new (gc_new (gc_new HG0.out (Nat.le_refl _)) (Nat.le_refl _)) (Nat.le_refl _)) ((Gr.refl _).alloc _).toGc⟩)

set_option maxRecDepth 100000 in
set_option maxHeartbeats 2000000 in
theorem ins_8 (mb : Nat) (r : List Int) (w : World) (h : MkR w mb r) (hq : mpick r 21 = 8) :
    Calls Try.prog 20 #[.pointer (some ⟨mb, 0, none⟩)] w (MadeIns mb w) := by
  have HM := hide h
  have hml := h.lt
  clear h
  have HB0 := hide (Box3.new w 54 (.int .i64 0) (.int .i64 0) (.int .i64 0))
  have HGw := hide ((Gr.alloc (Gr.refl w) (.cells #[.int .i64 0, .int .i64 0, .int .i64 0] 54)).toGc (cb := mb))
  have HN1 : ∀ V : World, Hid (MkR V mb r → Calls Try.prog 17 #[.pointer (some ⟨mb, 0, none⟩), .int .i64 21] V fun x w' => x = .returned (.int .i64 8) ∧ MkR w' mb r.tail ∧ Gc mb V w') := fun V => hide (by
    intro hV; have hh := next_any mb r 21 (by decide) (by decide) V hV; rw [hq] at hh; exact hh)
  clear hq
  go_enter Try.func20, Try.ntmps20
  go_wp2_with fail
  refine ((HN1 _).out (HM.out.gr ((Gr.refl w).alloc _))).mono ?_
  rintro x w1 ⟨rfl, hm1, hg1⟩
  have hs1 : w.heap.size < w1.heap.size := by have := hg1.size; simp at this; omega
  have hga := Gr.alloc (Gr.refl w1) (.cells #[.int .i64 8, .int .i64 0, .int .i64 0] 54)
  have HRB1 := hide ((HB0.out.gc hg1 (by omega)).gc (hga.toGc (cb := mb)) (by omega))
  have HIB1 := hide (Box3.new w1 54 (.int .i64 8) (.int .i64 0) (.int .i64 0))
  have HG1 := hide ((HGw.out.trans hg1).trans (hga.toGc (cb := mb)))
  have HM1 := hide (hm1.gr hga)
  have hne : ¬ w.heap.size = w1.heap.size := by omega
  have hne2 : ¬ w1.heap.size = w.heap.size := by omega
  obtain ⟨p0, p1, p2, r0, r1, r2⟩ := HB0.out.gc hg1 (by omega)
  have HM0 := hide hm1
  have HG0 := hide (HGw.out.trans hg1)
  clear hm1 hg1 hga HB0 HGw HN1 HM
  obtain ⟨i0, i1, i2, y0, y1, y2⟩ := HIB1.out
  obtain ⟨m0, m1, m2, n0, n1, n2⟩ := HRB1.out
  clear m0 m1 m2 n0 n1 n2
  have hF : Box3 ((((w1.setCell ⟨w.heap.size, 0, none⟩ (.int .i64 8)).setCell ⟨w.heap.size, 1, none⟩ (.int .i64 0)).setCell ⟨w.heap.size, 2, none⟩ (.int .i64 0)).alloc (.cells #[.int .i64 8, .int .i64 0, .int .i64 0] 54)) w.heap.size (.int .i64 8) (.int .i64 0) (.int .i64 0) := (((Box3.set0 (.int .i64 8) (show Box3 w1 w.heap.size (.int .i64 0) (.int .i64 0) (.int .i64 0) from ⟨p0, p1, p2, r0, r1, r2⟩)).set1 (.int .i64 0)).set2 (.int .i64 0)).gc ((Gr.alloc (Gr.refl _) (.cells #[.int .i64 8, .int .i64 0, .int .i64 0] 54)).toGc (cb := mb)) (by omega)
  have HF := hide hF
  clear hF
  go_wp2
  obtain ⟨c0, c1, c2, _, _, _⟩ := HF.out
  exact bodyPost_ret (v := .agg #[.int .i64 8, .int .i64 0, .int .i64 0]) (by simp [results, Try.results20, go_sem, c0, c1, c2]) rfl (by exact ⟨⟨8, 0, 0⟩, rfl, by simp [insOk, wB, operandOk, operandsN], ⟨_, (((HM0.out.set (g := w.heap.size) (by omega)).set (g := w.heap.size) (by omega)).set (g := w.heap.size) (by omega)).gr ((Gr.refl _).alloc _)⟩, Gc.trans_ (gc_new (gc_new (gc_new HG0.out (Nat.le_refl _)) (Nat.le_refl _)) (Nat.le_refl _)) ((Gr.refl _).alloc _).toGc⟩)

set_option maxRecDepth 100000 in
set_option maxHeartbeats 2000000 in
theorem ins_9 (mb : Nat) (r : List Int) (w : World) (h : MkR w mb r) (hq : mpick r 21 = 9) :
    Calls Try.prog 20 #[.pointer (some ⟨mb, 0, none⟩)] w (MadeIns mb w) := by
  have HM := hide h
  have hml := h.lt
  clear h
  have HB0 := hide (Box3.new w 54 (.int .i64 0) (.int .i64 0) (.int .i64 0))
  have HGw := hide ((Gr.alloc (Gr.refl w) (.cells #[.int .i64 0, .int .i64 0, .int .i64 0] 54)).toGc (cb := mb))
  have HN1 : ∀ V : World, Hid (MkR V mb r → Calls Try.prog 17 #[.pointer (some ⟨mb, 0, none⟩), .int .i64 21] V fun x w' => x = .returned (.int .i64 9) ∧ MkR w' mb r.tail ∧ Gc mb V w') := fun V => hide (by
    intro hV; have hh := next_any mb r 21 (by decide) (by decide) V hV; rw [hq] at hh; exact hh)
  clear hq
  go_enter Try.func20, Try.ntmps20
  go_wp2_with fail
  refine ((HN1 _).out (HM.out.gr ((Gr.refl w).alloc _))).mono ?_
  rintro x w1 ⟨rfl, hm1, hg1⟩
  have hs1 : w.heap.size < w1.heap.size := by have := hg1.size; simp at this; omega
  have hga := Gr.alloc (Gr.refl w1) (.cells #[.int .i64 9, .int .i64 0, .int .i64 0] 54)
  have HRB1 := hide ((HB0.out.gc hg1 (by omega)).gc (hga.toGc (cb := mb)) (by omega))
  have HIB1 := hide (Box3.new w1 54 (.int .i64 9) (.int .i64 0) (.int .i64 0))
  have HG1 := hide ((HGw.out.trans hg1).trans (hga.toGc (cb := mb)))
  have HM1 := hide (hm1.gr hga)
  have hne : ¬ w.heap.size = w1.heap.size := by omega
  have hne2 : ¬ w1.heap.size = w.heap.size := by omega
  obtain ⟨p0, p1, p2, r0, r1, r2⟩ := HB0.out.gc hg1 (by omega)
  have HM0 := hide hm1
  have HG0 := hide (HGw.out.trans hg1)
  clear hm1 hg1 hga HB0 HGw HN1 HM
  obtain ⟨i0, i1, i2, y0, y1, y2⟩ := HIB1.out
  obtain ⟨m0, m1, m2, n0, n1, n2⟩ := HRB1.out
  clear m0 m1 m2 n0 n1 n2
  have hF : Box3 ((((w1.setCell ⟨w.heap.size, 0, none⟩ (.int .i64 9)).setCell ⟨w.heap.size, 1, none⟩ (.int .i64 0)).setCell ⟨w.heap.size, 2, none⟩ (.int .i64 0)).alloc (.cells #[.int .i64 9, .int .i64 0, .int .i64 0] 54)) w.heap.size (.int .i64 9) (.int .i64 0) (.int .i64 0) := (((Box3.set0 (.int .i64 9) (show Box3 w1 w.heap.size (.int .i64 0) (.int .i64 0) (.int .i64 0) from ⟨p0, p1, p2, r0, r1, r2⟩)).set1 (.int .i64 0)).set2 (.int .i64 0)).gc ((Gr.alloc (Gr.refl _) (.cells #[.int .i64 9, .int .i64 0, .int .i64 0] 54)).toGc (cb := mb)) (by omega)
  have HF := hide hF
  clear hF
  go_wp2
  obtain ⟨c0, c1, c2, _, _, _⟩ := HF.out
  exact bodyPost_ret (v := .agg #[.int .i64 9, .int .i64 0, .int .i64 0]) (by simp [results, Try.results20, go_sem, c0, c1, c2]) rfl (by exact ⟨⟨9, 0, 0⟩, rfl, by simp [insOk, wB, operandOk, operandsN], ⟨_, (((HM0.out.set (g := w.heap.size) (by omega)).set (g := w.heap.size) (by omega)).set (g := w.heap.size) (by omega)).gr ((Gr.refl _).alloc _)⟩, Gc.trans_ (gc_new (gc_new (gc_new HG0.out (Nat.le_refl _)) (Nat.le_refl _)) (Nat.le_refl _)) ((Gr.refl _).alloc _).toGc⟩)

set_option maxRecDepth 100000 in
set_option maxHeartbeats 2000000 in
theorem ins_10 (mb : Nat) (r : List Int) (w : World) (h : MkR w mb r) (hq : mpick r 21 = 10) :
    Calls Try.prog 20 #[.pointer (some ⟨mb, 0, none⟩)] w (MadeIns mb w) := by
  have HM := hide h
  have hml := h.lt
  clear h
  have HB0 := hide (Box3.new w 54 (.int .i64 0) (.int .i64 0) (.int .i64 0))
  have HGw := hide ((Gr.alloc (Gr.refl w) (.cells #[.int .i64 0, .int .i64 0, .int .i64 0] 54)).toGc (cb := mb))
  have HN1 : ∀ V : World, Hid (MkR V mb r → Calls Try.prog 17 #[.pointer (some ⟨mb, 0, none⟩), .int .i64 21] V fun x w' => x = .returned (.int .i64 10) ∧ MkR w' mb r.tail ∧ Gc mb V w') := fun V => hide (by
    intro hV; have hh := next_any mb r 21 (by decide) (by decide) V hV; rw [hq] at hh; exact hh)
  clear hq
  go_enter Try.func20, Try.ntmps20
  go_wp2_with fail
  refine ((HN1 _).out (HM.out.gr ((Gr.refl w).alloc _))).mono ?_
  rintro x w1 ⟨rfl, hm1, hg1⟩
  have hs1 : w.heap.size < w1.heap.size := by have := hg1.size; simp at this; omega
  have hga := Gr.alloc (Gr.refl w1) (.cells #[.int .i64 10, .int .i64 0, .int .i64 0] 54)
  have HRB1 := hide ((HB0.out.gc hg1 (by omega)).gc (hga.toGc (cb := mb)) (by omega))
  have HIB1 := hide (Box3.new w1 54 (.int .i64 10) (.int .i64 0) (.int .i64 0))
  have HG1 := hide ((HGw.out.trans hg1).trans (hga.toGc (cb := mb)))
  have HM1 := hide (hm1.gr hga)
  have hne : ¬ w.heap.size = w1.heap.size := by omega
  have hne2 : ¬ w1.heap.size = w.heap.size := by omega
  obtain ⟨p0, p1, p2, r0, r1, r2⟩ := HB0.out.gc hg1 (by omega)
  have HM0 := hide hm1
  have HG0 := hide (HGw.out.trans hg1)
  clear hm1 hg1 hga HB0 HGw HN1 HM
  obtain ⟨i0, i1, i2, y0, y1, y2⟩ := HIB1.out
  obtain ⟨m0, m1, m2, n0, n1, n2⟩ := HRB1.out
  clear m0 m1 m2 n0 n1 n2
  have hF : Box3 ((((w1.setCell ⟨w.heap.size, 0, none⟩ (.int .i64 10)).setCell ⟨w.heap.size, 1, none⟩ (.int .i64 0)).setCell ⟨w.heap.size, 2, none⟩ (.int .i64 0)).alloc (.cells #[.int .i64 10, .int .i64 0, .int .i64 0] 54)) w.heap.size (.int .i64 10) (.int .i64 0) (.int .i64 0) := (((Box3.set0 (.int .i64 10) (show Box3 w1 w.heap.size (.int .i64 0) (.int .i64 0) (.int .i64 0) from ⟨p0, p1, p2, r0, r1, r2⟩)).set1 (.int .i64 0)).set2 (.int .i64 0)).gc ((Gr.alloc (Gr.refl _) (.cells #[.int .i64 10, .int .i64 0, .int .i64 0] 54)).toGc (cb := mb)) (by omega)
  have HF := hide hF
  clear hF
  go_wp2
  obtain ⟨c0, c1, c2, _, _, _⟩ := HF.out
  exact bodyPost_ret (v := .agg #[.int .i64 10, .int .i64 0, .int .i64 0]) (by simp [results, Try.results20, go_sem, c0, c1, c2]) rfl (by exact ⟨⟨10, 0, 0⟩, rfl, by simp [insOk, wB, operandOk, operandsN], ⟨_, (((HM0.out.set (g := w.heap.size) (by omega)).set (g := w.heap.size) (by omega)).set (g := w.heap.size) (by omega)).gr ((Gr.refl _).alloc _)⟩, Gc.trans_ (gc_new (gc_new (gc_new HG0.out (Nat.le_refl _)) (Nat.le_refl _)) (Nat.le_refl _)) ((Gr.refl _).alloc _).toGc⟩)

set_option maxRecDepth 100000 in
set_option maxHeartbeats 2000000 in
theorem ins_11 (mb : Nat) (r : List Int) (w : World) (h : MkR w mb r) (hq : mpick r 21 = 11) :
    Calls Try.prog 20 #[.pointer (some ⟨mb, 0, none⟩)] w (MadeIns mb w) := by
  have HM := hide h
  have hml := h.lt
  clear h
  have HB0 := hide (Box3.new w 54 (.int .i64 0) (.int .i64 0) (.int .i64 0))
  have HGw := hide ((Gr.alloc (Gr.refl w) (.cells #[.int .i64 0, .int .i64 0, .int .i64 0] 54)).toGc (cb := mb))
  have HN1 : ∀ V : World, Hid (MkR V mb r → Calls Try.prog 17 #[.pointer (some ⟨mb, 0, none⟩), .int .i64 21] V fun x w' => x = .returned (.int .i64 11) ∧ MkR w' mb r.tail ∧ Gc mb V w') := fun V => hide (by
    intro hV; have hh := next_any mb r 21 (by decide) (by decide) V hV; rw [hq] at hh; exact hh)
  clear hq
  go_enter Try.func20, Try.ntmps20
  go_wp2_with fail
  refine ((HN1 _).out (HM.out.gr ((Gr.refl w).alloc _))).mono ?_
  rintro x w1 ⟨rfl, hm1, hg1⟩
  have hs1 : w.heap.size < w1.heap.size := by have := hg1.size; simp at this; omega
  have hga := Gr.alloc (Gr.refl w1) (.cells #[.int .i64 11, .int .i64 0, .int .i64 0] 54)
  have HRB1 := hide ((HB0.out.gc hg1 (by omega)).gc (hga.toGc (cb := mb)) (by omega))
  have HIB1 := hide (Box3.new w1 54 (.int .i64 11) (.int .i64 0) (.int .i64 0))
  have HG1 := hide ((HGw.out.trans hg1).trans (hga.toGc (cb := mb)))
  have HM1 := hide (hm1.gr hga)
  have hne : ¬ w.heap.size = w1.heap.size := by omega
  have hne2 : ¬ w1.heap.size = w.heap.size := by omega
  clear hm1 hg1 hga HB0 HGw HN1 HM
  obtain ⟨i0, i1, i2, y0, y1, y2⟩ := HIB1.out
  obtain ⟨m0, m1, m2, n0, n1, n2⟩ := HRB1.out
  have hq1 := mpick_lt (r := r.tail) (n := 6) (by decide)
  have HN2 : ∀ V : World, Hid (MkR V mb r.tail → Calls Try.prog 17 #[.pointer (some ⟨mb, 0, none⟩), .int .i64 6] V fun x w' => x = .returned (.int .i64 (mpick r.tail 6)) ∧ MkR w' mb r.tail.tail ∧ Gc mb V w') := fun V => hide (next_any mb r.tail 6 (by decide) (by decide) V)
  generalize mpick r.tail 6 = q1 at hq1 HN2
  go_wp2_with fail
  refine ((HN2 _).out HM1.out).mono ?_
  rintro x w2 ⟨rfl, hm2, hg2⟩
  have hib := HIB1.out.gc hg2 (by omega)
  have hrb := HRB1.out.gc hg2 (by omega)
  have hgx := HG1.out.trans hg2
  have hs2 : w1.heap.size < w2.heap.size := Nat.lt_of_lt_of_le (World.block_lt_of_cell? _ _ HIB1.out.1) hg2.size
  obtain ⟨i0, i1, i2, y0, y1, y2⟩ := hib
  obtain ⟨m0, m1, m2, n0, n1, n2⟩ := hrb
  have HIB2 := hide (Box3.set1 (.int .i64 q1) (HIB1.out.gc hg2 (by omega)))
  have HRB2 := hide ((HRB1.out.gc hg2 (by omega)).other (g := w1.heap.size) (o := 1) (v := (.int .i64 q1)) (by omega))
  have HG2 := hide (gc_new (g := w1.heap.size) (o := 1) (v := (.int .i64 q1)) hgx (by omega))
  have HM2 := hide (hm2.set (g := w1.heap.size) (o := 1) (v := (.int .i64 q1)) (by omega))
  clear hm2 hg2 hgx HIB1 HRB1 HG1 HM1 HN2
  have hq2 := mpick_lt (r := r.tail.tail) (n := 9) (by decide)
  have HN3 : ∀ V : World, Hid (MkR V mb r.tail.tail → Calls Try.prog 17 #[.pointer (some ⟨mb, 0, none⟩), .int .i64 9] V fun x w' => x = .returned (.int .i64 (mpick r.tail.tail 9)) ∧ MkR w' mb r.tail.tail.tail ∧ Gc mb V w') := fun V => hide (next_any mb r.tail.tail 9 (by decide) (by decide) V)
  generalize mpick r.tail.tail 9 = q2 at hq2 HN3
  go_wp2_with fail
  refine ((HN3 _).out HM2.out).mono ?_
  rintro x w3 ⟨rfl, hm3, hg3⟩
  have hib := HIB2.out.gc hg3 (by omega)
  have hrb := HRB2.out.gc hg3 (by omega)
  have hgx := HG2.out.trans hg3
  have hs3 : w1.heap.size < w3.heap.size := Nat.lt_of_lt_of_le (World.block_lt_of_cell? _ _ HIB2.out.1) hg3.size
  obtain ⟨i0, i1, i2, y0, y1, y2⟩ := hib
  obtain ⟨m0, m1, m2, n0, n1, n2⟩ := hrb
  have HIB3 := hide (HIB2.out.gc hg3 (by omega))
  have HRB3 := hide (HRB2.out.gc hg3 (by omega))
  have HG3 := hide hgx
  have HM3 := hide hm3
  clear hm3 hg3 hgx HIB2 HRB2 HG2 HM2 HN3
  by_cases hz : q2 = 0
  · have hq3 := mpick_lt (r := r.tail.tail.tail) (n := 65536) (by decide)
    have HN4 : ∀ V : World, Hid (MkR V mb r.tail.tail.tail → Calls Try.prog 17 #[.pointer (some ⟨mb, 0, none⟩), .int .i64 65536] V fun x w' => x = .returned (.int .i64 (mpick r.tail.tail.tail 65536)) ∧ MkR w' mb r.tail.tail.tail.tail ∧ Gc mb V w') := fun V => hide (next_any mb r.tail.tail.tail 65536 (by decide) (by decide) V)
    generalize mpick r.tail.tail.tail 65536 = q3 at hq3 HN4
    subst hz
    go_wp2_with fail
    refine ((HN4 _).out HM3.out).mono ?_
    rintro x w4 ⟨rfl, hm4, hg4⟩
    have hib := HIB3.out.gc hg4 (by omega)
    have hrb := HRB3.out.gc hg4 (by omega)
    have hgx := HG3.out.trans hg4
    have hs4 : w1.heap.size < w4.heap.size := Nat.lt_of_lt_of_le (World.block_lt_of_cell? _ _ HIB3.out.1) hg4.size
    obtain ⟨i0, i1, i2, y0, y1, y2⟩ := hib
    obtain ⟨m0, m1, m2, n0, n1, n2⟩ := hrb
    have HIB4 := hide (Box3.set1 (.int .i64 q3) (HIB3.out.gc hg4 (by omega)))
    have HRB4 := hide ((HRB3.out.gc hg4 (by omega)).other (g := w1.heap.size) (o := 1) (v := (.int .i64 q3)) (by omega))
    have HG4 := hide (gc_new (g := w1.heap.size) (o := 1) (v := (.int .i64 q3)) hgx (by omega))
    have HM4 := hide (hm4.set (g := w1.heap.size) (o := 1) (v := (.int .i64 q3)) (by omega))
    clear hm4 hg4 hgx HIB3 HRB3 HG3 HM3 HN4
    go_wp2
    exact bodyPost_ret (v := .agg #[.int .i64 11, .int .i64 q3, .int .i64 0]) (by simp [results, Try.results20, go_sem, m0, m1, m2]) rfl (by exact ⟨⟨11, q3, 0⟩, rfl, by simp [insOk, wB, operandOk, operandsN]; omega, ⟨_, ((HM4.out.set (g := w.heap.size) (by omega)).set (g := w.heap.size) (by omega)).set (g := w.heap.size) (by omega)⟩, gc_new (gc_new (gc_new HG4.out (Nat.le_refl _)) (Nat.le_refl _)) (Nat.le_refl _)⟩)
  · have hzb : (q2 == 0) = false := by simpa using hz
    go_wp2
    exact bodyPost_ret (v := .agg #[.int .i64 11, .int .i64 q1, .int .i64 0]) (by simp [results, Try.results20, go_sem, m0, m1, m2]) rfl (by exact ⟨⟨11, q1, 0⟩, rfl, by simp [insOk, wB, operandOk, operandsN]; omega, ⟨_, ((HM3.out.set (g := w.heap.size) (by omega)).set (g := w.heap.size) (by omega)).set (g := w.heap.size) (by omega)⟩, gc_new (gc_new (gc_new HG3.out (Nat.le_refl _)) (Nat.le_refl _)) (Nat.le_refl _)⟩)

set_option maxRecDepth 100000 in
set_option maxHeartbeats 2000000 in
theorem ins_12 (mb : Nat) (r : List Int) (w : World) (h : MkR w mb r) (hq : mpick r 21 = 12) :
    Calls Try.prog 20 #[.pointer (some ⟨mb, 0, none⟩)] w (MadeIns mb w) := by
  have HM := hide h
  have hml := h.lt
  clear h
  have HB0 := hide (Box3.new w 54 (.int .i64 0) (.int .i64 0) (.int .i64 0))
  have HGw := hide ((Gr.alloc (Gr.refl w) (.cells #[.int .i64 0, .int .i64 0, .int .i64 0] 54)).toGc (cb := mb))
  have HN1 : ∀ V : World, Hid (MkR V mb r → Calls Try.prog 17 #[.pointer (some ⟨mb, 0, none⟩), .int .i64 21] V fun x w' => x = .returned (.int .i64 12) ∧ MkR w' mb r.tail ∧ Gc mb V w') := fun V => hide (by
    intro hV; have hh := next_any mb r 21 (by decide) (by decide) V hV; rw [hq] at hh; exact hh)
  clear hq
  go_enter Try.func20, Try.ntmps20
  go_wp2_with fail
  refine ((HN1 _).out (HM.out.gr ((Gr.refl w).alloc _))).mono ?_
  rintro x w1 ⟨rfl, hm1, hg1⟩
  have hs1 : w.heap.size < w1.heap.size := by have := hg1.size; simp at this; omega
  have hga := Gr.alloc (Gr.refl w1) (.cells #[.int .i64 12, .int .i64 0, .int .i64 0] 54)
  have HRB1 := hide ((HB0.out.gc hg1 (by omega)).gc (hga.toGc (cb := mb)) (by omega))
  have HIB1 := hide (Box3.new w1 54 (.int .i64 12) (.int .i64 0) (.int .i64 0))
  have HG1 := hide ((HGw.out.trans hg1).trans (hga.toGc (cb := mb)))
  have HM1 := hide (hm1.gr hga)
  have hne : ¬ w.heap.size = w1.heap.size := by omega
  have hne2 : ¬ w1.heap.size = w.heap.size := by omega
  clear hm1 hg1 hga HB0 HGw HN1 HM
  obtain ⟨i0, i1, i2, y0, y1, y2⟩ := HIB1.out
  obtain ⟨m0, m1, m2, n0, n1, n2⟩ := HRB1.out
  have hq1 := mpick_lt (r := r.tail) (n := 6) (by decide)
  have HN2 : ∀ V : World, Hid (MkR V mb r.tail → Calls Try.prog 17 #[.pointer (some ⟨mb, 0, none⟩), .int .i64 6] V fun x w' => x = .returned (.int .i64 (mpick r.tail 6)) ∧ MkR w' mb r.tail.tail ∧ Gc mb V w') := fun V => hide (next_any mb r.tail 6 (by decide) (by decide) V)
  generalize mpick r.tail 6 = q1 at hq1 HN2
  go_wp2_with fail
  refine ((HN2 _).out HM1.out).mono ?_
  rintro x w2 ⟨rfl, hm2, hg2⟩
  have hib := HIB1.out.gc hg2 (by omega)
  have hrb := HRB1.out.gc hg2 (by omega)
  have hgx := HG1.out.trans hg2
  have hs2 : w1.heap.size < w2.heap.size := Nat.lt_of_lt_of_le (World.block_lt_of_cell? _ _ HIB1.out.1) hg2.size
  obtain ⟨i0, i1, i2, y0, y1, y2⟩ := hib
  obtain ⟨m0, m1, m2, n0, n1, n2⟩ := hrb
  have HIB2 := hide (Box3.set1 (.int .i64 q1) (HIB1.out.gc hg2 (by omega)))
  have HRB2 := hide ((HRB1.out.gc hg2 (by omega)).other (g := w1.heap.size) (o := 1) (v := (.int .i64 q1)) (by omega))
  have HG2 := hide (gc_new (g := w1.heap.size) (o := 1) (v := (.int .i64 q1)) hgx (by omega))
  have HM2 := hide (hm2.set (g := w1.heap.size) (o := 1) (v := (.int .i64 q1)) (by omega))
  clear hm2 hg2 hgx HIB1 HRB1 HG1 HM1 HN2
  have hq2 := mpick_lt (r := r.tail.tail) (n := 9) (by decide)
  have HN3 : ∀ V : World, Hid (MkR V mb r.tail.tail → Calls Try.prog 17 #[.pointer (some ⟨mb, 0, none⟩), .int .i64 9] V fun x w' => x = .returned (.int .i64 (mpick r.tail.tail 9)) ∧ MkR w' mb r.tail.tail.tail ∧ Gc mb V w') := fun V => hide (next_any mb r.tail.tail 9 (by decide) (by decide) V)
  generalize mpick r.tail.tail 9 = q2 at hq2 HN3
  go_wp2_with fail
  refine ((HN3 _).out HM2.out).mono ?_
  rintro x w3 ⟨rfl, hm3, hg3⟩
  have hib := HIB2.out.gc hg3 (by omega)
  have hrb := HRB2.out.gc hg3 (by omega)
  have hgx := HG2.out.trans hg3
  have hs3 : w1.heap.size < w3.heap.size := Nat.lt_of_lt_of_le (World.block_lt_of_cell? _ _ HIB2.out.1) hg3.size
  obtain ⟨i0, i1, i2, y0, y1, y2⟩ := hib
  obtain ⟨m0, m1, m2, n0, n1, n2⟩ := hrb
  have HIB3 := hide (HIB2.out.gc hg3 (by omega))
  have HRB3 := hide (HRB2.out.gc hg3 (by omega))
  have HG3 := hide hgx
  have HM3 := hide hm3
  clear hm3 hg3 hgx HIB2 HRB2 HG2 HM2 HN3
  by_cases hz : q2 = 0
  · have hq3 := mpick_lt (r := r.tail.tail.tail) (n := 65536) (by decide)
    have HN4 : ∀ V : World, Hid (MkR V mb r.tail.tail.tail → Calls Try.prog 17 #[.pointer (some ⟨mb, 0, none⟩), .int .i64 65536] V fun x w' => x = .returned (.int .i64 (mpick r.tail.tail.tail 65536)) ∧ MkR w' mb r.tail.tail.tail.tail ∧ Gc mb V w') := fun V => hide (next_any mb r.tail.tail.tail 65536 (by decide) (by decide) V)
    generalize mpick r.tail.tail.tail 65536 = q3 at hq3 HN4
    subst hz
    go_wp2_with fail
    refine ((HN4 _).out HM3.out).mono ?_
    rintro x w4 ⟨rfl, hm4, hg4⟩
    have hib := HIB3.out.gc hg4 (by omega)
    have hrb := HRB3.out.gc hg4 (by omega)
    have hgx := HG3.out.trans hg4
    have hs4 : w1.heap.size < w4.heap.size := Nat.lt_of_lt_of_le (World.block_lt_of_cell? _ _ HIB3.out.1) hg4.size
    obtain ⟨i0, i1, i2, y0, y1, y2⟩ := hib
    obtain ⟨m0, m1, m2, n0, n1, n2⟩ := hrb
    have HIB4 := hide (Box3.set1 (.int .i64 q3) (HIB3.out.gc hg4 (by omega)))
    have HRB4 := hide ((HRB3.out.gc hg4 (by omega)).other (g := w1.heap.size) (o := 1) (v := (.int .i64 q3)) (by omega))
    have HG4 := hide (gc_new (g := w1.heap.size) (o := 1) (v := (.int .i64 q3)) hgx (by omega))
    have HM4 := hide (hm4.set (g := w1.heap.size) (o := 1) (v := (.int .i64 q3)) (by omega))
    clear hm4 hg4 hgx HIB3 HRB3 HG3 HM3 HN4
    go_wp2
    exact bodyPost_ret (v := .agg #[.int .i64 12, .int .i64 q3, .int .i64 0]) (by simp [results, Try.results20, go_sem, m0, m1, m2]) rfl (by exact ⟨⟨12, q3, 0⟩, rfl, by simp [insOk, wB, operandOk, operandsN]; omega, ⟨_, ((HM4.out.set (g := w.heap.size) (by omega)).set (g := w.heap.size) (by omega)).set (g := w.heap.size) (by omega)⟩, gc_new (gc_new (gc_new HG4.out (Nat.le_refl _)) (Nat.le_refl _)) (Nat.le_refl _)⟩)
  · have hzb : (q2 == 0) = false := by simpa using hz
    go_wp2
    exact bodyPost_ret (v := .agg #[.int .i64 12, .int .i64 q1, .int .i64 0]) (by simp [results, Try.results20, go_sem, m0, m1, m2]) rfl (by exact ⟨⟨12, q1, 0⟩, rfl, by simp [insOk, wB, operandOk, operandsN]; omega, ⟨_, ((HM3.out.set (g := w.heap.size) (by omega)).set (g := w.heap.size) (by omega)).set (g := w.heap.size) (by omega)⟩, gc_new (gc_new (gc_new HG3.out (Nat.le_refl _)) (Nat.le_refl _)) (Nat.le_refl _)⟩)

set_option maxRecDepth 100000 in
set_option maxHeartbeats 2000000 in
theorem ins_13 (mb : Nat) (r : List Int) (w : World) (h : MkR w mb r) (hq : mpick r 21 = 13) :
    Calls Try.prog 20 #[.pointer (some ⟨mb, 0, none⟩)] w (MadeIns mb w) := by
  have HM := hide h
  have hml := h.lt
  clear h
  have HB0 := hide (Box3.new w 54 (.int .i64 0) (.int .i64 0) (.int .i64 0))
  have HGw := hide ((Gr.alloc (Gr.refl w) (.cells #[.int .i64 0, .int .i64 0, .int .i64 0] 54)).toGc (cb := mb))
  have HN1 : ∀ V : World, Hid (MkR V mb r → Calls Try.prog 17 #[.pointer (some ⟨mb, 0, none⟩), .int .i64 21] V fun x w' => x = .returned (.int .i64 13) ∧ MkR w' mb r.tail ∧ Gc mb V w') := fun V => hide (by
    intro hV; have hh := next_any mb r 21 (by decide) (by decide) V hV; rw [hq] at hh; exact hh)
  clear hq
  go_enter Try.func20, Try.ntmps20
  go_wp2_with fail
  refine ((HN1 _).out (HM.out.gr ((Gr.refl w).alloc _))).mono ?_
  rintro x w1 ⟨rfl, hm1, hg1⟩
  have hs1 : w.heap.size < w1.heap.size := by have := hg1.size; simp at this; omega
  have hga := Gr.alloc (Gr.refl w1) (.cells #[.int .i64 13, .int .i64 0, .int .i64 0] 54)
  have HRB1 := hide ((HB0.out.gc hg1 (by omega)).gc (hga.toGc (cb := mb)) (by omega))
  have HIB1 := hide (Box3.new w1 54 (.int .i64 13) (.int .i64 0) (.int .i64 0))
  have HG1 := hide ((HGw.out.trans hg1).trans (hga.toGc (cb := mb)))
  have HM1 := hide (hm1.gr hga)
  have hne : ¬ w.heap.size = w1.heap.size := by omega
  have hne2 : ¬ w1.heap.size = w.heap.size := by omega
  clear hm1 hg1 hga HB0 HGw HN1 HM
  obtain ⟨i0, i1, i2, y0, y1, y2⟩ := HIB1.out
  obtain ⟨m0, m1, m2, n0, n1, n2⟩ := HRB1.out
  have hq1 := mpick_lt (r := r.tail) (n := 6) (by decide)
  have HN2 : ∀ V : World, Hid (MkR V mb r.tail → Calls Try.prog 17 #[.pointer (some ⟨mb, 0, none⟩), .int .i64 6] V fun x w' => x = .returned (.int .i64 (mpick r.tail 6)) ∧ MkR w' mb r.tail.tail ∧ Gc mb V w') := fun V => hide (next_any mb r.tail 6 (by decide) (by decide) V)
  generalize mpick r.tail 6 = q1 at hq1 HN2
  go_wp2_with fail
  refine ((HN2 _).out HM1.out).mono ?_
  rintro x w2 ⟨rfl, hm2, hg2⟩
  have hib := HIB1.out.gc hg2 (by omega)
  have hrb := HRB1.out.gc hg2 (by omega)
  have hgx := HG1.out.trans hg2
  have hs2 : w1.heap.size < w2.heap.size := Nat.lt_of_lt_of_le (World.block_lt_of_cell? _ _ HIB1.out.1) hg2.size
  obtain ⟨i0, i1, i2, y0, y1, y2⟩ := hib
  obtain ⟨m0, m1, m2, n0, n1, n2⟩ := hrb
  have HIB2 := hide (Box3.set1 (.int .i64 q1) (HIB1.out.gc hg2 (by omega)))
  have HRB2 := hide ((HRB1.out.gc hg2 (by omega)).other (g := w1.heap.size) (o := 1) (v := (.int .i64 q1)) (by omega))
  have HG2 := hide (gc_new (g := w1.heap.size) (o := 1) (v := (.int .i64 q1)) hgx (by omega))
  have HM2 := hide (hm2.set (g := w1.heap.size) (o := 1) (v := (.int .i64 q1)) (by omega))
  clear hm2 hg2 hgx HIB1 HRB1 HG1 HM1 HN2
  have hq2 := mpick_lt (r := r.tail.tail) (n := 9) (by decide)
  have HN3 : ∀ V : World, Hid (MkR V mb r.tail.tail → Calls Try.prog 17 #[.pointer (some ⟨mb, 0, none⟩), .int .i64 9] V fun x w' => x = .returned (.int .i64 (mpick r.tail.tail 9)) ∧ MkR w' mb r.tail.tail.tail ∧ Gc mb V w') := fun V => hide (next_any mb r.tail.tail 9 (by decide) (by decide) V)
  generalize mpick r.tail.tail 9 = q2 at hq2 HN3
  go_wp2_with fail
  refine ((HN3 _).out HM2.out).mono ?_
  rintro x w3 ⟨rfl, hm3, hg3⟩
  have hib := HIB2.out.gc hg3 (by omega)
  have hrb := HRB2.out.gc hg3 (by omega)
  have hgx := HG2.out.trans hg3
  have hs3 : w1.heap.size < w3.heap.size := Nat.lt_of_lt_of_le (World.block_lt_of_cell? _ _ HIB2.out.1) hg3.size
  obtain ⟨i0, i1, i2, y0, y1, y2⟩ := hib
  obtain ⟨m0, m1, m2, n0, n1, n2⟩ := hrb
  have HIB3 := hide (HIB2.out.gc hg3 (by omega))
  have HRB3 := hide (HRB2.out.gc hg3 (by omega))
  have HG3 := hide hgx
  have HM3 := hide hm3
  clear hm3 hg3 hgx HIB2 HRB2 HG2 HM2 HN3
  by_cases hz : q2 = 0
  · have hq3 := mpick_lt (r := r.tail.tail.tail) (n := 65536) (by decide)
    have HN4 : ∀ V : World, Hid (MkR V mb r.tail.tail.tail → Calls Try.prog 17 #[.pointer (some ⟨mb, 0, none⟩), .int .i64 65536] V fun x w' => x = .returned (.int .i64 (mpick r.tail.tail.tail 65536)) ∧ MkR w' mb r.tail.tail.tail.tail ∧ Gc mb V w') := fun V => hide (next_any mb r.tail.tail.tail 65536 (by decide) (by decide) V)
    generalize mpick r.tail.tail.tail 65536 = q3 at hq3 HN4
    subst hz
    go_wp2_with fail
    refine ((HN4 _).out HM3.out).mono ?_
    rintro x w4 ⟨rfl, hm4, hg4⟩
    have hib := HIB3.out.gc hg4 (by omega)
    have hrb := HRB3.out.gc hg4 (by omega)
    have hgx := HG3.out.trans hg4
    have hs4 : w1.heap.size < w4.heap.size := Nat.lt_of_lt_of_le (World.block_lt_of_cell? _ _ HIB3.out.1) hg4.size
    obtain ⟨i0, i1, i2, y0, y1, y2⟩ := hib
    obtain ⟨m0, m1, m2, n0, n1, n2⟩ := hrb
    have HIB4 := hide (Box3.set1 (.int .i64 q3) (HIB3.out.gc hg4 (by omega)))
    have HRB4 := hide ((HRB3.out.gc hg4 (by omega)).other (g := w1.heap.size) (o := 1) (v := (.int .i64 q3)) (by omega))
    have HG4 := hide (gc_new (g := w1.heap.size) (o := 1) (v := (.int .i64 q3)) hgx (by omega))
    have HM4 := hide (hm4.set (g := w1.heap.size) (o := 1) (v := (.int .i64 q3)) (by omega))
    clear hm4 hg4 hgx HIB3 HRB3 HG3 HM3 HN4
    go_wp2
    exact bodyPost_ret (v := .agg #[.int .i64 13, .int .i64 q3, .int .i64 0]) (by simp [results, Try.results20, go_sem, m0, m1, m2]) rfl (by exact ⟨⟨13, q3, 0⟩, rfl, by simp [insOk, wB, operandOk, operandsN]; omega, ⟨_, ((HM4.out.set (g := w.heap.size) (by omega)).set (g := w.heap.size) (by omega)).set (g := w.heap.size) (by omega)⟩, gc_new (gc_new (gc_new HG4.out (Nat.le_refl _)) (Nat.le_refl _)) (Nat.le_refl _)⟩)
  · have hzb : (q2 == 0) = false := by simpa using hz
    go_wp2
    exact bodyPost_ret (v := .agg #[.int .i64 13, .int .i64 q1, .int .i64 0]) (by simp [results, Try.results20, go_sem, m0, m1, m2]) rfl (by exact ⟨⟨13, q1, 0⟩, rfl, by simp [insOk, wB, operandOk, operandsN]; omega, ⟨_, ((HM3.out.set (g := w.heap.size) (by omega)).set (g := w.heap.size) (by omega)).set (g := w.heap.size) (by omega)⟩, gc_new (gc_new (gc_new HG3.out (Nat.le_refl _)) (Nat.le_refl _)) (Nat.le_refl _)⟩)

set_option maxRecDepth 100000 in
set_option maxHeartbeats 2000000 in
theorem ins_14 (mb : Nat) (r : List Int) (w : World) (h : MkR w mb r) (hq : mpick r 21 = 14) :
    Calls Try.prog 20 #[.pointer (some ⟨mb, 0, none⟩)] w (MadeIns mb w) := by
  have HM := hide h
  have hml := h.lt
  clear h
  have HB0 := hide (Box3.new w 54 (.int .i64 0) (.int .i64 0) (.int .i64 0))
  have HGw := hide ((Gr.alloc (Gr.refl w) (.cells #[.int .i64 0, .int .i64 0, .int .i64 0] 54)).toGc (cb := mb))
  have HN1 : ∀ V : World, Hid (MkR V mb r → Calls Try.prog 17 #[.pointer (some ⟨mb, 0, none⟩), .int .i64 21] V fun x w' => x = .returned (.int .i64 14) ∧ MkR w' mb r.tail ∧ Gc mb V w') := fun V => hide (by
    intro hV; have hh := next_any mb r 21 (by decide) (by decide) V hV; rw [hq] at hh; exact hh)
  clear hq
  go_enter Try.func20, Try.ntmps20
  go_wp2_with fail
  refine ((HN1 _).out (HM.out.gr ((Gr.refl w).alloc _))).mono ?_
  rintro x w1 ⟨rfl, hm1, hg1⟩
  have hs1 : w.heap.size < w1.heap.size := by have := hg1.size; simp at this; omega
  have hga := Gr.alloc (Gr.refl w1) (.cells #[.int .i64 14, .int .i64 0, .int .i64 0] 54)
  have HRB1 := hide ((HB0.out.gc hg1 (by omega)).gc (hga.toGc (cb := mb)) (by omega))
  have HIB1 := hide (Box3.new w1 54 (.int .i64 14) (.int .i64 0) (.int .i64 0))
  have HG1 := hide ((HGw.out.trans hg1).trans (hga.toGc (cb := mb)))
  have HM1 := hide (hm1.gr hga)
  have hne : ¬ w.heap.size = w1.heap.size := by omega
  have hne2 : ¬ w1.heap.size = w.heap.size := by omega
  obtain ⟨p0, p1, p2, r0, r1, r2⟩ := HB0.out.gc hg1 (by omega)
  have HM0 := hide hm1
  have HG0 := hide (HGw.out.trans hg1)
  clear hm1 hg1 hga HB0 HGw HN1 HM
  obtain ⟨i0, i1, i2, y0, y1, y2⟩ := HIB1.out
  obtain ⟨m0, m1, m2, n0, n1, n2⟩ := HRB1.out
  clear m0 m1 m2 n0 n1 n2
  have hF : Box3 ((((w1.setCell ⟨w.heap.size, 0, none⟩ (.int .i64 14)).setCell ⟨w.heap.size, 1, none⟩ (.int .i64 0)).setCell ⟨w.heap.size, 2, none⟩ (.int .i64 0)).alloc (.cells #[.int .i64 14, .int .i64 0, .int .i64 0] 54)) w.heap.size (.int .i64 14) (.int .i64 0) (.int .i64 0) := (((Box3.set0 (.int .i64 14) (show Box3 w1 w.heap.size (.int .i64 0) (.int .i64 0) (.int .i64 0) from ⟨p0, p1, p2, r0, r1, r2⟩)).set1 (.int .i64 0)).set2 (.int .i64 0)).gc ((Gr.alloc (Gr.refl _) (.cells #[.int .i64 14, .int .i64 0, .int .i64 0] 54)).toGc (cb := mb)) (by omega)
  have HF := hide hF
  clear hF
  go_wp2
  obtain ⟨c0, c1, c2, _, _, _⟩ := HF.out
  exact bodyPost_ret (v := .agg #[.int .i64 14, .int .i64 0, .int .i64 0]) (by simp [results, Try.results20, go_sem, c0, c1, c2]) rfl (by exact ⟨⟨14, 0, 0⟩, rfl, by simp [insOk, wB, operandOk, operandsN], ⟨_, (((HM0.out.set (g := w.heap.size) (by omega)).set (g := w.heap.size) (by omega)).set (g := w.heap.size) (by omega)).gr ((Gr.refl _).alloc _)⟩, Gc.trans_ (gc_new (gc_new (gc_new HG0.out (Nat.le_refl _)) (Nat.le_refl _)) (Nat.le_refl _)) ((Gr.refl _).alloc _).toGc⟩)

set_option maxRecDepth 100000 in
set_option maxHeartbeats 2000000 in
theorem ins_15 (mb : Nat) (r : List Int) (w : World) (h : MkR w mb r) (hq : mpick r 21 = 15) :
    Calls Try.prog 20 #[.pointer (some ⟨mb, 0, none⟩)] w (MadeIns mb w) := by
  have HM := hide h
  have hml := h.lt
  clear h
  have HB0 := hide (Box3.new w 54 (.int .i64 0) (.int .i64 0) (.int .i64 0))
  have HGw := hide ((Gr.alloc (Gr.refl w) (.cells #[.int .i64 0, .int .i64 0, .int .i64 0] 54)).toGc (cb := mb))
  have HN1 : ∀ V : World, Hid (MkR V mb r → Calls Try.prog 17 #[.pointer (some ⟨mb, 0, none⟩), .int .i64 21] V fun x w' => x = .returned (.int .i64 15) ∧ MkR w' mb r.tail ∧ Gc mb V w') := fun V => hide (by
    intro hV; have hh := next_any mb r 21 (by decide) (by decide) V hV; rw [hq] at hh; exact hh)
  clear hq
  go_enter Try.func20, Try.ntmps20
  go_wp2_with fail
  refine ((HN1 _).out (HM.out.gr ((Gr.refl w).alloc _))).mono ?_
  rintro x w1 ⟨rfl, hm1, hg1⟩
  have hs1 : w.heap.size < w1.heap.size := by have := hg1.size; simp at this; omega
  have hga := Gr.alloc (Gr.refl w1) (.cells #[.int .i64 15, .int .i64 0, .int .i64 0] 54)
  have HRB1 := hide ((HB0.out.gc hg1 (by omega)).gc (hga.toGc (cb := mb)) (by omega))
  have HIB1 := hide (Box3.new w1 54 (.int .i64 15) (.int .i64 0) (.int .i64 0))
  have HG1 := hide ((HGw.out.trans hg1).trans (hga.toGc (cb := mb)))
  have HM1 := hide (hm1.gr hga)
  have hne : ¬ w.heap.size = w1.heap.size := by omega
  have hne2 : ¬ w1.heap.size = w.heap.size := by omega
  clear hm1 hg1 hga HB0 HGw HN1 HM
  obtain ⟨i0, i1, i2, y0, y1, y2⟩ := HIB1.out
  obtain ⟨m0, m1, m2, n0, n1, n2⟩ := HRB1.out
  have hq1 := mpick_lt (r := r.tail) (n := 6) (by decide)
  have HN2 : ∀ V : World, Hid (MkR V mb r.tail → Calls Try.prog 17 #[.pointer (some ⟨mb, 0, none⟩), .int .i64 6] V fun x w' => x = .returned (.int .i64 (mpick r.tail 6)) ∧ MkR w' mb r.tail.tail ∧ Gc mb V w') := fun V => hide (next_any mb r.tail 6 (by decide) (by decide) V)
  generalize mpick r.tail 6 = q1 at hq1 HN2
  go_wp2_with fail
  refine ((HN2 _).out HM1.out).mono ?_
  rintro x w2 ⟨rfl, hm2, hg2⟩
  have hib := HIB1.out.gc hg2 (by omega)
  have hrb := HRB1.out.gc hg2 (by omega)
  have hgx := HG1.out.trans hg2
  have hs2 : w1.heap.size < w2.heap.size := Nat.lt_of_lt_of_le (World.block_lt_of_cell? _ _ HIB1.out.1) hg2.size
  obtain ⟨i0, i1, i2, y0, y1, y2⟩ := hib
  obtain ⟨m0, m1, m2, n0, n1, n2⟩ := hrb
  have HIB2 := hide (Box3.set1 (.int .i64 q1) (HIB1.out.gc hg2 (by omega)))
  have HRB2 := hide ((HRB1.out.gc hg2 (by omega)).other (g := w1.heap.size) (o := 1) (v := (.int .i64 q1)) (by omega))
  have HG2 := hide (gc_new (g := w1.heap.size) (o := 1) (v := (.int .i64 q1)) hgx (by omega))
  have HM2 := hide (hm2.set (g := w1.heap.size) (o := 1) (v := (.int .i64 q1)) (by omega))
  clear hm2 hg2 hgx HIB1 HRB1 HG1 HM1 HN2
  have hq2 := mpick_lt (r := r.tail.tail) (n := 9) (by decide)
  have HN3 : ∀ V : World, Hid (MkR V mb r.tail.tail → Calls Try.prog 17 #[.pointer (some ⟨mb, 0, none⟩), .int .i64 9] V fun x w' => x = .returned (.int .i64 (mpick r.tail.tail 9)) ∧ MkR w' mb r.tail.tail.tail ∧ Gc mb V w') := fun V => hide (next_any mb r.tail.tail 9 (by decide) (by decide) V)
  generalize mpick r.tail.tail 9 = q2 at hq2 HN3
  go_wp2_with fail
  refine ((HN3 _).out HM2.out).mono ?_
  rintro x w3 ⟨rfl, hm3, hg3⟩
  have hib := HIB2.out.gc hg3 (by omega)
  have hrb := HRB2.out.gc hg3 (by omega)
  have hgx := HG2.out.trans hg3
  have hs3 : w1.heap.size < w3.heap.size := Nat.lt_of_lt_of_le (World.block_lt_of_cell? _ _ HIB2.out.1) hg3.size
  obtain ⟨i0, i1, i2, y0, y1, y2⟩ := hib
  obtain ⟨m0, m1, m2, n0, n1, n2⟩ := hrb
  have HIB3 := hide (HIB2.out.gc hg3 (by omega))
  have HRB3 := hide (HRB2.out.gc hg3 (by omega))
  have HG3 := hide hgx
  have HM3 := hide hm3
  clear hm3 hg3 hgx HIB2 HRB2 HG2 HM2 HN3
  by_cases hz : q2 = 0
  · have hq3 := mpick_lt (r := r.tail.tail.tail) (n := 65536) (by decide)
    have HN4 : ∀ V : World, Hid (MkR V mb r.tail.tail.tail → Calls Try.prog 17 #[.pointer (some ⟨mb, 0, none⟩), .int .i64 65536] V fun x w' => x = .returned (.int .i64 (mpick r.tail.tail.tail 65536)) ∧ MkR w' mb r.tail.tail.tail.tail ∧ Gc mb V w') := fun V => hide (next_any mb r.tail.tail.tail 65536 (by decide) (by decide) V)
    generalize mpick r.tail.tail.tail 65536 = q3 at hq3 HN4
    subst hz
    go_wp2_with fail
    refine ((HN4 _).out HM3.out).mono ?_
    rintro x w4 ⟨rfl, hm4, hg4⟩
    have hib := HIB3.out.gc hg4 (by omega)
    have hrb := HRB3.out.gc hg4 (by omega)
    have hgx := HG3.out.trans hg4
    have hs4 : w1.heap.size < w4.heap.size := Nat.lt_of_lt_of_le (World.block_lt_of_cell? _ _ HIB3.out.1) hg4.size
    obtain ⟨i0, i1, i2, y0, y1, y2⟩ := hib
    obtain ⟨m0, m1, m2, n0, n1, n2⟩ := hrb
    have HIB4 := hide (Box3.set1 (.int .i64 q3) (HIB3.out.gc hg4 (by omega)))
    have HRB4 := hide ((HRB3.out.gc hg4 (by omega)).other (g := w1.heap.size) (o := 1) (v := (.int .i64 q3)) (by omega))
    have HG4 := hide (gc_new (g := w1.heap.size) (o := 1) (v := (.int .i64 q3)) hgx (by omega))
    have HM4 := hide (hm4.set (g := w1.heap.size) (o := 1) (v := (.int .i64 q3)) (by omega))
    clear hm4 hg4 hgx HIB3 HRB3 HG3 HM3 HN4
    go_wp2
    exact bodyPost_ret (v := .agg #[.int .i64 15, .int .i64 q3, .int .i64 0]) (by simp [results, Try.results20, go_sem, m0, m1, m2]) rfl (by exact ⟨⟨15, q3, 0⟩, rfl, by simp [insOk, wB, operandOk, operandsN]; omega, ⟨_, ((HM4.out.set (g := w.heap.size) (by omega)).set (g := w.heap.size) (by omega)).set (g := w.heap.size) (by omega)⟩, gc_new (gc_new (gc_new HG4.out (Nat.le_refl _)) (Nat.le_refl _)) (Nat.le_refl _)⟩)
  · have hzb : (q2 == 0) = false := by simpa using hz
    go_wp2
    exact bodyPost_ret (v := .agg #[.int .i64 15, .int .i64 q1, .int .i64 0]) (by simp [results, Try.results20, go_sem, m0, m1, m2]) rfl (by exact ⟨⟨15, q1, 0⟩, rfl, by simp [insOk, wB, operandOk, operandsN]; omega, ⟨_, ((HM3.out.set (g := w.heap.size) (by omega)).set (g := w.heap.size) (by omega)).set (g := w.heap.size) (by omega)⟩, gc_new (gc_new (gc_new HG3.out (Nat.le_refl _)) (Nat.le_refl _)) (Nat.le_refl _)⟩)

set_option maxRecDepth 100000 in
set_option maxHeartbeats 2000000 in
theorem ins_16 (mb : Nat) (r : List Int) (w : World) (h : MkR w mb r) (hq : mpick r 21 = 16) :
    Calls Try.prog 20 #[.pointer (some ⟨mb, 0, none⟩)] w (MadeIns mb w) := by
  have HM := hide h
  have hml := h.lt
  clear h
  have HB0 := hide (Box3.new w 54 (.int .i64 0) (.int .i64 0) (.int .i64 0))
  have HGw := hide ((Gr.alloc (Gr.refl w) (.cells #[.int .i64 0, .int .i64 0, .int .i64 0] 54)).toGc (cb := mb))
  have HN1 : ∀ V : World, Hid (MkR V mb r → Calls Try.prog 17 #[.pointer (some ⟨mb, 0, none⟩), .int .i64 21] V fun x w' => x = .returned (.int .i64 16) ∧ MkR w' mb r.tail ∧ Gc mb V w') := fun V => hide (by
    intro hV; have hh := next_any mb r 21 (by decide) (by decide) V hV; rw [hq] at hh; exact hh)
  clear hq
  go_enter Try.func20, Try.ntmps20
  go_wp2_with fail
  refine ((HN1 _).out (HM.out.gr ((Gr.refl w).alloc _))).mono ?_
  rintro x w1 ⟨rfl, hm1, hg1⟩
  have hs1 : w.heap.size < w1.heap.size := by have := hg1.size; simp at this; omega
  have hga := Gr.alloc (Gr.refl w1) (.cells #[.int .i64 16, .int .i64 0, .int .i64 0] 54)
  have HRB1 := hide ((HB0.out.gc hg1 (by omega)).gc (hga.toGc (cb := mb)) (by omega))
  have HIB1 := hide (Box3.new w1 54 (.int .i64 16) (.int .i64 0) (.int .i64 0))
  have HG1 := hide ((HGw.out.trans hg1).trans (hga.toGc (cb := mb)))
  have HM1 := hide (hm1.gr hga)
  have hne : ¬ w.heap.size = w1.heap.size := by omega
  have hne2 : ¬ w1.heap.size = w.heap.size := by omega
  clear hm1 hg1 hga HB0 HGw HN1 HM
  obtain ⟨i0, i1, i2, y0, y1, y2⟩ := HIB1.out
  obtain ⟨m0, m1, m2, n0, n1, n2⟩ := HRB1.out
  have hq1 := mpick_lt (r := r.tail) (n := 6) (by decide)
  have HN2 : ∀ V : World, Hid (MkR V mb r.tail → Calls Try.prog 17 #[.pointer (some ⟨mb, 0, none⟩), .int .i64 6] V fun x w' => x = .returned (.int .i64 (mpick r.tail 6)) ∧ MkR w' mb r.tail.tail ∧ Gc mb V w') := fun V => hide (next_any mb r.tail 6 (by decide) (by decide) V)
  generalize mpick r.tail 6 = q1 at hq1 HN2
  go_wp2_with fail
  refine ((HN2 _).out HM1.out).mono ?_
  rintro x w2 ⟨rfl, hm2, hg2⟩
  have hib := HIB1.out.gc hg2 (by omega)
  have hrb := HRB1.out.gc hg2 (by omega)
  have hgx := HG1.out.trans hg2
  have hs2 : w1.heap.size < w2.heap.size := Nat.lt_of_lt_of_le (World.block_lt_of_cell? _ _ HIB1.out.1) hg2.size
  obtain ⟨i0, i1, i2, y0, y1, y2⟩ := hib
  obtain ⟨m0, m1, m2, n0, n1, n2⟩ := hrb
  have HIB2 := hide (Box3.set1 (.int .i64 q1) (HIB1.out.gc hg2 (by omega)))
  have HRB2 := hide ((HRB1.out.gc hg2 (by omega)).other (g := w1.heap.size) (o := 1) (v := (.int .i64 q1)) (by omega))
  have HG2 := hide (gc_new (g := w1.heap.size) (o := 1) (v := (.int .i64 q1)) hgx (by omega))
  have HM2 := hide (hm2.set (g := w1.heap.size) (o := 1) (v := (.int .i64 q1)) (by omega))
  clear hm2 hg2 hgx HIB1 HRB1 HG1 HM1 HN2
  have hq2 := mpick_lt (r := r.tail.tail) (n := 9) (by decide)
  have HN3 : ∀ V : World, Hid (MkR V mb r.tail.tail → Calls Try.prog 17 #[.pointer (some ⟨mb, 0, none⟩), .int .i64 9] V fun x w' => x = .returned (.int .i64 (mpick r.tail.tail 9)) ∧ MkR w' mb r.tail.tail.tail ∧ Gc mb V w') := fun V => hide (next_any mb r.tail.tail 9 (by decide) (by decide) V)
  generalize mpick r.tail.tail 9 = q2 at hq2 HN3
  go_wp2_with fail
  refine ((HN3 _).out HM2.out).mono ?_
  rintro x w3 ⟨rfl, hm3, hg3⟩
  have hib := HIB2.out.gc hg3 (by omega)
  have hrb := HRB2.out.gc hg3 (by omega)
  have hgx := HG2.out.trans hg3
  have hs3 : w1.heap.size < w3.heap.size := Nat.lt_of_lt_of_le (World.block_lt_of_cell? _ _ HIB2.out.1) hg3.size
  obtain ⟨i0, i1, i2, y0, y1, y2⟩ := hib
  obtain ⟨m0, m1, m2, n0, n1, n2⟩ := hrb
  have HIB3 := hide (HIB2.out.gc hg3 (by omega))
  have HRB3 := hide (HRB2.out.gc hg3 (by omega))
  have HG3 := hide hgx
  have HM3 := hide hm3
  clear hm3 hg3 hgx HIB2 HRB2 HG2 HM2 HN3
  by_cases hz : q2 = 0
  · have hq3 := mpick_lt (r := r.tail.tail.tail) (n := 65536) (by decide)
    have HN4 : ∀ V : World, Hid (MkR V mb r.tail.tail.tail → Calls Try.prog 17 #[.pointer (some ⟨mb, 0, none⟩), .int .i64 65536] V fun x w' => x = .returned (.int .i64 (mpick r.tail.tail.tail 65536)) ∧ MkR w' mb r.tail.tail.tail.tail ∧ Gc mb V w') := fun V => hide (next_any mb r.tail.tail.tail 65536 (by decide) (by decide) V)
    generalize mpick r.tail.tail.tail 65536 = q3 at hq3 HN4
    subst hz
    go_wp2_with fail
    refine ((HN4 _).out HM3.out).mono ?_
    rintro x w4 ⟨rfl, hm4, hg4⟩
    have hib := HIB3.out.gc hg4 (by omega)
    have hrb := HRB3.out.gc hg4 (by omega)
    have hgx := HG3.out.trans hg4
    have hs4 : w1.heap.size < w4.heap.size := Nat.lt_of_lt_of_le (World.block_lt_of_cell? _ _ HIB3.out.1) hg4.size
    obtain ⟨i0, i1, i2, y0, y1, y2⟩ := hib
    obtain ⟨m0, m1, m2, n0, n1, n2⟩ := hrb
    have HIB4 := hide (Box3.set1 (.int .i64 q3) (HIB3.out.gc hg4 (by omega)))
    have HRB4 := hide ((HRB3.out.gc hg4 (by omega)).other (g := w1.heap.size) (o := 1) (v := (.int .i64 q3)) (by omega))
    have HG4 := hide (gc_new (g := w1.heap.size) (o := 1) (v := (.int .i64 q3)) hgx (by omega))
    have HM4 := hide (hm4.set (g := w1.heap.size) (o := 1) (v := (.int .i64 q3)) (by omega))
    clear hm4 hg4 hgx HIB3 HRB3 HG3 HM3 HN4
    have hq4 := mpick_lt (r := r.tail.tail.tail.tail) (n := 5) (by decide)
    have HN5 : ∀ V : World, Hid (MkR V mb r.tail.tail.tail.tail → Calls Try.prog 17 #[.pointer (some ⟨mb, 0, none⟩), .int .i64 5] V fun x w' => x = .returned (.int .i64 (mpick r.tail.tail.tail.tail 5)) ∧ MkR w' mb r.tail.tail.tail.tail.tail ∧ Gc mb V w') := fun V => hide (next_any mb r.tail.tail.tail.tail 5 (by decide) (by decide) V)
    generalize mpick r.tail.tail.tail.tail 5 = q4 at hq4 HN5
    go_wp2_with fail
    refine ((HN5 _).out HM4.out).mono ?_
    rintro x w5 ⟨rfl, hm5, hg5⟩
    have hib := HIB4.out.gc hg5 (by omega)
    have hrb := HRB4.out.gc hg5 (by omega)
    have hgx := HG4.out.trans hg5
    have hs5 : w1.heap.size < w5.heap.size := Nat.lt_of_lt_of_le (World.block_lt_of_cell? _ _ HIB4.out.1) hg5.size
    obtain ⟨i0, i1, i2, y0, y1, y2⟩ := hib
    obtain ⟨m0, m1, m2, n0, n1, n2⟩ := hrb
    have HIB5 := hide (Box3.set2 (.int .i64 q4) (HIB4.out.gc hg5 (by omega)))
    have HRB5 := hide ((HRB4.out.gc hg5 (by omega)).other (g := w1.heap.size) (o := 2) (v := (.int .i64 q4)) (by omega))
    have HG5 := hide (gc_new (g := w1.heap.size) (o := 2) (v := (.int .i64 q4)) hgx (by omega))
    have HM5 := hide (hm5.set (g := w1.heap.size) (o := 2) (v := (.int .i64 q4)) (by omega))
    clear hm5 hg5 hgx HIB4 HRB4 HG4 HM4 HN5
    go_wp2
    exact bodyPost_ret (v := .agg #[.int .i64 16, .int .i64 q3, .int .i64 q4]) (by simp [results, Try.results20, go_sem, m0, m1, m2]) rfl (by exact ⟨⟨16, q3, q4⟩, rfl, by simp [insOk, wB, operandOk, operandsN]; omega, ⟨_, ((HM5.out.set (g := w.heap.size) (by omega)).set (g := w.heap.size) (by omega)).set (g := w.heap.size) (by omega)⟩, gc_new (gc_new (gc_new HG5.out (Nat.le_refl _)) (Nat.le_refl _)) (Nat.le_refl _)⟩)
  · have hq3 := mpick_lt (r := r.tail.tail.tail) (n := 5) (by decide)
    have HN4 : ∀ V : World, Hid (MkR V mb r.tail.tail.tail → Calls Try.prog 17 #[.pointer (some ⟨mb, 0, none⟩), .int .i64 5] V fun x w' => x = .returned (.int .i64 (mpick r.tail.tail.tail 5)) ∧ MkR w' mb r.tail.tail.tail.tail ∧ Gc mb V w') := fun V => hide (next_any mb r.tail.tail.tail 5 (by decide) (by decide) V)
    generalize mpick r.tail.tail.tail 5 = q3 at hq3 HN4
    have hzb : (q2 == 0) = false := by simpa using hz
    go_wp2_with fail
    refine ((HN4 _).out HM3.out).mono ?_
    rintro x w4 ⟨rfl, hm4, hg4⟩
    have hib := HIB3.out.gc hg4 (by omega)
    have hrb := HRB3.out.gc hg4 (by omega)
    have hgx := HG3.out.trans hg4
    have hs4 : w1.heap.size < w4.heap.size := Nat.lt_of_lt_of_le (World.block_lt_of_cell? _ _ HIB3.out.1) hg4.size
    obtain ⟨i0, i1, i2, y0, y1, y2⟩ := hib
    obtain ⟨m0, m1, m2, n0, n1, n2⟩ := hrb
    have HIB4 := hide (Box3.set2 (.int .i64 q3) (HIB3.out.gc hg4 (by omega)))
    have HRB4 := hide ((HRB3.out.gc hg4 (by omega)).other (g := w1.heap.size) (o := 2) (v := (.int .i64 q3)) (by omega))
    have HG4 := hide (gc_new (g := w1.heap.size) (o := 2) (v := (.int .i64 q3)) hgx (by omega))
    have HM4 := hide (hm4.set (g := w1.heap.size) (o := 2) (v := (.int .i64 q3)) (by omega))
    clear hm4 hg4 hgx HIB3 HRB3 HG3 HM3 HN4
    go_wp2
    exact bodyPost_ret (v := .agg #[.int .i64 16, .int .i64 q1, .int .i64 q3]) (by simp [results, Try.results20, go_sem, m0, m1, m2]) rfl (by exact ⟨⟨16, q1, q3⟩, rfl, by simp [insOk, wB, operandOk, operandsN]; omega, ⟨_, ((HM4.out.set (g := w.heap.size) (by omega)).set (g := w.heap.size) (by omega)).set (g := w.heap.size) (by omega)⟩, gc_new (gc_new (gc_new HG4.out (Nat.le_refl _)) (Nat.le_refl _)) (Nat.le_refl _)⟩)

set_option maxRecDepth 100000 in
set_option maxHeartbeats 2000000 in
theorem ins_17 (mb : Nat) (r : List Int) (w : World) (h : MkR w mb r) (hq : mpick r 21 = 17) :
    Calls Try.prog 20 #[.pointer (some ⟨mb, 0, none⟩)] w (MadeIns mb w) := by
  have HM := hide h
  have hml := h.lt
  clear h
  have HB0 := hide (Box3.new w 54 (.int .i64 0) (.int .i64 0) (.int .i64 0))
  have HGw := hide ((Gr.alloc (Gr.refl w) (.cells #[.int .i64 0, .int .i64 0, .int .i64 0] 54)).toGc (cb := mb))
  have HN1 : ∀ V : World, Hid (MkR V mb r → Calls Try.prog 17 #[.pointer (some ⟨mb, 0, none⟩), .int .i64 21] V fun x w' => x = .returned (.int .i64 17) ∧ MkR w' mb r.tail ∧ Gc mb V w') := fun V => hide (by
    intro hV; have hh := next_any mb r 21 (by decide) (by decide) V hV; rw [hq] at hh; exact hh)
  clear hq
  go_enter Try.func20, Try.ntmps20
  go_wp2_with fail
  refine ((HN1 _).out (HM.out.gr ((Gr.refl w).alloc _))).mono ?_
  rintro x w1 ⟨rfl, hm1, hg1⟩
  have hs1 : w.heap.size < w1.heap.size := by have := hg1.size; simp at this; omega
  have hga := Gr.alloc (Gr.refl w1) (.cells #[.int .i64 17, .int .i64 0, .int .i64 0] 54)
  have HRB1 := hide ((HB0.out.gc hg1 (by omega)).gc (hga.toGc (cb := mb)) (by omega))
  have HIB1 := hide (Box3.new w1 54 (.int .i64 17) (.int .i64 0) (.int .i64 0))
  have HG1 := hide ((HGw.out.trans hg1).trans (hga.toGc (cb := mb)))
  have HM1 := hide (hm1.gr hga)
  have hne : ¬ w.heap.size = w1.heap.size := by omega
  have hne2 : ¬ w1.heap.size = w.heap.size := by omega
  clear hm1 hg1 hga HB0 HGw HN1 HM
  obtain ⟨i0, i1, i2, y0, y1, y2⟩ := HIB1.out
  obtain ⟨m0, m1, m2, n0, n1, n2⟩ := HRB1.out
  have hq1 := mpick_lt (r := r.tail) (n := 6) (by decide)
  have HN2 : ∀ V : World, Hid (MkR V mb r.tail → Calls Try.prog 17 #[.pointer (some ⟨mb, 0, none⟩), .int .i64 6] V fun x w' => x = .returned (.int .i64 (mpick r.tail 6)) ∧ MkR w' mb r.tail.tail ∧ Gc mb V w') := fun V => hide (next_any mb r.tail 6 (by decide) (by decide) V)
  generalize mpick r.tail 6 = q1 at hq1 HN2
  go_wp2_with fail
  refine ((HN2 _).out HM1.out).mono ?_
  rintro x w2 ⟨rfl, hm2, hg2⟩
  have hib := HIB1.out.gc hg2 (by omega)
  have hrb := HRB1.out.gc hg2 (by omega)
  have hgx := HG1.out.trans hg2
  have hs2 : w1.heap.size < w2.heap.size := Nat.lt_of_lt_of_le (World.block_lt_of_cell? _ _ HIB1.out.1) hg2.size
  obtain ⟨i0, i1, i2, y0, y1, y2⟩ := hib
  obtain ⟨m0, m1, m2, n0, n1, n2⟩ := hrb
  have HIB2 := hide (Box3.set1 (.int .i64 q1) (HIB1.out.gc hg2 (by omega)))
  have HRB2 := hide ((HRB1.out.gc hg2 (by omega)).other (g := w1.heap.size) (o := 1) (v := (.int .i64 q1)) (by omega))
  have HG2 := hide (gc_new (g := w1.heap.size) (o := 1) (v := (.int .i64 q1)) hgx (by omega))
  have HM2 := hide (hm2.set (g := w1.heap.size) (o := 1) (v := (.int .i64 q1)) (by omega))
  clear hm2 hg2 hgx HIB1 HRB1 HG1 HM1 HN2
  have hq2 := mpick_lt (r := r.tail.tail) (n := 9) (by decide)
  have HN3 : ∀ V : World, Hid (MkR V mb r.tail.tail → Calls Try.prog 17 #[.pointer (some ⟨mb, 0, none⟩), .int .i64 9] V fun x w' => x = .returned (.int .i64 (mpick r.tail.tail 9)) ∧ MkR w' mb r.tail.tail.tail ∧ Gc mb V w') := fun V => hide (next_any mb r.tail.tail 9 (by decide) (by decide) V)
  generalize mpick r.tail.tail 9 = q2 at hq2 HN3
  go_wp2_with fail
  refine ((HN3 _).out HM2.out).mono ?_
  rintro x w3 ⟨rfl, hm3, hg3⟩
  have hib := HIB2.out.gc hg3 (by omega)
  have hrb := HRB2.out.gc hg3 (by omega)
  have hgx := HG2.out.trans hg3
  have hs3 : w1.heap.size < w3.heap.size := Nat.lt_of_lt_of_le (World.block_lt_of_cell? _ _ HIB2.out.1) hg3.size
  obtain ⟨i0, i1, i2, y0, y1, y2⟩ := hib
  obtain ⟨m0, m1, m2, n0, n1, n2⟩ := hrb
  have HIB3 := hide (HIB2.out.gc hg3 (by omega))
  have HRB3 := hide (HRB2.out.gc hg3 (by omega))
  have HG3 := hide hgx
  have HM3 := hide hm3
  clear hm3 hg3 hgx HIB2 HRB2 HG2 HM2 HN3
  by_cases hz : q2 = 0
  · have hq3 := mpick_lt (r := r.tail.tail.tail) (n := 65536) (by decide)
    have HN4 : ∀ V : World, Hid (MkR V mb r.tail.tail.tail → Calls Try.prog 17 #[.pointer (some ⟨mb, 0, none⟩), .int .i64 65536] V fun x w' => x = .returned (.int .i64 (mpick r.tail.tail.tail 65536)) ∧ MkR w' mb r.tail.tail.tail.tail ∧ Gc mb V w') := fun V => hide (next_any mb r.tail.tail.tail 65536 (by decide) (by decide) V)
    generalize mpick r.tail.tail.tail 65536 = q3 at hq3 HN4
    subst hz
    go_wp2_with fail
    refine ((HN4 _).out HM3.out).mono ?_
    rintro x w4 ⟨rfl, hm4, hg4⟩
    have hib := HIB3.out.gc hg4 (by omega)
    have hrb := HRB3.out.gc hg4 (by omega)
    have hgx := HG3.out.trans hg4
    have hs4 : w1.heap.size < w4.heap.size := Nat.lt_of_lt_of_le (World.block_lt_of_cell? _ _ HIB3.out.1) hg4.size
    obtain ⟨i0, i1, i2, y0, y1, y2⟩ := hib
    obtain ⟨m0, m1, m2, n0, n1, n2⟩ := hrb
    have HIB4 := hide (Box3.set1 (.int .i64 q3) (HIB3.out.gc hg4 (by omega)))
    have HRB4 := hide ((HRB3.out.gc hg4 (by omega)).other (g := w1.heap.size) (o := 1) (v := (.int .i64 q3)) (by omega))
    have HG4 := hide (gc_new (g := w1.heap.size) (o := 1) (v := (.int .i64 q3)) hgx (by omega))
    have HM4 := hide (hm4.set (g := w1.heap.size) (o := 1) (v := (.int .i64 q3)) (by omega))
    clear hm4 hg4 hgx HIB3 HRB3 HG3 HM3 HN4
    have hq4 := mpick_lt (r := r.tail.tail.tail.tail) (n := 5) (by decide)
    have HN5 : ∀ V : World, Hid (MkR V mb r.tail.tail.tail.tail → Calls Try.prog 17 #[.pointer (some ⟨mb, 0, none⟩), .int .i64 5] V fun x w' => x = .returned (.int .i64 (mpick r.tail.tail.tail.tail 5)) ∧ MkR w' mb r.tail.tail.tail.tail.tail ∧ Gc mb V w') := fun V => hide (next_any mb r.tail.tail.tail.tail 5 (by decide) (by decide) V)
    generalize mpick r.tail.tail.tail.tail 5 = q4 at hq4 HN5
    go_wp2_with fail
    refine ((HN5 _).out HM4.out).mono ?_
    rintro x w5 ⟨rfl, hm5, hg5⟩
    have hib := HIB4.out.gc hg5 (by omega)
    have hrb := HRB4.out.gc hg5 (by omega)
    have hgx := HG4.out.trans hg5
    have hs5 : w1.heap.size < w5.heap.size := Nat.lt_of_lt_of_le (World.block_lt_of_cell? _ _ HIB4.out.1) hg5.size
    obtain ⟨i0, i1, i2, y0, y1, y2⟩ := hib
    obtain ⟨m0, m1, m2, n0, n1, n2⟩ := hrb
    have HIB5 := hide (Box3.set2 (.int .i64 q4) (HIB4.out.gc hg5 (by omega)))
    have HRB5 := hide ((HRB4.out.gc hg5 (by omega)).other (g := w1.heap.size) (o := 2) (v := (.int .i64 q4)) (by omega))
    have HG5 := hide (gc_new (g := w1.heap.size) (o := 2) (v := (.int .i64 q4)) hgx (by omega))
    have HM5 := hide (hm5.set (g := w1.heap.size) (o := 2) (v := (.int .i64 q4)) (by omega))
    clear hm5 hg5 hgx HIB4 HRB4 HG4 HM4 HN5
    go_wp2
    exact bodyPost_ret (v := .agg #[.int .i64 17, .int .i64 q3, .int .i64 q4]) (by simp [results, Try.results20, go_sem, m0, m1, m2]) rfl (by exact ⟨⟨17, q3, q4⟩, rfl, by simp [insOk, wB, operandOk, operandsN]; omega, ⟨_, ((HM5.out.set (g := w.heap.size) (by omega)).set (g := w.heap.size) (by omega)).set (g := w.heap.size) (by omega)⟩, gc_new (gc_new (gc_new HG5.out (Nat.le_refl _)) (Nat.le_refl _)) (Nat.le_refl _)⟩)
  · have hq3 := mpick_lt (r := r.tail.tail.tail) (n := 5) (by decide)
    have HN4 : ∀ V : World, Hid (MkR V mb r.tail.tail.tail → Calls Try.prog 17 #[.pointer (some ⟨mb, 0, none⟩), .int .i64 5] V fun x w' => x = .returned (.int .i64 (mpick r.tail.tail.tail 5)) ∧ MkR w' mb r.tail.tail.tail.tail ∧ Gc mb V w') := fun V => hide (next_any mb r.tail.tail.tail 5 (by decide) (by decide) V)
    generalize mpick r.tail.tail.tail 5 = q3 at hq3 HN4
    have hzb : (q2 == 0) = false := by simpa using hz
    go_wp2_with fail
    refine ((HN4 _).out HM3.out).mono ?_
    rintro x w4 ⟨rfl, hm4, hg4⟩
    have hib := HIB3.out.gc hg4 (by omega)
    have hrb := HRB3.out.gc hg4 (by omega)
    have hgx := HG3.out.trans hg4
    have hs4 : w1.heap.size < w4.heap.size := Nat.lt_of_lt_of_le (World.block_lt_of_cell? _ _ HIB3.out.1) hg4.size
    obtain ⟨i0, i1, i2, y0, y1, y2⟩ := hib
    obtain ⟨m0, m1, m2, n0, n1, n2⟩ := hrb
    have HIB4 := hide (Box3.set2 (.int .i64 q3) (HIB3.out.gc hg4 (by omega)))
    have HRB4 := hide ((HRB3.out.gc hg4 (by omega)).other (g := w1.heap.size) (o := 2) (v := (.int .i64 q3)) (by omega))
    have HG4 := hide (gc_new (g := w1.heap.size) (o := 2) (v := (.int .i64 q3)) hgx (by omega))
    have HM4 := hide (hm4.set (g := w1.heap.size) (o := 2) (v := (.int .i64 q3)) (by omega))
    clear hm4 hg4 hgx HIB3 HRB3 HG3 HM3 HN4
    go_wp2
    exact bodyPost_ret (v := .agg #[.int .i64 17, .int .i64 q1, .int .i64 q3]) (by simp [results, Try.results20, go_sem, m0, m1, m2]) rfl (by exact ⟨⟨17, q1, q3⟩, rfl, by simp [insOk, wB, operandOk, operandsN]; omega, ⟨_, ((HM4.out.set (g := w.heap.size) (by omega)).set (g := w.heap.size) (by omega)).set (g := w.heap.size) (by omega)⟩, gc_new (gc_new (gc_new HG4.out (Nat.le_refl _)) (Nat.le_refl _)) (Nat.le_refl _)⟩)

set_option maxRecDepth 100000 in
set_option maxHeartbeats 2000000 in
theorem ins_18 (mb : Nat) (r : List Int) (w : World) (h : MkR w mb r) (hq : mpick r 21 = 18) :
    Calls Try.prog 20 #[.pointer (some ⟨mb, 0, none⟩)] w (MadeIns mb w) := by
  have HM := hide h
  have hml := h.lt
  clear h
  have HB0 := hide (Box3.new w 54 (.int .i64 0) (.int .i64 0) (.int .i64 0))
  have HGw := hide ((Gr.alloc (Gr.refl w) (.cells #[.int .i64 0, .int .i64 0, .int .i64 0] 54)).toGc (cb := mb))
  have HN1 : ∀ V : World, Hid (MkR V mb r → Calls Try.prog 17 #[.pointer (some ⟨mb, 0, none⟩), .int .i64 21] V fun x w' => x = .returned (.int .i64 18) ∧ MkR w' mb r.tail ∧ Gc mb V w') := fun V => hide (by
    intro hV; have hh := next_any mb r 21 (by decide) (by decide) V hV; rw [hq] at hh; exact hh)
  clear hq
  go_enter Try.func20, Try.ntmps20
  go_wp2_with fail
  refine ((HN1 _).out (HM.out.gr ((Gr.refl w).alloc _))).mono ?_
  rintro x w1 ⟨rfl, hm1, hg1⟩
  have hs1 : w.heap.size < w1.heap.size := by have := hg1.size; simp at this; omega
  have hga := Gr.alloc (Gr.refl w1) (.cells #[.int .i64 18, .int .i64 0, .int .i64 0] 54)
  have HRB1 := hide ((HB0.out.gc hg1 (by omega)).gc (hga.toGc (cb := mb)) (by omega))
  have HIB1 := hide (Box3.new w1 54 (.int .i64 18) (.int .i64 0) (.int .i64 0))
  have HG1 := hide ((HGw.out.trans hg1).trans (hga.toGc (cb := mb)))
  have HM1 := hide (hm1.gr hga)
  have hne : ¬ w.heap.size = w1.heap.size := by omega
  have hne2 : ¬ w1.heap.size = w.heap.size := by omega
  clear hm1 hg1 hga HB0 HGw HN1 HM
  obtain ⟨i0, i1, i2, y0, y1, y2⟩ := HIB1.out
  obtain ⟨m0, m1, m2, n0, n1, n2⟩ := HRB1.out
  have hq1 := mpick_lt (r := r.tail) (n := 6) (by decide)
  have HN2 : ∀ V : World, Hid (MkR V mb r.tail → Calls Try.prog 17 #[.pointer (some ⟨mb, 0, none⟩), .int .i64 6] V fun x w' => x = .returned (.int .i64 (mpick r.tail 6)) ∧ MkR w' mb r.tail.tail ∧ Gc mb V w') := fun V => hide (next_any mb r.tail 6 (by decide) (by decide) V)
  generalize mpick r.tail 6 = q1 at hq1 HN2
  go_wp2_with fail
  refine ((HN2 _).out HM1.out).mono ?_
  rintro x w2 ⟨rfl, hm2, hg2⟩
  have hib := HIB1.out.gc hg2 (by omega)
  have hrb := HRB1.out.gc hg2 (by omega)
  have hgx := HG1.out.trans hg2
  have hs2 : w1.heap.size < w2.heap.size := Nat.lt_of_lt_of_le (World.block_lt_of_cell? _ _ HIB1.out.1) hg2.size
  obtain ⟨i0, i1, i2, y0, y1, y2⟩ := hib
  obtain ⟨m0, m1, m2, n0, n1, n2⟩ := hrb
  have HIB2 := hide (Box3.set1 (.int .i64 q1) (HIB1.out.gc hg2 (by omega)))
  have HRB2 := hide ((HRB1.out.gc hg2 (by omega)).other (g := w1.heap.size) (o := 1) (v := (.int .i64 q1)) (by omega))
  have HG2 := hide (gc_new (g := w1.heap.size) (o := 1) (v := (.int .i64 q1)) hgx (by omega))
  have HM2 := hide (hm2.set (g := w1.heap.size) (o := 1) (v := (.int .i64 q1)) (by omega))
  clear hm2 hg2 hgx HIB1 HRB1 HG1 HM1 HN2
  have hq2 := mpick_lt (r := r.tail.tail) (n := 9) (by decide)
  have HN3 : ∀ V : World, Hid (MkR V mb r.tail.tail → Calls Try.prog 17 #[.pointer (some ⟨mb, 0, none⟩), .int .i64 9] V fun x w' => x = .returned (.int .i64 (mpick r.tail.tail 9)) ∧ MkR w' mb r.tail.tail.tail ∧ Gc mb V w') := fun V => hide (next_any mb r.tail.tail 9 (by decide) (by decide) V)
  generalize mpick r.tail.tail 9 = q2 at hq2 HN3
  go_wp2_with fail
  refine ((HN3 _).out HM2.out).mono ?_
  rintro x w3 ⟨rfl, hm3, hg3⟩
  have hib := HIB2.out.gc hg3 (by omega)
  have hrb := HRB2.out.gc hg3 (by omega)
  have hgx := HG2.out.trans hg3
  have hs3 : w1.heap.size < w3.heap.size := Nat.lt_of_lt_of_le (World.block_lt_of_cell? _ _ HIB2.out.1) hg3.size
  obtain ⟨i0, i1, i2, y0, y1, y2⟩ := hib
  obtain ⟨m0, m1, m2, n0, n1, n2⟩ := hrb
  have HIB3 := hide (HIB2.out.gc hg3 (by omega))
  have HRB3 := hide (HRB2.out.gc hg3 (by omega))
  have HG3 := hide hgx
  have HM3 := hide hm3
  clear hm3 hg3 hgx HIB2 HRB2 HG2 HM2 HN3
  by_cases hz : q2 = 0
  · have hq3 := mpick_lt (r := r.tail.tail.tail) (n := 65536) (by decide)
    have HN4 : ∀ V : World, Hid (MkR V mb r.tail.tail.tail → Calls Try.prog 17 #[.pointer (some ⟨mb, 0, none⟩), .int .i64 65536] V fun x w' => x = .returned (.int .i64 (mpick r.tail.tail.tail 65536)) ∧ MkR w' mb r.tail.tail.tail.tail ∧ Gc mb V w') := fun V => hide (next_any mb r.tail.tail.tail 65536 (by decide) (by decide) V)
    generalize mpick r.tail.tail.tail 65536 = q3 at hq3 HN4
    subst hz
    go_wp2_with fail
    refine ((HN4 _).out HM3.out).mono ?_
    rintro x w4 ⟨rfl, hm4, hg4⟩
    have hib := HIB3.out.gc hg4 (by omega)
    have hrb := HRB3.out.gc hg4 (by omega)
    have hgx := HG3.out.trans hg4
    have hs4 : w1.heap.size < w4.heap.size := Nat.lt_of_lt_of_le (World.block_lt_of_cell? _ _ HIB3.out.1) hg4.size
    obtain ⟨i0, i1, i2, y0, y1, y2⟩ := hib
    obtain ⟨m0, m1, m2, n0, n1, n2⟩ := hrb
    have HIB4 := hide (Box3.set1 (.int .i64 q3) (HIB3.out.gc hg4 (by omega)))
    have HRB4 := hide ((HRB3.out.gc hg4 (by omega)).other (g := w1.heap.size) (o := 1) (v := (.int .i64 q3)) (by omega))
    have HG4 := hide (gc_new (g := w1.heap.size) (o := 1) (v := (.int .i64 q3)) hgx (by omega))
    have HM4 := hide (hm4.set (g := w1.heap.size) (o := 1) (v := (.int .i64 q3)) (by omega))
    clear hm4 hg4 hgx HIB3 HRB3 HG3 HM3 HN4
    go_wp2
    exact bodyPost_ret (v := .agg #[.int .i64 18, .int .i64 q3, .int .i64 0]) (by simp [results, Try.results20, go_sem, m0, m1, m2]) rfl (by exact ⟨⟨18, q3, 0⟩, rfl, by simp [insOk, wB, operandOk, operandsN]; omega, ⟨_, ((HM4.out.set (g := w.heap.size) (by omega)).set (g := w.heap.size) (by omega)).set (g := w.heap.size) (by omega)⟩, gc_new (gc_new (gc_new HG4.out (Nat.le_refl _)) (Nat.le_refl _)) (Nat.le_refl _)⟩)
  · have hzb : (q2 == 0) = false := by simpa using hz
    go_wp2
    exact bodyPost_ret (v := .agg #[.int .i64 18, .int .i64 q1, .int .i64 0]) (by simp [results, Try.results20, go_sem, m0, m1, m2]) rfl (by exact ⟨⟨18, q1, 0⟩, rfl, by simp [insOk, wB, operandOk, operandsN]; omega, ⟨_, ((HM3.out.set (g := w.heap.size) (by omega)).set (g := w.heap.size) (by omega)).set (g := w.heap.size) (by omega)⟩, gc_new (gc_new (gc_new HG3.out (Nat.le_refl _)) (Nat.le_refl _)) (Nat.le_refl _)⟩)

set_option maxRecDepth 100000 in
set_option maxHeartbeats 2000000 in
theorem ins_19 (mb : Nat) (r : List Int) (w : World) (h : MkR w mb r) (hq : mpick r 21 = 19) :
    Calls Try.prog 20 #[.pointer (some ⟨mb, 0, none⟩)] w (MadeIns mb w) := by
  have HM := hide h
  have hml := h.lt
  clear h
  have HB0 := hide (Box3.new w 54 (.int .i64 0) (.int .i64 0) (.int .i64 0))
  have HGw := hide ((Gr.alloc (Gr.refl w) (.cells #[.int .i64 0, .int .i64 0, .int .i64 0] 54)).toGc (cb := mb))
  have HN1 : ∀ V : World, Hid (MkR V mb r → Calls Try.prog 17 #[.pointer (some ⟨mb, 0, none⟩), .int .i64 21] V fun x w' => x = .returned (.int .i64 19) ∧ MkR w' mb r.tail ∧ Gc mb V w') := fun V => hide (by
    intro hV; have hh := next_any mb r 21 (by decide) (by decide) V hV; rw [hq] at hh; exact hh)
  clear hq
  go_enter Try.func20, Try.ntmps20
  go_wp2_with fail
  refine ((HN1 _).out (HM.out.gr ((Gr.refl w).alloc _))).mono ?_
  rintro x w1 ⟨rfl, hm1, hg1⟩
  have hs1 : w.heap.size < w1.heap.size := by have := hg1.size; simp at this; omega
  have hga := Gr.alloc (Gr.refl w1) (.cells #[.int .i64 19, .int .i64 0, .int .i64 0] 54)
  have HRB1 := hide ((HB0.out.gc hg1 (by omega)).gc (hga.toGc (cb := mb)) (by omega))
  have HIB1 := hide (Box3.new w1 54 (.int .i64 19) (.int .i64 0) (.int .i64 0))
  have HG1 := hide ((HGw.out.trans hg1).trans (hga.toGc (cb := mb)))
  have HM1 := hide (hm1.gr hga)
  have hne : ¬ w.heap.size = w1.heap.size := by omega
  have hne2 : ¬ w1.heap.size = w.heap.size := by omega
  clear hm1 hg1 hga HB0 HGw HN1 HM
  obtain ⟨i0, i1, i2, y0, y1, y2⟩ := HIB1.out
  obtain ⟨m0, m1, m2, n0, n1, n2⟩ := HRB1.out
  have hq1 := mpick_lt (r := r.tail) (n := 6) (by decide)
  have HN2 : ∀ V : World, Hid (MkR V mb r.tail → Calls Try.prog 17 #[.pointer (some ⟨mb, 0, none⟩), .int .i64 6] V fun x w' => x = .returned (.int .i64 (mpick r.tail 6)) ∧ MkR w' mb r.tail.tail ∧ Gc mb V w') := fun V => hide (next_any mb r.tail 6 (by decide) (by decide) V)
  generalize mpick r.tail 6 = q1 at hq1 HN2
  go_wp2_with fail
  refine ((HN2 _).out HM1.out).mono ?_
  rintro x w2 ⟨rfl, hm2, hg2⟩
  have hib := HIB1.out.gc hg2 (by omega)
  have hrb := HRB1.out.gc hg2 (by omega)
  have hgx := HG1.out.trans hg2
  have hs2 : w1.heap.size < w2.heap.size := Nat.lt_of_lt_of_le (World.block_lt_of_cell? _ _ HIB1.out.1) hg2.size
  obtain ⟨i0, i1, i2, y0, y1, y2⟩ := hib
  obtain ⟨m0, m1, m2, n0, n1, n2⟩ := hrb
  have HIB2 := hide (Box3.set1 (.int .i64 q1) (HIB1.out.gc hg2 (by omega)))
  have HRB2 := hide ((HRB1.out.gc hg2 (by omega)).other (g := w1.heap.size) (o := 1) (v := (.int .i64 q1)) (by omega))
  have HG2 := hide (gc_new (g := w1.heap.size) (o := 1) (v := (.int .i64 q1)) hgx (by omega))
  have HM2 := hide (hm2.set (g := w1.heap.size) (o := 1) (v := (.int .i64 q1)) (by omega))
  clear hm2 hg2 hgx HIB1 HRB1 HG1 HM1 HN2
  have hq2 := mpick_lt (r := r.tail.tail) (n := 9) (by decide)
  have HN3 : ∀ V : World, Hid (MkR V mb r.tail.tail → Calls Try.prog 17 #[.pointer (some ⟨mb, 0, none⟩), .int .i64 9] V fun x w' => x = .returned (.int .i64 (mpick r.tail.tail 9)) ∧ MkR w' mb r.tail.tail.tail ∧ Gc mb V w') := fun V => hide (next_any mb r.tail.tail 9 (by decide) (by decide) V)
  generalize mpick r.tail.tail 9 = q2 at hq2 HN3
  go_wp2_with fail
  refine ((HN3 _).out HM2.out).mono ?_
  rintro x w3 ⟨rfl, hm3, hg3⟩
  have hib := HIB2.out.gc hg3 (by omega)
  have hrb := HRB2.out.gc hg3 (by omega)
  have hgx := HG2.out.trans hg3
  have hs3 : w1.heap.size < w3.heap.size := Nat.lt_of_lt_of_le (World.block_lt_of_cell? _ _ HIB2.out.1) hg3.size
  obtain ⟨i0, i1, i2, y0, y1, y2⟩ := hib
  obtain ⟨m0, m1, m2, n0, n1, n2⟩ := hrb
  have HIB3 := hide (HIB2.out.gc hg3 (by omega))
  have HRB3 := hide (HRB2.out.gc hg3 (by omega))
  have HG3 := hide hgx
  have HM3 := hide hm3
  clear hm3 hg3 hgx HIB2 HRB2 HG2 HM2 HN3
  by_cases hz : q2 = 0
  · have hq3 := mpick_lt (r := r.tail.tail.tail) (n := 65536) (by decide)
    have HN4 : ∀ V : World, Hid (MkR V mb r.tail.tail.tail → Calls Try.prog 17 #[.pointer (some ⟨mb, 0, none⟩), .int .i64 65536] V fun x w' => x = .returned (.int .i64 (mpick r.tail.tail.tail 65536)) ∧ MkR w' mb r.tail.tail.tail.tail ∧ Gc mb V w') := fun V => hide (next_any mb r.tail.tail.tail 65536 (by decide) (by decide) V)
    generalize mpick r.tail.tail.tail 65536 = q3 at hq3 HN4
    subst hz
    go_wp2_with fail
    refine ((HN4 _).out HM3.out).mono ?_
    rintro x w4 ⟨rfl, hm4, hg4⟩
    have hib := HIB3.out.gc hg4 (by omega)
    have hrb := HRB3.out.gc hg4 (by omega)
    have hgx := HG3.out.trans hg4
    have hs4 : w1.heap.size < w4.heap.size := Nat.lt_of_lt_of_le (World.block_lt_of_cell? _ _ HIB3.out.1) hg4.size
    obtain ⟨i0, i1, i2, y0, y1, y2⟩ := hib
    obtain ⟨m0, m1, m2, n0, n1, n2⟩ := hrb
    have HIB4 := hide (Box3.set1 (.int .i64 q3) (HIB3.out.gc hg4 (by omega)))
    have HRB4 := hide ((HRB3.out.gc hg4 (by omega)).other (g := w1.heap.size) (o := 1) (v := (.int .i64 q3)) (by omega))
    have HG4 := hide (gc_new (g := w1.heap.size) (o := 1) (v := (.int .i64 q3)) hgx (by omega))
    have HM4 := hide (hm4.set (g := w1.heap.size) (o := 1) (v := (.int .i64 q3)) (by omega))
    clear hm4 hg4 hgx HIB3 HRB3 HG3 HM3 HN4
    go_wp2
    exact bodyPost_ret (v := .agg #[.int .i64 19, .int .i64 q3, .int .i64 0]) (by simp [results, Try.results20, go_sem, m0, m1, m2]) rfl (by exact ⟨⟨19, q3, 0⟩, rfl, by simp [insOk, wB, operandOk, operandsN]; omega, ⟨_, ((HM4.out.set (g := w.heap.size) (by omega)).set (g := w.heap.size) (by omega)).set (g := w.heap.size) (by omega)⟩, gc_new (gc_new (gc_new HG4.out (Nat.le_refl _)) (Nat.le_refl _)) (Nat.le_refl _)⟩)
  · have hzb : (q2 == 0) = false := by simpa using hz
    go_wp2
    exact bodyPost_ret (v := .agg #[.int .i64 19, .int .i64 q1, .int .i64 0]) (by simp [results, Try.results20, go_sem, m0, m1, m2]) rfl (by exact ⟨⟨19, q1, 0⟩, rfl, by simp [insOk, wB, operandOk, operandsN]; omega, ⟨_, ((HM3.out.set (g := w.heap.size) (by omega)).set (g := w.heap.size) (by omega)).set (g := w.heap.size) (by omega)⟩, gc_new (gc_new (gc_new HG3.out (Nat.le_refl _)) (Nat.le_refl _)) (Nat.le_refl _)⟩)

set_option maxRecDepth 100000 in
set_option maxHeartbeats 2000000 in
theorem ins_20 (mb : Nat) (r : List Int) (w : World) (h : MkR w mb r) (hq : mpick r 21 = 20) :
    Calls Try.prog 20 #[.pointer (some ⟨mb, 0, none⟩)] w (MadeIns mb w) := by
  have HM := hide h
  have hml := h.lt
  clear h
  have HB0 := hide (Box3.new w 54 (.int .i64 0) (.int .i64 0) (.int .i64 0))
  have HGw := hide ((Gr.alloc (Gr.refl w) (.cells #[.int .i64 0, .int .i64 0, .int .i64 0] 54)).toGc (cb := mb))
  have HN1 : ∀ V : World, Hid (MkR V mb r → Calls Try.prog 17 #[.pointer (some ⟨mb, 0, none⟩), .int .i64 21] V fun x w' => x = .returned (.int .i64 20) ∧ MkR w' mb r.tail ∧ Gc mb V w') := fun V => hide (by
    intro hV; have hh := next_any mb r 21 (by decide) (by decide) V hV; rw [hq] at hh; exact hh)
  clear hq
  go_enter Try.func20, Try.ntmps20
  go_wp2_with fail
  refine ((HN1 _).out (HM.out.gr ((Gr.refl w).alloc _))).mono ?_
  rintro x w1 ⟨rfl, hm1, hg1⟩
  have hs1 : w.heap.size < w1.heap.size := by have := hg1.size; simp at this; omega
  have hga := Gr.alloc (Gr.refl w1) (.cells #[.int .i64 20, .int .i64 0, .int .i64 0] 54)
  have HRB1 := hide ((HB0.out.gc hg1 (by omega)).gc (hga.toGc (cb := mb)) (by omega))
  have HIB1 := hide (Box3.new w1 54 (.int .i64 20) (.int .i64 0) (.int .i64 0))
  have HG1 := hide ((HGw.out.trans hg1).trans (hga.toGc (cb := mb)))
  have HM1 := hide (hm1.gr hga)
  have hne : ¬ w.heap.size = w1.heap.size := by omega
  have hne2 : ¬ w1.heap.size = w.heap.size := by omega
  obtain ⟨p0, p1, p2, r0, r1, r2⟩ := HB0.out.gc hg1 (by omega)
  have HM0 := hide hm1
  have HG0 := hide (HGw.out.trans hg1)
  clear hm1 hg1 hga HB0 HGw HN1 HM
  obtain ⟨i0, i1, i2, y0, y1, y2⟩ := HIB1.out
  obtain ⟨m0, m1, m2, n0, n1, n2⟩ := HRB1.out
  clear m0 m1 m2 n0 n1 n2
  have hF : Box3 ((((w1.setCell ⟨w.heap.size, 0, none⟩ (.int .i64 20)).setCell ⟨w.heap.size, 1, none⟩ (.int .i64 0)).setCell ⟨w.heap.size, 2, none⟩ (.int .i64 0)).alloc (.cells #[.int .i64 20, .int .i64 0, .int .i64 0] 54)) w.heap.size (.int .i64 20) (.int .i64 0) (.int .i64 0) := (((Box3.set0 (.int .i64 20) (show Box3 w1 w.heap.size (.int .i64 0) (.int .i64 0) (.int .i64 0) from ⟨p0, p1, p2, r0, r1, r2⟩)).set1 (.int .i64 0)).set2 (.int .i64 0)).gc ((Gr.alloc (Gr.refl _) (.cells #[.int .i64 20, .int .i64 0, .int .i64 0] 54)).toGc (cb := mb)) (by omega)
  have HF := hide hF
  clear hF
  go_wp2
  obtain ⟨c0, c1, c2, _, _, _⟩ := HF.out
  exact bodyPost_ret (v := .agg #[.int .i64 20, .int .i64 0, .int .i64 0]) (by simp [results, Try.results20, go_sem, c0, c1, c2]) rfl (by exact ⟨⟨20, 0, 0⟩, rfl, by simp [insOk, wB, operandOk, operandsN], ⟨_, (((HM0.out.set (g := w.heap.size) (by omega)).set (g := w.heap.size) (by omega)).set (g := w.heap.size) (by omega)).gr ((Gr.refl _).alloc _)⟩, Gc.trans_ (gc_new (gc_new (gc_new HG0.out (Nat.le_refl _)) (Nat.le_refl _)) (Nat.le_refl _)) ((Gr.refl _).alloc _).toGc⟩)

theorem ins_any (mb : Nat) (r : List Int) (w : World) (h : MkR w mb r) :
    Calls Try.prog 20 #[.pointer (some ⟨mb, 0, none⟩)] w (MadeIns mb w) := by
  have hq := mpick_lt (r := r) (n := 21) (by decide)
  have hc : mpick r 21 = 0 ∨ mpick r 21 = 1 ∨ mpick r 21 = 2 ∨ mpick r 21 = 3 ∨ mpick r 21 = 4 ∨ mpick r 21 = 5 ∨ mpick r 21 = 6 ∨ mpick r 21 = 7 ∨ mpick r 21 = 8 ∨ mpick r 21 = 9 ∨ mpick r 21 = 10 ∨ mpick r 21 = 11 ∨ mpick r 21 = 12 ∨ mpick r 21 = 13 ∨ mpick r 21 = 14 ∨ mpick r 21 = 15 ∨ mpick r 21 = 16 ∨ mpick r 21 = 17 ∨ mpick r 21 = 18 ∨ mpick r 21 = 19 ∨ mpick r 21 = 20 := by omega
  rcases hc with hc | hc | hc | hc | hc | hc | hc | hc | hc | hc | hc | hc | hc | hc | hc | hc | hc | hc | hc | hc | hc
  · exact ins_0 mb r w h hc
  · exact ins_1 mb r w h hc
  · exact ins_2 mb r w h hc
  · exact ins_3 mb r w h hc
  · exact ins_4 mb r w h hc
  · exact ins_5 mb r w h hc
  · exact ins_6 mb r w h hc
  · exact ins_7 mb r w h hc
  · exact ins_8 mb r w h hc
  · exact ins_9 mb r w h hc
  · exact ins_10 mb r w h hc
  · exact ins_11 mb r w h hc
  · exact ins_12 mb r w h hc
  · exact ins_13 mb r w h hc
  · exact ins_14 mb r w h hc
  · exact ins_15 mb r w h hc
  · exact ins_16 mb r w h hc
  · exact ins_17 mb r w h hc
  · exact ins_18 mb r w h hc
  · exact ins_19 mb r w h hc
  · exact ins_20 mb r w h hc
end Go.Proofs.Ytkgncijcnlfhiaa
