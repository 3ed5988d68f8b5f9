import Derived.Test.YtkgncijcnlfhiaaM9
import Derived.Test.YtkgncijcnlfhiaaN2
import Derived.Test.YtkgncijcnlfhiaaQ8
namespace Go.Proofs.Ytkgncijcnlfhiaa
set_option linter.unusedVariables false
set_option linter.unusedSimpArgs false
open Go.RowKit
attribute [local go_sem ↓] Go.wp_at_zero Go.wp_at_succ
theorem sect_le (n : Nat) (b : List UInt8) : (sect n b).length ≤ 16 + b.length := by
  have := num_len b.length
  unfold sect; simp only [List.length_append, leK_len, List.length_cons, List.length_nil]; omega
/-- what is made is well formed, and small -/
theorem small_ok {N : Nat} {u : PUnit} (h : Small N u) (hN : u.shapes.length = N) : unitOk u = true ∧ Fits u ∧ (enc u).length ≤ 10000 := by
  obtain ⟨n, s1, s2, c1, c2, f1, f2, i1, i2, e1, e2⟩ := h
  refine ⟨?_, c2, ?_⟩
  · have hs : shapesOk u.shapes = true := by
      unfold shapesOk
      rw [Bool.and_eq_true]
      refine ⟨by simp [wB]; omega, List.all_eq_true.2 fun x hx => ?_⟩
      have := s2 x hx
      unfold shapeOk
      rw [Bool.and_eq_true]
      exact ⟨by simp [wB]; omega, by rw [hN]; exact this.2⟩
    have hc : constsOk u.consts = true := by simp [constsOk, wB]; omega
    have hf : funcsOk u.funcs u.shapes.length = true := by
      unfold funcsOk
      rw [Bool.and_eq_true]
      refine ⟨by simp [wB]; omega, List.all_eq_true.2 fun x hx => ?_⟩
      obtain ⟨⟨p1, p2⟩, p3, ⟨p4, p5⟩, ⟨p6, p7⟩, p8⟩ := f2 x hx
      unfold funcOk sigOk codeOk
      rw [hN]
      simp only [Bool.and_eq_true]
      exact ⟨⟨by simp [wB]; omega, p2, p3⟩, by simp [wB]; omega, p5, by simp [wB]; omega, p8⟩
    have hi : importsOk u.imports u.shapes.length = true := by
      unfold importsOk
      rw [Bool.and_eq_true]
      refine ⟨by simp [wB]; omega, List.all_eq_true.2 fun x hx => ?_⟩
      obtain ⟨⟨p1, p2⟩, ⟨p3, p4⟩, p5⟩ := i2 x hx
      unfold impOk sigOk nameOk
      rw [hN]
      simp only [Bool.and_eq_true]
      exact ⟨by simp [wB]; omega, by simp [wB]; omega, p4, p5⟩
    have he : exportsOk u.exports u.funcs.length = true := by
      unfold exportsOk
      rw [Bool.and_eq_true]
      refine ⟨by simp [wB]; omega, List.all_eq_true.2 fun x hx => ?_⟩
      obtain ⟨⟨p1, p2⟩, p3⟩ := e2 x hx
      unfold expOk nameOk
      simp only [Bool.and_eq_true]
      exact ⟨by simp [wB]; omega, p3⟩
    unfold unitOk
    rw [hs, hc, hf, hi, he]; rfl
  · have b1 : (body1 u).length ≤ 11 + 3 * 55 := encs_len (fun x hx => by have := encKinds_len (l := x) (N := 4) (s2 x hx).1.2; omega) s1
    have b2 : (body2 u).length ≤ 11 + 4 * 11 := encs_len (fun x _ => num_len _) c1
    have b3 : (body3 u).length ≤ 11 + 3 * 500 := encs_len (fun x hx => by
      obtain ⟨⟨p1, p2⟩, p3, ⟨p4, p5⟩, ⟨p6, p7⟩, p8⟩ := f2 x hx
      have a1 := encKinds_len (l := x.params) (N := 4) p1
      have a2 := encKinds_len (l := x.locals) (N := 4) p4
      have a3 := num_len x.result.toNat
      have a4 := encs_len (f := encIns) (B := 23) (N := 12) (xs := x.code) (fun y _ => encIns_len y) p7
      unfold encFunc; simp only [List.length_append, encWhole]; omega) f1
    have b4 : (body4 u).length ≤ 11 + 3 * 100 := encs_len (fun x hx => by
      obtain ⟨⟨p1, p2⟩, ⟨p3, p4⟩, p5⟩ := i2 x hx
      have a1 := encKinds_len (l := x.params) (N := 4) p3
      have a3 := num_len x.result.toNat
      have a4 := num_len x.name.length
      unfold encImp encText; simp only [List.length_append, encWhole]; omega) i1
    have b5 : (body5 u).length ≤ 11 + 3 * 100 := encs_len (fun x hx => by
      obtain ⟨⟨p1, p2⟩, p3⟩ := e2 x hx
      have a3 := num_len x.func.toNat
      have a4 := num_len x.name.length
      unfold encExp encText; simp only [List.length_append, encWhole]; omega) e1
    have l1 := sect_le 1 (body1 u)
    have l2 := sect_le 2 (body2 u)
    have l3 := sect_le 3 (body3 u)
    have l4 := sect_le 4 (body4 u)
    have l5 := sect_le 5 (body5 u)
    have l0 : magic.length = 5 := rfl
    unfold enc enc4 enc3 enc2 enc1; simp only [List.length_append]; omega

theorem mk_new (w : World) (v : Value) (l : List Int) (hl : RInts w v l) (hf : ∀ x ∈ l, fitsI x) (o : Obj) : MkR ((w.alloc o).alloc (.cells #[v, .int .i64 0] 42)) (w.heap.size + 1) l := by
  obtain ⟨ao, cap, rfl, hm, hc⟩ := hl
  have hg : Gr w ((w.alloc o).alloc (.cells #[.slice ao l.length cap, .int .i64 0] 42)) := ((Gr.refl w).alloc _).alloc _
  have hb := Box2.new (w.alloc o) 42 (.slice ao l.length cap) (.int .i64 0)
  rw [show (w.alloc o).heap.size = w.heap.size + 1 by simp] at hb
  refine ⟨l, 0, ao, cap, hb.1, hb.2.1, hb.2.2.2, Nat.zero_le _, hm, by simp, fun i hi => ?_, hf⟩
  obtain ⟨b, off, e1, e2⟩ := hc i hi
  exact ⟨b, off, e1, by have : b < w.heap.size := World.block_lt_of_cell? w _ e2; omega, hg.cell e2 (by simp)⟩

def MadeU (w : World) (x : Ending) (w' : World) : Prop := ∃ (v : Value) (u : PUnit), x = .returned v ∧ RUnitF w.heap.size w' v u ∧ (unitOk u = true ∧ Fits u ∧ (enc u).length ≤ 10000) ∧ Below w.heap.size w w'
set_option maxRecDepth 100000 in
set_option maxHeartbeats 2000000 in
theorem unit_of (v : Value) (l : List Int) (w : World) (hl : RInts w v l) (hf : ∀ x ∈ l, fitsI x) :
    Calls Try.prog 5 #[v] w (MadeU w) := by
  have HM := hide (mk_new w v l hl hf (.cells #[.slice none 0 0, .slice none 0 0, .slice none 0 0, .slice none 0 0, .slice none 0 0] 28))
  have hg1 : Gr w ((w.alloc (.cells #[.slice none 0 0, .slice none 0 0, .slice none 0 0, .slice none 0 0, .slice none 0 0] 28)).alloc (.cells #[v, .int .i64 0] 42)) := ((Gr.refl w).alloc _).alloc _
  have HG := hide hg1
  have HB := hide ((Box5.new w 28 (.slice none 0 0) (.slice none 0 0) (.slice none 0 0) (.slice none 0 0) (.slice none 0 0)).gr (Gr.alloc (Gr.refl _) (.cells #[v, .int .i64 0] 42)))
  have HSZ : Hid (((w.alloc (.cells #[.slice none 0 0, .slice none 0 0, .slice none 0 0, .slice none 0 0, .slice none 0 0] 28)).alloc (.cells #[v, .int .i64 0] 42)).heap.size = w.heap.size + 2) := hide (by simp)
  obtain ⟨a0, c0, rfl⟩ := hl.shape
  clear hg1 hl hf
  go_enter Try.func5, Try.ntmps5
  go_wp2_with fail
  refine (unit_made (w.heap.size + 1) l _ HM.out).mono ?_
  generalize (w.alloc (.cells #[.slice none 0 0, .slice none 0 0, .slice none 0 0, .slice none 0 0, .slice none 0 0] 28)).alloc (.cells #[.slice a0 l.length c0, .int .i64 0] 42) = W at HM HG HB HSZ ⊢
  rintro x w1 ⟨v, u, N, rfl, hu, hs, hN, hg1⟩
  have HS := hide (small_ok hs hN)
  obtain ⟨v1, v2, v3, v4, v5, rfl, k1, k2, k3, k4, k5⟩ := hu
  obtain ⟨a1, c1, rfl⟩ := k1.shape
  obtain ⟨a2, c2, rfl⟩ := k2.shape
  obtain ⟨a3, c3, rfl⟩ := k3.shape
  obtain ⟨a4, c4, rfl⟩ := k4.shape
  obtain ⟨a5, c5, rfl⟩ := k5.shape
  have HU : Hid (RUnitF W.heap.size w1 (.agg #[.slice a1 u.shapes.length c1, .slice a2 u.consts.length c2, .slice a3 u.funcs.length c3, .slice a4 u.imports.length c4, .slice a5 u.exports.length c5]) u) := hide ⟨_, _, _, _, _, rfl, k1, k2, k3, k4, k5⟩
  have hb := HB.out.gc hg1 (by omega)
  have HBX := hide (put5_box (.slice a1 u.shapes.length c1) (.slice a2 u.consts.length c2) (.slice a3 u.funcs.length c3) (.slice a4 u.imports.length c4) (.slice a5 u.exports.length c5) hb)
  obtain ⟨b0, b1, b2, b3, b4, d0, d1, d2, d3, d4⟩ := hb
  have HBe := hide ((((Below.refl w.heap.size w).grown HG.out (Nat.le_refl _) (by simp)).grown hg1 HG.out.size (fun k e => by simp only [Option.some.injEq] at e; omega)))
  clear k1 k2 k3 k4 k5 hs hN hg1 HB HM HG
  go_wp2
  rw [put5_eq]
  obtain ⟨b0, b1, b2, b3, b4, d0, d1, d2, d3, d4⟩ := HBX.out
  have hUm : RUnitF w.heap.size (put5 w1 w.heap.size (.slice a1 u.shapes.length c1) (.slice a2 u.consts.length c2) (.slice a3 u.funcs.length c3) (.slice a4 u.imports.length c4) (.slice a5 u.exports.length c5)) (.agg #[.slice a1 u.shapes.length c1, .slice a2 u.consts.length c2, .slice a3 u.funcs.length c3, .slice a4 u.imports.length c4, .slice a5 u.exports.length c5]) u := by
    obtain ⟨x1, x2, x3, x4, x5, hx, k1, k2, k3, k4, k5⟩ := put5_unit (y0 := .slice a1 u.shapes.length c1) (y1 := .slice a2 u.consts.length c2) (y2 := .slice a3 u.funcs.length c3) (y3 := .slice a4 u.imports.length c4) (y4 := .slice a5 u.exports.length c5) HU.out (show w.heap.size < W.heap.size by have := HSZ.out; omega)
    have hle : w.heap.size ≤ W.heap.size := by have := HSZ.out; omega
    exact ⟨x1, x2, x3, x4, x5, hx, k1.mono hle, k2.mono hle, k3.mono hle, k4.mono hle, k5.mono hle⟩
  exact bodyPost_ret (v := .agg #[.slice a1 u.shapes.length c1, .slice a2 u.consts.length c2, .slice a3 u.funcs.length c3, .slice a4 u.imports.length c4, .slice a5 u.exports.length c5]) (by simp [results, Try.results5, go_sem, b0, b1, b2, b3, b4]) rfl (by exact ⟨_, u, rfl, hUm, HS.out, ((((HBe.out.setCell (Nat.le_refl _) _).setCell (Nat.le_refl _) _).setCell (Nat.le_refl _) _).setCell (Nat.le_refl _) _).setCell (Nat.le_refl _) _⟩)
end Go.Proofs.Ytkgncijcnlfhiaa
