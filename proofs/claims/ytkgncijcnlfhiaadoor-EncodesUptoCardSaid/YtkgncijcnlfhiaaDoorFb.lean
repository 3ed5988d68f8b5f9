import Derived.Test.YtkgncijcnlfhiaaDoorFa
namespace Go.Proofs.YtkgncijcnlfhiaaDoor
set_option linter.unusedVariables false
set_option linter.unusedSimpArgs false
open Go.RowKit
attribute [local go_sem ↓] Go.wp_at_zero Go.wp_at_succ
set_option maxRecDepth 100000 in
set_option maxHeartbeats 8000000 in
theorem section_ref (n : Nat) (hn : n < 256) (B : List UInt8) (hB : B.length ≤ 1000000) (a1 a2 a3 a4 a5 : Option Addr) (l1 l2 l3 l4 l5 c1 c2 c3 c4 c5 : Nat) (w : World)
    (hbody : ∀ V : World, Gr w V → Calls Tryd.prog 72 #[.agg #[.slice a1 l1 c1, .slice a2 l2 c2, .slice a3 l3 c3, .slice a4 l4 c4, .slice a5 l5 c5], .int .i64 (n : Int)] V fun x w' => x = .returned (.string ⟨B.toArray⟩) ∧ Gr V w') :
    Calls Tryd.prog 34 #[.agg #[.slice a1 l1 c1, .slice a2 l2 c2, .slice a3 l3 c3, .slice a4 l4 c4, .slice a5 l5 c5], .int .i64 (n : Int)] w fun x w' => x = .returned (.string ⟨(sect n B).toArray⟩) ∧ Gr w w' := by
  have hga := Gr.alloc (Gr.refl w) (.cells #[.slice a1 l1 c1, .slice a2 l2 c2, .slice a3 l3 c3, .slice a4 l4 c4, .slice a5 l5 c5] 28)
  have HB := hide (Box5.new w 28 (.slice a1 l1 c1) (.slice a2 l2 c2) (.slice a3 l3 c3) (.slice a4 l4 c4) (.slice a5 l5 c5))
  have HG := hide hga
  have HBd := hide (hbody _ hga)
  have hN : ∀ V : World, Hid (Calls Tryd.prog 73 #[.int .i64 (B.length : Int)] V fun x w' => x = .returned (.string ⟨(num B.length).toArray⟩) ∧ Gr V w') := fun V => hide (by
    have h := count_ref (B.length : Int) (by omega) (by omega) V
    simp only [Int.toNat_natCast] at h; exact h)
  have hK : ∀ V : World, Hid (Calls Tryd.prog 74 #[.string ⟨B.toArray⟩] V fun x w' => x = .returned (.string ⟨(leK (crc B) 4).toArray⟩) ∧ Gr V w') := fun V => hide (check_ref ⟨B.toArray⟩ V (by show B.toArray.size ≤ _; rw [List.size_toArray]; omega))
  have q1 := num_len B.length
  have q2 := leK_len (crc B) 4
  have HE : Hid (sect n B = (([UInt8.ofNat n] ++ num B.length) ++ B) ++ leK (crc B) 4) := hide rfl
  generalize num B.length = U1 at hN q1 HE
  generalize leK (crc B) 4 = U2 at hK q2 HE
  obtain ⟨X1, hX1⟩ : ∃ X, X = [UInt8.ofNat n] ++ U1 := ⟨_, rfl⟩
  obtain ⟨X2, hX2⟩ : ∃ X, X = X1 ++ B := ⟨_, rfl⟩
  obtain ⟨X3, hX3⟩ : ∃ X, X = X2 ++ U2 := ⟨_, rfl⟩
  have t1 : (ByteArray.mk #[UInt8.ofNat n] ++ ByteArray.mk U1.toArray) = ByteArray.mk X1.toArray := by rw [hX1]; exact str_app [UInt8.ofNat n] U1
  have t2 := str_app X1 B
  have t3 := str_app X2 U2
  rw [← hX1] at HE
  rw [← hX2] at t2 HE
  rw [← hX3] at t3 HE
  have z1 : U1.length ≤ 5000 := by omega
  have z2 : U2.length ≤ 5000 := by omega
  have x1 : X1.length ≤ 10000 := by rw [hX1, List.length_append]; simp; omega
  have x2 : X2.length ≤ 1020000 := by rw [hX2, List.length_append]; omega
  clear hX1 hX2 hX3 q1 q2 hbody hga
  have hw8 : IntKind.u8.wrap (n : Int) = (n : Int) := by rw [IntKind.wrap_u8]; omega
  obtain ⟨p0, p1, p2, p3, p4, _⟩ := HB.out
  go_enter Tryd.func34, Tryd.ntmps34
  go_wp2_with fail
  clear p0 p1 p2 p3 p4
  refine HBd.out.mono ?_
  rintro x w1 ⟨rfl, hg1⟩
  have HG1 := hide (HG.out.trans hg1)
  clear hg1 HBd HB HG
  generalize w.alloc (.cells #[.slice a1 l1 c1, .slice a2 l2 c2, .slice a3 l3 c3, .slice a4 l4 c4, .slice a5 l5 c5] 28) = W0 at *
  have hobA : (convert 113 9 (.slice (some ⟨w1.heap.size, 0, none⟩) 1 1)).run Tryd.prog (w1.alloc (.cells #[.int .u8 (n : Int)] 5)).drew = .ok (.string ⟨#[UInt8.ofNat n]⟩) (w1.alloc (.cells #[.int .u8 (n : Int)] 5)).drew := one_byte w1.drew n hn
  have hob := fun V : World => one_byte V n hn
  go_wp2_with fail
  go_region_with (first | (go_at_call 73; refine (hN _).out.mono ?_; rintro y wq ⟨rfl, hgq⟩; (first | (have hq := hgq.cell (show (w1.alloc (.cells #[.int .u8 (n : Int)] 5)).drew.cell? ⟨w1.heap.size, 0, none⟩ = some (.int .u8 (n : Int)) by simp [go_sem]) (by simp); have hobC := one_byte_at wq w1.heap.size n hn hq) | skip)) | (go_at_call 74; refine (hK _).out.mono ?_; rintro y wc ⟨rfl, hgc⟩; (first | (have hobD := one_byte_at wc w1.heap.size n hn (hgc.cell hq (by simp))) | (have hobD := one_byte_at wc wq.heap.size n hn (hgc.cell (show (wq.alloc (.cells #[.int .u8 (n : Int)] 5)).cell? ⟨wq.heap.size, 0, none⟩ = some (.int .u8 (n : Int)) by simp [go_sem]) (by simp))) | skip)))
  all_goals go_wp2_with fail
  all_goals go_ret
  all_goals refine ⟨by rw [HE.out]; rfl, HG1.out.trans ?_⟩
  all_goals first | exact (Gr.trans (Gr.drew ((Gr.refl w1).alloc _)) hgq).trans hgc | exact (Gr.trans (Gr.trans (Gr.drew (Gr.refl w1)) hgq) (Gr.alloc (Gr.refl _) _)).trans hgc | exact ((Gr.trans (Gr.drew (Gr.refl w1)) hgq).trans hgc).alloc _
end Go.Proofs.YtkgncijcnlfhiaaDoor
