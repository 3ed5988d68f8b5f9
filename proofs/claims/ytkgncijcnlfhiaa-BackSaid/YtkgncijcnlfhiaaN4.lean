import Derived.Test.YtkgncijcnlfhiaaN3
namespace Go.Proofs.Ytkgncijcnlfhiaa
set_option linter.unusedVariables false
set_option linter.unusedSimpArgs false
open Go.RowKit
attribute [local go_sem ↓] Go.wp_at_zero Go.wp_at_succ
def noUnit : PUnit := ⟨[], [], [], [], []⟩
theorem no_unit (w : World) : RUnit w (.agg #[.slice none 0 0, .slice none 0 0, .slice none 0 0, .slice none 0 0, .slice none 0 0]) noUnit :=
  ⟨_, _, _, _, _, rfl, ⟨none, 0, rfl, by decide, fun i x h => by simp [noUnit] at h⟩, ⟨none, 0, rfl, by decide, fun i h => by simp [noUnit] at h⟩, ⟨none, 0, rfl, by decide, fun i x h => by simp [noUnit] at h⟩, ⟨none, 0, rfl, by decide, fun i x h => by simp [noUnit] at h⟩, ⟨none, 0, rfl, by decide, fun i x h => by simp [noUnit] at h⟩⟩
/-- Encode of a unit that is well formed and small -/
theorem encode_good {u : PUnit} (vu : Value) (W : World) (hR : RUnit W vu u) (h : unitOk u = true ∧ Fits u ∧ (enc u).length ≤ 10000) :
    Calls Try.prog 6 #[vu] W fun x w' => x = .returned (.tuple #[.string ⟨(enc u).toArray⟩, .int .i64 0]) ∧ Below W.heap.size W w' := by
  have e1 : encErr u = 0 := by unfold encErr; rw [h.1, if_pos rfl, if_pos (by omega)]
  have e2 : encStr u = enc u := by unfold encStr; rw [h.1, if_pos rfl, if_pos (by omega)]
  have hh := encode_any u vu W hR h.2.1
  rw [e1, e2] at hh
  exact hh
theorem decode_good {u : PUnit} (w : World) (h : unitOk u = true ∧ Fits u ∧ (enc u).length ≤ 10000) :
    Calls Try.prog 7 #[.string ⟨(enc u).toArray⟩] w (DecR w (.inl u)) := by
  have hd := dec_tail h.1 h.2.1 [] (by simp; omega)
  rw [List.append_nil, if_pos rfl] at hd
  have hh := decode_any ⟨(enc u).toArray⟩ w (by show (enc u).toArray.size ≤ maxLen; rw [List.size_toArray]; unfold maxLen; omega)
  rw [show (ByteArray.mk (enc u).toArray).data.toList = enc u from rfl, hd] at hh
  exact hh
theorem decode_cut {u : PUnit} (w : World) (h : unitOk u = true ∧ Fits u ∧ (enc u).length ≤ 10000) (k : Nat) (hk : k < (enc u).length) (s : ByteArray) (hs : s.data.toList = (enc u).take k) :
    Calls Try.prog 7 #[.string s] w (fun x w' => x = .returned (.tuple #[.agg #[.slice none 0 0, .slice none 0 0, .slice none 0 0, .slice none 0 0, .slice none 0 0], .int .i64 2, .int .i64 (cutPlace u k : Nat)]) ∧ Gr w w') := by
  have hd := dec_cut h.1 h.2.1 (by omega) hk
  have hl : s.size = ((enc u).take k).length := by rw [← hs, Array.length_toList]; rfl
  have hh := decode_any s w (by rw [hl, List.length_take]; unfold maxLen; omega)
  rw [hs, hd] at hh
  exact hh
theorem decode_more {u : PUnit} (w : World) (h : unitOk u = true ∧ Fits u ∧ (enc u).length ≤ 10000) (y : UInt8) (s : ByteArray) (hs : s.data.toList = enc u ++ [y]) :
    Calls Try.prog 7 #[.string s] w (fun x w' => x = .returned (.tuple #[.agg #[.slice none 0 0, .slice none 0 0, .slice none 0 0, .slice none 0 0, .slice none 0 0], .int .i64 2, .int .i64 ((enc u).length : Nat)]) ∧ Gr w w') := by
  have hd := dec_tail h.1 h.2.1 [y] (by simp; omega)
  rw [if_neg (by simp)] at hd
  have hl : s.size = (enc u ++ [y]).length := by rw [← hs, Array.length_toList]; rfl
  have hh := decode_any s w (by rw [hl, List.length_append]; unfold maxLen; simp; omega)
  rw [hs, hd] at hh
  exact hh
theorem enc_40 {u : PUnit} (h : unitOk u = true ∧ Fits u ∧ (enc u).length ≤ 10000) : 40 ≤ (enc u).length := by
  have hd := dec_tail h.1 h.2.1 [] (by simp; omega)
  rw [List.append_nil, if_pos rfl] at hd
  exact (dec_ok hd).2.2.2.2
theorem RUnit.below {w w' : World} {v : Value} {u : PUnit} (h : RUnitF 0 w v u) (g : Below w.heap.size w w') : RUnitF 0 w' v u := h.kp fun k _ hk => g.block k hk

set_option maxRecDepth 100000 in
set_option maxHeartbeats 8000000 in
theorem back_any (v : Value) (l : List Int) (cut more : Int) (w : World) (hl : RInts w v l) (hf : ∀ x ∈ l, fitsI x) (hc : fitsI cut) (hm : fitsI more) :
    Calls Try.prog 3 #[v, .int .i64 cut, .int .i64 more] w fun x w' => x = .returned (.bool true) ∧ Below w.heap.size w w' := by
  have HUO := hide (unit_of v l w hl hf)
  obtain ⟨a0, c0, rfl⟩ := hl.shape
  clear hl hf
  go_enter Try.func3, Try.ntmps3
  go_wp2_with fail
  refine HUO.out.mono ?_
  clear HUO
  rintro x w1 ⟨vu, u, rfl, hu, hgood, hb1⟩
  have HGood := hide hgood
  have h40 := enc_40 hgood
  have hle := hgood.2.2
  obtain ⟨v1, v2, v3, v4, v5, rfl, k1, k2, k3, k4, k5⟩ := hu
  obtain ⟨a1, c1, rfl⟩ := k1.shape
  obtain ⟨a2, c2, rfl⟩ := k2.shape
  obtain ⟨a3, c3, rfl⟩ := k3.shape
  obtain ⟨a4, c4, rfl⟩ := k4.shape
  obtain ⟨a5, c5, rfl⟩ := k5.shape
  have hz := Nat.zero_le w.heap.size
  have hU0 : RUnitF 0 w1 (.agg #[.slice a1 u.shapes.length c1, .slice a2 u.consts.length c2, .slice a3 u.funcs.length c3, .slice a4 u.imports.length c4, .slice a5 u.exports.length c5]) u := ⟨_, _, _, _, _, rfl, k1.mono hz, k2.mono hz, k3.mono hz, k4.mono hz, k5.mono hz⟩
  have hgA := Gr.alloc (Gr.refl w1) (.cells #[.slice a1 u.shapes.length c1, .slice a2 u.consts.length c2, .slice a3 u.funcs.length c3, .slice a4 u.imports.length c4, .slice a5 u.exports.length c5] 28)
  have HU1 := hide (hU0.kp hgA.kp)
  have HBA := hide (Box5.new w1 28 (.slice a1 u.shapes.length c1) (.slice a2 u.consts.length c2) (.slice a3 u.funcs.length c3) (.slice a4 u.imports.length c4) (.slice a5 u.exports.length c5))
  have HB1 := hide (hb1.grown hgA hb1.size (by simp))
  have hs1 := hb1.size
  generalize hAe : w1.heap.size = A at HBA
  have HAe := hide hAe
  clear k1 k2 k3 k4 k5 hz hU0 hgA hgood hb1
  go_wp2_with fail
  obtain ⟨p0, p1, p2, p3, p4, _⟩ := HBA.out
  refine (encode_good _ _ HU1.out.to HGood.out).mono ?_
  rintro x w2 ⟨rfl, hb2⟩
  generalize hWe : w1.alloc (.cells #[.slice a1 u.shapes.length c1, .slice a2 u.consts.length c2, .slice a3 u.funcs.length c3, .slice a4 u.imports.length c4, .slice a5 u.exports.length c5] 28) = W at HU1 HBA HB1 hb2
  clear p0 p1 p2 p3 p4 hWe
  have HU2 := hide (RUnit.below HU1.out hb2)
  have HBA2 := hide (HBA.out.below hb2)
  have HB2 := hide (HB1.out.trans (hb2.mono HB1.out.size))
  clear hb2 HU1 HBA HB1
  go_wp2_with fail
  refine (decode_good w2 HGood.out).mono ?_
  rintro x w3 ⟨vd, B, rfl, hB, hd, hg3⟩
  obtain ⟨v1, v2, v3, v4, v5, rfl, k1, k2, k3, k4, k5⟩ := hd
  obtain ⟨d1, e1, rfl⟩ := k1.shape
  obtain ⟨d2, e2, rfl⟩ := k2.shape
  obtain ⟨d3, e3, rfl⟩ := k3.shape
  obtain ⟨d4, e4, rfl⟩ := k4.shape
  obtain ⟨d5, e5, rfl⟩ := k5.shape
  have hD0 : RUnitF 0 w3 (.agg #[.slice d1 u.shapes.length e1, .slice d2 u.consts.length e2, .slice d3 u.funcs.length e3, .slice d4 u.imports.length e4, .slice d5 u.exports.length e5]) u := ⟨_, _, _, _, _, rfl, k1.mono (Nat.zero_le _), k2.mono (Nat.zero_le _), k3.mono (Nat.zero_le _), k4.mono (Nat.zero_le _), k5.mono (Nat.zero_le _)⟩
  have hgD := Gr.alloc (Gr.refl w3) (.cells #[.slice d1 u.shapes.length e1, .slice d2 u.consts.length e2, .slice d3 u.funcs.length e3, .slice d4 u.imports.length e4, .slice d5 u.exports.length e5] 28)
  have HD4 := hide (hD0.kp hgD.kp)
  have HU4 := hide ((HU2.out.kp hg3.kp).kp hgD.kp)
  have HBA4 := hide ((HBA2.out.gr hg3).gr hgD)
  have HBD4 := hide (Box5.new w3 28 (.slice d1 u.shapes.length e1) (.slice d2 u.consts.length e2) (.slice d3 u.funcs.length e3) (.slice d4 u.imports.length e4) (.slice d5 u.exports.length e5))
  have HB4 := hide ((HB2.out.grown hg3 HB2.out.size (by simp)).grown hgD (Nat.le_trans HB2.out.size hg3.size) (by simp))
  clear k1 k2 k3 k4 k5 hB hD0 hgD hg3 HU2 HBA2 HB2
  obtain ⟨p0, p1, p2, p3, p4, _⟩ := HBA4.out
  go_wp2_with fail
  clear p0 p1 p2 p3 p4
  refine (same_unit _ _ u _ HU4.out.to HD4.out.to).mono ?_
  generalize w3.alloc (.cells #[.slice d1 u.shapes.length e1, .slice d2 u.consts.length e2, .slice d3 u.funcs.length e3, .slice d4 u.imports.length e4, .slice d5 u.exports.length e5] 28) = W4 at HU4 HD4 HBA4 HBD4 HB4 ⊢
  rintro x w5 ⟨rfl, hg5⟩
  have HB5 := hide (HB4.out.grown hg5 HB4.out.size (by simp))
  clear hg5 HU4 HD4 HBA4 HBD4 HB4
  generalize hLe : (enc u).length = L at h40 hle
  have HLe := hide hLe
  have hsL : (ByteArray.mk (enc u).toArray).size = L := by show (enc u).toArray.size = L; rw [List.size_toArray]; exact hLe
  clear hLe
  obtain ⟨k, hk⟩ : ∃ k : Nat, pickOf cut L = k := ⟨(pickOf cut L).toNat, by have := pickOf_lt (c := cut) (n := (L : Int)) (by omega); omega⟩
  have hkL : k < L := by have := (pickOf_lt (c := cut) (n := (L : Int)) (by omega)).2; omega
  have HPK : ∀ V : World, Hid (Calls Try.prog 9 #[.int .i64 cut, .int .i64 (L : Int)] V fun x w' => x = .returned (.int .i64 (k : Int)) ∧ w' = V) := fun V => hide (by rw [← hk]; exact pick_any cut L V hc (by omega) (by omega))
  obtain ⟨y, hy⟩ : ∃ y : Nat, pickOf more 256 = y := ⟨(pickOf more 256).toNat, by have := pickOf_lt (c := more) (n := 256) (by decide); omega⟩
  have hy256 : y < 256 := by have := (pickOf_lt (c := more) (n := 256) (by decide)).2; omega
  have HPY : ∀ V : World, Hid (Calls Try.prog 9 #[.int .i64 more, .int .i64 256] V fun x w' => x = .returned (.int .i64 (y : Int)) ∧ w' = V) := fun V => hide (by rw [← hy]; exact pick_any more 256 V hm (by decide) (by decide))
  obtain ⟨j, hj⟩ : ∃ j : Nat, pickOf more ((k : Int) + 1) = j := ⟨(pickOf more ((k : Int) + 1)).toNat, by have := pickOf_lt (c := more) (n := (k : Int) + 1) (by omega); omega⟩
  have hjk : j ≤ k := by have := (pickOf_lt (c := more) (n := (k : Int) + 1) (by omega)).2; omega
  have HPJ : ∀ V : World, Hid (Calls Try.prog 9 #[.int .i64 more, .int .i64 ((k : Int) + 1)] V fun x w' => x = .returned (.int .i64 (j : Int)) ∧ w' = V) := fun V => hide (by rw [← hj]; exact pick_any more _ V hm (by omega) (by omega))
  clear hk hy hj hc hm
  generalize hSe : ByteArray.mk (enc u).toArray = S at hsL ⊢
  have HSd : Hid (S.data.toList = enc u) := hide (by rw [← hSe])
  clear hSe
  go_wp2_with fail
  refine (HPK _).out.mono ?_
  rintro x w6 ⟨rfl, e6⟩
  subst e6
  clear HPK
  have hk0 : (0 : Int) ≤ (k : Int) := by omega
  have hk1 : (k : Int) ≤ (S.size : Int) := by omega
  go_wp2_with fail
  have hcl := cutPlace_le (u := u) (k := k) (by rw [HLe.out]; exact hkL)
  have hcm := cutPlace_mono (u := u) (j := j) (k := k) hjk
  have HCK := fun V : World => hide (decode_cut V HGood.out k (by rw [HLe.out]; exact hkL) (S.extract 0 k) (by rw [take_bytes, HSd.out]))
  have HCJ := fun V : World => hide (decode_cut V HGood.out j (by rw [HLe.out]; omega) (S.extract 0 j) (by rw [take_bytes, HSd.out]))
  generalize cutPlace u k = P at hcl hcm HCK
  generalize cutPlace u j = J at hcm HCJ
  refine (HCK _).out.mono ?_
  clear HCK
  rintro x w7 ⟨rfl, hg7⟩
  have hga := Gr.alloc (Gr.refl w7) (.cells #[.slice none 0 0, .slice none 0 0, .slice none 0 0, .slice none 0 0, .slice none 0 0] 28)
  have HBC := hide (Box5.new w7 28 (.slice none 0 0) (.slice none 0 0) (.slice none 0 0) (.slice none 0 0) (.slice none 0 0))
  have HB7 := hide ((HB5.out.grown hg7 HB5.out.size (by simp)).grown hga (Nat.le_trans HB5.out.size hg7.size) (by simp))
  clear hg7 hga HB5
  have hob := one_byte (w7.alloc (.cells #[.slice none 0 0, .slice none 0 0, .slice none 0 0, .slice none 0 0, .slice none 0 0] 28)) y hy256
  rw [show (w7.alloc (.cells #[.slice none 0 0, .slice none 0 0, .slice none 0 0, .slice none 0 0, .slice none 0 0] 28)).heap.size = w7.heap.size + 1 by simp] at hob
  have hw8 : IntKind.u8.wrap (y : Int) = (y : Int) := by rw [IntKind.wrap_u8]; omega
  go_wp2_with (go_at_call 9; refine (HPY _).out.mono ?_; rintro x w8 ⟨rfl, e8⟩; subst e8)
  clear HPY hob hw8
  have hMore := decode_more ((w7.alloc (.cells #[.slice none 0 0, .slice none 0 0, .slice none 0 0, .slice none 0 0, .slice none 0 0] 28)).alloc (.cells #[.int .u8 (y : Int)] 5)) HGood.out (UInt8.ofNat y) (S ++ ⟨#[UInt8.ofNat y]⟩) (by rw [ByteArray.data_append, Array.toList_append, HSd.out])
  rw [HLe.out] at hMore
  have HBC8 := hide (HBC.out.gr (Gr.alloc (Gr.refl _) (.cells #[.int .u8 (y : Int)] 5)))
  have HB8 := hide (HB7.out.grown (Gr.alloc (Gr.refl _) (.cells #[.int .u8 (y : Int)] 5)) HB7.out.size (by simp))
  refine hMore.mono ?_
  clear hMore HB7 HBC
  generalize ((w7.alloc (.cells #[.slice none 0 0, .slice none 0 0, .slice none 0 0, .slice none 0 0, .slice none 0 0] 28)).alloc (.cells #[.int .u8 (y : Int)] 5)) = W8 at HBC8 HB8 ⊢
  rintro x w9 ⟨rfl, hg9⟩
  have hga := Gr.alloc (Gr.refl w9) (.cells #[.slice none 0 0, .slice none 0 0, .slice none 0 0, .slice none 0 0, .slice none 0 0] 28)
  have hgb := Gr.alloc (Gr.refl (w9.alloc (.cells #[.slice none 0 0, .slice none 0 0, .slice none 0 0, .slice none 0 0, .slice none 0 0] 28))) (.cells #[.slice none 0 0, .slice none 0 0, .slice none 0 0, .slice none 0 0, .slice none 0 0] 28)
  have HBC := hide (((HBC8.out.gr hg9).gr hga).gr hgb)
  have HBE := hide ((Box5.new w9 28 (.slice none 0 0) (.slice none 0 0) (.slice none 0 0) (.slice none 0 0) (.slice none 0 0)).gr hgb)
  have hbf := Box5.new (w9.alloc (.cells #[.slice none 0 0, .slice none 0 0, .slice none 0 0, .slice none 0 0, .slice none 0 0] 28)) 28 (.slice none 0 0) (.slice none 0 0) (.slice none 0 0) (.slice none 0 0) (.slice none 0 0)
  rw [show (w9.alloc (.cells #[.slice none 0 0, .slice none 0 0, .slice none 0 0, .slice none 0 0, .slice none 0 0] 28)).heap.size = w9.heap.size + 1 by simp] at hbf
  have HBF := hide hbf
  have HB9 := hide (((HB8.out.grown hg9 HB8.out.size (by simp)).grown hga (Nat.le_trans HB8.out.size hg9.size) (by simp)).grown hgb (Nat.le_trans (Nat.le_trans HB8.out.size hg9.size) hga.size) (by simp))
  obtain ⟨p0, p1, p2, p3, p4, _⟩ := HBC.out
  clear hg9 hga hgb hbf HB8 HBC8
  go_wp2_with fail
  clear p0 p1 p2 p3 p4
  refine (same_unit _ _ noUnit _ (no_unit _) (no_unit _)).mono ?_
  generalize ((w9.alloc (.cells #[.slice none 0 0, .slice none 0 0, .slice none 0 0, .slice none 0 0, .slice none 0 0] 28)).alloc (.cells #[.slice none 0 0, .slice none 0 0, .slice none 0 0, .slice none 0 0, .slice none 0 0] 28)) = W10 at HBC HBE HBF HB9 ⊢
  rintro x w11 ⟨rfl, hg11⟩
  obtain ⟨p0, p1, p2, p3, p4, _⟩ := HBE.out.gr hg11
  obtain ⟨q0, q1, q2, q3, q4, _⟩ := HBF.out.gr hg11
  have HB11 := hide (HB9.out.grown hg11 HB9.out.size (by simp))
  clear hg11 HBC HBE HBF HB9
  go_wp2_with fail
  clear p0 p1 p2 p3 p4 q0 q1 q2 q3 q4
  refine (same_unit _ _ noUnit _ (no_unit _) (no_unit _)).mono ?_
  rintro x w12 ⟨rfl, hg12⟩
  have HB12 := hide (HB11.out.grown hg12 HB11.out.size (by simp))
  clear hg12 HB11
  have hj0 : (0 : Int) ≤ (j : Int) := by omega
  have hj1 : (j : Int) ≤ (S.size : Int) := by omega
  have hPk : ¬ (k < P) := by omega
  have HE : ∀ w13 : World, Gr w12 w13 → Hid (Below w.heap.size w (w13.alloc (.cells #[.slice none 0 0, .slice none 0 0, .slice none 0 0, .slice none 0 0, .slice none 0 0] 28))) := fun w13 hg => hide ((HB12.out.grown hg HB12.out.size (by simp)).grown (Gr.alloc (Gr.refl _) (.cells #[.slice none 0 0, .slice none 0 0, .slice none 0 0, .slice none 0 0, .slice none 0 0] 28)) (Nat.le_trans HB12.out.size hg.size) (by simp))
  have hdec : decide ((k : Int) < 5) = ((P : Int) == 0) := by
    rw [Bool.eq_iff_iff, decide_eq_true_eq, beq_iff_eq]
    constructor
    · intro h; have := hcl.2.1 (by omega); omega
    · intro h; have := hcl.2.2 (by omega); omega
  have hJP : (J : Int) ≤ (P : Int) := by omega
  clear hcl hcm
  go_wp2_with (go_at_call 9; refine (HPJ _).out.mono ?_; rintro x w8 ⟨rfl, e8⟩; subst e8)
  refine (HCJ _).out.mono ?_
  rintro x w13 ⟨rfl, hg13⟩
  have HEn := HE _ hg13
  clear hg13 HE HCJ HPJ hdec
  go_wp2_with fail
  go_ret
  exact ⟨rfl, HEn.out⟩
end Go.Proofs.Ytkgncijcnlfhiaa
