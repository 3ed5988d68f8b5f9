import Derived.Test.YtkgncijcnlfhiaaDoorF9
namespace Go.Proofs.YtkgncijcnlfhiaaDoor
set_option linter.unusedVariables false
set_option linter.unusedSimpArgs false
open Go.RowKit
attribute [local go_sem ↓] Go.wp_at_zero Go.wp_at_succ
theorem str_text (l : List UInt8) (t : ByteArray) : (ByteArray.mk l.toArray ++ t) = ByteArray.mk (l ++ t.data.toList).toArray := by
  apply ByteArray.ext; rw [ByteArray.data_append]; simp

set_option maxRecDepth 100000 in
set_option maxHeartbeats 4000000 in
theorem body4_ref (u : PUnit) (v : Value) (w : World) (hR : RUnit w v u) (hT : Tab w) (hok : unitOk u = true) (hF : Fits u) :
    Calls Tryd.prog 72 #[v, .int .i64 4] w fun x w' => x = .returned (.string ⟨(body4 u).toArray⟩) ∧ Gr w w' := by
  obtain ⟨v1, v2, v3, v4, v5, rfl, h1, h2, h3, h4, h5⟩ := hR
  obtain ⟨a1, c1, rfl⟩ := h1.shape
  obtain ⟨a2, c2, rfl⟩ := h2.shape
  obtain ⟨a3, c3, rfl⟩ := h3.shape
  obtain ⟨a4, c4, rfl⟩ := h4.shape
  obtain ⟨a5, c5, rfl⟩ := h5.shape
  have hroom := unitOk_room hok
  have hsm : ∀ k, (encTo encImp u.imports k).length ≤ 1000000 := fun k => Nat.le_trans (encTo_le encImp u.imports k) hroom.b4
  have HRm := hide hroom
  have HOk := hide hok
  have HFt := hide hF
  have HTb := hide hT
  have hll : u.imports.length ≤ 50 := by
    rw [unitOk_eq] at hok
    simp only [Bool.and_eq_true, decide_eq_true_eq] at hok
    omega
  have hc0 := fun V : World => hide (count_ref (u.imports.length : Int) (by omega) (by omega) V)
  simp only [Int.toNat_natCast] at hc0
  have hga := Gr.alloc (Gr.refl w) (.cells #[.slice a1 u.shapes.length c1, .slice a2 u.consts.length c2, .slice a3 u.funcs.length c3, .slice a4 u.imports.length c4, .slice a5 u.exports.length c5] 28)
  have HG0 := hide hga
  have HB := hide (Box5.new w 28 (.slice a1 u.shapes.length c1) (.slice a2 u.consts.length c2) (.slice a3 u.funcs.length c3) (.slice a4 u.imports.length c4) (.slice a5 u.exports.length c5))
  have HH := hide h4
  clear h1 h2 h3 h4 h5 hroom hok hF hT hga
  obtain ⟨p0, p1, p2, p3, p4, _⟩ := HB.out
  go_enter Tryd.func72, Tryd.ntmps72
  go_wp2_with fail
  clear p0 p1 p2 p3 p4
  refine (hc0 _).out.mono ?_
  generalize w.alloc (.cells #[.slice a1 u.shapes.length c1, .slice a2 u.consts.length c2, .slice a3 u.funcs.length c3, .slice a4 u.imports.length c4, .slice a5 u.exports.length c5] 28) = W at HB HG0 ⊢
  rintro x w1 ⟨rfl, hg1⟩
  have HG1 := hide hg1
  clear hg1 hc0
  go_wp2_with fail
  go_loopw [5, 10] (fun s i wr => ∃ k : Nat, i = .int .i64 k ∧ k ≤ u.imports.length ∧ s = .string ⟨(encTo (encImp) u.imports k).toArray⟩ ∧ Gr W wr) (fun _ i _ => u.imports.length - (intOf i).toNat)
  case atStart => exact ⟨0, rfl, Nat.zero_le _, by rw [encTo_zero], HG1.out⟩
  case round =>
    obtain ⟨k, rfl, hk, rfl, hg⟩ := hrel
    clear HG1
    have HG := hide hg
    obtain ⟨p0, p1, p2, p3, p4, _⟩ := HB.out.gr hg
    by_cases hlt : k < u.imports.length
    · obtain ⟨a9, c9, h9e, _, hc9⟩ := HH.out
      simp only [Value.slice.injEq, true_and] at h9e
      have hgw := HG0.out.trans hg
      have h1T := hsm k
      have hxk : u.imports[k]? = some u.imports[k] := List.getElem?_eq_getElem hlt
      obtain ⟨b1, o1, y1, y2, rfl, hx1, hx2, hx3, hr1, hr2⟩ := hc9 k _ hxk
      obtain ⟨rfl, rfl⟩ := h9e
      have hx1' := hgw.cell hx1 (by simp)
      have hx2' := hgw.cell hx2 (by simp)
      have hx3' := hgw.cell hx3 (by simp)
      have HS := hide (encTo_succ (f := encImp) hxk)
      have hfit := HRm.out.f4 _ (List.mem_of_getElem? hxk)
      have hio : impOk u.shapes.length u.imports[k] = true := by
        have := HOk.out
        rw [unitOk_eq] at this
        simp only [Bool.and_eq_true] at this
        exact List.all_eq_true.1 this.2.2.2.1 _ (List.mem_of_getElem? hxk)
      have hbd : u.imports[k].params.length ≤ 6 ∧ u.imports[k].name.length ≤ 20 := by
        unfold impOk sigOk nameOk at hio
        simp only [Bool.and_eq_true, decide_eq_true_eq, wB] at hio
        omega
      have R2 := hr2.gr hgw
      have s2 := hr2.shape
      generalize hTe : encTo encImp u.imports k = T at h1T HS ⊢
      generalize u.imports[k] = i at HS hfit hbd R2 s2 hr1 hx3'
      obtain ⟨pa, pc, rfl⟩ := s2
      obtain ⟨nm, rfl, hn1, hn2⟩ := hr1
      have hnl : nm.size = i.name.length := by rw [← hn1, Array.length_toList]; rfl
      have hgF := Gr.alloc (Gr.refl wr) (.cells #[.string nm, .slice pa i.params.length pc, .int .i64 i.result] 79)
      have HBF := hide (Box3.new wr 79 (.string nm) (.slice pa i.params.length pc) (.int .i64 i.result))
      have hP : ∀ V : World, Gr (wr.alloc (.cells #[.string nm, .slice pa i.params.length pc, .int .i64 i.result] 79)) V → Hid (Calls Tryd.prog 121 #[.slice pa i.params.length pc] V fun x w' => x = .returned (.string ⟨(encKinds i.params).toArray⟩) ∧ Gr V w') := fun V g => hide (list_ref _ i.params V ((R2.gr hgF).gr g) (by omega) hfit.2.1)
      have hC : ∀ V : World, Hid (Calls Tryd.prog 73 #[.int .i64 i.result] V fun x w' => x = .returned (.string ⟨(num i.result.toNat).toArray⟩) ∧ Gr V w') := fun V => hide (count_ref i.result hfit.2.2.1 hfit.2.2.2 V)
      have hN : ∀ V : World, Hid (Calls Tryd.prog 73 #[.int .i64 (nm.size : Int)] V fun x w' => x = .returned (.string ⟨(num nm.size).toArray⟩) ∧ Gr V w') := fun V => hide (by
        have h := count_ref (nm.size : Int) (by omega) (by omega) V
        simp only [Int.toNat_natCast] at h; exact h)
      have q1 := num_len nm.size
      have q2 := encKinds_len (l := i.params) (N := 6) hbd.1
      have q3 := num_len i.result.toNat
      have HS2 : Hid (encTo encImp u.imports (k + 1) = (((T ++ num nm.size) ++ nm.data.toList) ++ encKinds i.params) ++ num i.result.toNat) := hide (by rw [HS.out]; unfold encImp encText; rw [hn1, hnl]; simp)
      have HGF := hide (HG.out.trans hgF)
      generalize num nm.size = U1 at hN q1 HS2
      generalize encKinds i.params = U2 at hP q2 HS2
      generalize num i.result.toNat = U3 at hC q3 HS2
      obtain ⟨X1, hX1⟩ : ∃ X, X = T ++ U1 := ⟨_, rfl⟩
      obtain ⟨X2, hX2⟩ : ∃ X, X = X1 ++ nm.data.toList := ⟨_, rfl⟩
      obtain ⟨X3, hX3⟩ : ∃ X, X = X2 ++ U2 := ⟨_, rfl⟩
      obtain ⟨X4, hX4⟩ : ∃ X, X = X3 ++ U3 := ⟨_, rfl⟩
      have t1 := str_app T U1
      have t2 := str_text X1 nm
      have t3 := str_app X2 U2
      have t4 := str_app X3 U3
      rw [← hX1] at t1 HS2
      rw [← hX2] at t2 HS2
      rw [← hX3] at t3 HS2
      rw [← hX4] at t4 HS2
      have z0 : nm.size ≤ 20 := by omega
      have z1 : U1.length ≤ 5000 := by omega
      have z2 : U2.length ≤ 5000 := by omega
      have z3 : U3.length ≤ 5000 := by omega
      have x1 : X1.length ≤ 1010000 := by rw [hX1, List.length_append]; omega
      have x2 : X2.length ≤ 1020000 := by rw [hX2, List.length_append, hn1]; omega
      have x3 : X3.length ≤ 1030000 := by rw [hX3, List.length_append]; omega
      clear hX1 hX2 hX3 hX4 q1 q2 q3 hnl hn1 hn2
      clear hc9 hx1 hx2 hx3 hg hxk hfit hio hbd hr2 R2 hTe hgw HS p0 p1 p2 p4 hgF
      go_wp2_with fail
      clear hx1' hx2' hx3' p3
      have hgd : Gr (wr.alloc (.cells #[.string nm, .slice pa i.params.length pc, .int .i64 i.result] 79)) (wr.alloc (.cells #[.string nm, .slice pa i.params.length pc, .int .i64 i.result] 79)).drew := Gr.drew (Gr.refl _)
      obtain ⟨f0, f1, f2, _⟩ := HBF.out
      generalize hfbe : wr.heap.size = fb at f0 f1 f2 HBF ⊢
      generalize wr.alloc (.cells #[.string nm, .slice pa i.params.length pc, .int .i64 i.result] 79) = W2 at HGF HBF hP hgd f0 f1 f2 ⊢
      go_region_held (fun w' => w'.cell? ⟨fb, 0, none⟩ = some (.string nm) ∧ w'.cell? ⟨fb, 1, none⟩ = some (.slice pa i.params.length pc) ∧ w'.cell? ⟨fb, 2, none⟩ = some (.int .i64 i.result)) (first | exact ⟨hgc.cell f0 (by simp), hgc.cell f1 (by simp), hgc.cell f2 (by simp)⟩ | go_keep) (first | (go_at_call 121; refine (hP _ ?_).out.mono ?_; assumption; rintro y w' ⟨rfl, hg'⟩; have hgc := Gr.trans (by assumption) hg') | (go_at_call_of 73 (Value.int IntKind.i64 i.result); refine (hC _).out.mono ?_; rintro y w' ⟨rfl, hg'⟩; have hgc := Gr.trans (by assumption) hg') | (go_at_call 73; refine (hN _).out.mono ?_; rintro y w' ⟨rfl, hg'⟩; have hgc := Gr.trans (by assumption) hg'))
      all_goals go_wp2_with fail
      all_goals exact ⟨⟨k + 1, by simp, hlt, by rw [HS2.out], HGF.out.trans hgc⟩, by simp [intOf]; omega⟩
    · have hkk : k = u.imports.length := by omega
      subst hkk
      have HE := hide (encs_end (f := encImp) (xs := u.imports) (k := u.imports.length) (by omega))
      clear hg
      go_wp2_with fail
      go_ret
      exact ⟨by unfold body4; rw [HE.out]; rfl, HG0.out.trans HG.out⟩

set_option maxRecDepth 100000 in
set_option maxHeartbeats 4000000 in
theorem body5_ref (u : PUnit) (v : Value) (w : World) (hR : RUnit w v u) (hT : Tab w) (hok : unitOk u = true) (hF : Fits u) :
    Calls Tryd.prog 72 #[v, .int .i64 5] w fun x w' => x = .returned (.string ⟨(body5 u).toArray⟩) ∧ Gr w w' := by
  obtain ⟨v1, v2, v3, v4, v5, rfl, h1, h2, h3, h4, h5⟩ := hR
  obtain ⟨a1, c1, rfl⟩ := h1.shape
  obtain ⟨a2, c2, rfl⟩ := h2.shape
  obtain ⟨a3, c3, rfl⟩ := h3.shape
  obtain ⟨a4, c4, rfl⟩ := h4.shape
  obtain ⟨a5, c5, rfl⟩ := h5.shape
  have hroom := unitOk_room hok
  have hsm : ∀ k, (encTo encExp u.exports k).length ≤ 1000000 := fun k => Nat.le_trans (encTo_le encExp u.exports k) hroom.b5
  have HRm := hide hroom
  have HOk := hide hok
  have HFt := hide hF
  have HTb := hide hT
  have hll : u.exports.length ≤ 50 := by
    rw [unitOk_eq] at hok
    simp only [Bool.and_eq_true, decide_eq_true_eq] at hok
    omega
  have hc0 := fun V : World => hide (count_ref (u.exports.length : Int) (by omega) (by omega) V)
  simp only [Int.toNat_natCast] at hc0
  have hga := Gr.alloc (Gr.refl w) (.cells #[.slice a1 u.shapes.length c1, .slice a2 u.consts.length c2, .slice a3 u.funcs.length c3, .slice a4 u.imports.length c4, .slice a5 u.exports.length c5] 28)
  have HG0 := hide hga
  have HB := hide (Box5.new w 28 (.slice a1 u.shapes.length c1) (.slice a2 u.consts.length c2) (.slice a3 u.funcs.length c3) (.slice a4 u.imports.length c4) (.slice a5 u.exports.length c5))
  have HH := hide h5
  clear h1 h2 h3 h4 h5 hroom hok hF hT hga
  obtain ⟨p0, p1, p2, p3, p4, _⟩ := HB.out
  go_enter Tryd.func72, Tryd.ntmps72
  go_wp2_with fail
  clear p0 p1 p2 p3 p4
  refine (hc0 _).out.mono ?_
  generalize w.alloc (.cells #[.slice a1 u.shapes.length c1, .slice a2 u.consts.length c2, .slice a3 u.funcs.length c3, .slice a4 u.imports.length c4, .slice a5 u.exports.length c5] 28) = W at HB HG0 ⊢
  rintro x w1 ⟨rfl, hg1⟩
  have HG1 := hide hg1
  clear hg1 hc0
  go_wp2_with fail
  go_loopw [5, 12] (fun s i wr => ∃ k : Nat, i = .int .i64 k ∧ k ≤ u.exports.length ∧ s = .string ⟨(encTo (encExp) u.exports k).toArray⟩ ∧ Gr W wr) (fun _ i _ => u.exports.length - (intOf i).toNat)
  case atStart => exact ⟨0, rfl, Nat.zero_le _, by rw [encTo_zero], HG1.out⟩
  case round =>
    obtain ⟨k, rfl, hk, rfl, hg⟩ := hrel
    clear HG1
    have HG := hide hg
    obtain ⟨p0, p1, p2, p3, p4, _⟩ := HB.out.gr hg
    by_cases hlt : k < u.exports.length
    · obtain ⟨a9, c9, h9e, _, hc9⟩ := HH.out
      simp only [Value.slice.injEq, true_and] at h9e
      have hgw := HG0.out.trans hg
      have h1T := hsm k
      have hxk : u.exports[k]? = some u.exports[k] := List.getElem?_eq_getElem hlt
      obtain ⟨b1, o1, y1, rfl, hx1, hx2, hr1⟩ := hc9 k _ hxk
      obtain ⟨rfl, rfl⟩ := h9e
      have hx1' := hgw.cell hx1 (by simp)
      have hx2' := hgw.cell hx2 (by simp)
      have HS := hide (encTo_succ (f := encExp) hxk)
      have hfit := HRm.out.f5 _ (List.mem_of_getElem? hxk)
      have hio : expOk u.funcs.length u.exports[k] = true := by
        have := HOk.out
        rw [unitOk_eq] at this
        simp only [Bool.and_eq_true] at this
        exact List.all_eq_true.1 this.2.2.2.2 _ (List.mem_of_getElem? hxk)
      have hbd : u.exports[k].name.length ≤ 20 := by
        unfold expOk nameOk at hio
        simp only [Bool.and_eq_true, decide_eq_true_eq, wB] at hio
        omega
      generalize hTe : encTo encExp u.exports k = T at h1T HS ⊢
      generalize u.exports[k] = i at HS hfit hbd hr1 hx2'
      obtain ⟨nm, rfl, hn1, hn2⟩ := hr1
      have hnl : nm.size = i.name.length := by rw [← hn1, Array.length_toList]; rfl
      have hgF := Gr.alloc (Gr.refl wr) (.cells #[.string nm, .int .i64 i.func] 81)
      have HBF := hide (Box2.new wr 81 (.string nm) (.int .i64 i.func))
      have hC : ∀ V : World, Hid (Calls Tryd.prog 73 #[.int .i64 i.func] V fun x w' => x = .returned (.string ⟨(num i.func.toNat).toArray⟩) ∧ Gr V w') := fun V => hide (count_ref i.func hfit.2.1 hfit.2.2 V)
      have hN : ∀ V : World, Hid (Calls Tryd.prog 73 #[.int .i64 (nm.size : Int)] V fun x w' => x = .returned (.string ⟨(num nm.size).toArray⟩) ∧ Gr V w') := fun V => hide (by
        have h := count_ref (nm.size : Int) (by omega) (by omega) V
        simp only [Int.toNat_natCast] at h; exact h)
      have q1 := num_len nm.size
      have q3 := num_len i.func.toNat
      have HS2 : Hid (encTo encExp u.exports (k + 1) = ((T ++ num nm.size) ++ nm.data.toList) ++ num i.func.toNat) := hide (by rw [HS.out]; unfold encExp encText; rw [hn1, hnl]; simp)
      have HGF := hide (HG.out.trans hgF)
      generalize num nm.size = U1 at hN q1 HS2
      generalize num i.func.toNat = U3 at hC q3 HS2
      obtain ⟨X1, hX1⟩ : ∃ X, X = T ++ U1 := ⟨_, rfl⟩
      obtain ⟨X2, hX2⟩ : ∃ X, X = X1 ++ nm.data.toList := ⟨_, rfl⟩
      obtain ⟨X3, hX3⟩ : ∃ X, X = X2 ++ U3 := ⟨_, rfl⟩
      have t1 := str_app T U1
      have t2 := str_text X1 nm
      have t3 := str_app X2 U3
      rw [← hX1] at t1 HS2
      rw [← hX2] at t2 HS2
      rw [← hX3] at t3 HS2
      have z0 : nm.size ≤ 20 := by omega
      have z1 : U1.length ≤ 5000 := by omega
      have z3 : U3.length ≤ 5000 := by omega
      have x1 : X1.length ≤ 1010000 := by rw [hX1, List.length_append]; omega
      have x2 : X2.length ≤ 1020000 := by rw [hX2, List.length_append, hn1]; omega
      clear hX1 hX2 hX3 q1 q3 hnl hn1 hn2
      clear hc9 hx1 hx2 hg hxk hfit hio hbd hTe hgw HS p0 p1 p2 p3 hgF
      go_wp2_with fail
      clear hx1' hx2' p4
      have hgd : Gr (wr.alloc (.cells #[.string nm, .int .i64 i.func] 81)) (wr.alloc (.cells #[.string nm, .int .i64 i.func] 81)).drew := Gr.drew (Gr.refl _)
      obtain ⟨f0, f1, _⟩ := HBF.out
      generalize hfbe : wr.heap.size = fb at f0 f1 HBF ⊢
      generalize wr.alloc (.cells #[.string nm, .int .i64 i.func] 81) = W2 at HGF HBF hgd f0 f1 ⊢
      go_region_held (fun w' => w'.cell? ⟨fb, 0, none⟩ = some (.string nm) ∧ w'.cell? ⟨fb, 1, none⟩ = some (.int .i64 i.func)) (first | exact ⟨hgc.cell f0 (by simp), hgc.cell f1 (by simp)⟩ | go_keep) (first | (go_at_call_of 73 (Value.int IntKind.i64 i.func); refine (hC _).out.mono ?_; rintro y w' ⟨rfl, hg'⟩; have hgc := Gr.trans (by assumption) hg') | (go_at_call 73; refine (hN _).out.mono ?_; rintro y w' ⟨rfl, hg'⟩; have hgc := Gr.trans (by assumption) hg'))
      all_goals go_wp2_with fail
      all_goals exact ⟨⟨k + 1, by simp, hlt, by rw [HS2.out], HGF.out.trans hgc⟩, by simp [intOf]; omega⟩
    · have hkk : k = u.exports.length := by omega
      subst hkk
      have HE := hide (encs_end (f := encExp) (xs := u.exports) (k := u.exports.length) (by omega))
      clear hg
      go_wp2_with fail
      go_ret
      exact ⟨by unfold body5; rw [HE.out]; rfl, HG0.out.trans HG.out⟩
end Go.Proofs.YtkgncijcnlfhiaaDoor

