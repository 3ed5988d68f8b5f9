import Derived.Test.YtkgncijcnlfhiaaDoorF7
import Derived.Test.YtkgncijcnlfhiaaDoorQ1
namespace Go.Proofs.YtkgncijcnlfhiaaDoor
set_option linter.unusedVariables false
set_option linter.unusedSimpArgs false
open Go.RowKit
attribute [local go_sem ↓] Go.wp_at_zero Go.wp_at_succ

set_option maxRecDepth 100000 in
set_option maxHeartbeats 4000000 in
theorem body1_ref (u : PUnit) (v : Value) (w : World) (hR : RUnit w v u) (hT : Tab w) (hok : unitOk u = true) (hF : Fits u) :
    Calls Tryd.prog 72 #[v, .int .i64 1] w fun x w' => x = .returned (.string ⟨(body1 u).toArray⟩) ∧ Gr w w' := by
  obtain ⟨v1, v2, v3, v4, v5, rfl, h1, h2, h3, h4, h5⟩ := hR
  obtain ⟨a1, c1, rfl⟩ := h1.shape
  obtain ⟨a2, c2, rfl⟩ := h2.shape
  obtain ⟨a3, c3, rfl⟩ := h3.shape
  obtain ⟨a4, c4, rfl⟩ := h4.shape
  obtain ⟨a5, c5, rfl⟩ := h5.shape
  have hroom := unitOk_room hok
  have hsm : ∀ k, (encTo encKinds u.shapes k).length ≤ 1000000 := fun k => Nat.le_trans (encTo_le encKinds u.shapes k) hroom.b1
  have HRm := hide hroom
  have HOk := hide hok
  have HFt := hide hF
  have HTb := hide hT
  have hll : u.shapes.length ≤ 50 := by
    rw [unitOk_eq] at hok
    simp only [Bool.and_eq_true, decide_eq_true_eq] at hok
    omega
  have hc0 := fun V : World => hide (count_ref (u.shapes.length : Int) (by omega) (by omega) V)
  simp only [Int.toNat_natCast] at hc0
  have hga := Gr.alloc (Gr.refl w) (.cells #[.slice a1 u.shapes.length c1, .slice a2 u.consts.length c2, .slice a3 u.funcs.length c3, .slice a4 u.imports.length c4, .slice a5 u.exports.length c5] 28)
  have HG0 := hide hga
  have HB := hide (Box5.new w 28 (.slice a1 u.shapes.length c1) (.slice a2 u.consts.length c2) (.slice a3 u.funcs.length c3) (.slice a4 u.imports.length c4) (.slice a5 u.exports.length c5))
  have HH := hide h1
  clear h1 h2 h3 h4 h5 hroom hok hF hT hga
  obtain ⟨p0, p1, p2, p3, p4, _⟩ := HB.out
  go_enter Tryd.func72, Tryd.ntmps72
  go_wp2_with fail
  clear p0 p1 p2 p3 p4
  refine (hc0 _).out.mono ?_
  generalize w.alloc (.cells #[.slice a1 u.shapes.length c1, .slice a2 u.consts.length c2, .slice a3 u.funcs.length c3, .slice a4 u.imports.length c4, .slice a5 u.exports.length c5] 28) = W at HB HG0 ⊢
  rintro x w1 ⟨rfl, hg1⟩
  have HG1 := hide hg1
  clear hg1 hc0
  go_wp2_with fail
  go_loopw [5, 6] (fun s i wr => ∃ k : Nat, i = .int .i64 k ∧ k ≤ u.shapes.length ∧ s = .string ⟨(encTo (encKinds) u.shapes k).toArray⟩ ∧ Gr W wr) (fun _ i _ => u.shapes.length - (intOf i).toNat)
  case atStart => exact ⟨0, rfl, Nat.zero_le _, by rw [encTo_zero], HG1.out⟩
  case round =>
    obtain ⟨k, rfl, hk, rfl, hg⟩ := hrel
    clear HG1
    have HG := hide hg
    obtain ⟨p0, p1, p2, p3, p4, _⟩ := HB.out.gr hg
    by_cases hlt : k < u.shapes.length
    · obtain ⟨a9, c9, h9e, _, hc9⟩ := HH.out
      simp only [Value.slice.injEq, true_and] at h9e
      have hgw := HG0.out.trans hg
      have h1T := hsm k
      have hxk : u.shapes[k]? = some u.shapes[k] := List.getElem?_eq_getElem hlt
      obtain ⟨b1, o1, vx, rfl, hx1, hr1⟩ := hc9 k _ hxk
      obtain ⟨rfl, rfl⟩ := h9e
      have hx1' := hgw.cell hx1 (by simp)
      have HS := hide (encTo_succ (f := encKinds) hxk)
      have hfit := HRm.out.f1 _ (List.mem_of_getElem? hxk)
      have hlen : u.shapes[k].length ≤ 8 := by
        have := HOk.out
        rw [unitOk_eq] at this
        simp only [Bool.and_eq_true] at this
        have h := List.all_eq_true.1 this.2.1 _ (List.mem_of_getElem? hxk)
        unfold shapeOk at h
        simp only [Bool.and_eq_true, wB, decide_eq_true_eq] at h
        omega
      have hls := hide (list_ref vx u.shapes[k] wr (hr1.gr hgw) (by omega) hfit)
      have h2T := encKinds_len (l := u.shapes[k]) (N := 8) hlen
      have hrs := hr1.shape
      generalize hTe : encTo encKinds u.shapes k = T at h1T HS ⊢
      generalize u.shapes[k] = x at HS hls hrs h2T
      obtain ⟨xa, xc, rfl⟩ := hrs
      generalize encKinds x = U at HS hls h2T
      clear hc9 hx1 hg hxk hfit hlen hr1 hTe hgw p1 p2 p3 p4
      go_wp2_with fail
      refine hls.out.mono ?_
      rintro y w2 ⟨rfl, hg2⟩
      have HG2 := hide (HG.out.trans hg2)
      clear hg2 hls hx1' p0
      go_wp2_with fail
      exact ⟨⟨k + 1, by simp, hlt, by rw [HS.out, str_app], HG2.out⟩, by simp [intOf]; omega⟩
    · have hkk : k = u.shapes.length := by omega
      subst hkk
      have HE := hide (encs_end (f := encKinds) (xs := u.shapes) (k := u.shapes.length) (by omega))
      clear hg
      go_wp2_with fail
      go_ret
      exact ⟨by unfold body1; rw [HE.out]; rfl, HG0.out.trans HG.out⟩

set_option maxRecDepth 100000 in
set_option maxHeartbeats 4000000 in
theorem body2_ref (u : PUnit) (v : Value) (w : World) (hR : RUnit w v u) (hT : Tab w) (hok : unitOk u = true) (hF : Fits u) :
    Calls Tryd.prog 72 #[v, .int .i64 2] w fun x w' => x = .returned (.string ⟨(body2 u).toArray⟩) ∧ Gr w w' := by
  obtain ⟨v1, v2, v3, v4, v5, rfl, h1, h2, h3, h4, h5⟩ := hR
  obtain ⟨a1, c1, rfl⟩ := h1.shape
  obtain ⟨a2, c2, rfl⟩ := h2.shape
  obtain ⟨a3, c3, rfl⟩ := h3.shape
  obtain ⟨a4, c4, rfl⟩ := h4.shape
  obtain ⟨a5, c5, rfl⟩ := h5.shape
  have hroom := unitOk_room hok
  have hsm : ∀ k, (encTo encSigned u.consts k).length ≤ 1000000 := fun k => Nat.le_trans (encTo_le encSigned u.consts k) hroom.b2
  have HRm := hide hroom
  have HOk := hide hok
  have HFt := hide hF
  have HTb := hide hT
  have hll : u.consts.length ≤ 50 := by
    rw [unitOk_eq] at hok
    simp only [Bool.and_eq_true, decide_eq_true_eq] at hok
    omega
  have hc0 := fun V : World => hide (count_ref (u.consts.length : Int) (by omega) (by omega) V)
  simp only [Int.toNat_natCast] at hc0
  have hga := Gr.alloc (Gr.refl w) (.cells #[.slice a1 u.shapes.length c1, .slice a2 u.consts.length c2, .slice a3 u.funcs.length c3, .slice a4 u.imports.length c4, .slice a5 u.exports.length c5] 28)
  have HG0 := hide hga
  have HB := hide (Box5.new w 28 (.slice a1 u.shapes.length c1) (.slice a2 u.consts.length c2) (.slice a3 u.funcs.length c3) (.slice a4 u.imports.length c4) (.slice a5 u.exports.length c5))
  have HH := hide h2
  clear h1 h2 h3 h4 h5 hroom hok hF hT hga
  obtain ⟨p0, p1, p2, p3, p4, _⟩ := HB.out
  go_enter Tryd.func72, Tryd.ntmps72
  go_wp2_with fail
  clear p0 p1 p2 p3 p4
  refine (hc0 _).out.mono ?_
  generalize w.alloc (.cells #[.slice a1 u.shapes.length c1, .slice a2 u.consts.length c2, .slice a3 u.funcs.length c3, .slice a4 u.imports.length c4, .slice a5 u.exports.length c5] 28) = W at HB HG0 ⊢
  rintro x w1 ⟨rfl, hg1⟩
  have HG1 := hide hg1
  clear hg1 hc0
  go_wp2_with fail
  go_loopw [5, 7] (fun s i wr => ∃ k : Nat, i = .int .i64 k ∧ k ≤ u.consts.length ∧ s = .string ⟨(encTo (encSigned) u.consts k).toArray⟩ ∧ Gr W wr) (fun _ i _ => u.consts.length - (intOf i).toNat)
  case atStart => exact ⟨0, rfl, Nat.zero_le _, by rw [encTo_zero], HG1.out⟩
  case round =>
    obtain ⟨k, rfl, hk, rfl, hg⟩ := hrel
    clear HG1
    have HG := hide hg
    obtain ⟨p0, p1, p2, p3, p4, _⟩ := HB.out.gr hg
    by_cases hlt : k < u.consts.length
    · obtain ⟨a9, c9, h9e, _, hc9⟩ := HH.out
      simp only [Value.slice.injEq, true_and] at h9e
      have hgw := HG0.out.trans hg
      have h1T := hsm k
      obtain ⟨b1, o1, rfl, hx1⟩ := hc9 k hlt
      obtain ⟨rfl, rfl⟩ := h9e
      have hxk : u.consts[k]? = some (u.consts.getD k 0) := by simp [List.getD_eq_getElem?_getD, hlt]
      have hx1' := hgw.cell hx1 (by simp)
      have HS := hide (encTo_succ (f := encSigned) hxk)
      have hfit := HFt.out _ (List.mem_of_getElem? hxk)
      generalize u.consts.getD k 0 = x at HS hx1' hfit
      have hls := fun V : World => hide (signed_ref x hfit.1 hfit.2 V)
      have h2T := num_len (zig x)
      generalize hTe : encTo encSigned u.consts k = T at h1T HS ⊢
      have HS2 : Hid (encTo encSigned u.consts (k + 1) = T ++ num (zig x)) := HS
      generalize num (zig x) = U at HS2 hls h2T
      clear hc9 hx1 hg hxk hfit hTe hgw HS p0 p2 p3 p4
      go_wp2_with fail
      refine (hls _).out.mono ?_
      rintro y w2 ⟨rfl, hg2⟩
      have HG2 := hide (HG.out.trans hg2)
      clear hg2 hls hx1' p1
      go_wp2_with fail
      exact ⟨⟨k + 1, by simp, hlt, by rw [HS2.out, str_app], HG2.out⟩, by simp [intOf]; omega⟩
    · have hkk : k = u.consts.length := by omega
      subst hkk
      have HE := hide (encs_end (f := encSigned) (xs := u.consts) (k := u.consts.length) (by omega))
      clear hg
      go_wp2_with fail
      go_ret
      exact ⟨by unfold body2; rw [HE.out]; rfl, HG0.out.trans HG.out⟩
end Go.Proofs.YtkgncijcnlfhiaaDoor

namespace Go.Proofs.YtkgncijcnlfhiaaDoor
set_option linter.unusedVariables false
set_option linter.unusedSimpArgs false
open Go.RowKit
attribute [local go_sem ↓] Go.wp_at_zero Go.wp_at_succ

set_option maxRecDepth 100000 in
set_option maxHeartbeats 4000000 in
theorem body3_ref (u : PUnit) (v : Value) (w : World) (hR : RUnit w v u) (hT : Tab w) (hok : unitOk u = true) (hF : Fits u) :
    Calls Tryd.prog 72 #[v, .int .i64 3] w fun x w' => x = .returned (.string ⟨(body3 u).toArray⟩) ∧ Gr w w' := by
  obtain ⟨v1, v2, v3, v4, v5, rfl, h1, h2, h3, h4, h5⟩ := hR
  obtain ⟨a1, c1, rfl⟩ := h1.shape
  obtain ⟨a2, c2, rfl⟩ := h2.shape
  obtain ⟨a3, c3, rfl⟩ := h3.shape
  obtain ⟨a4, c4, rfl⟩ := h4.shape
  obtain ⟨a5, c5, rfl⟩ := h5.shape
  have hroom := unitOk_room hok
  have hsm : ∀ k, (encTo encFunc u.funcs k).length ≤ 1000000 := fun k => Nat.le_trans (encTo_le encFunc u.funcs k) hroom.b3
  have HRm := hide hroom
  have HOk := hide hok
  have HFt := hide hF
  have HTb := hide hT
  have hll : u.funcs.length ≤ 50 := by
    rw [unitOk_eq] at hok
    simp only [Bool.and_eq_true, decide_eq_true_eq] at hok
    omega
  have hc0 := fun V : World => hide (count_ref (u.funcs.length : Int) (by omega) (by omega) V)
  simp only [Int.toNat_natCast] at hc0
  have hga := Gr.alloc (Gr.refl w) (.cells #[.slice a1 u.shapes.length c1, .slice a2 u.consts.length c2, .slice a3 u.funcs.length c3, .slice a4 u.imports.length c4, .slice a5 u.exports.length c5] 28)
  have HG0 := hide hga
  have HB := hide (Box5.new w 28 (.slice a1 u.shapes.length c1) (.slice a2 u.consts.length c2) (.slice a3 u.funcs.length c3) (.slice a4 u.imports.length c4) (.slice a5 u.exports.length c5))
  have HH := hide h3
  clear h1 h2 h3 h4 h5 hroom hok hF hT hga
  obtain ⟨p0, p1, p2, p3, p4, _⟩ := HB.out
  go_enter Tryd.func72, Tryd.ntmps72
  go_wp2_with fail
  clear p0 p1 p2 p3 p4
  refine (hc0 _).out.mono ?_
  generalize w.alloc (.cells #[.slice a1 u.shapes.length c1, .slice a2 u.consts.length c2, .slice a3 u.funcs.length c3, .slice a4 u.imports.length c4, .slice a5 u.exports.length c5] 28) = W at HB HG0 ⊢
  rintro x w1 ⟨rfl, hg1⟩
  have HG1 := hide hg1
  clear hg1 hc0
  go_wp2_with fail
  go_loopw [5, 8] (fun s i wr => ∃ k : Nat, i = .int .i64 k ∧ k ≤ u.funcs.length ∧ s = .string ⟨(encTo (encFunc) u.funcs k).toArray⟩ ∧ Gr W wr) (fun _ i _ => u.funcs.length - (intOf i).toNat)
  case atStart => exact ⟨0, rfl, Nat.zero_le _, by rw [encTo_zero], HG1.out⟩
  case round =>
    obtain ⟨k, rfl, hk, rfl, hg⟩ := hrel
    clear HG1
    have HG := hide hg
    obtain ⟨p0, p1, p2, p3, p4, _⟩ := HB.out.gr hg
    by_cases hlt : k < u.funcs.length
    · obtain ⟨a9, c9, h9e, _, hc9⟩ := HH.out
      simp only [Value.slice.injEq, true_and] at h9e
      have hgw := HG0.out.trans hg
      have h1T := hsm k
      have hxk : u.funcs[k]? = some u.funcs[k] := List.getElem?_eq_getElem hlt
      obtain ⟨b1, o1, y1, y2, y3, rfl, hx1, hx2, hx3, hx4, hr1, hr2, hr3⟩ := hc9 k _ hxk
      obtain ⟨rfl, rfl⟩ := h9e
      have hx1' := hgw.cell hx1 (by simp)
      have hx2' := hgw.cell hx2 (by simp)
      have hx3' := hgw.cell hx3 (by simp)
      have hx4' := hgw.cell hx4 (by simp)
      have HS := hide (encTo_succ (f := encFunc) hxk)
      have hfit := HRm.out.f3 _ (List.mem_of_getElem? hxk)
      have hfo : funcOk u.shapes.length u.funcs[k] = true := by
        have := HOk.out
        rw [unitOk_eq] at this
        simp only [Bool.and_eq_true] at this
        exact List.all_eq_true.1 this.2.2.1 _ (List.mem_of_getElem? hxk)
      have hbd : u.funcs[k].params.length ≤ 6 ∧ u.funcs[k].locals.length ≤ 10 ∧ u.funcs[k].code.length ≤ 200 := by
        rw [funcOk_eq] at hfo
        simp only [Bool.and_eq_true, decide_eq_true_eq, wB] at hfo
        omega
      have R1 := hr1.gr hgw
      have R2 := hr2.gr hgw
      have R3 := hr3.gr hgw
      have T3 := HTb.out.gr hgw
      have s1 := hr1.shape
      have s2 := hr2.shape
      have s3 := hr3.shape
      generalize hTe : encTo encFunc u.funcs k = T at h1T HS ⊢
      generalize u.funcs[k] = f at HS hfit hbd R1 R2 R3 s1 s2 s3 hx2'
      obtain ⟨pa, pc, rfl⟩ := s1
      obtain ⟨la, lc, rfl⟩ := s2
      obtain ⟨ca, cc, rfl⟩ := s3
      have hgF := Gr.alloc (Gr.refl wr) (.cells #[.slice pa f.params.length pc, .int .i64 f.result, .slice la f.locals.length lc, .slice ca f.code.length cc] 76)
      have HBF := hide (Box4.new wr 76 (.slice pa f.params.length pc) (.int .i64 f.result) (.slice la f.locals.length lc) (.slice ca f.code.length cc))
      have hP : ∀ V : World, Gr (wr.alloc (.cells #[.slice pa f.params.length pc, .int .i64 f.result, .slice la f.locals.length lc, .slice ca f.code.length cc] 76)) V → Hid (Calls Tryd.prog 121 #[.slice pa f.params.length pc] V fun x w' => x = .returned (.string ⟨(encKinds f.params).toArray⟩) ∧ Gr V w') := fun V g => hide (list_ref _ f.params V ((R1.gr hgF).gr g) (by omega) hfit.1)
      have hL : ∀ V : World, Gr (wr.alloc (.cells #[.slice pa f.params.length pc, .int .i64 f.result, .slice la f.locals.length lc, .slice ca f.code.length cc] 76)) V → Hid (Calls Tryd.prog 121 #[.slice la f.locals.length lc] V fun x w' => x = .returned (.string ⟨(encKinds f.locals).toArray⟩) ∧ Gr V w') := fun V g => hide (list_ref _ f.locals V ((R2.gr hgF).gr g) (by omega) hfit.2.2.1)
      have hC : ∀ V : World, Gr (wr.alloc (.cells #[.slice pa f.params.length pc, .int .i64 f.result, .slice la f.locals.length lc, .slice ca f.code.length cc] 76)) V → Hid (Calls Tryd.prog 73 #[.int .i64 f.result] V fun x w' => x = .returned (.string ⟨(num f.result.toNat).toArray⟩) ∧ Gr V w') := fun V _ => hide (count_ref f.result hfit.2.1.1 hfit.2.1.2 V)
      have hD : ∀ V : World, Gr (wr.alloc (.cells #[.slice pa f.params.length pc, .int .i64 f.result, .slice la f.locals.length lc, .slice ca f.code.length cc] 76)) V → Hid (Calls Tryd.prog 123 #[.slice ca f.code.length cc] V fun x w' => x = .returned (.string ⟨(encs encIns f.code).toArray⟩) ∧ Gr V w') := fun V g => hide (code_ref _ f.code V ((R3.gr hgF).gr g) ((T3.gr hgF).gr g) (by omega) hfit.2.2.2)
      have q1 := encKinds_len (l := f.params) (N := 6) hbd.1
      have q2 := encKinds_len (l := f.locals) (N := 10) hbd.2.1
      have q3 := num_len f.result.toNat
      have q4 := encs_len (f := encIns) (B := 23) (N := 200) (xs := f.code) (fun y _ => encIns_len y) hbd.2.2
      have HS2 : Hid (encTo encFunc u.funcs (k + 1) = (((T ++ encKinds f.params) ++ encKinds f.locals) ++ num f.result.toNat) ++ encs encIns f.code) := hide (by rw [HS.out]; unfold encFunc; simp)
      have HGF := hide (HG.out.trans hgF)
      generalize encKinds f.params = U1 at hP q1 HS2
      generalize encKinds f.locals = U2 at hL q2 HS2
      generalize num f.result.toNat = U3 at hC q3 HS2
      generalize encs encIns f.code = U4 at hD q4 HS2
      obtain ⟨X1, hX1⟩ : ∃ X, X = T ++ U1 := ⟨_, rfl⟩
      obtain ⟨X2, hX2⟩ : ∃ X, X = X1 ++ U2 := ⟨_, rfl⟩
      obtain ⟨X3, hX3⟩ : ∃ X, X = X2 ++ U3 := ⟨_, rfl⟩
      obtain ⟨X4, hX4⟩ : ∃ X, X = X3 ++ U4 := ⟨_, rfl⟩
      have t1 := str_app T U1
      have t2 := str_app X1 U2
      have t3 := str_app X2 U3
      have t4 := str_app X3 U4
      rw [← hX1] at t1 HS2
      rw [← hX2] at t2 HS2
      rw [← hX3] at t3 HS2
      rw [← hX4] at t4 HS2
      have z1 : U1.length ≤ 5000 := by omega
      have z2 : U2.length ≤ 5000 := by omega
      have z3 : U3.length ≤ 5000 := by omega
      have z4 : U4.length ≤ 5000 := by omega
      have x1 : X1.length ≤ 1010000 := by rw [hX1, List.length_append]; omega
      have x2 : X2.length ≤ 1020000 := by rw [hX2, List.length_append]; omega
      have x3 : X3.length ≤ 1030000 := by rw [hX3, List.length_append]; omega
      clear hX1 hX2 hX3 hX4 q1 q2 q3 q4
      clear hc9 hx1 hx2 hx3 hx4 hg hxk hfit hfo hbd hr1 hr2 hr3 R1 R2 R3 T3 hTe hgw HS p0 p1 p3 p4 hgF
      go_wp2_with fail
      clear hx1' hx2' hx3' hx4' p2
      have hgd : Gr (wr.alloc (.cells #[.slice pa f.params.length pc, .int .i64 f.result, .slice la f.locals.length lc, .slice ca f.code.length cc] 76)) (wr.alloc (.cells #[.slice pa f.params.length pc, .int .i64 f.result, .slice la f.locals.length lc, .slice ca f.code.length cc] 76)).drew := Gr.drew (Gr.refl _)
      obtain ⟨f0, f1, f2, f3, _⟩ := HBF.out
      generalize hfbe : wr.heap.size = fb at f0 f1 f2 f3 HBF ⊢
      generalize wr.alloc (.cells #[.slice pa f.params.length pc, .int .i64 f.result, .slice la f.locals.length lc, .slice ca f.code.length cc] 76) = W2 at HGF HBF hP hL hC hD hgd f0 f1 f2 f3 ⊢
      go_region_held (fun w' => w'.cell? ⟨fb, 0, none⟩ = some (.slice pa f.params.length pc) ∧ w'.cell? ⟨fb, 1, none⟩ = some (.int .i64 f.result) ∧ w'.cell? ⟨fb, 2, none⟩ = some (.slice la f.locals.length lc) ∧ w'.cell? ⟨fb, 3, none⟩ = some (.slice ca f.code.length cc)) (first | exact ⟨hgc.cell f0 (by simp), hgc.cell f1 (by simp), hgc.cell f2 (by simp), hgc.cell f3 (by simp)⟩ | go_keep) (first | (go_at_call_of 121 (Value.slice pa f.params.length pc); refine (hP _ ?_).out.mono ?_; assumption; rintro y w' ⟨rfl, hg'⟩; have hgc := Gr.trans (by assumption) hg') | (go_at_call_of 121 (Value.slice la f.locals.length lc); refine (hL _ ?_).out.mono ?_; assumption; rintro y w' ⟨rfl, hg'⟩; have hgc := Gr.trans (by assumption) hg') | (go_at_call 73; refine (hC _ ?_).out.mono ?_; assumption; rintro y w' ⟨rfl, hg'⟩; have hgc := Gr.trans (by assumption) hg') | (go_at_call 123; refine (hD _ ?_).out.mono ?_; assumption; rintro y w' ⟨rfl, hg'⟩; have hgc := Gr.trans (by assumption) hg'))
      all_goals go_wp2_with fail
      all_goals exact ⟨⟨k + 1, by simp, hlt, by rw [HS2.out], HGF.out.trans hgc⟩, by simp [intOf]; omega⟩
    · have hkk : k = u.funcs.length := by omega
      subst hkk
      have HE := hide (encs_end (f := encFunc) (xs := u.funcs) (k := u.funcs.length) (by omega))
      clear hg
      go_wp2_with fail
      go_ret
      exact ⟨by unfold body3; rw [HE.out]; rfl, HG0.out.trans HG.out⟩
end Go.Proofs.YtkgncijcnlfhiaaDoor

