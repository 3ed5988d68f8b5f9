import Derived.Test.YtkgncijcnlfhiaaDoorF5
import Derived.Test.YtkgncijcnlfhiaaDoorF7
import Derived.Test.YtkgncijcnlfhiaaDoorD2
namespace Go.Proofs.YtkgncijcnlfhiaaDoor
set_option linter.unusedVariables false
set_option linter.unusedSimpArgs false
open Go.RowKit
attribute [local go_sem ↓] Go.wp_at_zero Go.wp_at_succ

set_option maxRecDepth 100000 in
set_option maxHeartbeats 4000000 in
theorem body1_ref (u : PUnit) (v : Value) (w : World) (hR : RUnit w v u) (hT : Tab w) (hok : unitOk u = true) (hF : Fits u) :
    Calls Tryd.prog 72 #[v, .int .i64 1] w fun x w' => x = .returned (.string ⟨(body1 u).toArray⟩) ∧ Gr w w' := by
  obtain ⟨v1, v2, v3, v4, v5, rfl, h1, h2, h3, h4, h5⟩ := hR
  obtain ⟨a1, c1, rfl⟩ := h1.shape
  obtain ⟨a2, c2, rfl⟩ := h2.shape
  obtain ⟨a3, c3, rfl⟩ := h3.shape
  obtain ⟨a4, c4, rfl⟩ := h4.shape
  obtain ⟨a5, c5, rfl⟩ := h5.shape
  have hroom := unitOk_room hok
  have hsm : ∀ k, (encTo encKinds u.shapes k).length ≤ 1000000 := fun k => Nat.le_trans (encTo_le encKinds u.shapes k) hroom.b1
  have HRm := hide hroom
  have HOk := hide hok
  have HFt := hide hF
  have HTb := hide hT
  have hll : u.shapes.length ≤ 50 := by
    rw [unitOk_eq] at hok
    simp only [Bool.and_eq_true, decide_eq_true_eq] at hok
    omega
  have hc0 := fun V : World => hide (count_ref (u.shapes.length : Int) (by omega) (by omega) V)
  simp only [Int.toNat_natCast] at hc0
  have hga := Gr.alloc (Gr.refl w) (.cells #[.slice a1 u.shapes.length c1, .slice a2 u.consts.length c2, .slice a3 u.funcs.length c3, .slice a4 u.imports.length c4, .slice a5 u.exports.length c5] 28)
  have HG0 := hide hga
  have HB := hide (Box5.new w 28 (.slice a1 u.shapes.length c1) (.slice a2 u.consts.length c2) (.slice a3 u.funcs.length c3) (.slice a4 u.imports.length c4) (.slice a5 u.exports.length c5))
  have HH := hide h1
  clear h1 h2 h3 h4 h5 hroom hok hF hT hga
  obtain ⟨p0, p1, p2, p3, p4, _⟩ := HB.out
  go_enter Tryd.func72, Tryd.ntmps72
  go_wp2_with fail
  clear p0 p1 p2 p3 p4
  refine (hc0 _).out.mono ?_
  generalize w.alloc (.cells #[.slice a1 u.shapes.length c1, .slice a2 u.consts.length c2, .slice a3 u.funcs.length c3, .slice a4 u.imports.length c4, .slice a5 u.exports.length c5] 28) = W at HB HG0 ⊢
  rintro x w1 ⟨rfl, hg1⟩
  have HG1 := hide hg1
  clear hg1 hc0
  go_wp2_with fail
  go_loopw [5, 6] (fun s i wr => ∃ k : Nat, i = .int .i64 k ∧ k ≤ u.shapes.length ∧ s = .string ⟨(encTo (encKinds) u.shapes k).toArray⟩ ∧ Gr W wr) (fun _ i _ => u.shapes.length - (intOf i).toNat)
  case atStart => exact ⟨0, rfl, Nat.zero_le _, by rw [encTo_zero], HG1.out⟩
  case round =>
    obtain ⟨k, rfl, hk, rfl, hg⟩ := hrel
    clear HG1
    have HG := hide hg
    obtain ⟨p0, p1, p2, p3, p4, _⟩ := HB.out.gr hg
    by_cases hlt : k < u.shapes.length
    · obtain ⟨a9, c9, h9e, _, hc9⟩ := HH.out
      simp only [Value.slice.injEq, true_and] at h9e
      have hgw := HG0.out.trans hg
      have h1T := hsm k
      have hxk : u.shapes[k]? = some u.shapes[k] := List.getElem?_eq_getElem hlt
      obtain ⟨b1, o1, vx, rfl, hx1, hr1⟩ := hc9 k _ hxk
      obtain ⟨rfl, rfl⟩ := h9e
      have hx1' := hgw.cell hx1 (by simp)
      have HS := hide (encTo_succ (f := encKinds) hxk)
      have hfit := HRm.out.f1 _ (List.mem_of_getElem? hxk)
      have hlen : u.shapes[k].length ≤ 8 := by
        have := HOk.out
        rw [unitOk_eq] at this
        simp only [Bool.and_eq_true] at this
        have h := List.all_eq_true.1 this.2.1 _ (List.mem_of_getElem? hxk)
        unfold shapeOk at h
        simp only [Bool.and_eq_true, wB, decide_eq_true_eq] at h
        omega
      have hls := hide (list_ref vx u.shapes[k] wr (hr1.gr hgw) (by omega) hfit)
      have h2T := encKinds_len (l := u.shapes[k]) (N := 8) hlen
      have hrs := hr1.shape
      generalize hTe : encTo encKinds u.shapes k = T at h1T HS ⊢
      generalize u.shapes[k] = x at HS hls hrs h2T
      obtain ⟨xa, xc, rfl⟩ := hrs
      generalize encKinds x = U at HS hls h2T
      clear hc9 hx1 hg hxk hfit hlen hr1 hTe hgw p1 p2 p3 p4
      go_wp2_with fail
      refine hls.out.mono ?_
      rintro y w2 ⟨rfl, hg2⟩
      have HG2 := hide (HG.out.trans hg2)
      clear hg2 hls hx1' p0
      go_wp2_with fail
      exact ⟨⟨k + 1, by simp, hlt, by rw [HS.out, str_app], HG2.out⟩, by simp [intOf]; omega⟩
    · have hkk : k = u.shapes.length := by omega
      subst hkk
      have HE := hide (encs_end (f := encKinds) (xs := u.shapes) (k := u.shapes.length) (by omega))
      clear hg
      go_wp2_with fail
      go_ret
      exact ⟨by unfold body1; rw [HE.out]; rfl, HG0.out.trans HG.out⟩

set_option maxRecDepth 100000 in
set_option maxHeartbeats 4000000 in
theorem body2_ref (u : PUnit) (v : Value) (w : World) (hR : RUnit w v u) (hT : Tab w) (hok : unitOk u = true) (hF : Fits u) :
    Calls Tryd.prog 72 #[v, .int .i64 2] w fun x w' => x = .returned (.string ⟨(body2 u).toArray⟩) ∧ Gr w w' := by
  obtain ⟨v1, v2, v3, v4, v5, rfl, h1, h2, h3, h4, h5⟩ := hR
  obtain ⟨a1, c1, rfl⟩ := h1.shape
  obtain ⟨a2, c2, rfl⟩ := h2.shape
  obtain ⟨a3, c3, rfl⟩ := h3.shape
  obtain ⟨a4, c4, rfl⟩ := h4.shape
  obtain ⟨a5, c5, rfl⟩ := h5.shape
  have hroom := unitOk_room hok
  have hsm : ∀ k, (encTo encSigned u.consts k).length ≤ 1000000 := fun k => Nat.le_trans (encTo_le encSigned u.consts k) hroom.b2
  have HRm := hide hroom
  have HOk := hide hok
  have HFt := hide hF
  have HTb := hide hT
  have hll : u.consts.length ≤ 50 := by
    rw [unitOk_eq] at hok
    simp only [Bool.and_eq_true, decide_eq_true_eq] at hok
    omega
  have hc0 := fun V : World => hide (count_ref (u.consts.length : Int) (by omega) (by omega) V)
  simp only [Int.toNat_natCast] at hc0
  have hga := Gr.alloc (Gr.refl w) (.cells #[.slice a1 u.shapes.length c1, .slice a2 u.consts.length c2, .slice a3 u.funcs.length c3, .slice a4 u.imports.length c4, .slice a5 u.exports.length c5] 28)
  have HG0 := hide hga
  have HB := hide (Box5.new w 28 (.slice a1 u.shapes.length c1) (.slice a2 u.consts.length c2) (.slice a3 u.funcs.length c3) (.slice a4 u.imports.length c4) (.slice a5 u.exports.length c5))
  have HH := hide h2
  clear h1 h2 h3 h4 h5 hroom hok hF hT hga
  obtain ⟨p0, p1, p2, p3, p4, _⟩ := HB.out
  go_enter Tryd.func72, Tryd.ntmps72
  go_wp2_with fail
  clear p0 p1 p2 p3 p4
  refine (hc0 _).out.mono ?_
  generalize w.alloc (.cells #[.slice a1 u.shapes.length c1, .slice a2 u.consts.length c2, .slice a3 u.funcs.length c3, .slice a4 u.imports.length c4, .slice a5 u.exports.length c5] 28) = W at HB HG0 ⊢
  rintro x w1 ⟨rfl, hg1⟩
  have HG1 := hide hg1
  clear hg1 hc0
  go_wp2_with fail
  go_loopw [5, 7] (fun s i wr => ∃ k : Nat, i = .int .i64 k ∧ k ≤ u.consts.length ∧ s = .string ⟨(encTo (encSigned) u.consts k).toArray⟩ ∧ Gr W wr) (fun _ i _ => u.consts.length - (intOf i).toNat)
  case atStart => exact ⟨0, rfl, Nat.zero_le _, by rw [encTo_zero], HG1.out⟩
  case round =>
    obtain ⟨k, rfl, hk, rfl, hg⟩ := hrel
    clear HG1
    have HG := hide hg
    obtain ⟨p0, p1, p2, p3, p4, _⟩ := HB.out.gr hg
    by_cases hlt : k < u.consts.length
    · obtain ⟨a9, c9, h9e, _, hc9⟩ := HH.out
      simp only [Value.slice.injEq, true_and] at h9e
      have hgw := HG0.out.trans hg
      have h1T := hsm k
      obtain ⟨b1, o1, rfl, hx1⟩ := hc9 k hlt
      obtain ⟨rfl, rfl⟩ := h9e
      have hxk : u.consts[k]? = some (u.consts.getD k 0) := by simp [List.getD_eq_getElem?_getD, hlt]
      have hx1' := hgw.cell hx1 (by simp)
      have HS := hide (encTo_succ (f := encSigned) hxk)
      have hfit := HFt.out _ (List.mem_of_getElem? hxk)
      generalize u.consts.getD k 0 = x at HS hx1' hfit
      have hls := fun V : World => hide (signed_ref x hfit.1 hfit.2 V)
      have h2T := num_len (zig x)
      generalize hTe : encTo encSigned u.consts k = T at h1T HS ⊢
      have HS2 : Hid (encTo encSigned u.consts (k + 1) = T ++ num (zig x)) := HS
      generalize num (zig x) = U at HS2 hls h2T
      clear hc9 hx1 hg hxk hfit hTe hgw HS p0 p2 p3 p4
      go_wp2_with fail
      refine (hls _).out.mono ?_
      rintro y w2 ⟨rfl, hg2⟩
      have HG2 := hide (HG.out.trans hg2)
      clear hg2 hls hx1' p1
      go_wp2_with fail
      exact ⟨⟨k + 1, by simp, hlt, by rw [HS2.out, str_app], HG2.out⟩, by simp [intOf]; omega⟩
    · have hkk : k = u.consts.length := by omega
      subst hkk
      have HE := hide (encs_end (f := encSigned) (xs := u.consts) (k := u.consts.length) (by omega))
      clear hg
      go_wp2_with fail
      go_ret
      exact ⟨by unfold body2; rw [HE.out]; rfl, HG0.out.trans HG.out⟩
end Go.Proofs.YtkgncijcnlfhiaaDoor
