import Derived.Test.YtkgncijcnlfhiaaDoorFb
import Derived.Test.YtkgncijcnlfhiaaDoorE1
namespace Go.Proofs.YtkgncijcnlfhiaaDoor
set_option linter.unusedVariables false
set_option linter.unusedSimpArgs false
open Go.RowKit
attribute [local go_sem ↓] Go.wp_at_zero Go.wp_at_succ
def bodyK (u : PUnit) : Nat → List UInt8
  | 1 => body1 u
  | 2 => body2 u
  | 3 => body3 u
  | 4 => body4 u
  | _ => body5 u
def encK (u : PUnit) : Nat → List UInt8
  | 0 => magic
  | j + 1 => encK u j ++ sect (j + 1) (bodyK u (j + 1))
theorem encK_five (u : PUnit) : encK u 5 = enc u := rfl
theorem bodyK_ref (u : PUnit) (v : Value) (w : World) (hR : RUnit w v u) (hT : Tab w) (hok : unitOk u = true) (hF : Fits u) (n : Nat) (h1 : 1 ≤ n) (h5 : n ≤ 5) :
    Calls Tryd.prog 72 #[v, .int .i64 (n : Int)] w fun x w' => x = .returned (.string ⟨(bodyK u n).toArray⟩) ∧ Gr w w' := by
  have hc : n = 1 ∨ n = 2 ∨ n = 3 ∨ n = 4 ∨ n = 5 := by omega
  rcases hc with rfl | rfl | rfl | rfl | rfl
  · exact body1_ref u v w hR hT hok hF
  · exact body2_ref u v w hR hT hok hF
  · exact body3_ref u v w hR hT hok hF
  · exact body4_ref u v w hR hT hok hF
  · exact body5_ref u v w hR hT hok hF
theorem bodyK_len {u : PUnit} (h : unitOk u = true) (n : Nat) (h1 : 1 ≤ n) (h5 : n ≤ 5) : (bodyK u n).length ≤ 1000000 := by
  have hr := unitOk_room h
  have hc : n = 1 ∨ n = 2 ∨ n = 3 ∨ n = 4 ∨ n = 5 := by omega
  rcases hc with rfl | rfl | rfl | rfl | rfl
  · exact hr.b1
  · exact hr.b2
  · exact hr.b3
  · exact hr.b4
  · exact hr.b5
theorem sect_short (n : Nat) (b : List UInt8) : (sect n b).length ≤ 16 + b.length := by
  have := num_len b.length
  unfold sect; simp only [List.length_append, leK_len, List.length_cons, List.length_nil]; omega
theorem encK_len {u : PUnit} (h : unitOk u = true) : ∀ j, j ≤ 5 → (encK u j).length ≤ 5 + j * 1000016
  | 0, _ => by show magic.length ≤ _; decide
  | j + 1, hj => by
    have h1 := encK_len h j (by omega)
    have h2 := sect_short (j + 1) (bodyK u (j + 1))
    have h3 := bodyK_len h (j + 1) (by omega) hj
    show (encK u j ++ sect (j + 1) (bodyK u (j + 1))).length ≤ _
    rw [List.length_append]; omega

set_option maxRecDepth 100000 in
set_option maxHeartbeats 4000000 in
theorem encode_ref (u : PUnit) (v : Value) (w : World) (hR : RUnit w v u) (hT : Tab w) (hF : Fits u) :
    Calls Tryd.prog 14 #[v] w fun x w' => x = .returned (.tuple #[.string ⟨(encStr u).toArray⟩, .int .i64 (encErr u)]) ∧ Gr w w' := by
  have HR := hide hR
  have HT := hide hT
  have HF := hide hF
  obtain ⟨v1, v2, v3, v4, v5, rfl, h1, h2, h3, h4, h5⟩ := hR
  obtain ⟨a1, c1, rfl⟩ := h1.shape
  obtain ⟨a2, c2, rfl⟩ := h2.shape
  obtain ⟨a3, c3, rfl⟩ := h3.shape
  obtain ⟨a4, c4, rfl⟩ := h4.shape
  obtain ⟨a5, c5, rfl⟩ := h5.shape
  have hga := Gr.alloc (Gr.refl w) (.cells #[.slice a1 u.shapes.length c1, .slice a2 u.consts.length c2, .slice a3 u.funcs.length c3, .slice a4 u.imports.length c4, .slice a5 u.exports.length c5] 28)
  have HG := hide hga
  have HB := hide (Box5.new w 28 (.slice a1 u.shapes.length c1) (.slice a2 u.consts.length c2) (.slice a3 u.funcs.length c3) (.slice a4 u.imports.length c4) (.slice a5 u.exports.length c5))
  have HRt := hide (right_ref u _ _ (HR.out.gr hga) (HT.out.gr hga))
  clear h1 h2 h3 h4 h5 hga hT hF
  obtain ⟨p0, p1, p2, p3, p4, _⟩ := HB.out
  go_enter Tryd.func14, Tryd.ntmps14
  go_wp2_with fail
  clear p0 p1 p2 p3 p4
  refine HRt.out.mono ?_
  clear HRt
  generalize w.alloc (.cells #[.slice a1 u.shapes.length c1, .slice a2 u.consts.length c2, .slice a3 u.funcs.length c3, .slice a4 u.imports.length c4, .slice a5 u.exports.length c5] 28) = W at HG HB ⊢
  rintro x w1 ⟨rfl, hg1⟩
  have HG1 := hide (HG.out.trans hg1)
  cases hok : unitOk u
  · have E1 : Hid (encErr u = 1 ∧ encStr u = []) := hide (by unfold encErr encStr; rw [hok]; simp)
    clear hg1 hok
    go_wp2_with fail
    exact bodyPost_ret (v := .tuple #[.string ⟨#[]⟩, .int .i64 1]) (by simp [results, Tryd.results14, go_sem]) rfl (by rw [E1.out.1, E1.out.2]; exact ⟨rfl, HG1.out⟩)
  have HOk := hide hok
  have HG2 := hide hg1
  clear hg1 hok
  go_wp2_with fail
  go_loopw [5, 6] (fun s i wr => ∃ n : Nat, 1 ≤ n ∧ n ≤ 6 ∧ i = .int .i64 (n : Int) ∧ s = .string ⟨(encK u (n - 1)).toArray⟩ ∧ Gr W wr) (fun _ i _ => 6 - (intOf i).toNat)
  case atStart => exact ⟨1, Nat.le_refl _, by decide, rfl, rfl, HG2.out⟩
  case round =>
    obtain ⟨n, hn1, hn6, rfl, rfl, hg⟩ := hrel
    have HGr := hide hg
    obtain ⟨p0, p1, p2, p3, p4, _⟩ := HB.out.gr hg
    by_cases hn : n ≤ 5
    · have hgw := HG.out.trans hg
      have hS := hide (section_ref n (by omega) (bodyK u n) (bodyK_len HOk.out n hn1 hn) a1 a2 a3 a4 a5 u.shapes.length u.consts.length u.funcs.length u.imports.length u.exports.length c1 c2 c3 c4 c5 wr (fun V g => bodyK_ref u _ V (HR.out.gr (hgw.trans g)) (HT.out.gr (hgw.trans g)) HOk.out HF.out n hn1 hn))
      have l1 := encK_len HOk.out (n - 1) (by omega)
      have l2 := sect_short n (bodyK u n)
      have l3 := bodyK_len HOk.out n hn1 hn
      have HS : Hid (encK u n = encK u (n - 1) ++ sect n (bodyK u n)) := hide (by
        obtain ⟨j, rfl⟩ : ∃ j, n = j + 1 := ⟨n - 1, by omega⟩
        rfl)
      have l1' : (encK u (n - 1)).length ≤ 6000000 := by omega
      have l2' : (sect n (bodyK u n)).length ≤ 2000000 := by omega
      generalize encK u (n - 1) = T at HS l1' l1 ⊢
      generalize sect n (bodyK u n) = U at HS hS l2' l2
      clear hg hgw l1 l2 l3
      go_wp2_with fail
      refine hS.out.mono ?_
      rintro y w2 ⟨rfl, hg2⟩
      have HG3 := hide (HGr.out.trans hg2)
      clear hg2 hS p0 p1 p2 p3 p4
      go_wp2_with fail
      exact ⟨⟨n + 1, by omega, by omega, by simp, by rw [Nat.add_sub_cancel, HS.out, str_app], HG3.out⟩, by simp [intOf]; omega⟩
    · have h6 : n = 6 := by omega
      subst h6
      have l5 := encK_len HOk.out 5 (by decide)
      have HE : Hid (encK u (6 - 1) = enc u) := hide rfl
      rw [HE.out]
      have l5' : (enc u).length ≤ 6000000 := by rw [encK_five] at l5; omega
      clear hg l5 p0 p1 p2 p3 p4
      by_cases hl : (enc u).length ≤ 20000
      · have E1 : Hid (encErr u = 0 ∧ encStr u = enc u) := hide (by unfold encErr encStr; rw [HOk.out]; simp [hl])
        have hl2 : ¬ 20000 < (enc u).length := by omega
        go_wp2_with fail
        exact bodyPost_ret (v := .tuple #[.string ⟨(enc u).toArray⟩, .int .i64 0]) (by simp [results, Tryd.results14, go_sem]) rfl (by rw [E1.out.1, E1.out.2]; exact ⟨rfl, HG.out.trans HGr.out⟩)
      · have E1 : Hid (encErr u = 3 ∧ encStr u = []) := hide (by unfold encErr encStr; rw [HOk.out]; simp [hl])
        have hl2 : 20000 < (enc u).length := by omega
        go_wp2_with fail
        exact bodyPost_ret (v := .tuple #[.string ⟨#[]⟩, .int .i64 3]) (by simp [results, Tryd.results14, go_sem]) rfl (by rw [E1.out.1, E1.out.2]; exact ⟨rfl, HG.out.trans HGr.out⟩)
end Go.Proofs.YtkgncijcnlfhiaaDoor
