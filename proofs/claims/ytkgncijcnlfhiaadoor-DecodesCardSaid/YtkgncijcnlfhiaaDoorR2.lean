import Derived.Test.YtkgncijcnlfhiaaDoorR1c
namespace Go.Proofs.YtkgncijcnlfhiaaDoor
set_option linter.unusedVariables false
set_option linter.unusedSimpArgs false
open Go.RowKit
attribute [local go_sem ↓] Go.wp_at_zero Go.wp_at_succ
theorem Sec.new (w : World) (s : ByteArray) (t : List UInt8) (hs : s.data.toList = t) (hl : t.length ≤ 1000000) (h5 : 5 ≤ t.length) : Sec (w.alloc (.cells #[.string s, .int .i64 5] 133)) w.heap.size t 5 := by
  refine ⟨⟨s, by simp [go_sem], hs⟩, hl, h5, by simp [go_sem], by simp [go_sem]⟩

set_option maxRecDepth 100000 in
set_option maxHeartbeats 8000000 in
theorem read_any (S : Sections) (s : ByteArray) (w : World) (hs : s.size ≤ maxLen) :
    Calls Tryd.prog 41 #[.string s] w (ReadR w (dec s.data.toList)) := by
  have hsm := hs
  unfold maxLen at hs
  have hsz : s.data.toList.length = s.size := by rw [Array.length_toList]; rfl
  have HB0 := hide (Box5.new w 28 (.slice none 0 0) (.slice none 0 0) (.slice none 0 0) (.slice none 0 0) (.slice none 0 0))
  have HG0 := hide (Gr.alloc (Gr.refl w) (.cells #[.slice none 0 0, .slice none 0 0, .slice none 0 0, .slice none 0 0, .slice none 0 0] 28))
  by_cases hlong : 20000 < s.size
  · have hd : decide ((s.size : Int) ≤ 20000) = false := by rw [decide_eq_false_iff_not]; omega
    have HE : Hid (dec s.data.toList = .inr (3, 0)) := hide (by unfold dec; rw [if_pos (by omega)])
    go_enter Tryd.func41, Tryd.ntmps41
    go_wp2_with (go_at_call 76; refine (unless_no _ _ _).mono ?_; rintro e w1 ⟨rfl, hg1⟩)
    exact ⟨rfl, by rw [HE.out]; exact ⟨rfl, HG0.out.trans hg1⟩⟩
  have hd : (s.size : Int) ≤ 20000 := by omega
  have HPx : ∀ V : World, Hid (Calls Tryd.prog 77 #[.string s, .string ⟨#[75, 73, 76, 78, 1]⟩] V fun x w' => x = .returned (.bool (decide (s.data.toList.take 5 = magic))) ∧ w' = V) := fun V => hide (by
    go_enter Tryd.func77, Tryd.ntmps77
    go_wp2_with (go_at_call 126; refine (hasPrefix_any s _ hsm).mono ?_; rintro x w2 ⟨rfl, e2⟩; subst e2)
    go_ret
    exact ⟨rfl, rfl⟩)
  by_cases hmag : s.data.toList.take 5 = magic
  rotate_left
  · have HE : Hid (dec s.data.toList = .inr (2, 0)) := hide (by unfold dec; rw [if_neg (by omega), if_pos hmag])
    have hdf : decide (s.data.toList.take 5 = magic) = false := decide_eq_false_iff_not.2 hmag
    clear hmag
    go_enter Tryd.func41, Tryd.ntmps41
    go_wp2_with fail
    refine (unless_yes _ _ _).mono ?_
    rintro e w1 ⟨rfl, hg1⟩
    go_wp2_with fail
    refine (HPx _).out.mono ?_
    rintro e w2 ⟨rfl, e2⟩
    subst e2
    rw [hdf]
    go_wp2_with fail
    refine (unless_no _ _ _).mono ?_
    rintro e w3 ⟨rfl, hg3⟩
    exact ⟨rfl, by rw [HE.out]; exact ⟨rfl, (HG0.out.trans hg1).trans hg3⟩⟩
  have hdt : decide (s.data.toList.take 5 = magic) = true := decide_eq_true hmag
  have hdt0 := hdt
  have h5 : 5 ≤ s.data.toList.length := by have := congrArg List.length hmag; rw [List.length_take] at this; have hm : magic.length = 5 := rfl; omega
  have HDec := hide (dec_head (t := s.data.toList) (by omega) hmag)
  have HSecN := fun V : World => hide (Sec.new V s s.data.toList rfl (by omega) h5)
  generalize hT : s.data.toList = T at HDec HSecN h5 hdt hsz hmag
  have HSZ := hide hsz
  clear hsz
  have HT := hide hT
  have HH := hide hmag
  clear hmag
  go_enter Tryd.func41, Tryd.ntmps41
  go_wp2_with fail
  refine (unless_yes _ _ _).mono ?_
  rintro e w1 ⟨rfl, hg1⟩
  go_wp2_with fail
  refine (HPx _).out.mono ?_
  rintro e w2 ⟨rfl, e2⟩
  subst e2
  rw [hdt0]
  go_wp2_with fail
  refine (unless_yes _ _ _).mono ?_
  rintro e w3 ⟨rfl, hg3⟩
  go_wp2_with fail
  have hG3 := (HG0.out.trans hg1).trans hg3
  have hwU : w.heap.size < w3.heap.size := by have h1 := hg1.size; have h3 := hg3.size; simp at h1; omega
  have hrb0 := ((HB0.out.gr hg1).gr hg3)
  have HG4 := hide (((hG3.alloc (.cells #[.slice none 0 0, .slice none 0 0, .slice none 0 0, .slice none 0 0, .slice none 0 0] 28)).alloc (.cells #[.int .i64 0, .int .i64 0, .int .i64 0] 83)).alloc (.cells #[.string s, .int .i64 5] 133))
  have hgr2 := Gr.alloc (Gr.refl ((w3.alloc (.cells #[.slice none 0 0, .slice none 0 0, .slice none 0 0, .slice none 0 0, .slice none 0 0] 28)).alloc (.cells #[.int .i64 0, .int .i64 0, .int .i64 0] 83))) (.cells #[.string s, .int .i64 5] 133)
  have hgr1 := Gr.trans (Gr.alloc (Gr.refl (w3.alloc (.cells #[.slice none 0 0, .slice none 0 0, .slice none 0 0, .slice none 0 0, .slice none 0 0] 28))) (.cells #[.int .i64 0, .int .i64 0, .int .i64 0] 83)) hgr2
  have HRB := hide ((hrb0.gr (Gr.alloc (Gr.refl _) (.cells #[.slice none 0 0, .slice none 0 0, .slice none 0 0, .slice none 0 0, .slice none 0 0] 28))).gr hgr1)
  have HUB := hide ((Box5.new w3 28 (.slice none 0 0) (.slice none 0 0) (.slice none 0 0) (.slice none 0 0) (.slice none 0 0)).gr hgr1)
  have hwb := (Box3.new (w3.alloc (.cells #[.slice none 0 0, .slice none 0 0, .slice none 0 0, .slice none 0 0, .slice none 0 0] 28)) 83 (.int .i64 0) (.int .i64 0) (.int .i64 0)).gr hgr2
  rw [show (w3.alloc (.cells #[.slice none 0 0, .slice none 0 0, .slice none 0 0, .slice none 0 0, .slice none 0 0] 28)).heap.size = w3.heap.size + 1 by simp] at hwb
  have HWB := hide hwb
  have hsec := (HSecN ((w3.alloc (.cells #[.slice none 0 0, .slice none 0 0, .slice none 0 0, .slice none 0 0, .slice none 0 0] 28)).alloc (.cells #[.int .i64 0, .int .i64 0, .int .i64 0] 83))).out
  rw [show ((w3.alloc (.cells #[.slice none 0 0, .slice none 0 0, .slice none 0 0, .slice none 0 0, .slice none 0 0] 28)).alloc (.cells #[.int .i64 0, .int .i64 0, .int .i64 0] 83)).heap.size = w3.heap.size + 2 by simp] at hsec
  have HSec := hide hsec
  have HSz : Hid (w3.heap.size + 3 ≤ (((w3.alloc (.cells #[.slice none 0 0, .slice none 0 0, .slice none 0 0, .slice none 0 0, .slice none 0 0] 28)).alloc (.cells #[.int .i64 0, .int .i64 0, .int .i64 0] 83)).alloc (.cells #[.string s, .int .i64 5] 133)).heap.size) := hide (by simp)
  clear hgr1 hgr2 hwb hsec
  generalize ((w3.alloc (.cells #[.slice none 0 0, .slice none 0 0, .slice none 0 0, .slice none 0 0, .slice none 0 0] 28)).alloc (.cells #[.int .i64 0, .int .i64 0, .int .i64 0] 83)).alloc (.cells #[.string s, .int .i64 5] 133) = W at HG4 HRB HUB HWB HSec HSz ⊢
  rw [show w3.heap.size + 1 + 1 = w3.heap.size + 2 from rfl]
  generalize w3.heap.size = U at hwU HUB HWB HSec HSz ⊢
  clear hG3 hrb0 hg1 hg3 HB0 HG0 HPx HSecN hdt hdt0 hd hlong HT hT hs hsm
  obtain ⟨z1, hz1⟩ : ∃ z, z = W.heap.size := ⟨_, rfl⟩
  have hzU1 : U + 3 ≤ z1 := by rw [hz1]; exact HSz.out
  have HZ1 := hide hz1
  clear hz1

  refine (S.s1 (U + 2) z1 T 5 _ HSec.out (by omega) (Nat.le_of_eq HZ1.out)).mono ?_
  intro x v1w h
  cases hr : rdSect 1 (rdList rdKinds) (T.drop 5) with
  | none =>
    rw [hr] at h
    obtain ⟨rfl, hg⟩ := h
    have hE : dec T = .inr (2, 5) := by rw [HDec.out, hr]
    exact ⟨rfl, by rw [hE]; exact ⟨rfl, gr_over HG4.out hg (by omega)⟩⟩
  | some q =>
  obtain ⟨y1, r1⟩ := q
  rw [hr] at h
  obtain ⟨v1, rfl, hy, hsec, hg⟩ := h
  obtain ⟨a1, c1, hv⟩ := hy.shape
  subst hv
  obtain ⟨t1, ht1⟩ : ∃ z, z = v1w.heap.size := ⟨_, rfl⟩
  have hzt1 : z1 ≤ t1 := by rw [HZ1.out, ht1]; exact hg.size
  have M1' := hide (show y1.length ≤ maxLen from hy.f.choose_spec.choose_spec.2.1)
  have hml1 : y1.length ≤ 9223372036854775807 := by have := M1'.out; unfold maxLen at this; omega
  have HR1 : Hid (T.drop (T.length - r1.length) = r1) := hide (by
    obtain ⟨xx, hx⟩ := rdSect_suffix hr
    exact drop_pl (p := 5) (hx))
  generalize hpp : T.length - r1.length = p1 at hsec HR1
  have HP1 := hide hpp
  clear hpp
  have HRS1 := hide hr
  have hub := HUB.out.gc hg (by omega)
  have hwb := HWB.out.gc hg (by omega)
  have HG5 := hide (gr_set (g := U + 1) (o := 2) (v := .int .i64 5) (gr_set (g := U + 1) (o := 1) (v := .int .i64 0) (gr_set (g := U + 1) (o := 0) (v := .int .i64 2) (gr_set (g := U) (o := 0) (v := .slice a1 y1.length c1) (gr_over HG4.out hg (by omega)) (by omega)) (by omega)) (by omega)) (by omega))
  have HRB5 := hide (((((HRB.out.gc hg (by omega)).other (g := U) (o := 0) (v := .slice a1 y1.length c1) (by omega)).other (g := U + 1) (o := 0) (v := .int .i64 2) (by omega)).other (g := U + 1) (o := 1) (v := .int .i64 0) (by omega)).other (g := U + 1) (o := 2) (v := .int .i64 5) (by omega))
  have HUB5 := hide ((((hub.set0 (.slice a1 y1.length c1)).other (g := U + 1) (o := 0) (v := .int .i64 2) (by omega)).other (g := U + 1) (o := 1) (v := .int .i64 0) (by omega)).other (g := U + 1) (o := 2) (v := .int .i64 5) (by omega))
  have HWB5 := hide ((hwb.other (g := U) (o := 0) (v := .slice a1 y1.length c1) (by omega)).put (.int .i64 2) (.int .i64 0) (.int .i64 5))
  have HSec5 := hide ((((Sec.set (g := U) (o := 0) (v := .slice a1 y1.length c1) hsec (by omega)).set (g := U + 1) (o := 0) (v := .int .i64 2) (by omega)).set (g := U + 1) (o := 1) (v := .int .i64 0) (by omega)).set (g := U + 1) (o := 2) (v := .int .i64 5) (by omega))
  have HSz5 : Hid (U + 3 ≤ ((((v1w.setCell ⟨U, 0, none⟩ (.slice a1 y1.length c1)).setCell ⟨U + 1, 0, none⟩ (.int .i64 2)).setCell ⟨U + 1, 1, none⟩ (.int .i64 0)).setCell ⟨U + 1, 2, none⟩ (.int .i64 5)).heap.size) := hide (by have h1 := HSz.out; have h2 := hg.size; simp; omega)
  have hyI := Iv.of hy
  rw [← ht1] at hyI
  have Y1 := hide ((((hyI.kp (kp_set (g := U) (o := 0) (v := .slice a1 y1.length c1) (by omega))).kp (kp_set (g := U + 1) (o := 0) (v := .int .i64 2) (by omega))).kp (kp_set (g := U + 1) (o := 1) (v := .int .i64 0) (by omega))).kp (kp_set (g := U + 1) (o := 2) (v := .int .i64 5) (by omega)))
  have HT1 : Hid (t1 ≤ ((((v1w.setCell ⟨U, 0, none⟩ (.slice a1 y1.length c1)).setCell ⟨U + 1, 0, none⟩ (.int .i64 2)).setCell ⟨U + 1, 1, none⟩ (.int .i64 0)).setCell ⟨U + 1, 2, none⟩ (.int .i64 5)).heap.size) := hide (by rw [ht1]; simp)
  clear hyI
  obtain ⟨l0, l1, l2, l3, l4, n0, n1, n2, n3, n4⟩ := hub
  obtain ⟨b0, b1, b2, d0, d1, d2⟩ := hwb
  clear hr hy hsec hg HG4 HRB HUB HWB HSec HSz
  go_wp2_with fail
  clear l0 l1 l2 l3 l4 n0 n1 n2 n3 n4 b0 b1 b2 d0 d1 d2
  generalize (((v1w.setCell ⟨U, 0, none⟩ (.slice a1 y1.length c1)).setCell ⟨U + 1, 0, none⟩ (.int .i64 2)).setCell ⟨U + 1, 1, none⟩ (.int .i64 0)).setCell ⟨U + 1, 2, none⟩ (.int .i64 5) = W1 at HG5 HRB5 HUB5 HWB5 HSec5 HSz5 HT1 Y1  ⊢
  cases ho : shapesOk y1
  · have HE : Hid (dec T = .inr (2, 5)) := hide (by rw [HDec.out, HRS1.out]; simp only [ho, if_true])
    have HO := hide ho
    clear ho
    refine (no_of (shapes_any y1 _ 2 5 _ (by exact Y1.out.shapes.f.to)) HO.out).mono ?_
    rintro e w' ⟨rfl, hg'⟩
    exact ⟨rfl, by rw [HE.out]; exact ⟨rfl, HG5.out.trans hg'⟩⟩
  have HD1 : Hid (dec T = dec2 T y1 r1) := hide (by rw [HDec.out, HRS1.out]; simp only [ho]; rfl)
  have HO1 := hide ho
  clear ho
  refine (yes_of (shapes_any y1 _ 2 5 _ (by exact Y1.out.shapes.f.to)) HO1.out).mono ?_
  rintro e w' ⟨rfl, hgx⟩
  have HG4 := hide (HG5.out.trans hgx)
  have HRB := hide (HRB5.out.gr hgx)
  have HUB := hide (HUB5.out.gr hgx)
  have HWB := hide (HWB5.out.gr hgx)
  have HSec := hide (HSec5.out.gc (hgx.toGc (cb := U)) (by omega))
  have HSz : Hid (U + 3 ≤ w'.heap.size) := hide (Nat.le_trans HSz5.out hgx.size)
  have HTn : Hid (t1 ≤ w'.heap.size) := hide (Nat.le_trans HT1.out hgx.size)
  clear HT1
  have HT1 := HTn
  clear HTn ht1
  have Y1n := hide (Y1.out.kp (hgx.kp))
  clear Y1
  have Y1 := Y1n
  clear Y1n
  clear hgx HG5 HRB5 HUB5 HWB5 HSec5 HSz5
  generalize w' = X1 at HG4 HRB HUB HWB HSec HSz HT1 Y1 ⊢
  go_wp2_with fail
  obtain ⟨z2, hz2⟩ : ∃ z, z = X1.heap.size := ⟨_, rfl⟩
  have hzU2 : U + 3 ≤ z2 := by rw [hz2]; exact HSz.out
  have HZ2 := hide hz2
  clear hz2
  have hzz2 : t1 ≤ z2 := by rw [HZ2.out]; exact HT1.out
  refine (S.s2 (U + 2) z2 T p1 _ HSec.out (by omega) (Nat.le_of_eq HZ2.out)).mono ?_
  intro x v2w h
  rw [HR1.out] at h
  cases hr : rdSect 2 (rdList rdSigned) (r1) with
  | none =>
    rw [hr] at h
    obtain ⟨rfl, hg⟩ := h
    have hE : dec T = .inr (2, p1) := by rw [HD1.out, dec2, hr]; simp only [pl, HP1.out]
    exact ⟨rfl, by rw [hE]; exact ⟨rfl, gr_over HG4.out hg (by omega)⟩⟩
  | some q =>
  obtain ⟨y2, r2⟩ := q
  rw [hr] at h
  obtain ⟨v2, rfl, hy, hsec, hg⟩ := h
  obtain ⟨a2, c2, hv⟩ := hy.shape
  subst hv
  obtain ⟨t2, ht2⟩ : ∃ z, z = v2w.heap.size := ⟨_, rfl⟩
  have hzt2 : z2 ≤ t2 := by rw [HZ2.out, ht2]; exact hg.size
  have M2 := hide hy.f.to.choose_spec.choose_spec.2.1
  have M2' := hide (show y2.length ≤ maxLen from hy.f.choose_spec.choose_spec.2.1)
  have hml2 : y2.length ≤ 9223372036854775807 := by have := M2'.out; unfold maxLen at this; omega
  have HR2 : Hid (T.drop (T.length - r2.length) = r2) := hide (by
    obtain ⟨xx, hx⟩ := rdSect_suffix hr
    exact drop_pl (p := p1) (HR1.out.trans hx))
  generalize hpp : T.length - r2.length = p2 at hsec HR2
  have HP2 := hide hpp
  clear hpp
  have HRS2 := hide hr
  have hub := HUB.out.gc hg (by omega)
  have hwb := HWB.out.gc hg (by omega)
  have HG5 := hide (gr_set (g := U + 1) (o := 2) (v := .int .i64 (p1 : Int)) (gr_set (g := U + 1) (o := 1) (v := .int .i64 0) (gr_set (g := U + 1) (o := 0) (v := .int .i64 2) (gr_set (g := U) (o := 1) (v := .slice a2 y2.length c2) (gr_over HG4.out hg (by omega)) (by omega)) (by omega)) (by omega)) (by omega))
  have HRB5 := hide (((((HRB.out.gc hg (by omega)).other (g := U) (o := 1) (v := .slice a2 y2.length c2) (by omega)).other (g := U + 1) (o := 0) (v := .int .i64 2) (by omega)).other (g := U + 1) (o := 1) (v := .int .i64 0) (by omega)).other (g := U + 1) (o := 2) (v := .int .i64 (p1 : Int)) (by omega))
  have HUB5 := hide ((((hub.set1 (.slice a2 y2.length c2)).other (g := U + 1) (o := 0) (v := .int .i64 2) (by omega)).other (g := U + 1) (o := 1) (v := .int .i64 0) (by omega)).other (g := U + 1) (o := 2) (v := .int .i64 (p1 : Int)) (by omega))
  have HWB5 := hide ((hwb.other (g := U) (o := 1) (v := .slice a2 y2.length c2) (by omega)).put (.int .i64 2) (.int .i64 0) (.int .i64 (p1 : Int)))
  have HSec5 := hide ((((Sec.set (g := U) (o := 1) (v := .slice a2 y2.length c2) hsec (by omega)).set (g := U + 1) (o := 0) (v := .int .i64 2) (by omega)).set (g := U + 1) (o := 1) (v := .int .i64 0) (by omega)).set (g := U + 1) (o := 2) (v := .int .i64 (p1 : Int)) (by omega))
  have HSz5 : Hid (U + 3 ≤ ((((v2w.setCell ⟨U, 1, none⟩ (.slice a2 y2.length c2)).setCell ⟨U + 1, 0, none⟩ (.int .i64 2)).setCell ⟨U + 1, 1, none⟩ (.int .i64 0)).setCell ⟨U + 1, 2, none⟩ (.int .i64 (p1 : Int))).heap.size) := hide (by have h1 := HSz.out; have h2 := hg.size; simp; omega)
  have Y1n := hide (((((Y1.out.kp (hg.kp (by omega))).kp (kp_set (g := U) (o := 1) (v := .slice a2 y2.length c2) (by omega))).kp (kp_set (g := U + 1) (o := 0) (v := .int .i64 2) (by omega))).kp (kp_set (g := U + 1) (o := 1) (v := .int .i64 0) (by omega))).kp (kp_set (g := U + 1) (o := 2) (v := .int .i64 (p1 : Int)) (by omega)))
  have hyI := Iv.of hy
  rw [← ht2] at hyI
  have Y2 := hide ((((hyI.kp (kp_set (g := U) (o := 1) (v := .slice a2 y2.length c2) (by omega))).kp (kp_set (g := U + 1) (o := 0) (v := .int .i64 2) (by omega))).kp (kp_set (g := U + 1) (o := 1) (v := .int .i64 0) (by omega))).kp (kp_set (g := U + 1) (o := 2) (v := .int .i64 (p1 : Int)) (by omega)))
  have HT2 : Hid (t2 ≤ ((((v2w.setCell ⟨U, 1, none⟩ (.slice a2 y2.length c2)).setCell ⟨U + 1, 0, none⟩ (.int .i64 2)).setCell ⟨U + 1, 1, none⟩ (.int .i64 0)).setCell ⟨U + 1, 2, none⟩ (.int .i64 (p1 : Int))).heap.size) := hide (by rw [ht2]; simp)
  clear hyI
  clear Y1
  have Y1 := Y1n
  clear Y1n
  obtain ⟨l0, l1, l2, l3, l4, n0, n1, n2, n3, n4⟩ := hub
  obtain ⟨b0, b1, b2, d0, d1, d2⟩ := hwb
  clear hr hy hsec hg HG4 HRB HUB HWB HSec HSz
  go_wp2_with fail
  clear l0 l1 l2 l3 l4 n0 n1 n2 n3 n4 b0 b1 b2 d0 d1 d2
  generalize (((v2w.setCell ⟨U, 1, none⟩ (.slice a2 y2.length c2)).setCell ⟨U + 1, 0, none⟩ (.int .i64 2)).setCell ⟨U + 1, 1, none⟩ (.int .i64 0)).setCell ⟨U + 1, 2, none⟩ (.int .i64 (p1 : Int)) = W2 at HG5 HRB5 HUB5 HWB5 HSec5 HSz5 HT2 Y2 Y1 ⊢
  cases ho : constsOk y2
  · have HE : Hid (dec T = .inr (2, p1)) := hide (by rw [HD1.out, dec2, HRS2.out]; simp only [ho, if_true, pl, HP1.out])
    have HO := hide ho
    clear ho
    refine (no_of (consts_any _ y2 2 p1 _ ⟨a2, c2, rfl⟩ (by exact M2.out)) HO.out).mono ?_
    rintro e w' ⟨rfl, hg'⟩
    exact ⟨rfl, by rw [HE.out]; exact ⟨rfl, HG5.out.trans hg'⟩⟩
  have HD2 : Hid (dec T = dec3 T y1 y2 r2) := hide (by rw [HD1.out, dec2, HRS2.out]; simp only [ho]; rfl)
  have HO2 := hide ho
  clear ho
  refine (yes_of (consts_any _ y2 2 p1 _ ⟨a2, c2, rfl⟩ (by exact M2.out)) HO2.out).mono ?_
  rintro e w' ⟨rfl, hgx⟩
  have HG4 := hide (HG5.out.trans hgx)
  have HRB := hide (HRB5.out.gr hgx)
  have HUB := hide (HUB5.out.gr hgx)
  have HWB := hide (HWB5.out.gr hgx)
  have HSec := hide (HSec5.out.gc (hgx.toGc (cb := U)) (by omega))
  have HSz : Hid (U + 3 ≤ w'.heap.size) := hide (Nat.le_trans HSz5.out hgx.size)
  have HTn : Hid (t2 ≤ w'.heap.size) := hide (Nat.le_trans HT2.out hgx.size)
  clear HT2
  have HT2 := HTn
  clear HTn ht2
  have Y1n := hide (Y1.out.kp (hgx.kp))
  clear Y1
  have Y1 := Y1n
  clear Y1n
  have Y2n := hide (Y2.out.kp (hgx.kp))
  clear Y2
  have Y2 := Y2n
  clear Y2n
  clear hgx HG5 HRB5 HUB5 HWB5 HSec5 HSz5
  generalize w' = X2 at HG4 HRB HUB HWB HSec HSz HT2 Y1 Y2 ⊢
  go_wp2_with fail
  obtain ⟨z3, hz3⟩ : ∃ z, z = X2.heap.size := ⟨_, rfl⟩
  have hzU3 : U + 3 ≤ z3 := by rw [hz3]; exact HSz.out
  have HZ3 := hide hz3
  clear hz3
  have hzz3 : t2 ≤ z3 := by rw [HZ3.out]; exact HT2.out
  refine (S.s3 (U + 2) z3 T p2 _ HSec.out (by omega) (Nat.le_of_eq HZ3.out)).mono ?_
  intro x v3w h
  rw [HR2.out] at h
  cases hr : rdSect 3 (rdList rdFunc) (r2) with
  | none =>
    rw [hr] at h
    obtain ⟨rfl, hg⟩ := h
    have hE : dec T = .inr (2, p2) := by rw [HD2.out, dec3, hr]; simp only [pl, HP2.out]
    exact ⟨rfl, by rw [hE]; exact ⟨rfl, gr_over HG4.out hg (by omega)⟩⟩
  | some q =>
  obtain ⟨y3, r3⟩ := q
  rw [hr] at h
  obtain ⟨v3, rfl, hy, hsec, hg⟩ := h
  obtain ⟨a3, c3, hv⟩ := hy.shape
  subst hv
  obtain ⟨t3, ht3⟩ : ∃ z, z = v3w.heap.size := ⟨_, rfl⟩
  have hzt3 : z3 ≤ t3 := by rw [HZ3.out, ht3]; exact hg.size
  have M3' := hide (show y3.length ≤ maxLen from hy.f.choose_spec.choose_spec.2.1)
  have hml3 : y3.length ≤ 9223372036854775807 := by have := M3'.out; unfold maxLen at this; omega
  have HR3 : Hid (T.drop (T.length - r3.length) = r3) := hide (by
    obtain ⟨xx, hx⟩ := rdSect_suffix hr
    exact drop_pl (p := p2) (HR2.out.trans hx))
  generalize hpp : T.length - r3.length = p3 at hsec HR3
  have HP3 := hide hpp
  clear hpp
  have HRS3 := hide hr
  have hub := HUB.out.gc hg (by omega)
  have hwb := HWB.out.gc hg (by omega)
  have HG5 := hide (gr_set (g := U + 1) (o := 2) (v := .int .i64 (p2 : Int)) (gr_set (g := U + 1) (o := 1) (v := .int .i64 0) (gr_set (g := U + 1) (o := 0) (v := .int .i64 2) (gr_set (g := U) (o := 2) (v := .slice a3 y3.length c3) (gr_over HG4.out hg (by omega)) (by omega)) (by omega)) (by omega)) (by omega))
  have HRB5 := hide (((((HRB.out.gc hg (by omega)).other (g := U) (o := 2) (v := .slice a3 y3.length c3) (by omega)).other (g := U + 1) (o := 0) (v := .int .i64 2) (by omega)).other (g := U + 1) (o := 1) (v := .int .i64 0) (by omega)).other (g := U + 1) (o := 2) (v := .int .i64 (p2 : Int)) (by omega))
  have HUB5 := hide ((((hub.set2 (.slice a3 y3.length c3)).other (g := U + 1) (o := 0) (v := .int .i64 2) (by omega)).other (g := U + 1) (o := 1) (v := .int .i64 0) (by omega)).other (g := U + 1) (o := 2) (v := .int .i64 (p2 : Int)) (by omega))
  have HWB5 := hide ((hwb.other (g := U) (o := 2) (v := .slice a3 y3.length c3) (by omega)).put (.int .i64 2) (.int .i64 0) (.int .i64 (p2 : Int)))
  have HSec5 := hide ((((Sec.set (g := U) (o := 2) (v := .slice a3 y3.length c3) hsec (by omega)).set (g := U + 1) (o := 0) (v := .int .i64 2) (by omega)).set (g := U + 1) (o := 1) (v := .int .i64 0) (by omega)).set (g := U + 1) (o := 2) (v := .int .i64 (p2 : Int)) (by omega))
  have HSz5 : Hid (U + 3 ≤ ((((v3w.setCell ⟨U, 2, none⟩ (.slice a3 y3.length c3)).setCell ⟨U + 1, 0, none⟩ (.int .i64 2)).setCell ⟨U + 1, 1, none⟩ (.int .i64 0)).setCell ⟨U + 1, 2, none⟩ (.int .i64 (p2 : Int))).heap.size) := hide (by have h1 := HSz.out; have h2 := hg.size; simp; omega)
  have Y1n := hide (((((Y1.out.kp (hg.kp (by omega))).kp (kp_set (g := U) (o := 2) (v := .slice a3 y3.length c3) (by omega))).kp (kp_set (g := U + 1) (o := 0) (v := .int .i64 2) (by omega))).kp (kp_set (g := U + 1) (o := 1) (v := .int .i64 0) (by omega))).kp (kp_set (g := U + 1) (o := 2) (v := .int .i64 (p2 : Int)) (by omega)))
  have Y2n := hide (((((Y2.out.kp (hg.kp (by omega))).kp (kp_set (g := U) (o := 2) (v := .slice a3 y3.length c3) (by omega))).kp (kp_set (g := U + 1) (o := 0) (v := .int .i64 2) (by omega))).kp (kp_set (g := U + 1) (o := 1) (v := .int .i64 0) (by omega))).kp (kp_set (g := U + 1) (o := 2) (v := .int .i64 (p2 : Int)) (by omega)))
  have hyI := Iv.of hy
  rw [← ht3] at hyI
  have Y3 := hide ((((hyI.kp (kp_set (g := U) (o := 2) (v := .slice a3 y3.length c3) (by omega))).kp (kp_set (g := U + 1) (o := 0) (v := .int .i64 2) (by omega))).kp (kp_set (g := U + 1) (o := 1) (v := .int .i64 0) (by omega))).kp (kp_set (g := U + 1) (o := 2) (v := .int .i64 (p2 : Int)) (by omega)))
  have HT3 : Hid (t3 ≤ ((((v3w.setCell ⟨U, 2, none⟩ (.slice a3 y3.length c3)).setCell ⟨U + 1, 0, none⟩ (.int .i64 2)).setCell ⟨U + 1, 1, none⟩ (.int .i64 0)).setCell ⟨U + 1, 2, none⟩ (.int .i64 (p2 : Int))).heap.size) := hide (by rw [ht3]; simp)
  clear hyI
  clear Y1
  have Y1 := Y1n
  clear Y1n
  clear Y2
  have Y2 := Y2n
  clear Y2n
  obtain ⟨l0, l1, l2, l3, l4, n0, n1, n2, n3, n4⟩ := hub
  obtain ⟨b0, b1, b2, d0, d1, d2⟩ := hwb
  clear hr hy hsec hg HG4 HRB HUB HWB HSec HSz
  go_wp2_with fail
  clear l0 l1 l2 l3 l4 n0 n1 n2 n3 n4 b0 b1 b2 d0 d1 d2
  generalize (((v3w.setCell ⟨U, 2, none⟩ (.slice a3 y3.length c3)).setCell ⟨U + 1, 0, none⟩ (.int .i64 2)).setCell ⟨U + 1, 1, none⟩ (.int .i64 0)).setCell ⟨U + 1, 2, none⟩ (.int .i64 (p2 : Int)) = W3 at HG5 HRB5 HUB5 HWB5 HSec5 HSz5 HT3 Y3 Y1 Y2 ⊢
  cases ho : funcsOk y3 y1.length
  · have HE : Hid (dec T = .inr (2, p2)) := hide (by rw [HD2.out, dec3, HRS3.out]; simp only [ho, if_true, pl, HP2.out])
    have HO := hide ho
    clear ho
    refine (no_of (funcs_any y3 _ y1.length 2 p2 _ (by exact Y3.out.funcs.f.to)) HO.out).mono ?_
    rintro e w' ⟨rfl, hg'⟩
    exact ⟨rfl, by rw [HE.out]; exact ⟨rfl, HG5.out.trans hg'⟩⟩
  have HD3 : Hid (dec T = dec4 T y1 y2 y3 r3) := hide (by rw [HD2.out, dec3, HRS3.out]; simp only [ho]; rfl)
  have HO3 := hide ho
  clear ho
  refine (yes_of (funcs_any y3 _ y1.length 2 p2 _ (by exact Y3.out.funcs.f.to)) HO3.out).mono ?_
  rintro e w' ⟨rfl, hgx⟩
  have HG4 := hide (HG5.out.trans hgx)
  have HRB := hide (HRB5.out.gr hgx)
  have HUB := hide (HUB5.out.gr hgx)
  have HWB := hide (HWB5.out.gr hgx)
  have HSec := hide (HSec5.out.gc (hgx.toGc (cb := U)) (by omega))
  have HSz : Hid (U + 3 ≤ w'.heap.size) := hide (Nat.le_trans HSz5.out hgx.size)
  have HTn : Hid (t3 ≤ w'.heap.size) := hide (Nat.le_trans HT3.out hgx.size)
  clear HT3
  have HT3 := HTn
  clear HTn ht3
  have Y1n := hide (Y1.out.kp (hgx.kp))
  clear Y1
  have Y1 := Y1n
  clear Y1n
  have Y2n := hide (Y2.out.kp (hgx.kp))
  clear Y2
  have Y2 := Y2n
  clear Y2n
  have Y3n := hide (Y3.out.kp (hgx.kp))
  clear Y3
  have Y3 := Y3n
  clear Y3n
  clear hgx HG5 HRB5 HUB5 HWB5 HSec5 HSz5
  generalize w' = X3 at HG4 HRB HUB HWB HSec HSz HT3 Y1 Y2 Y3 ⊢
  go_wp2_with fail
  obtain ⟨z4, hz4⟩ : ∃ z, z = X3.heap.size := ⟨_, rfl⟩
  have hzU4 : U + 3 ≤ z4 := by rw [hz4]; exact HSz.out
  have HZ4 := hide hz4
  clear hz4
  have hzz4 : t3 ≤ z4 := by rw [HZ4.out]; exact HT3.out
  refine (S.s4 (U + 2) z4 T p3 _ HSec.out (by omega) (Nat.le_of_eq HZ4.out)).mono ?_
  intro x v4w h
  rw [HR3.out] at h
  cases hr : rdSect 4 (rdList rdImp) (r3) with
  | none =>
    rw [hr] at h
    obtain ⟨rfl, hg⟩ := h
    have hE : dec T = .inr (2, p3) := by rw [HD3.out, dec4, hr]; simp only [pl, HP3.out]
    exact ⟨rfl, by rw [hE]; exact ⟨rfl, gr_over HG4.out hg (by omega)⟩⟩
  | some q =>
  obtain ⟨y4, r4⟩ := q
  rw [hr] at h
  obtain ⟨v4, rfl, hy, hsec, hg⟩ := h
  obtain ⟨a4, c4, hv⟩ := hy.shape
  subst hv
  obtain ⟨t4, ht4⟩ : ∃ z, z = v4w.heap.size := ⟨_, rfl⟩
  have hzt4 : z4 ≤ t4 := by rw [HZ4.out, ht4]; exact hg.size
  have M4' := hide (show y4.length ≤ maxLen from hy.f.choose_spec.choose_spec.2.1)
  have hml4 : y4.length ≤ 9223372036854775807 := by have := M4'.out; unfold maxLen at this; omega
  have HR4 : Hid (T.drop (T.length - r4.length) = r4) := hide (by
    obtain ⟨xx, hx⟩ := rdSect_suffix hr
    exact drop_pl (p := p3) (HR3.out.trans hx))
  generalize hpp : T.length - r4.length = p4 at hsec HR4
  have HP4 := hide hpp
  clear hpp
  have HRS4 := hide hr
  have hub := HUB.out.gc hg (by omega)
  have hwb := HWB.out.gc hg (by omega)
  have HG5 := hide (gr_set (g := U + 1) (o := 2) (v := .int .i64 (p3 : Int)) (gr_set (g := U + 1) (o := 1) (v := .int .i64 0) (gr_set (g := U + 1) (o := 0) (v := .int .i64 2) (gr_set (g := U) (o := 3) (v := .slice a4 y4.length c4) (gr_over HG4.out hg (by omega)) (by omega)) (by omega)) (by omega)) (by omega))
  have HRB5 := hide (((((HRB.out.gc hg (by omega)).other (g := U) (o := 3) (v := .slice a4 y4.length c4) (by omega)).other (g := U + 1) (o := 0) (v := .int .i64 2) (by omega)).other (g := U + 1) (o := 1) (v := .int .i64 0) (by omega)).other (g := U + 1) (o := 2) (v := .int .i64 (p3 : Int)) (by omega))
  have HUB5 := hide ((((hub.set3 (.slice a4 y4.length c4)).other (g := U + 1) (o := 0) (v := .int .i64 2) (by omega)).other (g := U + 1) (o := 1) (v := .int .i64 0) (by omega)).other (g := U + 1) (o := 2) (v := .int .i64 (p3 : Int)) (by omega))
  have HWB5 := hide ((hwb.other (g := U) (o := 3) (v := .slice a4 y4.length c4) (by omega)).put (.int .i64 2) (.int .i64 0) (.int .i64 (p3 : Int)))
  have HSec5 := hide ((((Sec.set (g := U) (o := 3) (v := .slice a4 y4.length c4) hsec (by omega)).set (g := U + 1) (o := 0) (v := .int .i64 2) (by omega)).set (g := U + 1) (o := 1) (v := .int .i64 0) (by omega)).set (g := U + 1) (o := 2) (v := .int .i64 (p3 : Int)) (by omega))
  have HSz5 : Hid (U + 3 ≤ ((((v4w.setCell ⟨U, 3, none⟩ (.slice a4 y4.length c4)).setCell ⟨U + 1, 0, none⟩ (.int .i64 2)).setCell ⟨U + 1, 1, none⟩ (.int .i64 0)).setCell ⟨U + 1, 2, none⟩ (.int .i64 (p3 : Int))).heap.size) := hide (by have h1 := HSz.out; have h2 := hg.size; simp; omega)
  have Y1n := hide (((((Y1.out.kp (hg.kp (by omega))).kp (kp_set (g := U) (o := 3) (v := .slice a4 y4.length c4) (by omega))).kp (kp_set (g := U + 1) (o := 0) (v := .int .i64 2) (by omega))).kp (kp_set (g := U + 1) (o := 1) (v := .int .i64 0) (by omega))).kp (kp_set (g := U + 1) (o := 2) (v := .int .i64 (p3 : Int)) (by omega)))
  have Y2n := hide (((((Y2.out.kp (hg.kp (by omega))).kp (kp_set (g := U) (o := 3) (v := .slice a4 y4.length c4) (by omega))).kp (kp_set (g := U + 1) (o := 0) (v := .int .i64 2) (by omega))).kp (kp_set (g := U + 1) (o := 1) (v := .int .i64 0) (by omega))).kp (kp_set (g := U + 1) (o := 2) (v := .int .i64 (p3 : Int)) (by omega)))
  have Y3n := hide (((((Y3.out.kp (hg.kp (by omega))).kp (kp_set (g := U) (o := 3) (v := .slice a4 y4.length c4) (by omega))).kp (kp_set (g := U + 1) (o := 0) (v := .int .i64 2) (by omega))).kp (kp_set (g := U + 1) (o := 1) (v := .int .i64 0) (by omega))).kp (kp_set (g := U + 1) (o := 2) (v := .int .i64 (p3 : Int)) (by omega)))
  have hyI := Iv.of hy
  rw [← ht4] at hyI
  have Y4 := hide ((((hyI.kp (kp_set (g := U) (o := 3) (v := .slice a4 y4.length c4) (by omega))).kp (kp_set (g := U + 1) (o := 0) (v := .int .i64 2) (by omega))).kp (kp_set (g := U + 1) (o := 1) (v := .int .i64 0) (by omega))).kp (kp_set (g := U + 1) (o := 2) (v := .int .i64 (p3 : Int)) (by omega)))
  have HT4 : Hid (t4 ≤ ((((v4w.setCell ⟨U, 3, none⟩ (.slice a4 y4.length c4)).setCell ⟨U + 1, 0, none⟩ (.int .i64 2)).setCell ⟨U + 1, 1, none⟩ (.int .i64 0)).setCell ⟨U + 1, 2, none⟩ (.int .i64 (p3 : Int))).heap.size) := hide (by rw [ht4]; simp)
  clear hyI
  clear Y1
  have Y1 := Y1n
  clear Y1n
  clear Y2
  have Y2 := Y2n
  clear Y2n
  clear Y3
  have Y3 := Y3n
  clear Y3n
  obtain ⟨l0, l1, l2, l3, l4, n0, n1, n2, n3, n4⟩ := hub
  obtain ⟨b0, b1, b2, d0, d1, d2⟩ := hwb
  clear hr hy hsec hg HG4 HRB HUB HWB HSec HSz
  go_wp2_with fail
  clear l0 l1 l2 l3 l4 n0 n1 n2 n3 n4 b0 b1 b2 d0 d1 d2
  generalize (((v4w.setCell ⟨U, 3, none⟩ (.slice a4 y4.length c4)).setCell ⟨U + 1, 0, none⟩ (.int .i64 2)).setCell ⟨U + 1, 1, none⟩ (.int .i64 0)).setCell ⟨U + 1, 2, none⟩ (.int .i64 (p3 : Int)) = W4 at HG5 HRB5 HUB5 HWB5 HSec5 HSz5 HT4 Y4 Y1 Y2 Y3 ⊢
  cases ho : importsOk y4 y1.length
  · have HE : Hid (dec T = .inr (2, p3)) := hide (by rw [HD3.out, dec4, HRS4.out]; simp only [ho, if_true, pl, HP3.out])
    have HO := hide ho
    clear ho
    refine (no_of (imports_any y4 _ y1.length 2 p3 _ (by exact Y4.out.imps.f.to)) HO.out).mono ?_
    rintro e w' ⟨rfl, hg'⟩
    exact ⟨rfl, by rw [HE.out]; exact ⟨rfl, HG5.out.trans hg'⟩⟩
  have HD4 : Hid (dec T = dec5 T y1 y2 y3 y4 r4) := hide (by rw [HD3.out, dec4, HRS4.out]; simp only [ho]; rfl)
  have HO4 := hide ho
  clear ho
  refine (yes_of (imports_any y4 _ y1.length 2 p3 _ (by exact Y4.out.imps.f.to)) HO4.out).mono ?_
  rintro e w' ⟨rfl, hgx⟩
  have HG4 := hide (HG5.out.trans hgx)
  have HRB := hide (HRB5.out.gr hgx)
  have HUB := hide (HUB5.out.gr hgx)
  have HWB := hide (HWB5.out.gr hgx)
  have HSec := hide (HSec5.out.gc (hgx.toGc (cb := U)) (by omega))
  have HSz : Hid (U + 3 ≤ w'.heap.size) := hide (Nat.le_trans HSz5.out hgx.size)
  have HTn : Hid (t4 ≤ w'.heap.size) := hide (Nat.le_trans HT4.out hgx.size)
  clear HT4
  have HT4 := HTn
  clear HTn ht4
  have Y1n := hide (Y1.out.kp (hgx.kp))
  clear Y1
  have Y1 := Y1n
  clear Y1n
  have Y2n := hide (Y2.out.kp (hgx.kp))
  clear Y2
  have Y2 := Y2n
  clear Y2n
  have Y3n := hide (Y3.out.kp (hgx.kp))
  clear Y3
  have Y3 := Y3n
  clear Y3n
  have Y4n := hide (Y4.out.kp (hgx.kp))
  clear Y4
  have Y4 := Y4n
  clear Y4n
  clear hgx HG5 HRB5 HUB5 HWB5 HSec5 HSz5
  generalize w' = X4 at HG4 HRB HUB HWB HSec HSz HT4 Y1 Y2 Y3 Y4 ⊢
  go_wp2_with fail
  obtain ⟨z5, hz5⟩ : ∃ z, z = X4.heap.size := ⟨_, rfl⟩
  have hzU5 : U + 3 ≤ z5 := by rw [hz5]; exact HSz.out
  have HZ5 := hide hz5
  clear hz5
  have hzz5 : t4 ≤ z5 := by rw [HZ5.out]; exact HT4.out
  refine (S.s5 (U + 2) z5 T p4 _ HSec.out (by omega) (Nat.le_of_eq HZ5.out)).mono ?_
  intro x v5w h
  rw [HR4.out] at h
  cases hr : rdSect 5 (rdList rdExp) (r4) with
  | none =>
    rw [hr] at h
    obtain ⟨rfl, hg⟩ := h
    have hE : dec T = .inr (2, p4) := by rw [HD4.out, dec5, hr]; simp only [pl, HP4.out]
    exact ⟨rfl, by rw [hE]; exact ⟨rfl, gr_over HG4.out hg (by omega)⟩⟩
  | some q =>
  obtain ⟨y5, r5⟩ := q
  rw [hr] at h
  obtain ⟨v5, rfl, hy, hsec, hg⟩ := h
  obtain ⟨a5, c5, hv⟩ := hy.shape
  subst hv
  obtain ⟨t5, ht5⟩ : ∃ z, z = v5w.heap.size := ⟨_, rfl⟩
  have hzt5 : z5 ≤ t5 := by rw [HZ5.out, ht5]; exact hg.size
  have M5' := hide (show y5.length ≤ maxLen from hy.f.choose_spec.choose_spec.2.1)
  have hml5 : y5.length ≤ 9223372036854775807 := by have := M5'.out; unfold maxLen at this; omega
  have HR5 : Hid (T.drop (T.length - r5.length) = r5) := hide (by
    obtain ⟨xx, hx⟩ := rdSect_suffix hr
    exact drop_pl (p := p4) (HR4.out.trans hx))
  generalize hpp : T.length - r5.length = p5 at hsec HR5
  have HP5 := hide hpp
  clear hpp
  have HRS5 := hide hr
  have hub := HUB.out.gc hg (by omega)
  have hwb := HWB.out.gc hg (by omega)
  have HG5 := hide (gr_set (g := U + 1) (o := 2) (v := .int .i64 (p4 : Int)) (gr_set (g := U + 1) (o := 1) (v := .int .i64 0) (gr_set (g := U + 1) (o := 0) (v := .int .i64 2) (gr_set (g := U) (o := 4) (v := .slice a5 y5.length c5) (gr_over HG4.out hg (by omega)) (by omega)) (by omega)) (by omega)) (by omega))
  have HRB5 := hide (((((HRB.out.gc hg (by omega)).other (g := U) (o := 4) (v := .slice a5 y5.length c5) (by omega)).other (g := U + 1) (o := 0) (v := .int .i64 2) (by omega)).other (g := U + 1) (o := 1) (v := .int .i64 0) (by omega)).other (g := U + 1) (o := 2) (v := .int .i64 (p4 : Int)) (by omega))
  have HUB5 := hide ((((hub.set4 (.slice a5 y5.length c5)).other (g := U + 1) (o := 0) (v := .int .i64 2) (by omega)).other (g := U + 1) (o := 1) (v := .int .i64 0) (by omega)).other (g := U + 1) (o := 2) (v := .int .i64 (p4 : Int)) (by omega))
  have HWB5 := hide ((hwb.other (g := U) (o := 4) (v := .slice a5 y5.length c5) (by omega)).put (.int .i64 2) (.int .i64 0) (.int .i64 (p4 : Int)))
  have HSec5 := hide ((((Sec.set (g := U) (o := 4) (v := .slice a5 y5.length c5) hsec (by omega)).set (g := U + 1) (o := 0) (v := .int .i64 2) (by omega)).set (g := U + 1) (o := 1) (v := .int .i64 0) (by omega)).set (g := U + 1) (o := 2) (v := .int .i64 (p4 : Int)) (by omega))
  have HSz5 : Hid (U + 3 ≤ ((((v5w.setCell ⟨U, 4, none⟩ (.slice a5 y5.length c5)).setCell ⟨U + 1, 0, none⟩ (.int .i64 2)).setCell ⟨U + 1, 1, none⟩ (.int .i64 0)).setCell ⟨U + 1, 2, none⟩ (.int .i64 (p4 : Int))).heap.size) := hide (by have h1 := HSz.out; have h2 := hg.size; simp; omega)
  have Y1n := hide (((((Y1.out.kp (hg.kp (by omega))).kp (kp_set (g := U) (o := 4) (v := .slice a5 y5.length c5) (by omega))).kp (kp_set (g := U + 1) (o := 0) (v := .int .i64 2) (by omega))).kp (kp_set (g := U + 1) (o := 1) (v := .int .i64 0) (by omega))).kp (kp_set (g := U + 1) (o := 2) (v := .int .i64 (p4 : Int)) (by omega)))
  have Y2n := hide (((((Y2.out.kp (hg.kp (by omega))).kp (kp_set (g := U) (o := 4) (v := .slice a5 y5.length c5) (by omega))).kp (kp_set (g := U + 1) (o := 0) (v := .int .i64 2) (by omega))).kp (kp_set (g := U + 1) (o := 1) (v := .int .i64 0) (by omega))).kp (kp_set (g := U + 1) (o := 2) (v := .int .i64 (p4 : Int)) (by omega)))
  have Y3n := hide (((((Y3.out.kp (hg.kp (by omega))).kp (kp_set (g := U) (o := 4) (v := .slice a5 y5.length c5) (by omega))).kp (kp_set (g := U + 1) (o := 0) (v := .int .i64 2) (by omega))).kp (kp_set (g := U + 1) (o := 1) (v := .int .i64 0) (by omega))).kp (kp_set (g := U + 1) (o := 2) (v := .int .i64 (p4 : Int)) (by omega)))
  have Y4n := hide (((((Y4.out.kp (hg.kp (by omega))).kp (kp_set (g := U) (o := 4) (v := .slice a5 y5.length c5) (by omega))).kp (kp_set (g := U + 1) (o := 0) (v := .int .i64 2) (by omega))).kp (kp_set (g := U + 1) (o := 1) (v := .int .i64 0) (by omega))).kp (kp_set (g := U + 1) (o := 2) (v := .int .i64 (p4 : Int)) (by omega)))
  have hyI := Iv.of hy
  rw [← ht5] at hyI
  have Y5 := hide ((((hyI.kp (kp_set (g := U) (o := 4) (v := .slice a5 y5.length c5) (by omega))).kp (kp_set (g := U + 1) (o := 0) (v := .int .i64 2) (by omega))).kp (kp_set (g := U + 1) (o := 1) (v := .int .i64 0) (by omega))).kp (kp_set (g := U + 1) (o := 2) (v := .int .i64 (p4 : Int)) (by omega)))
  have HT5 : Hid (t5 ≤ ((((v5w.setCell ⟨U, 4, none⟩ (.slice a5 y5.length c5)).setCell ⟨U + 1, 0, none⟩ (.int .i64 2)).setCell ⟨U + 1, 1, none⟩ (.int .i64 0)).setCell ⟨U + 1, 2, none⟩ (.int .i64 (p4 : Int))).heap.size) := hide (by rw [ht5]; simp)
  clear hyI
  clear Y1
  have Y1 := Y1n
  clear Y1n
  clear Y2
  have Y2 := Y2n
  clear Y2n
  clear Y3
  have Y3 := Y3n
  clear Y3n
  clear Y4
  have Y4 := Y4n
  clear Y4n
  obtain ⟨l0, l1, l2, l3, l4, n0, n1, n2, n3, n4⟩ := hub
  obtain ⟨b0, b1, b2, d0, d1, d2⟩ := hwb
  clear hr hy hsec hg HG4 HRB HUB HWB HSec HSz
  go_wp2_with fail
  clear l0 l1 l2 l3 l4 n0 n1 n2 n3 n4 b0 b1 b2 d0 d1 d2
  generalize (((v5w.setCell ⟨U, 4, none⟩ (.slice a5 y5.length c5)).setCell ⟨U + 1, 0, none⟩ (.int .i64 2)).setCell ⟨U + 1, 1, none⟩ (.int .i64 0)).setCell ⟨U + 1, 2, none⟩ (.int .i64 (p4 : Int)) = W5 at HG5 HRB5 HUB5 HWB5 HSec5 HSz5 HT5 Y5 Y1 Y2 Y3 Y4 ⊢
  have HL : Hid ((y3.length : Int) ≤ 1000000) := hide (by have := HO3.out; simp [funcsOk, wB] at this; omega)
  cases ho : exportsOk y5 y3.length
  · have HE : Hid (dec T = .inr (2, p4)) := hide (by rw [HD4.out, dec5, HRS5.out]; simp only [ho, if_true, pl, HP4.out])
    have HO := hide ho
    clear ho
    refine (no_of (exports_any y5 _ y3.length 2 p4 _ (by omega) (by exact HL.out) (by exact Y5.out.exps.f.to)) HO.out).mono ?_
    rintro e w' ⟨rfl, hg'⟩
    exact ⟨rfl, by rw [HE.out]; exact ⟨rfl, HG5.out.trans hg'⟩⟩
  have HO5 := hide ho
  clear ho
  refine (yes_of (exports_any y5 _ y3.length 2 p4 _ (by omega) (by exact HL.out) (by exact Y5.out.exps.f.to)) HO5.out).mono ?_
  rintro e w' ⟨rfl, hgx⟩
  have HG4 := hide (HG5.out.trans hgx)
  have HRB := hide (HRB5.out.gr hgx)
  have HUB := hide (HUB5.out.gr hgx)
  have HWB := hide (HWB5.out.gr hgx)
  have HSec := hide (HSec5.out.gc (hgx.toGc (cb := U)) (by omega))
  have HSz : Hid (U + 3 ≤ w'.heap.size) := hide (Nat.le_trans HSz5.out hgx.size)
  have HTn : Hid (t5 ≤ w'.heap.size) := hide (Nat.le_trans HT5.out hgx.size)
  clear HT5
  have HT5 := HTn
  clear HTn ht5
  have Y1n := hide (Y1.out.kp (hgx.kp))
  clear Y1
  have Y1 := Y1n
  clear Y1n
  have Y2n := hide (Y2.out.kp (hgx.kp))
  clear Y2
  have Y2 := Y2n
  clear Y2n
  have Y3n := hide (Y3.out.kp (hgx.kp))
  clear Y3
  have Y3 := Y3n
  clear Y3n
  have Y4n := hide (Y4.out.kp (hgx.kp))
  clear Y4
  have Y4 := Y4n
  clear Y4n
  have Y5n := hide (Y5.out.kp (hgx.kp))
  clear Y5
  have Y5 := Y5n
  clear Y5n
  clear hgx HG5 HRB5 HUB5 HWB5 HSec5 HSz5
  generalize w' = X5 at HG4 HRB HUB HWB HSec HSz HT5 Y1 Y2 Y3 Y4 Y5 ⊢
  have HD5 : Hid (dec T = if r5 = [] then .inl ⟨y1, y2, y3, y4, y5⟩ else .inr (2, pl T r5)) := hide (by rw [HD4.out, dec5, HRS5.out]; simp only [HO5.out]; rfl)
  have hp5 := HP5.out
  have hTs := HSZ.out
  obtain ⟨⟨sx, e0, ex⟩, el, ep, he1, f1⟩ := HSec.out
  clear e0 ex el ep f1
  by_cases hr5 : r5 = []
  · have hq : p5 = s.size := by rw [hr5] at hp5; simp at hp5; omega
    have hbq : ((p5 : Int) == (s.size : Int)) = true := by rw [hq]; simp
    have hbq2 : (p5 == s.size) = true := by rw [hq]; simp
    have HE : Hid (dec T = .inl ⟨y1, y2, y3, y4, y5⟩) := hide (by rw [HD5.out, if_pos hr5])
    clear hq hp5 hTs hr5
    go_wp2
    go_region_held3 (fun w' => w'.cell? ⟨U + 2, 1, none⟩ = some (.int .i64 p5)) (first | exact hg'.cell (by assumption) (by simp) | go_keep) (first | (go_at_call 76; refine (unless_yes _ _ _).mono ?_; rintro e w' ⟨rfl, hg'⟩))
    have hgx := Gr.trans (Gr.drew (Gr.refl _)) hg'
    obtain ⟨l0, l1, l2, l3, l4, n0, n1, n2, n3, n4⟩ := HUB.out.gr hgx
    obtain ⟨m0, m1, m2, m3, m4, k0, k1, k2, k3, k4⟩ := HRB.out.gr hgx
    have Z1 := hide (Y1.out.kp hgx.kp)
    have Z2 := hide (Y2.out.kp hgx.kp)
    have Z3 := hide (Y3.out.kp hgx.kp)
    have Z4 := hide (Y4.out.kp hgx.kp)
    have Z5 := hide (Y5.out.kp hgx.kp)
    have HGF := hide (HG4.out.trans hgx)
    have hne : ¬ w.heap.size = U := by omega
    have hne2 : ¬ U = w.heap.size := by omega
    clear hg' hgx he1 hbq hbq2
    go_wp2
    exact bodyPost_ret (v := .agg #[.slice a1 y1.length c1, .slice a2 y2.length c2, .slice a3 y3.length c3, .slice a4 y4.length c4, .slice a5 y5.length c5]) (by simp [results, Tryd.results41, go_sem, m0, m1, m2, m3, m4]) rfl (by
      rw [HE.out]
      exact ⟨_, U + 3, rfl, by omega, ⟨_, _, _, _, _, z1, t1, z2, t2, z3, t3, z4, t4, z5, t5, rfl, ⟨by omega, by omega, by omega, by omega, by omega, by omega, by omega, by omega, by omega, by omega⟩, ((((((Z1.out).kp (kp_set (by omega))).kp (kp_set (by omega))).kp (kp_set (by omega))).kp (kp_set (by omega))).kp (kp_set (by omega))) , ((((((Z2.out).kp (kp_set (by omega))).kp (kp_set (by omega))).kp (kp_set (by omega))).kp (kp_set (by omega))).kp (kp_set (by omega))) , ((((((Z3.out).kp (kp_set (by omega))).kp (kp_set (by omega))).kp (kp_set (by omega))).kp (kp_set (by omega))).kp (kp_set (by omega))) , ((((((Z4.out).kp (kp_set (by omega))).kp (kp_set (by omega))).kp (kp_set (by omega))).kp (kp_set (by omega))).kp (kp_set (by omega))) , ((((((Z5.out).kp (kp_set (by omega))).kp (kp_set (by omega))).kp (kp_set (by omega))).kp (kp_set (by omega))).kp (kp_set (by omega)))⟩, gr_set (gr_set (gr_set (gr_set (gr_set HGF.out (Nat.le_refl _)) (Nat.le_refl _)) (Nat.le_refl _)) (Nat.le_refl _)) (Nat.le_refl _)⟩)
  · have hq : ¬ p5 = s.size := by
      have h1 : 1 ≤ r5.length := by cases r5 with | nil => exact absurd rfl hr5 | cons b l => simp
      omega
    have hbq : ((p5 : Int) == (s.size : Int)) = false := by rw [beq_eq_false_iff_ne]; omega
    have hbq2 : (p5 == s.size) = false := by rw [beq_eq_false_iff_ne]; exact hq
    have HE : Hid (dec T = .inr (2, p5)) := hide (by rw [HD5.out, if_neg hr5]; simp only [pl, HP5.out])
    clear hq hp5 hTs hr5
    go_wp2
    go_region_with (first | (go_at_call 76; refine (unless_no _ _ _).mono ?_; rintro e w' ⟨rfl, hg'⟩; refine left_region ?_))
    all_goals exact ⟨rfl, by rw [HE.out]; exact ⟨rfl, HG4.out.trans (Gr.trans (Gr.drew (Gr.refl _)) hg')⟩⟩
end Go.Proofs.YtkgncijcnlfhiaaDoor

