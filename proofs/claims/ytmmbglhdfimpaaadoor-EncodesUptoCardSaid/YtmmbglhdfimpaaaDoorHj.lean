import Derived.Test.YtmmbglhdfimpaaaDoorHi
namespace Go.Proofs.YtmmbglhdfimpaaaDoor
set_option linter.unusedVariables false
set_option linter.unusedSimpArgs false
open Go.RowKit
set_option maxRecDepth 100000 in
set_option maxHeartbeats 2000000 in
theorem book_empty (db : Nat) (w : World) (vo : Value) (h : w.heap[db]? = some (.cells (deskArr vo) 39 (0, 0))) :
    Calls Tryd.prog 19 #[.pointer (some ⟨db, 1, none⟩)] w fun x w' => x = .returned (.bool true) ∧ w' = w := by
  have c2 : w.cell? ⟨db, 2, none⟩ = some (.slice none 0 0) := by rw [heap_cell h]; rfl
  have c4 : w.cell? ⟨db, 4, none⟩ = some (.slice none 0 0) := by rw [heap_cell h]; rfl
  have c6 : w.cell? ⟨db, 6, none⟩ = some (.slice none 0 0) := by rw [heap_cell h]; rfl
  have c7 : w.cell? ⟨db, 7, none⟩ = some (.slice none 0 0) := by rw [heap_cell h]; rfl
  have c8 : w.cell? ⟨db, 8, none⟩ = some (.slice none 0 0) := by rw [heap_cell h]; rfl
  have c9 : w.cell? ⟨db, 9, none⟩ = some (.slice none 0 0) := by rw [heap_cell h]; rfl
  clear h
  go_enter Tryd.func19, Tryd.ntmps19
  go_wp2_with fail
  go_loopw [3] (fun i wr => i = .int .i64 0 ∧ w = wr) (fun _ _ => 0)
  case atStart => exact ⟨rfl, rfl⟩
  case round =>
    obtain ⟨rfl, rfl⟩ := hrel
    go_wp2_with fail
    go_loopw [5] (fun i wr => i = .int .i64 0 ∧ w = wr) (fun _ _ => 0)
    case atStart => exact ⟨rfl, rfl⟩
    case round =>
      obtain ⟨rfl, rfl⟩ := hrel
      go_wp2_with fail
      go_loopw [7] (fun i wr => i = .int .i64 0 ∧ w = wr) (fun _ _ => 0)
      case atStart => exact ⟨rfl, rfl⟩
      case round =>
        obtain ⟨rfl, rfl⟩ := hrel
        go_wp2_with fail
        go_loopw [9] (fun i wr => i = .int .i64 0 ∧ w = wr) (fun _ _ => 0)
        case atStart => exact ⟨rfl, rfl⟩
        case round =>
          obtain ⟨rfl, rfl⟩ := hrel
          go_wp2_with fail
          go_loopw [12] (fun i wr => i = .int .i64 0 ∧ w = wr) (fun _ _ => 0)
          case atStart => exact ⟨rfl, rfl⟩
          case round =>
            obtain ⟨rfl, rfl⟩ := hrel
            go_wp2_with fail
            go_loopw [14] (fun i wr => i = .int .i64 0 ∧ w = wr) (fun _ _ => 0)
            case atStart => exact ⟨rfl, rfl⟩
            case round =>
              obtain ⟨rfl, rfl⟩ := hrel
              go_wp2_with fail
              go_ret
              exact ⟨rfl, rfl⟩

set_option maxRecDepth 100000 in
set_option maxHeartbeats 2000000 in
theorem holds_any (hi db : Nat) (vo : Value) (os : List Nat) (w : World) (h : DeskAt hi w db vo os) :
    Calls Tryd.prog 8 #[.pointer (some ⟨db, 0, none⟩)] w fun x w' => x = .returned (.bool true) ∧ w' = w := by
  have hnot : ∀ (x : Bool) (w : World), (Op.unary .not (.bool x)).run Tryd.prog w = .ok (.bool (!x)) w := fun _ _ => rfl
  obtain ⟨⟨ao, cap, hv⟩, hm⟩ := own_form h.own
  have hc0 : w.cell? ⟨db, 0, none⟩ = some (.slice ao os.length cap) := by rw [heap_cell h.box, ← hv]; rfl
  have HRow : ∀ i o, os[i]? = some o → Hid (∃ g, ao = some ⟨g, 0, none⟩ ∧ w.cell? ⟨g, i, none⟩ = some (.pointer (some ⟨o, 0, none⟩)) ∧ ∃ lo V S, OwnAt lo w o true V S) := fun i o hi => hide (by
    have hil : i < os.length := (List.getElem?_eq_some_iff.1 hi).1
    obtain ⟨g, k1, k2, ⟨cap', k3⟩, k4⟩ := own_at h.own (j := i) (by omega)
    rw [hv] at k3
    simp only [Value.slice.injEq] at k3
    rw [Nat.zero_add] at k4
    obtain ⟨lo, V, S, w1, m1, m2, _⟩ := (h.kept o (List.mem_of_getElem? hi)).is
    exact ⟨g, k3.1, by rw [k4, List.getElem?_map, hi]; rfl, lo, V, S, m1.keep m2⟩)
  have HB := hide h.box
  unfold maxLen at hm
  clear hv h
  go_enter Tryd.func8, Tryd.ntmps8
  go_wp2_with fail
  go_loopw [3] (fun i wr => ∃ k : Nat, k ≤ os.length ∧ i = .int .i64 k ∧ w = wr) (fun i _ => os.length - (intOf i).toNat)
  case atStart => exact ⟨0, Nat.zero_le _, rfl, rfl⟩
  case round =>
    obtain ⟨k, hk, rfl, rfl⟩ := hrel
    by_cases hlt : k < os.length
    · obtain ⟨o, ho⟩ := getElem?_lt hlt
      obtain ⟨g, rfl, hrow, lo, V, S, hok⟩ := (HRow k o ho).out
      have HOK := hide hok
      clear hok ho HRow
      go_wp2_with (go_at_call 18; refine (spoilt_any lo o V S w HOK.out).mono ?_; rintro e w' ⟨rfl, hw'⟩; obtain rfl := hw'.symm)
      go_roundw
      case rel => exact ⟨k + 1, by omega, by go_num, by first | rfl | trivial⟩
      case measure => simp [intOf]; omega
    · have hkk : k = os.length := by omega
      subst hkk
      clear hlt hk HRow
      go_wp2_with (go_at_call 19; refine (book_empty db w vo HB.out).mono ?_; rintro e w' ⟨rfl, hw'⟩; obtain rfl := hw'.symm)
      go_ret
      exact ⟨rfl, rfl⟩
theorem DeskAt.new {w : World} {db : Nat} (h : w.heap[db]? = some (.cells (deskArr nS) 39 (0, 0))) : DeskAt w.heap.size w db nS [] :=
  ⟨h, World.ownsRow_nil _ _ _ _, block_lt h, fun g hg => by simp [nS, Value.ownBlock] at hg, fun _ h => (List.not_mem_nil h).elim⟩
def lawW (w : World) (a1 a2 a3 a4 a5 b1 b2 b3 b4 b5 : Value) : World := ((w.alloc (.cells #[a1, a2, a3, a4, a5] 28)).alloc (.cells #[b1, b2, b3, b4, b5] 28)).alloc (.cells #[nS, zI, nS, nS, nS, nS, nS, nS, nS, nS, nS] 39)
theorem lawW_eq (w : World) (a1 a2 a3 a4 a5 b1 b2 b3 b4 b5 : Value) : ((w.alloc (.cells #[a1, a2, a3, a4, a5] 28)).alloc (.cells #[b1, b2, b3, b4, b5] 28)).alloc (.cells #[nS, zI, nS, nS, nS, nS, nS, nS, nS, nS, nS] 39) = lawW w a1 a2 a3 a4 a5 b1 b2 b3 b4 b5 := rfl
theorem lawW_facts (w : World) (a1 a2 a3 a4 a5 b1 b2 b3 b4 b5 : Value) : Gr w (lawW w a1 a2 a3 a4 a5 b1 b2 b3 b4 b5) ∧ (lawW w a1 a2 a3 a4 a5 b1 b2 b3 b4 b5).heap[w.heap.size]? = some (.cells #[a1, a2, a3, a4, a5] 28 (0, 0)) ∧ (lawW w a1 a2 a3 a4 a5 b1 b2 b3 b4 b5).heap[w.heap.size + 1]? = some (.cells #[b1, b2, b3, b4, b5] 28 (0, 0)) ∧ (lawW w a1 a2 a3 a4 a5 b1 b2 b3 b4 b5).heap[w.heap.size + 2]? = some (.cells (deskArr nS) 39 (0, 0)) ∧ (lawW w a1 a2 a3 a4 a5 b1 b2 b3 b4 b5).heap.size = w.heap.size + 3 := by
  have hs1 : (w.alloc (.cells #[a1, a2, a3, a4, a5] 28)).heap.size = w.heap.size + 1 := by simp
  have hs2 : ((w.alloc (.cells #[a1, a2, a3, a4, a5] 28)).alloc (.cells #[b1, b2, b3, b4, b5] 28)).heap.size = w.heap.size + 2 := by simp
  have h1 := heap_new w (.cells #[a1, a2, a3, a4, a5] 28)
  have h2 := heap_new (w.alloc (.cells #[a1, a2, a3, a4, a5] 28)) (.cells #[b1, b2, b3, b4, b5] 28)
  have h3 := heap_new ((w.alloc (.cells #[a1, a2, a3, a4, a5] 28)).alloc (.cells #[b1, b2, b3, b4, b5] 28)) (.cells #[nS, zI, nS, nS, nS, nS, nS, nS, nS, nS, nS] 39)
  rw [hs1] at h2
  rw [hs2] at h3
  have g2 := Gr.alloc (Gr.refl (w.alloc (.cells #[a1, a2, a3, a4, a5] 28))) (.cells #[b1, b2, b3, b4, b5] 28)
  have g3 := Gr.alloc (Gr.refl ((w.alloc (.cells #[a1, a2, a3, a4, a5] 28)).alloc (.cells #[b1, b2, b3, b4, b5] 28))) (.cells #[nS, zI, nS, nS, nS, nS, nS, nS, nS, nS, nS] 39)
  exact ⟨(((Gr.refl w).alloc _).alloc _).alloc _, ((g2.trans g3).block _ (by omega) (by simp)).trans h1, (g3.block _ (by omega) (by simp)).trans h2, h3, by simp [lawW]⟩
def LawR (w : World) (x : Ending) (w' : World) : Prop := x = .returned (.bool true) ∧ Below w.heap.size w w'

set_option maxRecDepth 100000 in
set_option maxHeartbeats 4000000 in
theorem encodes_law (u v : PUnit) (vu vv : Value) (w : World) (hU : RUnit w vu u) (hV : RUnit w vv v) (hFu : Fits u) (hFv : Fits v) (hWu : Few u) (hWv : Few v) (hT : Tab w) (h0 : 0 < w.heap.size) :
    Calls Tryd.prog 3 #[vu, vv] w (LawR w) := by
  have HU := hide hU
  have HV := hide hV
  obtain ⟨v1, v2, v3, v4, v5, rfl, h1, h2, h3, h4, h5⟩ := hU
  obtain ⟨a1, q1, rfl⟩ := h1.shape
  obtain ⟨a2, q2, rfl⟩ := h2.shape
  obtain ⟨a3, q3, rfl⟩ := h3.shape
  obtain ⟨a4, q4, rfl⟩ := h4.shape
  obtain ⟨a5, q5, rfl⟩ := h5.shape
  obtain ⟨v1, v2, v3, v4, v5, rfl, j1, j2, j3, j4, j5⟩ := hV
  obtain ⟨b1, r1, rfl⟩ := j1.shape
  obtain ⟨b2, r2, rfl⟩ := j2.shape
  obtain ⟨b3, r3, rfl⟩ := j3.shape
  obtain ⟨b4, r4, rfl⟩ := j4.shape
  obtain ⟨b5, r5, rfl⟩ := j5.shape
  have HE := hide (lawW_facts w (.slice a1 u.shapes.length q1) (.slice a2 u.consts.length q2) (.slice a3 u.funcs.length q3) (.slice a4 u.imports.length q4) (.slice a5 u.exports.length q5) (.slice b1 v.shapes.length r1) (.slice b2 v.consts.length r2) (.slice b3 v.funcs.length r3) (.slice b4 v.imports.length r4) (.slice b5 v.exports.length r5))
  have HFU := hide hFu
  have HFV := hide hFv
  have HWU := hide hWu
  have HWV := hide hWv
  have HT := hide hT
  clear h1 h2 h3 h4 h5 j1 j2 j3 j4 j5 hFu hFv hWu hWv hT
  go_enter Tryd.func3, Tryd.ntmps3
  go_wp2_with fail
  rw [lawW_eq]
  obtain ⟨hg, hu, hv, hdk, hs⟩ := HE.out
  clear HE
  generalize lawW w (.slice a1 u.shapes.length q1) (.slice a2 u.consts.length q2) (.slice a3 u.funcs.length q3) (.slice a4 u.imports.length q4) (.slice a5 u.exports.length q5) (.slice b1 v.shapes.length r1) (.slice b2 v.consts.length r2) (.slice b3 v.funcs.length r3) (.slice b4 v.imports.length r4) (.slice b5 v.exports.length r5) = W at hg hu hv hdk hs ⊢
  have HB0 := hide ((Below.refl w.heap.size w).grown hg (Nat.le_refl _) (by simp))
  have HHU := hide hu
  have HHV := hide hv
  refine (encode_desk (w.heap.size + 2) nS [] u _ W (DeskAt.new hdk) (HU.out.gr hg) HFU.out HWU.out (HT.out.gr hg) (by simp)).mono ?_
  rintro x w1 ⟨vo1, o1, rfl, hd1, hb1⟩
  have HD1 := hide hd1
  have HB1 := hide hb1
  have hv1 := (hb1.block (w.heap.size + 1) (by omega)).trans HHV.out
  obtain ⟨e0, e1, e2, e3, e4⟩ := heap_box5 hv1
  clear hd1 hb1 hv1 hu hv hdk hg
  go_wp2_with fail
  refine (encode_desk (w.heap.size + 2) vo1 _ v _ w1 HD1.out (HV.out.low (HB0.out.trans (HB1.out.mono (by omega)))) HFV.out HWV.out (HT.out.low h0 (HB0.out.trans (HB1.out.mono (by omega)))) (by simp)).mono ?_
  rintro x w2 ⟨vo2, o2, rfl, hd2, hb2⟩
  have HD2 := hide hd2
  have HB2 := hide (HB1.out.trans hb2)
  have hu2 := (HB2.out.block w.heap.size (by omega)).trans HHU.out
  clear hd2 hb2 e0 e1 e2 e3 e4 HD1 HB1
  obtain ⟨e0, e1, e2, e3, e4⟩ := heap_box5 hu2
  clear hu2
  go_wp2_with fail
  refine (encode_desk (w.heap.size + 2) vo2 _ u _ w2 HD2.out (HU.out.low (HB0.out.trans (HB2.out.mono (by omega)))) HFU.out HWU.out (HT.out.low h0 (HB0.out.trans (HB2.out.mono (by omega)))) (by simp)).mono ?_
  rintro x w3 ⟨vo3, o3, rfl, hd3, hb3⟩
  have HD3 := hide hd3
  have HB3 := hide (HB0.out.trans ((HB2.out.trans hb3).mono (by omega)))
  clear hd3 hb3 e0 e1 e2 e3 e4 HD2 HB2
  go_wp2_with (go_at_call 8; refine (holds_any _ _ _ _ _ HD3.out).mono ?_; rintro e w' ⟨rfl, hw'⟩; obtain rfl := hw'.symm)
  go_ret
  exact ⟨rfl, HB3.out⟩
end Go.Proofs.YtmmbglhdfimpaaaDoor
