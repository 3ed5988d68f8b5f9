import Derived.Defers
import Derived.Recover
import Derived.Test.YtkgncijcnlfhiabGreatE0
import Derived.Test.YtkgncijcnlfhiabGreatV5
namespace Go.Proofs.YtkgncijcnlfhiabGreat
set_option linter.unusedVariables false
set_option linter.unusedSimpArgs false
open Go.RowKit

theorem asRef (v : Value) (w : World) : (Instr.typeAssert (.iface 62 v) 20 62 true).run Tryz.prog w = .ok (.tuple #[v, .bool true]) w := by kernel_rfl
/-- what was thrown, with the number of a function -/
def thrown3 (e n a : Int) : List PanicEntry := [{ v := .iface 62 (.agg #[.int .i64 e, .int .i64 n, .int .i64 a]), recovered := false }]
theorem Box3.below {w w' : World} {b : Nat} {x0 x1 x2 : Value} (h : Box3 w b x0 x1 x2) (g : Below w.heap.size w w') : Box3 w' b x0 x1 x2 := by
  obtain ⟨h0, h1, h2, z0, z1, z2⟩ := h
  exact ⟨below_cell g h0, below_cell g h1, below_cell g h2, below_frozen g h0 z0, below_frozen g h1 z1, below_frozen g h2 z2⟩
def put3 (w : World) (b : Nat) (x0 x1 x2 : Value) : World := ((w.setCell ⟨b, 0, none⟩ x0).setCell ⟨b, 1, none⟩ x1).setCell ⟨b, 2, none⟩ x2
theorem put3_eq (w : World) (b : Nat) (x0 x1 x2 : Value) : ((w.setCell ⟨b, 0, none⟩ x0).setCell ⟨b, 1, none⟩ x1).setCell ⟨b, 2, none⟩ x2 = put3 w b x0 x1 x2 := rfl
theorem put3_box {w : World} {b : Nat} {x0 x1 x2 : Value} (y0 y1 y2 : Value) (h : Box3 w b x0 x1 x2) : Box3 (put3 w b y0 y1 y2) b y0 y1 y2 := ((h.set0 y0).set1 y1).set2 y2
theorem put3_gc (w : World) (b : Nat) (y0 y1 y2 : Value) : Gc b w (put3 w b y0 y1 y2) := (((Gc.refl b w).set 0 y0).set 1 y1).set 2 y2

set_option maxRecDepth 100000 in
set_option maxHeartbeats 1000000 in
theorem of_any (e n a : Int) (w : World) :
    Calls Tryz.prog 30 #[.iface 62 (.agg #[.int .i64 e, .int .i64 n, .int .i64 a])] w fun x w' =>
      x = .returned (.agg #[.int .i64 e, .int .i64 n, .int .i64 a]) ∧ Gr w w' := by
  have hnot : ∀ (x : Bool) (w : World), (Op.unary .not (.bool x)).run Tryz.prog w = .ok (.bool (!x)) w := fun _ _ => rfl
  have has := fun (v : Value) (w : World) => asRef v w
  go_enter Tryz.func30, Tryz.ntmps30
  go_wp2
  exact bodyPost_ret (v := .agg #[.int .i64 e, .int .i64 n, .int .i64 a]) (by simp [results, Tryz.results30, go_sem]) rfl ⟨rfl, ((Gr.refl _).alloc _).alloc _⟩

set_option maxRecDepth 100000 in
set_option maxHeartbeats 1000000 in
theorem catch_any (wb : Nat) (e n a : Int) (x0 x1 x2 : Value) (older : List PanicEntry) (w : World) (hb : Box3 w wb x0 x1 x2) :
    CallsD Tryz.prog 29 #[.pointer (some ⟨wb, 0, none⟩)] (.panicking ({ v := .iface 62 (.agg #[.int .i64 e, .int .i64 n, .int .i64 a]), recovered := false } :: older)) w fun x u' w' =>
      x = .returned (.tuple #[]) ∧ u' = .panicking ({ v := .iface 62 (.agg #[.int .i64 e, .int .i64 n, .int .i64 a]), recovered := true } :: older) ∧ ∃ w1, Gr w w1 ∧ w' = put3 w1 wb (.int .i64 e) (.int .i64 n) (.int .i64 a) := by
  refine callsD_of_wpS Tryz.func29 rfl fun c₀ cs hmode => ?_
  apply wpS_seq
  apply wpS_region
  simp [wpOpsS, go_sem, recoverD, hmode, Tryz.ntmps29, Exit.thenS]
  refine wpS_of_wp ?_
  have har : (#[Value.pointer (some ⟨wb, 0, none⟩)] ++ ((Array.replicate 6 undef).setIfInBounds 1 (Value.iface 62 (Value.agg #[Value.int IntKind.i64 e, Value.int IntKind.i64 n, Value.int IntKind.i64 a]))).setIfInBounds 0 (Value.iface 62 (Value.agg #[Value.int IntKind.i64 e, Value.int IntKind.i64 n, Value.int IntKind.i64 a])) : Array Value) = #[Value.pointer (some ⟨wb, 0, none⟩), Value.iface 62 (Value.agg #[Value.int IntKind.i64 e, Value.int IntKind.i64 n, Value.int IntKind.i64 a]), Value.iface 62 (Value.agg #[Value.int IntKind.i64 e, Value.int IntKind.i64 n, Value.int IntKind.i64 a]), undef, undef, undef, undef] := rfl
  rw [har]
  clear har
  clear hmode
  go_wp2_with (go_at_call 30; refine (of_any e n a _).mono ?_; rintro x w1 ⟨rfl, hg1⟩; obtain ⟨h0, h1, h2, z0, z1, z2⟩ := hb.gr hg1)
  simp [bodyPostS, results, Tryz.results29]
  exact ⟨w1, hg1, rfl⟩

theorem idle_any (p : Addr) (w : World) :
    CallsD Tryz.prog 29 #[.pointer (some p)] .returning w fun x u' w' => x = .returned (.tuple #[]) ∧ u' = .returning ∧ w' = w := by
  refine callsD_of_wpS Tryz.func29 rfl fun c₀ cs hu => ?_
  apply wpS_seq
  apply wpS_region
  simp [wpOpsS, go_sem, recoverD, hu, Tryz.ntmps29, Exit.thenS]
  refine wpS_of_wp ?_
  have har : (#[Value.pointer (some p)] ++ ((Array.replicate 6 undef).setIfInBounds 1 Value.nilIface).setIfInBounds 0 Value.nilIface : Array Value) = #[Value.pointer (some p), Value.nilIface, Value.nilIface, undef, undef, undef, undef] := rfl
  rw [har]
  clear har
  go_wp2
  cases c₀
  simp_all [bodyPostS, results, Tryz.results29]

set_option maxRecDepth 100000 in
set_option maxHeartbeats 2000000 in
/-- the face: what the work does, and what became of it -/
theorem refusal_any (f : Nat) (caps : Array Value) (W : World) (ok : World → Prop) (bad : Int → Int → Int → World → Prop)
    (hen : ∀ w, (callFunc f caps).run Tryz.prog w = .ok (.enter f caps) w)
    (hw : Calls Tryz.prog f caps (W.alloc (.cells #[.int .i64 0, .int .i64 0, .int .i64 0] 62)) fun x w1 => Box3 w1 W.heap.size (.int .i64 0) (.int .i64 0) (.int .i64 0) ∧ ((x = .returned (.tuple #[]) ∧ ok w1) ∨ ∃ e n a, x = .panicked (thrown3 e n a) ∧ bad e n a w1)) :
    Calls Tryz.prog 16 #[.func (.func f) #[] caps] W fun x w' => ∃ w1, Gc W.heap.size w1 w' ∧ W.heap.size < w1.heap.size ∧ ((x = .returned (.agg #[.int .i64 0, .int .i64 0, .int .i64 0]) ∧ ok w1) ∨ ∃ e n a, x = .returned (.agg #[.int .i64 e, .int .i64 n, .int .i64 a]) ∧ bad e n a w1) := by
  have hmf : ∀ (fn : Fn) (first cap : Array Value) (w : World), (Instr.makeFunc fn first cap).run Tryz.prog w = .ok (.func fn first cap) w := fun _ _ _ _ => rfl
  have HW := hide hw
  clear hw
  go_enter_defers Tryz.func16, Tryz.ntmps16
  go_wp2_with fail

  refine HW.out.mono ?_
  clear HW hen
  rintro x w1 ⟨hb, h⟩
  have hws : W.heap.size < w1.heap.size := World.block_lt_of_cell? w1 _ hb.1
  rcases h with ⟨rfl, hok⟩ | ⟨e, n, a, rfl, hbad⟩
  · have HO := hide hok
    have hb2 := put3_box (.int .i64 0) (.int .i64 0) (.int .i64 0) hb
    obtain ⟨h0, h1, h2, z0, z1, z2⟩ := hb
    clear hok hmf
    go_wp2
    refine leaves_cons (f := 29) (args := #[.pointer (some ⟨W.heap.size, 0, none⟩)]) (by simp) (by simp [go_sem]) ?_
    refine (idle_any _ _).mono ?_
    rintro e u' w'' ⟨rfl, rfl, rfl⟩
    rw [put3_eq]
    obtain ⟨h0, h1, h2, z0, z1, z2⟩ := hb2
    simp [Leaves, settle, results, Tryz.results16, go_sem, h0, h1, h2]
    exact ⟨w1, put3_gc _ _ _ _ _, hws, .inl HO.out⟩
  · have HO := hide hbad
    clear hbad hmf
    refine leaves_cons (f := 29) (args := #[.pointer (some ⟨W.heap.size, 0, none⟩)]) (by simp) (by simp [go_sem]) ?_
    refine (catch_any W.heap.size e n a _ _ _ [] w1 hb).mono ?_
    rintro x u' w'' ⟨rfl, rfl, w2, hg2, rfl⟩
    obtain ⟨h0, h1, h2, z0, z1, z2⟩ := put3_box (.int .i64 e) (.int .i64 n) (.int .i64 a) (hb.gr hg2)
    have HG := hide (hg2.toGc.trans (put3_gc w2 W.heap.size (.int .i64 e) (.int .i64 n) (.int .i64 a)))
    clear hg2 hb
    generalize put3 w2 W.heap.size (.int .i64 e) (.int .i64 n) (.int .i64 a) = WF at h0 h1 h2 z0 z1 z2 HG ⊢
    simp [Leaves, settle, results, Tryz.results16, go_sem, h0, h1, h2]
    exact ⟨w1, HG.out, hws, .inr ⟨e, n, a, ⟨rfl, rfl, rfl⟩, HO.out⟩⟩

def encErr (u : PUnit) : Int := if unitOk u then (if (enc u).length ≤ 20000 then 0 else 3) else 1
def encStr (u : PUnit) : List UInt8 := if unitOk u then (if (enc u).length ≤ 20000 then enc u else []) else []

set_option maxRecDepth 100000 in
set_option maxHeartbeats 1000000 in
theorem work_enc (u : PUnit) (ub bb : Nat) (x0 x1 x2 x3 x4 v0 : Value) (W : World) (hb : Box5 W ub x0 x1 x2 x3 x4) (hR : RUnit W (.agg #[x0, x1, x2, x3, x4]) u) (hF : Fits u) (hv : W.cell? ⟨bb, 0, none⟩ = some v0) (hz : W.frozen? ⟨bb, 0, none⟩ = false) :
    Calls Tryz.prog 24 #[.pointer (some ⟨ub, 0, none⟩), .pointer (some ⟨bb, 0, none⟩)] W fun x w' =>
      (x = .returned (.tuple #[]) ∧ encErr u = 0 ∧ encStr u = enc u ∧ ∃ w1, Below W.heap.size W w1 ∧ w' = w1.setCell ⟨bb, 0, none⟩ (.string ⟨(enc u).toArray⟩)) ∨
      (∃ e : Int, x = .panicked (thrown e 0) ∧ encErr u = e ∧ encStr u = [] ∧ Below W.heap.size W w') := by
  obtain ⟨v1, v2, v3, v4, v5, he, k1, k2, k3, k4, k5⟩ := hR
  have HR : Hid (RUnit W (.agg #[x0, x1, x2, x3, x4]) u) := hide ⟨v1, v2, v3, v4, v5, he, k1, k2, k3, k4, k5⟩
  simp only [Value.agg.injEq, Array.mk.injEq, List.cons.injEq, and_true] at he
  obtain ⟨rfl, rfl, rfl, rfl, rfl⟩ := he
  obtain ⟨a1, c1, rfl⟩ := k1.shape
  obtain ⟨a2, c2, rfl⟩ := k2.shape
  obtain ⟨a3, c3, rfl⟩ := k3.shape
  obtain ⟨a4, c4, rfl⟩ := k4.shape
  obtain ⟨a5, c5, rfl⟩ := k5.shape
  obtain ⟨l0, l1, l2, l3, l4, n0, n1, n2, n3, n4⟩ := hb
  have HV := hide hv
  have HZ := hide hz
  clear k1 k2 k3 k4 k5 n0 n1 n2 n3 n4 hv hz
  go_enter Tryz.func24, Tryz.ntmps24
  go_wp2_with fail
  refine (write_any u _ _ HR.out hF).mono ?_
  intro x w1 h
  obtain ⟨hlow, hx⟩ := h
  rcases hx with ⟨hok, rfl⟩ | ⟨hok, hl, rfl⟩ | ⟨hok, hl, rfl⟩
  · exact ⟨rfl, .inr ⟨1, rfl, by unfold encErr; rw [hok]; rfl, by unfold encStr; rw [hok]; rfl, hlow⟩⟩
  · exact ⟨rfl, .inr ⟨3, rfl, by unfold encErr; rw [hok]; simp [hl], by unfold encStr; rw [hok]; simp [hl], hlow⟩⟩
  · have E1 : Hid (encErr u = 0) := hide (by unfold encErr; rw [hok]; simp [hl])
    have E2 : Hid (encStr u = enc u) := hide (by unfold encStr; rw [hok]; simp [hl])
    have hv1 := below_cell hlow HV.out
    have hz1 := below_frozen hlow HV.out HZ.out
    have HB := hide hlow
    clear HR hF hlow hl hok HV HZ
    go_wp2
    go_end0
    exact .inl ⟨rfl, E1.out, E2.out, w1, HB.out, rfl⟩

def encW (W : World) (v1 v2 v3 v4 v5 : Value) : World := (W.alloc (.cells #[v1, v2, v3, v4, v5] 29)).alloc (.cells #[.string ⟨#[]⟩] 9)
theorem encW_facts (W : World) (v1 v2 v3 v4 v5 : Value) :
    Box5 ((encW W v1 v2 v3 v4 v5).alloc (.cells #[.int .i64 0, .int .i64 0, .int .i64 0] 62)) W.heap.size v1 v2 v3 v4 v5 ∧ ((encW W v1 v2 v3 v4 v5).alloc (.cells #[.int .i64 0, .int .i64 0, .int .i64 0] 62)).cell? ⟨W.heap.size + 1, 0, none⟩ = some (.string ⟨#[]⟩) ∧
    ((encW W v1 v2 v3 v4 v5).alloc (.cells #[.int .i64 0, .int .i64 0, .int .i64 0] 62)).frozen? ⟨W.heap.size + 1, 0, none⟩ = false ∧ (encW W v1 v2 v3 v4 v5).heap.size = W.heap.size + 2 ∧ Gr W ((encW W v1 v2 v3 v4 v5).alloc (.cells #[.int .i64 0, .int .i64 0, .int .i64 0] 62)) := by
  have h1 := Box5.new W 29 v1 v2 v3 v4 v5
  unfold encW
  refine ⟨(h1.gr ((Gr.refl _).alloc _)).gr ((Gr.refl _).alloc _), ?_, ?_, by simp, (((Gr.refl _).alloc _).alloc _).alloc _⟩ <;> simp [go_sem]
theorem encW_eq (W : World) (v1 v2 v3 v4 v5 : Value) : (W.alloc (.cells #[v1, v2, v3, v4, v5] 29)).alloc (.cells #[.string ⟨#[]⟩] 9) = encW W v1 v2 v3 v4 v5 := rfl

set_option maxRecDepth 100000 in
set_option maxHeartbeats 2000000 in
theorem encode_any (u : PUnit) (vu : Value) (W : World) (hR : RUnit W vu u) (hF : Fits u) :
    Calls Tryz.prog 14 #[vu] W fun x w' => x = .returned (.tuple #[.string ⟨(encStr u).toArray⟩, .int .i64 (encErr u)]) ∧ Below W.heap.size W w' := by
  have hmf : ∀ (fn : Fn) (first cap : Array Value) (w : World), (Instr.makeFunc fn first cap).run Tryz.prog w = .ok (.func fn first cap) w := fun _ _ _ _ => rfl
  have HRU := hide hR
  obtain ⟨v1, v2, v3, v4, v5, rfl, h1, h2, h3, h4, h5⟩ := hR
  obtain ⟨a1, c1, rfl⟩ := h1.shape
  obtain ⟨a2, c2, rfl⟩ := h2.shape
  obtain ⟨a3, c3, rfl⟩ := h3.shape
  obtain ⟨a4, c4, rfl⟩ := h4.shape
  obtain ⟨a5, c5, rfl⟩ := h5.shape
  have HF := hide hF
  clear h1 h2 h3 h4 h5 hF
  have HE := hide (encW_facts W (.slice a1 u.shapes.length c1) (.slice a2 u.consts.length c2) (.slice a3 u.funcs.length c3) (.slice a4 u.imports.length c4) (.slice a5 u.exports.length c5))
  go_enter Tryz.func14, Tryz.ntmps14
  go_wp2_with fail
  rw [encW_eq]
  obtain ⟨hbx, hv, hz, hsz, hgr⟩ := HE.out
  generalize encW W (.slice a1 u.shapes.length c1) (.slice a2 u.consts.length c2) (.slice a3 u.funcs.length c3) (.slice a4 u.imports.length c4) (.slice a5 u.exports.length c5) = V at hbx hv hz hsz hgr ⊢
  have hwb : Box3 (V.alloc (.cells #[.int .i64 0, .int .i64 0, .int .i64 0] 62)) V.heap.size (.int .i64 0) (.int .i64 0) (.int .i64 0) := Box3.new V 62 (.int .i64 0) (.int .i64 0) (.int .i64 0)
  have hv3 : V.heap.size < (V.alloc (.cells #[.int .i64 0, .int .i64 0, .int .i64 0] 62)).heap.size := by simp
  refine (refusal_any 24 #[.pointer (some ⟨W.heap.size, 0, none⟩), .pointer (some ⟨W.heap.size + 1, 0, none⟩)] V
    (fun w1 => encErr u = 0 ∧ w1.cell? ⟨W.heap.size + 1, 0, none⟩ = some (.string ⟨(encStr u).toArray⟩) ∧ Below W.heap.size W w1)
    (fun e n a w1 => encErr u = e ∧ w1.cell? ⟨W.heap.size + 1, 0, none⟩ = some (.string ⟨(encStr u).toArray⟩) ∧ Below W.heap.size W w1) (fun w => rfl)
    ((work_enc u W.heap.size (W.heap.size + 1) _ _ _ _ _ _ _ hbx (HRU.out.gr hgr) HF.out hv hz).mono ?_)).mono ?_
  · rintro x w' (⟨rfl, e1, e2, w1, hlow, rfl⟩ | ⟨e, rfl, e1, e2, hlow⟩)
    · refine ⟨(hwb.below hlow).other (by omega), .inl ⟨rfl, e1, ?_, (below_gr hgr hlow).setCell (p := ⟨W.heap.size + 1, 0, none⟩) (by show W.heap.size ≤ W.heap.size + 1; omega) _⟩⟩
      rw [e2]
      exact World.cell?_setCell_same _ _ _ (below_cell hlow hv)
    · exact ⟨hwb.below hlow, .inr ⟨e, 0, 0, rfl, e1, by rw [e2]; exact below_cell hlow hv, below_gr hgr hlow⟩⟩
  · clear HE hbx hv hz hgr hwb hv3 HRU HF
    rintro x w2 ⟨w1, hgc, _, h⟩
    have hx : ∃ e n a : Int, x = .returned (.agg #[.int .i64 e, .int .i64 n, .int .i64 a]) ∧ encErr u = e ∧ w1.cell? ⟨W.heap.size + 1, 0, none⟩ = some (.string ⟨(encStr u).toArray⟩) ∧ Below W.heap.size W w1 := by
      rcases h with ⟨rfl, e1, e2, e3⟩ | ⟨e, n, a, rfl, e1, e2, e3⟩
      · exact ⟨0, 0, 0, rfl, e1, e2, e3⟩
      · exact ⟨e, n, a, rfl, e1, e2, e3⟩
    obtain ⟨e, n, a, rfl, he, hc, hlow⟩ := hx
    have hc2 := hgc.box (show ¬ W.heap.size + 1 = V.heap.size by omega) hc
    have HB := hide (hlow.grown hgc hlow.size (by intro k hk; simp only [Option.some.injEq] at hk; omega))
    have HEE := hide he
    clear hgc h hlow hc hmf he hsz
    have hg2 := Gr.alloc (Gr.refl w2) (.cells #[.int .i64 e, .int .i64 n, .int .i64 a] 62)
    have hb2 := Box3.new w2 62 (.int .i64 e) (.int .i64 n) (.int .i64 a)
    have hc3 := hg2.cell hc2 (by simp)
    have HB2 := hide (HB.out.grown hg2 HB.out.size (by simp))
    have he0 := hb2.1
    clear hc2 hg2 hb2 HB
    go_wp2
    generalize w2.alloc (.cells #[.int .i64 e, .int .i64 n, .int .i64 a] 62) = W3 at hc3 he0 HB2 ⊢
    go_region_held3 (fun w' => w'.cell? ⟨W.heap.size + 1, 0, none⟩ = some (.string ⟨(encStr u).toArray⟩) ∧ w'.cell? ⟨w2.heap.size, 0, none⟩ = some (.int .i64 e)) (go_keep) (fail)
    go_wp2
    exact bodyPost_ret (v := .tuple #[.string ⟨(encStr u).toArray⟩, .int .i64 (encErr u)]) (by simp [results, Tryz.results14, go_sem, HEE.out]) rfl ⟨rfl, HB2.out.drew⟩
end Go.Proofs.YtkgncijcnlfhiabGreat

