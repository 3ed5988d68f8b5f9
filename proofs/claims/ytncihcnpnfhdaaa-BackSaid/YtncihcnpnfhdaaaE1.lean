import Derived.Test.YtncihcnpnfhdaaaE0
import Derived.Defers
import Derived.Recover
namespace Go.Proofs.Ytncihcnpnfhdaaa
set_option linter.unusedVariables false
set_option linter.unusedSimpArgs false
open Go.RowKit

theorem asRef (v : Value) (w : World) : (Instr.typeAssert (.iface 65 v) 20 65 true).run Try.prog w = .ok (.tuple #[v, .bool true]) w := by kernel_rfl

set_option maxRecDepth 100000 in
set_option maxHeartbeats 1000000 in
theorem of_any (e a : Int) (w : World) :
    Calls Try.prog 24 #[.iface 65 (.agg #[.int .i64 e, .int .i64 a])] w fun x w' =>
      x = .returned (.agg #[.int .i64 e, .int .i64 a]) ∧ Gr w w' := by
  have hnot : ∀ (x : Bool) (w : World), (Op.unary .not (.bool x)).run Try.prog w = .ok (.bool (!x)) w := fun _ _ => rfl
  have has := fun (v : Value) (w : World) => asRef v w
  go_enter Try.func24, Try.ntmps24
  go_wp2
  exact bodyPost_ret (v := .agg #[.int .i64 e, .int .i64 a]) (by simp [results, Try.results24, go_sem]) rfl ⟨rfl, ((Gr.refl _).alloc _).alloc _⟩

set_option maxRecDepth 100000 in
set_option maxHeartbeats 1000000 in
theorem catch_str (be ba : Nat) (hne : ¬ be = ba) (e a e0 a0 : Int) (older : List PanicEntry) (w : World) (he : w.cell? ⟨be, 0, none⟩ = some (.int .i64 e0)) (ha : w.cell? ⟨ba, 0, none⟩ = some (.int .i64 a0)) (hze : w.frozen? ⟨be, 0, none⟩ = false) (hza : w.frozen? ⟨ba, 0, none⟩ = false) :
    CallsD Try.prog 23 #[.pointer (some ⟨be, 0, none⟩), .pointer (some ⟨ba, 0, none⟩)] (.panicking ({ v := .iface 65 (.agg #[.int .i64 e, .int .i64 a]), recovered := false } :: older)) w fun x u' w' =>
      x = .returned (.tuple #[]) ∧ u' = .panicking ({ v := .iface 65 (.agg #[.int .i64 e, .int .i64 a]), recovered := true } :: older) ∧ ∃ w1, Gr w w1 ∧ w' = ((w1.setCell ⟨be, 0, none⟩ (.int .i64 e)).setCell ⟨ba, 0, none⟩ (.int .i64 a)).drew := by
  refine callsD_of_wpS Try.func23 rfl fun c₀ cs hmode => ?_
  apply wpS_seq
  apply wpS_region
  simp [wpOpsS, go_sem, recoverD, hmode, Try.ntmps23, Exit.thenS]
  refine wpS_of_wp ?_
  have har : (#[Value.pointer (some ⟨be, 0, none⟩), Value.pointer (some ⟨ba, 0, none⟩)] ++ ((Array.replicate 11 undef).setIfInBounds 2 (Value.iface 65 (Value.agg #[Value.int IntKind.i64 e, Value.int IntKind.i64 a]))).setIfInBounds 0 (Value.iface 65 (Value.agg #[Value.int IntKind.i64 e, Value.int IntKind.i64 a])) : Array Value) = #[Value.pointer (some ⟨be, 0, none⟩), Value.pointer (some ⟨ba, 0, none⟩), Value.iface 65 (Value.agg #[Value.int IntKind.i64 e, Value.int IntKind.i64 a]), undef, Value.iface 65 (Value.agg #[Value.int IntKind.i64 e, Value.int IntKind.i64 a]), undef, undef, undef, undef, undef, undef, undef, undef] := rfl
  rw [har]
  clear har hmode
  go_wp2_with (go_at_call 24; refine (of_any e a _).mono ?_; rintro x w1 ⟨rfl, hg1⟩)
  have hle : be < w.heap.size := World.block_lt_of_cell? w _ he
  have hla : ba < w.heap.size := World.block_lt_of_cell? w _ ha
  have hs1 := hg1.size
  have hgA := Gr.alloc hg1 (.cells #[.int .i64 e, .int .i64 a] 65)
  have he1 := hgA.cell he (by simp)
  have ha1 := hgA.cell ha (by simp)
  have hze1 := gr_frozen hgA he hze
  have hza1 := gr_frozen hgA ha hza
  obtain ⟨q0, q1⟩ := cells_box w1 e a
  have n2 : ¬ be = w1.heap.size := by omega
  have n3 : ¬ ba = w1.heap.size := by omega
  have n5 : ¬ w1.heap.size = be := by omega
  have n6 : ¬ w1.heap.size = ba := by omega
  have hne' : ¬ ba = be := fun h => hne h.symm
  have HGA := hide hgA
  clear hgA hg1 he ha hze hza
  generalize w1.alloc (.cells #[.int .i64 e, .int .i64 a] 65) = W2 at HGA he1 ha1 hze1 hza1 q0 q1 ⊢
  generalize w1.heap.size = R at n2 n3 n5 n6 q0 q1 hs1 ⊢
  go_region_held3 (fun w' => w'.cell? ⟨R, 0, none⟩ = some (.int .i64 e) ∧ w'.cell? ⟨R, 1, none⟩ = some (.int .i64 a)) (go_keep) (fail)
  go_wp2
  simp [bodyPostS, results, Try.results23]
  exact ⟨W2, HGA.out, rfl⟩

theorem idle_str (p q : Addr) (w : World) :
    CallsD Try.prog 23 #[.pointer (some p), .pointer (some q)] .returning w fun x u' w' => x = .returned (.tuple #[]) ∧ u' = .returning ∧ w' = w := by
  refine callsD_of_wpS Try.func23 rfl fun c₀ cs hu => ?_
  apply wpS_seq
  apply wpS_region
  simp [wpOpsS, go_sem, recoverD, hu, Try.ntmps23, Exit.thenS]
  refine wpS_of_wp ?_
  have ha : (#[Value.pointer (some p), Value.pointer (some q)] ++ ((Array.replicate 11 undef).setIfInBounds 2 Value.nilIface).setIfInBounds 0 Value.nilIface : Array Value) = #[Value.pointer (some p), Value.pointer (some q), Value.nilIface, undef, Value.nilIface, undef, undef, undef, undef, undef, undef, undef, undef] := rfl
  rw [ha]
  clear ha
  go_wp2
  cases c₀
  simp_all [bodyPostS, results, Try.results23]

set_option maxRecDepth 100000 in
set_option maxHeartbeats 1000000 in
theorem catch_unit (be ba : Nat) (hne : ¬ be = ba) (e a e0 a0 : Int) (older : List PanicEntry) (w : World) (he : w.cell? ⟨be, 0, none⟩ = some (.int .i64 e0)) (ha : w.cell? ⟨ba, 0, none⟩ = some (.int .i64 a0)) (hze : w.frozen? ⟨be, 0, none⟩ = false) (hza : w.frozen? ⟨ba, 0, none⟩ = false) :
    CallsD Try.prog 37 #[.pointer (some ⟨be, 0, none⟩), .pointer (some ⟨ba, 0, none⟩)] (.panicking ({ v := .iface 65 (.agg #[.int .i64 e, .int .i64 a]), recovered := false } :: older)) w fun x u' w' =>
      x = .returned (.tuple #[]) ∧ u' = .panicking ({ v := .iface 65 (.agg #[.int .i64 e, .int .i64 a]), recovered := true } :: older) ∧ ∃ w1, Gr w w1 ∧ w' = ((w1.setCell ⟨be, 0, none⟩ (.int .i64 e)).setCell ⟨ba, 0, none⟩ (.int .i64 a)).drew := by
  refine callsD_of_wpS Try.func37 rfl fun c₀ cs hmode => ?_
  apply wpS_seq
  apply wpS_region
  simp [wpOpsS, go_sem, recoverD, hmode, Try.ntmps37, Exit.thenS]
  refine wpS_of_wp ?_
  have har : (#[Value.pointer (some ⟨be, 0, none⟩), Value.pointer (some ⟨ba, 0, none⟩)] ++ ((Array.replicate 11 undef).setIfInBounds 2 (Value.iface 65 (Value.agg #[Value.int IntKind.i64 e, Value.int IntKind.i64 a]))).setIfInBounds 0 (Value.iface 65 (Value.agg #[Value.int IntKind.i64 e, Value.int IntKind.i64 a])) : Array Value) = #[Value.pointer (some ⟨be, 0, none⟩), Value.pointer (some ⟨ba, 0, none⟩), Value.iface 65 (Value.agg #[Value.int IntKind.i64 e, Value.int IntKind.i64 a]), undef, Value.iface 65 (Value.agg #[Value.int IntKind.i64 e, Value.int IntKind.i64 a]), undef, undef, undef, undef, undef, undef, undef, undef] := rfl
  rw [har]
  clear har hmode
  go_wp2_with (go_at_call 24; refine (of_any e a _).mono ?_; rintro x w1 ⟨rfl, hg1⟩)
  have hle : be < w.heap.size := World.block_lt_of_cell? w _ he
  have hla : ba < w.heap.size := World.block_lt_of_cell? w _ ha
  have hs1 := hg1.size
  have hgA := Gr.alloc hg1 (.cells #[.int .i64 e, .int .i64 a] 65)
  have he1 := hgA.cell he (by simp)
  have ha1 := hgA.cell ha (by simp)
  have hze1 := gr_frozen hgA he hze
  have hza1 := gr_frozen hgA ha hza
  obtain ⟨q0, q1⟩ := cells_box w1 e a
  have n2 : ¬ be = w1.heap.size := by omega
  have n3 : ¬ ba = w1.heap.size := by omega
  have n5 : ¬ w1.heap.size = be := by omega
  have n6 : ¬ w1.heap.size = ba := by omega
  have hne' : ¬ ba = be := fun h => hne h.symm
  have HGA := hide hgA
  clear hgA hg1 he ha hze hza
  generalize w1.alloc (.cells #[.int .i64 e, .int .i64 a] 65) = W2 at HGA he1 ha1 hze1 hza1 q0 q1 ⊢
  generalize w1.heap.size = R at n2 n3 n5 n6 q0 q1 hs1 ⊢
  go_region_held3 (fun w' => w'.cell? ⟨R, 0, none⟩ = some (.int .i64 e) ∧ w'.cell? ⟨R, 1, none⟩ = some (.int .i64 a)) (go_keep) (fail)
  go_wp2
  simp [bodyPostS, results, Try.results37]
  exact ⟨W2, HGA.out, rfl⟩

theorem idle_unit (p q : Addr) (w : World) :
    CallsD Try.prog 37 #[.pointer (some p), .pointer (some q)] .returning w fun x u' w' => x = .returned (.tuple #[]) ∧ u' = .returning ∧ w' = w := by
  refine callsD_of_wpS Try.func37 rfl fun c₀ cs hu => ?_
  apply wpS_seq
  apply wpS_region
  simp [wpOpsS, go_sem, recoverD, hu, Try.ntmps37, Exit.thenS]
  refine wpS_of_wp ?_
  have ha : (#[Value.pointer (some p), Value.pointer (some q)] ++ ((Array.replicate 11 undef).setIfInBounds 2 Value.nilIface).setIfInBounds 0 Value.nilIface : Array Value) = #[Value.pointer (some p), Value.pointer (some q), Value.nilIface, undef, Value.nilIface, undef, undef, undef, undef, undef, undef, undef, undef] := rfl
  rw [ha]
  clear ha
  go_wp2
  cases c₀
  simp_all [bodyPostS, results, Try.results37]

/-- what the deferred function has written -/
theorem caught {w1 : World} {be ba : Nat} (hne : ¬ be = ba) {e a e0 a0 : Int} (he : w1.cell? ⟨be, 0, none⟩ = some (.int .i64 e0)) (ha : w1.cell? ⟨ba, 0, none⟩ = some (.int .i64 a0)) :
    (((w1.setCell ⟨be, 0, none⟩ (.int .i64 e)).setCell ⟨ba, 0, none⟩ (.int .i64 a)).drew).cell? ⟨be, 0, none⟩ = some (.int .i64 e) ∧ (((w1.setCell ⟨be, 0, none⟩ (.int .i64 e)).setCell ⟨ba, 0, none⟩ (.int .i64 a)).drew).cell? ⟨ba, 0, none⟩ = some (.int .i64 a) := by
  refine ⟨?_, ?_⟩
  · exact (World.cell?_setCell_other (w1.setCell ⟨be, 0, none⟩ (.int .i64 e)) ⟨ba, 0, none⟩ ⟨be, 0, none⟩ _ (by intro h; simp only [Addr.mk.injEq] at h; exact hne h.1.symm)).trans (World.cell?_setCell_same w1 ⟨be, 0, none⟩ _ he)
  · exact World.cell?_setCell_same (w1.setCell ⟨be, 0, none⟩ (.int .i64 e)) ⟨ba, 0, none⟩ _ ((World.cell?_setCell_other w1 ⟨be, 0, none⟩ ⟨ba, 0, none⟩ _ (by intro h; simp only [Addr.mk.injEq] at h; exact hne h.1)).trans ha)

def encErr (u : PUnit) : Int := if unitOk u then (if (enc u).length ≤ 20000 then 0 else 3) else 1
def encStr (u : PUnit) : List UInt8 := if unitOk u then (if (enc u).length ≤ 20000 then enc u else []) else []

set_option maxRecDepth 100000 in
set_option maxHeartbeats 1000000 in
theorem work_enc (u : PUnit) (ub : Nat) (x0 x1 x2 x3 x4 : Value) (W : World) (hb : Box5 W ub x0 x1 x2 x3 x4) (hR : RUnit W (.agg #[x0, x1, x2, x3, x4]) u) (hF : Fits u) :
    Calls Try.prog 12 #[.pointer (some ⟨ub, 0, none⟩)] W (Wrote u W) := by
  obtain ⟨v1, v2, v3, v4, v5, he, k1, k2, k3, k4, k5⟩ := hR
  have HR : Hid (RUnit W (.agg #[x0, x1, x2, x3, x4]) u) := hide ⟨v1, v2, v3, v4, v5, he, k1, k2, k3, k4, k5⟩
  have he' := he
  simp only [Value.agg.injEq, Array.mk.injEq, List.cons.injEq, and_true] at he
  obtain ⟨rfl, rfl, rfl, rfl, rfl⟩ := he
  obtain ⟨a1, c1, rfl⟩ := k1.shape
  obtain ⟨a2, c2, rfl⟩ := k2.shape
  obtain ⟨a3, c3, rfl⟩ := k3.shape
  obtain ⟨a4, c4, rfl⟩ := k4.shape
  obtain ⟨a5, c5, rfl⟩ := k5.shape
  obtain ⟨l0, l1, l2, l3, l4, n0, n1, n2, n3, n4⟩ := hb
  clear k1 k2 k3 k4 k5 n0 n1 n2 n3 n4 he'
  go_enter Try.func12, Try.ntmps12
  go_wp2_with fail
  refine (write_any u _ _ HR.out hF).mono ?_
  intro x w1 h
  obtain ⟨hlow, hx⟩ := h
  rcases hx with ⟨hok, rfl⟩ | ⟨hok, hl, rfl⟩ | ⟨hok, hl, rfl⟩
  · exact ⟨rfl, hlow, .inl ⟨hok, rfl⟩⟩
  · exact ⟨rfl, hlow, .inr (.inl ⟨hok, hl, rfl⟩)⟩
  · clear HR hF
    have HL := hide hl
    have HO := hide hok
    clear hl hok
    go_wp2
    go_ret
    exact ⟨hlow, .inr (.inr ⟨HO.out, HL.out, rfl⟩)⟩

theorem ans_boxes (W : World) :
    ((W.alloc (.cells #[.int .i64 0] 30)).alloc (.cells #[.int .i64 0] 3)).cell? ⟨W.heap.size, 0, none⟩ = some (.int .i64 0) ∧
    ((W.alloc (.cells #[.int .i64 0] 30)).alloc (.cells #[.int .i64 0] 3)).cell? ⟨W.heap.size + 1, 0, none⟩ = some (.int .i64 0) ∧
    ((W.alloc (.cells #[.int .i64 0] 30)).alloc (.cells #[.int .i64 0] 3)).frozen? ⟨W.heap.size, 0, none⟩ = false ∧
    ((W.alloc (.cells #[.int .i64 0] 30)).alloc (.cells #[.int .i64 0] 3)).frozen? ⟨W.heap.size + 1, 0, none⟩ = false ∧
    Gr W ((W.alloc (.cells #[.int .i64 0] 30)).alloc (.cells #[.int .i64 0] 3)) := by
  refine ⟨?_, ?_, ?_, ?_, ((Gr.refl _).alloc _).alloc _⟩ <;> simp [go_sem]

set_option maxRecDepth 100000 in
set_option maxHeartbeats 2000000 in
theorem answer_enc (u : PUnit) (ub : Nat) (x0 x1 x2 x3 x4 : Value) (W : World) (hb : Box5 W ub x0 x1 x2 x3 x4) (hR : RUnit W (.agg #[x0, x1, x2, x3, x4]) u) (hF : Fits u) :
    Calls Try.prog 11 #[.func (.func 12) #[] #[.pointer (some ⟨ub, 0, none⟩)]] W fun x w' => x = .returned (.tuple #[.string ⟨(encStr u).toArray⟩, .int .i64 (encErr u), .int .i64 0]) ∧ Below W.heap.size W w' := by
  have hmf : ∀ (fn : Fn) (first cap : Array Value) (w : World), (Instr.makeFunc fn first cap).run Try.prog w = .ok (.func fn first cap) w := fun _ _ _ _ => rfl
  have HRU := hide hR
  have HBX := hide hb
  have HF := hide hF
  clear hR hb hF
  go_enter_defers Try.func11, Try.ntmps11
  go_wp2_with fail
  obtain ⟨hp, hq, hzp, hzq, hgW⟩ := ans_boxes W
  refine (work_enc u ub x0 x1 x2 x3 x4 _ (HBX.out.gr hgW) (HRU.out.gr hgW) HF.out).mono ?_
  generalize (W.alloc (.cells #[.int .i64 0] 30)).alloc (.cells #[.int .i64 0] 3) = W1 at hp hq hzp hzq hgW ⊢
  rintro x w1 ⟨hlow, hx⟩
  have p1 := below_cell hlow hp
  have q1 := below_cell hlow hq
  have zp1 := below_frozen hlow hp hzp
  have zq1 := below_frozen hlow hq hzq
  have hB := below_gr hgW hlow
  clear hlow hp hq hzp hzq hgW HRU HF HBX
  have hx2 : (∃ e : Int, x = .panicked (thrown e 0) ∧ encErr u = e ∧ encStr u = []) ∨ (x = .returned (.string ⟨(enc u).toArray⟩) ∧ encErr u = 0 ∧ encStr u = enc u) := by
    rcases hx with ⟨hok, rfl⟩ | ⟨hok, hl, rfl⟩ | ⟨hok, hl, rfl⟩
    · exact .inl ⟨1, rfl, by unfold encErr; rw [hok]; rfl, by unfold encStr; rw [hok]; rfl⟩
    · exact .inl ⟨3, rfl, by unfold encErr; rw [hok]; simp [hl], by unfold encStr; rw [hok]; simp [hl]⟩
    · exact .inr ⟨rfl, by unfold encErr; rw [hok]; simp [hl], by unfold encStr; rw [hok]; simp [hl]⟩
  clear hx
  rcases hx2 with ⟨e, rfl, e1, e2⟩ | ⟨rfl, e1, e2⟩
  · have E1 := hide e1
    have E2 := hide e2
    clear e1 e2
    refine leaves_cons (f := 23) (args := #[.pointer (some ⟨W.heap.size, 0, none⟩), .pointer (some ⟨W.heap.size + 1, 0, none⟩)]) (by simp) (by simp [go_sem]) ?_
    refine (catch_str W.heap.size (W.heap.size + 1) (by omega) e 0 0 0 [] w1 p1 q1 zp1 zq1).mono ?_
    rintro x u' w'' ⟨rfl, rfl, w2, hg2, rfl⟩
    obtain ⟨c1, c2⟩ := caught (e := e) (a := 0) (show ¬ W.heap.size = W.heap.size + 1 by omega) (hg2.cell p1 (by simp)) (hg2.cell q1 (by simp))
    have HB := hide ((((hB.grown hg2 hB.size (by simp)).setCell (p := ⟨W.heap.size, 0, none⟩) (Nat.le_refl _) (.int .i64 e)).setCell (p := ⟨W.heap.size + 1, 0, none⟩) (by show W.heap.size ≤ W.heap.size + 1; omega) (.int .i64 0)).drew)
    clear p1 q1 zp1 zq1 hB hg2 hmf
    generalize ((w2.setCell ⟨W.heap.size, 0, none⟩ (.int .i64 e)).setCell ⟨W.heap.size + 1, 0, none⟩ (.int .i64 0)).drew = WF at c1 c2 HB ⊢
    have e1 := E1.out
    have e2 := E2.out
    simp [Leaves, settle, results, Try.results11, go_sem, c1, c2, e1, e2]
    exact HB.out
  · have E1 := hide e1
    have E2 := hide e2
    clear e1 e2
    have HB := hide (((hB.setCell (p := ⟨W.heap.size, 0, none⟩) (Nat.le_refl _) (.int .i64 0)).setCell (p := ⟨W.heap.size + 1, 0, none⟩) (by show W.heap.size ≤ W.heap.size + 1; omega) (.int .i64 0)))
    clear hB hmf
    go_wp2
    refine leaves_cons (f := 23) (args := #[.pointer (some ⟨W.heap.size, 0, none⟩), .pointer (some ⟨W.heap.size + 1, 0, none⟩)]) (by simp) (by simp [go_sem]) ?_
    refine (idle_str _ _ _).mono ?_
    rintro e u' w'' ⟨rfl, rfl, rfl⟩
    have e1 := E1.out
    have e2 := E2.out
    simp [Leaves, settle, results, Try.results11, go_sem, p1, q1, e1, e2]
    exact HB.out

set_option maxRecDepth 100000 in
set_option maxHeartbeats 2000000 in
theorem encode_any (u : PUnit) (vu : Value) (W : World) (hR : RUnit W vu u) (hF : Fits u) :
    Calls Try.prog 6 #[vu] W fun x w' => x = .returned (.tuple #[.string ⟨(encStr u).toArray⟩, .int .i64 (encErr u)]) ∧ Below W.heap.size W w' := by
  have hmf : ∀ (fn : Fn) (first cap : Array Value) (w : World), (Instr.makeFunc fn first cap).run Try.prog w = .ok (.func fn first cap) w := fun _ _ _ _ => rfl
  have HRU := hide hR
  obtain ⟨v1, v2, v3, v4, v5, rfl, h1, h2, h3, h4, h5⟩ := hR
  obtain ⟨a1, c1, rfl⟩ := h1.shape
  obtain ⟨a2, c2, rfl⟩ := h2.shape
  obtain ⟨a3, c3, rfl⟩ := h3.shape
  obtain ⟨a4, c4, rfl⟩ := h4.shape
  obtain ⟨a5, c5, rfl⟩ := h5.shape
  have HF := hide hF
  clear h1 h2 h3 h4 h5 hF
  have hgW := Gr.alloc (Gr.refl W) (.cells #[.slice a1 u.shapes.length c1, .slice a2 u.consts.length c2, .slice a3 u.funcs.length c3, .slice a4 u.imports.length c4, .slice a5 u.exports.length c5] 28)
  have HBX := hide (Box5.new W 28 (.slice a1 u.shapes.length c1) (.slice a2 u.consts.length c2) (.slice a3 u.funcs.length c3) (.slice a4 u.imports.length c4) (.slice a5 u.exports.length c5))
  have HGW := hide hgW
  clear hgW
  go_enter Try.func6, Try.ntmps6
  go_wp2_with fail
  refine (answer_enc u W.heap.size _ _ _ _ _ _ HBX.out (HRU.out.gr HGW.out) HF.out).mono ?_
  rintro x w1 ⟨rfl, hlow⟩
  have HB := hide (below_gr HGW.out hlow)
  clear hlow HRU HF HBX HGW hmf
  go_wp2
  exact bodyPost_ret (v := .tuple #[.string ⟨(encStr u).toArray⟩, .int .i64 (encErr u)]) (by simp [results, Try.results6, go_sem]) rfl ⟨rfl, HB.out⟩
end Go.Proofs.Ytncihcnpnfhdaaa
