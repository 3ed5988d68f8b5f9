import Derived.Test.YtkgncijcnlfhiaaDoorS1
import Derived.Test.YtkgncijcnlfhiaaDoorD2
import Derived.Defers
import Derived.Recover
import Derived.Test.YtkgncijcnlfhiaaDoorV5
namespace Go.Proofs.YtkgncijcnlfhiaaDoor
set_option linter.unusedVariables false
set_option linter.unusedSimpArgs false
open Go.RowKit
def Box5 (w : World) (b : Nat) (x0 x1 x2 x3 x4 : Value) : Prop :=
  w.cell? ⟨b, 0, none⟩ = some x0 ∧ w.cell? ⟨b, 1, none⟩ = some x1 ∧ w.cell? ⟨b, 2, none⟩ = some x2 ∧ w.cell? ⟨b, 3, none⟩ = some x3 ∧ w.cell? ⟨b, 4, none⟩ = some x4 ∧ w.frozen? ⟨b, 0, none⟩ = false ∧ w.frozen? ⟨b, 1, none⟩ = false ∧ w.frozen? ⟨b, 2, none⟩ = false ∧ w.frozen? ⟨b, 3, none⟩ = false ∧ w.frozen? ⟨b, 4, none⟩ = false
theorem Box5.gc {w w' : World} {cb b : Nat} {x0 x1 x2 x3 x4 : Value} (h : Box5 w b x0 x1 x2 x3 x4) (g : Gc cb w w') (hb : ¬ b = cb) : Box5 w' b x0 x1 x2 x3 x4 := by
  obtain ⟨h0, h1, h2, h3, h4, z0, z1, z2, z3, z4⟩ := h
  exact ⟨g.box hb h0, g.box hb h1, g.box hb h2, g.box hb h3, g.box hb h4, g.boxz hb h0 z0, g.boxz hb h1 z1, g.boxz hb h2 z2, g.boxz hb h3 z3, g.boxz hb h4 z4⟩
theorem Box5.gr {w w' : World} {b : Nat} {x0 x1 x2 x3 x4 : Value} (h : Box5 w b x0 x1 x2 x3 x4) (g : Gr w w') : Box5 w' b x0 x1 x2 x3 x4 :=
  h.gc (cb := b + 1) g.toGc (by omega)
theorem Box5.new (w : World) (t : TypeId) (x0 x1 x2 x3 x4 : Value) : Box5 (w.alloc (.cells #[x0, x1, x2, x3, x4] t)) w.heap.size x0 x1 x2 x3 x4 := by
  refine ⟨?_, ?_, ?_, ?_, ?_, ?_, ?_, ?_, ?_, ?_⟩ <;> simp [go_sem]
theorem Box5.other {w : World} {b g o : Nat} {x0 x1 x2 x3 x4 v : Value} (h : Box5 w b x0 x1 x2 x3 x4) (hb : ¬ g = b) : Box5 (w.setCell ⟨g, o, none⟩ v) b x0 x1 x2 x3 x4 := by
  obtain ⟨h0, h1, h2, h3, h4, z0, z1, z2, z3, z4⟩ := h
  have hc : ∀ q, (w.setCell ⟨g, o, none⟩ v).cell? ⟨b, q, none⟩ = w.cell? ⟨b, q, none⟩ := fun q => World.cell?_setCell_other w _ _ _ (by intro e; simp only [Addr.mk.injEq] at e; exact hb e.1)
  exact ⟨(hc 0).trans h0, (hc 1).trans h1, (hc 2).trans h2, (hc 3).trans h3, (hc 4).trans h4, by rw [World.frozen?_setCell]; exact z0, by rw [World.frozen?_setCell]; exact z1, by rw [World.frozen?_setCell]; exact z2, by rw [World.frozen?_setCell]; exact z3, by rw [World.frozen?_setCell]; exact z4⟩
theorem Box5.set0 {w : World} {b : Nat} {x0 x1 x2 x3 x4 : Value} (v : Value) (h : Box5 w b x0 x1 x2 x3 x4) : Box5 (w.setCell ⟨b, 0, none⟩ v) b v x1 x2 x3 x4 := by
  obtain ⟨h0, h1, h2, h3, h4, z0, z1, z2, z3, z4⟩ := h
  exact ⟨World.cell?_setCell_same _ _ _ h0, (cell_set_ne (by omega)).trans h1, (cell_set_ne (by omega)).trans h2, (cell_set_ne (by omega)).trans h3, (cell_set_ne (by omega)).trans h4, by rw [World.frozen?_setCell]; exact z0, by rw [World.frozen?_setCell]; exact z1, by rw [World.frozen?_setCell]; exact z2, by rw [World.frozen?_setCell]; exact z3, by rw [World.frozen?_setCell]; exact z4⟩
theorem Box5.set1 {w : World} {b : Nat} {x0 x1 x2 x3 x4 : Value} (v : Value) (h : Box5 w b x0 x1 x2 x3 x4) : Box5 (w.setCell ⟨b, 1, none⟩ v) b x0 v x2 x3 x4 := by
  obtain ⟨h0, h1, h2, h3, h4, z0, z1, z2, z3, z4⟩ := h
  exact ⟨(cell_set_ne (by omega)).trans h0, World.cell?_setCell_same _ _ _ h1, (cell_set_ne (by omega)).trans h2, (cell_set_ne (by omega)).trans h3, (cell_set_ne (by omega)).trans h4, by rw [World.frozen?_setCell]; exact z0, by rw [World.frozen?_setCell]; exact z1, by rw [World.frozen?_setCell]; exact z2, by rw [World.frozen?_setCell]; exact z3, by rw [World.frozen?_setCell]; exact z4⟩
theorem Box5.set2 {w : World} {b : Nat} {x0 x1 x2 x3 x4 : Value} (v : Value) (h : Box5 w b x0 x1 x2 x3 x4) : Box5 (w.setCell ⟨b, 2, none⟩ v) b x0 x1 v x3 x4 := by
  obtain ⟨h0, h1, h2, h3, h4, z0, z1, z2, z3, z4⟩ := h
  exact ⟨(cell_set_ne (by omega)).trans h0, (cell_set_ne (by omega)).trans h1, World.cell?_setCell_same _ _ _ h2, (cell_set_ne (by omega)).trans h3, (cell_set_ne (by omega)).trans h4, by rw [World.frozen?_setCell]; exact z0, by rw [World.frozen?_setCell]; exact z1, by rw [World.frozen?_setCell]; exact z2, by rw [World.frozen?_setCell]; exact z3, by rw [World.frozen?_setCell]; exact z4⟩
theorem Box5.set3 {w : World} {b : Nat} {x0 x1 x2 x3 x4 : Value} (v : Value) (h : Box5 w b x0 x1 x2 x3 x4) : Box5 (w.setCell ⟨b, 3, none⟩ v) b x0 x1 x2 v x4 := by
  obtain ⟨h0, h1, h2, h3, h4, z0, z1, z2, z3, z4⟩ := h
  exact ⟨(cell_set_ne (by omega)).trans h0, (cell_set_ne (by omega)).trans h1, (cell_set_ne (by omega)).trans h2, World.cell?_setCell_same _ _ _ h3, (cell_set_ne (by omega)).trans h4, by rw [World.frozen?_setCell]; exact z0, by rw [World.frozen?_setCell]; exact z1, by rw [World.frozen?_setCell]; exact z2, by rw [World.frozen?_setCell]; exact z3, by rw [World.frozen?_setCell]; exact z4⟩
theorem Box5.set4 {w : World} {b : Nat} {x0 x1 x2 x3 x4 : Value} (v : Value) (h : Box5 w b x0 x1 x2 x3 x4) : Box5 (w.setCell ⟨b, 4, none⟩ v) b x0 x1 x2 x3 v := by
  obtain ⟨h0, h1, h2, h3, h4, z0, z1, z2, z3, z4⟩ := h
  exact ⟨(cell_set_ne (by omega)).trans h0, (cell_set_ne (by omega)).trans h1, (cell_set_ne (by omega)).trans h2, (cell_set_ne (by omega)).trans h3, World.cell?_setCell_same _ _ _ h4, by rw [World.frozen?_setCell]; exact z0, by rw [World.frozen?_setCell]; exact z1, by rw [World.frozen?_setCell]; exact z2, by rw [World.frozen?_setCell]; exact z3, by rw [World.frozen?_setCell]; exact z4⟩
theorem gr_over {w w1 w2 : World} {cb : Nat} (h : Gr w w1) (k : Gc cb w1 w2) (hc : w.heap.size ≤ cb) : Gr w w2 :=
  ⟨k.os.trans h.os, k.tape.trans h.tape, k.output.trans h.output, Nat.le_trans h.size k.size, fun i hi _ => (k.block i (Nat.lt_of_lt_of_le hi h.size) (by intro e; simp only [Option.some.injEq] at e; omega)).trans (h.block i hi (by simp))⟩
theorem gr_set {w w1 : World} {g o : Nat} {v : Value} (h : Gr w w1) (hg : w.heap.size ≤ g) : Gr w (w1.setCell ⟨g, o, none⟩ v) :=
  ⟨h.os, h.tape, h.output, by simpa using h.size, fun i hi hne => by rw [Below.heap_setCell _ _ _ _ (by show i ≠ g; omega)]; exact h.block i hi hne⟩
theorem gr_frozen {w w' : World} (g : Gr w w') {p : Addr} {x : Value} (hx : w.cell? p = some x) (h : w.frozen? p = false) : w'.frozen? p = false :=
  (World.frozen?_of_block (g.block p.block (World.block_lt_of_cell? w p hx) (by simp))).trans h
theorem below_frozen {W w : World} (h : Below W.heap.size W w) {p : Addr} {x : Value} (hx : W.cell? p = some x) (hz : W.frozen? p = false) : w.frozen? p = false :=
  (h.frozen (World.block_lt_of_cell? W p hx)).trans hz
theorem Box5.below {w w' : World} {b : Nat} {x0 x1 x2 x3 x4 : Value} (h : Box5 w b x0 x1 x2 x3 x4) (g : Below w.heap.size w w') : Box5 w' b x0 x1 x2 x3 x4 := by
  obtain ⟨h0, h1, h2, h3, h4, z0, z1, z2, z3, z4⟩ := h
  exact ⟨below_cell g h0, below_cell g h1, below_cell g h2, below_cell g h3, below_cell g h4, below_frozen g h0 z0, below_frozen g h1 z1, below_frozen g h2 z2, below_frozen g h3 z3, below_frozen g h4 z4⟩
end Go.Proofs.YtkgncijcnlfhiaaDoor

namespace Go.Proofs.YtkgncijcnlfhiaaDoor
set_option linter.unusedVariables false
set_option linter.unusedSimpArgs false
open Go.RowKit

theorem asRef (v : Value) (w : World) : (Instr.typeAssert (.iface 83 v) 20 83 true).run Tryd.prog w = .ok (.tuple #[v, .bool true]) w := by kernel_rfl
/-- what was thrown, with the number of a function -/
def thrown3 (e n a : Int) : List PanicEntry := [{ v := .iface 83 (.agg #[.int .i64 e, .int .i64 n, .int .i64 a]), recovered := false }]
theorem Box3.below {w w' : World} {b : Nat} {x0 x1 x2 : Value} (h : Box3 w b x0 x1 x2) (g : Below w.heap.size w w') : Box3 w' b x0 x1 x2 := by
  obtain ⟨h0, h1, h2, z0, z1, z2⟩ := h
  exact ⟨below_cell g h0, below_cell g h1, below_cell g h2, below_frozen g h0 z0, below_frozen g h1 z1, below_frozen g h2 z2⟩
def put3 (w : World) (b : Nat) (x0 x1 x2 : Value) : World := ((w.setCell ⟨b, 0, none⟩ x0).setCell ⟨b, 1, none⟩ x1).setCell ⟨b, 2, none⟩ x2
theorem put3_eq (w : World) (b : Nat) (x0 x1 x2 : Value) : ((w.setCell ⟨b, 0, none⟩ x0).setCell ⟨b, 1, none⟩ x1).setCell ⟨b, 2, none⟩ x2 = put3 w b x0 x1 x2 := rfl
theorem put3_box {w : World} {b : Nat} {x0 x1 x2 : Value} (y0 y1 y2 : Value) (h : Box3 w b x0 x1 x2) : Box3 (put3 w b y0 y1 y2) b y0 y1 y2 := ((h.set0 y0).set1 y1).set2 y2
theorem put3_gc (w : World) (b : Nat) (y0 y1 y2 : Value) : Gc b w (put3 w b y0 y1 y2) := (((Gc.refl b w).set 0 y0).set 1 y1).set 2 y2

set_option maxRecDepth 100000 in
set_option maxHeartbeats 1000000 in
theorem of_any (e n a : Int) (w : World) :
    Calls Tryd.prog 56 #[.iface 83 (.agg #[.int .i64 e, .int .i64 n, .int .i64 a])] w fun x w' =>
      x = .returned (.agg #[.int .i64 e, .int .i64 n, .int .i64 a]) ∧ Gr w w' := by
  have hnot : ∀ (x : Bool) (w : World), (Op.unary .not (.bool x)).run Tryd.prog w = .ok (.bool (!x)) w := fun _ _ => rfl
  have has := fun (v : Value) (w : World) => asRef v w
  go_enter Tryd.func56, Tryd.ntmps56
  go_wp2
  exact bodyPost_ret (v := .agg #[.int .i64 e, .int .i64 n, .int .i64 a]) (by simp [results, Tryd.results56, go_sem]) rfl ⟨rfl, ((Gr.refl _).alloc _).alloc _⟩

set_option maxRecDepth 100000 in
set_option maxHeartbeats 1000000 in
theorem catch_any (wb : Nat) (e n a : Int) (x0 x1 x2 : Value) (older : List PanicEntry) (w : World) (hb : Box3 w wb x0 x1 x2) :
    CallsD Tryd.prog 55 #[.pointer (some ⟨wb, 0, none⟩)] (.panicking ({ v := .iface 83 (.agg #[.int .i64 e, .int .i64 n, .int .i64 a]), recovered := false } :: older)) w fun x u' w' =>
      x = .returned (.tuple #[]) ∧ u' = .panicking ({ v := .iface 83 (.agg #[.int .i64 e, .int .i64 n, .int .i64 a]), recovered := true } :: older) ∧ ∃ w1, Gr w w1 ∧ w' = put3 w1 wb (.int .i64 e) (.int .i64 n) (.int .i64 a) := by
  refine callsD_of_wpS Tryd.func55 rfl fun c₀ cs hmode => ?_
  apply wpS_seq
  apply wpS_region
  simp [wpOpsS, go_sem, recoverD, hmode, Tryd.ntmps55, Exit.thenS]
  refine wpS_of_wp ?_
  have har : (#[Value.pointer (some ⟨wb, 0, none⟩)] ++ ((Array.replicate 6 undef).setIfInBounds 1 (Value.iface 83 (Value.agg #[Value.int IntKind.i64 e, Value.int IntKind.i64 n, Value.int IntKind.i64 a]))).setIfInBounds 0 (Value.iface 83 (Value.agg #[Value.int IntKind.i64 e, Value.int IntKind.i64 n, Value.int IntKind.i64 a])) : Array Value) = #[Value.pointer (some ⟨wb, 0, none⟩), Value.iface 83 (Value.agg #[Value.int IntKind.i64 e, Value.int IntKind.i64 n, Value.int IntKind.i64 a]), Value.iface 83 (Value.agg #[Value.int IntKind.i64 e, Value.int IntKind.i64 n, Value.int IntKind.i64 a]), undef, undef, undef, undef] := rfl
  rw [har]
  clear har
  clear hmode
  go_wp2_with (go_at_call 56; refine (of_any e n a _).mono ?_; rintro x w1 ⟨rfl, hg1⟩; obtain ⟨h0, h1, h2, z0, z1, z2⟩ := hb.gr hg1)
  simp [bodyPostS, results, Tryd.results55]
  exact ⟨w1, hg1, rfl⟩

theorem idle_any (p : Addr) (w : World) :
    CallsD Tryd.prog 55 #[.pointer (some p)] .returning w fun x u' w' => x = .returned (.tuple #[]) ∧ u' = .returning ∧ w' = w := by
  refine callsD_of_wpS Tryd.func55 rfl fun c₀ cs hu => ?_
  apply wpS_seq
  apply wpS_region
  simp [wpOpsS, go_sem, recoverD, hu, Tryd.ntmps55, Exit.thenS]
  refine wpS_of_wp ?_
  have har : (#[Value.pointer (some p)] ++ ((Array.replicate 6 undef).setIfInBounds 1 Value.nilIface).setIfInBounds 0 Value.nilIface : Array Value) = #[Value.pointer (some p), Value.nilIface, Value.nilIface, undef, undef, undef, undef] := rfl
  rw [har]
  clear har
  go_wp2
  cases c₀
  simp_all [bodyPostS, results, Tryd.results55]

set_option maxRecDepth 100000 in
set_option maxHeartbeats 2000000 in
/-- the face: what the work does, and what became of it -/
theorem refusal_any (f : Nat) (caps : Array Value) (W : World) (ok : World → Prop) (bad : Int → Int → Int → World → Prop)
    (hen : ∀ w, (callFunc f caps).run Tryd.prog w = .ok (.enter f caps) w)
    (hw : Calls Tryd.prog f caps (W.alloc (.cells #[.int .i64 0, .int .i64 0, .int .i64 0] 83)) fun x w1 => Box3 w1 W.heap.size (.int .i64 0) (.int .i64 0) (.int .i64 0) ∧ ((x = .returned (.tuple #[]) ∧ ok w1) ∨ ∃ e n a, x = .panicked (thrown3 e n a) ∧ bad e n a w1)) :
    Calls Tryd.prog 30 #[.func (.func f) #[] caps] W fun x w' => ∃ w1, Gc W.heap.size w1 w' ∧ W.heap.size < w1.heap.size ∧ ((x = .returned (.agg #[.int .i64 0, .int .i64 0, .int .i64 0]) ∧ ok w1) ∨ ∃ e n a, x = .returned (.agg #[.int .i64 e, .int .i64 n, .int .i64 a]) ∧ bad e n a w1) := by
  have hmf : ∀ (fn : Fn) (first cap : Array Value) (w : World), (Instr.makeFunc fn first cap).run Tryd.prog w = .ok (.func fn first cap) w := fun _ _ _ _ => rfl
  have HW := hide hw
  clear hw
  go_enter_defers Tryd.func30, Tryd.ntmps30
  go_wp2_with fail

  refine HW.out.mono ?_
  clear HW hen
  rintro x w1 ⟨hb, h⟩
  have hws : W.heap.size < w1.heap.size := World.block_lt_of_cell? w1 _ hb.1
  rcases h with ⟨rfl, hok⟩ | ⟨e, n, a, rfl, hbad⟩
  · have HO := hide hok
    have hb2 := put3_box (.int .i64 0) (.int .i64 0) (.int .i64 0) hb
    obtain ⟨h0, h1, h2, z0, z1, z2⟩ := hb
    clear hok hmf
    go_wp2
    refine leaves_cons (f := 55) (args := #[.pointer (some ⟨W.heap.size, 0, none⟩)]) (by simp) (by simp [go_sem]) ?_
    refine (idle_any _ _).mono ?_
    rintro e u' w'' ⟨rfl, rfl, rfl⟩
    rw [put3_eq]
    obtain ⟨h0, h1, h2, z0, z1, z2⟩ := hb2
    simp [Leaves, settle, results, Tryd.results30, go_sem, h0, h1, h2]
    exact ⟨w1, put3_gc _ _ _ _ _, hws, .inl HO.out⟩
  · have HO := hide hbad
    clear hbad hmf
    refine leaves_cons (f := 55) (args := #[.pointer (some ⟨W.heap.size, 0, none⟩)]) (by simp) (by simp [go_sem]) ?_
    refine (catch_any W.heap.size e n a _ _ _ [] w1 hb).mono ?_
    rintro x u' w'' ⟨rfl, rfl, w2, hg2, rfl⟩
    obtain ⟨h0, h1, h2, z0, z1, z2⟩ := put3_box (.int .i64 e) (.int .i64 n) (.int .i64 a) (hb.gr hg2)
    have HG := hide (hg2.toGc.trans (put3_gc w2 W.heap.size (.int .i64 e) (.int .i64 n) (.int .i64 a)))
    clear hg2 hb
    generalize put3 w2 W.heap.size (.int .i64 e) (.int .i64 n) (.int .i64 a) = WF at h0 h1 h2 z0 z1 z2 HG ⊢
    simp [Leaves, settle, results, Tryd.results30, go_sem, h0, h1, h2]
    exact ⟨w1, HG.out, hws, .inr ⟨e, n, a, ⟨rfl, rfl, rfl⟩, HO.out⟩⟩

end Go.Proofs.YtkgncijcnlfhiaaDoor

