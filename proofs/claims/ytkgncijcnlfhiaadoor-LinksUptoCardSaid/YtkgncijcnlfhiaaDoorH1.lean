import Derived.Lib.SlBytesConst
import Derived.Test.YtkgncijcnlfhiaaDoorW4
import Derived.Test.YtkgncijcnlfhiaaDoorW7
import Derived.Defers
import Derived.Recover
import Derived.Deep.AppendLies
namespace Go.Proofs.YtkgncijcnlfhiaaDoor
set_option linter.unusedVariables false
set_option linter.unusedSimpArgs false
open Go.RowKit

theorem Wr.nil {W w : World} (h : Below W.heap.size W w) : Wr W w (.slice none 0 0) [] := ⟨h, ⟨by simp [bc], .inl ⟨rfl, rfl⟩⟩⟩
theorem Wr.apart {W w : World} {v : Value} {l : List UInt8} (h : Wr W w v l) {g : Nat} (hg : w.heap.size ≤ g) : v.ownBlock ≠ some g := fun e => by have := (h.own.lt g e).2; omega
end Go.Proofs.YtkgncijcnlfhiaaDoor

namespace Go.Proofs.YtkgncijcnlfhiaaDoor
set_option linter.unusedVariables false
set_option linter.unusedSimpArgs false
open Go.RowKit
def Box5 (w : World) (b : Nat) (x0 x1 x2 x3 x4 : Value) : Prop :=
  w.cell? ⟨b, 0, none⟩ = some x0 ∧ w.cell? ⟨b, 1, none⟩ = some x1 ∧ w.cell? ⟨b, 2, none⟩ = some x2 ∧ w.cell? ⟨b, 3, none⟩ = some x3 ∧ w.cell? ⟨b, 4, none⟩ = some x4 ∧ w.frozen? ⟨b, 0, none⟩ = false ∧ w.frozen? ⟨b, 1, none⟩ = false ∧ w.frozen? ⟨b, 2, none⟩ = false ∧ w.frozen? ⟨b, 3, none⟩ = false ∧ w.frozen? ⟨b, 4, none⟩ = false
theorem Box5.gc {w w' : World} {cb b : Nat} {x0 x1 x2 x3 x4 : Value} (h : Box5 w b x0 x1 x2 x3 x4) (g : Gc cb w w') (hb : ¬ b = cb) : Box5 w' b x0 x1 x2 x3 x4 := by
  obtain ⟨h0, h1, h2, h3, h4, z0, z1, z2, z3, z4⟩ := h
  exact ⟨g.box hb h0, g.box hb h1, g.box hb h2, g.box hb h3, g.box hb h4, g.boxz hb h0 z0, g.boxz hb h1 z1, g.boxz hb h2 z2, g.boxz hb h3 z3, g.boxz hb h4 z4⟩
theorem Box5.gr {w w' : World} {b : Nat} {x0 x1 x2 x3 x4 : Value} (h : Box5 w b x0 x1 x2 x3 x4) (g : Gr w w') : Box5 w' b x0 x1 x2 x3 x4 :=
  h.gc (cb := b + 1) g.toGc (by omega)
theorem Box5.new (w : World) (t : TypeId) (x0 x1 x2 x3 x4 : Value) : Box5 (w.alloc (.cells #[x0, x1, x2, x3, x4] t)) w.heap.size x0 x1 x2 x3 x4 := by
  refine ⟨?_, ?_, ?_, ?_, ?_, ?_, ?_, ?_, ?_, ?_⟩ <;> simp [go_sem]
theorem Box5.set0 {w : World} {b : Nat} {x0 x1 x2 x3 x4 : Value} (v : Value) (h : Box5 w b x0 x1 x2 x3 x4) : Box5 (w.setCell ⟨b, 0, none⟩ v) b v x1 x2 x3 x4 := by
  obtain ⟨h0, h1, h2, h3, h4, z0, z1, z2, z3, z4⟩ := h
  exact ⟨World.cell?_setCell_same _ _ _ h0, (cell_set_ne (by omega)).trans h1, (cell_set_ne (by omega)).trans h2, (cell_set_ne (by omega)).trans h3, (cell_set_ne (by omega)).trans h4, by rw [World.frozen?_setCell]; exact z0, by rw [World.frozen?_setCell]; exact z1, by rw [World.frozen?_setCell]; exact z2, by rw [World.frozen?_setCell]; exact z3, by rw [World.frozen?_setCell]; exact z4⟩
theorem Box5.set1 {w : World} {b : Nat} {x0 x1 x2 x3 x4 : Value} (v : Value) (h : Box5 w b x0 x1 x2 x3 x4) : Box5 (w.setCell ⟨b, 1, none⟩ v) b x0 v x2 x3 x4 := by
  obtain ⟨h0, h1, h2, h3, h4, z0, z1, z2, z3, z4⟩ := h
  exact ⟨(cell_set_ne (by omega)).trans h0, World.cell?_setCell_same _ _ _ h1, (cell_set_ne (by omega)).trans h2, (cell_set_ne (by omega)).trans h3, (cell_set_ne (by omega)).trans h4, by rw [World.frozen?_setCell]; exact z0, by rw [World.frozen?_setCell]; exact z1, by rw [World.frozen?_setCell]; exact z2, by rw [World.frozen?_setCell]; exact z3, by rw [World.frozen?_setCell]; exact z4⟩
theorem Box5.set2 {w : World} {b : Nat} {x0 x1 x2 x3 x4 : Value} (v : Value) (h : Box5 w b x0 x1 x2 x3 x4) : Box5 (w.setCell ⟨b, 2, none⟩ v) b x0 x1 v x3 x4 := by
  obtain ⟨h0, h1, h2, h3, h4, z0, z1, z2, z3, z4⟩ := h
  exact ⟨(cell_set_ne (by omega)).trans h0, (cell_set_ne (by omega)).trans h1, World.cell?_setCell_same _ _ _ h2, (cell_set_ne (by omega)).trans h3, (cell_set_ne (by omega)).trans h4, by rw [World.frozen?_setCell]; exact z0, by rw [World.frozen?_setCell]; exact z1, by rw [World.frozen?_setCell]; exact z2, by rw [World.frozen?_setCell]; exact z3, by rw [World.frozen?_setCell]; exact z4⟩
theorem Box5.set3 {w : World} {b : Nat} {x0 x1 x2 x3 x4 : Value} (v : Value) (h : Box5 w b x0 x1 x2 x3 x4) : Box5 (w.setCell ⟨b, 3, none⟩ v) b x0 x1 x2 v x4 := by
  obtain ⟨h0, h1, h2, h3, h4, z0, z1, z2, z3, z4⟩ := h
  exact ⟨(cell_set_ne (by omega)).trans h0, (cell_set_ne (by omega)).trans h1, (cell_set_ne (by omega)).trans h2, World.cell?_setCell_same _ _ _ h3, (cell_set_ne (by omega)).trans h4, by rw [World.frozen?_setCell]; exact z0, by rw [World.frozen?_setCell]; exact z1, by rw [World.frozen?_setCell]; exact z2, by rw [World.frozen?_setCell]; exact z3, by rw [World.frozen?_setCell]; exact z4⟩
theorem Box5.set4 {w : World} {b : Nat} {x0 x1 x2 x3 x4 : Value} (v : Value) (h : Box5 w b x0 x1 x2 x3 x4) : Box5 (w.setCell ⟨b, 4, none⟩ v) b x0 x1 x2 x3 v := by
  obtain ⟨h0, h1, h2, h3, h4, z0, z1, z2, z3, z4⟩ := h
  exact ⟨(cell_set_ne (by omega)).trans h0, (cell_set_ne (by omega)).trans h1, (cell_set_ne (by omega)).trans h2, (cell_set_ne (by omega)).trans h3, World.cell?_setCell_same _ _ _ h4, by rw [World.frozen?_setCell]; exact z0, by rw [World.frozen?_setCell]; exact z1, by rw [World.frozen?_setCell]; exact z2, by rw [World.frozen?_setCell]; exact z3, by rw [World.frozen?_setCell]; exact z4⟩
theorem gr_set {w w1 : World} {g o : Nat} {v : Value} (h : Gr w w1) (hg : w.heap.size ≤ g) : Gr w (w1.setCell ⟨g, o, none⟩ v) :=
  ⟨h.os, h.tape, h.output, by simpa using h.size, fun i hi hne => by rw [Below.heap_setCell _ _ _ _ (by show i ≠ g; omega)]; exact h.block i hi hne⟩
theorem gr_frozen {w w' : World} (g : Gr w w') {p : Addr} {x : Value} (hx : w.cell? p = some x) (h : w.frozen? p = false) : w'.frozen? p = false :=
  (World.frozen?_of_block (g.block p.block (World.block_lt_of_cell? w p hx) (by simp))).trans h
theorem below_frozen {W w : World} (h : Below W.heap.size W w) {p : Addr} {x : Value} (hx : W.cell? p = some x) (hz : W.frozen? p = false) : w.frozen? p = false :=
  (h.frozen (World.block_lt_of_cell? W p hx)).trans hz
theorem Box5.below {w w' : World} {b : Nat} {x0 x1 x2 x3 x4 : Value} (h : Box5 w b x0 x1 x2 x3 x4) (g : Below w.heap.size w w') : Box5 w' b x0 x1 x2 x3 x4 := by
  obtain ⟨h0, h1, h2, h3, h4, z0, z1, z2, z3, z4⟩ := h
  exact ⟨below_cell g h0, below_cell g h1, below_cell g h2, below_cell g h3, below_cell g h4, below_frozen g h0 z0, below_frozen g h1 z1, below_frozen g h2 z2, below_frozen g h3 z3, below_frozen g h4 z4⟩
end Go.Proofs.YtkgncijcnlfhiaaDoor

namespace Go.Proofs.YtkgncijcnlfhiaaDoor
set_option linter.unusedVariables false
set_option linter.unusedSimpArgs false
open Go.RowKit

theorem asRef (v : Value) (w : World) : (Instr.typeAssert (.iface 83 v) 20 83 true).run Tryd.prog w = .ok (.tuple #[v, .bool true]) w := by kernel_rfl
/-- what was thrown, with the number of a function -/
def thrown3 (e n a : Int) : List PanicEntry := [{ v := .iface 83 (.agg #[.int .i64 e, .int .i64 n, .int .i64 a]), recovered := false }]
theorem Box3.below {w w' : World} {b : Nat} {x0 x1 x2 : Value} (h : Box3 w b x0 x1 x2) (g : Below w.heap.size w w') : Box3 w' b x0 x1 x2 := by
  obtain ⟨h0, h1, h2, z0, z1, z2⟩ := h
  exact ⟨below_cell g h0, below_cell g h1, below_cell g h2, below_frozen g h0 z0, below_frozen g h1 z1, below_frozen g h2 z2⟩
def put3 (w : World) (b : Nat) (x0 x1 x2 : Value) : World := ((w.setCell ⟨b, 0, none⟩ x0).setCell ⟨b, 1, none⟩ x1).setCell ⟨b, 2, none⟩ x2
theorem put3_eq (w : World) (b : Nat) (x0 x1 x2 : Value) : ((w.setCell ⟨b, 0, none⟩ x0).setCell ⟨b, 1, none⟩ x1).setCell ⟨b, 2, none⟩ x2 = put3 w b x0 x1 x2 := rfl
theorem put3_box {w : World} {b : Nat} {x0 x1 x2 : Value} (y0 y1 y2 : Value) (h : Box3 w b x0 x1 x2) : Box3 (put3 w b y0 y1 y2) b y0 y1 y2 := ((h.set0 y0).set1 y1).set2 y2
theorem put3_gc (w : World) (b : Nat) (y0 y1 y2 : Value) : Gc b w (put3 w b y0 y1 y2) := (((Gc.refl b w).set 0 y0).set 1 y1).set 2 y2

set_option maxRecDepth 100000 in
set_option maxHeartbeats 1000000 in
theorem of_any (e n a : Int) (w : World) :
    Calls Tryd.prog 56 #[.iface 83 (.agg #[.int .i64 e, .int .i64 n, .int .i64 a])] w fun x w' =>
      x = .returned (.agg #[.int .i64 e, .int .i64 n, .int .i64 a]) ∧ Gr w w' := by
  have hnot : ∀ (x : Bool) (w : World), (Op.unary .not (.bool x)).run Tryd.prog w = .ok (.bool (!x)) w := fun _ _ => rfl
  have has := fun (v : Value) (w : World) => asRef v w
  go_enter Tryd.func56, Tryd.ntmps56
  go_wp2
  exact bodyPost_ret (v := .agg #[.int .i64 e, .int .i64 n, .int .i64 a]) (by simp [results, Tryd.results56, go_sem]) rfl ⟨rfl, ((Gr.refl _).alloc _).alloc _⟩

set_option maxRecDepth 100000 in
set_option maxHeartbeats 1000000 in
theorem catch_any (wb : Nat) (e n a : Int) (x0 x1 x2 : Value) (older : List PanicEntry) (w : World) (hb : Box3 w wb x0 x1 x2) :
    CallsD Tryd.prog 55 #[.pointer (some ⟨wb, 0, none⟩)] (.panicking ({ v := .iface 83 (.agg #[.int .i64 e, .int .i64 n, .int .i64 a]), recovered := false } :: older)) w fun x u' w' =>
      x = .returned (.tuple #[]) ∧ u' = .panicking ({ v := .iface 83 (.agg #[.int .i64 e, .int .i64 n, .int .i64 a]), recovered := true } :: older) ∧ ∃ w1, Gr w w1 ∧ w' = put3 w1 wb (.int .i64 e) (.int .i64 n) (.int .i64 a) := by
  refine callsD_of_wpS Tryd.func55 rfl fun c₀ cs hmode => ?_
  apply wpS_seq
  apply wpS_region
  simp [wpOpsS, go_sem, recoverD, hmode, Tryd.ntmps55, Exit.thenS]
  refine wpS_of_wp ?_
  have har : (#[Value.pointer (some ⟨wb, 0, none⟩)] ++ ((Array.replicate 6 undef).setIfInBounds 1 (Value.iface 83 (Value.agg #[Value.int IntKind.i64 e, Value.int IntKind.i64 n, Value.int IntKind.i64 a]))).setIfInBounds 0 (Value.iface 83 (Value.agg #[Value.int IntKind.i64 e, Value.int IntKind.i64 n, Value.int IntKind.i64 a])) : Array Value) = #[Value.pointer (some ⟨wb, 0, none⟩), Value.iface 83 (Value.agg #[Value.int IntKind.i64 e, Value.int IntKind.i64 n, Value.int IntKind.i64 a]), Value.iface 83 (Value.agg #[Value.int IntKind.i64 e, Value.int IntKind.i64 n, Value.int IntKind.i64 a]), undef, undef, undef, undef] := rfl
  rw [har]
  clear har
  clear hmode
  go_wp2_with (go_at_call 56; refine (of_any e n a _).mono ?_; rintro x w1 ⟨rfl, hg1⟩; obtain ⟨h0, h1, h2, z0, z1, z2⟩ := hb.gr hg1)
  simp [bodyPostS, results, Tryd.results55]
  exact ⟨w1, hg1, rfl⟩

theorem idle_any (p : Addr) (w : World) :
    CallsD Tryd.prog 55 #[.pointer (some p)] .returning w fun x u' w' => x = .returned (.tuple #[]) ∧ u' = .returning ∧ w' = w := by
  refine callsD_of_wpS Tryd.func55 rfl fun c₀ cs hu => ?_
  apply wpS_seq
  apply wpS_region
  simp [wpOpsS, go_sem, recoverD, hu, Tryd.ntmps55, Exit.thenS]
  refine wpS_of_wp ?_
  have har : (#[Value.pointer (some p)] ++ ((Array.replicate 6 undef).setIfInBounds 1 Value.nilIface).setIfInBounds 0 Value.nilIface : Array Value) = #[Value.pointer (some p), Value.nilIface, Value.nilIface, undef, undef, undef, undef] := rfl
  rw [har]
  clear har
  go_wp2
  cases c₀
  simp_all [bodyPostS, results, Tryd.results55]

set_option maxRecDepth 100000 in
set_option maxHeartbeats 2000000 in
/-- the face: what the work does, and what became of it -/
theorem refusal_any (f : Nat) (caps : Array Value) (W : World) (ok : World → Prop) (bad : Int → Int → Int → World → Prop)
    (hen : ∀ w, (callFunc f caps).run Tryd.prog w = .ok (.enter f caps) w)
    (hw : Calls Tryd.prog f caps (W.alloc (.cells #[.int .i64 0, .int .i64 0, .int .i64 0] 83)) fun x w1 => Box3 w1 W.heap.size (.int .i64 0) (.int .i64 0) (.int .i64 0) ∧ ((x = .returned (.tuple #[]) ∧ ok w1) ∨ ∃ e n a, x = .panicked (thrown3 e n a) ∧ bad e n a w1)) :
    Calls Tryd.prog 30 #[.func (.func f) #[] caps] W fun x w' => ∃ w1, Gc W.heap.size w1 w' ∧ W.heap.size < w1.heap.size ∧ ((x = .returned (.agg #[.int .i64 0, .int .i64 0, .int .i64 0]) ∧ ok w1) ∨ ∃ e n a, x = .returned (.agg #[.int .i64 e, .int .i64 n, .int .i64 a]) ∧ bad e n a w1) := by
  have hmf : ∀ (fn : Fn) (first cap : Array Value) (w : World), (Instr.makeFunc fn first cap).run Tryd.prog w = .ok (.func fn first cap) w := fun _ _ _ _ => rfl
  have HW := hide hw
  clear hw
  go_enter_defers Tryd.func30, Tryd.ntmps30
  go_wp2_with fail

  refine HW.out.mono ?_
  clear HW hen
  rintro x w1 ⟨hb, h⟩
  have hws : W.heap.size < w1.heap.size := World.block_lt_of_cell? w1 _ hb.1
  rcases h with ⟨rfl, hok⟩ | ⟨e, n, a, rfl, hbad⟩
  · have HO := hide hok
    have hb2 := put3_box (.int .i64 0) (.int .i64 0) (.int .i64 0) hb
    obtain ⟨h0, h1, h2, z0, z1, z2⟩ := hb
    clear hok hmf
    go_wp2
    refine leaves_cons (f := 55) (args := #[.pointer (some ⟨W.heap.size, 0, none⟩)]) (by simp) (by simp [go_sem]) ?_
    refine (idle_any _ _).mono ?_
    rintro e u' w'' ⟨rfl, rfl, rfl⟩
    rw [put3_eq]
    obtain ⟨h0, h1, h2, z0, z1, z2⟩ := hb2
    simp [Leaves, settle, results, Tryd.results30, go_sem, h0, h1, h2]
    exact ⟨w1, put3_gc _ _ _ _ _, hws, .inl HO.out⟩
  · have HO := hide hbad
    clear hbad hmf
    refine leaves_cons (f := 55) (args := #[.pointer (some ⟨W.heap.size, 0, none⟩)]) (by simp) (by simp [go_sem]) ?_
    refine (catch_any W.heap.size e n a _ _ _ [] w1 hb).mono ?_
    rintro x u' w'' ⟨rfl, rfl, w2, hg2, rfl⟩
    obtain ⟨h0, h1, h2, z0, z1, z2⟩ := put3_box (.int .i64 e) (.int .i64 n) (.int .i64 a) (hb.gr hg2)
    have HG := hide (hg2.toGc.trans (put3_gc w2 W.heap.size (.int .i64 e) (.int .i64 n) (.int .i64 a)))
    clear hg2 hb
    generalize put3 w2 W.heap.size (.int .i64 e) (.int .i64 n) (.int .i64 a) = WF at h0 h1 h2 z0 z1 z2 HG ⊢
    simp [Leaves, settle, results, Tryd.results30, go_sem, h0, h1, h2]
    exact ⟨w1, HG.out, hws, .inr ⟨e, n, a, ⟨rfl, rfl, rfl⟩, HO.out⟩⟩

end Go.Proofs.YtkgncijcnlfhiaaDoor

namespace Go.Proofs.YtkgncijcnlfhiaaDoor
set_option linter.unusedVariables false
set_option linter.unusedSimpArgs false
open Go.RowKit
attribute [local go_sem ↓] Go.wp_at_zero Go.wp_at_succ

/-- a unit in new memory: all its blocks from B on -/
def RUnitF (B : Nat) (w : World) (v : Value) (u : PUnit) : Prop :=
  ∃ v1 v2 v3 v4 v5, v = .agg #[v1, v2, v3, v4, v5] ∧ RShapesF B w v1 u.shapes ∧ RIntsF B w v2 u.consts ∧ RFuncsF B w v3 u.funcs ∧ RImportsF B w v4 u.imports ∧ RExportsF B w v5 u.exports
theorem RUnitF.to {B : Nat} {w : World} {v : Value} {u : PUnit} (h : RUnitF B w v u) : RUnit w v u := by
  obtain ⟨v1, v2, v3, v4, v5, h, h1, h2, h3, h4, h5⟩ := h
  exact ⟨v1, v2, v3, v4, v5, h, h1.to, h2.to, h3.to, h4.to, h5.to⟩
theorem RUnitF.kp {B : Nat} {w w' : World} {v : Value} {u : PUnit} (h : RUnitF B w v u) (g : Kp B w w') : RUnitF B w' v u := by
  obtain ⟨v1, v2, v3, v4, v5, h, h1, h2, h3, h4, h5⟩ := h
  exact ⟨v1, v2, v3, v4, v5, h, h1.kp g, h2.kp g, h3.kp g, h4.kp g, h5.kp g⟩
/-- a unit that was made: each of its lists in a block of its own -/
def RUnitG (B : Nat) (w : World) (v : Value) (u : PUnit) : Prop :=
  ∃ v1 v2 v3 v4 v5 a1 b1 a2 b2 a3 b3 a4 b4 a5 b5, v = .agg #[v1, v2, v3, v4, v5] ∧ (B ≤ a1 ∧ a1 ≤ b1 ∧ b1 ≤ a2 ∧ a2 ≤ b2 ∧ b2 ≤ a3 ∧ a3 ≤ b3 ∧ b3 ≤ a4 ∧ a4 ≤ b4 ∧ b4 ≤ a5 ∧ a5 ≤ b5) ∧
    Iv RShapesG a1 b1 w v1 u.shapes ∧ Iv RIntsG a2 b2 w v2 u.consts ∧ Iv RFuncsG a3 b3 w v3 u.funcs ∧ Iv RImportsG a4 b4 w v4 u.imports ∧ Iv RExportsG a5 b5 w v5 u.exports
theorem Iv.shapes {a b : Nat} {w : World} {v : Value} {l : List (List Int)} (h : Iv RShapesG a b w v l) : RShapesG a w v l := by
  obtain ⟨W, _, h2, h3⟩ := h; exact h2.kp h3
theorem Iv.ints {a b : Nat} {w : World} {v : Value} {l : List Int} (h : Iv RIntsG a b w v l) : RIntsG a w v l := by
  obtain ⟨W, _, h2, h3⟩ := h; exact h2.kp h3
theorem Iv.funcs {a b : Nat} {w : World} {v : Value} {l : List PFunc} (h : Iv RFuncsG a b w v l) : RFuncsG a w v l := by
  obtain ⟨W, _, h2, h3⟩ := h; exact h2.kp h3
theorem Iv.imps {a b : Nat} {w : World} {v : Value} {l : List PImp} (h : Iv RImportsG a b w v l) : RImportsG a w v l := by
  obtain ⟨W, _, h2, h3⟩ := h; exact h2.kp h3
theorem Iv.exps {a b : Nat} {w : World} {v : Value} {l : List PExp} (h : Iv RExportsG a b w v l) : RExportsG a w v l := by
  obtain ⟨W, _, h2, h3⟩ := h; exact h2.kp h3
theorem RUnitG.kp {B : Nat} {w w' : World} {v : Value} {u : PUnit} (h : RUnitG B w v u) (g : Kp B w w') : RUnitG B w' v u := by
  obtain ⟨v1, v2, v3, v4, v5, a1, b1, a2, b2, a3, b3, a4, b4, a5, b5, h, hb, h1, h2, h3, h4, h5⟩ := h
  exact ⟨v1, v2, v3, v4, v5, a1, b1, a2, b2, a3, b3, a4, b4, a5, b5, h, hb, h1.kp (g.mono (by omega)), h2.kp (g.mono (by omega)), h3.kp (g.mono (by omega)), h4.kp (g.mono (by omega)), h5.kp (g.mono (by omega))⟩
theorem RUnitG.shape {B : Nat} {w : World} {v : Value} {u : PUnit} (h : RUnitG B w v u) : ∃ a1 c1 a2 c2 a3 c3 a4 c4 a5 c5, v = .agg #[.slice a1 u.shapes.length c1, .slice a2 u.consts.length c2, .slice a3 u.funcs.length c3, .slice a4 u.imports.length c4, .slice a5 u.exports.length c5] := by
  obtain ⟨v1, v2, v3, v4, v5, a1, b1, a2, b2, a3, b3, a4, b4, a5, b5, rfl, hb, h1, h2, h3, h4, h5⟩ := h
  obtain ⟨a1, c1, rfl⟩ := h1.shapes.shape
  obtain ⟨a2, c2, rfl⟩ := h2.ints.shape
  obtain ⟨a3, c3, rfl⟩ := h3.funcs.shape
  obtain ⟨a4, c4, rfl⟩ := h4.imps.shape
  obtain ⟨a5, c5, rfl⟩ := h5.exps.shape
  exact ⟨_, _, _, _, _, _, _, _, _, _, rfl⟩
end Go.Proofs.YtkgncijcnlfhiaaDoor

namespace Go.Proofs.YtkgncijcnlfhiaaDoor
set_option linter.unusedVariables false
set_option linter.unusedSimpArgs false
open Go.RowKit
attribute [local go_sem ↓] Go.wp_at_zero Go.wp_at_succ
theorem RShapesF.shape {B : Nat} {w : World} {v : Value} {l : List (List Int)} (h : RShapesF B w v l) : ∃ ao cap, v = .slice ao l.length cap := by
  obtain ⟨ao, cap, hv, _⟩ := h; exact ⟨ao, cap, hv⟩
theorem RFuncsF.shape {B : Nat} {w : World} {v : Value} {l : List PFunc} (h : RFuncsF B w v l) : ∃ ao cap, v = .slice ao l.length cap := by
  obtain ⟨ao, cap, hv, _⟩ := h; exact ⟨ao, cap, hv⟩
theorem RImportsF.shape {B : Nat} {w : World} {v : Value} {l : List PImp} (h : RImportsF B w v l) : ∃ ao cap, v = .slice ao l.length cap := by
  obtain ⟨ao, cap, hv, _⟩ := h; exact ⟨ao, cap, hv⟩
theorem RExportsF.shape {B : Nat} {w : World} {v : Value} {l : List PExp} (h : RExportsF B w v l) : ∃ ao cap, v = .slice ao l.length cap := by
  obtain ⟨ao, cap, hv, _⟩ := h; exact ⟨ao, cap, hv⟩
theorem RShapesF.mono {B B' : Nat} {w : World} {v : Value} {l : List (List Int)} (h : RShapesF B' w v l) (hB : B ≤ B') : RShapesF B w v l := by
  obtain ⟨ao, cap, hv, hm, hc⟩ := h
  refine ⟨ao, cap, hv, hm, fun i x hi => ?_⟩
  obtain ⟨b, off, vx, h1, h2, h3, h4⟩ := hc i x hi
  exact ⟨b, off, vx, h1, Nat.le_trans hB h2, h3, h4.mono hB⟩
theorem RFuncsF.mono {B B' : Nat} {w : World} {v : Value} {l : List PFunc} (h : RFuncsF B' w v l) (hB : B ≤ B') : RFuncsF B w v l := by
  obtain ⟨ao, cap, hv, hm, hc⟩ := h
  refine ⟨ao, cap, hv, hm, fun i x hi => ?_⟩
  obtain ⟨b, off, vp, vl, vc, h1, h2, h3, h4, h5, h6, h7, h8, h9⟩ := hc i x hi
  exact ⟨b, off, vp, vl, vc, h1, Nat.le_trans hB h2, h3, h4, h5, h6, h7.mono hB, h8.mono hB, h9.mono hB⟩
theorem RImportsF.mono {B B' : Nat} {w : World} {v : Value} {l : List PImp} (h : RImportsF B' w v l) (hB : B ≤ B') : RImportsF B w v l := by
  obtain ⟨ao, cap, hv, hm, hc⟩ := h
  refine ⟨ao, cap, hv, hm, fun i x hi => ?_⟩
  obtain ⟨b, off, vs, vp, h1, h2, h3, h4, h5, h6, h7⟩ := hc i x hi
  exact ⟨b, off, vs, vp, h1, Nat.le_trans hB h2, h3, h4, h5, h6, h7.mono hB⟩
theorem RExportsF.mono {B B' : Nat} {w : World} {v : Value} {l : List PExp} (h : RExportsF B' w v l) (hB : B ≤ B') : RExportsF B w v l := by
  obtain ⟨ao, cap, hv, hm, hc⟩ := h
  refine ⟨ao, cap, hv, hm, fun i x hi => ?_⟩
  obtain ⟨b, off, vs, h1, h2, h3, h4, h5⟩ := hc i x hi
  exact ⟨b, off, vs, h1, Nat.le_trans hB h2, h3, h4, h5⟩
theorem RUnitG.f {B : Nat} {w : World} {v : Value} {u : PUnit} (h : RUnitG B w v u) : RUnitF B w v u := by
  obtain ⟨v1, v2, v3, v4, v5, a1, b1, a2, b2, a3, b3, a4, b4, a5, b5, h, hb, h1, h2, h3, h4, h5⟩ := h
  exact ⟨v1, v2, v3, v4, v5, h, h1.shapes.f.mono (by omega), h2.ints.f.mono (by omega), h3.funcs.f.mono (by omega), h4.imps.f.mono (by omega), h5.exps.f.mono (by omega)⟩
theorem Sec.set {w : World} {sb g o : Nat} {v : Value} {t : List UInt8} {p : Nat} (h : Sec w sb t p) (hne : ¬ g = sb) : Sec (w.setCell ⟨g, o, none⟩ v) sb t p := by
  obtain ⟨⟨s, h0, hs⟩, hl, hp, h1, z1⟩ := h
  have hc : ∀ q, (w.setCell ⟨g, o, none⟩ v).cell? ⟨sb, q, none⟩ = w.cell? ⟨sb, q, none⟩ := fun q => World.cell?_setCell_other w _ _ _ (by intro e; simp only [Addr.mk.injEq] at e; exact hne e.1)
  exact ⟨⟨s, (hc 0).trans h0, hs⟩, hl, hp, (hc 1).trans h1, by rw [World.frozen?_setCell]; exact z1⟩
theorem Box2.gr {w w' : World} {b : Nat} {x0 x1 : Value} (h : Box2 w b x0 x1) (g : Gr w w') : Box2 w' b x0 x1 := h.gc (cb := b + 1) g.toGc (by omega)
theorem Box3.put {w : World} {b : Nat} {x0 x1 x2 : Value} (v v' v2 : Value) (h : Box3 w b x0 x1 x2) : Box3 (((w.setCell ⟨b, 0, none⟩ v).setCell ⟨b, 1, none⟩ v').setCell ⟨b, 2, none⟩ v2) b v v' v2 := ((h.set0 v).set1 v').set2 v2
end Go.Proofs.YtkgncijcnlfhiaaDoor

namespace Go.Proofs.YtkgncijcnlfhiaaDoor
set_option linter.unusedVariables false
set_option linter.unusedSimpArgs false
open Go.RowKit
attribute [local go_sem ↓] Go.wp_at_zero Go.wp_at_succ
theorem Sec.new (w : World) (s : ByteArray) (t : List UInt8) (hs : s.data.toList = t) (hl : t.length ≤ 1000000) (h5 : 5 ≤ t.length) : Sec (w.alloc (.cells #[.string s, .int .i64 5] 133)) w.heap.size t 5 := by
  refine ⟨⟨s, by simp [go_sem], hs⟩, hl, h5, by simp [go_sem], by simp [go_sem]⟩

end Go.Proofs.YtkgncijcnlfhiaaDoor

namespace Go.Proofs.YtkgncijcnlfhiaaDoor
set_option linter.unusedVariables false
set_option linter.unusedSimpArgs false
open Go.RowKit
/-- the five cells of a unit, written anew -/
def put5 (w : World) (b : Nat) (x0 x1 x2 x3 x4 : Value) : World := ((((w.setCell ⟨b, 0, none⟩ x0).setCell ⟨b, 1, none⟩ x1).setCell ⟨b, 2, none⟩ x2).setCell ⟨b, 3, none⟩ x3).setCell ⟨b, 4, none⟩ x4
theorem put5_eq (w : World) (b : Nat) (x0 x1 x2 x3 x4 : Value) : ((((w.setCell ⟨b, 0, none⟩ x0).setCell ⟨b, 1, none⟩ x1).setCell ⟨b, 2, none⟩ x2).setCell ⟨b, 3, none⟩ x3).setCell ⟨b, 4, none⟩ x4 = put5 w b x0 x1 x2 x3 x4 := rfl
theorem put5_box {w : World} {b : Nat} {x0 x1 x2 x3 x4 : Value} (y0 y1 y2 y3 y4 : Value) (h : Box5 w b x0 x1 x2 x3 x4) : Box5 (put5 w b y0 y1 y2 y3 y4) b y0 y1 y2 y3 y4 := ((((h.set0 y0).set1 y1).set2 y2).set3 y3).set4 y4
theorem put5_gr {w w1 : World} {b : Nat} {y0 y1 y2 y3 y4 : Value} (h : Gr w w1) (hb : w.heap.size ≤ b) : Gr w (put5 w1 b y0 y1 y2 y3 y4) := gr_set (gr_set (gr_set (gr_set (gr_set h hb) hb) hb) hb) hb
end Go.Proofs.YtkgncijcnlfhiaaDoor

namespace Go.Proofs.YtkgncijcnlfhiaaDoor
set_option linter.unusedVariables false
set_option linter.unusedSimpArgs false
open Go.RowKit

structure Ap (base : Nat) (e : TypeId) (n : Nat) (w : World) (v : Value) (w' : World) (v' : Value) (len : Nat) (xs : List Value) : Prop where
  own : w'.ownsRow base e n v' len xs
  frm : w.grownBy w' v.ownBlock
  lies : ∀ k, v'.ownBlock = some k → v.ownBlock = some k ∨ w.heap.size ≤ k

theorem cells_new (w : World) (ys : Array Value) (t : TypeId) : ∀ j u, ys.toList[j]? = some u → (w.alloc (.cells ys t)).cell? ((⟨w.heap.size, 0, none⟩ : Addr).add j) = some u := by
  intro j u hj
  have e : (⟨w.heap.size, 0, none⟩ : Addr).add j = ⟨w.heap.size, j, none⟩ := by simp [Addr.add]; try (intro h; exact h.symm)
  rw [e]
  have h := World.cell?_alloc_mark w ys t (0, 0) j
  exact h.trans (by rw [← Array.getElem?_toList]; exact hj)
section
variable {ops : Array Oper} {rest : List Oper} {o : Oper} {a : Act} {Q : Exit → Act → World → Prop}
/-- append of one element, whose cells lie in a block of their own -/
theorem wpList_append_vals (w : World) (hgd : o.guard = none) (s x : Operand) (t e : TypeId) (n bytes : Nat) (zero : Value) (inf : (Tryd.prog.info? e).map (fun i => (i.zero, i.size, i.bytes)) = some (some zero, n, bytes)) (ht : Tryd.prog.underlying t = some (.slice e)) (hzs : zero.cells.size = n) (hn : 0 < n) (hby : bytes ≤ 1000)
    (ho : o.op = .call { callee := .builtin .append, args := #[s, x], argTypes := #[t, t] })
    (base : Nat) (v : Value) (len : Nat) (xs : List Value) (hs : a.eval s = v) (hown : w.ownsRow base e n v len xs) (ys : Array Value) (hys : ys.size = n) (h1 : ∀ u ∈ ys.toList, u.oneCell' = true)
    (H : Nat) (hx : a.eval x = .slice (some ⟨H, 0, none⟩) 1 1) (hH : w.heap.size = H) (hlen : len ≤ 10000000) (hbase : base ≤ w.heap.size)
    (h : ∀ v' w', Ap base e n w v w' v' (len + 1) (xs ++ ys.toList) → wpList Tryd.prog ops Q rest (a.put o.dst v') w') :
    wpList Tryd.prog ops Q (o :: rest) a (w.alloc (.cells ys e)) := by
  subst hH
  obtain ⟨i0, hi, hz0, hz1, hz2⟩ := info_parts inf
  refine wpList_append_own_at _ hgd s x t ho base e i0 zero n bytes ht hi hz0 hz1 hz2 hzs hn v len xs hs (hown.alloc _) ⟨w.heap.size, 0, none⟩ 1 1 ys.toList hx (by rw [Array.length_toList, hys, Nat.one_mul]) (cells_new _ _ _) h1 (by unfold maxLen; omega) (Nat.le_trans (Nat.mul_le_mul (Nat.add_le_add_right hlen 1) hby) (by decide)) (by simp; omega) ?_
  intro v' w' k1 k2 _ k4
  refine h v' w' ⟨k1, (World.grownBy_alloc w _ _).trans k2, fun k hk => ?_⟩
  rcases k4 with e | e
  · exact .inl (e ▸ hk)
  · rw [hk] at e; simp at e; right; omega
end

end Go.Proofs.YtkgncijcnlfhiaaDoor

