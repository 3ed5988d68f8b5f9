import Derived.Test.YtkgncijcnlfhiaaDoorNi
import Derived.Test.YtkgncijcnlfhiaaDoorV0
namespace Go.Proofs.YtkgncijcnlfhiaaDoor
set_option linter.unusedVariables false
set_option linter.unusedSimpArgs false
open Go.RowKit
attribute [local go_sem ↓] Go.wp_at_zero Go.wp_at_succ
theorem Tryd.callCpI (vals : Array Value) (w : World) : (callFunc 144 vals).run Tryd.prog w = .ok (.enter 144 vals) w := by kernel_rfl
theorem Tryd.callRen (vals : Array Value) (w : World) : (callFunc 160 vals).run Tryd.prog w = .ok (.enter 160 vals) w := by kernel_rfl
theorem Tryd.callClo (vals : Array Value) (w : World) : (callFunc 158 vals).run Tryd.prog w = .ok (.enter 158 vals) w := by kernel_rfl
theorem Tryd.infFn : (Tryd.prog.info? 76).map (·.size) = some 4 := by kernel_rfl
theorem Tryd.infEx : (Tryd.prog.info? 81).map (·.size) = some 2 := by kernel_rfl
def mvF (N : List UInt8 → Option (PFunc × Int)) (u : PUnit) (c f : Nat) (g : PFunc) : PFunc := { g with code := g.code.map (mvI N u c f) }
/-- two values that own no block together -/
def Apt (v v' : Value) : Prop := ∀ k, v.ownBlock = some k → ¬ v'.ownBlock = some k
theorem Apt.symm {v v' : Value} (h : Apt v v') : Apt v' v := fun k h1 h2 => h k h2 h1
def FnR (g : PFunc) (w : World) (x : Ending) (w' : World) : Prop := ∃ vp vl vc, x = .returned (.agg #[vp, .int .i64 g.result, vl, vc]) ∧ w'.ownsRow w.heap.size 3 1 vp g.params.length (ivL g.params) ∧ w'.ownsRow w.heap.size 3 1 vl g.locals.length (ivL g.locals) ∧ w'.ownsRow w.heap.size 91 3 vc g.code.length (g.code.flatMap cC) ∧ Apt vp vl ∧ Apt vp vc ∧ Apt vl vc ∧ Gr w w'
theorem mv_at {α : Type} {m : α → α} {l : List α} {k : Nat} {x : α} (h : l[k]? = some x) : ((l.take k).map m ++ l.drop k)[k]? = some x ∧ ((l.take k).map m ++ l.drop k).set k (m x) = (l.take (k + 1)).map m ++ l.drop (k + 1) := by
  obtain ⟨hk, rfl⟩ := List.getElem?_eq_some_iff.1 h
  have e : ((l.take k).map m).length = k := by simp; omega
  constructor
  · rw [List.getElem?_append_right (by omega), e, Nat.sub_self, List.drop_eq_getElem_cons hk]; rfl
  · rw [List.set_append_right _ _ (by omega), e, Nat.sub_self, List.drop_eq_getElem_cons hk, List.set_cons_zero, List.take_succ_eq_append_getElem hk, List.map_append, List.append_assoc]; rfl
theorem ownbase {w : World} {b b' : Nat} {e : TypeId} {size : Nat} {v : Value} {n : Nat} {xs : List Value} (h : w.ownsRow b e size v n xs) (hb : b' ≤ b) : w.ownsRow b' e size v n xs := by
  refine ⟨h.1, ?_⟩
  rcases h.2 with h | ⟨g, cap, cur, e1, e2, r⟩
  · exact .inl h
  · exact .inr ⟨g, cap, cur, e1, Nat.le_trans hb e2, r⟩
theorem grown_new {W w w' : World} {cb : Nat} (h : Gr W w) (g : w.grownBy w' (some cb)) (hc : W.heap.size ≤ cb) : Gr W w' := gr_big h g hc
theorem gr_row_ {W w : World} {g : Nat} {cs : Array Value} (h : Gr W w) (hg : W.heap.size ≤ g) : Gr W (w.setRow g cs) :=
  ⟨h.os, h.tape, h.output, by simpa using h.size, fun i hi hne => by rw [setRow_other w g i cs (by omega)]; exact h.block i hi hne⟩
theorem own_two {w w2 : World} {b b2 : Nat} {e e2 : TypeId} {s s2 : Nat} {v v2 : Value} {n n2 : Nat} {xs xs2 : List Value} (h : w.ownsRow b e s v n xs) (h2 : w2.ownsRow b2 e2 s2 v2 n2 xs2) (hb : w.heap.size ≤ b2) : Apt v v2 := fun k h1 h3 => by
  have := (h.lt k h1).2
  have := (h2.lt k h3).1
  omega

set_option maxRecDepth 100000 in
set_option maxHeartbeats 4000000 in
theorem mfunc_any (W : World) (u : PUnit) (mb c f : Nat) (N : List UInt8 → Option (PFunc × Int)) (a1 a2 a3 a4 a5 : Option Addr) (c1 c2 c3 c4 c5 : Nat) (g : PFunc) (ap al ac : Option Addr) (cp cl cc : Nat) (w : World) (hM : MvAt W w u mb N a3 c3 a4 c4) (hc : c ≤ 1000) (hf : f ≤ 1000)
    (rp : RInts w (.slice ap g.params.length cp) g.params) (rl : RInts w (.slice al g.locals.length cl) g.locals) (rc : RCode w (.slice ac g.code.length cc) g.code) (hgp : g.params.length ≤ 1000) (hgl : g.locals.length ≤ 1000) (hgc : g.code.length ≤ 1000) (hok : g.code.all insOk = true) :
    Calls Tryd.prog 145 #[.agg #[.slice a1 u.shapes.length c1, .slice a2 u.consts.length c2, .slice a3 u.funcs.length c3, .slice a4 u.imports.length c4, .slice a5 u.exports.length c5, .map (some mb), .int .i64 (c : Int), .int .i64 (f : Int)], .agg #[.slice ap g.params.length cp, .int .i64 g.result, .slice al g.locals.length cl, .slice ac g.code.length cc]] w (FnR (mvF N u c f g) w) := by
  have hb0 := heap_alloc_new w (.cells #[.slice a1 u.shapes.length c1, .slice a2 u.consts.length c2, .slice a3 u.funcs.length c3, .slice a4 u.imports.length c4, .slice a5 u.exports.length c5, .map (some mb), .int .i64 (c : Int), .int .i64 (f : Int)] 213)
  have hb1 := heap_alloc_new (w.alloc (.cells #[.slice a1 u.shapes.length c1, .slice a2 u.consts.length c2, .slice a3 u.funcs.length c3, .slice a4 u.imports.length c4, .slice a5 u.exports.length c5, .map (some mb), .int .i64 (c : Int), .int .i64 (f : Int)] 213)) (.cells #[.slice ap g.params.length cp, .int .i64 g.result, .slice al g.locals.length cl, .slice ac g.code.length cc] 76)
  have hb2 := heap_alloc_new ((w.alloc (.cells #[.slice a1 u.shapes.length c1, .slice a2 u.consts.length c2, .slice a3 u.funcs.length c3, .slice a4 u.imports.length c4, .slice a5 u.exports.length c5, .map (some mb), .int .i64 (c : Int), .int .i64 (f : Int)] 213)).alloc (.cells #[.slice ap g.params.length cp, .int .i64 g.result, .slice al g.locals.length cl, .slice ac g.code.length cc] 76)) (.cells #[.slice none 0 0, .int .i64 0, .slice none 0 0, .slice none 0 0] 76)
  have s1 : (w.alloc (.cells #[.slice a1 u.shapes.length c1, .slice a2 u.consts.length c2, .slice a3 u.funcs.length c3, .slice a4 u.imports.length c4, .slice a5 u.exports.length c5, .map (some mb), .int .i64 (c : Int), .int .i64 (f : Int)] 213)).heap.size = w.heap.size + 1 := by simp
  have s2 : ((w.alloc (.cells #[.slice a1 u.shapes.length c1, .slice a2 u.consts.length c2, .slice a3 u.funcs.length c3, .slice a4 u.imports.length c4, .slice a5 u.exports.length c5, .map (some mb), .int .i64 (c : Int), .int .i64 (f : Int)] 213)).alloc (.cells #[.slice ap g.params.length cp, .int .i64 g.result, .slice al g.locals.length cl, .slice ac g.code.length cc] 76)).heap.size = w.heap.size + 2 := by simp
  have s3 : (((w.alloc (.cells #[.slice a1 u.shapes.length c1, .slice a2 u.consts.length c2, .slice a3 u.funcs.length c3, .slice a4 u.imports.length c4, .slice a5 u.exports.length c5, .map (some mb), .int .i64 (c : Int), .int .i64 (f : Int)] 213)).alloc (.cells #[.slice ap g.params.length cp, .int .i64 g.result, .slice al g.locals.length cl, .slice ac g.code.length cc] 76)).alloc (.cells #[.slice none 0 0, .int .i64 0, .slice none 0 0, .slice none 0 0] 76)).heap.size = w.heap.size + 3 := by simp
  rw [s1] at hb1
  rw [s2] at hb2
  have hg3 : Gr w (((w.alloc (.cells #[.slice a1 u.shapes.length c1, .slice a2 u.consts.length c2, .slice a3 u.funcs.length c3, .slice a4 u.imports.length c4, .slice a5 u.exports.length c5, .map (some mb), .int .i64 (c : Int), .int .i64 (f : Int)] 213)).alloc (.cells #[.slice ap g.params.length cp, .int .i64 g.result, .slice al g.locals.length cl, .slice ac g.code.length cc] 76)).alloc (.cells #[.slice none 0 0, .int .i64 0, .slice none 0 0, .slice none 0 0] 76)) := (((Gr.refl w).alloc _).alloc _).alloc _
  have g2 : Gr ((w.alloc (.cells #[.slice a1 u.shapes.length c1, .slice a2 u.consts.length c2, .slice a3 u.funcs.length c3, .slice a4 u.imports.length c4, .slice a5 u.exports.length c5, .map (some mb), .int .i64 (c : Int), .int .i64 (f : Int)] 213)).alloc (.cells #[.slice ap g.params.length cp, .int .i64 g.result, .slice al g.locals.length cl, .slice ac g.code.length cc] 76)) (((w.alloc (.cells #[.slice a1 u.shapes.length c1, .slice a2 u.consts.length c2, .slice a3 u.funcs.length c3, .slice a4 u.imports.length c4, .slice a5 u.exports.length c5, .map (some mb), .int .i64 (c : Int), .int .i64 (f : Int)] 213)).alloc (.cells #[.slice ap g.params.length cp, .int .i64 g.result, .slice al g.locals.length cl, .slice ac g.code.length cc] 76)).alloc (.cells #[.slice none 0 0, .int .i64 0, .slice none 0 0, .slice none 0 0] 76)) := (Gr.refl _).alloc _
  have g1 : Gr (w.alloc (.cells #[.slice a1 u.shapes.length c1, .slice a2 u.consts.length c2, .slice a3 u.funcs.length c3, .slice a4 u.imports.length c4, .slice a5 u.exports.length c5, .map (some mb), .int .i64 (c : Int), .int .i64 (f : Int)] 213)) (((w.alloc (.cells #[.slice a1 u.shapes.length c1, .slice a2 u.consts.length c2, .slice a3 u.funcs.length c3, .slice a4 u.imports.length c4, .slice a5 u.exports.length c5, .map (some mb), .int .i64 (c : Int), .int .i64 (f : Int)] 213)).alloc (.cells #[.slice ap g.params.length cp, .int .i64 g.result, .slice al g.locals.length cl, .slice ac g.code.length cc] 76)).alloc (.cells #[.slice none 0 0, .int .i64 0, .slice none 0 0, .slice none 0 0] 76)) := ((Gr.refl _).alloc _).alloc _
  have KH : Hid (∀ w', Gr (((w.alloc (.cells #[.slice a1 u.shapes.length c1, .slice a2 u.consts.length c2, .slice a3 u.funcs.length c3, .slice a4 u.imports.length c4, .slice a5 u.exports.length c5, .map (some mb), .int .i64 (c : Int), .int .i64 (f : Int)] 213)).alloc (.cells #[.slice ap g.params.length cp, .int .i64 g.result, .slice al g.locals.length cl, .slice ac g.code.length cc] 76)).alloc (.cells #[.slice none 0 0, .int .i64 0, .slice none 0 0, .slice none 0 0] 76)) w' → w'.heap[w.heap.size]? = some (.cells #[.slice a1 u.shapes.length c1, .slice a2 u.consts.length c2, .slice a3 u.funcs.length c3, .slice a4 u.imports.length c4, .slice a5 u.exports.length c5, .map (some mb), .int .i64 (c : Int), .int .i64 (f : Int)] 213 (0, 0)) ∧ w'.heap[w.heap.size + 1]? = some (.cells #[.slice ap g.params.length cp, .int .i64 g.result, .slice al g.locals.length cl, .slice ac g.code.length cc] 76 (0, 0)) ∧ w'.heap[w.heap.size + 2]? = some (.cells #[.slice none 0 0, .int .i64 0, .slice none 0 0, .slice none 0 0] 76 (0, 0))) := hide (fun w' g =>
    ⟨((g1.trans g).block w.heap.size (by rw [s1]; omega) (by simp)).trans hb0, ((g2.trans g).block (w.heap.size + 1) (by rw [s2]; omega) (by simp)).trans hb1, (g.block (w.heap.size + 2) (by rw [s3]; omega) (by simp)).trans hb2⟩)
  have KM : Hid (∀ w', Gr (((w.alloc (.cells #[.slice a1 u.shapes.length c1, .slice a2 u.consts.length c2, .slice a3 u.funcs.length c3, .slice a4 u.imports.length c4, .slice a5 u.exports.length c5, .map (some mb), .int .i64 (c : Int), .int .i64 (f : Int)] 213)).alloc (.cells #[.slice ap g.params.length cp, .int .i64 g.result, .slice al g.locals.length cl, .slice ac g.code.length cc] 76)).alloc (.cells #[.slice none 0 0, .int .i64 0, .slice none 0 0, .slice none 0 0] 76)) w' → w'.cell? ⟨w.heap.size, 0, none⟩ = some (.slice a1 u.shapes.length c1) ∧ w'.cell? ⟨w.heap.size, 1, none⟩ = some (.slice a2 u.consts.length c2) ∧ w'.cell? ⟨w.heap.size, 2, none⟩ = some (.slice a3 u.funcs.length c3) ∧ w'.cell? ⟨w.heap.size, 3, none⟩ = some (.slice a4 u.imports.length c4) ∧ w'.cell? ⟨w.heap.size, 4, none⟩ = some (.slice a5 u.exports.length c5) ∧ w'.cell? ⟨w.heap.size, 5, none⟩ = some (.map (some mb)) ∧ w'.cell? ⟨w.heap.size, 6, none⟩ = some (.int .i64 (c : Int)) ∧ w'.cell? ⟨w.heap.size, 7, none⟩ = some (.int .i64 (f : Int))) := hide (fun w' g => by
    have e0 := (KH.out w' g).1
    refine ⟨?_, ?_, ?_, ?_, ?_, ?_, ?_, ?_⟩ <;> (rw [hcell_ e0]; rfl))
  have KF : Hid (∀ w', Gr (((w.alloc (.cells #[.slice a1 u.shapes.length c1, .slice a2 u.consts.length c2, .slice a3 u.funcs.length c3, .slice a4 u.imports.length c4, .slice a5 u.exports.length c5, .map (some mb), .int .i64 (c : Int), .int .i64 (f : Int)] 213)).alloc (.cells #[.slice ap g.params.length cp, .int .i64 g.result, .slice al g.locals.length cl, .slice ac g.code.length cc] 76)).alloc (.cells #[.slice none 0 0, .int .i64 0, .slice none 0 0, .slice none 0 0] 76)) w' → w'.cell? ⟨w.heap.size + 1, 0, none⟩ = some (.slice ap g.params.length cp) ∧ w'.cell? ⟨w.heap.size + 1, 1, none⟩ = some (.int .i64 g.result) ∧ w'.cell? ⟨w.heap.size + 1, 2, none⟩ = some (.slice al g.locals.length cl) ∧ w'.cell? ⟨w.heap.size + 1, 3, none⟩ = some (.slice ac g.code.length cc)) := hide (fun w' g => by
    have e0 := (KH.out w' g).2.1
    refine ⟨?_, ?_, ?_, ?_⟩ <;> (rw [hcell_ e0]; rfl))
  have HG3 := hide hg3
  have HM := hide hM
  have HRP := hide rp
  have HRL := hide rl
  have HOK := hide hok
  have HCC := hide (copied_ins _ _ _ (rc.gr hg3) (by omega))
  have HS3 := hide s3
  clear hb0 hb1 hb2 s1 s2 s3 hg3 g1 g2 hM rp rl rc hok
  go_enter Tryd.func145, Tryd.ntmps145
  go_upto_region 1 with fail
  generalize (((w.alloc (.cells #[.slice a1 u.shapes.length c1, .slice a2 u.consts.length c2, .slice a3 u.funcs.length c3, .slice a4 u.imports.length c4, .slice a5 u.exports.length c5, .map (some mb), .int .i64 (c : Int), .int .i64 (f : Int)] 213)).alloc (.cells #[.slice ap g.params.length cp, .int .i64 g.result, .slice al g.locals.length cl, .slice ac g.code.length cc] 76)).alloc (.cells #[.slice none 0 0, .int .i64 0, .slice none 0 0, .slice none 0 0] 76)) = V3 at KH KM KF HG3 HCC HS3 ⊢
  obtain ⟨f0, f1, f2, f3⟩ := KF.out V3 (Gr.refl _)
  go_wp2_with fail
  refine HCC.out.mono ?_
  rintro x w4 ⟨vc, rfl, hoc, hg4⟩
  obtain ⟨acc, ccc, rfl⟩ := own_shape_ hoc
  have HOC := hide hoc
  have HG4 := hide hg4
  clear hoc hg4 HCC f0 f1 f2 f3
  go_wp2_with fail
  go_loopw [12] (fun i wr => ∃ k : Nat, i = .int .i64 (k : Int) ∧ k ≤ g.code.length ∧ wr.ownsRow V3.heap.size 91 3 (.slice acc g.code.length ccc) g.code.length (((g.code.take k).map (mvI N u c f) ++ g.code.drop k).flatMap cC) ∧ Gr V3 wr) (fun i _ => g.code.length - (intOf i).toNat)
  case atStart => exact ⟨0, rfl, Nat.zero_le _, by simpa using HOC.out, HG4.out⟩
  case round =>
    obtain ⟨k, rfl, hk, ho, hgr⟩ := hrel
    have HO := hide ho
    have HGR := hide hgr
    clear HOC HG4 ho hgr
    by_cases hlt : k < g.code.length
    · obtain ⟨i, hi⟩ := getElem?_lt hlt
      obtain ⟨cb, cap, hcb, hcB, hcS⟩ : ∃ cb cap, Value.slice acc g.code.length ccc = .slice (some ⟨cb, 0, none⟩) g.code.length cap ∧ V3.heap.size ≤ cb ∧ cb < wr.heap.size := by
        rcases HO.out.2 with ⟨e, e2⟩ | ⟨cb, cap, cur, e, hB, hh, _⟩
        · omega
        · exact ⟨cb, cap, e, hB, (Array.getElem?_eq_some_iff.1 hh).1⟩
      simp only [Value.slice.injEq, true_and] at hcb
      obtain ⟨rfl, rfl⟩ := hcb
      obtain ⟨m1, m2⟩ := mv_at (m := mvI N u c f) hi
      have hii : insOk i = true := List.all_eq_true.1 HOK.out i (List.mem_of_getElem? hi)
      have HRN := hide (renumber_any W u mb c f N a1 a2 a3 a4 a5 c1 c2 c3 c4 c5 V3.heap.size g.code.length ccc cb k _ i wr.drew (HM.out.step (HG3.out.trans HGR.out.drew)) hc hf (World.ownsRow.drew HO.out) (by simp; omega) m1 hii)
      rw [m2] at HRN
      have hki : (k : Int) < (g.code.length : Int) := by omega
      have hw : IntKind.i64.wrap ((k : Int) + 1) = (k : Int) + 1 := Go.IntWalk.i64_in _ (by omega)
      clear hi m1 m2 hii
      go_upto_region 5 with fail
      refine wp_region_held_drew (S := (fun w' => w'.cell? ⟨w.heap.size, 0, none⟩ = some (.slice a1 u.shapes.length c1) ∧ w'.cell? ⟨w.heap.size, 1, none⟩ = some (.slice a2 u.consts.length c2) ∧ w'.cell? ⟨w.heap.size, 2, none⟩ = some (.slice a3 u.funcs.length c3) ∧ w'.cell? ⟨w.heap.size, 3, none⟩ = some (.slice a4 u.imports.length c4) ∧ w'.cell? ⟨w.heap.size, 4, none⟩ = some (.slice a5 u.exports.length c5) ∧ w'.cell? ⟨w.heap.size, 5, none⟩ = some (.map (some mb)) ∧ w'.cell? ⟨w.heap.size, 6, none⟩ = some (.int .i64 (c : Int)) ∧ w'.cell? ⟨w.heap.size, 7, none⟩ = some (.int .i64 (f : Int)))) (by kernel_rfl) (KM.out _ (Gr.drew HGR.out)) (fun hHeld => ?_)
      refine takeL (i := 0) (v := ?av0) rfl (by kernel_rfl) (by kernel_rfl) (by kernel_rfl) (by intro c a w h; exact h) (by rfl) ?ahy0 hHeld ?arest0
      case ahy0 => (intro w hSw; (try dsimp only at hSw); go_simp <;> with_reducible rfl)
      simp only [Act.put, List.setIfInBounds_toArray, List.set_cons_zero, List.set_cons_succ]
      refine takeL (i := 1) (v := ?av1) rfl (by kernel_rfl) (by kernel_rfl) (by kernel_rfl) (by intro c a w h; exact h) (by rfl) ?ahy1 hHeld ?arest1
      case ahy1 => (intro w hSw; (try dsimp only at hSw); go_simp <;> with_reducible rfl)
      simp only [Act.put, List.setIfInBounds_toArray, List.set_cons_zero, List.set_cons_succ]
      refine takeL (i := 2) (v := ?av2) rfl (by kernel_rfl) (by kernel_rfl) (by kernel_rfl) (by intro c a w h; exact h) (by rfl) ?ahy2 hHeld ?arest2
      case ahy2 => (intro w hSw; (try dsimp only at hSw); go_simp <;> with_reducible rfl)
      simp only [Act.put, List.setIfInBounds_toArray, List.set_cons_zero, List.set_cons_succ]
      refine takeL (i := 3) (v := ?av3) rfl (by kernel_rfl) (by kernel_rfl) (by kernel_rfl) (by intro c a w h; exact h) (by rfl) ?ahy3 hHeld ?arest3
      case ahy3 => (intro w hSw; (try dsimp only at hSw); go_simp <;> with_reducible rfl)
      simp only [Act.put, List.setIfInBounds_toArray, List.set_cons_zero, List.set_cons_succ]
      refine aloneL (i := 4) rfl (by kernel_rfl) (fun K hK => ?_)
      refine step_calls_w rfl 160 _ _ rfl #[.agg #[.slice a1 u.shapes.length c1, .slice a2 u.consts.length c2, .slice a3 u.funcs.length c3, .slice a4 u.imports.length c4, .slice a5 u.exports.length c5, .map (some mb), .int .i64 (c : Int), .int .i64 (f : Int)], .pointer (some ⟨cb, k * 3, none⟩)] (by simp [Act.eval]) (Tryd.callRen _ _) (HRN.out.mono ?_)
      rintro z w5 ⟨rfl, ho5, hg5⟩
      have HG5 := hide (grown_new HGR.out.drew hg5 hcB)
      have HO5 := hide ho5
      clear hg5 ho5 HRN
      refine .inl ⟨_, rfl, ?_⟩
      refine hK.out _ _ (KM.out _ HG5.out) (fun hHeld => ?_)
      clear hK
      try simp only [Act.put, List.setIfInBounds_toArray, List.set_cons_zero, List.set_cons_succ]
      refine wpAnyH_done (by kernel_rfl) ?_ _
      clear hHeld
      go_wp2_with fail
      refine ⟨⟨k + 1, by simp, hlt, HO5.out, HG5.out⟩, by simp [intOf]; omega⟩
    · have hkk : k = g.code.length := by omega
      subst hkk
      have HO2 : Hid (wr.ownsRow V3.heap.size 91 3 (.slice acc g.code.length ccc) g.code.length ((g.code.map (mvI N u c f)).flatMap cC)) := hide (by have := HO.out; simpa using this)
      have hWr : w.heap.size + 3 ≤ wr.heap.size := by have := HGR.out.size; have := HS3.out; omega
      clear hlt hk HO
      go_upto_region 7 with fail
      refine wp_region_held_drew (S := (fun w' => w'.cell? ⟨w.heap.size + 1, 0, none⟩ = some (.slice ap g.params.length cp) ∧ w'.cell? ⟨w.heap.size + 1, 1, none⟩ = some (.int .i64 g.result) ∧ w'.cell? ⟨w.heap.size + 1, 2, none⟩ = some (.slice al g.locals.length cl) ∧ w'.cell? ⟨w.heap.size + 1, 3, none⟩ = some (.slice ac g.code.length cc))) (by kernel_rfl) (KF.out _ (Gr.drew HGR.out)) (fun hHeld => ?_)
      refine takeL (i := 0) (v := ?bv0) rfl (by kernel_rfl) (by kernel_rfl) (by kernel_rfl) (by intro c a w h; exact h) (by rfl) ?bhy0 hHeld ?brest0
      case bhy0 => (intro w hSw; (try dsimp only at hSw); go_simp <;> with_reducible rfl)
      simp only [Act.put, List.setIfInBounds_toArray, List.set_cons_zero, List.set_cons_succ]
      refine takeL (i := 1) (v := ?bv1) rfl (by kernel_rfl) (by kernel_rfl) (by kernel_rfl) (by intro c a w h; exact h) (by rfl) ?bhy1 hHeld ?brest1
      case bhy1 => (intro w hSw; (try dsimp only at hSw); go_simp <;> with_reducible rfl)
      simp only [Act.put, List.setIfInBounds_toArray, List.set_cons_zero, List.set_cons_succ]
      refine takeL (i := 3) (v := ?bv3) rfl (by kernel_rfl) (by kernel_rfl) (by kernel_rfl) (by intro c a w h; exact h) (by rfl) ?bhy3 hHeld ?brest3
      case bhy3 => (intro w hSw; (try dsimp only at hSw); go_simp <;> with_reducible rfl)
      simp only [Act.put, List.setIfInBounds_toArray, List.set_cons_zero, List.set_cons_succ]
      refine takeL (i := 4) (v := ?bv4) rfl (by kernel_rfl) (by kernel_rfl) (by kernel_rfl) (by intro c a w h; exact h) (by rfl) ?bhy4 hHeld ?brest4
      case bhy4 => (intro w hSw; (try dsimp only at hSw); go_simp <;> with_reducible rfl)
      simp only [Act.put, List.setIfInBounds_toArray, List.set_cons_zero, List.set_cons_succ]
      refine takeL (i := 5) (v := ?bv5) rfl (by kernel_rfl) (by kernel_rfl) (by kernel_rfl) (by intro c a w h; exact h) (by rfl) ?bhy5 hHeld ?brest5
      case bhy5 => (intro w hSw; (try dsimp only at hSw); go_simp <;> with_reducible rfl)
      simp only [Act.put, List.setIfInBounds_toArray, List.set_cons_zero, List.set_cons_succ]
      refine takeL (i := 6) (v := ?bv6) rfl (by kernel_rfl) (by kernel_rfl) (by kernel_rfl) (by intro c a w h; exact h) (by rfl) ?bhy6 hHeld ?brest6
      case bhy6 => (intro w hSw; (try dsimp only at hSw); go_simp <;> with_reducible rfl)
      simp only [Act.put, List.setIfInBounds_toArray, List.set_cons_zero, List.set_cons_succ]
      refine takeL (i := 8) (v := ?bv8) rfl (by kernel_rfl) (by kernel_rfl) (by kernel_rfl) (by intro c a w h; exact h) (by rfl) ?bhy8 hHeld ?brest8
      case bhy8 => (intro w hSw; (try dsimp only at hSw); go_simp <;> with_reducible rfl)
      simp only [Act.put, List.setIfInBounds_toArray, List.set_cons_zero, List.set_cons_succ]
      refine aloneL (i := 2) rfl (by kernel_rfl) (fun K hK => ?_)
      refine step_calls_w rfl 144 _ _ rfl #[.slice ap g.params.length cp] (by simp [Act.eval]) (Tryd.callCpI _ _) ((copied_ints _ g.params _ (HRP.out.gr (HG3.out.trans HGR.out.drew)) (by omega)).mono ?_)
      rintro x w1 ⟨v, rfl, hox1, hg1⟩
      obtain ⟨axx, cxx, rfl⟩ := own_shape_ hox1
      have HG1 := hide hg1
      have HOX1 := hide hox1
      clear hg1 hox1
      refine .inl ⟨_, rfl, ?_⟩
      refine hK.out _ _ (KF.out _ (HGR.out.drew.trans HG1.out)) (fun hHeld => ?_)
      clear hK
      try simp only [Act.put, List.setIfInBounds_toArray, List.set_cons_zero, List.set_cons_succ]
      refine aloneL (i := 7) rfl (by kernel_rfl) (fun K hK => ?_)
      refine step_calls_w rfl 144 _ _ rfl #[.slice al g.locals.length cl] (by simp [Act.eval]) (Tryd.callCpI _ _) ((copied_ints _ g.locals _ (HRL.out.gr (HG3.out.trans (HGR.out.drew.trans HG1.out))) (by omega)).mono ?_)
      rintro x w2 ⟨v, rfl, hoy, hg2⟩
      obtain ⟨ayy, cyy, rfl⟩ := own_shape_ hoy
      have HXY := hide (own_two HOX1.out hoy (Nat.le_refl _))
      have HOX := hide (own_gr HOX1.out hg2)
      have HOY := hide (ownbase hoy HG1.out.size)
      have hgv2 := HGR.out.drew.trans (HG1.out.trans hg2)
      have HG2 := hide (HG1.out.trans hg2)
      clear hg2 hoy HG1 HOX1
      refine .inl ⟨_, rfl, ?_⟩
      refine hK.out _ _ (KF.out _ hgv2) (fun hHeld => ?_)
      clear hK
      try simp only [Act.put, List.setIfInBounds_toArray, List.set_cons_zero, List.set_cons_succ]
      have KFR : Hid ((w2.setRow (w.heap.size + 2) #[.slice axx g.params.length cxx, .int .i64 g.result, .slice ayy g.locals.length cyy, .slice acc g.code.length ccc]).cell? ⟨w.heap.size + 1, 0, none⟩ = some (.slice ap g.params.length cp) ∧ (w2.setRow (w.heap.size + 2) #[.slice axx g.params.length cxx, .int .i64 g.result, .slice ayy g.locals.length cyy, .slice acc g.code.length ccc]).cell? ⟨w.heap.size + 1, 1, none⟩ = some (.int .i64 g.result) ∧ (w2.setRow (w.heap.size + 2) #[.slice axx g.params.length cxx, .int .i64 g.result, .slice ayy g.locals.length cyy, .slice acc g.code.length ccc]).cell? ⟨w.heap.size + 1, 2, none⟩ = some (.slice al g.locals.length cl) ∧ (w2.setRow (w.heap.size + 2) #[.slice axx g.params.length cxx, .int .i64 g.result, .slice ayy g.locals.length cyy, .slice acc g.code.length ccc]).cell? ⟨w.heap.size + 1, 3, none⟩ = some (.slice ac g.code.length cc)) := hide (by
        have e0 := (KH.out w2 hgv2).2.1
        have e1 : (w2.setRow (w.heap.size + 2) #[.slice axx g.params.length cxx, .int .i64 g.result, .slice ayy g.locals.length cyy, .slice acc g.code.length ccc]).heap[w.heap.size + 1]? = _ := (setRow_other _ _ _ _ (by omega)).trans e0
        refine ⟨?_, ?_, ?_, ?_⟩ <;> (rw [hcell_ e1]; rfl))
      refine takeL (i := 9) (v := ?cv9) rfl (by kernel_rfl) (by kernel_rfl) (by kernel_rfl) (by intro c a w h; exact h) (by rfl) ?chy9 hHeld ?crest9
      case chy9 => (intro w hSw; (try dsimp only at hSw); go_simp <;> with_reducible rfl)
      simp only [Act.put, List.setIfInBounds_toArray, List.set_cons_zero, List.set_cons_succ]
      refine aloneL (i := 10) rfl (by kernel_rfl) (fun K hK => ?_)
      refine want_yes (by rfl) (wp_store_row (P := Tryd.prog) 76 _ _ rfl (w.heap.size + 2) #[.slice axx g.params.length cxx, .int .i64 g.result, .slice ayy g.locals.length cyy, .slice acc g.code.length ccc] (by rfl) (by simp [Act.eval]) 76 _ (KH.out w2 hgv2).2.2 Tryd.infFn rfl (by simp [Value.oneCell']) ?_)
      refine hK.out _ _ (KFR.out) (fun hHeld => ?_)
      clear hK
      try simp only [Act.put, List.setIfInBounds_toArray, List.set_cons_zero, List.set_cons_succ]
      refine wpAnyH_done (by kernel_rfl) ?_ _
      clear hHeld KFR
      have hbr := setRow_heap w2 (w.heap.size + 2) _ #[.slice axx g.params.length cxx, .int .i64 g.result, .slice ayy g.locals.length cyy, .slice acc g.code.length ccc] _ _ (KH.out w2 hgv2).2.2
      have e0 : (w2.setRow (w.heap.size + 2) #[.slice axx g.params.length cxx, .int .i64 g.result, .slice ayy g.locals.length cyy, .slice acc g.code.length ccc]).cell? ⟨w.heap.size + 2, 0, none⟩ = some (.slice axx g.params.length cxx) := by rw [hcell_ hbr]; rfl
      have e1 : (w2.setRow (w.heap.size + 2) #[.slice axx g.params.length cxx, .int .i64 g.result, .slice ayy g.locals.length cyy, .slice acc g.code.length ccc]).cell? ⟨w.heap.size + 2, 1, none⟩ = some (.int .i64 g.result) := by rw [hcell_ hbr]; rfl
      have e2 : (w2.setRow (w.heap.size + 2) #[.slice axx g.params.length cxx, .int .i64 g.result, .slice ayy g.locals.length cyy, .slice acc g.code.length ccc]).cell? ⟨w.heap.size + 2, 2, none⟩ = some (.slice ayy g.locals.length cyy) := by rw [hcell_ hbr]; rfl
      have e3 : (w2.setRow (w.heap.size + 2) #[.slice axx g.params.length cxx, .int .i64 g.result, .slice ayy g.locals.length cyy, .slice acc g.code.length ccc]).cell? ⟨w.heap.size + 2, 3, none⟩ = some (.slice acc g.code.length ccc) := by rw [hcell_ hbr]; rfl
      clear hbr
      go_wp2_with fail
      refine bodyPost_ret (v := .agg #[.slice axx g.params.length cxx, .int .i64 g.result, .slice ayy g.locals.length cyy, .slice acc g.code.length ccc]) (by simp [results, Tryd.results145, go_sem, e0, e1, e2, e3]) rfl ?_
      have hgw2 := gr_row_ (cs := #[.slice axx g.params.length cxx, .int .i64 g.result, .slice ayy g.locals.length cyy, .slice acc g.code.length ccc]) (HG3.out.trans hgv2) (g := w.heap.size + 2) (by omega)
      have hkeep : ∀ (b : Nat) (e : TypeId) (s : Nat) (v : Value) (n : Nat) (xs : List Value), w.heap.size + 3 ≤ b → w2.ownsRow b e s v n xs → (w2.setRow (w.heap.size + 2) #[.slice axx g.params.length cxx, .int .i64 g.result, .slice ayy g.locals.length cyy, .slice acc g.code.length ccc]).ownsRow w.heap.size e s v n xs := by
        intro b e s v n xs hb ho
        refine ownbase (b := b) ?_ (by omega)
        refine ⟨ho.1, ?_⟩
        rcases ho.2 with h | ⟨gg, cap, cur, e1, e2, e3, r⟩
        · exact .inl h
        · exact .inr ⟨gg, cap, cur, e1, e2, by rw [setRow_other _ _ _ _ (by omega)]; exact e3, r⟩
      have hs3 := HS3.out
      have HOC := own_gr (World.ownsRow.drew HO2.out) HG2.out
      refine ⟨_, _, _, rfl, hkeep wr.drew.heap.size _ _ _ _ _ hWr HOX.out, hkeep wr.drew.heap.size _ _ _ _ _ hWr HOY.out, ?_, HXY.out, ?_, ?_, hgw2⟩
      · have := hkeep V3.heap.size _ _ _ _ _ (by omega) HOC
        simpa [mvF] using this
      · exact (own_two (World.ownsRow.drew HO2.out) HOX.out (Nat.le_refl _)).symm
      · exact (own_two (World.ownsRow.drew HO2.out) HOY.out (Nat.le_refl _)).symm
end Go.Proofs.YtkgncijcnlfhiaaDoor

