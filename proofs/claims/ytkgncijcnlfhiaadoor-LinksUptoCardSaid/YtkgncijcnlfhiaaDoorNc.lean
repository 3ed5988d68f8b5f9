import Derived.Test.YtkgncijcnlfhiaaDoorBk5e
import Derived.Test.YtkgncijcnlfhiaaDoorBk6
import Derived.Test.YtkgncijcnlfhiaaDoorHk
import Derived.Test.YtkgncijcnlfhiaaDoorNa
import Derived.StringKeys
namespace Go.Proofs.YtkgncijcnlfhiaaDoor
set_option linter.unusedVariables false
set_option linter.unusedSimpArgs false
open Go.RowKit
theorem own_nil {ρ : Nat → BR} {r : BR} {w : World} {B : Nat} {T : TypeId} {sz : Nat} : OwR ρ r w B T sz (.slice none 0 0) 0 [] := ⟨World.ownsRow_nil _ _ _ _, fun k hk => by simp [Value.ownBlock] at hk⟩
theorem UnO.nils (db : Nat) (ρ : Nat → BR) (w : World) : UnO db (.slice none 0 0) (.slice none 0 0) (.slice none 0 0) (.slice none 0 0) (.slice none 0 0) [] 0 [] [] 0 ρ w :=
  ⟨fun r v T sz n hi => by cases hi <;> simp_all, own_nil, ⟨⟨[], own_nil⟩, Nat.zero_le _⟩, own_nil, own_nil, ⟨[], own_nil⟩⟩
end Go.Proofs.YtkgncijcnlfhiaaDoor

namespace Go.Proofs.YtkgncijcnlfhiaaDoor
set_option linter.unusedVariables false
set_option linter.unusedSimpArgs false
open Go.RowKit
structure OwnD (D : Nat → Prop) (lo : Nat) (w : World) (ob : Nat) (V : Nat → Value) (S : Nat → List (Nat × Nat)) : Prop where
  box : w.heap[ob]? = some (.cells #[V 0, V 1, V 2, V 3, V 4, V 5, V 6, V 7] 52 (0, 0))
  low : lo ≤ ob
  dob : D ob
  own : ∀ f, f < 8 → w.ownsRow lo (oT f) 1 (V f) (S f).length ((S f).map rowV)
  dow : ∀ f, f < 8 → ∀ g, (V f).ownBlock = some g → D g
  rows : ∀ f, f < 8 → ∀ r ∈ S f, RowOk (fun b => PO lo ob V b ∧ D b) w f true r
section
variable {D : Nat → Prop} {lo : Nat} {w w' : World} {ob : Nat} {V : Nat → Value} {S : Nat → List (Nat × Nat)}
theorem OwnD.to (h : OwnD D lo w ob V S) : OwnAt lo w ob true V S :=
  ⟨h.box, h.low, h.own, fun f hf r hr => (h.rows f hf r hr).stay fun b hb _ => ⟨rfl, hb.1⟩⟩
theorem OwnD.keep (h : OwnD D lo w ob V S) (g : ∀ b, D b → b < w.heap.size → w'.heap[b]? = w.heap[b]?) : OwnD D lo w' ob V S :=
  ⟨(g ob h.dob (block_lt h.box)).trans h.box, h.low, h.dob, fun f hf => ownsRow_same (h.own f hf) fun q hq => g q (h.dow f hf q hq) ((h.own f hf).lt q hq).2, h.dow, fun f hf r hr => (h.rows f hf r hr).stay fun b hb hl => ⟨g b hb.2 hl, hb⟩⟩
theorem OwnD.of {w1 w5 w6 : World} (h1 : OwnAt lo w1 ob false V S) (h6 : OwnAt lo w6 ob true V S) (hs : SpE lo ob V S w5 w6) : OwnD (fun b => lo ≤ b ∧ (b < w1.heap.size ∨ w5.heap.size ≤ b) ∧ b < w6.heap.size) lo w6 ob V S := by
  refine ⟨h6.box, h6.low, ⟨h6.low, .inl (block_lt h1.box), block_lt h6.box⟩, h6.own, fun f hf g hg => ?_, fun f hf r hr => ?_⟩
  · exact ⟨((h6.own f hf).lt g hg).1, .inl ((h1.own f hf).lt g hg).2, ((h6.own f hf).lt g hg).2⟩
  · have k := h6.rows f hf r hr
    obtain ⟨cs, hcs, hn⟩ := (h1.rows f hf r hr).cells
    obtain ⟨cs6, hcs6, _⟩ := k.cells
    exact ⟨⟨k.here, k.here.1, .inl (block_lt hcs), block_lt hcs6⟩, k.two, k.most, k.cells, fun q _ hq => (hs.inks f hf r hr q hq).mono fun b hb hl => ⟨hb.1, hb.1.1, .inr hb.2, hl⟩⟩
end
/-- one of the caller's, written over; Z: what is not the desk's -/
structure KeptO (Z : Nat → Prop) (db : Nat) (vo : Value) (ρ : Nat → BR) (w : World) (ob : Nat) : Prop where
  is : ∃ D lo V S, OwnD D lo w ob V S ∧ ∀ b, D b → b < w.heap.size ∧ ρ b = .no ∧ b ≠ db ∧ ¬ vo.ownBlock = some b ∧ ¬ Z b
/-- the desk: what was handed in, and the book -/
structure DkS (Z : Nat → Prop) (db n B0 : Nat) (os : List Nat) (w : World) (V : Nat → Value) (X : Nat → List Value) (ρ : Nat → BR) (vo : Value) : Prop where
  s : BookS db w vo (n : Int) V X ρ
  e : BookE w ρ X
  x : ∀ i, (X i).length ≤ B0
  o : w.ownsRow (db + 1) 48 1 vo os.length (os.map ptrV)
  on : ∀ g, vo.ownBlock = some g → ρ g = .no ∧ ¬ Z g
  zr : ∀ b, ρ b ≠ .no → ¬ Z b
  zd : ¬ Z db
  k : ∀ ob ∈ os, KeptO Z db vo ρ w ob
section
variable {Z : Nat → Prop} {db n B0 : Nat} {os : List Nat} {w w' : World} {V : Nat → Value} {X : Nat → List Value} {ρ : Nat → BR} {vo : Value}
theorem DkS.keep (h : DkS Z db n B0 os w V X ρ vo) (hs : w.heap.size ≤ w'.heap.size) (he : w'.os = w.os ∧ w'.tape = w.tape ∧ w'.output = w.output) (g : ∀ b, ¬ Z b → b < w.heap.size → w'.heap[b]? = w.heap[b]?) : DkS Z db n B0 os w' V X ρ vo := by
  have hno := h.s.db_no
  have hbx := g db h.zd h.s.lt
  have m : MvR db (fun r => r = .no) w w' ρ ρ := ⟨hs, fun _ _ => rfl, fun k hk _ hA => g k (h.zr k hA) hk, fun k hk hn => by have := (h.s.pl k hn).2; omega, he⟩
  refine ⟨h.s.mv m (fun _ => nofun) hbx, h.e.stay (m.stay nofun (by rw [hno]; nofun)), h.x, ownsRow_same h.o fun q hq => g q (h.on q hq).2 (h.o.lt q hq).2, h.on, h.zr, h.zd, fun ob hob => ?_⟩
  obtain ⟨D, lo, V', S', k1, k2⟩ := (h.k ob hob).is
  exact ⟨D, lo, V', S', k1.keep fun b hb hl => g b (k2 b hb).2.2.2.2 hl, fun b hb => ⟨Nat.lt_of_lt_of_le (k2 b hb).1 hs, (k2 b hb).2⟩⟩
theorem DkS.gr (h : DkS Z db n B0 os w V X ρ vo) (g : Gr w w') : DkS Z db n B0 os w' V X ρ vo := h.keep g.size ⟨g.os, g.tape, g.output⟩ fun b _ hl => g.block b hl (by simp)
theorem DkS.below {lo : Nat} (h : DkS (fun b => lo ≤ b) db n B0 os w V X ρ vo) (g : Below lo w w') : DkS (fun b => lo ≤ b) db n B0 os w' V X ρ vo := h.keep g.size ⟨g.os, g.tape, g.output⟩ fun b hb _ => g.block b (by omega)
/-- one more was handed in -/
theorem DkS.push {lo : Nat} {w1 w5 w6 w7 : World} {ob : Nat} {V' : Nat → Value} {S' : Nat → List (Nat × Nat)} {v' : Value} (h5 : DkS (fun b => lo ≤ b) db n B0 os w5 V X ρ vo) (h1 : OwnAt lo w1 ob false V' S') (hl1 : lo ≤ w1.heap.size) (hs15 : w1.heap.size ≤ w5.heap.size) (h6 : OwnAt lo w6 ob true V' S') (hs : SpE lo ob V' S' w5 w6) (hb : Below lo w5 w6)
    (ha : Ap (db + 1) 48 1 w6 vo w7 v' (os.length + 1) (os.map ptrV ++ [ptrV ob])) :
    DkS (fun b => w1.heap.size ≤ b ∧ b < w5.heap.size) db n B0 (os ++ [ob]) (w7.setCell ⟨db, 0, none⟩ v') V X ρ v' ∧ (∀ b, w1.heap.size ≤ b → b < w5.heap.size → (w7.setCell ⟨db, 0, none⟩ v').heap[b]? = w5.heap[b]?) ∧ Below db w5 (w7.setCell ⟨db, 0, none⟩ v') := by
  have hd := h5.below hb
  have hD := OwnD.of h1 h6 hs
  have hs56 := hs.size
  have hs67 := ha.frm.size
  have hdlo : db < lo := by have := h5.zd; omega
  have hdbl := hd.s.lt
  have hno := hd.s.db_no
  have hvlo : ∀ g, vo.ownBlock = some g → g < lo := fun g hg => by have := (hd.on g hg).2; omega
  have hvdb : ∀ g, vo.ownBlock = some g → db < g := fun g hg => (hd.o.lt g hg).1
  have hdb7 : w7.heap[db]? = w6.heap[db]? := ha.frm.block db hdbl (fun e => by have := hvdb db e.symm; omega)
  have hvdb' : ¬ v'.ownBlock = some db := fun e => by have := (ha.own.lt db e).1; omega
  have hne : ∀ b, ¬ b = db → (w7.setCell ⟨db, 0, none⟩ v').heap[b]? = w7.heap[b]? := fun b hb => Below.heap_setCell _ _ _ _ hb
  have hst : ∀ b, b < w6.heap.size → b ≠ db → ¬ vo.ownBlock = some b → (w7.setCell ⟨db, 0, none⟩ v').heap[b]? = w6.heap[b]? := fun b hl hb hv => (hne b hb).trans (ha.frm.block b hl (fun e => hv e.symm))
  have hsz : (w7.setCell ⟨db, 0, none⟩ v').heap.size = w7.heap.size := by simp
  have hrn : ∀ b, ρ b ≠ .no → ¬ vo.ownBlock = some b := fun b hr e => hr (hd.on b e).1
  have hv'n : ∀ b, b < w6.heap.size → ¬ vo.ownBlock = some b → ¬ v'.ownBlock = some b := fun b hl hv e => by
    rcases ha.lies b e with e' | e'
    · exact hv e'
    · omega
  refine ⟨⟨⟨?_, fun i i2 i10 => ⟨ownsRow_same (hd.s.row i i2 i10).1 fun k hk => ?_, (hd.s.row i i2 i10).2⟩, fun b hbn => ⟨(hd.s.pl b hbn).1, by rw [hsz]; have := (hd.s.pl b hbn).2; omega⟩⟩, hd.e.stay fun b hbd hl => ⟨?_, hbd⟩, hd.x, ?_, fun g hg => ?_, fun b hbn => ?_, ?_, fun o hmem => ?_⟩, fun b b1 b5 => ?_, ?_⟩
  · rw [heap_set (o := 0) (v := v') (hdb7.trans hd.s.box)]; simp
  · have hr := (hd.s.row i i2 i10).2 k hk
    have hrl := (hd.s.row i i2 i10).1.lt k hk
    exact hst k hrl.2 (by omega) (hrn k (by rw [hr]; nofun))
  · exact hst b hl (fun e => by rw [e, hno] at hbd; cases hbd) (hrn b (by rw [hbd]; nofun))
  · have : w7.ownsRow (db + 1) 48 1 v' (os ++ [ob]).length ((os ++ [ob]).map ptrV) := by
      rw [List.length_append, List.map_append]; exact ha.own
    exact ownsRow_same this fun q hq => hne q (fun e => hvdb' (e ▸ hq))
  · rcases ha.lies g hg with e | e
    · exact ⟨(hd.on g e).1, by have := hvlo g e; omega⟩
    · refine ⟨?_, by omega⟩
      by_cases hr : ρ g = .no
      · exact hr
      · have := (hd.s.pl g hr).2; omega
  · have := hd.zr b hbn; omega
  · omega
  · rcases List.mem_append.1 hmem with hm | hm
    · obtain ⟨D, lo', V1, S1, k1, k2⟩ := (hd.k o hm).is
      refine ⟨D, lo', V1, S1, k1.keep fun b hbD hl => hst b hl (k2 b hbD).2.2.1 (k2 b hbD).2.2.2.1, fun b hbD => ?_⟩
      obtain ⟨q1, q2, q3, q4, q5⟩ := k2 b hbD
      exact ⟨by omega, q2, q3, hv'n b q1 q4, by omega⟩
    · rw [List.mem_singleton.1 hm]
      have hq : ∀ b, lo ≤ b → b ≠ db ∧ ¬ vo.ownBlock = some b := fun b hb => ⟨by omega, fun e => by have := hvlo b e; omega⟩
      refine ⟨_, lo, V', S', hD.keep fun b hbD hl => hst b hl (hq b hbD.1).1 (hq b hbD.1).2, fun b hbD => ?_⟩
      obtain ⟨q1, q2, q3⟩ := hbD
      refine ⟨by omega, ?_, (hq b q1).1, hv'n b q3 (hq b q1).2, by omega⟩
      by_cases hr : ρ b = .no
      · exact hr
      · exact absurd q1 (hd.zr b hr)
  · rw [hst b (by omega) (by omega) (fun e => by have := hvlo b e; omega)]
    refine hs.frame b b5 fun f hf r hr e => ?_
    obtain ⟨cs, hcs, _⟩ := (h1.rows f hf r hr).cells
    have := block_lt hcs; omega
  · have hb1 : Below db w6 w7 := (Below.refl _ _).grown ha.frm (by omega) (fun q hq => by have := hvdb q hq; omega)
    exact (hb.mono (by omega)).trans (hb1.setCell (p := ⟨db, 0, none⟩) (Nat.le_refl _) _)
end
end Go.Proofs.YtkgncijcnlfhiaaDoor

namespace Go.Proofs.YtkgncijcnlfhiaaDoor
set_option linter.unusedVariables false
set_option linter.unusedSimpArgs false
open Go.RowKit
attribute [local go_sem ↓] Go.wp_at_zero Go.wp_at_succ
theorem eq_of_get {α : Type} {l m : List α} (hl : l.length = m.length) (h : ∀ j, j < l.length → l[j]? = m[j]?) : l = m := by
  apply List.ext_getElem? 
  intro i
  by_cases hi : i < l.length
  · exact h i hi
  · rw [List.getElem?_eq_none (by omega), List.getElem?_eq_none (by omega)]
set_option maxRecDepth 100000 in
set_option maxHeartbeats 2000000 in
theorem equalf_any (va vb : Value) (l m : List (List Int)) (w : World) (ha : RShapes w va l) (hb : RShapes w vb m) :
    Calls Tryd.prog 100 #[va, vb, .func (.func 101) #[] #[]] w fun x w' => x = .returned (.bool (decide (l = m))) ∧ Gr w w' := by
  have hnot : ∀ (x : Bool) (w : World), (Op.unary .not (.bool x)).run Tryd.prog w = .ok (.bool (!x)) w := fun _ _ => rfl
  obtain ⟨a1, c1, rfl, hm, hc1⟩ := ha
  obtain ⟨a2, c2, rfl, hm2, hc2⟩ := hb
  unfold maxLen at hm hm2
  have HC1 := hide hc1
  have HC2 := hide hc2
  clear hc1 hc2
  by_cases hlen : l.length = m.length
  · have hne : ((l.length : Int) != (m.length : Int)) = false := by simp [hlen]
    have HLen := hide hlen
    clear hlen
    go_enter Tryd.func100, Tryd.ntmps100
    go_wp2_with fail
    go_loopw [17] (fun i wr => ∃ k : Nat, i = .int .i64 k ∧ k ≤ l.length ∧ (∀ j, j < k → l[j]? = m[j]?) ∧ Gr w wr) (fun i _ => l.length - (intOf i).toNat)
    case atStart => exact ⟨0, rfl, Nat.zero_le _, fun j h => by omega, Gr.refl _⟩
    case round =>
      obtain ⟨k, rfl, hk, hall, hg⟩ := hrel
      have HAll := hide hall
      have HG := hide hg
      clear hall hg
      by_cases hlt : k < l.length
      · obtain ⟨x, hx⟩ := getElem?_lt hlt
        obtain ⟨y, hy⟩ := getElem?_lt (show k < m.length by have := HLen.out; omega)
        obtain ⟨b1, o1, vx, rfl, x1, x2⟩ := HC1.out k x hx
        obtain ⟨b2, o2, vy, rfl, y1, y2⟩ := HC2.out k y hy
        obtain ⟨p1, q1, rfl⟩ := x2.shape
        obtain ⟨p2, q2, rfl⟩ := y2.shape
        have x1 := HG.out.cell x1 (by simp)
        have y1 := HG.out.cell y1 (by simp)
        have hki : (k : Int) < (l.length : Int) := by omega
        have hki2 : (k : Int) < (m.length : Int) := by have := HLen.out; omega
        have hw : IntKind.i64.wrap ((k : Int) + 1) = (k : Int) + 1 := Go.IntWalk.i64_in _ (by omega)
        have HEQ := hide (equal_any _ _ x y wr (x2.gr HG.out) (y2.gr HG.out))
        have HX := hide hx
        have HY := hide hy
        clear hx hy x2 y2
        go_wp2_with fail
        refine HEQ.out.mono ?_
        rintro z w2 ⟨rfl, hg2⟩
        have HG2 := hide (HG.out.trans hg2)
        clear hg2 HEQ
        by_cases hxy : x = y
        · have hd : decide (x = y) = true := by simpa using hxy
          rw [hd]
          have HA2 : Hid (∀ j, j < k + 1 → l[j]? = m[j]?) := hide (fun j hj => by
            by_cases e : j = k
            · subst e; rw [HX.out, HY.out, hxy]
            · exact HAll.out j (by omega))
          clear hd hxy
          go_wp2_with fail
          exact ⟨⟨k + 1, by simp, hlt, HA2.out, HG2.out⟩, by simp [intOf]; omega⟩
        · have hd : decide (x = y) = false := by simpa using hxy
          rw [hd]
          have HD : Hid (decide (l = m) = false) := hide (by
            rw [decide_eq_false_iff_not]; intro e; subst e; exact hxy (Option.some.inj (HX.out.symm.trans HY.out)))
          clear hd hxy
          go_wp2_with fail
          go_ret
          exact ⟨by rw [HD.out]; rfl, HG2.out⟩
      · have hkk : k = l.length := by omega
        subst hkk
        have HD : Hid (decide (l = m) = true) := hide (by rw [decide_eq_true_eq]; exact eq_of_get HLen.out HAll.out)
        clear hlt hk
        go_wp2_with fail
        go_ret
        exact ⟨by rw [HD.out]; rfl, HG.out⟩
  · have hne : ((l.length : Int) != (m.length : Int)) = true := by rw [bne_iff_ne]; omega
    have HD : Hid (decide (l = m) = false) := hide (by rw [decide_eq_false_iff_not]; intro e; subst e; exact hlen rfl)
    clear hlen
    go_enter Tryd.func100, Tryd.ntmps100
    go_wp2_with fail
    go_ret
    exact ⟨by rw [HD.out]; rfl, Gr.refl _⟩
end Go.Proofs.YtkgncijcnlfhiaaDoor

namespace Go.Proofs.YtkgncijcnlfhiaaDoor
set_option linter.unusedVariables false
set_option linter.unusedSimpArgs false
open Go.RowKit Go.Maps Go.WideMaps Go.WideMaps
theorem Tryd.uMapT : Tryd.prog.underlying 161 = some (.map 9 210) := by kernel_rfl
def zTgt : Value := .agg #[.slice none 0 0, .int .i64 0, .slice none 0 0, .slice none 0 0, .int .i64 0]
theorem Tryd.zMapT (w : World) : (zeroValue 210).run Tryd.prog w = .ok zTgt w := by kernel_rfl
theorem Tryd.kStr : Tryd.prog.underlying 9 = some .string := by kernel_rfl
theorem Tryd.keyedS : Keyed Tryd.prog 9 := string_keyed Tryd.kStr
theorem keyS_is (s : ByteArray) (hs : s.size ≤ maxLen) : keyOf Tryd.prog 9 (.string s) = some (.string s.data.toList) := keyOf_string_mk Tryd.kStr hs
structure MapS (w : World) (b n : Nat) (m : List UInt8 → Option Value) : Prop where
  is : ∃ D : DataW Value, w.ownsMap Tryd.prog 9 valR b n D ∧ ∀ k, Maps.has D (.string k) = (m k).isSome ∧ D.atKey (.string k) (.held zTgt) = .held ((m k).getD zTgt)
theorem MapS.made (w : World) : MapS (w.alloc (.map #[] 0)) w.heap.size 0 (fun _ => none) :=
  ⟨_, World.ownsMap_made w _ _ _, fun k => ⟨rfl, rfl⟩⟩
theorem MapS.empty {w : World} {b : Nat} (h : w.heap[b]? = some (.map #[] 0)) : MapS w b 0 (fun _ => none) := by
  obtain ⟨D, ⟨es, clock, hb, r⟩, h2⟩ := (MapS.made w).is
  have hb2 : (w.alloc (.map #[] 0)).heap[w.heap.size]? = some (.map #[] 0) := by show (w.heap.push _)[w.heap.size]? = _; simp
  rw [hb2] at hb
  simp only [Option.some.injEq, Obj.map.injEq] at hb
  obtain ⟨rfl, rfl⟩ := hb
  exact ⟨D, ⟨_, _, h, r⟩, h2⟩
theorem MapS.lt {w : World} {b n : Nat} {m : List UInt8 → Option Value} (h : MapS w b n m) : b < w.heap.size := by
  obtain ⟨D, h1, _⟩ := h.is; exact h1.lt
theorem MapS.kept {w w' : World} {b n : Nat} {m : List UInt8 → Option Value} (h : MapS w b n m) (g : w'.heap[b]? = w.heap[b]?) : MapS w' b n m := by
  obtain ⟨D, ⟨es, clock, hb, r⟩, h2⟩ := h.is
  exact ⟨D, ⟨es, clock, g.trans hb, r⟩, h2⟩
theorem MapS.look {w : World} {b n : Nat} {m : List UInt8 → Option Value} (h : MapS w b n m) (s : ByteArray) (hs : s.size ≤ maxLen) : (Instr.lookup 161 (.map (some b)) (.string s) true).run Tryd.prog w = .ok (.tuple #[(m s.data.toList).getD zTgt, .bool (m s.data.toList).isSome]) w := by
  obtain ⟨D, h1, h2⟩ := h.is
  obtain ⟨v, ps, hrun, hv⟩ := h1.look_ok Tryd.keyedS Tryd.uMapT (Tryd.zMapT w) (zd := .held zTgt) (zp := []) rfl (keyS_is s hs)
  rw [hrun, (h2 _).1]
  have := congrArg Prod.fst (Option.some.inj hv)
  simp only [(h2 _).2, DataW.held.injEq] at this
  rw [this]
theorem MapS.look1 {w : World} {b n : Nat} {m : List UInt8 → Option Value} (h : MapS w b n m) (s : ByteArray) (hs : s.size ≤ maxLen) : (Instr.lookup 161 (.map (some b)) (.string s) false).run Tryd.prog w = .ok ((m s.data.toList).getD zTgt) w := by
  obtain ⟨D, h1, h2⟩ := h.is
  obtain ⟨v, ps, hrun, hv⟩ := h1.lookup Tryd.keyedS Tryd.uMapT (Tryd.zMapT w) (zd := .held zTgt) (zp := []) rfl (keyS_is s hs)
  rw [hrun]
  have := congrArg Prod.fst (Option.some.inj hv)
  simp only [(h2 _).2, DataW.held.injEq] at this
  rw [this]
theorem MapS.store {w : World} {b n : Nat} {m : List UInt8 → Option Value} (h : MapS w b n m) (s : ByteArray) (hs : s.size ≤ maxLen) (hn : n < 1000000) (v : Value) :
    ∃ w', (Instr.mapUpdate 161 (.map (some b)) (.string s) v).run Tryd.prog w = .ok () w' ∧ MapS w' b (n + 1) (fun j => if j = s.data.toList then some v else m j) ∧ w.grownBy w' (some b) := by
  obtain ⟨D, h1, h2⟩ := h.is
  obtain ⟨w', hrun, hown, hturn⟩ := h1.store Tryd.keyedS Tryd.uMapT (by unfold maxLen; omega) (keyS_is s hs) (val := v) (d := .held v) (ps := []) rfl
  refine ⟨w', hrun, ⟨_, hown, fun j => ?_⟩, hturn.grown⟩
  by_cases e : j = s.data.toList
  · subst e
    rw [has_put_same h1.isMap (by trivial), atKey_put_same h1.isMap (by trivial)]
    simp
  · have hne : (Lit.string j) ≠ Lit.string s.data.toList := fun h => e (by injection h)
    rw [has_put_other hne, atKey_put_other hne, if_neg e]
    exact h2 j
end Go.Proofs.YtkgncijcnlfhiaaDoor

