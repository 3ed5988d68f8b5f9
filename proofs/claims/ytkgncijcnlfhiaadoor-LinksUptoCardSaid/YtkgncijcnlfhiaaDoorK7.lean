import Derived.Test.YtkgncijcnlfhiaaDoorBk7
import Derived.Test.YtkgncijcnlfhiaaDoorBk8
import Derived.Test.YtkgncijcnlfhiaaDoorHk
import Derived.Test.YtkgncijcnlfhiaaDoorK4
import Derived.Test.YtkgncijcnlfhiaaDoorNa
namespace Go.Proofs.YtkgncijcnlfhiaaDoor
set_option linter.unusedVariables false
set_option linter.unusedSimpArgs false
open Go.RowKit
attribute [local go_sem ↓] Go.wp_at_zero Go.wp_at_succ
def PutO (db n B0 : Nat) (os : List Nat) (ob N1 : Nat) (V : Nat → Value) (X : Nat → List Value) (ρ : Nat → BR) (w5 : World) (x : Ending) (w' : World) : Prop :=
  x = .returned (.bool true) ∧ ∃ vo', DkS (fun b => N1 ≤ b ∧ b < w5.heap.size) db n B0 (os ++ [ob]) w' V X ρ vo' ∧ (∀ b, N1 ≤ b → b < w5.heap.size → w'.heap[b]? = w5.heap[b]?) ∧ Below db w5 w'
set_option maxRecDepth 100000 in
set_option maxHeartbeats 2000000 in
theorem put_own (lo db ob n B0 : Nat) (vo : Value) (os : List Nat) (V' : Nat → Value) (S' : Nat → List (Nat × Nat)) (V : Nat → Value) (X : Nat → List Value) (ρ : Nat → BR) (w1 w : World) (hd : DkS (fun b => lo ≤ b) db n B0 os w V X ρ vo) (h1 : OwnAt lo w1 ob false V' S') (hl1 : lo ≤ w1.heap.size) (hs15 : w1.heap.size ≤ w.heap.size) (ho : OwnAt lo w ob false V' S') (hos : os.length ≤ 100) :
    Calls Tryd.prog 16 #[.pointer (some ⟨db, 0, none⟩), .pointer (some ⟨ob, 0, none⟩)] w (PutO db n B0 os ob w1.heap.size V X ρ w) := by
  have HD := hide hd
  have HO := hide ho
  have H1 := hide h1
  have hlo : lo ≤ w.heap.size := Nat.le_trans hl1 hs15
  clear hd ho h1
  go_enter Tryd.func16, Tryd.ntmps16
  go_wp2_with fail
  refine (behind_any lo ob V' S' w HO.out).mono ?_
  rintro e w' ⟨rfl, hw'⟩
  obtain rfl := hw'.symm
  go_wp2_with fail
  refine (spoil_any lo ob V' S' w HO.out hlo).mono ?_
  rintro e w2 ⟨rfl, ho1, hb1, hl2, hse⟩
  have HDn := hide (HD.out.below hb1)
  have HO1 := hide ho1
  have HB1 := hide hb1
  have HSE := hide hse
  have hdc : w2.cell? ⟨db, 0, none⟩ = some vo := by rw [heap_cell HDn.out.s.box]; rfl
  have hnd : ¬ vo.ownBlock = some db := fun e => by have := (HDn.out.o.lt db e).1; omega
  have hsl : os.length ≤ 10000000 := by omega
  clear HO ho1 hb1 hse
  go_wp2_with (first
    | (at_builtin; refine wpList_append_vals _ rfl _ _ 30 48 1 8 (.pointer none) Tryd.ownPtr Tryd.underlying30 rfl (by decide) (by decide) rfl (db + 1) _ os.length (os.map ptrV) rfl HDn.out.o #[ptrV ob] rfl (by intro u hu; simp at hu; subst hu; rfl) _ rfl (by simp) hsl (by have := HDn.out.s.lt; omega) ?_; intro v3 w3 hap; obtain ⟨⟨a8, c8, hv3⟩, _⟩ := own_form hap.own; subst hv3; have hob3 := hap.frm.cell hdc (fun e => hnd e.symm); have hz3 : w3.frozen? ⟨db, 0, none⟩ = false := (World.frozen?_of_block (hap.frm.block db HDn.out.s.lt (fun e => hnd e.symm))).trans (heap_frozen HDn.out.s.box)))
  go_ret
  obtain ⟨k1, k2, k3⟩ := HD.out.push H1.out hl1 hs15 HO1.out HSE.out HB1.out hap
  exact ⟨rfl, _, k1, k2, k3⟩
set_option maxRecDepth 100000 in
set_option maxHeartbeats 2000000 in
theorem deskO_holds (db n B0 : Nat) (os : List Nat) (w : World) (hd : DkO db n B0 os w) :
    Calls Tryd.prog 8 #[.pointer (some ⟨db, 0, none⟩)] w fun x w' => x = .returned (.bool true) ∧ Gr w w' := by
  have hnot : ∀ (x : Bool) (w : World), (Op.unary .not (.bool x)).run Tryd.prog w = .ok (.bool (!x)) w := fun _ _ => rfl
  obtain ⟨V, X, ρ, vo, h⟩ := hd
  obtain ⟨⟨ao, cap, hv⟩, hm⟩ := own_form h.o
  have hc0 : w.cell? ⟨db, 0, none⟩ = some (.slice ao os.length cap) := by rw [heap_cell h.s.box, ← hv]; rfl
  have HRow : ∀ i o, os[i]? = some o → Hid (∃ g, ao = some ⟨g, 0, none⟩ ∧ w.cell? ⟨g, i, none⟩ = some (.pointer (some ⟨o, 0, none⟩)) ∧ ∃ lo V S, OwnAt lo w o true V S) := fun i o hi => hide (by
    have hil : i < os.length := (List.getElem?_eq_some_iff.1 hi).1
    obtain ⟨g, k1, k2, ⟨cap', k3⟩, k4⟩ := own_at h.o (j := i) (by omega)
    rw [hv] at k3
    simp only [Value.slice.injEq] at k3
    rw [Nat.zero_add] at k4
    obtain ⟨D, lo, V, S, m1, m2⟩ := (h.k o (List.mem_of_getElem? hi)).is
    exact ⟨g, k3.1, by rw [k4, List.getElem?_map, hi]; rfl, lo, V, S, m1.to⟩)
  have HS := hide h.s
  have HE := hide h.e
  unfold maxLen at hm
  clear hv h
  go_enter Tryd.func8, Tryd.ntmps8
  go_wp2_with fail
  go_loopw [3] (fun i wr => ∃ k : Nat, k ≤ os.length ∧ i = .int .i64 k ∧ w = wr) (fun i _ => os.length - (intOf i).toNat)
  case atStart => exact ⟨0, Nat.zero_le _, rfl, rfl⟩
  case round =>
    obtain ⟨k, hk, rfl, rfl⟩ := hrel
    by_cases hlt : k < os.length
    · obtain ⟨o, ho⟩ := getElem?_lt hlt
      obtain ⟨g, rfl, hrow, lo, V, S, hok⟩ := (HRow k o ho).out
      have HOK := hide hok
      clear hok ho HRow
      go_wp2_with (go_at_call 18; refine (spoilt_any lo o V S w HOK.out).mono ?_; rintro e w' ⟨rfl, hw'⟩; obtain rfl := hw'.symm)
      go_roundw
      case rel => exact ⟨k + 1, by omega, by go_num, by first | rfl | trivial⟩
      case measure => simp [intOf]; omega
    · have hkk : k = os.length := by omega
      subst hkk
      clear hlt hk HRow
      go_wp2_with fail
      refine (book_holds db _ _ V X ρ w HS.out HE.out).mono ?_
      rintro x w1 ⟨rfl, hg⟩
      have HG := hide hg
      clear hg
      go_wp2_with fail
      go_ret
      exact ⟨rfl, HG.out⟩
theorem DkO.new {w : World} {db : Nat} (h : w.heap[db]? = some (.cells #[nS, zI, nS, nS, nS, nS, nS, nS, nS, nS, nS] 39 (0, 0))) : DkO db 0 0 [] w := by
  have hl := block_lt h
  refine ⟨fun _ => nS, fun _ => [], fun _ => .no, nS, ⟨h, fun i h1 h2 => ⟨World.ownsRow_nil _ _ _ _, fun k hk => by simp [nS, Value.ownBlock] at hk⟩, fun b hb => absurd rfl hb⟩, ⟨⟨[], rfl, rfl, fun e he => by simp at he⟩, ⟨[], rfl, rfl, fun e he => by simp at he⟩, ⟨[], rfl, rfl, rfl, rfl, rfl, fun e he => by simp at he⟩⟩, fun i => Nat.le_refl _, World.ownsRow_nil _ _ _ _, fun g hg => by simp [nS, Value.ownBlock] at hg, fun b hb => absurd rfl hb, by omega, fun ob hob => by simp at hob⟩
end Go.Proofs.YtkgncijcnlfhiaaDoor

namespace Go.Proofs.YtkgncijcnlfhiaaDoor
set_option linter.unusedVariables false
set_option linter.unusedSimpArgs false
open Go.RowKit
attribute [local go_sem ↓] Go.wp_at_zero Go.wp_at_succ
/-- the exports of unit a that are looked at -/
def expsA (k i a : Nat) (E : List PExp) : List PExp := if a < k then E else if a = k then E.take i else []
def expoK (n : List UInt8) (k i : Nat) : Nat → List PUnit → Nat × Nat × Int → Nat × Nat × Int
  | _, [], r => r
  | a, u :: l, r => expoK n k i (a + 1) l (expoU n a (expsA k i a u.exports) r)
theorem expoK_all (n : List UInt8) : ∀ (l : List PUnit) (k a : Nat) (r : Nat × Nat × Int), a + l.length ≤ k → expoK n k 0 a l r = expoL n a l r
  | [], _, _, _, _ => rfl
  | u :: l, k, a, r, h => by
    simp at h
    rw [expoK, expoL, expsA, if_pos (by omega), expoK_all n l k (a + 1) _ (by omega)]
theorem expoK_past (n : List UInt8) (k i : Nat) : ∀ (l : List PUnit) (a : Nat) (r : Nat × Nat × Int), k < a → expoK n k i a l r = r
  | [], _, _, _ => rfl
  | u :: l, a, r, h => by
    rw [expoK, expsA, if_neg (by omega), if_neg (by omega), expoU, expoK_past n k i l (a + 1) r (by omega)]
theorem expoU_drop {n : List UInt8} {a b : Nat} {E : List PExp} {e : PExp} {r : Nat × Nat × Int} (h : E[b]? = some e) : expoU n a (E.drop b) r = expoU n a (E.drop (b + 1)) (if e.name = n then (r.1 + 1, a, e.func) else r) := by
  obtain ⟨hb, rfl⟩ := List.getElem?_eq_some_iff.1 h
  rw [List.drop_eq_getElem_cons hb, expoU]
theorem expsA_at {k i a b : Nat} {E : List PExp} {e : PExp} (h : E[b]? = some e) (hc : a < k ∨ (a = k ∧ b < i)) : (expsA k i a E)[b]? = some e := by
  unfold expsA
  by_cases h1 : a < k
  · rw [if_pos h1]; exact h
  · rw [if_neg h1, if_pos (by omega), List.getElem?_take, if_pos (by omega)]; exact h
theorem expsA_no {k i a b : Nat} {E : List PExp} (h1 : ¬ a < k) (hk : a = k) (h2 : ¬ b < i) : (expsA k i a E).drop b = [] ∧ (expsA k i a E).drop (b + 1) = [] := by
  unfold expsA
  rw [if_neg h1, if_pos hk]
  constructor <;> (rw [List.drop_eq_nil_iff, List.length_take]; omega)
theorem expsA_end {k i a b : Nat} {E : List PExp} (h : E.length ≤ b) : (expsA k i a E).drop b = [] := by
  rw [List.drop_eq_nil_iff]
  unfold expsA
  by_cases h1 : a < k
  · rw [if_pos h1]; exact h
  · rw [if_neg h1]
    by_cases h2 : a = k
    · rw [if_pos h2, List.length_take]; omega
    · rw [if_neg h2]; exact Nat.zero_le _
theorem drop_cons_ {α : Type} {l : List α} {a : Nat} {u : α} (h : l[a]? = some u) : l.drop a = u :: l.drop (a + 1) := by
  obtain ⟨ha, rfl⟩ := List.getElem?_eq_some_iff.1 h
  exact List.drop_eq_getElem_cons ha
/-- a unit of a list, its exports -/
theorem RUnits.at5 {w : World} {v : Value} {l : List PUnit} (h : RUnits w v l) {a : Nat} {u : PUnit} (hu : l[a]? = some u) : ∃ b off cap b5 c5, v = .slice (some ⟨b, off, none⟩) l.length cap ∧ w.cell? ⟨b, off + a * 5 + 4, none⟩ = some (.slice b5 u.exports.length c5) ∧ u.exports.length ≤ maxLen ∧ ∀ i e, u.exports[i]? = some e → ∃ xb xo s, b5 = some ⟨xb, xo, none⟩ ∧ w.cell? ⟨xb, xo + i * 2, none⟩ = some (.string s) ∧ s.data.toList = e.name ∧ w.cell? ⟨xb, xo + i * 2 + 1, none⟩ = some (.int .i64 e.func) := by
  obtain ⟨ao, cap, rfl, hm, hc⟩ := h
  obtain ⟨b, off, v1, v2, v3, v4, v5, rfl, c1, c2, c3, c4, c5, hr⟩ := hc a u hu
  obtain ⟨y1, y2, y3, y4, y5, hv, k1, k2, k3, k4, k5⟩ := hr
  simp only [Value.agg.injEq, Array.mk.injEq, List.cons.injEq, and_true] at hv
  obtain ⟨rfl, rfl, rfl, rfl, rfl⟩ := hv
  obtain ⟨b5, c5', rfl, hm5, hx⟩ := k5
  refine ⟨b, off, cap, b5, c5', rfl, c5, hm5, fun i e he => ?_⟩
  obtain ⟨xb, xo, vs, q1, q2, q3, s, rfl, q5, _⟩ := hx i e he
  exact ⟨xb, xo, s, q1, q2, q5, q3⟩
set_option maxRecDepth 100000 in
set_option maxHeartbeats 4000000 in
theorem exported_ref (l : List PUnit) (vl : Value) (s : ByteArray) (k i : Nat) (w : World) (hR : RUnits w vl l) (hk : k ≤ 1000) (hi : i ≤ 1000) (hl : l.length ≤ 1000) (hE : ∀ u ∈ l, u.exports.length ≤ 20) :
    Calls Tryd.prog 108 #[vl, .string s, .int .i64 (k : Int), .int .i64 (i : Int)] w fun x w' => x = .returned (.tuple #[.int .i64 ((expoK s.data.toList k i 0 l (0, 0, 0)).1 : Int), .int .i64 ((expoK s.data.toList k i 0 l (0, 0, 0)).2.1 : Int), .int .i64 (expoK s.data.toList k i 0 l (0, 0, 0)).2.2]) ∧ w' = w := by
  obtain ⟨al, cl, rfl⟩ := hR.shape
  have HR := hide hR
  clear hR
  generalize hD : expoK s.data.toList k i 0 l (0, 0, 0) = D
  have HD := hide hD
  clear hD
  go_enter Tryd.func108, Tryd.ntmps108
  go_wp2_with fail
  go_loopw [11, 12, 13, 14] (fun nv uv fv av wr => ∃ (a : Nat) (r : Nat × Nat × Int), nv = .int .i64 (r.1 : Int) ∧ uv = .int .i64 (r.2.1 : Int) ∧ fv = .int .i64 r.2.2 ∧ av = .int .i64 (a : Int) ∧ a ≤ l.length ∧ a ≤ k + 1 ∧ r.1 ≤ a * 20 ∧ Hid (expoK s.data.toList k i a (l.drop a) r = D) ∧ w = wr) (fun _ _ _ av _ => l.length - (intOf av).toNat)
  case atStart => exact ⟨0, (0, 0, 0), rfl, rfl, rfl, rfl, Nat.zero_le _, Nat.zero_le _, Nat.zero_le _, HD, rfl⟩
  case round =>
    obtain ⟨a, ⟨r1, r2, r3⟩, rfl, rfl, rfl, rfl, ha, hak, hr1, HI, rfl⟩ := hrel
    simp only at hr1
    by_cases hc : a ≤ k ∧ a < l.length
    · obtain ⟨hc1, hc2⟩ := hc
      have hd1 : (a : Int) ≤ (k : Int) := by omega
      have hd2 : (a : Int) < (l.length : Int) := by omega
      have hd0 : (0 : Int) ≤ (a : Int) := by omega
      obtain ⟨u, hu⟩ : ∃ u, l[a]? = some u := ⟨_, List.getElem?_eq_getElem hc2⟩
      obtain ⟨b, off, cap, b5, c5, hv, hx5, hml, hex⟩ := HR.out.at5 hu
      simp only [Value.slice.injEq, true_and] at hv
      obtain ⟨rfl, rfl⟩ := hv
      have HEx := hide hex
      have HU := hide hu
      have h20 := hE u (List.mem_of_getElem? hu)
      clear hex hu hml
      generalize hEE : expsA k i a u.exports = EE
      have HEE := hide hEE
      clear hEE
      go_wp2_with fail
      go_loopw [11, 12, 13, 15] (fun nv uv fv bv wr => ∃ (q : Nat) (r : Nat × Nat × Int), nv = .int .i64 (r.1 : Int) ∧ uv = .int .i64 (r.2.1 : Int) ∧ fv = .int .i64 r.2.2 ∧ bv = .int .i64 (q : Int) ∧ q ≤ u.exports.length ∧ r.1 ≤ r1 + q ∧ Hid (expoU s.data.toList a (EE.drop q) r = expoU s.data.toList a EE (r1, r2, r3)) ∧ w = wr) (fun _ _ _ bv _ => u.exports.length - (intOf bv).toNat)
      case atStart => exact ⟨0, (r1, r2, r3), rfl, rfl, rfl, rfl, Nat.zero_le _, Nat.le_refl _, hide rfl, rfl⟩
      case round =>
        obtain ⟨q, ⟨t1, t2, t3⟩, rfl, rfl, rfl, rfl, hq, ht1, HJ, rfl⟩ := hrel
        simp only at ht1
        by_cases hql : q < u.exports.length
        · obtain ⟨e, he⟩ : ∃ e, u.exports[q]? = some e := ⟨_, List.getElem?_eq_getElem hql⟩
          obtain ⟨xb, xo, s', rfl, hx0, hxs, hx1⟩ := HEx.out q e he
          have hq0 : (0 : Int) ≤ (q : Int) := by omega
          have hq1 : (q : Int) < (u.exports.length : Int) := by omega
          by_cases hcd : a < k ∨ (a = k ∧ q < i)
          · have HAt := hide (expsA_at (k := k) (i := i) he hcd)
            rw [HEE.out] at HAt
            have HXS := hide hxs
            clear he hxs
            have hkk : (a : Int) < (k : Int) ∨ ((k : Int) ≤ (a : Int) ∧ (q : Int) < (i : Int)) := by omega
            clear hcd
            by_cases hn : s' = s
            · subst hn
              have HN : Hid (expoU s'.data.toList a (EE.drop (q + 1)) (t1 + 1, a, e.func) = expoU s'.data.toList a EE (r1, r2, r3)) := hide (by
                rw [← HJ.out, expoU_drop HAt.out, if_pos HXS.out.symm])
              rcases hkk with hkk | ⟨hkk, hki⟩ <;> (
                go_wp2_with fail
                go_roundw
                case rel => exact ⟨q + 1, (t1 + 1, a, e.func), by go_num, rfl, rfl, by go_num, by omega, by show t1 + 1 ≤ _; omega, HN, by first | rfl | trivial⟩
                case measure => simp [intOf]; omega)
            · have HN : Hid (expoU s.data.toList a (EE.drop (q + 1)) (t1, t2, t3) = expoU s.data.toList a EE (r1, r2, r3)) := hide (by
                rw [← HJ.out, expoU_drop HAt.out, if_neg (fun h => hn (by rw [← HXS.out] at h; cases s'; cases s; simp only [ByteArray.mk.injEq]; exact Array.toList_inj.1 h))])
              have hb : (s'.toList == s.toList) = false := by
                rw [beq_eq_false_iff_ne]
                intro h
                rw [ByteArray.toList_eq, ByteArray.toList_eq] at h
                exact hn (by cases s'; cases s; simp only [ByteArray.mk.injEq]; exact Array.toList_inj.1 h)
              rcases hkk with hkk | ⟨hkk, hki⟩ <;> (
                go_wp2_with fail
                go_roundw
                case rel => exact ⟨q + 1, (t1, t2, t3), rfl, rfl, rfl, by go_num, by omega, by show t1 ≤ _; omega, HN, by first | rfl | trivial⟩
                case measure => simp [intOf]; omega)
          · have hnn := expsA_no (k := k) (i := i) (a := a) (b := q) (E := u.exports) (by omega) (by omega) (by omega)
            rw [HEE.out] at hnn
            have HN : Hid (expoU s.data.toList a (EE.drop (q + 1)) (t1, t2, t3) = expoU s.data.toList a EE (r1, r2, r3)) := hide (by
              rw [← HJ.out, hnn.1, hnn.2])
            have hk1 : (k : Int) ≤ (a : Int) := by omega
            have hk2 : (i : Int) ≤ (q : Int) := by omega
            clear hnn hcd he hxs
            go_wp2_with fail
            go_roundw
            case rel => exact ⟨q + 1, (t1, t2, t3), rfl, rfl, rfl, by go_num, by omega, by show t1 ≤ _; omega, HN, by first | rfl | trivial⟩
            case measure => simp [intOf]; omega
        · have hqe : q = u.exports.length := by omega
          subst hqe
          have hend := expsA_end (k := k) (i := i) (a := a) (Nat.le_refl u.exports.length)
          rw [HEE.out] at hend
          have HN : Hid (expoK s.data.toList k i (a + 1) (l.drop (a + 1)) (t1, t2, t3) = D) := hide (by
            rw [← HI.out, drop_cons_ HU.out, expoK, HEE.out, ← HJ.out, hend, expoU])
          clear hend
          go_wp2_with fail
          go_roundw
          case rel => exact ⟨a + 1, (t1, t2, t3), rfl, rfl, rfl, by go_num, by omega, by omega, by show t1 ≤ _; omega, HN, by first | rfl | trivial⟩
          case measure => simp [intOf]; omega
    · have hfin : (r1, r2, r3) = D := by
        rw [← HI.out]
        by_cases h1 : a < l.length
        · rw [expoK_past _ _ _ _ _ _ (by omega)]
        · rw [List.drop_eq_nil_iff.2 (by omega), expoK]
      subst hfin
      by_cases hak2 : a ≤ k
      · have hd1 : (a : Int) ≤ (k : Int) := by omega
        have hd2 : (l.length : Int) ≤ (a : Int) := by omega
        clear hc
        go_wp2_with fail
        exact bodyPost_ret (v := .tuple #[.int .i64 (r1 : Int), .int .i64 (r2 : Int), .int .i64 r3]) (by simp [results, Tryd.results108, go_sem]) rfl ⟨rfl, rfl⟩
      · have hd1 : (k : Int) < (a : Int) := by omega
        clear hc
        go_wp2_with fail
        exact bodyPost_ret (v := .tuple #[.int .i64 (r1 : Int), .int .i64 (r2 : Int), .int .i64 r3]) (by simp [results, Tryd.results108, go_sem]) rfl ⟨rfl, rfl⟩
theorem RUnits.at23 {w : World} {v : Value} {l : List PUnit} (h : RUnits w v l) {a : Nat} {u : PUnit} (hu : l[a]? = some u) : ∃ b off cap b2 c2 b3 c3, v = .slice (some ⟨b, off, none⟩) l.length cap ∧ w.cell? ⟨b, off + a * 5 + 1, none⟩ = some (.slice b2 u.consts.length c2) ∧ w.cell? ⟨b, off + a * 5 + 2, none⟩ = some (.slice b3 u.funcs.length c3) := by
  obtain ⟨ao, cap, rfl, hm, hc⟩ := h
  obtain ⟨b, off, v1, v2, v3, v4, v5, rfl, c1, c2, c3, c4, c5, hr⟩ := hc a u hu
  obtain ⟨y1, y2, y3, y4, y5, hv, k1, k2, k3, k4, k5⟩ := hr
  simp only [Value.agg.injEq, Array.mk.injEq, List.cons.injEq, and_true] at hv
  obtain ⟨rfl, rfl, rfl, rfl, rfl⟩ := hv
  obtain ⟨b2, d2, rfl, _⟩ := k2
  obtain ⟨b3, d3, rfl, _⟩ := k3
  exact ⟨b, off, cap, b2, d2, b3, d3, rfl, c2, c3⟩
set_option maxRecDepth 100000 in
set_option maxHeartbeats 2000000 in
theorem ahead_ref (l : List PUnit) (vl : Value) (k : Nat) (w : World) (hR : RUnits w vl l) (hk : k ≤ l.length) (hl : l.length ≤ 1000) (hE : ∀ u ∈ l, u.consts.length ≤ 1000 ∧ u.funcs.length ≤ 1000) :
    Calls Tryd.prog 50 #[vl, .int .i64 (k : Int)] w fun x w' => x = .returned (.tuple #[.int .i64 (aheadC l k : Int), .int .i64 (aheadF l k : Int)]) ∧ w' = w := by
  obtain ⟨al, cl, rfl⟩ := hR.shape
  have HR := hide hR
  clear hR
  go_enter Tryd.func50, Tryd.ntmps50
  go_wp2_with fail
  go_loopw [6, 7, 8] (fun cv fv av wr => ∃ (a x y : Nat), cv = .int .i64 (x : Int) ∧ fv = .int .i64 (y : Int) ∧ av = .int .i64 (a : Int) ∧ a ≤ k ∧ x ≤ a * 1000 ∧ y ≤ a * 1000 ∧ Hid (x = aheadC l a ∧ y = aheadF l a) ∧ w = wr) (fun _ _ av _ => k - (intOf av).toNat)
  case atStart => exact ⟨0, 0, 0, rfl, rfl, rfl, Nat.zero_le _, Nat.zero_le _, Nat.zero_le _, hide ⟨rfl, rfl⟩, rfl⟩
  case round =>
    obtain ⟨a, x, y, rfl, rfl, rfl, ha, hx, hy, HXY, rfl⟩ := hrel
    by_cases hlt : a < k
    · obtain ⟨u, hu⟩ : ∃ u, l[a]? = some u := ⟨_, List.getElem?_eq_getElem (by omega)⟩
      obtain ⟨b, off, cap, b2, c2, b3, c3, hv, h2, h3⟩ := HR.out.at23 hu
      simp only [Value.slice.injEq, true_and] at hv
      obtain ⟨rfl, rfl⟩ := hv
      obtain ⟨m1, m2⟩ := hE u (List.mem_of_getElem? hu)
      have hd0 : (0 : Int) ≤ (a : Int) := by omega
      have hd1 : (a : Int) < (l.length : Int) := by omega
      have hd2 : (a : Int) < (k : Int) := by omega
      have HN : Hid (x + u.consts.length = aheadC l (a + 1) ∧ y + u.funcs.length = aheadF l (a + 1)) := hide ⟨by rw [aheadC_succ hu, HXY.out.1], by rw [aheadF_succ hu, HXY.out.2]⟩
      clear hu
      go_wp2_with fail
      go_roundw
      case rel => exact ⟨a + 1, x + u.consts.length, y + u.funcs.length, by go_num, by go_num, by go_num, by omega, by omega, by omega, HN, by first | rfl | trivial⟩
      case measure => simp [intOf]; omega
    · have hae : a = k := by omega
      subst hae
      obtain ⟨rfl, rfl⟩ := HXY.out
      go_wp2_with fail
      exact bodyPost_ret (v := .tuple #[.int .i64 (aheadC l a : Int), .int .i64 (aheadF l a : Int)]) (by simp [results, Tryd.results50, go_sem]) rfl ⟨rfl, rfl⟩
end Go.Proofs.YtkgncijcnlfhiaaDoor

