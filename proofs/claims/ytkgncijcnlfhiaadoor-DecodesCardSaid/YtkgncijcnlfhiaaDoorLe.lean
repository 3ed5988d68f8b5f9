import Derived.Test.YtkgncijcnlfhiaaDoorFa
import Derived.Test.YtkgncijcnlfhiaaDoorE1
import Derived.Test.YtkgncijcnlfhiaaDoorL2
import Derived.Test.YtkgncijcnlfhiaaDoorR1b
import Derived.Test.YtkgncijcnlfhiaaDoorF3
namespace Go.Proofs.YtkgncijcnlfhiaaDoor
set_option linter.unusedVariables false
set_option linter.unusedSimpArgs false
open Go.RowKit
attribute [local go_sem ↓] Go.wp_at_zero Go.wp_at_succ
set_option maxRecDepth 100000 in
set_option maxHeartbeats 8000000 in
theorem section_ref (n : Nat) (hn : n < 256) (B : List UInt8) (hB : B.length ≤ 1000000) (a1 a2 a3 a4 a5 : Option Addr) (l1 l2 l3 l4 l5 c1 c2 c3 c4 c5 : Nat) (w : World)
    (hbody : ∀ V : World, Gr w V → Calls Tryd.prog 72 #[.agg #[.slice a1 l1 c1, .slice a2 l2 c2, .slice a3 l3 c3, .slice a4 l4 c4, .slice a5 l5 c5], .int .i64 (n : Int)] V fun x w' => x = .returned (.string ⟨B.toArray⟩) ∧ Gr V w') :
    Calls Tryd.prog 34 #[.agg #[.slice a1 l1 c1, .slice a2 l2 c2, .slice a3 l3 c3, .slice a4 l4 c4, .slice a5 l5 c5], .int .i64 (n : Int)] w fun x w' => x = .returned (.string ⟨(sect n B).toArray⟩) ∧ Gr w w' := by
  have hga := Gr.alloc (Gr.refl w) (.cells #[.slice a1 l1 c1, .slice a2 l2 c2, .slice a3 l3 c3, .slice a4 l4 c4, .slice a5 l5 c5] 28)
  have HB := hide (Box5.new w 28 (.slice a1 l1 c1) (.slice a2 l2 c2) (.slice a3 l3 c3) (.slice a4 l4 c4) (.slice a5 l5 c5))
  have HG := hide hga
  have HBd := hide (hbody _ hga)
  have hN : ∀ V : World, Hid (Calls Tryd.prog 73 #[.int .i64 (B.length : Int)] V fun x w' => x = .returned (.string ⟨(num B.length).toArray⟩) ∧ Gr V w') := fun V => hide (by
    have h := count_ref (B.length : Int) (by omega) (by omega) V
    simp only [Int.toNat_natCast] at h; exact h)
  have hK : ∀ V : World, Hid (Calls Tryd.prog 74 #[.string ⟨B.toArray⟩] V fun x w' => x = .returned (.string ⟨(leK (crc B) 4).toArray⟩) ∧ Gr V w') := fun V => hide (check_ref ⟨B.toArray⟩ V (by show B.toArray.size ≤ _; rw [List.size_toArray]; omega))
  have q1 := num_len B.length
  have q2 := leK_len (crc B) 4
  have HE : Hid (sect n B = (([UInt8.ofNat n] ++ num B.length) ++ B) ++ leK (crc B) 4) := hide rfl
  generalize num B.length = U1 at hN q1 HE
  generalize leK (crc B) 4 = U2 at hK q2 HE
  obtain ⟨X1, hX1⟩ : ∃ X, X = [UInt8.ofNat n] ++ U1 := ⟨_, rfl⟩
  obtain ⟨X2, hX2⟩ : ∃ X, X = X1 ++ B := ⟨_, rfl⟩
  obtain ⟨X3, hX3⟩ : ∃ X, X = X2 ++ U2 := ⟨_, rfl⟩
  have t1 : (ByteArray.mk #[UInt8.ofNat n] ++ ByteArray.mk U1.toArray) = ByteArray.mk X1.toArray := by rw [hX1]; exact str_app [UInt8.ofNat n] U1
  have t2 := str_app X1 B
  have t3 := str_app X2 U2
  rw [← hX1] at HE
  rw [← hX2] at t2 HE
  rw [← hX3] at t3 HE
  have z1 : U1.length ≤ 5000 := by omega
  have z2 : U2.length ≤ 5000 := by omega
  have x1 : X1.length ≤ 10000 := by rw [hX1, List.length_append]; simp; omega
  have x2 : X2.length ≤ 1020000 := by rw [hX2, List.length_append]; omega
  clear hX1 hX2 hX3 q1 q2 hbody hga
  have hw8 : IntKind.u8.wrap (n : Int) = (n : Int) := by rw [IntKind.wrap_u8]; omega
  obtain ⟨p0, p1, p2, p3, p4, _⟩ := HB.out
  go_enter Tryd.func34, Tryd.ntmps34
  go_wp2_with fail
  clear p0 p1 p2 p3 p4
  refine HBd.out.mono ?_
  rintro x w1 ⟨rfl, hg1⟩
  have HG1 := hide (HG.out.trans hg1)
  clear hg1 HBd HB HG
  generalize w.alloc (.cells #[.slice a1 l1 c1, .slice a2 l2 c2, .slice a3 l3 c3, .slice a4 l4 c4, .slice a5 l5 c5] 28) = W0 at *
  have hobA : (convert 113 9 (.slice (some ⟨w1.heap.size, 0, none⟩) 1 1)).run Tryd.prog (w1.alloc (.cells #[.int .u8 (n : Int)] 5)).drew = .ok (.string ⟨#[UInt8.ofNat n]⟩) (w1.alloc (.cells #[.int .u8 (n : Int)] 5)).drew := one_byte w1.drew n hn
  have hob := fun V : World => one_byte V n hn
  go_wp2_with fail
  go_region_with (first | (go_at_call 73; refine (hN _).out.mono ?_; rintro y wq ⟨rfl, hgq⟩; (first | (have hq := hgq.cell (show (w1.alloc (.cells #[.int .u8 (n : Int)] 5)).drew.cell? ⟨w1.heap.size, 0, none⟩ = some (.int .u8 (n : Int)) by simp [go_sem]) (by simp); have hobC := one_byte_at wq w1.heap.size n hn hq) | skip)) | (go_at_call 74; refine (hK _).out.mono ?_; rintro y wc ⟨rfl, hgc⟩; (first | (have hobD := one_byte_at wc w1.heap.size n hn (hgc.cell hq (by simp))) | (have hobD := one_byte_at wc wq.heap.size n hn (hgc.cell (show (wq.alloc (.cells #[.int .u8 (n : Int)] 5)).cell? ⟨wq.heap.size, 0, none⟩ = some (.int .u8 (n : Int)) by simp [go_sem]) (by simp))) | skip)))
  all_goals go_wp2_with fail
  all_goals go_ret
  all_goals refine ⟨by rw [HE.out]; rfl, HG1.out.trans ?_⟩
  all_goals first | exact (Gr.trans (Gr.drew ((Gr.refl w1).alloc _)) hgq).trans hgc | exact (Gr.trans (Gr.trans (Gr.drew (Gr.refl w1)) hgq) (Gr.alloc (Gr.refl _) _)).trans hgc | exact ((Gr.trans (Gr.drew (Gr.refl w1)) hgq).trans hgc).alloc _
end Go.Proofs.YtkgncijcnlfhiaaDoor

namespace Go.Proofs.YtkgncijcnlfhiaaDoor
set_option linter.unusedVariables false
set_option linter.unusedSimpArgs false
open Go.RowKit
attribute [local go_sem ↓] Go.wp_at_zero Go.wp_at_succ
def bodyK (u : PUnit) : Nat → List UInt8
  | 1 => body1 u
  | 2 => body2 u
  | 3 => body3 u
  | 4 => body4 u
  | _ => body5 u
theorem bodyK_ref (u : PUnit) (v : Value) (w : World) (hR : RUnit w v u) (hT : Tab w) (hok : unitOk u = true) (hF : Fits u) (n : Nat) (h1 : 1 ≤ n) (h5 : n ≤ 5) :
    Calls Tryd.prog 72 #[v, .int .i64 (n : Int)] w fun x w' => x = .returned (.string ⟨(bodyK u n).toArray⟩) ∧ Gr w w' := by
  have hc : n = 1 ∨ n = 2 ∨ n = 3 ∨ n = 4 ∨ n = 5 := by omega
  rcases hc with rfl | rfl | rfl | rfl | rfl
  · exact body1_ref u v w hR hT hok hF
  · exact body2_ref u v w hR hT hok hF
  · exact body3_ref u v w hR hT hok hF
  · exact body4_ref u v w hR hT hok hF
  · exact body5_ref u v w hR hT hok hF
theorem bodyK_len {u : PUnit} (h : unitOk u = true) (n : Nat) (h1 : 1 ≤ n) (h5 : n ≤ 5) : (bodyK u n).length ≤ 1000000 := by
  have hr := unitOk_room h
  have hc : n = 1 ∨ n = 2 ∨ n = 3 ∨ n = 4 ∨ n = 5 := by omega
  rcases hc with rfl | rfl | rfl | rfl | rfl
  · exact hr.b1
  · exact hr.b2
  · exact hr.b3
  · exact hr.b4
  · exact hr.b5
theorem sect_short (n : Nat) (b : List UInt8) : (sect n b).length ≤ 16 + b.length := by
  have := num_len b.length
  unfold sect; simp only [List.length_append, leK_len, List.length_cons, List.length_nil]; omega
end Go.Proofs.YtkgncijcnlfhiaaDoor

namespace Go.Proofs.YtkgncijcnlfhiaaDoor
set_option linter.unusedVariables false
set_option linter.unusedSimpArgs false
def refd5 (t : List UInt8) (sh : List (List Int)) (cs : List Int) (fs : List PFunc) (im : List PImp) (r4 : List UInt8) : PUnit ⊕ (Int × Nat) := match refSect 5 lexp encExp (fun y => exportsOk y fs.length) r4 with
  | none => .inr (2, pl t r4)
  | some (ex, r5) => if r5 = [] then .inl ⟨sh, cs, fs, im, ex⟩ else .inr (2, pl t r5)
def refd4 (t : List UInt8) (sh : List (List Int)) (cs : List Int) (fs : List PFunc) (r3 : List UInt8) : PUnit ⊕ (Int × Nat) := match refSect 4 limp encImp (fun y => importsOk y sh.length) r3 with
  | none => .inr (2, pl t r3)
  | some (im, r4) => refd5 t sh cs fs im r4
def refd3 (t : List UInt8) (sh : List (List Int)) (cs : List Int) (r2 : List UInt8) : PUnit ⊕ (Int × Nat) := match refSect 3 lfunc encFunc (fun y => funcsOk y sh.length) r2 with
  | none => .inr (2, pl t r2)
  | some (fs, r3) => refd4 t sh cs fs r3
def refd2 (t : List UInt8) (sh : List (List Int)) (r1 : List UInt8) : PUnit ⊕ (Int × Nat) := match refSect 2 lsigned encSigned constsOk r1 with
  | none => .inr (2, pl t r1)
  | some (cs, r2) => refd3 t sh cs r2
def refDec (t : List UInt8) : PUnit ⊕ (Int × Nat) :=
  if 20000 < t.length then .inr (3, 0)
  else if t.take 5 ≠ magic then .inr (2, 0)
  else match refSect 1 llist encKinds shapesOk (t.drop 5) with
    | none => .inr (2, 5)
    | some (sh, r1) => refd2 t sh r1
theorem sect_shorter {α : Type} {n : Nat} {f : List UInt8 → Option (List α × List UInt8)} {r r' : List UInt8} {y : List α} (h : rdSect n f r = some (y, r')) {m : Nat} (hr : r.length ≤ m) : r'.length ≤ m := by
  obtain ⟨x, e⟩ := rdSect_suffix h
  rw [e, List.length_append] at hr; omega
theorem refd5_eq (t : List UInt8) {sh : List (List Int)} (cs : List Int) {fs : List PFunc} (im : List PImp) (hsh : shapesOk sh = true) (hfs : funcsOk fs sh.length = true) (r : List UInt8) (hr : r.length ≤ 20000) : refd5 t sh cs fs im r = dec5 t sh cs fs im r := by
  unfold refd5 dec5; rw [ref_five hsh hfs r hr]
  cases h : rdSect 5 (rdList rdExp) r with
  | none => rfl
  | some p =>
    obtain ⟨y, r'⟩ := p
    cases hy : exportsOk y fs.length with
    | false => simp only [okd, hy, if_true]
    | true =>
      simp only [okd, hy, Bool.true_eq_false, if_false]
theorem refd4_eq (t : List UInt8) {sh : List (List Int)} (cs : List Int) {fs : List PFunc} (hsh : shapesOk sh = true) (hfs : funcsOk fs sh.length = true) (r : List UInt8) (hr : r.length ≤ 20000) : refd4 t sh cs fs r = dec4 t sh cs fs r := by
  unfold refd4 dec4; rw [ref_four hsh r hr]
  cases h : rdSect 4 (rdList rdImp) r with
  | none => rfl
  | some p =>
    obtain ⟨y, r'⟩ := p
    cases hy : importsOk y sh.length with
    | false => simp only [okd, hy, if_true]
    | true =>
      simp only [okd, hy, Bool.true_eq_false, if_false]
      exact refd5_eq t cs y hsh hfs _ (sect_shorter h hr)
theorem refd3_eq (t : List UInt8) {sh : List (List Int)} (cs : List Int) (hsh : shapesOk sh = true) (r : List UInt8) (hr : r.length ≤ 20000) : refd3 t sh cs r = dec3 t sh cs r := by
  unfold refd3 dec3; rw [ref_three hsh r hr]
  cases h : rdSect 3 (rdList rdFunc) r with
  | none => rfl
  | some p =>
    obtain ⟨y, r'⟩ := p
    cases hy : funcsOk y sh.length with
    | false => simp only [okd, hy, if_true]
    | true =>
      simp only [okd, hy, Bool.true_eq_false, if_false]
      exact refd4_eq t cs hsh hy _ (sect_shorter h hr)
theorem refd2_eq (t : List UInt8) {sh : List (List Int)} (hsh : shapesOk sh = true) (r : List UInt8) (hr : r.length ≤ 20000) : refd2 t sh r = dec2 t sh r := by
  unfold refd2 dec2; rw [ref_two hsh r hr]
  cases h : rdSect 2 (rdList rdSigned) r with
  | none => rfl
  | some p =>
    obtain ⟨y, r'⟩ := p
    cases hy : constsOk y with
    | false => simp only [okd, hy, if_true]
    | true =>
      simp only [okd, hy, Bool.true_eq_false, if_false]
      exact refd3_eq t y hsh _ (sect_shorter h hr)
/-- the strict reader and the loose one answer alike -/
theorem refDec_eq (t : List UInt8) : refDec t = dec t := by
  by_cases h1 : 20000 < t.length
  · unfold refDec dec; rw [if_pos h1, if_pos h1]
  · by_cases h2 : t.take 5 = magic
    · rw [dec_head h1 h2]
      unfold refDec; rw [if_neg h1, if_neg (fun h => h h2)]
      have hr : (t.drop 5).length ≤ 20000 := by rw [List.length_drop]; omega
      rw [ref_one _ hr]
      cases h : rdSect 1 (rdList rdKinds) (t.drop 5) with
      | none => rfl
      | some p =>
        obtain ⟨y, r'⟩ := p
        cases hy : shapesOk y with
        | false => simp only [okd, hy, if_true]
        | true =>
          simp only [okd, hy, Bool.true_eq_false, if_false]
          exact refd2_eq t hy _ (sect_shorter h hr)
    · unfold refDec dec; rw [if_neg h1, if_neg h1, if_pos h2, if_pos h2]
end Go.Proofs.YtkgncijcnlfhiaaDoor

namespace Go.Proofs.YtkgncijcnlfhiaaDoor
set_option linter.unusedVariables false
set_option linter.unusedSimpArgs false
open Go.RowKit
def fillU (k : Nat) (u : PUnit) (r : List UInt8) (bad : Bool) : PUnit × List UInt8 × Bool :=
  match k with
  | 1 => (⟨(lfill llist r bad).1, u.consts, u.funcs, u.imports, u.exports⟩, (lfill llist r bad).2)
  | 2 => (⟨u.shapes, (lfill lsigned r bad).1, u.funcs, u.imports, u.exports⟩, (lfill lsigned r bad).2)
  | 3 => (⟨u.shapes, u.consts, (lfill lfunc r bad).1, u.imports, u.exports⟩, (lfill lfunc r bad).2)
  | 4 => (⟨u.shapes, u.consts, u.funcs, (lfill limp r bad).1, u.exports⟩, (lfill limp r bad).2)
  | _ => (⟨u.shapes, u.consts, u.funcs, u.imports, (lfill lexp r bad).1⟩, (lfill lexp r bad).2)
def secU (k : Nat) (u : PUnit) (r : List UInt8) : PUnit × List UInt8 × Bool :=
  fillU k u (lnum (lnext r false).2.1 (lnext r false).2.2).2.1 (lnum (lnext r false).2.1 (lnext r false).2.2).2.2
def stepU (k : Nat) (u : PUnit) (r : List UInt8) : Option (PUnit × List UInt8) :=
  if (secU k u r).2.2 = false ∧ unitOk (secU k u r).1 = true ∧ r.take (sect k (bodyK (secU k u r).1 k)).length = sect k (bodyK (secU k u r).1 k) then some ((secU k u r).1, r.drop (sect k (bodyK (secU k u r).1 k)).length) else none
def loopU (t : List UInt8) : Nat → Nat → PUnit → List UInt8 → PUnit ⊕ (Int × Nat)
  | 0, _, u, r => if r = [] then .inl u else .inr (2, pl t r)
  | n + 1, k, u, r => match stepU k u r with
    | none => .inr (2, pl t r)
    | some (u', r') => loopU t n (k + 1) u' r'
def refDecU (t : List UInt8) : PUnit ⊕ (Int × Nat) :=
  if 20000 < t.length then .inr (3, 0)
  else if t.take 5 ≠ magic then .inr (2, 0)
  else loopU t 5 1 ⟨[], [], [], [], []⟩ (t.drop 5)
theorem stepU_of {α : Type} {k : Nat} {u : PUnit} {f : List UInt8 → Bool → α × List UInt8 × Bool} {g : α → List UInt8} {O : List α → Bool} {mk : List α → PUnit} (h1 : ∀ r bad, fillU k u r bad = (mk (lfill f r bad).1, (lfill f r bad).2)) (h2 : ∀ y, unitOk (mk y) = O y) (h3 : ∀ y, bodyK (mk y) k = encs g y) (r : List UInt8) :
    stepU k u r = (refSect k f g O r).map (fun p => (mk p.1, p.2)) := by
  have e : secU k u r = (mk (lsec f r).1, (lsec f r).2) := by unfold secU lsec; rw [h1]
  unfold stepU refSect
  rw [e]
  simp only [h2, h3]
  split <;> rfl
theorem refSect_ok {α : Type} {k : Nat} {f : List UInt8 → Bool → α × List UInt8 × Bool} {g : α → List UInt8} {O : List α → Bool} {r r' : List UInt8} {y : List α} (h : refSect k f g O r = some (y, r')) : O y = true := by
  unfold refSect at h
  split at h
  · rename_i c
    simp only [Option.some.injEq, Prod.mk.injEq] at h
    rw [← h.1]; exact c.2.1
  · cases h
theorem refDecU_eq (t : List UInt8) : refDecU t = refDec t := by
  unfold refDecU refDec
  split
  · rfl
  rename_i hl
  split
  · rfl
  rename_i hm
  unfold loopU
  rw [stepU_of (f := llist) (g := encKinds) (O := shapesOk) (mk := fun y => ⟨y, [], [], [], []⟩) (fun _ _ => rfl) (fun y => ok_one y) (fun _ => rfl)]
  cases e1 : refSect 1 llist encKinds shapesOk (t.drop 5) with
  | none =>
    have : 5 ≤ t.length := by
      have := congrArg List.length (Decidable.not_not.1 hm)
      rw [List.length_take] at this
      have h5 : magic.length = 5 := by decide
      omega
    simp only [Option.map_none, pl, List.length_drop]
    congr 2; omega
  | some p1 =>
    obtain ⟨sh, r1⟩ := p1
    have k1 := refSect_ok e1
    simp only [Option.map_some]
    unfold loopU refd2
    rw [stepU_of (f := lsigned) (g := encSigned) (O := constsOk) (mk := fun y => ⟨sh, y, [], [], []⟩) (fun _ _ => rfl) (fun y => ok_two k1 y) (fun _ => rfl)]
    cases e2 : refSect 2 lsigned encSigned constsOk r1 with
    | none => rfl
    | some p2 =>
      obtain ⟨cs, r2⟩ := p2
      have k2 := refSect_ok e2
      simp only [Option.map_some]
      unfold loopU refd3
      rw [stepU_of (f := lfunc) (g := encFunc) (O := fun y => funcsOk y sh.length) (mk := fun y => ⟨sh, cs, y, [], []⟩) (fun _ _ => rfl) (fun y => ok_three k1 k2 y) (fun _ => rfl)]
      cases e3 : refSect 3 lfunc encFunc (fun y => funcsOk y sh.length) r2 with
      | none => rfl
      | some p3 =>
        obtain ⟨fs, r3⟩ := p3
        have k3 := refSect_ok e3
        simp only [Option.map_some]
        unfold loopU refd4
        rw [stepU_of (f := limp) (g := encImp) (O := fun y => importsOk y sh.length) (mk := fun y => ⟨sh, cs, fs, y, []⟩) (fun _ _ => rfl) (fun y => ok_four k1 k2 k3 y) (fun _ => rfl)]
        cases e4 : refSect 4 limp encImp (fun y => importsOk y sh.length) r3 with
        | none => rfl
        | some p4 =>
          obtain ⟨im, r4⟩ := p4
          have k4 := refSect_ok e4
          simp only [Option.map_some]
          unfold loopU refd5
          rw [stepU_of (f := lexp) (g := encExp) (O := fun y => exportsOk y fs.length) (mk := fun y => ⟨sh, cs, fs, im, y⟩) (fun _ _ => rfl) (fun y => ok_five k1 k2 k3 k4 y) (fun _ => rfl)]
          cases e5 : refSect 5 lexp encExp (fun y => exportsOk y fs.length) r4 with
          | none => rfl
          | some p5 => rfl
end Go.Proofs.YtkgncijcnlfhiaaDoor

