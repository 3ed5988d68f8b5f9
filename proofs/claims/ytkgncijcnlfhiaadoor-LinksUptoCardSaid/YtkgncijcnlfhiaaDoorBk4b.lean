import Derived.Deep.Cut
import Derived.Deep.CutRange
import Derived.Test.YtkgncijcnlfhiaaDoorBk3
namespace Go.Proofs.YtkgncijcnlfhiaaDoor
set_option linter.unusedVariables false
set_option linter.unusedSimpArgs false
open Go.RowKit
attribute [local go_sem ↓] Go.wp_at_zero Go.wp_at_succ

set_option maxRecDepth 100000 in
set_option maxHeartbeats 4000000 in
theorem numbers_any (db : Nat) (vo : Value) (n : Nat) (V : Nat → Value) (X : Nat → List Value) (ρ : Nat → BR) (w : World) (kk ki : Nat) (v : Value) (L : Nat) (xs0 : List Value) (hS : BookS db w vo (n : Int) V X ρ) (hE : BookE w ρ X) (hO : OwR ρ (.ls kk ki) w (db + 1) 3 1 v L xs0) (hn : n ≤ 1000000) (hL : L ≤ 100000) (hX : ∀ i, (X i).length ≤ 1000000) :
    Calls Tryd.prog 45 #[.pointer (some ⟨db, 1, none⟩), v] w (NumR db (.ls kk ki) vo n X ρ w) := by
  obtain ⟨⟨ao, cp, rfl⟩, _⟩ := own_form hO.1
  have hc1 : w.cell? ⟨db, 1, none⟩ = some (.int .i64 (n : Int)) := by rw [heap_cell hS.box]; rfl
  have hz1 : w.frozen? ⟨db, 1, none⟩ = false := heap_frozen hS.box
  have hw1 : IntKind.i64.wrap ((n : Int) + 1) = (n : Int) + 1 := Go.IntWalk.i64_in _ (by omega)
  have hw2 : IntKind.i64.wrap (-77000000 - ((n : Int) + 1)) = -77000000 - ((n : Int) + 1) := Go.IntWalk.i64_in _ (by omega)
  obtain ⟨hS1, hM1⟩ := hS.count (m := (n : Int) + 1)
  have hne := hS.db_no
  have HS1 := hide hS1
  have HM1 := hide hM1
  have HE1 := hide (hE.stay (hM1.stay id (by rw [hne]; nofun)))
  have HO1 := hide (hO.mv hM1 id)
  have HX := hide hX
  clear hS hE hO hS1 hM1 hX
  go_enter Tryd.func45, Tryd.ntmps45
  go_wp2_with fail
  generalize w.setCell ⟨db, 1, none⟩ (.int .i64 ((n : Int) + 1)) = W1 at HS1 HM1 HE1 HO1 ⊢
  generalize hmm : -77000000 - ((n : Int) + 1) = m
  clear hc1 hz1 hw1 hw2 hmm
  go_loopw [5] (fun i wr => ∃ (k : Nat) (xs : List Value), k ≤ L ∧ i = .int .i64 (k : Int) ∧ Hid (OwR ρ (.ls kk ki) wr (db + 1) 3 1 (.slice ao L cp) L xs) ∧ Hid (∀ i c, i < k → c < 1 → xs[i * 1 + c]? = ([.int .i64 m] : List Value)[c]?) ∧ Hid (MvR db (· = .ls kk ki) W1 wr ρ ρ) ∧ Hid (BookS db wr vo ((n : Int) + 1) V X ρ)) (fun i _ => L - (intOf i).toNat)
  case atStart => exact ⟨0, xs0, Nat.zero_le _, rfl, HO1, hide (fun i c hi _ => by omega), hide ⟨Nat.le_refl _, fun _ _ => rfl, fun _ _ _ _ => rfl, fun k hk hn => by have := (HS1.out.pl k hn).2; omega, rfl, rfl, rfl⟩, HS1⟩
  case round =>
    obtain ⟨k, xs, hk, rfl, HOr, HXr, HMr, HSr⟩ := hrel
    by_cases hlt : k < L
    · obtain ⟨g, cp', hg, hcz⟩ := own_cellz HOr.out.1 (by omega)
      simp only [Value.slice.injEq, true_and] at hg
      obtain ⟨rfl, rfl⟩ := hg
      have hxl := HOr.out.1.1
      obtain ⟨⟨x0, hx0⟩, hz0⟩ := hcz k (by omega)
      have hkn : (0 : Int) ≤ (k : Int) := by omega
      have hkn2 : (k : Int) < (L : Int) := by omega
      have HXL := hide hxl
      clear hxl hcz
      go_wp2_with fail
      go_roundw
      case rel =>
        have hxl := HXL.out
        have q0 := HOr.out.set (g := g) rfl (k) (by omega) (.int .i64 m) (fun b hb => (HSr.out.pl b hb).2)
        refine ⟨k + 1, _, by omega, by go_num, hide q0.1, hide ?_, hide (HMr.out.trans q0.2), hide (HSr.out.mv q0.2 (fun i e => by cases e) (by
          have hgd : ¬ db = g := fun e => by have := (HOr.out.1.lt g rfl).1; omega
          exact Below.heap_setCell _ _ _ _ hgd))⟩
        intro i c hi hc
        have hc0 : c = 0 := by omega
        subst hc0
        rw [List.getElem?_set]
        by_cases e : k = i * 1 + 0
        · rw [if_pos e, if_pos (by rw [hxl]; omega)]; rfl
        · rw [if_neg e]; exact HXr.out i 0 (by omega) (by decide)
      case measure => simp [intOf]; omega
    · have hkL : k = L := by omega
      subst hkL
      have hxs : xs = rp k [.int .i64 m] := rp_of HOr.out.1.1 rfl (by decide) HXr.out
      subst hxs
      have hA : ∀ x, (x = BR.ls kk ki ∨ x = .row 2 ∨ x = .row 3) → x = BR.ls kk ki ∨ ∃ i, x = .row i := fun x h => h.elim .inl (fun h => .inr (h.elim (fun h => ⟨_, h⟩) (fun h => ⟨_, h⟩)))
      go_wp2_with fail
      go_loopw [1, 6] (fun lv kv w2 => ∃ (j : Nat) (es : List (Value × Nat)) (V' : Nat → Value) (X' : Nat → List Value) (ρ' : Nat → BR), j ≤ 4 ∧ kv = .int .i64 (j : Int) ∧ es.length = j ∧ Hid (OwR ρ' (.ls kk ki) w2 (db + 1) 3 1 lv (k + j) (rp (k + j) [.int .i64 m])) ∧ Hid (BookS db w2 vo ((n : Int) + 1) V' X' ρ') ∧ Hid (MvR db (fun x => x = .ls kk ki ∨ x = .row 2 ∨ x = .row 3) wr w2 ρ ρ') ∧ Hid (X' 2 = X 2 ++ es.map (·.1) ∧ X' 3 = X 3 ++ es.map (fun _ => .int .i64 m) ∧ ∀ q, q ≠ 2 → q ≠ 3 → X' q = X q) ∧ Hid (∀ e ∈ es, EntR ρ' (.ls kk ki) 1 w2 e.1 e.2 (rp e.2 [.int .i64 m]) ∧ e.2 ≤ k + j)) (fun _ kv _ => 4 - (intOf kv).toNat)
      case atStart => exact ⟨0, [], V, X, ρ, by decide, rfl, rfl, HOr, HSr, hide ⟨Nat.le_refl _, fun _ _ => rfl, fun _ _ _ _ => rfl, fun k hk hn => by have := (HSr.out.pl k hn).2; omega, rfl, rfl, rfl⟩, hide ⟨by simp, by simp, fun _ _ _ => rfl⟩, hide (fun e he => by simp at he)⟩
      case round =>
        obtain ⟨j, es, V', X', ρ', hj, rfl, hes, HOx, HSx, HMx, HXx, HEx⟩ := hrel
        obtain ⟨⟨a', c', rfl⟩, _⟩ := own_form HOx.out.1
        have HES := hide hes
        clear hes
        by_cases hj4 : j < 4
        · have HLn : Hid (∀ q, (X' q).length ≤ 2000000) := hide (fun q => by
            have h1 := HX.out q
            have h2 := HES.out
            by_cases e : q = 2
            · subst e; rw [HXx.out.1]; simp; omega
            · by_cases e2 : q = 3
              · subst e2; rw [HXx.out.2.1]; simp; omega
              · rw [HXx.out.2.2 q e e2]; omega)
          have hrow2 := (HSx.out.row 2 (by decide) (by decide)).1
          have hdl2 := HSx.out.lt
          have hbx2 := HSx.out.box
          obtain ⟨⟨aI2, cI2, hVI2⟩, _⟩ := own_form hrow2
          have hcI2 : _ = some (Value.slice aI2 (X' 2).length cI2) := (heap_cell (j := 2) hbx2).trans (congrArg some hVI2)
          have hnd2 : ¬ Value.ownBlock (.slice aI2 (X' 2).length cI2) = some db := fun e => by rw [← hVI2] at e; have := (hrow2.lt db e).1; omega
          have HB2 := hide hbx2
          have hrow22 : World.ownsRow wr (db + 1) 23 1 (.slice aI2 (X' 2).length cI2) (X' 2).length (X' 2) := by have h := hrow2; rw [hVI2] at h; exact h
          have hlen2 : (X' 2).length ≤ 10000000 := by have := HLn.out 2; omega
          clear hbx2
          go_upto_region 10 with (at_builtin; refine wpList_append_vals _ rfl _ _ 22 23 1 24 (.slice none 0 0) Tryd.ownRow0 Tryd.underlying22 rfl (by decide) (by decide) rfl (db + 1) (.slice aI2 (X' 2).length cI2) (X' 2).length (X' 2) rfl hrow22 #[.slice a' (k + j) c'] rfl (by intro u hu; simp at hu; subst hu; rfl) _ rfl (by simp) hlen2 (by omega) ?_; intro v32 w32 hap2; have HAP2 := hide hap2; obtain ⟨⟨a82, c82, hv32⟩, _⟩ := own_form hap2.own; subst hv32; have hob32 := hap2.frm.cell hcI2 (fun e => hnd2 e.symm); have hz32 : w32.frozen? ⟨db, 2, none⟩ = false := (World.frozen?_of_block (hap2.frm.block db hdl2 (fun e => hnd2 e.symm))).trans (heap_frozen HB2.out); clear hap2)
          have hst2 := HSx.out.app (i := 2) (by decide) (by decide) (y := .slice a' (k + j) c') (hVI2 ▸ HAP2.out)
          obtain ⟨hSb2, hMb2⟩ := hst2
          have hXa2 : upb X' 2 (X' 2 ++ [.slice a' (k + j) c']) 2 = X' 2 ++ [.slice a' (k + j) c'] := if_pos rfl
          have hXb2 : ∀ q, q ≠ 2 → upb X' 2 (X' 2 ++ [.slice a' (k + j) c']) q = X' q := fun q hq => if_neg hq
          generalize w32.setCell ⟨db, 2, none⟩ (.slice a82 ((X' 2).length + 1) c82) = W2 at hSb2 hMb2 ⊢
          generalize upb X' 2 (X' 2 ++ [.slice a' (k + j) c']) = X2 at hSb2 hXa2 hXb2
          have hdn2 := HSx.out.db_no
          generalize grw _ (Value.slice a82 ((X' 2).length + 1) c82) (.row 2) _ = ρ2 at hSb2 hMb2
          generalize upb _ 2 (Value.slice a82 ((X' 2).length + 1) c82) = V2 at hSb2
          have HL2 : Hid (∀ q, (X2 q).length ≤ 2000020) := hide (fun q => by
            have := HLn.out q
            by_cases e : q = 2
            · subst e; rw [hXa2]; have := hlen2; simp; omega
            · rw [hXb2 q e]; omega)
          have HS2 := hide hSb2
          have HXa2 := hide hXa2
          have HXb2 := hide hXb2
          clear hXa2 hXb2
          have HMb2 := hide hMb2
          clear hSb2 hMb2 hrow2 hrow22 hcI2 hnd2 hlen2 HAP2 hVI2 hob32 hz32 hdl2 HB2
          have HO2 := hide (HOx.out.mv HMb2.out nofun)
          have HE2 : Hid (∀ e ∈ es, EntR ρ2 (.ls kk ki) 1 W2 e.1 e.2 (rp e.2 [.int .i64 m]) ∧ e.2 ≤ k + j) := hide (fun e he => ⟨(HEx.out e he).1.mv HMb2.out nofun (by rw [hdn2]; nofun), (HEx.out e he).2⟩)
          clear HOx HEx HSx
          have hrow3 := (HS2.out.row 3 (by decide) (by decide)).1
          have hdl3 := HS2.out.lt
          have hbx3 := HS2.out.box
          obtain ⟨⟨aI3, cI3, hVI3⟩, _⟩ := own_form hrow3
          have hcI3 : _ = some (Value.slice aI3 (X2 3).length cI3) := (heap_cell (j := 3) hbx3).trans (congrArg some hVI3)
          have hnd3 : ¬ Value.ownBlock (.slice aI3 (X2 3).length cI3) = some db := fun e => by rw [← hVI3] at e; have := (hrow3.lt db e).1; omega
          have HB3 := hide hbx3
          have hrow23 : World.ownsRow W2 (db + 1) 3 1 (.slice aI3 (X2 3).length cI3) (X2 3).length (X2 3) := by have h := hrow3; rw [hVI3] at h; exact h
          have hlen3 : (X2 3).length ≤ 10000000 := by have := HL2.out 3; omega
          clear hbx3
          go_upto_region 11 with (at_builtin; refine wpList_append_vals _ rfl _ _ 23 3 1 8 (.int .i64 0) Tryd.ownInt Tryd.underlying23 rfl (by decide) (by decide) rfl (db + 1) (.slice aI3 (X2 3).length cI3) (X2 3).length (X2 3) rfl hrow23 #[.int .i64 m] rfl (by intro u hu; simp at hu; subst hu; rfl) _ rfl (by simp) hlen3 (by omega) ?_; intro v33 w33 hap3; have HAP3 := hide hap3; obtain ⟨⟨a83, c83, hv33⟩, _⟩ := own_form hap3.own; subst hv33; have hob33 := hap3.frm.cell hcI3 (fun e => hnd3 e.symm); have hz33 : w33.frozen? ⟨db, 3, none⟩ = false := (World.frozen?_of_block (hap3.frm.block db hdl3 (fun e => hnd3 e.symm))).trans (heap_frozen HB3.out); clear hap3)
          have hst3 := HS2.out.app (i := 3) (by decide) (by decide) (y := .int .i64 m) (hVI3 ▸ HAP3.out)
          obtain ⟨hSb3, hMb3⟩ := hst3
          have hXa3 : upb X2 3 (X2 3 ++ [.int .i64 m]) 3 = X2 3 ++ [.int .i64 m] := if_pos rfl
          have hXb3 : ∀ q, q ≠ 3 → upb X2 3 (X2 3 ++ [.int .i64 m]) q = X2 q := fun q hq => if_neg hq
          generalize w33.setCell ⟨db, 3, none⟩ (.slice a83 ((X2 3).length + 1) c83) = W3 at hSb3 hMb3 ⊢
          generalize upb X2 3 (X2 3 ++ [.int .i64 m]) = X3 at hSb3 hXa3 hXb3
          have hdn3 := HS2.out.db_no
          generalize grw _ (Value.slice a83 ((X2 3).length + 1) c83) (.row 3) _ = ρ3 at hSb3 hMb3
          generalize upb _ 3 (Value.slice a83 ((X2 3).length + 1) c83) = V3 at hSb3
          have HL3 : Hid (∀ q, (X3 q).length ≤ 2000030) := hide (fun q => by
            have := HL2.out q
            by_cases e : q = 3
            · subst e; rw [hXa3]; have := hlen3; simp; omega
            · rw [hXb3 q e]; omega)
          have HS3 := hide hSb3
          have HXa3 := hide hXa3
          have HXb3 := hide hXb3
          clear hXa3 hXb3
          have HMb3 := hide hMb3
          clear hSb3 hMb3 hrow3 hrow23 hcI3 hnd3 hlen3 HAP3 hVI3 hob33 hz33 hdl3 HB3
          have HO3 := hide (HO2.out.mv HMb3.out nofun)
          have HE3 : Hid (∀ e ∈ es, EntR ρ3 (.ls kk ki) 1 W3 e.1 e.2 (rp e.2 [.int .i64 m]) ∧ e.2 ≤ k + j) := hide (fun e he => ⟨(HE2.out e he).1.mv HMb3.out nofun (by rw [hdn3]; nofun), (HE2.out e he).2⟩)
          clear HO2 HE2 HS2
          have HX3 : Hid (X3 2 = X 2 ++ (es ++ [(Value.slice a' (k + j) c', k + j)]).map (·.1) ∧ X3 3 = X 3 ++ (es ++ [(Value.slice a' (k + j) c', k + j)]).map (fun _ => .int .i64 m) ∧ ∀ q, q ≠ 2 → q ≠ 3 → X3 q = X q) := hide ⟨by rw [HXb3.out 2 (by decide), HXa2.out, HXx.out.1]; simp, by rw [HXa3.out, HXb2.out 3 (by decide), HXx.out.2.1]; simp, fun q h1 h2 => by rw [HXb3.out q h2, HXb2.out q h1]; exact HXx.out.2.2 q h1 h2⟩
          have HM3 := hide ((HMx.out.trans (HMb2.out.mono (fun x h => .inr (.inl h)))).trans (HMb3.out.mono (fun x h => .inr (.inr h))))
          clear HMx HXx HXa2 HXb2 HXa3 HXb3
          have hrow := HO3.out.1
          have hlen : k + j ≤ 10000000 := by omega
          have hdl := HS3.out.lt
          have hmle : ∀ (W : World) (v' : Value) (w' : World), Ap (db + 1) 3 1 W3 (.slice a' (k + j) c') w' v' (k + j + 1) (rp (k + j) [.int .i64 m] ++ #[.int .i64 m].toList) → Hid (Ap (db + 1) 3 1 W3 (.slice a' (k + j) c') w' v' (k + j + 1) (rp (k + j + 1) [.int .i64 m])) := fun _ _ _ h => hide (by rw [← rp_snoc]; exact h)
          go_wp2_with (at_builtin; refine wpList_append_kept _ rfl _ _ 23 3 1 8 (Value.int .i64 0) Tryd.ownInt Tryd.underlying23 rfl (by decide) (by decide) rfl (db + 1) (.slice a' (k + j) c') (k + j) (rp (k + j) [.int .i64 m]) rfl hrow #[.int .i64 m] rfl (by intro u hu; simp at hu; first | (subst hu; rfl) | (rcases hu with rfl | rfl | rfl <;> rfl)) _ rfl (by simp) hlen (by omega) ?_; intro v4 w4 hap hkp; have HAP := hide hap; have HKP := hide hkp; obtain ⟨⟨a9, c9, hv4⟩, _⟩ := own_form hap.own; subst hv4; clear hap hkp)
          go_roundw
          case rel =>
            have hap := HAP.out
            have hmv := mv_ap (r := .ls kk ki) (ρ := ρ3) hap HO3.out.2
            refine ⟨j + 1, es ++ [(.slice a' (k + j) c', k + j)], V3, X3, grw W3.heap.size (.slice a9 (k + j + 1) c9) (.ls kk ki) ρ3, by omega, by go_num, by rw [List.length_append, HES.out]; rfl, hide ?_, hide (HS3.out.mv hmv (fun i e => by cases e) (hap.frm.block db hdl (fun e => by have := (hrow.lt db e.symm).1; omega))), hide (HM3.out.trans (hmv.mono (fun x h => .inl h))), HX3, hide ?_⟩
            · have := HO3.out.app hap
              rw [show rp (k + j) [.int .i64 m] ++ #[.int .i64 m].toList = rp (k + j + 1) [.int .i64 m] from rp_snoc _ _] at this
              exact this
            · intro e he
              rcases List.mem_append.1 he with he | he
              · exact ⟨(HE3.out e he).1.app (rp_pre (HE3.out e he).2 _) hrow hap HKP.out, by have := (HE3.out e he).2; omega⟩
              · rw [List.mem_singleton.1 he]
                exact ⟨(EntR.of HO3.out).app List.prefix_rfl hrow hap HKP.out, by show k + j ≤ _; omega⟩
          case measure => simp [intOf]; omega
        · have hj5 : j = 4 := by omega
          subst hj5
          have hM := (HM1.out.mono (fun x h => h.elim)).trans ((HMr.out.mono (fun x h => .inl h)).trans HMx.out)
          have hMW := (HMr.out.mono (A' := fun x => x = BR.ls kk ki ∨ x = .row 2 ∨ x = .row 3) (fun x h => .inl h)).trans HMx.out
          have hE2 := (HE1.out.stay (hMW.stay (by simp) (by rw [hne]; nofun))).stay (fin_dn (r := .ls kk ki))
          have HFin : Hid (NumR db (.ls kk ki) vo n X ρ w (.returned (.tuple #[])) wr) := hide ⟨rfl, V', X', fin (.ls kk ki) ρ', HSx.out.fin_ (fun _ => nofun) nofun, ?fin, MvD.of hM hA, fun q => by
            have h2 := HES.out
            by_cases e : q = 2
            · subst e; rw [HXx.out.1]; simp; omega
            · by_cases e2 : q = 3
              · subst e2; rw [HXx.out.2.1]; simp; omega
              · rw [HXx.out.2.2 q e e2]; omega⟩
          case fin => (obtain ⟨I0, i1, i2, i3⟩ := hE2.i; exact ⟨⟨I0 ++ es.map (fun e => (e.1, e.2, m)), by rw [HXx.out.1, i1]; simp, by rw [HXx.out.2.1, i2]; simp, fun e he => (List.mem_append.1 he).elim (i3 e) (fun he => by obtain ⟨e0, h0, rfl⟩ := List.mem_map.1 he; exact (HEx.out e0 h0).1.ints.stay fin_stay)⟩, by rw [HXx.out.2.2 4 (by decide) (by decide), HXx.out.2.2 5 (by decide) (by decide)]; exact hE2.c, by rw [HXx.out.2.2 6 (by decide) (by decide), HXx.out.2.2 7 (by decide) (by decide), HXx.out.2.2 8 (by decide) (by decide), HXx.out.2.2 9 (by decide) (by decide), HXx.out.2.2 10 (by decide) (by decide)]; exact hE2.o⟩)
          clear hM hMW hE2
          go_wp2_with fail
          go_end0
          exact HFin.out
end Go.Proofs.YtkgncijcnlfhiaaDoor

namespace Go.Proofs.YtkgncijcnlfhiaaDoor
set_option linter.unusedVariables false
set_option linter.unusedSimpArgs false
open Go.RowKit
attribute [local go_sem ↓] Go.wp_at_zero Go.wp_at_succ


set_option maxRecDepth 100000 in
set_option maxHeartbeats 4000000 in
theorem code_any_ (db : Nat) (vo : Value) (n : Nat) (V : Nat → Value) (X : Nat → List Value) (ρ : Nat → BR) (w : World) (kk ki : Nat) (v : Value) (L : Nat) (xs0 : List Value) (hS : BookS db w vo (n : Int) V X ρ) (hE : BookE w ρ X) (hO : OwR ρ (.ls kk ki) w (db + 1) 91 3 v L xs0) (hn : n ≤ 1000000) (hL : L ≤ 100000) (hX : ∀ i, (X i).length ≤ 1000000) :
    Calls Tryd.prog 46 #[.pointer (some ⟨db, 1, none⟩), v] w (NumR db (.ls kk ki) vo n X ρ w) := by
  obtain ⟨⟨ao, cp, rfl⟩, _⟩ := own_form hO.1
  have hc1 : w.cell? ⟨db, 1, none⟩ = some (.int .i64 (n : Int)) := by rw [heap_cell hS.box]; rfl
  have hz1 : w.frozen? ⟨db, 1, none⟩ = false := heap_frozen hS.box
  have hw1 : IntKind.i64.wrap ((n : Int) + 1) = (n : Int) + 1 := Go.IntWalk.i64_in _ (by omega)
  have hw2 : IntKind.i64.wrap (-77000000 - ((n : Int) + 1)) = -77000000 - ((n : Int) + 1) := Go.IntWalk.i64_in _ (by omega)
  obtain ⟨hS1, hM1⟩ := hS.count (m := (n : Int) + 1)
  have hne := hS.db_no
  have HS1 := hide hS1
  have HM1 := hide hM1
  have HE1 := hide (hE.stay (hM1.stay id (by rw [hne]; nofun)))
  have HO1 := hide (hO.mv hM1 id)
  have HX := hide hX
  clear hS hE hO hS1 hM1 hX
  go_enter Tryd.func46, Tryd.ntmps46
  go_wp2_with fail
  generalize w.setCell ⟨db, 1, none⟩ (.int .i64 ((n : Int) + 1)) = W1 at HS1 HM1 HE1 HO1 ⊢
  generalize hmm : -77000000 - ((n : Int) + 1) = m
  clear hc1 hz1 hw1 hw2 hmm
  go_loopw [5] (fun i wr => ∃ (k : Nat) (xs : List Value), k ≤ L ∧ i = .int .i64 (k : Int) ∧ Hid (OwR ρ (.ls kk ki) wr (db + 1) 91 3 (.slice ao L cp) L xs) ∧ Hid (∀ i c, i < k → c < 3 → xs[i * 3 + c]? = ([.int .i64 0, .int .i64 m, .int .i64 0] : List Value)[c]?) ∧ Hid (MvR db (· = .ls kk ki) W1 wr ρ ρ) ∧ Hid (BookS db wr vo ((n : Int) + 1) V X ρ)) (fun i _ => L - (intOf i).toNat)
  case atStart => exact ⟨0, xs0, Nat.zero_le _, rfl, HO1, hide (fun i c hi _ => by omega), hide ⟨Nat.le_refl _, fun _ _ => rfl, fun _ _ _ _ => rfl, fun k hk hn => by have := (HS1.out.pl k hn).2; omega, rfl, rfl, rfl⟩, HS1⟩
  case round =>
    obtain ⟨k, xs, hk, rfl, HOr, HXr, HMr, HSr⟩ := hrel
    by_cases hlt : k < L
    · obtain ⟨g, cp', hg, hcz⟩ := own_cellz HOr.out.1 (by omega)
      simp only [Value.slice.injEq, true_and] at hg
      obtain ⟨rfl, rfl⟩ := hg
      have hxl := HOr.out.1.1
      obtain ⟨⟨x0, hx0⟩, hz0⟩ := hcz (k * 3) (by omega)
      obtain ⟨⟨x1, hx1⟩, hz1⟩ := hcz (k * 3 + 1) (by omega)
      obtain ⟨⟨x2, hx2⟩, hz2⟩ := hcz (k * 3 + 2) (by omega)
      have hkn : (0 : Int) ≤ (k : Int) := by omega
      have hkn2 : (k : Int) < (L : Int) := by omega
      have HXL := hide hxl
      clear hxl hcz
      go_wp2_with fail
      go_roundw
      case rel =>
        have hxl := HXL.out
        have q0 := HOr.out.set (g := g) rfl (k * 3) (by omega) (.int .i64 0) (fun b hb => (HSr.out.pl b hb).2)
        have q1 := q0.1.set (g := g) rfl (k * 3 + 1) (by omega) (.int .i64 m) (fun b hb => by simpa using (HSr.out.pl b hb).2)
        have q2 := q1.1.set (g := g) rfl (k * 3 + 2) (by omega) (.int .i64 0) (fun b hb => by simpa using (HSr.out.pl b hb).2)
        refine ⟨k + 1, _, by omega, by go_num, hide q2.1, hide ?_, hide (HMr.out.trans ((q0.2.trans q1.2).trans q2.2)), hide (HSr.out.mv ((q0.2.trans q1.2).trans q2.2) (fun i e => by cases e) (by
          have hgd : ¬ db = g := fun e => by have := (HOr.out.1.lt g rfl).1; omega
          rw [Below.heap_setCell _ _ _ _ hgd, Below.heap_setCell _ _ _ _ hgd, Below.heap_setCell _ _ _ _ hgd]))⟩
        intro i c hi hc
        have hcc : c = 0 ∨ c = 1 ∨ c = 2 := by omega
        rw [List.getElem?_set, List.getElem?_set, List.getElem?_set]
        simp only [List.length_set]
        by_cases e : i = k
        · subst e
          rcases hcc with rfl | rfl | rfl
          · rw [if_neg (by omega), if_neg (by omega), if_pos (by omega), if_pos (by rw [hxl]; omega)]; rfl
          · rw [if_neg (by omega), if_pos rfl, if_pos (by rw [hxl]; omega)]; rfl
          · rw [if_pos rfl, if_pos (by rw [hxl]; omega)]; rfl
        · rw [if_neg (by omega), if_neg (by omega), if_neg (by omega)]; exact HXr.out i c (by omega) hc
      case measure => simp [intOf]; omega
    · have hkL : k = L := by omega
      subst hkL
      have hxs : xs = rp k [.int .i64 0, .int .i64 m, .int .i64 0] := rp_of HOr.out.1.1 rfl (by decide) HXr.out
      subst hxs
      have hA : ∀ x, (x = BR.ls kk ki ∨ x = .row 4 ∨ x = .row 5) → x = BR.ls kk ki ∨ ∃ i, x = .row i := fun x h => h.elim .inl (fun h => .inr (h.elim (fun h => ⟨_, h⟩) (fun h => ⟨_, h⟩)))
      go_wp2_with fail
      go_loopw [1, 6] (fun lv kv w2 => ∃ (j : Nat) (es : List (Value × Nat)) (V' : Nat → Value) (X' : Nat → List Value) (ρ' : Nat → BR), j ≤ 4 ∧ kv = .int .i64 (j : Int) ∧ es.length = j ∧ Hid (OwR ρ' (.ls kk ki) w2 (db + 1) 91 3 lv (k + j) (rp (k + j) [.int .i64 0, .int .i64 m, .int .i64 0])) ∧ Hid (BookS db w2 vo ((n : Int) + 1) V' X' ρ') ∧ Hid (MvR db (fun x => x = .ls kk ki ∨ x = .row 4 ∨ x = .row 5) wr w2 ρ ρ') ∧ Hid (X' 4 = X 4 ++ es.map (·.1) ∧ X' 5 = X 5 ++ es.map (fun _ => .int .i64 m) ∧ ∀ q, q ≠ 4 → q ≠ 5 → X' q = X q) ∧ Hid (∀ e ∈ es, EntR ρ' (.ls kk ki) 3 w2 e.1 e.2 (rp e.2 [.int .i64 0, .int .i64 m, .int .i64 0]) ∧ e.2 ≤ k + j)) (fun _ kv _ => 4 - (intOf kv).toNat)
      case atStart => exact ⟨0, [], V, X, ρ, by decide, rfl, rfl, HOr, HSr, hide ⟨Nat.le_refl _, fun _ _ => rfl, fun _ _ _ _ => rfl, fun k hk hn => by have := (HSr.out.pl k hn).2; omega, rfl, rfl, rfl⟩, hide ⟨by simp, by simp, fun _ _ _ => rfl⟩, hide (fun e he => by simp at he)⟩
      case round =>
        obtain ⟨j, es, V', X', ρ', hj, rfl, hes, HOx, HSx, HMx, HXx, HEx⟩ := hrel
        obtain ⟨⟨a', c', rfl⟩, _⟩ := own_form HOx.out.1
        have HES := hide hes
        clear hes
        by_cases hj4 : j < 4
        · have HLn : Hid (∀ q, (X' q).length ≤ 2000000) := hide (fun q => by
            have h1 := HX.out q
            have h2 := HES.out
            by_cases e : q = 4
            · subst e; rw [HXx.out.1]; simp; omega
            · by_cases e2 : q = 5
              · subst e2; rw [HXx.out.2.1]; simp; omega
              · rw [HXx.out.2.2 q e e2]; omega)
          have hrow2 := (HSx.out.row 4 (by decide) (by decide)).1
          have hdl2 := HSx.out.lt
          have hbx2 := HSx.out.box
          obtain ⟨⟨aI2, cI2, hVI2⟩, _⟩ := own_form hrow2
          have hcI2 : _ = some (Value.slice aI2 (X' 4).length cI2) := (heap_cell (j := 4) hbx2).trans (congrArg some hVI2)
          have hnd2 : ¬ Value.ownBlock (.slice aI2 (X' 4).length cI2) = some db := fun e => by rw [← hVI2] at e; have := (hrow2.lt db e).1; omega
          have HB2 := hide hbx2
          have hrow22 : World.ownsRow wr (db + 1) 74 1 (.slice aI2 (X' 4).length cI2) (X' 4).length (X' 4) := by have h := hrow2; rw [hVI2] at h; exact h
          have hlen2 : (X' 4).length ≤ 10000000 := by have := HLn.out 4; omega
          clear hbx2
          go_upto_region 10 with (at_builtin; refine wpList_append_vals _ rfl _ _ 31 74 1 24 (.slice none 0 0) Tryd.ownRow2 Tryd.underlying31 rfl (by decide) (by decide) rfl (db + 1) (.slice aI2 (X' 4).length cI2) (X' 4).length (X' 4) rfl hrow22 #[.slice a' (k + j) c'] rfl (by intro u hu; simp at hu; subst hu; rfl) _ rfl (by simp) hlen2 (by omega) ?_; intro v32 w32 hap2; have HAP2 := hide hap2; obtain ⟨⟨a82, c82, hv32⟩, _⟩ := own_form hap2.own; subst hv32; have hob32 := hap2.frm.cell hcI2 (fun e => hnd2 e.symm); have hz32 : w32.frozen? ⟨db, 4, none⟩ = false := (World.frozen?_of_block (hap2.frm.block db hdl2 (fun e => hnd2 e.symm))).trans (heap_frozen HB2.out); clear hap2)
          have hst2 := HSx.out.app (i := 4) (by decide) (by decide) (y := .slice a' (k + j) c') (hVI2 ▸ HAP2.out)
          obtain ⟨hSb2, hMb2⟩ := hst2
          have hXa2 : upb X' 4 (X' 4 ++ [.slice a' (k + j) c']) 4 = X' 4 ++ [.slice a' (k + j) c'] := if_pos rfl
          have hXb2 : ∀ q, q ≠ 4 → upb X' 4 (X' 4 ++ [.slice a' (k + j) c']) q = X' q := fun q hq => if_neg hq
          generalize w32.setCell ⟨db, 4, none⟩ (.slice a82 ((X' 4).length + 1) c82) = W2 at hSb2 hMb2 ⊢
          generalize upb X' 4 (X' 4 ++ [.slice a' (k + j) c']) = X2 at hSb2 hXa2 hXb2
          have hdn2 := HSx.out.db_no
          generalize grw _ (Value.slice a82 ((X' 4).length + 1) c82) (.row 4) _ = ρ2 at hSb2 hMb2
          generalize upb _ 4 (Value.slice a82 ((X' 4).length + 1) c82) = V2 at hSb2
          have HL2 : Hid (∀ q, (X2 q).length ≤ 2000020) := hide (fun q => by
            have := HLn.out q
            by_cases e : q = 4
            · subst e; rw [hXa2]; have := hlen2; simp; omega
            · rw [hXb2 q e]; omega)
          have HS2 := hide hSb2
          have HXa2 := hide hXa2
          have HXb2 := hide hXb2
          clear hXa2 hXb2
          have HMb2 := hide hMb2
          clear hSb2 hMb2 hrow2 hrow22 hcI2 hnd2 hlen2 HAP2 hVI2 hob32 hz32 hdl2 HB2
          have HO2 := hide (HOx.out.mv HMb2.out nofun)
          have HE2 : Hid (∀ e ∈ es, EntR ρ2 (.ls kk ki) 3 W2 e.1 e.2 (rp e.2 [.int .i64 0, .int .i64 m, .int .i64 0]) ∧ e.2 ≤ k + j) := hide (fun e he => ⟨(HEx.out e he).1.mv HMb2.out nofun (by rw [hdn2]; nofun), (HEx.out e he).2⟩)
          clear HOx HEx HSx
          have hrow3 := (HS2.out.row 5 (by decide) (by decide)).1
          have hdl3 := HS2.out.lt
          have hbx3 := HS2.out.box
          obtain ⟨⟨aI3, cI3, hVI3⟩, _⟩ := own_form hrow3
          have hcI3 : _ = some (Value.slice aI3 (X2 5).length cI3) := (heap_cell (j := 5) hbx3).trans (congrArg some hVI3)
          have hnd3 : ¬ Value.ownBlock (.slice aI3 (X2 5).length cI3) = some db := fun e => by rw [← hVI3] at e; have := (hrow3.lt db e).1; omega
          have HB3 := hide hbx3
          have hrow23 : World.ownsRow W2 (db + 1) 3 1 (.slice aI3 (X2 5).length cI3) (X2 5).length (X2 5) := by have h := hrow3; rw [hVI3] at h; exact h
          have hlen3 : (X2 5).length ≤ 10000000 := by have := HL2.out 5; omega
          clear hbx3
          go_upto_region 11 with (at_builtin; refine wpList_append_vals _ rfl _ _ 23 3 1 8 (.int .i64 0) Tryd.ownInt Tryd.underlying23 rfl (by decide) (by decide) rfl (db + 1) (.slice aI3 (X2 5).length cI3) (X2 5).length (X2 5) rfl hrow23 #[.int .i64 m] rfl (by intro u hu; simp at hu; subst hu; rfl) _ rfl (by simp) hlen3 (by omega) ?_; intro v33 w33 hap3; have HAP3 := hide hap3; obtain ⟨⟨a83, c83, hv33⟩, _⟩ := own_form hap3.own; subst hv33; have hob33 := hap3.frm.cell hcI3 (fun e => hnd3 e.symm); have hz33 : w33.frozen? ⟨db, 5, none⟩ = false := (World.frozen?_of_block (hap3.frm.block db hdl3 (fun e => hnd3 e.symm))).trans (heap_frozen HB3.out); clear hap3)
          have hst3 := HS2.out.app (i := 5) (by decide) (by decide) (y := .int .i64 m) (hVI3 ▸ HAP3.out)
          obtain ⟨hSb3, hMb3⟩ := hst3
          have hXa3 : upb X2 5 (X2 5 ++ [.int .i64 m]) 5 = X2 5 ++ [.int .i64 m] := if_pos rfl
          have hXb3 : ∀ q, q ≠ 5 → upb X2 5 (X2 5 ++ [.int .i64 m]) q = X2 q := fun q hq => if_neg hq
          generalize w33.setCell ⟨db, 5, none⟩ (.slice a83 ((X2 5).length + 1) c83) = W3 at hSb3 hMb3 ⊢
          generalize upb X2 5 (X2 5 ++ [.int .i64 m]) = X3 at hSb3 hXa3 hXb3
          have hdn3 := HS2.out.db_no
          generalize grw _ (Value.slice a83 ((X2 5).length + 1) c83) (.row 5) _ = ρ3 at hSb3 hMb3
          generalize upb _ 5 (Value.slice a83 ((X2 5).length + 1) c83) = V3 at hSb3
          have HL3 : Hid (∀ q, (X3 q).length ≤ 2000030) := hide (fun q => by
            have := HL2.out q
            by_cases e : q = 5
            · subst e; rw [hXa3]; have := hlen3; simp; omega
            · rw [hXb3 q e]; omega)
          have HS3 := hide hSb3
          have HXa3 := hide hXa3
          have HXb3 := hide hXb3
          clear hXa3 hXb3
          have HMb3 := hide hMb3
          clear hSb3 hMb3 hrow3 hrow23 hcI3 hnd3 hlen3 HAP3 hVI3 hob33 hz33 hdl3 HB3
          have HO3 := hide (HO2.out.mv HMb3.out nofun)
          have HE3 : Hid (∀ e ∈ es, EntR ρ3 (.ls kk ki) 3 W3 e.1 e.2 (rp e.2 [.int .i64 0, .int .i64 m, .int .i64 0]) ∧ e.2 ≤ k + j) := hide (fun e he => ⟨(HE2.out e he).1.mv HMb3.out nofun (by rw [hdn3]; nofun), (HE2.out e he).2⟩)
          clear HO2 HE2 HS2
          have HX3 : Hid (X3 4 = X 4 ++ (es ++ [(Value.slice a' (k + j) c', k + j)]).map (·.1) ∧ X3 5 = X 5 ++ (es ++ [(Value.slice a' (k + j) c', k + j)]).map (fun _ => .int .i64 m) ∧ ∀ q, q ≠ 4 → q ≠ 5 → X3 q = X q) := hide ⟨by rw [HXb3.out 4 (by decide), HXa2.out, HXx.out.1]; simp, by rw [HXa3.out, HXb2.out 5 (by decide), HXx.out.2.1]; simp, fun q h1 h2 => by rw [HXb3.out q h2, HXb2.out q h1]; exact HXx.out.2.2 q h1 h2⟩
          have HM3 := hide ((HMx.out.trans (HMb2.out.mono (fun x h => .inr (.inl h)))).trans (HMb3.out.mono (fun x h => .inr (.inr h))))
          clear HMx HXx HXa2 HXb2 HXa3 HXb3
          have hrow := HO3.out.1
          have hlen : k + j ≤ 10000000 := by omega
          have hdl := HS3.out.lt
          have hmle : ∀ (W : World) (v' : Value) (w' : World), Ap (db + 1) 91 3 W3 (.slice a' (k + j) c') w' v' (k + j + 1) (rp (k + j) [.int .i64 0, .int .i64 m, .int .i64 0] ++ #[.int .i64 0, .int .i64 m, .int .i64 0].toList) → Hid (Ap (db + 1) 91 3 W3 (.slice a' (k + j) c') w' v' (k + j + 1) (rp (k + j + 1) [.int .i64 0, .int .i64 m, .int .i64 0])) := fun _ _ _ h => hide (by rw [← rp_snoc]; exact h)
          go_wp2_with (at_builtin; refine wpList_append_kept _ rfl _ _ 74 91 3 24 (Value.agg #[.int .i64 0, .int .i64 0, .int .i64 0]) Tryd.ownIns Tryd.underlying74 rfl (by decide) (by decide) rfl (db + 1) (.slice a' (k + j) c') (k + j) (rp (k + j) [.int .i64 0, .int .i64 m, .int .i64 0]) rfl hrow #[.int .i64 0, .int .i64 m, .int .i64 0] rfl (by intro u hu; simp at hu; first | (subst hu; rfl) | (rcases hu with rfl | rfl | rfl <;> rfl)) _ rfl (by simp) hlen (by omega) ?_; intro v4 w4 hap hkp; have HAP := hide hap; have HKP := hide hkp; obtain ⟨⟨a9, c9, hv4⟩, _⟩ := own_form hap.own; subst hv4; clear hap hkp)
          go_roundw
          case rel =>
            have hap := HAP.out
            have hmv := mv_ap (r := .ls kk ki) (ρ := ρ3) hap HO3.out.2
            refine ⟨j + 1, es ++ [(.slice a' (k + j) c', k + j)], V3, X3, grw W3.heap.size (.slice a9 (k + j + 1) c9) (.ls kk ki) ρ3, by omega, by go_num, by rw [List.length_append, HES.out]; rfl, hide ?_, hide (HS3.out.mv hmv (fun i e => by cases e) (hap.frm.block db hdl (fun e => by have := (hrow.lt db e.symm).1; omega))), hide (HM3.out.trans (hmv.mono (fun x h => .inl h))), HX3, hide ?_⟩
            · have := HO3.out.app hap
              rw [show rp (k + j) [.int .i64 0, .int .i64 m, .int .i64 0] ++ #[.int .i64 0, .int .i64 m, .int .i64 0].toList = rp (k + j + 1) [.int .i64 0, .int .i64 m, .int .i64 0] from rp_snoc _ _] at this
              exact this
            · intro e he
              rcases List.mem_append.1 he with he | he
              · exact ⟨(HE3.out e he).1.app (rp_pre (HE3.out e he).2 _) hrow hap HKP.out, by have := (HE3.out e he).2; omega⟩
              · rw [List.mem_singleton.1 he]
                exact ⟨(EntR.of HO3.out).app List.prefix_rfl hrow hap HKP.out, by show k + j ≤ _; omega⟩
          case measure => simp [intOf]; omega
        · have hj5 : j = 4 := by omega
          subst hj5
          have hM := (HM1.out.mono (fun x h => h.elim)).trans ((HMr.out.mono (fun x h => .inl h)).trans HMx.out)
          have hMW := (HMr.out.mono (A' := fun x => x = BR.ls kk ki ∨ x = .row 4 ∨ x = .row 5) (fun x h => .inl h)).trans HMx.out
          have hE2 := (HE1.out.stay (hMW.stay (by simp) (by rw [hne]; nofun))).stay (fin_dn (r := .ls kk ki))
          have HFin : Hid (NumR db (.ls kk ki) vo n X ρ w (.returned (.tuple #[])) wr) := hide ⟨rfl, V', X', fin (.ls kk ki) ρ', HSx.out.fin_ (fun _ => nofun) nofun, ?fin, MvD.of hM hA, fun q => by
            have h2 := HES.out
            by_cases e : q = 4
            · subst e; rw [HXx.out.1]; simp; omega
            · by_cases e2 : q = 5
              · subst e2; rw [HXx.out.2.1]; simp; omega
              · rw [HXx.out.2.2 q e e2]; omega⟩
          case fin => (obtain ⟨I0, i1, i2, i3⟩ := hE2.c; exact ⟨by rw [HXx.out.2.2 2 (by decide) (by decide), HXx.out.2.2 3 (by decide) (by decide)]; exact hE2.i, ⟨I0 ++ es.map (fun e => (e.1, e.2, m)), by rw [HXx.out.1, i1]; simp, by rw [HXx.out.2.1, i2]; simp, fun e he => (List.mem_append.1 he).elim (i3 e) (fun he => by obtain ⟨e0, h0, rfl⟩ := List.mem_map.1 he; exact (HEx.out e0 h0).1.code.stay fin_stay)⟩, by rw [HXx.out.2.2 6 (by decide) (by decide), HXx.out.2.2 7 (by decide) (by decide), HXx.out.2.2 8 (by decide) (by decide), HXx.out.2.2 9 (by decide) (by decide), HXx.out.2.2 10 (by decide) (by decide)]; exact hE2.o⟩)
          clear hM hMW hE2
          go_wp2_with fail
          go_end0
          exact HFin.out
end Go.Proofs.YtkgncijcnlfhiaaDoor

