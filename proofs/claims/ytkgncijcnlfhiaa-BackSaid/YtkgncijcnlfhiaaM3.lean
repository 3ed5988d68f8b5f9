import Derived.Test.YtkgncijcnlfhiaaM2
namespace Go.Proofs.Ytkgncijcnlfhiaa
set_option linter.unusedVariables false
set_option linter.unusedSimpArgs false
open Go.RowKit
attribute [local go_sem ↓] Go.wp_at_zero Go.wp_at_succ

theorem gc_grown {mb : Nat} {w wr w' : World} {ob : Option Nat} (h : Gc mb w wr) (g : wr.grownBy w' ob) (ho : ∀ k, ob = some k → w.heap.size ≤ k) : Gc mb w w' :=
  ⟨g.os.trans h.os, g.tape.trans h.tape, g.output.trans h.output, Nat.le_trans h.size g.size, fun i hi hne => (g.block i (Nat.lt_of_lt_of_le hi h.size) (fun e => by have := ho i e.symm; omega)).trans (h.block i hi hne)⟩
theorem own_ge {w : World} {base : Nat} {e : TypeId} {n : Nat} {v : Value} {len : Nat} {xs : List Value} (h : w.ownsRow base e n v len xs) : ∀ k, v.ownBlock = some k → base ≤ k := by
  intro k hk
  rcases h.2 with ⟨rfl, _⟩ | ⟨g, cap, cur, rfl, hg, _⟩
  · simp [Value.ownBlock] at hk
  · simp [Value.ownBlock] at hk; omega
theorem Try.infoint : (Try.prog.info? 3).map (fun i => (i.zero, i.size, i.bytes)) = some (some (.int .i64 0), 1, 8) := by kernel_rfl
def mkinds (least most shapes : Nat) (r : List Int) : List Int × List Int := mtake ((least : Int) + mpick r ((most : Int) - least + 1)).toNat ((shapes : Int) + 1) r.tail

set_option maxRecDepth 100000 in
set_option maxHeartbeats 2000000 in
theorem mkinds_any (mb : Nat) (r : List Int) (least most shapes : Nat) (hlm : least ≤ most) (hmo : most ≤ 100) (hsh : shapes ≤ 100) (w : World) (h : MkR w mb r) :
    Calls Try.prog 18 #[.pointer (some ⟨mb, 0, none⟩), .int .i64 least, .int .i64 most, .int .i64 shapes] w fun x w' =>
      ∃ v, x = .returned v ∧ w'.ownsRow w.heap.size 3 1 v (mkinds least most shapes r).1.length (ic (mkinds least most shapes r).1) ∧ MkR w' mb (mkinds least most shapes r).2 ∧ Gc mb w w' := by
  have HM := hide h
  have hlt := h.lt
  have hq := mpick_lt (r := r) (n := (most : Int) - least + 1) (by omega)
  obtain ⟨N, hN⟩ : ∃ N : Nat, (least : Int) + mpick r ((most : Int) - least + 1) = N := ⟨((least : Int) + mpick r ((most : Int) - least + 1)).toNat, by omega⟩
  have HK : Hid (mkinds least most shapes r = mtake N ((shapes : Int) + 1) r.tail) := hide (by unfold mkinds; rw [hN]; rfl)
  have hN2 : N ≤ 101 := by omega
  have HNx : ∀ V : World, Hid (MkR V mb r → Calls Try.prog 17 #[.pointer (some ⟨mb, 0, none⟩), .int .i64 ((most : Int) - least + 1)] V fun x w' => x = .returned (.int .i64 (mpick r ((most : Int) - least + 1))) ∧ MkR w' mb r.tail ∧ Gc mb V w') := fun V => hide (next_any mb r _ (by omega) (by omega) V)
  generalize mpick r ((most : Int) - least + 1) = q at hN hq HNx
  clear h
  go_enter Try.func18, Try.ntmps18
  go_wp2_with fail
  refine ((HNx w).out HM.out).mono ?_
  rintro x w1 ⟨rfl, hm1, hg1⟩
  have HM1 := hide hm1
  have HG1 := hide hg1
  clear hm1 hg1 HNx
  go_wp2_with fail
  go_loopw [9, 10] (fun l n wr => ∃ (k : Nat) (ys rk : List Int), n = .int .i64 k ∧ ys.length + k ≤ 101 ∧ wr.ownsRow w.heap.size 3 1 l ys.length (ic ys) ∧ MkR wr mb rk ∧ Gc mb w wr ∧ mtake N ((shapes : Int) + 1) r.tail = (ys ++ (mtake k ((shapes : Int) + 1) rk).1, (mtake k ((shapes : Int) + 1) rk).2)) (fun _ n _ => (intOf n).toNat)
  case atStart => exact ⟨N, [], r.tail, rfl, by simpa using hN2, ⟨rfl, .inl ⟨rfl, rfl⟩⟩, HM1.out, HG1.out, by simp⟩
  case round =>
    obtain ⟨k, ys, rk, rfl, hyk, hown, hmk, hgc, hT⟩ := hrel
    have HOW := hide hown
    have HMK := hide hmk
    have HGC := hide hgc
    have HTT := hide hT
    obtain ⟨ao, co, rfl⟩ := own_shape hown
    clear hown hmk hgc hT HM HM1 HG1 hN hq
    by_cases hk : 0 < k
    · have HP : ∀ V : World, Hid (MkR V mb rk → Calls Try.prog 17 #[.pointer (some ⟨mb, 0, none⟩), .int .i64 ((shapes : Int) + 1)] V fun x w' => x = .returned (.int .i64 (mpick rk ((shapes : Int) + 1))) ∧ MkR w' mb rk.tail ∧ Gc mb V w') := fun V => hide (next_any mb rk _ (by omega) (by omega) V)
      obtain ⟨j, rfl⟩ : ∃ j, k = j + 1 := ⟨k - 1, by omega⟩
      have HT2 : Hid (mtake N ((shapes : Int) + 1) r.tail = ((ys ++ [mpick rk ((shapes : Int) + 1)]) ++ (mtake j ((shapes : Int) + 1) rk.tail).1, (mtake j ((shapes : Int) + 1) rk.tail).2)) := hide (by rw [HTT.out]; simp [mtake])
      generalize mpick rk ((shapes : Int) + 1) = q at HP HT2
      go_wp2_with fail
      refine ((HP wr).out HMK.out).mono ?_
      rintro x w2 ⟨rfl, hm2, hg2⟩
      have hown2 : w2.ownsRow w.heap.size 3 1 (.slice ao ys.length co) ys.length (ic ys) := HOW.out.kept hg2 (.inr (by intro e; have := own_ge HOW.out _ e; omega))
      have HM2 := hide hm2
      have HG2 := hide (HGC.out.trans hg2)
      have HO2 := hide hown2
      have hsz : w.heap.size ≤ w2.heap.size := HG2.out.size
      clear hm2 hg2 hown2 HP HOW HMK HGC HTT
      go_wp2_with (at_builtin; refine wpList_append_vals _ rfl _ _ 22 3 1 8 (.int .i64 0) Try.infoint Try.underlying22 rfl (by decide) (by decide) rfl w.heap.size _ ys.length (ic ys) rfl HO2.out #[.int .i64 q] rfl (by intro u hu; simp at hu; subst hu; rfl) _ rfl rfl (by omega) hsz ?_; intro v3 w3 hap)
      have hap' : Ap w.heap.size 3 1 w2 (.slice ao ys.length co) w3 v3 (ys.length + 1) (ic ys ++ [Value.int .i64 q]) := hap
      have hge := own_ge HO2.out
      refine ⟨⟨j, ys ++ [q], rk.tail, rfl, by simp; omega, ?_, HM2.out.grown hap'.frm (fun k e => by have := hge k e; omega), gc_grown HG2.out hap'.frm hge, HT2.out⟩, by simp [intOf]⟩
      have := hap'.own
      simpa [ic] using this
    · obtain rfl : k = 0 := by omega
      go_wp2_with fail
      go_ret
      have hT := HTT.out
      rw [HK.out, hT]
      exact ⟨_, rfl, by simpa [mtake] using HOW.out, HMK.out, HGC.out⟩
end Go.Proofs.Ytkgncijcnlfhiaa
