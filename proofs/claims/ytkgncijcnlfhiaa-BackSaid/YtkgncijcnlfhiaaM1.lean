import Derived.Test.YtkgncijcnlfhiaaX1
namespace Go.Proofs.Ytkgncijcnlfhiaa
set_option linter.unusedVariables false
set_option linter.unusedSimpArgs false
open Go.RowKit
/- the maker of units -/
def fitsI (x : Int) : Prop := -9223372036854775808 ≤ x ∧ x ≤ 9223372036854775807
def MkR (w : World) (mb : Nat) (r : List Int) : Prop :=
  ∃ (l : List Int) (at_ : Nat) (ao : Option Addr) (cap : Nat), w.cell? ⟨mb, 0, none⟩ = some (.slice ao l.length cap) ∧ w.cell? ⟨mb, 1, none⟩ = some (.int .i64 at_) ∧ w.frozen? ⟨mb, 1, none⟩ = false ∧ at_ ≤ l.length ∧ l.length ≤ maxLen ∧ r = l.drop at_ ∧
    (∀ i, i < l.length → ∃ b off, ao = some ⟨b, off, none⟩ ∧ b < mb ∧ w.cell? ⟨b, off + i, none⟩ = some (.int .i64 (l.getD i 0))) ∧ ∀ x ∈ l, fitsI x
/-- nothing up to the maker has turned -/
theorem MkR.low {w w' : World} {mb : Nat} {r : List Int} (h : MkR w mb r) (g : ∀ k, k ≤ mb → w'.heap[k]? = w.heap[k]?) : MkR w' mb r := by
  obtain ⟨l, at_, ao, cap, h0, h1, hz, ha, hm, hr, hc, hf⟩ := h
  refine ⟨l, at_, ao, cap, (World.cell?_of_block (a := ⟨mb, 0, none⟩) (g mb (Nat.le_refl _))).trans h0, (World.cell?_of_block (a := ⟨mb, 1, none⟩) (g mb (Nat.le_refl _))).trans h1, (World.frozen?_of_block (a := ⟨mb, 1, none⟩) (g mb (Nat.le_refl _))).trans hz, ha, hm, hr, fun i hi => ?_, hf⟩
  obtain ⟨b, off, k1, k2, k3⟩ := hc i hi
  exact ⟨b, off, k1, k2, (World.cell?_of_block (a := ⟨b, off + i, none⟩) (g b (Nat.le_of_lt k2))).trans k3⟩
theorem MkR.lt {w : World} {mb : Nat} {r : List Int} (h : MkR w mb r) : mb < w.heap.size := by
  obtain ⟨l, at_, ao, cap, h0, _⟩ := h
  exact World.block_lt_of_cell? w _ h0
theorem MkR.grown {w w' : World} {mb : Nat} {r : List Int} {ob : Option Nat} (h : MkR w mb r) (g : w.grownBy w' ob) (ho : ∀ k, ob = some k → mb < k) : MkR w' mb r :=
  h.low fun k hk => g.block k (Nat.lt_of_le_of_lt hk h.lt) (fun e => by have := ho k e.symm; omega)
theorem MkR.gr {w w' : World} {mb : Nat} {r : List Int} (h : MkR w mb r) (g : Gr w w') : MkR w' mb r := by
  obtain ⟨l, at_, ao, cap, h0, h1, hz, ha, hm, hr, hc, hf⟩ := h
  refine ⟨l, at_, ao, cap, g.cell h0 (by simp), g.cell h1 (by simp), gr_frozen g h1 hz, ha, hm, hr, fun i hi => ?_, hf⟩
  obtain ⟨b, off, k1, k2, k3⟩ := hc i hi
  exact ⟨b, off, k1, k2, g.cell k3 (by simp)⟩
theorem MkR.drew {w : World} {mb : Nat} {r : List Int} (h : MkR w mb r) : MkR w.drew mb r := h
theorem MkR.fits {w : World} {mb : Nat} {r : List Int} (h : MkR w mb r) : fitsI (r.headD 0) := by
  obtain ⟨l, at_, ao, cap, _, _, _, _, _, rfl, _, hf⟩ := h
  cases e : l.drop at_ with
  | nil => exact ⟨by decide, by decide⟩
  | cons x t => exact hf x (List.mem_of_mem_drop (by rw [e]; exact List.mem_cons_self))

set_option maxRecDepth 100000 in
set_option maxHeartbeats 1000000 in
theorem raw_any (mb : Nat) (r : List Int) (w : World) (h : MkR w mb r) :
    Calls Try.prog 19 #[.pointer (some ⟨mb, 0, none⟩)] w fun x w' => x = .returned (.int .i64 (r.headD 0)) ∧ MkR w' mb r.tail ∧ Gc mb w w' := by
  obtain ⟨l, at_, ao, cap, h0, h1, hz, ha, hm, rfl, hc, hf⟩ := h
  unfold maxLen at hm
  by_cases hlt : at_ < l.length
  · obtain ⟨b, off, rfl, hne, hx⟩ := hc at_ hlt
    have E1 : Hid ((l.drop at_).headD 0 = l[at_]) := hide (by simp [List.headD_eq_head?_getD, List.head?_drop, hlt])
    have HM : Hid (MkR (w.setCell ⟨mb, 1, none⟩ (.int .i64 ((at_ : Int) + 1))) mb (l.drop at_).tail) := hide (by
      refine ⟨l, at_ + 1, some ⟨b, off, none⟩, cap, (cell_set_ne (by omega)).trans h0, World.cell?_setCell_same _ _ _ h1, by rw [World.frozen?_setCell]; exact hz, hlt, hm, List.tail_drop, fun i hi => ?_, hf⟩
      obtain ⟨b', off', e1, e2, e3⟩ := hc i hi
      exact ⟨b', off', e1, e2, (World.cell?_setCell_other w _ _ _ (by intro e; simp only [Addr.mk.injEq] at e; omega)).trans e3⟩)
    clear hc hf
    go_enter Try.func19, Try.ntmps19
    have hx2 : (w.setCell ⟨mb, 1, none⟩ (.int .i64 ((at_ : Int) + 1))).cell? ⟨b, off + at_, none⟩ = some (.int .i64 (l.getD at_ 0)) := (World.cell?_setCell_other w _ _ _ (by intro e; simp only [Addr.mk.injEq] at e; omega)).trans hx
    go_wp2_with fail
    go_region
    go_wp2_with fail
    go_region
    clear hx hx2 h0 h1 hz
    go_wp2_with fail
    go_ret
    exact ⟨by rw [E1.out]; rfl, HM.out.drew.drew, ((Gc.refl mb w).set 1 _).drew.drew⟩
  · obtain rfl : at_ = l.length := by omega
    have E1 : (l.drop l.length) = [] := by simp
    rw [E1]
    have HM : Hid (MkR w mb ([] : List Int).tail) := hide ⟨l, l.length, ao, cap, h0, h1, hz, ha, hm, E1.symm, hc, hf⟩
    clear hc hf
    go_enter Try.func19, Try.ntmps19
    go_wp2_with fail
    go_region
    go_wp2_with fail
    go_ret
    exact ⟨rfl, HM.out, (Gc.refl mb w).drew⟩

def mpick (r : List Int) (n : Int) : Int := pickOf (r.headD 0) n
theorem mpick_lt {r : List Int} {n : Int} (hn : 0 < n) : 0 ≤ mpick r n ∧ mpick r n < n := pickOf_lt hn
set_option maxRecDepth 100000 in
theorem next_any (mb : Nat) (r : List Int) (n : Int) (hn : 0 < n) (hn2 : n ≤ 9223372036854775807) (w : World) (h : MkR w mb r) :
    Calls Try.prog 17 #[.pointer (some ⟨mb, 0, none⟩), .int .i64 n] w fun x w' => x = .returned (.int .i64 (mpick r n)) ∧ MkR w' mb r.tail ∧ Gc mb w w' := by
  have HM := hide h
  have hp : ∀ V : World, Hid (Calls Try.prog 9 #[.int .i64 (r.headD 0), .int .i64 n] V fun x w' => x = .returned (.int .i64 (mpick r n)) ∧ w' = V) := fun V => hide (pick_any (r.headD 0) n V h.fits hn hn2)
  generalize mpick r n = q at hp ⊢
  have HR : ∀ V : World, Hid (MkR V mb r → Calls Try.prog 19 #[.pointer (some ⟨mb, 0, none⟩)] V fun x w' => x = .returned (.int .i64 (r.headD 0)) ∧ MkR w' mb r.tail ∧ Gc mb V w') := fun V => hide (raw_any mb r V)
  generalize r.headD 0 = y at hp HR
  clear h
  go_enter Try.func17, Try.ntmps17
  go_wp2_with fail
  refine ((HR w).out HM.out).mono ?_
  rintro x w1 ⟨rfl, hm1, hg1⟩
  have HM1 := hide hm1
  have HG1 := hide hg1
  clear hm1 hg1
  go_wp2_with fail
  refine (hp w1).out.mono ?_
  rintro x w2 ⟨rfl, e2⟩
  subst e2
  go_wp2_with fail
  go_ret
  exact ⟨rfl, HM1.out, HG1.out⟩
end Go.Proofs.Ytkgncijcnlfhiaa
