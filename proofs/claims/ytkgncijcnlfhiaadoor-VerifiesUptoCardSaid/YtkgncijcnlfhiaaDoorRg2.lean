import Derived.Test.YtkgncijcnlfhiaaDoorRg
namespace Go.Proofs.YtkgncijcnlfhiaaDoor
set_option linter.unusedVariables false
set_option linter.unusedSimpArgs false
open Go.RowKit
theorem Act.put_defers_ (a : Act) (d : Option Tmp) (v : Value) : (a.put d v).defers = a.defers := by cases d <;> rfl
/-- what an operation does where another one's value has been laid meanwhile -/
theorem wp_moved {P : Program} {ops : Array Oper} {Q : Exit → Act → World → Prop} {o : Oper} {a : Act} {d : Option Tmp} {u : Value} {w : World} (hs : ∀ cs b, o.op ≠ .select cs b) (hd : ∀ t, d = some t → t ∉ o.looksAt ops) (hne : ∀ t, d = some t → o.dst ≠ some t)
    (hQ : ∀ c a v w, Q (.panic c) a w → Q (.panic c) (a.put d v) w) {R : Value → World → Prop} (h : ∀ K : Act → World → Prop, (∀ v w2, R v w2 → K (a.put o.dst v) w2) → o.wp P a w K Q) :
    ∀ K : Act → World → Prop, (∀ v w2, R v w2 → K ((a.put d u).put o.dst v) w2) → o.wp P (a.put d u) w K Q := by
  intro K hK
  have hc : ∀ v, (a.put d u).put o.dst v = (a.put o.dst v).put d u := fun v => Act.put_comm a u v hne
  have h2 := h (fun a2 w2 => (∃ v, a2 = a.put o.dst v ∧ R v w2)) (fun v w2 hr => ⟨v, rfl, hr⟩)
  have key : ∀ v w2, (∃ v', a.put o.dst v = a.put o.dst v' ∧ R v' w2) → K ((a.put d u).put o.dst v) w2 := by
    rintro v w2 ⟨v', e, r⟩
    rw [hc v, e, ← hc v']
    exact hK v' w2 r
  unfold Oper.wp at *
  rw [execOp_put (ops := ops) o hs a d u hd]
  generalize (execOp a.eval o).run P w = res at *
  cases res with
  | ok n w' =>
    cases n <;> simp only [Oper.upon] at h2 ⊢
    case value v => exact key v w' h2
    case skip => exact key undef w' h2
    case defer dd =>
      obtain ⟨v', e, _⟩ := h2
      exfalso
      have e2 := congrArg Act.defers e
      rw [Act.put_defers_, Act.put_defers_] at e2
      have := congrArg List.length e2
      simp at this
    case enter f args =>
      refine Calls.mono h2 fun e w'' he => ?_
      cases e with
      | returned v => exact key v w'' he
      | panicked c => exact hQ _ _ _ _ he
      | outgrown => exact he
    case row row args => exact Rows.mono h2 fun v w'' he => key v w'' he
  | halt x w' =>
    cases x <;> simp only [Oper.upon] at h2 ⊢
    case panic v => exact hQ _ _ _ _ h2
section
variable {P : Program} {l : List Oper} {md : Region.Mode} {Q : Exit → Act → World → Prop} {S : World → Prop}
theorem one_of {i : Nat} {o : Oper} {fuel : Nat} {listed : Array Bool} {a : Act} {w : World} {R : Value → World → Prop} (ho : l[i]? = some o) (hw : Region.wanted o (yielded l.toArray a.tmps) = true)
    (h : ∀ K : Act → World → Prop, (∀ v w2, R v w2 → K (a.put o.dst v) w2) → o.wp P a w K Q) (rest : ∀ v w2, R v w2 → S w2 ∧ wpAnyH P md l.toArray Q S fuel (listed.setIfInBounds i true) (a.put o.dst v) w2) :
    wpOp P l.toArray Q i (fun a' w' => S w' ∧ wpAnyH P md l.toArray Q S fuel (listed.setIfInBounds i true) a' w') a w := by
  refine wpOp_step (o := o) (by simpa using ho) (fun K hK => ?_)
  rw [if_pos hw]
  exact h K (fun v w2 hr => hK _ _ (rest v w2 hr))
/-- two -/
theorem phase2 {x y : Nat} {ox oy : Oper} {fuel : Nat} {listed : Array Bool} {a : Act} {w : World} (hx : l[x]? = some ox) (hy : l[y]? = some oy) (hs : Region.noSelect l.toArray = true) (hap : ox.apart l.toArray oy = true) (hne : x ≠ y)
    (hr : Region.ready md l.toArray listed = [x, y]) (hrx : Region.ready md l.toArray (listed.setIfInBounds x true) = [y]) (hry : Region.ready md l.toArray (listed.setIfInBounds y true) = [x])
    (hwx : Region.wanted ox (yielded l.toArray a.tmps) = true) (hwy : Region.wanted oy (yielded l.toArray a.tmps) = true)
    (hQ : ∀ c a d v w, Q (.panic c) a w → Q (.panic c) (a.put d v) w) (J : World → Prop) (Ax Ay : Value → World → Prop) (hJS : ∀ w, J w → S w) (hJ : J w)
    (stepX : ∀ w', J w' → ∀ K : Act → World → Prop, (∀ v w2, (J w2 ∧ Ax v w2 ∧ ∀ u, Ay u w' → Ay u w2) → K (a.put ox.dst v) w2) → ox.wp P a w' K Q)
    (stepY : ∀ w', J w' → ∀ K : Act → World → Prop, (∀ v w2, (J w2 ∧ Ay v w2 ∧ ∀ u, Ax u w' → Ax u w2) → K (a.put oy.dst v) w2) → oy.wp P a w' K Q)
    (rest : ∀ vx vy w', J w' → Ax vx w' → Ay vy w' → wpAnyH P md l.toArray Q S fuel ((listed.setIfInBounds x true).setIfInBounds y true) ((a.put ox.dst vx).put oy.dst vy) w') :
    wpAnyH P md l.toArray Q S (fuel + 1 + 1) listed a w := by
  obtain ⟨h1, h2, h3⟩ := Oper.apart_spec hap
  have hsx : ∀ cs b, ox.op ≠ .select cs b := fun cs b => Region.noSelect_spec hs x ox cs b (by simpa using hx)
  have hsy : ∀ cs b, oy.op ≠ .select cs b := fun cs b => Region.noSelect_spec hs y oy cs b (by simpa using hy)
  have h2' : ∀ d, oy.dst = some d → ox.dst ≠ some d := fun d hd e => h2 d e hd
  refine wpAnyH_all hr (by simp) fun i hi => ?_
  rcases List.mem_cons.1 hi with rfl | hi
  · refine one_of hx hwx (stepX w hJ) ?_
    rintro vx w2 ⟨j2, ax, _⟩
    refine ⟨hJS _ j2, wpAnyH_all hrx (by simp) fun i hi => ?_⟩
    rcases List.mem_cons.1 hi with rfl | hi
    · refine one_of hy ((wanted_put oy a ox.dst vx h1).trans hwy) (wp_moved (ops := l.toArray) hsy h1 h2 (fun c a v w => hQ c a _ v w) (stepY w2 j2)) ?_
      rintro vy w3 ⟨j3, ay, k⟩
      exact ⟨hJS _ j3, rest vx vy w3 j3 (k _ ax) ay⟩
    · cases hi
  · rcases List.mem_cons.1 hi with rfl | hi
    · refine one_of hy hwy (stepY w hJ) ?_
      rintro vy w2 ⟨j2, ay, _⟩
      refine ⟨hJS _ j2, wpAnyH_all hry (by simp) fun i hi => ?_⟩
      rcases List.mem_cons.1 hi with rfl | hi
      · refine one_of hx ((wanted_put ox a oy.dst vy h3).trans hwx) (wp_moved (ops := l.toArray) hsx h3 h2' (fun c a v w => hQ c a _ v w) (stepX w2 j2)) ?_
        rintro vx w3 ⟨j3, ax, k⟩
        refine ⟨hJS _ j3, ?_⟩
        have := rest vx vy w3 j3 ax (k _ ay)
        rw [Array.setIfInBounds_comm _ _ hne, Act.put_comm a vx vy h2] at this
        exact this
      · cases hi
    · cases hi
/-- three, and one that yields once the first two have come up -/
theorem phase3t {x y z t : Nat} {ox oy oz ot : Oper} {fuel : Nat} {listed : Array Bool} {a : Act} {w : World} (hx : l[x]? = some ox) (hy : l[y]? = some oy) (hz : l[z]? = some oz) (ht : l[t]? = some ot) (hs : Region.noSelect l.toArray = true)
    (hxy : ox.apart l.toArray oy = true) (hxz : ox.apart l.toArray oz = true) (hyz : oy.apart l.toArray oz = true) (htz : ot.apart l.toArray oz = true) (nxy : x ≠ y) (nxz : x ≠ z) (nyz : y ≠ z) (ntz : t ≠ z)
    (hr : Region.ready md l.toArray listed = [x, y, z])
    (hrx : Region.ready md l.toArray (listed.setIfInBounds x true) = [y, z]) (hry : Region.ready md l.toArray (listed.setIfInBounds y true) = [x, z]) (hrz : Region.ready md l.toArray (listed.setIfInBounds z true) = [x, y])
    (hrxz : Region.ready md l.toArray ((listed.setIfInBounds x true).setIfInBounds z true) = [y]) (hryz : Region.ready md l.toArray ((listed.setIfInBounds y true).setIfInBounds z true) = [x])
    (hrxy : (Region.ready md l.toArray ((listed.setIfInBounds x true).setIfInBounds y true)).contains t = true) (hfxy : Region.free md l.toArray ((listed.setIfInBounds x true).setIfInBounds y true) t = true)
    (hrxyt : Region.ready md l.toArray (((listed.setIfInBounds x true).setIfInBounds y true).setIfInBounds t true) = [z])
    (hrxyz : (Region.ready md l.toArray (((listed.setIfInBounds x true).setIfInBounds y true).setIfInBounds z true)).contains t = true) (hfxyz : Region.free md l.toArray (((listed.setIfInBounds x true).setIfInBounds y true).setIfInBounds z true) t = true)
    (hwx : Region.wanted ox (yielded l.toArray a.tmps) = true) (hwy : Region.wanted oy (yielded l.toArray a.tmps) = true) (hwz : Region.wanted oz (yielded l.toArray a.tmps) = true)
    (hQ : ∀ c a d v w, Q (.panic c) a w → Q (.panic c) (a.put d v) w) (hQ' : ∀ c a d v w, Q (.panic c) (a.put d v) w → Q (.panic c) a w) (J : World → Prop) (Ax Ay Az : Value → World → Prop) (T : Value → Value → Value → Prop) (hJS : ∀ w, J w → S w) (hJ : J w)
    (stepX : ∀ w', J w' → ∀ K : Act → World → Prop, (∀ v w2, (J w2 ∧ Ax v w2 ∧ (∀ u, Ay u w' → Ay u w2) ∧ ∀ u, Az u w' → Az u w2) → K (a.put ox.dst v) w2) → ox.wp P a w' K Q)
    (stepY : ∀ w', J w' → ∀ K : Act → World → Prop, (∀ v w2, (J w2 ∧ Ay v w2 ∧ (∀ u, Ax u w' → Ax u w2) ∧ ∀ u, Az u w' → Az u w2) → K (a.put oy.dst v) w2) → oy.wp P a w' K Q)
    (stepZ : ∀ w', J w' → ∀ K : Act → World → Prop, (∀ v w2, (J w2 ∧ Az v w2 ∧ (∀ u, Ax u w' → Ax u w2) ∧ ∀ u, Ay u w' → Ay u w2) → K (a.put oz.dst v) w2) → oz.wp P a w' K Q)
    (stepT : ∀ vx vy w', J w' → Ax vx w' → Ay vy w' → ∃ vt, T vx vy vt ∧ Region.wanted ot (yielded l.toArray ((a.put ox.dst vx).put oy.dst vy).tmps) = true ∧ ∀ w, S w → (execOp ((a.put ox.dst vx).put oy.dst vy).eval ot).run P w = .ok (.value vt) w)
    (rest : ∀ vx vy vz vt w', J w' → Ax vx w' → Ay vy w' → Az vz w' → T vx vy vt → wpAnyH P md l.toArray Q S fuel ((((listed.setIfInBounds x true).setIfInBounds y true).setIfInBounds z true).setIfInBounds t true) ((((a.put ox.dst vx).put oy.dst vy).put oz.dst vz).put ot.dst vt) w') :
    wpAnyH P md l.toArray Q S (fuel + 1 + 1 + 1 + 1) listed a w := by
  obtain ⟨xy1, xy2, xy3⟩ := Oper.apart_spec hxy
  obtain ⟨xz1, xz2, xz3⟩ := Oper.apart_spec hxz
  obtain ⟨yz1, yz2, yz3⟩ := Oper.apart_spec hyz
  obtain ⟨tz1, tz2, tz3⟩ := Oper.apart_spec htz
  have hsx : ∀ cs b, ox.op ≠ .select cs b := fun cs b => Region.noSelect_spec hs x ox cs b (by simpa using hx)
  have hsy : ∀ cs b, oy.op ≠ .select cs b := fun cs b => Region.noSelect_spec hs y oy cs b (by simpa using hy)
  have hsz : ∀ cs b, oz.op ≠ .select cs b := fun cs b => Region.noSelect_spec hs z oz cs b (by simpa using hz)
  have hst : ∀ cs b, ot.op ≠ .select cs b := fun cs b => Region.noSelect_spec hs t ot cs b (by simpa using ht)
  have xy2' : ∀ d, oy.dst = some d → ox.dst ≠ some d := fun d hd e => xy2 d e hd
  have xz2' : ∀ d, oz.dst = some d → ox.dst ≠ some d := fun d hd e => xz2 d e hd
  have yz2' : ∀ d, oz.dst = some d → oy.dst ≠ some d := fun d hd e => yz2 d e hd
  have fin : ∀ vx vy vz w', J w' → Ax vx w' → Ay vy w' → Az vz w' → wpAnyH P md l.toArray Q S (fuel + 1) (((listed.setIfInBounds x true).setIfInBounds y true).setIfInBounds z true) (((a.put ox.dst vx).put oy.dst vy).put oz.dst vz) w' := by
    intro vx vy vz w' j ax ay az
    obtain ⟨vt, hT, hwt, hyt⟩ := stepT vx vy w' j ax ay
    exact takeL ht hs hfxyz hrxyz (fun c a w => hQ' c a _ _ w) ((wanted_put ot _ oz.dst vz tz3).trans hwt) (fun w hw => by rw [execOp_put (ops := l.toArray) ot hst _ oz.dst vz tz3]; exact hyt w hw) (hJS _ j) (rest vx vy vz vt w' j ax ay az hT)
  have mid : ∀ vx vy w', J w' → Ax vx w' → Ay vy w' → wpAnyH P md l.toArray Q S (fuel + 1 + 1) ((listed.setIfInBounds x true).setIfInBounds y true) ((a.put ox.dst vx).put oy.dst vy) w' := by
    intro vx vy w' j ax ay
    obtain ⟨vt, hT, hwt, hyt⟩ := stepT vx vy w' j ax ay
    refine takeL ht hs hfxy hrxy (fun c a w => hQ' c a _ _ w) hwt hyt (hJS _ j) ?_
    refine wpAnyH_all hrxyt (by simp) fun i hi => ?_
    rcases List.mem_cons.1 hi with rfl | hi
    · have st := wp_moved (ops := l.toArray) (u := vt) hsz tz1 tz2 (fun c a v w => hQ c a _ v w) (wp_moved (ops := l.toArray) (u := vy) hsz yz1 yz2 (fun c a v w => hQ c a _ v w) (wp_moved (ops := l.toArray) (u := vx) hsz xz1 xz2 (fun c a v w => hQ c a _ v w) (stepZ w' j)))
      refine one_of hz (((wanted_put oz _ ot.dst vt tz1).trans ((wanted_put oz _ oy.dst vy yz1).trans (wanted_put oz a ox.dst vx xz1))).trans hwz) st ?_
      rintro vz w2 ⟨j2, az, kx, ky⟩
      refine ⟨hJS _ j2, ?_⟩
      have := rest vx vy vz vt w2 j2 (kx _ ax) (ky _ ay) az hT
      rw [Array.setIfInBounds_comm _ _ (Ne.symm ntz), ← Act.put_comm ((a.put ox.dst vx).put oy.dst vy) vt vz tz2] at this
      exact this
    · cases hi
  refine wpAnyH_all hr (by simp) fun i hi => ?_
  have hi : i = x ∨ i = y ∨ i = z := by simpa using hi
  rcases hi with rfl | rfl | rfl
  · refine one_of hx hwx (stepX w hJ) ?_
    rintro vx w2 ⟨j2, ax, _, _⟩
    refine ⟨hJS _ j2, wpAnyH_all hrx (by simp) fun i hi => ?_⟩
    have hi : i = y ∨ i = z := by simpa using hi
    rcases hi with rfl | rfl
    · refine one_of hy ((wanted_put oy a ox.dst vx xy1).trans hwy) (wp_moved (ops := l.toArray) hsy xy1 xy2 (fun c a v w => hQ c a _ v w) (stepY w2 j2)) ?_
      rintro vy w3 ⟨j3, ay, kx, _⟩
      exact ⟨hJS _ j3, mid vx vy w3 j3 (kx _ ax) ay⟩
    · refine one_of hz ((wanted_put oz a ox.dst vx xz1).trans hwz) (wp_moved (ops := l.toArray) hsz xz1 xz2 (fun c a v w => hQ c a _ v w) (stepZ w2 j2)) ?_
      rintro vz w3 ⟨j3, az, kx, _⟩
      refine ⟨hJS _ j3, wpAnyH_all hrxz (by simp) fun i hi => ?_⟩
      rcases List.mem_cons.1 hi with rfl | hi
      · refine one_of hy (((wanted_put oy _ oz.dst vz yz3).trans (wanted_put oy a ox.dst vx xy1)).trans hwy) (wp_moved (ops := l.toArray) hsy yz3 yz2' (fun c a v w => hQ c a _ v w) (wp_moved (ops := l.toArray) hsy xy1 xy2 (fun c a v w => hQ c a _ v w) (stepY w3 j3))) ?_
        rintro vy w4 ⟨j4, ay, kx4, kz4⟩
        refine ⟨hJS _ j4, ?_⟩
        have := fin vx vy vz w4 j4 (kx4 _ (kx _ ax)) ay (kz4 _ az)
        rw [Array.setIfInBounds_comm _ _ nyz, Act.put_comm (a.put ox.dst vx) vy vz yz2] at this
        exact this
      · cases hi
  · refine one_of hy hwy (stepY w hJ) ?_
    rintro vy w2 ⟨j2, ay, _, _⟩
    refine ⟨hJS _ j2, wpAnyH_all hry (by simp) fun i hi => ?_⟩
    have hi : i = x ∨ i = z := by simpa using hi
    rcases hi with rfl | rfl
    · refine one_of hx ((wanted_put ox a oy.dst vy xy3).trans hwx) (wp_moved (ops := l.toArray) hsx xy3 xy2' (fun c a v w => hQ c a _ v w) (stepX w2 j2)) ?_
      rintro vx w3 ⟨j3, ax, ky, _⟩
      refine ⟨hJS _ j3, ?_⟩
      have := mid vx vy w3 j3 ax (ky _ ay)
      rw [Array.setIfInBounds_comm _ _ nxy, Act.put_comm a vx vy xy2] at this
      exact this
    · refine one_of hz ((wanted_put oz a oy.dst vy yz1).trans hwz) (wp_moved (ops := l.toArray) hsz yz1 yz2 (fun c a v w => hQ c a _ v w) (stepZ w2 j2)) ?_
      rintro vz w3 ⟨j3, az, _, ky⟩
      refine ⟨hJS _ j3, wpAnyH_all hryz (by simp) fun i hi => ?_⟩
      rcases List.mem_cons.1 hi with rfl | hi
      · refine one_of hx (((wanted_put ox _ oz.dst vz xz3).trans (wanted_put ox a oy.dst vy xy3)).trans hwx) (wp_moved (ops := l.toArray) hsx xz3 xz2' (fun c a v w => hQ c a _ v w) (wp_moved (ops := l.toArray) hsx xy3 xy2' (fun c a v w => hQ c a _ v w) (stepX w3 j3))) ?_
        rintro vx w4 ⟨j4, ax, ky4, kz4⟩
        refine ⟨hJS _ j4, ?_⟩
        have := fin vx vy vz w4 j4 ax (ky4 _ (ky _ ay)) (kz4 _ az)
        rw [Array.setIfInBounds_comm _ _ nxy, Array.setIfInBounds_comm _ _ nxz, Act.put_comm a vx vy xy2, Act.put_comm (a.put oy.dst vy) vx vz xz2] at this
        exact this
      · cases hi
  · refine one_of hz hwz (stepZ w hJ) ?_
    rintro vz w2 ⟨j2, az, _, _⟩
    refine ⟨hJS _ j2, phase2 hx hy hs hxy nxy hrz (by rw [Array.setIfInBounds_comm _ _ (Ne.symm nxz)]; exact hrxz) (by rw [Array.setIfInBounds_comm _ _ (Ne.symm nyz)]; exact hryz) ((wanted_put ox a oz.dst vz xz3).trans hwx) ((wanted_put oy a oz.dst vz yz3).trans hwy) hQ (fun w => J w ∧ Az vz w) Ax Ay (fun w h => hJS w h.1) ⟨j2, az⟩ ?_ ?_ ?_⟩
    · intro w' j'
      exact wp_moved (ops := l.toArray) hsx xz3 xz2' (fun c a v w => hQ c a _ v w) (fun K hK => stepX w' j'.1 K (fun v w2 h => hK v w2 ⟨⟨h.1, h.2.2.2 _ j'.2⟩, h.2.1, h.2.2.1⟩))
    · intro w' j'
      exact wp_moved (ops := l.toArray) hsy yz3 yz2' (fun c a v w => hQ c a _ v w) (fun K hK => stepY w' j'.1 K (fun v w2 h => hK v w2 ⟨⟨h.1, h.2.2.2 _ j'.2⟩, h.2.1, h.2.2.1⟩))
    · intro vx vy w' j' ax ay
      have := fin vx vy vz w' j'.1 ax ay j'.2
      rw [Array.setIfInBounds_comm _ _ nyz, Array.setIfInBounds_comm _ _ nxz, Act.put_comm (a.put ox.dst vx) vy vz yz2, Act.put_comm a vx vz xz2] at this
      exact this
end
end Go.Proofs.YtkgncijcnlfhiaaDoor

