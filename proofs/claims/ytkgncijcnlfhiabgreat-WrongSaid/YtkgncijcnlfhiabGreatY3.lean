import Derived.Test.YtkgncijcnlfhiabGreatRg
import Derived.Test.YtkgncijcnlfhiabGreatY2
namespace Go.Proofs.YtkgncijcnlfhiabGreat
set_option linter.unusedVariables false
set_option linter.unusedSimpArgs false
open Go.RowKit
theorem Act.put_defers_ (a : Act) (d : Option Tmp) (v : Value) : (a.put d v).defers = a.defers := by cases d <;> rfl
/-- what an operation does where another one's value has been laid meanwhile -/
theorem wp_moved {P : Program} {ops : Array Oper} {Q : Exit → Act → World → Prop} {o : Oper} {a : Act} {d : Option Tmp} {u : Value} {w : World} (hs : ∀ cs b, o.op ≠ .select cs b) (hd : ∀ t, d = some t → t ∉ o.looksAt ops) (hne : ∀ t, d = some t → o.dst ≠ some t)
    (hQ : ∀ c a v w, Q (.panic c) a w → Q (.panic c) (a.put d v) w) {R : Value → World → Prop} (h : ∀ K : Act → World → Prop, (∀ v w2, R v w2 → K (a.put o.dst v) w2) → o.wp P a w K Q) :
    ∀ K : Act → World → Prop, (∀ v w2, R v w2 → K ((a.put d u).put o.dst v) w2) → o.wp P (a.put d u) w K Q := by
  intro K hK
  have hc : ∀ v, (a.put d u).put o.dst v = (a.put o.dst v).put d u := fun v => Act.put_comm a u v hne
  have h2 := h (fun a2 w2 => (∃ v, a2 = a.put o.dst v ∧ R v w2)) (fun v w2 hr => ⟨v, rfl, hr⟩)
  have key : ∀ v w2, (∃ v', a.put o.dst v = a.put o.dst v' ∧ R v' w2) → K ((a.put d u).put o.dst v) w2 := by
    rintro v w2 ⟨v', e, r⟩
    rw [hc v, e, ← hc v']
    exact hK v' w2 r
  unfold Oper.wp at *
  rw [execOp_put (ops := ops) o hs a d u hd]
  generalize (execOp a.eval o).run P w = res at *
  cases res with
  | ok n w' =>
    cases n <;> simp only [Oper.upon] at h2 ⊢
    case value v => exact key v w' h2
    case skip => exact key undef w' h2
    case defer dd =>
      obtain ⟨v', e, _⟩ := h2
      exfalso
      have e2 := congrArg Act.defers e
      rw [Act.put_defers_, Act.put_defers_] at e2
      have := congrArg List.length e2
      simp at this
    case enter f args =>
      refine Calls.mono h2 fun e w'' he => ?_
      cases e with
      | returned v => exact key v w'' he
      | panicked c => exact hQ _ _ _ _ he
      | outgrown => exact he
    case row row args => exact Rows.mono h2 fun v w'' he => key v w'' he
  | halt x w' =>
    cases x <;> simp only [Oper.upon] at h2 ⊢
    case panic v => exact hQ _ _ _ _ h2
section
variable {P : Program} {l : List Oper} {md : Region.Mode} {Q : Exit → Act → World → Prop} {S : World → Prop}
theorem one_of {i : Nat} {o : Oper} {fuel : Nat} {listed : Array Bool} {a : Act} {w : World} {R : Value → World → Prop} (ho : l[i]? = some o) (hw : Region.wanted o (yielded l.toArray a.tmps) = true)
    (h : ∀ K : Act → World → Prop, (∀ v w2, R v w2 → K (a.put o.dst v) w2) → o.wp P a w K Q) (rest : ∀ v w2, R v w2 → S w2 ∧ wpAnyH P md l.toArray Q S fuel (listed.setIfInBounds i true) (a.put o.dst v) w2) :
    wpOp P l.toArray Q i (fun a' w' => S w' ∧ wpAnyH P md l.toArray Q S fuel (listed.setIfInBounds i true) a' w') a w := by
  refine wpOp_step (o := o) (by simpa using ho) (fun K hK => ?_)
  rw [if_pos hw]
  exact h K (fun v w2 hr => hK _ _ (rest v w2 hr))
/-- two -/
theorem phase2 {x y : Nat} {ox oy : Oper} {fuel : Nat} {listed : Array Bool} {a : Act} {w : World} (hx : l[x]? = some ox) (hy : l[y]? = some oy) (hs : Region.noSelect l.toArray = true) (hap : ox.apart l.toArray oy = true) (hne : x ≠ y)
    (hr : Region.ready md l.toArray listed = [x, y]) (hrx : Region.ready md l.toArray (listed.setIfInBounds x true) = [y]) (hry : Region.ready md l.toArray (listed.setIfInBounds y true) = [x])
    (hwx : Region.wanted ox (yielded l.toArray a.tmps) = true) (hwy : Region.wanted oy (yielded l.toArray a.tmps) = true)
    (hQ : ∀ c a d v w, Q (.panic c) a w → Q (.panic c) (a.put d v) w) (J : World → Prop) (Ax Ay : Value → World → Prop) (hJS : ∀ w, J w → S w) (hJ : J w)
    (stepX : ∀ w', J w' → ∀ K : Act → World → Prop, (∀ v w2, (J w2 ∧ Ax v w2 ∧ ∀ u, Ay u w' → Ay u w2) → K (a.put ox.dst v) w2) → ox.wp P a w' K Q)
    (stepY : ∀ w', J w' → ∀ K : Act → World → Prop, (∀ v w2, (J w2 ∧ Ay v w2 ∧ ∀ u, Ax u w' → Ax u w2) → K (a.put oy.dst v) w2) → oy.wp P a w' K Q)
    (rest : ∀ vx vy w', J w' → Ax vx w' → Ay vy w' → wpAnyH P md l.toArray Q S fuel ((listed.setIfInBounds x true).setIfInBounds y true) ((a.put ox.dst vx).put oy.dst vy) w') :
    wpAnyH P md l.toArray Q S (fuel + 1 + 1) listed a w := by
  obtain ⟨h1, h2, h3⟩ := Oper.apart_spec hap
  have hsx : ∀ cs b, ox.op ≠ .select cs b := fun cs b => Region.noSelect_spec hs x ox cs b (by simpa using hx)
  have hsy : ∀ cs b, oy.op ≠ .select cs b := fun cs b => Region.noSelect_spec hs y oy cs b (by simpa using hy)
  have h2' : ∀ d, oy.dst = some d → ox.dst ≠ some d := fun d hd e => h2 d e hd
  refine wpAnyH_all hr (by simp) fun i hi => ?_
  rcases List.mem_cons.1 hi with rfl | hi
  · refine one_of hx hwx (stepX w hJ) ?_
    rintro vx w2 ⟨j2, ax, _⟩
    refine ⟨hJS _ j2, wpAnyH_all hrx (by simp) fun i hi => ?_⟩
    rcases List.mem_cons.1 hi with rfl | hi
    · refine one_of hy ((wanted_put oy a ox.dst vx h1).trans hwy) (wp_moved (ops := l.toArray) hsy h1 h2 (fun c a v w => hQ c a _ v w) (stepY w2 j2)) ?_
      rintro vy w3 ⟨j3, ay, k⟩
      exact ⟨hJS _ j3, rest vx vy w3 j3 (k _ ax) ay⟩
    · cases hi
  · rcases List.mem_cons.1 hi with rfl | hi
    · refine one_of hy hwy (stepY w hJ) ?_
      rintro vy w2 ⟨j2, ay, _⟩
      refine ⟨hJS _ j2, wpAnyH_all hry (by simp) fun i hi => ?_⟩
      rcases List.mem_cons.1 hi with rfl | hi
      · refine one_of hx ((wanted_put ox a oy.dst vy h3).trans hwx) (wp_moved (ops := l.toArray) hsx h3 h2' (fun c a v w => hQ c a _ v w) (stepX w2 j2)) ?_
        rintro vx w3 ⟨j3, ax, k⟩
        refine ⟨hJS _ j3, ?_⟩
        have := rest vx vy w3 j3 ax (k _ ay)
        rw [Array.setIfInBounds_comm _ _ hne, Act.put_comm a vx vy h2] at this
        exact this
      · cases hi
    · cases hi
/-- three, and one that yields once the first two have come up -/
theorem phase3t {x y z t : Nat} {ox oy oz ot : Oper} {fuel : Nat} {listed : Array Bool} {a : Act} {w : World} (hx : l[x]? = some ox) (hy : l[y]? = some oy) (hz : l[z]? = some oz) (ht : l[t]? = some ot) (hs : Region.noSelect l.toArray = true)
    (hxy : ox.apart l.toArray oy = true) (hxz : ox.apart l.toArray oz = true) (hyz : oy.apart l.toArray oz = true) (htz : ot.apart l.toArray oz = true) (nxy : x ≠ y) (nxz : x ≠ z) (nyz : y ≠ z) (ntz : t ≠ z)
    (hr : Region.ready md l.toArray listed = [x, y, z])
    (hrx : Region.ready md l.toArray (listed.setIfInBounds x true) = [y, z]) (hry : Region.ready md l.toArray (listed.setIfInBounds y true) = [x, z]) (hrz : Region.ready md l.toArray (listed.setIfInBounds z true) = [x, y])
    (hrxz : Region.ready md l.toArray ((listed.setIfInBounds x true).setIfInBounds z true) = [y]) (hryz : Region.ready md l.toArray ((listed.setIfInBounds y true).setIfInBounds z true) = [x])
    (hrxy : (Region.ready md l.toArray ((listed.setIfInBounds x true).setIfInBounds y true)).contains t = true) (hfxy : Region.free md l.toArray ((listed.setIfInBounds x true).setIfInBounds y true) t = true)
    (hrxyt : Region.ready md l.toArray (((listed.setIfInBounds x true).setIfInBounds y true).setIfInBounds t true) = [z])
    (hrxyz : (Region.ready md l.toArray (((listed.setIfInBounds x true).setIfInBounds y true).setIfInBounds z true)).contains t = true) (hfxyz : Region.free md l.toArray (((listed.setIfInBounds x true).setIfInBounds y true).setIfInBounds z true) t = true)
    (hwx : Region.wanted ox (yielded l.toArray a.tmps) = true) (hwy : Region.wanted oy (yielded l.toArray a.tmps) = true) (hwz : Region.wanted oz (yielded l.toArray a.tmps) = true)
    (hQ : ∀ c a d v w, Q (.panic c) a w → Q (.panic c) (a.put d v) w) (hQ' : ∀ c a d v w, Q (.panic c) (a.put d v) w → Q (.panic c) a w) (J : World → Prop) (Ax Ay Az : Value → World → Prop) (T : Value → Value → Value → Prop) (hJS : ∀ w, J w → S w) (hJ : J w)
    (stepX : ∀ w', J w' → ∀ K : Act → World → Prop, (∀ v w2, (J w2 ∧ Ax v w2 ∧ (∀ u, Ay u w' → Ay u w2) ∧ ∀ u, Az u w' → Az u w2) → K (a.put ox.dst v) w2) → ox.wp P a w' K Q)
    (stepY : ∀ w', J w' → ∀ K : Act → World → Prop, (∀ v w2, (J w2 ∧ Ay v w2 ∧ (∀ u, Ax u w' → Ax u w2) ∧ ∀ u, Az u w' → Az u w2) → K (a.put oy.dst v) w2) → oy.wp P a w' K Q)
    (stepZ : ∀ w', J w' → ∀ K : Act → World → Prop, (∀ v w2, (J w2 ∧ Az v w2 ∧ (∀ u, Ax u w' → Ax u w2) ∧ ∀ u, Ay u w' → Ay u w2) → K (a.put oz.dst v) w2) → oz.wp P a w' K Q)
    (stepT : ∀ vx vy w', J w' → Ax vx w' → Ay vy w' → ∃ vt, T vx vy vt ∧ Region.wanted ot (yielded l.toArray ((a.put ox.dst vx).put oy.dst vy).tmps) = true ∧ ∀ w, S w → (execOp ((a.put ox.dst vx).put oy.dst vy).eval ot).run P w = .ok (.value vt) w)
    (rest : ∀ vx vy vz vt w', J w' → Ax vx w' → Ay vy w' → Az vz w' → T vx vy vt → wpAnyH P md l.toArray Q S fuel ((((listed.setIfInBounds x true).setIfInBounds y true).setIfInBounds z true).setIfInBounds t true) ((((a.put ox.dst vx).put oy.dst vy).put oz.dst vz).put ot.dst vt) w') :
    wpAnyH P md l.toArray Q S (fuel + 1 + 1 + 1 + 1) listed a w := by
  obtain ⟨xy1, xy2, xy3⟩ := Oper.apart_spec hxy
  obtain ⟨xz1, xz2, xz3⟩ := Oper.apart_spec hxz
  obtain ⟨yz1, yz2, yz3⟩ := Oper.apart_spec hyz
  obtain ⟨tz1, tz2, tz3⟩ := Oper.apart_spec htz
  have hsx : ∀ cs b, ox.op ≠ .select cs b := fun cs b => Region.noSelect_spec hs x ox cs b (by simpa using hx)
  have hsy : ∀ cs b, oy.op ≠ .select cs b := fun cs b => Region.noSelect_spec hs y oy cs b (by simpa using hy)
  have hsz : ∀ cs b, oz.op ≠ .select cs b := fun cs b => Region.noSelect_spec hs z oz cs b (by simpa using hz)
  have hst : ∀ cs b, ot.op ≠ .select cs b := fun cs b => Region.noSelect_spec hs t ot cs b (by simpa using ht)
  have xy2' : ∀ d, oy.dst = some d → ox.dst ≠ some d := fun d hd e => xy2 d e hd
  have xz2' : ∀ d, oz.dst = some d → ox.dst ≠ some d := fun d hd e => xz2 d e hd
  have yz2' : ∀ d, oz.dst = some d → oy.dst ≠ some d := fun d hd e => yz2 d e hd
  have fin : ∀ vx vy vz w', J w' → Ax vx w' → Ay vy w' → Az vz w' → wpAnyH P md l.toArray Q S (fuel + 1) (((listed.setIfInBounds x true).setIfInBounds y true).setIfInBounds z true) (((a.put ox.dst vx).put oy.dst vy).put oz.dst vz) w' := by
    intro vx vy vz w' j ax ay az
    obtain ⟨vt, hT, hwt, hyt⟩ := stepT vx vy w' j ax ay
    exact takeL ht hs hfxyz hrxyz (fun c a w => hQ' c a _ _ w) ((wanted_put ot _ oz.dst vz tz3).trans hwt) (fun w hw => by rw [execOp_put (ops := l.toArray) ot hst _ oz.dst vz tz3]; exact hyt w hw) (hJS _ j) (rest vx vy vz vt w' j ax ay az hT)
  have mid : ∀ vx vy w', J w' → Ax vx w' → Ay vy w' → wpAnyH P md l.toArray Q S (fuel + 1 + 1) ((listed.setIfInBounds x true).setIfInBounds y true) ((a.put ox.dst vx).put oy.dst vy) w' := by
    intro vx vy w' j ax ay
    obtain ⟨vt, hT, hwt, hyt⟩ := stepT vx vy w' j ax ay
    refine takeL ht hs hfxy hrxy (fun c a w => hQ' c a _ _ w) hwt hyt (hJS _ j) ?_
    refine wpAnyH_all hrxyt (by simp) fun i hi => ?_
    rcases List.mem_cons.1 hi with rfl | hi
    · have st := wp_moved (ops := l.toArray) (u := vt) hsz tz1 tz2 (fun c a v w => hQ c a _ v w) (wp_moved (ops := l.toArray) (u := vy) hsz yz1 yz2 (fun c a v w => hQ c a _ v w) (wp_moved (ops := l.toArray) (u := vx) hsz xz1 xz2 (fun c a v w => hQ c a _ v w) (stepZ w' j)))
      refine one_of hz (((wanted_put oz _ ot.dst vt tz1).trans ((wanted_put oz _ oy.dst vy yz1).trans (wanted_put oz a ox.dst vx xz1))).trans hwz) st ?_
      rintro vz w2 ⟨j2, az, kx, ky⟩
      refine ⟨hJS _ j2, ?_⟩
      have := rest vx vy vz vt w2 j2 (kx _ ax) (ky _ ay) az hT
      rw [Array.setIfInBounds_comm _ _ (Ne.symm ntz), ← Act.put_comm ((a.put ox.dst vx).put oy.dst vy) vt vz tz2] at this
      exact this
    · cases hi
  refine wpAnyH_all hr (by simp) fun i hi => ?_
  have hi : i = x ∨ i = y ∨ i = z := by simpa using hi
  rcases hi with rfl | rfl | rfl
  · refine one_of hx hwx (stepX w hJ) ?_
    rintro vx w2 ⟨j2, ax, _, _⟩
    refine ⟨hJS _ j2, wpAnyH_all hrx (by simp) fun i hi => ?_⟩
    have hi : i = y ∨ i = z := by simpa using hi
    rcases hi with rfl | rfl
    · refine one_of hy ((wanted_put oy a ox.dst vx xy1).trans hwy) (wp_moved (ops := l.toArray) hsy xy1 xy2 (fun c a v w => hQ c a _ v w) (stepY w2 j2)) ?_
      rintro vy w3 ⟨j3, ay, kx, _⟩
      exact ⟨hJS _ j3, mid vx vy w3 j3 (kx _ ax) ay⟩
    · refine one_of hz ((wanted_put oz a ox.dst vx xz1).trans hwz) (wp_moved (ops := l.toArray) hsz xz1 xz2 (fun c a v w => hQ c a _ v w) (stepZ w2 j2)) ?_
      rintro vz w3 ⟨j3, az, kx, _⟩
      refine ⟨hJS _ j3, wpAnyH_all hrxz (by simp) fun i hi => ?_⟩
      rcases List.mem_cons.1 hi with rfl | hi
      · refine one_of hy (((wanted_put oy _ oz.dst vz yz3).trans (wanted_put oy a ox.dst vx xy1)).trans hwy) (wp_moved (ops := l.toArray) hsy yz3 yz2' (fun c a v w => hQ c a _ v w) (wp_moved (ops := l.toArray) hsy xy1 xy2 (fun c a v w => hQ c a _ v w) (stepY w3 j3))) ?_
        rintro vy w4 ⟨j4, ay, kx4, kz4⟩
        refine ⟨hJS _ j4, ?_⟩
        have := fin vx vy vz w4 j4 (kx4 _ (kx _ ax)) ay (kz4 _ az)
        rw [Array.setIfInBounds_comm _ _ nyz, Act.put_comm (a.put ox.dst vx) vy vz yz2] at this
        exact this
      · cases hi
  · refine one_of hy hwy (stepY w hJ) ?_
    rintro vy w2 ⟨j2, ay, _, _⟩
    refine ⟨hJS _ j2, wpAnyH_all hry (by simp) fun i hi => ?_⟩
    have hi : i = x ∨ i = z := by simpa using hi
    rcases hi with rfl | rfl
    · refine one_of hx ((wanted_put ox a oy.dst vy xy3).trans hwx) (wp_moved (ops := l.toArray) hsx xy3 xy2' (fun c a v w => hQ c a _ v w) (stepX w2 j2)) ?_
      rintro vx w3 ⟨j3, ax, ky, _⟩
      refine ⟨hJS _ j3, ?_⟩
      have := mid vx vy w3 j3 ax (ky _ ay)
      rw [Array.setIfInBounds_comm _ _ nxy, Act.put_comm a vx vy xy2] at this
      exact this
    · refine one_of hz ((wanted_put oz a oy.dst vy yz1).trans hwz) (wp_moved (ops := l.toArray) hsz yz1 yz2 (fun c a v w => hQ c a _ v w) (stepZ w2 j2)) ?_
      rintro vz w3 ⟨j3, az, _, ky⟩
      refine ⟨hJS _ j3, wpAnyH_all hryz (by simp) fun i hi => ?_⟩
      rcases List.mem_cons.1 hi with rfl | hi
      · refine one_of hx (((wanted_put ox _ oz.dst vz xz3).trans (wanted_put ox a oy.dst vy xy3)).trans hwx) (wp_moved (ops := l.toArray) hsx xz3 xz2' (fun c a v w => hQ c a _ v w) (wp_moved (ops := l.toArray) hsx xy3 xy2' (fun c a v w => hQ c a _ v w) (stepX w3 j3))) ?_
        rintro vx w4 ⟨j4, ax, ky4, kz4⟩
        refine ⟨hJS _ j4, ?_⟩
        have := fin vx vy vz w4 j4 ax (ky4 _ (ky _ ay)) (kz4 _ az)
        rw [Array.setIfInBounds_comm _ _ nxy, Array.setIfInBounds_comm _ _ nxz, Act.put_comm a vx vy xy2, Act.put_comm (a.put oy.dst vy) vx vz xz2] at this
        exact this
      · cases hi
  · refine one_of hz hwz (stepZ w hJ) ?_
    rintro vz w2 ⟨j2, az, _, _⟩
    refine ⟨hJS _ j2, phase2 hx hy hs hxy nxy hrz (by rw [Array.setIfInBounds_comm _ _ (Ne.symm nxz)]; exact hrxz) (by rw [Array.setIfInBounds_comm _ _ (Ne.symm nyz)]; exact hryz) ((wanted_put ox a oz.dst vz xz3).trans hwx) ((wanted_put oy a oz.dst vz yz3).trans hwy) hQ (fun w => J w ∧ Az vz w) Ax Ay (fun w h => hJS w h.1) ⟨j2, az⟩ ?_ ?_ ?_⟩
    · intro w' j'
      exact wp_moved (ops := l.toArray) hsx xz3 xz2' (fun c a v w => hQ c a _ v w) (fun K hK => stepX w' j'.1 K (fun v w2 h => hK v w2 ⟨⟨h.1, h.2.2.2 _ j'.2⟩, h.2.1, h.2.2.1⟩))
    · intro w' j'
      exact wp_moved (ops := l.toArray) hsy yz3 yz2' (fun c a v w => hQ c a _ v w) (fun K hK => stepY w' j'.1 K (fun v w2 h => hK v w2 ⟨⟨h.1, h.2.2.2 _ j'.2⟩, h.2.1, h.2.2.1⟩))
    · intro vx vy w' j' ax ay
      have := fin vx vy vz w' j'.1 ax ay j'.2
      rw [Array.setIfInBounds_comm _ _ nyz, Array.setIfInBounds_comm _ _ nxz, Act.put_comm (a.put ox.dst vx) vy vz yz2, Act.put_comm a vx vz xz2] at this
      exact this
end
end Go.Proofs.YtkgncijcnlfhiabGreat

namespace Go.Proofs.YtkgncijcnlfhiabGreat
set_option linter.unusedVariables false
set_option linter.unusedSimpArgs false
def effQ (u : PUnit) (f : PFunc) (i : PIns) (stack : List Int) : Option (List Int × List Int) :=
  if i.op = 4 then stack.getLast?.map fun k => ([k], [])
  else if i.op = 5 then stack.getLast?.map fun k => ([k], [k, k])
  else effP u f i
def doneQ (u : PUnit) (f : PFunc) (i : PIns) (stack : List Int) : Option (List Int) :=
  match effQ u f i stack with
  | none => none
  | some (ts, ps) =>
    if stack.length < ts.length ∨ stack.drop (stack.length - ts.length) ≠ ts then none
    else if i.op = 14 then (if stack.length = ts.length then some (stack.take (stack.length - ts.length) ++ ps) else none)
    else if (stack.take (stack.length - ts.length) ++ ps).length ≤ 20 then some (stack.take (stack.length - ts.length) ++ ps) else none
theorem fitsP_eq : ∀ (ts s : List Int), (∀ t ∈ ts, 0 ≤ t) → fitsP ts s = decide (s = ts)
  | [], [], _ => by simp [fitsP]
  | [], _ :: _, _ => by simp [fitsP]
  | _ :: _, [], _ => by simp [fitsP]
  | t :: ts, s :: ss, h => by
    have ht : ¬ t < 0 := by have := h t (by simp); omega
    rw [fitsP, fitsP_eq ts ss (fun x hx => h x (by simp [hx]))]
    rw [Bool.eq_iff_iff]
    simp only [Bool.and_eq_true, Bool.or_eq_true, decide_eq_true_eq, ht, false_or, List.cons.injEq]
    exact ⟨fun h => ⟨h.1.symm, h.2⟩, fun h => ⟨h.1.symm, h.2⟩⟩
theorem puts_eq (a : Int) : ∀ (ps : List Int), (∀ p ∈ ps, 0 ≤ p) → (ps.map fun p => if p < 0 then a else p) = ps
  | [], _ => rfl
  | p :: ps, h => by
    have hp : ¬ p < 0 := by have := h p (by simp); omega
    rw [List.map_cons, if_neg hp, puts_eq a ps (fun x hx => h x (by simp [hx]))]
theorem last_split {s : List Int} {k : Int} (h : s.getLast? = some k) : ∃ t, s = t ++ [k] := List.getLast?_eq_some_iff.1 h
/-- only what was taken is asked for; what Ret leaves is nothing -/
theorem effP_ret {u : PUnit} {f : PFunc} {i : PIns} {ts ps : List Int} (h : i.op = 14) (he : effP u f i = some (ts, ps)) : ts = [f.result] ∧ ps = [] := by
  unfold effP at he
  simp [h] at he
  exact ⟨he.1.symm, he.2⟩
theorem doneQ_eq {u : PUnit} {f : PFunc} {i : PIns} (s : List Int) (hn : ∀ ts ps, effP u f i = some (ts, ps) → i.op ≠ 4 → i.op ≠ 5 → (∀ t ∈ ts, 0 ≤ t) ∧ (∀ p ∈ ps, 0 ≤ p)) : doneQ u f i s = doneP u f i s := by
  by_cases h4 : i.op = 4
  · have hP : effP u f i = some ([-1], []) := by unfold effP; simp [h4]
    unfold doneQ doneP effQ
    rw [hP, if_pos h4]
    cases hl : s.getLast? with
    | none => rw [List.getLast?_eq_none_iff] at hl; subst hl; simp
    | some k =>
      obtain ⟨t, rfl⟩ := last_split hl
      simp [fitsP, h4]
  · by_cases h5 : i.op = 5
    · have hP : effP u f i = some ([-1], [-1, -1]) := by unfold effP; simp [h5]
      unfold doneQ doneP effQ
      rw [hP, if_neg h4, if_pos h5]
      cases hl : s.getLast? with
      | none => rw [List.getLast?_eq_none_iff] at hl; subst hl; simp
      | some k =>
        obtain ⟨t, rfl⟩ := last_split hl
        simp [fitsP, anyP, h5]
    · unfold doneQ doneP effQ
      rw [if_neg h4, if_neg h5]
      cases hP : effP u f i with
      | none => rfl
      | some p =>
        obtain ⟨ts, ps⟩ := p
        obtain ⟨h1, h2⟩ := hn ts ps hP h4 h5
        simp only
        rw [fitsP_eq ts _ h1, puts_eq _ ps h2]
        by_cases hl : s.length < ts.length
        · rw [if_pos hl, if_pos (Or.inl hl)]
        · rw [if_neg hl]
          by_cases hd : s.drop (s.length - ts.length) = ts
          · have c1 : ¬ (s.length < ts.length ∨ s.drop (s.length - ts.length) ≠ ts) := fun h => h.elim hl (fun h => h hd)
            have c2 : ¬ (decide (s.drop (s.length - ts.length) = ts) = false) := by simp [hd]
            rw [if_neg c1, if_neg c2]
            by_cases h14 : i.op = 14
            · obtain ⟨e1, e2⟩ := effP_ret h14 hP
              rw [if_pos h14]
              by_cases hs : s.length = ts.length
              · rw [if_pos hs, if_pos ⟨by rw [hs, e2]; simp, Or.inr hs⟩]
              · have c3 : ¬ ((s.take (s.length - ts.length) ++ ps).length ≤ 20 ∧ (i.op ≠ 14 ∨ s.length = ts.length)) := fun h => h.2.elim (fun h => h h14) hs
                rw [if_neg hs, if_neg c3]
            · rw [if_neg h14]
              simp [h14]
          · have c4 : decide (s.drop (s.length - ts.length) = ts) = false := by simp [hd]
            rw [if_pos (Or.inr hd), if_pos c4]
/-- of a well formed unit no kind is below 0 -/
theorem inB_nn {n k : Int} (h : inB n k = true) : 0 ≤ k := by unfold inB wB at h; simp at h; exact h.1
theorem allB_nn {n : Int} {l : List Int} (h : l.all (inB n) = true) : ∀ k ∈ l, 0 ≤ k := fun k hk => inB_nn (List.all_eq_true.1 h k hk)
theorem sig_nn {ps : List Int} {r n : Int} (h : sigOk ps r n = true) : (∀ k ∈ ps, 0 ≤ k) ∧ 0 ≤ r := by
  unfold sigOk at h; simp only [Bool.and_eq_true] at h
  exact ⟨allB_nn h.2.1, inB_nn h.2.2⟩
theorem func_nn {f : PFunc} {n : Int} (h : funcOk n f = true) : (∀ k ∈ f.params, 0 ≤ k) ∧ 0 ≤ f.result ∧ (∀ k ∈ f.locals, 0 ≤ k) ∧ f.code.all insOk = true ∧ 1 ≤ f.code.length := by
  unfold funcOk codeOk at h; simp only [Bool.and_eq_true] at h
  have h1 := sig_nn h.1
  have h2 := h.2.2.2.1
  unfold wB at h2; simp at h2
  exact ⟨h1.1, h1.2, allB_nn h.2.2.1, h.2.2.2.2, by omega⟩
theorem get_mem {α : Type} {l : List α} {k : Nat} {x : α} (h : l[k]? = some x) : x ∈ l := List.mem_of_getElem? h
theorem eff_nn {u : PUnit} {f : PFunc} {i : PIns} (hu : unitOk u = true) (hf : f ∈ u.funcs) : ∀ ts ps, effP u f i = some (ts, ps) → i.op ≠ 4 → i.op ≠ 5 → (∀ t ∈ ts, 0 ≤ t) ∧ (∀ p ∈ ps, 0 ≤ p) := by
  intro ts ps he n4 n5
  unfold unitOk shapesOk funcsOk importsOk at hu
  simp only [Bool.and_eq_true] at hu
  obtain ⟨⟨-, hsh⟩, -, ⟨-, hfs⟩, ⟨-, him⟩, -⟩ := hu
  have hF : ∀ g ∈ u.funcs, (∀ k ∈ g.params, 0 ≤ k) ∧ 0 ≤ g.result ∧ (∀ k ∈ g.locals, 0 ≤ k) ∧ g.code.all insOk = true ∧ 1 ≤ g.code.length := fun g hg => func_nn (List.all_eq_true.1 hfs g hg)
  have hI : ∀ g ∈ u.imports, (∀ k ∈ g.params, 0 ≤ k) ∧ 0 ≤ g.result := by
    intro g hg
    have := List.all_eq_true.1 him g hg
    unfold impOk at this; simp only [Bool.and_eq_true] at this
    exact sig_nn this.2
  have hS : ∀ (k : Nat) s, u.shapes[k]? = some s → ∀ x ∈ s, 0 ≤ x := by
    intro k s h
    have := List.all_eq_true.1 hsh s (get_mem h)
    unfold shapeOk at this; simp only [Bool.and_eq_true] at this
    exact allB_nn this.2
  have hsl : ∀ (k : Nat) x, (f.params ++ f.locals)[k]? = some x → 0 ≤ x := by
    intro k x h
    rcases List.mem_append.1 (get_mem h) with h | h
    · exact (hF f hf).1 x h
    · exact (hF f hf).2.2.1 x h
  have hshape : ∀ s, (if 1 ≤ i.a then u.shapes[(i.a - 1).toNat]? else none) = some s → 0 ≤ i.a ∧ ∀ x ∈ s, 0 ≤ x := by
    intro s h
    by_cases ha : 1 ≤ i.a
    · rw [if_pos ha] at h; exact ⟨by omega, hS _ s h⟩
    · rw [if_neg ha] at h; cases h
  unfold effP at he
  generalize hsE : (if 1 ≤ i.a then u.shapes[(i.a - 1).toNat]? else none) = S at he hshape
  by_cases c0 : i.op = 0
  · rw [if_pos c0] at he
    split at he
    · cases he; simp
    · cases he
  rw [if_neg c0] at he
  by_cases c1 : i.op = 1
  · rw [if_pos c1] at he
    cases he; simp
  rw [if_neg c1] at he
  by_cases c2 : i.op = 2
  · rw [if_pos c2] at he
    rw [Option.map_eq_some_iff] at he; obtain ⟨k, hk, e⟩ := he; cases e; simpa using hsl _ _ hk
  rw [if_neg c2] at he
  by_cases c3 : i.op = 3
  · rw [if_pos c3] at he
    rw [Option.map_eq_some_iff] at he; obtain ⟨k, hk, e⟩ := he; cases e; simpa using hsl _ _ hk
  rw [if_neg c3] at he
  by_cases c4 : i.op = 4
  · rw [if_pos c4] at he
    exact absurd c4 n4
  rw [if_neg c4] at he
  by_cases c5 : i.op = 5
  · rw [if_pos c5] at he
    exact absurd c5 n5
  rw [if_neg c5] at he
  by_cases c6 : i.op = 6 ∨ i.op = 7 ∨ i.op = 8 ∨ i.op = 9 ∨ i.op = 10
  · rw [if_pos c6] at he
    cases he; simp
  rw [if_neg c6] at he
  by_cases c7 : i.op = 11
  · rw [if_pos c7] at he
    split at he
    · cases he; simp
    · cases he
  rw [if_neg c7] at he
  by_cases c8 : i.op = 12
  · rw [if_pos c8] at he
    split at he
    · cases he; simp
    · cases he
  rw [if_neg c8] at he
  by_cases c9 : i.op = 13
  · rw [if_pos c9] at he
    split at he
    · rename_i g hg
      cases he
      have := hF g (get_mem hg)
      exact ⟨this.1, by simpa using this.2.1⟩
    · rw [Option.map_eq_some_iff] at he; obtain ⟨g, hg, e⟩ := he; cases e
      have := hI g (get_mem hg)
      exact ⟨this.1, by simpa using this.2⟩
  rw [if_neg c9] at he
  by_cases c10 : i.op = 14
  · rw [if_pos c10] at he
    cases he; simpa using (hF f hf).2.1
  rw [if_neg c10] at he
  by_cases c11 : i.op = 15
  · rw [if_pos c11] at he
    rw [Option.map_eq_some_iff] at he; obtain ⟨s, hs, e⟩ := he; cases e
    obtain ⟨ha, hx⟩ := hshape _ hs
    exact ⟨hx, by simpa using ha⟩
  rw [if_neg c11] at he
  by_cases c12 : i.op = 16
  · rw [if_pos c12] at he
    rw [Option.bind_eq_some_iff] at he; obtain ⟨s, hs, he⟩ := he
    rw [Option.map_eq_some_iff] at he; obtain ⟨k, hk, e⟩ := he; cases e
    obtain ⟨ha, hx⟩ := hshape _ hs
    exact ⟨by simpa using ha, by simpa using hx k (get_mem hk)⟩
  rw [if_neg c12] at he
  by_cases c13 : i.op = 17
  · rw [if_pos c13] at he
    rw [Option.bind_eq_some_iff] at he; obtain ⟨s, hs, he⟩ := he
    rw [Option.map_eq_some_iff] at he; obtain ⟨k, hk, e⟩ := he; cases e
    obtain ⟨ha, hx⟩ := hshape _ hs
    have := hx k (get_mem hk)
    refine ⟨?_, by simp⟩
    intro t ht; simp at ht; rcases ht with rfl | rfl <;> assumption
  rw [if_neg c13] at he
  by_cases c14 : i.op = 18
  · rw [if_pos c14] at he
    rw [Option.map_eq_some_iff] at he; obtain ⟨s, hs, e⟩ := he; cases e
    obtain ⟨ha, hx⟩ := hshape _ hs
    exact ⟨by simp, by simpa using ha⟩
  rw [if_neg c14] at he
  by_cases c15 : i.op = 19
  · rw [if_pos c15] at he
    rw [Option.map_eq_some_iff] at he; obtain ⟨s, hs, e⟩ := he; cases e
    obtain ⟨ha, hx⟩ := hshape _ hs
    exact ⟨by simpa using ha, by simp⟩
  rw [if_neg c15] at he
  by_cases c16 : i.op = 20
  · rw [if_pos c16] at he
    cases he; simp
  rw [if_neg c16] at he
  cases he
end Go.Proofs.YtkgncijcnlfhiabGreat

