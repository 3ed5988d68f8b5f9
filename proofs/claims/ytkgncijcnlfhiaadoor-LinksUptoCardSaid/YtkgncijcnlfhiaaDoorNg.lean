import Derived.Test.YtkgncijcnlfhiaaDoorNf
namespace Go.Proofs.YtkgncijcnlfhiaaDoor
set_option linter.unusedVariables false
set_option linter.unusedSimpArgs false
open Go.RowKit
attribute [local go_sem ↓] Go.wp_at_zero Go.wp_at_succ
def seenAt (l : List PUnit) : Nat → List (List UInt8)
  | 0 => []
  | k + 1 => ((l[k]?).bind fun u => twiceU (seenAt l k) u.exports).getD []
theorem first_twice (l : List PUnit) : ∀ (n k : Nat), n + k = l.length → firstI (fun k u => (twiceU (seenAt l k) u.exports).isNone) k (l.drop k) = twiceP (seenAt l k) k (l.drop k)
  | 0, k, h => by rw [List.drop_eq_nil_of_le (by omega)]; rfl
  | n + 1, k, h => by
    have hk : k < l.length := by omega
    rw [List.drop_eq_getElem_cons hk, firstI, twiceP]
    cases e : twiceU (seenAt l k) l[k].exports with
    | none => simp
    | some s =>
      have hs : seenAt l (k + 1) = s := by rw [seenAt, List.getElem?_eq_getElem hk]; simp [e]
      rw [← hs, first_twice l n (k + 1) (by omega)]
      simp
theorem tgtL_snoc (u : PUnit) : ∀ (l : List PUnit) (f : Nat) (N : List UInt8 → Option (PFunc × Int)), tgtL f (l ++ [u]) N = tgtU u (f + (l.map fun u => u.funcs.length).sum) u.exports (tgtL f l N)
  | [], f, N => by simp [tgtL]
  | v :: l, f, N => by rw [List.cons_append, tgtL, tgtL_snoc u l, tgtL, List.map_cons, List.sum_cons, Nat.add_assoc]
theorem tgtL_succ {l : List PUnit} {k : Nat} {u : PUnit} (h : l[k]? = some u) : tgtL 0 (l.take (k + 1)) (fun _ => none) = tgtU u (aheadF l k) u.exports (tgtL 0 (l.take k) (fun _ => none)) := by
  obtain ⟨hk, rfl⟩ := List.getElem?_eq_some_iff.1 h
  rw [List.take_succ_eq_append_getElem hk, tgtL_snoc]
  unfold aheadF
  rw [Nat.zero_add]
theorem aheadF_le {l : List PUnit} (h : ∀ u ∈ l, u.funcs.length ≤ 30) : ∀ k, aheadF l k ≤ 30 * k
  | 0 => by simp [aheadF]
  | k + 1 => by
    by_cases hk : k < l.length
    · rw [aheadF_succ (List.getElem?_eq_getElem hk)]
      have := aheadF_le h k
      have := h _ (List.getElem_mem hk)
      omega
    · have e : aheadF l (k + 1) = aheadF l k := by unfold aheadF; rw [List.take_of_length_le (by omega), List.take_of_length_le (by omega)]
      have := aheadF_le h k
      omega
theorem unit_fits {u : PUnit} (h : unitOk u = true) : u.funcs.length ≤ 30 ∧ u.consts.length ≤ 50 ∧ u.imports.length ≤ 20 ∧ u.exports.length ≤ 20 ∧ u.shapes.length ≤ 20 ∧ (∀ e ∈ u.exports, 0 ≤ e.func ∧ e.func < (u.funcs.length : Int)) ∧ (∀ f ∈ u.funcs, f.params.length ≤ 6 ∧ f.locals.length ≤ 10 ∧ f.code.length ≤ 200 ∧ f.code.all insOk = true) ∧ ∀ s ∈ u.shapes, s.length ≤ 8 := by
  unfold unitOk constsOk funcsOk importsOk exportsOk shapesOk at h
  simp only [wB, Bool.and_eq_true, decide_eq_true_eq] at h
  obtain ⟨⟨s1, s2⟩, h2, ⟨h3, h4⟩, ⟨h5, h6⟩, h7, h8⟩ := h
  refine ⟨by omega, by omega, by omega, by omega, by omega, fun e he => ?_, fun f hf => ?_, fun s hs => ?_⟩
  · have := List.all_eq_true.1 h8 e he
    unfold expOk at this
    simp only [wB, Bool.and_eq_true, decide_eq_true_eq] at this
    omega
  · have := List.all_eq_true.1 h4 f hf
    unfold funcOk sigOk codeOk at this
    simp only [wB, Bool.and_eq_true, decide_eq_true_eq] at this
    obtain ⟨⟨p1, p2, p3⟩, p4, p5, p6, p7⟩ := this
    exact ⟨by omega, by omega, by omega, p7⟩
  · have := List.all_eq_true.1 s2 s hs
    unfold shapeOk at this
    simp only [wB, Bool.and_eq_true, decide_eq_true_eq] at this
    omega
theorem hfrozen_ {w : World} {b : Nat} {arr : Array Value} {t : TypeId} {o : Nat} (h : w.heap[b]? = some (.cells arr t (0, 0))) : w.frozen? ⟨b, o, none⟩ = false := by
  simp [World.frozen?, h]
theorem gr_big {W V w : World} {mb : Nat} (h : Gr W V) (g : V.grownBy w (some mb)) (hm : W.heap.size ≤ mb) : Gr W w :=
  ⟨g.os.trans h.os, g.tape.trans h.tape, g.output.trans h.output, Nat.le_trans h.size g.size, fun i hi hne => (g.block i (Nat.lt_of_lt_of_le hi h.size) (by simp; omega)).trans (h.block i hi hne)⟩
theorem gr_by {w w' : World} {ob : Option Nat} (h : Gr w w') : w.grownBy w' ob := ⟨h.os, h.tape, h.output, h.size, fun i hi _ => h.block i hi (by simp)⟩
theorem by_trans {a b c : World} {ob : Option Nat} (h : a.grownBy b ob) (k : b.grownBy c ob) : a.grownBy c ob :=
  ⟨k.os.trans h.os, k.tape.trans h.tape, k.output.trans h.output, Nat.le_trans h.size k.size, fun i hi hne => (k.block i (Nat.lt_of_lt_of_le hi h.size) hne).trans (h.block i hi hne)⟩
theorem gr_put1 {W V : World} {b o : Nat} {v : Value} (h : Gr W V) (hb : W.heap.size ≤ b) : Gr W (V.setCell ⟨b, o, none⟩ v) :=
  ⟨h.os, h.tape, h.output, by simpa using h.size, fun i hi hne => by rw [Below.heap_setCell _ _ _ _ (by show i ≠ b; omega)]; exact h.block i hi hne⟩
structure ExI (W : World) (nb fb mb : Nat) (l : List PUnit) (k : Nat) (V : World) : Prop where
  gr : Gr W V
  nb0 : W.heap.size ≤ nb
  fb0 : W.heap.size ≤ fb
  mb0 : W.heap.size ≤ mb
  nf : ¬ nb = fb
  nm : ¬ nb = mb
  fm : ¬ fb = mb
  cn : V.cell? ⟨nb, 0, none⟩ = some (.map (some mb))
  cf : V.cell? ⟨fb, 0, none⟩ = some (.int .i64 (aheadF l k : Int))
  zf : V.frozen? ⟨fb, 0, none⟩ = false
  mp : ∃ n, n ≤ 20 * k ∧ MapT W V mb n (tgtL 0 (l.take k) fun _ => none)
  sn : ∀ s, s ∈ seenAt l k ↔ (tgtL 0 (l.take k) (fun _ => none) s).isSome = true
theorem ExI.step {W : World} {nb fb mb : Nat} {l : List PUnit} {k : Nat} {V V' : World} (h : ExI W nb fb mb l k V) (g : Gr V V') : ExI W nb fb mb l k V' := by
  obtain ⟨n, hn, hm⟩ := h.mp
  exact ⟨h.gr.trans g, h.nb0, h.fb0, h.mb0, h.nf, h.nm, h.fm, g.cell h.cn (by simp), g.cell h.cf (by simp), (World.frozen?_of_block (a := ⟨fb, 0, none⟩) (g.block fb (World.block_lt_of_cell? V _ h.cf) (by simp))).trans h.zf, ⟨n, hn, hm.gr g⟩, h.sn⟩
theorem MapT.put {W w : World} {b n : Nat} {N : List UInt8 → Option (PFunc × Int)} (h : MapT W w b n N) (s : ByteArray) (hs : s.size ≤ maxLen) (hn : n < 1000000) {v : Value} {g : PFunc} {k : Int} (hv : TgtV W v g k) :
    ∃ w', (Instr.mapUpdate 161 (.map (some b)) (.string s) v).run Tryd.prog w = .ok () w' ∧ MapT W w' b (n + 1) (fun j => if j = s.data.toList then some (g, k) else N j) ∧ w.grownBy w' (some b) := by
  obtain ⟨m, h1, h2⟩ := h
  obtain ⟨w', hr, hm, hg⟩ := h1.store s hs hn v
  refine ⟨w', hr, ⟨_, hm, fun j => ?_⟩, hg⟩
  by_cases e : j = s.data.toList
  · exact .inr ⟨g, k, v, by simp [e], by simp [e], hv⟩
  · rcases h2 j with h | ⟨g', k', v', e1, e2, e3⟩
    · exact .inl ⟨by simp [e, h.1], by simp [e, h.2]⟩
    · exact .inr ⟨g', k', v', by simp [e, e1], by simp [e, e2], e3⟩

set_option maxRecDepth 100000 in
set_option maxHeartbeats 4000000 in
theorem ask_twice (W : World) (l : List PUnit) (nb fb mb : Nat) (hl6 : l.length ≤ 6) (hok : ∀ u ∈ l, unitOk u = true) :
    AskC W 143 #[] #[.pointer (some ⟨nb, 0, none⟩), .pointer (some ⟨fb, 0, none⟩)] 6 l (fun k u => (twiceU (seenAt l k) u.exports).isNone) (ExI W nb fb mb l) (fun V => Gr W V) := by
  intro k u V vu hu hI hR
  have hnot : ∀ (x : Bool) (w : World), (Op.unary .not (.bool x)).run Tryd.prog w = .ok (.bool (!x)) w := fun _ _ => rfl
  show Calls Tryd.prog 143 #[vu, .agg #[.int .i64 6, .int .i64 0, .int .i64 (k : Int)], .pointer (some ⟨nb, 0, none⟩), .pointer (some ⟨fb, 0, none⟩)] V _
  obtain ⟨a1, a2, a3, a4, a5, c1, c2, c3, c4, c5, rfl, _, _, r3, _, r5⟩ := hR.parts
  obtain ⟨ao, cap, he, hm5, hc5⟩ := r5
  simp only [Value.slice.injEq, true_and] at he
  obtain ⟨rfl, rfl⟩ := he
  obtain ⟨ao3, cap3, he, hm3, hc3⟩ := r3
  simp only [Value.slice.injEq, true_and] at he
  obtain ⟨rfl, rfl⟩ := he
  have hkl : k < l.length := (List.getElem?_eq_some_iff.1 hu).1
  have hk6 : k < 6 := by omega
  have hfit := unit_fits (hok u (List.mem_of_getElem? hu))
  obtain ⟨hfl, _, _, hel, _, hef, _⟩ := hfit
  have hah := aheadF_le (fun u hu => (unit_fits (hok u hu)).1) k
  have HAS := hide (aheadF_succ hu)
  have HTS := hide (tgtL_succ hu)
  have HSS : Hid (∀ s, twiceU (seenAt l k) u.exports = some s → seenAt l (k + 1) = s) := hide (fun s e => by rw [seenAt, hu]; simp [e])
  obtain ⟨n0, hn0, hM⟩ := hI.mp
  have hmV := hM.lt
  have hnV := World.block_lt_of_cell? V _ hI.cn
  have hfV := World.block_lt_of_cell? V _ hI.cf
  have HC := hide hc5
  have HC3 := hide hc3
  have HEF := hide hef
  have HI := hide hI
  have HM := hide hM
  unfold maxLen at hm5 hm3
  have HY := hide (Why.new (V.alloc (.cells #[.slice a1 u.shapes.length c1, .slice a2 u.consts.length c2, .slice a3 u.funcs.length c3, .slice a4 u.imports.length c4, .slice a5 u.exports.length c5] 28)) 6 (k : Int) 83)
  have HGV := hide (((Gr.refl V).alloc (.cells #[.slice a1 u.shapes.length c1, .slice a2 u.consts.length c2, .slice a3 u.funcs.length c3, .slice a4 u.imports.length c4, .slice a5 u.exports.length c5] 28)).alloc (.cells #[.int .i64 6, .int .i64 0, .int .i64 (k : Int)] 83))
  have hb0 := heap_alloc_new V (.cells #[.slice a1 u.shapes.length c1, .slice a2 u.consts.length c2, .slice a3 u.funcs.length c3, .slice a4 u.imports.length c4, .slice a5 u.exports.length c5] 28)
  have HUC : Hid (((V.alloc (.cells #[.slice a1 u.shapes.length c1, .slice a2 u.consts.length c2, .slice a3 u.funcs.length c3, .slice a4 u.imports.length c4, .slice a5 u.exports.length c5] 28)).alloc (.cells #[.int .i64 6, .int .i64 0, .int .i64 (k : Int)] 83)).cell? ⟨V.heap.size, 2, none⟩ = some (.slice a3 u.funcs.length c3)) := hide (((Gr.refl _).alloc _ : Gr _ _).cell (by rw [hcell_ hb0]; rfl) (by simp))
  have hbb : (V.alloc (.cells #[.slice a1 u.shapes.length c1, .slice a2 u.consts.length c2, .slice a3 u.funcs.length c3, .slice a4 u.imports.length c4, .slice a5 u.exports.length c5] 28)).heap.size = V.heap.size + 1 := by simp
  rw [hbb] at HY
  have hsz1 : ((V.alloc (.cells #[.slice a1 u.shapes.length c1, .slice a2 u.consts.length c2, .slice a3 u.funcs.length c3, .slice a4 u.imports.length c4, .slice a5 u.exports.length c5] 28)).alloc (.cells #[.int .i64 6, .int .i64 0, .int .i64 (k : Int)] 83)).heap.size = V.heap.size + 2 := by simp
  clear hI hR hu hc5 hbb hM hc3 hb0 hok hef
  go_enter Tryd.func143, Tryd.ntmps143
  go_wp2_with fail
  generalize (V.alloc (.cells #[.slice a1 u.shapes.length c1, .slice a2 u.consts.length c2, .slice a3 u.funcs.length c3, .slice a4 u.imports.length c4, .slice a5 u.exports.length c5] 28)).alloc (.cells #[.int .i64 6, .int .i64 0, .int .i64 (k : Int)] 83) = W1 at HY HGV HUC hsz1 ⊢
  have hyb : ¬ V.heap.size + 1 = mb := by omega
  have hub : ¬ V.heap.size = mb := by omega
  obtain ⟨yb, hybe⟩ : ∃ yb, V.heap.size + 1 = yb := ⟨_, rfl⟩
  rw [hybe] at HY hyb ⊢
  generalize hube : V.heap.size = ub at hub HUC ⊢
  have HSZ := hide (And.intro hybe (And.intro hube hsz1))
  clear hybe hube hsz1
  generalize hN0 : tgtL 0 (l.take k) (fun _ => none) = N0 at HM HTS
  generalize hS0 : seenAt l k = S0 at HSS ⊢
  have HS0 : Hid (∀ s, s ∈ S0 ↔ (N0 s).isSome = true) := hide (by rw [← hN0, ← hS0]; exact HI.out.sn)
  generalize hF0 : aheadF l k = F0 at hah HAS HTS
  have HF0 := hide (And.intro hN0 (And.intro hS0 hF0))
  clear hN0 hS0 hF0
  go_loopw [13] (fun i wr => ∃ (j : Nat) (S' : List (List UInt8)) (N' : List UInt8 → Option (PFunc × Int)), i = .int .i64 (j : Int) ∧ j ≤ u.exports.length ∧ twiceU S0 u.exports = twiceU S' (u.exports.drop j) ∧ tgtU u F0 u.exports N0 = tgtU u F0 (u.exports.drop j) N' ∧ (∀ s, s ∈ S' ↔ (N' s).isSome = true) ∧ MapT W wr mb (n0 + j) N' ∧ W1.grownBy wr (some mb)) (fun i _ => u.exports.length - (intOf i).toNat)
  case atStart => exact ⟨0, S0, N0, rfl, Nat.zero_le _, rfl, rfl, HS0.out, HM.out.gr HGV.out, gr_by (Gr.refl _)⟩
  case round =>
    obtain ⟨j, S', N', rfl, hj, hS, hN, hSN, hMw, hgr⟩ := hrel
    have HS := hide hS
    have HN := hide hN
    have HSN := hide hSN
    have HMw := hide hMw
    have HGR := hide hgr
    have HGW : Hid (Gr W wr) := hide (gr_big (HI.out.gr.trans HGV.out) hgr HI.out.mb0)
    have cn := hgr.cell (HGV.out.cell HI.out.cn (by simp)) (by simp; exact HI.out.nm)
    have cu := hgr.cell HUC.out (by simp; exact hub)
    have cf := hgr.cell (HGV.out.cell HI.out.cf (by simp)) (by simp; exact HI.out.fm)
    rw [HF0.out.2.2] at cf
    have HYw : Hid (Why wr yb 6 (k : Int)) := hide ⟨hgr.cell HY.out.1 (by simp; exact hyb), hgr.cell HY.out.2.1 (by simp; exact hyb), hgr.cell HY.out.2.2 (by simp; exact hyb)⟩
    clear hS hN hSN hMw
    by_cases hlt : j < u.exports.length
    · obtain ⟨x, hx⟩ := getElem?_lt hlt
      obtain ⟨b, off, vs, rfl, k0, k1, ⟨s, rfl, hs, hsz⟩⟩ := HC.out j x hx
      have hxe := HEF.out x (List.mem_of_getElem? hx)
      obtain ⟨q, hq⟩ : ∃ q : Nat, x.func = (q : Int) := ⟨x.func.toNat, by omega⟩
      rw [hq] at k1 hxe
      have hqi : (q : Int) < (u.funcs.length : Int) := hxe.2
      have hqn : q < u.funcs.length := by omega
      obtain ⟨g, hgq⟩ := getElem?_lt hqn
      obtain ⟨fb3, off3, vp, vl, vc, rfl, f0, f1, f2, f3, rp, rl, rc⟩ := HC3.out q g hgq
      obtain ⟨pp, pc, rfl⟩ := rp.shape
      obtain ⟨lp, lc, rfl⟩ := rl.shape
      obtain ⟨xp, xc, rfl⟩ := rc.shape
      have HB3 := hide (World.block_lt_of_cell? W _ f0)
      have HTV : Hid (TgtV W (.agg #[.slice pp g.params.length pc, .int .i64 g.result, .slice lp g.locals.length lc, .slice xp g.code.length xc, .int .i64 ((F0 : Int) + (q : Int))]) g ((F0 : Int) + (q : Int))) := hide ⟨_, _, _, _, _, _, _, _, rfl, rp⟩
      have k0 := HGW.out.cell k0 (by simp)
      have k1 := HGW.out.cell k1 (by simp)
      have HF := hide (And.intro (HGW.out.cell f0 (by simp)) (And.intro (HGW.out.cell f1 (by simp)) (And.intro (HGW.out.cell f2 (by simp)) (HGW.out.cell f3 (by simp)))))
      have hji : (j : Int) < (u.exports.length : Int) := by omega
      have hw : IntKind.i64.wrap ((j : Int) + 1) = (j : Int) + 1 := Go.IntWalk.i64_in _ (by omega)
      have hwf : IntKind.i64.wrap ((F0 : Int) + (q : Int)) = (F0 : Int) + (q : Int) := Go.IntWalk.i64_in _ (by omega)
      have hga := (Gr.refl wr).alloc (.cells #[.string s, .int .i64 (q : Int)] 81)
      have HBA := hide (heap_alloc_new wr (.cells #[.string s, .int .i64 (q : Int)] 81))
      have cn2 := hga.cell cn (by simp)
      have HD : Hid (u.exports.drop j = x :: u.exports.drop (j + 1)) := hide (by
        rw [List.drop_eq_getElem_cons hlt]
        have : u.exports[j] = x := by rw [List.getElem?_eq_getElem hlt] at hx; exact Option.some.inj hx
        rw [this])
      clear rp rl rc f0 f1 f2 f3 hx
      rcases HMw.out.find s hsz with ⟨e1, e2, _⟩ | ⟨g', kk, v, e1, e2, e3, _⟩
      · have hlk := e2 _ hga
        have hgb := hga.alloc (.cells #[.slice none 0 0, .int .i64 0, .slice none 0 0, .slice none 0 0, .int .i64 0] 210)
        obtain ⟨y0, y1, y2⟩ := HYw.out.gr hgb
        have HNS : Hid (¬ x.name ∈ S') := hide (fun c => by rw [HSN.out, ← hs, e1] at c; cases c)
        have HGB := hide hgb
        have HHS := hide hs
        have HHZ := hide hsz
        have HQ := hide hq
        have HGQ := hide hgq
        have HGA2 : Hid (Gr (wr.alloc (.cells #[.string s, .int .i64 (q : Int)] 81)) ((wr.alloc (.cells #[.string s, .int .i64 (q : Int)] 81)).alloc (.cells #[.slice none 0 0, .int .i64 0, .slice none 0 0, .slice none 0 0, .int .i64 0] 210))) := hide ((Gr.refl _).alloc _)
        have HCW := hide (And.intro cn (And.intro cu cf))
        unfold zTgt at hlk
        clear e1 e2 hs hsz hga hgb hq hgq hgr cn cu cf
        go_wp2_with fail
        refine (unless_yes _ _ _).mono ?_
        rintro z w3 ⟨rfl, hg3⟩
        have KS : Hid (∀ w', Gr w3 w' → w'.cell? ⟨nb, 0, none⟩ = some (.map (some mb)) ∧ w'.cell? ⟨ub, 2, none⟩ = some (.slice (some ⟨fb3, off3, none⟩) u.funcs.length c3) ∧ w'.cell? ⟨fb, 0, none⟩ = some (.int .i64 (F0 : Int)) ∧ w'.cell? ⟨wr.heap.size, 0, none⟩ = some (.string s) ∧ w'.cell? ⟨wr.heap.size, 1, none⟩ = some (.int .i64 (q : Int)) ∧ w'.cell? ⟨fb3, off3 + q * 4, none⟩ = some (.slice pp g.params.length pc) ∧ w'.cell? ⟨fb3, off3 + q * 4 + 1, none⟩ = some (.int .i64 g.result) ∧ w'.cell? ⟨fb3, off3 + q * 4 + 2, none⟩ = some (.slice lp g.locals.length lc) ∧ w'.cell? ⟨fb3, off3 + q * 4 + 3, none⟩ = some (.slice xp g.code.length xc)) := hide (fun w' g => by
          have g0 := hg3.trans g
          have g1 := HGB.out.trans g0
          have e0 : w'.heap[wr.heap.size]? = _ := ((HGA2.out.trans g0).block wr.heap.size (by simp) (by simp)).trans HBA.out
          obtain ⟨p1, p2, p3⟩ := HCW.out
          obtain ⟨f0, f1, f2, f3⟩ := HF.out
          exact ⟨g1.cell p1 (by simp), g1.cell p2 (by simp), g1.cell p3 (by simp), by rw [hcell_ e0]; rfl, by rw [hcell_ e0]; rfl, g1.cell f0 (by simp), g1.cell f1 (by simp), g1.cell f2 (by simp), g1.cell f3 (by simp)⟩)
        obtain ⟨w5, hst, hM5, hg5⟩ := ((HMw.out.gr (HGB.out.trans hg3)).gr (Gr.drew (Gr.refl w3))).put s HHZ.out (by omega) HTV.out
        have HM5 := hide hM5
        have HG5 := hide (by_trans HGR.out (by_trans (gr_by ((HGB.out.trans hg3).trans (Gr.drew (Gr.refl w3)))) hg5))
        have KS5 : Hid (w5.cell? ⟨nb, 0, none⟩ = some (.map (some mb)) ∧ w5.cell? ⟨ub, 2, none⟩ = some (.slice (some ⟨fb3, off3, none⟩) u.funcs.length c3) ∧ w5.cell? ⟨fb, 0, none⟩ = some (.int .i64 (F0 : Int)) ∧ w5.cell? ⟨wr.heap.size, 0, none⟩ = some (.string s) ∧ w5.cell? ⟨wr.heap.size, 1, none⟩ = some (.int .i64 (q : Int)) ∧ w5.cell? ⟨fb3, off3 + q * 4, none⟩ = some (.slice pp g.params.length pc) ∧ w5.cell? ⟨fb3, off3 + q * 4 + 1, none⟩ = some (.int .i64 g.result) ∧ w5.cell? ⟨fb3, off3 + q * 4 + 2, none⟩ = some (.slice lp g.locals.length lc) ∧ w5.cell? ⟨fb3, off3 + q * 4 + 3, none⟩ = some (.slice xp g.code.length xc)) := hide (by
          obtain ⟨q1, q2, q3, q4, q5, q6, q7, q8, q9⟩ := KS.out _ (Gr.drew (Gr.refl w3))
          have hb3 : ¬ fb3 = mb := by have := HB3.out; have := HI.out.mb0; omega
          have hbw : ¬ wr.heap.size = mb := by have := HMw.out.lt; omega
          exact ⟨hg5.cell q1 (by simp; exact HI.out.nm), hg5.cell q2 (by simp; exact hub), hg5.cell q3 (by simp; exact HI.out.fm), hg5.cell q4 (by simp; exact hbw), hg5.cell q5 (by simp; exact hbw), hg5.cell q6 (by simp; exact hb3), hg5.cell q7 (by simp; exact hb3), hg5.cell q8 (by simp; exact hb3), hg5.cell q9 (by simp; exact hb3)⟩)
        clear hg3 hlk y0 y1 y2 k0 k1 HGB hM5 HGA2 HCW HF
        go_upto_region 6 with fail
        refine wp_region_held_drew (S := (fun w' => w'.cell? ⟨nb, 0, none⟩ = some (.map (some mb)) ∧ w'.cell? ⟨ub, 2, none⟩ = some (.slice (some ⟨fb3, off3, none⟩) u.funcs.length c3) ∧ w'.cell? ⟨fb, 0, none⟩ = some (.int .i64 (F0 : Int)) ∧ w'.cell? ⟨wr.heap.size, 0, none⟩ = some (.string s) ∧ w'.cell? ⟨wr.heap.size, 1, none⟩ = some (.int .i64 (q : Int)) ∧ w'.cell? ⟨fb3, off3 + q * 4, none⟩ = some (.slice pp g.params.length pc) ∧ w'.cell? ⟨fb3, off3 + q * 4 + 1, none⟩ = some (.int .i64 g.result) ∧ w'.cell? ⟨fb3, off3 + q * 4 + 2, none⟩ = some (.slice lp g.locals.length lc) ∧ w'.cell? ⟨fb3, off3 + q * 4 + 3, none⟩ = some (.slice xp g.code.length xc))) (by kernel_rfl) (KS.out _ (Gr.drew (Gr.refl _))) (fun hHeld => ?_)
        refine takeL (i := 0) (v := ?av0) rfl (by kernel_rfl) (by kernel_rfl) (by kernel_rfl) (by intro c a w h; exact h) (by rfl) ?ahy0 hHeld ?arest0
        case ahy0 => (intro w hSw; (try dsimp only at hSw); go_simp <;> with_reducible rfl)
        simp only [Act.put, List.setIfInBounds_toArray, List.set_cons_zero, List.set_cons_succ]
        refine takeL (i := 1) (v := ?av1) rfl (by kernel_rfl) (by kernel_rfl) (by kernel_rfl) (by intro c a w h; exact h) (by rfl) ?ahy1 hHeld ?arest1
        case ahy1 => (intro w hSw; (try dsimp only at hSw); go_simp <;> with_reducible rfl)
        simp only [Act.put, List.setIfInBounds_toArray, List.set_cons_zero, List.set_cons_succ]
        refine takeL (i := 2) (v := ?av2) rfl (by kernel_rfl) (by kernel_rfl) (by kernel_rfl) (by intro c a w h; exact h) (by rfl) ?ahy2 hHeld ?arest2
        case ahy2 => (intro w hSw; (try dsimp only at hSw); go_simp <;> with_reducible rfl)
        simp only [Act.put, List.setIfInBounds_toArray, List.set_cons_zero, List.set_cons_succ]
        refine takeL (i := 3) (v := ?av3) rfl (by kernel_rfl) (by kernel_rfl) (by kernel_rfl) (by intro c a w h; exact h) (by rfl) ?ahy3 hHeld ?arest3
        case ahy3 => (intro w hSw; (try dsimp only at hSw); go_simp <;> with_reducible rfl)
        simp only [Act.put, List.setIfInBounds_toArray, List.set_cons_zero, List.set_cons_succ]
        refine takeL (i := 4) (v := ?av4) rfl (by kernel_rfl) (by kernel_rfl) (by kernel_rfl) (by intro c a w h; exact h) (by rfl) ?ahy4 hHeld ?arest4
        case ahy4 => (intro w hSw; (try dsimp only at hSw); go_simp <;> with_reducible rfl)
        simp only [Act.put, List.setIfInBounds_toArray, List.set_cons_zero, List.set_cons_succ]
        refine takeL (i := 5) (v := ?av5) rfl (by kernel_rfl) (by kernel_rfl) (by kernel_rfl) (by intro c a w h; exact h) (by rfl) ?ahy5 hHeld ?arest5
        case ahy5 => (intro w hSw; (try dsimp only at hSw); go_simp <;> with_reducible rfl)
        simp only [Act.put, List.setIfInBounds_toArray, List.set_cons_zero, List.set_cons_succ]
        refine takeL (i := 6) (v := ?av6) rfl (by kernel_rfl) (by kernel_rfl) (by kernel_rfl) (by intro c a w h; exact h) (by rfl) ?ahy6 hHeld ?arest6
        case ahy6 => (intro w hSw; (try dsimp only at hSw); go_simp <;> with_reducible rfl)
        simp only [Act.put, List.setIfInBounds_toArray, List.set_cons_zero, List.set_cons_succ]
        refine takeL (i := 7) (v := ?av7) rfl (by kernel_rfl) (by kernel_rfl) (by kernel_rfl) (by intro c a w h; exact h) (by rfl) ?ahy7 hHeld ?arest7
        case ahy7 => (intro w hSw; (try dsimp only at hSw); go_simp <;> with_reducible rfl)
        simp only [Act.put, List.setIfInBounds_toArray, List.set_cons_zero, List.set_cons_succ]
        refine takeL (i := 8) (v := ?av8) rfl (by kernel_rfl) (by kernel_rfl) (by kernel_rfl) (by intro c a w h; exact h) (by rfl) ?ahy8 hHeld ?arest8
        case ahy8 => (intro w hSw; (try dsimp only at hSw); go_simp <;> with_reducible rfl)
        simp only [Act.put, List.setIfInBounds_toArray, List.set_cons_zero, List.set_cons_succ]
        refine takeL (i := 9) (v := ?av9) rfl (by kernel_rfl) (by kernel_rfl) (by kernel_rfl) (by intro c a w h; exact h) (by rfl) ?ahy9 hHeld ?arest9
        case ahy9 => (intro w hSw; (try dsimp only at hSw); go_simp <;> with_reducible rfl)
        simp only [Act.put, List.setIfInBounds_toArray, List.set_cons_zero, List.set_cons_succ]
        refine takeL (i := 10) (v := ?av10) rfl (by kernel_rfl) (by kernel_rfl) (by kernel_rfl) (by intro c a w h; exact h) (by rfl) ?ahy10 hHeld ?arest10
        case ahy10 => (intro w hSw; (try dsimp only at hSw); go_simp <;> with_reducible rfl)
        simp only [Act.put, List.setIfInBounds_toArray, List.set_cons_zero, List.set_cons_succ]
        refine takeL (i := 11) (v := ?av11) rfl (by kernel_rfl) (by kernel_rfl) (by kernel_rfl) (by intro c a w h; exact h) (by rfl) ?ahy11 hHeld ?arest11
        case ahy11 => (intro w hSw; (try dsimp only at hSw); go_simp <;> with_reducible rfl)
        simp only [Act.put, List.setIfInBounds_toArray, List.set_cons_zero, List.set_cons_succ]
        refine takeL (i := 12) (v := ?av12) rfl (by kernel_rfl) (by kernel_rfl) (by kernel_rfl) (by intro c a w h; exact h) (by rfl) ?ahy12 hHeld ?arest12
        case ahy12 => (intro w hSw; (try dsimp only at hSw); go_simp <;> with_reducible rfl)
        simp only [Act.put, List.setIfInBounds_toArray, List.set_cons_zero, List.set_cons_succ]
        refine takeL (i := 13) (v := ?av13) rfl (by kernel_rfl) (by kernel_rfl) (by kernel_rfl) (by intro c a w h; exact h) (by rfl) ?ahy13 hHeld ?arest13
        case ahy13 => (intro w hSw; (try dsimp only at hSw); go_simp <;> with_reducible rfl)
        simp only [Act.put, List.setIfInBounds_toArray, List.set_cons_zero, List.set_cons_succ]
        refine aloneL (i := 14) rfl (by kernel_rfl) (fun K hK => ?_)
        refine want_yes (by rfl) ?_
        go_simp
        refine hK.out _ _ (KS5.out) (fun hHeld => ?_)
        clear hK
        try simp only [Act.put, List.setIfInBounds_toArray, List.set_cons_zero, List.set_cons_succ]
        refine wpAnyH_done (by kernel_rfl) ?_ _
        clear KS hst hHeld HBA hg5 KS5
        go_wp2_with fail
        refine ⟨⟨j + 1, x.name :: S', _, by simp, hlt, ?_, ?_, ?_, HM5.out, HG5.out⟩, by simp [intOf]; omega⟩
        · rw [HS.out, HD.out, twiceU, if_neg HNS.out]
        · rw [HN.out, HD.out, tgtU]
          congr 1
          funext y
          rw [HQ.out, Int.toNat_natCast, HGQ.out, HHS.out]
          rfl
        · intro y
          rw [List.mem_cons, HSN.out]
          by_cases e : y = x.name
          · simp [e, HHS.out]
          · simp [e, HHS.out]
      · obtain ⟨tp, tcp, tl, tnl, tcl, tc, tnc, tcc, rfl, _⟩ := e2
        have hlk := e3 _ hga
        have hgb := hga.alloc (.cells #[.slice tp g'.params.length tcp, .int .i64 g'.result, .slice tl tnl tcl, .slice tc tnc tcc, .int .i64 kk] 210)
        obtain ⟨y0, y1, y2⟩ := HYw.out.gr hgb
        have HNS : Hid (x.name ∈ S') := hide (by rw [HSN.out, ← hs, e1]; rfl)
        have HGB := hide hgb
        clear e1 e3 hs hsz hga hgb hq hgq hgr cf cu
        go_wp2_with fail
        refine (unless_no _ _ _).mono ?_
        rintro z w3 ⟨rfl, hg3⟩
        refine ⟨rfl, .inr ⟨?_, rfl, ?_⟩⟩
        · show (twiceU (seenAt l k) u.exports).isNone = true
          rw [HF0.out.2.1, HS.out, HD.out, twiceU, if_pos HNS.out]; rfl
        · exact HGW.out.trans (HGB.out.trans hg3)
    · have hjj : j = u.exports.length := by omega
      subst hjj
      have HE1 : Hid (twiceU S0 u.exports = some S') := hide (by rw [HS.out, List.drop_length]; rfl)
      have HE2 : Hid (tgtU u F0 u.exports N0 = N') := hide (by rw [HN.out, List.drop_length]; rfl)
      have hzf : wr.frozen? ⟨fb, 0, none⟩ = false := (World.frozen?_of_block (a := ⟨fb, 0, none⟩) ((hgr.block fb (by have := HGV.out.size; omega) (by simp; exact HI.out.fm)).trans (HGV.out.block fb hfV (by simp)))).trans HI.out.zf
      have hwf : IntKind.i64.wrap ((F0 : Int) + (u.funcs.length : Int)) = (F0 : Int) + (u.funcs.length : Int) := Go.IntWalk.i64_in _ (by omega)
      have HCF := hide cf
      have HCN := hide cn
      have HZF := hide hzf
      clear hlt hj hgr cn
      go_wp2_with fail
      go_end0
      refine .inl ⟨by rw [HF0.out.2.1, HE1.out]; rfl, rfl, ?_⟩
      refine ⟨gr_put1 HGW.out HI.out.fb0, HI.out.nb0, HI.out.fb0, HI.out.mb0, HI.out.nf, HI.out.nm, HI.out.fm, ?_, ?_, ?_, ?_, ?_⟩
      · rw [World.cell?_setCell_other _ _ _ _ (by intro e; simp only [Addr.mk.injEq] at e; exact HI.out.nf e.1.symm)]; exact HCN.out
      · rw [World.cell?_setCell_same _ _ _ HCF.out, HAS.out]; simp
      · rw [World.frozen?_setCell]; exact HZF.out
      · refine ⟨n0 + u.exports.length, by omega, ?_⟩
        rw [HTS.out, HE2.out]
        exact HMw.out.kept (Below.heap_setCell _ _ _ _ (by show mb ≠ fb; exact fun e => HI.out.fm e.symm))
      · rw [HTS.out, HE2.out, HSS.out S' HE1.out]
        exact HSN.out
def ExpR (W : World) (l : List PUnit) (x : Ending) (w' : World) : Prop := Gr W w' ∧ match twiceP [] 0 l with
  | none => ∃ mb n, x = .returned (.map (some mb)) ∧ MapT W w' mb n (tgtL 0 l fun _ => none)
  | some k => x = .panicked (thrown 6 (k : Int))
theorem Tryd.callExp1 (vu vr v1 v2 : Value) (w : World) : (callFunc 143 (#[] ++ (#[vu, vr] ++ #[v1, v2]))).run Tryd.prog w = .ok (.enter 143 (#[] ++ (#[vu, vr] ++ #[v1, v2]))) w := by kernel_rfl

theorem Tryd.mkMapT (w : World) : (Instr.makeMap 161 none).run Tryd.prog w = .ok (.map (some w.heap.size)) (w.alloc (.map #[] 0)) := by kernel_rfl
set_option maxRecDepth 100000 in
set_option maxHeartbeats 2000000 in
theorem exported_any (W : World) (l : List PUnit) (vl : Value) (hR : RUnits W vl l) (hl6 : l.length ≤ 6) (hok : ∀ u ∈ l, unitOk u = true) :
    Calls Tryd.prog 102 #[vl] W (ExpR W l) := by
  have hmf : ∀ (fn : Fn) (first cap : Array Value) (w : World), (Instr.makeFunc fn first cap).run Tryd.prog w = .ok (.func fn first cap) w := fun _ _ _ _ => rfl
  obtain ⟨al, cl, rfl⟩ := hR.shape
  have HR := hide hR
  have HOK := hide hok
  clear hR hok
  have hmm := fun (w : World) => Tryd.mkMapT w
  go_enter Tryd.func102, Tryd.ntmps102
  go_wp2_with fail
  have g1 := (((Gr.refl W).alloc (.map #[] 0)).alloc (.cells #[.map (some W.heap.size)] 161)).alloc (.cells #[.int .i64 0] 3)
  have hI0 : ExI W (W.heap.size + 1) (W.heap.size + 1 + 1) W.heap.size l 0 (((W.alloc (.map #[] 0)).alloc (.cells #[.map (some W.heap.size)] 161)).alloc (.cells #[.int .i64 0] 3)) := by
    have h0 := heap_alloc_new W (.map #[] 0)
    have h1 := heap_alloc_new (W.alloc (.map #[] 0)) (.cells #[.map (some W.heap.size)] 161)
    have h2 := heap_alloc_new ((W.alloc (.map #[] 0)).alloc (.cells #[.map (some W.heap.size)] 161)) (.cells #[.int .i64 0] 3)
    have s1 : (W.alloc (.map #[] 0)).heap.size = W.heap.size + 1 := by simp
    have s2 : ((W.alloc (.map #[] 0)).alloc (.cells #[.map (some W.heap.size)] 161)).heap.size = W.heap.size + 1 + 1 := by simp
    rw [s1] at h1
    rw [s2] at h2
    have ga := (Gr.refl ((W.alloc (.map #[] 0)).alloc (.cells #[.map (some W.heap.size)] 161))).alloc (.cells #[.int .i64 0] 3)
    have gb := (Gr.refl (W.alloc (.map #[] 0))).alloc (.cells #[.map (some W.heap.size)] 161)
    refine ⟨g1, by omega, by omega, by omega, by omega, by omega, by omega, ga.cell (by rw [hcell_ h1]; rfl) (by simp), ?_, ?_, ⟨0, by omega, ⟨fun _ => none, (MapS.made W).kept ?_, fun s => .inl ⟨rfl, rfl⟩⟩⟩, fun s => by simp [seenAt, tgtL]⟩
    · rw [hcell_ h2]; simp [aheadF]
    · exact hfrozen_ h2
    · exact (gb.trans ga).block _ (by rw [s1]; omega) (by simp)
  have HFT := hide (first_twice l l.length 0 (by omega))
  refine (each_any 143 #[] #[.pointer (some ⟨W.heap.size + 1, 0, none⟩), .pointer (some ⟨W.heap.size + 1 + 1, 0, none⟩)] (fun vu vr w => Tryd.callExp1 vu vr _ _ w) 6 l (.slice al l.length cl) _ _ _ W _ HR.out (fun k V h => h.gr) (fun k V V' h g => h.step g) hI0 (ask_twice W l _ _ _ hl6 HOK.out) (by omega) ⟨_, _, rfl⟩).mono ?_
  intro x w2 hx
  rw [List.drop_zero] at HFT
  rw [HFT.out] at hx
  have e0 : seenAt l 0 = [] := rfl
  rw [e0] at hx
  cases hp : twiceP [] 0 l with
  | none =>
    rw [hp] at hx
    obtain ⟨rfl, hI⟩ := hx
    obtain ⟨n, _, hm⟩ := hI.mp
    rw [List.take_length] at hm
    have HM := hide hm
    have HG := hide hI.gr
    have cn := hI.cn
    have HP := hide hp
    clear hI hI0 hm hp HFT g1 hmm hmf
    go_wp2_with fail
    go_ret
    refine ⟨HG.out, ?_⟩
    rw [HP.out]
    exact ⟨_, n, rfl, HM.out⟩
  | some k =>
    rw [hp] at hx
    obtain ⟨rfl, hb⟩ := hx
    refine ⟨rfl, hb, ?_⟩
    rw [hp]
end Go.Proofs.YtkgncijcnlfhiaaDoor

