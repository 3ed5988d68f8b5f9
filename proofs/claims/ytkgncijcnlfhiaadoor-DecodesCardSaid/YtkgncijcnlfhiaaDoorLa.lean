import Derived.Deep.Cut
import Derived.Deep.CutRange
import Derived.Test.YtkgncijcnlfhiaaDoorL9
namespace Go.Proofs.YtkgncijcnlfhiaaDoor
set_option linter.unusedVariables false
set_option linter.unusedSimpArgs false
open Go.RowKit
attribute [local go_sem ↓] Go.wp_at_zero Go.wp_at_succ
theorem Tryd.infInsL : (Tryd.prog.info? 91).map (fun i => (i.zero, i.size, i.bytes)) = some (some (.agg #[.int .i64 0, .int .i64 0, .int .i64 0]), 3, 24) := by kernel_rfl
theorem FnW.put {V w w3 : World} {H rb fb : Nat} {s : ByteArray} {x0 x1 x2 vc v3 : Value} {c : List PIns} {r : List UInt8} {bad : Bool} {i : PIns} (h : FnW V H rb fb s x0 x1 x2 c vc r bad w) (hap : Ap H 91 3 w vc w3 v3 (c.length + 1) (c.flatMap lC ++ #[.int .i64 i.op, .int .i64 i.a, .int .i64 i.b].toList)) : Box4 w3 fb x0 x1 x2 vc ∧ FnW V H rb fb s x0 x1 x2 (c ++ [i]) v3 r bad (w3.setCell ⟨fb, 3, none⟩ v3) := by
  have hlt := h.lt
  have hs := h.hs
  have old : ∀ b, b < H → w3.heap[b]? = w.heap[b]? := fun b hb => hap.frm.block b (by omega) (fun e => by have := lown_ge h.ow _ e.symm; omega)
  have hb4 : Box4 w3 fb x0 x1 x2 vc := by
    obtain ⟨h0, h1, h2, h3, z0, z1, z2, z3⟩ := h.bx
    have hc : ∀ j, w3.cell? ⟨fb, j, none⟩ = w.cell? ⟨fb, j, none⟩ := fun j => World.cell?_of_block (old fb hlt.2.1)
    have hz : ∀ j, w3.frozen? ⟨fb, j, none⟩ = w.frozen? ⟨fb, j, none⟩ := fun j => World.frozen?_of_block (old fb hlt.2.1)
    exact ⟨(hc 0).trans h0, (hc 1).trans h1, (hc 2).trans h2, (hc 3).trans h3, (hz 0).trans z0, (hz 1).trans z1, (hz 2).trans z2, (hz 3).trans z3⟩
  have oth : ∀ b, ¬ b = fb → (w3.setCell ⟨fb, 3, none⟩ v3).heap[b]? = w3.heap[b]? := fun b hb => Below.heap_setCell _ _ _ _ hb
  refine ⟨hb4, hlt, hb4.set3 v3, fun b hb h1 h2 => (oth b h2).trans ((old b hb).trans (h.low b hb h1 h2)), by have := hap.frm.size; simp; omega, ?_, ?_, by show w3.os = V.os ∧ w3.tape = V.tape ∧ w3.output = V.output; rw [hap.frm.os, hap.frm.tape, hap.frm.output]; exact h.env⟩
  · rw [List.length_append, List.flatMap_append]
    refine lown_same (w := w3) ?_ (fun k hk => oth k (by have := lown_ge hap.own k hk; omega))
    simpa [lC] using hap.own
  · obtain ⟨q, h1, h2⟩ := h.ls
    exact ⟨q, ⟨(oth rb hlt.2.2).trans ((old rb hlt.1).trans h1.1), h1.2⟩, h2⟩
set_option maxRecDepth 100000 in
set_option maxHeartbeats 4000000 in
theorem function_ls (rb : Nat) (s : ByteArray) (r : List UInt8) (bad : Bool) (w : World) (h : LsR w rb s r bad) (ht : Tab w) (h0 : ¬ rb = 0) :
    Calls Tryd.prog 96 #[.pointer (some ⟨rb, 0, none⟩)] w (Lsd rb s w (fun w' v (f : PFunc) => FnV w.heap.size w' v f) (lfunc r bad)) := by
  have hrb := h.lt
  have HT := hide ht
  have hg0 := (Gr.refl w).alloc (.cells #[.slice none 0 0, .int .i64 0, .slice none 0 0, .slice none 0 0] 76)
  have HB0 := hide (Box4.new w 76 (.slice none 0 0) (.int .i64 0) (.slice none 0 0) (.slice none 0 0))
  have HP := hide (list_ls rb s r bad _ (h.gr hg0))
  have HS : Hid (lfunc r bad = (⟨(llist r bad).1, (lsmall 65535 (llist (llist r bad).2.1 (llist r bad).2.2).2.1 (llist (llist r bad).2.1 (llist r bad).2.2).2.2).1, (llist (llist r bad).2.1 (llist r bad).2.2).1, (lcode (lsmall 200 (lsmall 65535 (llist (llist r bad).2.1 (llist r bad).2.2).2.1 (llist (llist r bad).2.1 (llist r bad).2.2).2.2).2.1 (lsmall 65535 (llist (llist r bad).2.1 (llist r bad).2.2).2.1 (llist (llist r bad).2.1 (llist r bad).2.2).2.2).2.2).1.toNat (lsmall 200 (lsmall 65535 (llist (llist r bad).2.1 (llist r bad).2.2).2.1 (llist (llist r bad).2.1 (llist r bad).2.2).2.2).2.1 (lsmall 65535 (llist (llist r bad).2.1 (llist r bad).2.2).2.1 (llist (llist r bad).2.1 (llist r bad).2.2).2.2).2.2).2.1 (lsmall 200 (lsmall 65535 (llist (llist r bad).2.1 (llist r bad).2.2).2.1 (llist (llist r bad).2.1 (llist r bad).2.2).2.2).2.1 (lsmall 65535 (llist (llist r bad).2.1 (llist r bad).2.2).2.1 (llist (llist r bad).2.1 (llist r bad).2.2).2.2).2.2).2.2).1⟩, (lcode (lsmall 200 (lsmall 65535 (llist (llist r bad).2.1 (llist r bad).2.2).2.1 (llist (llist r bad).2.1 (llist r bad).2.2).2.2).2.1 (lsmall 65535 (llist (llist r bad).2.1 (llist r bad).2.2).2.1 (llist (llist r bad).2.1 (llist r bad).2.2).2.2).2.2).1.toNat (lsmall 200 (lsmall 65535 (llist (llist r bad).2.1 (llist r bad).2.2).2.1 (llist (llist r bad).2.1 (llist r bad).2.2).2.2).2.1 (lsmall 65535 (llist (llist r bad).2.1 (llist r bad).2.2).2.1 (llist (llist r bad).2.1 (llist r bad).2.2).2.2).2.2).2.1 (lsmall 200 (lsmall 65535 (llist (llist r bad).2.1 (llist r bad).2.2).2.1 (llist (llist r bad).2.1 (llist r bad).2.2).2.2).2.1 (lsmall 65535 (llist (llist r bad).2.1 (llist r bad).2.2).2.1 (llist (llist r bad).2.1 (llist r bad).2.2).2.2).2.2).2.2).2)) := hide rfl
  generalize llist r bad = P at HP HS
  obtain ⟨p, r1, b1⟩ := P
  simp only at HS
  generalize hL : llist r1 b1 = L at HS
  obtain ⟨l, r2, b2⟩ := L
  simp only at HS
  generalize hQ : lsmall 65535 r2 b2 = Q at HS
  obtain ⟨q, r3, b3⟩ := Q
  simp only at HS
  have hbd := lsmall_bound 200 r3 b3
  generalize hN : lsmall 200 r3 b3 = N at HS hbd
  obtain ⟨n0, r4, b4⟩ := N
  simp only at HS hbd
  obtain ⟨n, rfl⟩ : ∃ n : Nat, n0 = (n : Int) := ⟨n0.toNat, by omega⟩
  have hn : n ≤ 200 := by omega
  simp only [Int.toNat_natCast] at HS
  have HL := hide hL
  have HQ := hide hQ
  have HN := hide hN
  clear h hbd ht hL hQ hN
  go_enter Tryd.func96, Tryd.ntmps96
  go_wp2_with fail
  refine HP.out.mono ?_
  rintro x w1 ⟨v1, rfl, hp, hl1, hg1⟩
  obtain ⟨ap, cp, rfl⟩ := lown_shape hp
  simp only at hl1 hp ⊢
  have hr1 := list_ls rb s r1 b1 w1 hl1
  rw [HL.out] at hr1
  have HR1 := hide hr1
  have HP1 := hide hp
  have HG1 := hide ((hg0.toGc (cb := rb)).trans hg1)
  have HB1 := hide (HB0.out.gc hg1 (by omega))
  have hs1 : w.heap.size < w1.heap.size := by have := hg1.size; simp at this; omega
  clear hr1 hp hl1 hg1 HP HB0 hg0
  go_wp2_with fail
  refine HR1.out.mono ?_
  rintro x w2 ⟨v2, rfl, hl, hl2, hg2⟩
  obtain ⟨al, cl, rfl⟩ := lown_shape hl
  simp only at hl2 hl ⊢
  have hr2 := small_ls 65535 (by decide) rb s r2 b2 w2 hl2
  rw [HQ.out] at hr2
  have HR2 := hide hr2
  have HP2 := hide (HP1.out.kept hg2 (.inr (by intro e; have := lown_ge HP1.out _ e; simp at this; omega)))
  have HL2 := hide hl
  have HG2 := hide (HG1.out.trans hg2)
  have HB2 := hide (HB1.out.gc hg2 (by omega))
  have hs2 : w1.heap.size ≤ w2.heap.size := hg2.size
  clear hr2 hl hl2 hg2 HR1 HP1 HG1 HB1
  go_wp2_with fail
  refine HR2.out.mono ?_
  rintro x w3 ⟨v3, rfl, rfl, hl3, hg3⟩
  simp only at hl3 ⊢
  have hg4 := (Gr.refl w3).alloc (.cells #[.slice ap p.length cp, .int .i64 q, .slice al l.length cl, .slice none 0 0] 76)
  have hr3 := small_ls 200 (by decide) rb s r3 b3 _ (hl3.gr hg4)
  rw [HN.out] at hr3
  have HR3 := hide hr3
  have HP3 := hide ((HP2.out.kept hg3 (.inr (by intro e; have := lown_ge HP2.out _ e; simp at this; omega))).kept (hg4.toGc (cb := rb)) (.inr (by intro e; have := lown_ge HP2.out _ e; simp at this; omega)))
  have HL3 := hide ((HL2.out.kept hg3 (.inr (by intro e; have := lown_ge HL2.out _ e; omega))).kept (hg4.toGc (cb := rb)) (.inr (by intro e; have := lown_ge HL2.out _ e; omega)))
  have HG3 := hide ((HG2.out.trans hg3).trans (hg4.toGc (cb := rb)))
  have HB3 := hide ((HB2.out.gc hg3 (by omega)).gc (hg4.toGc (cb := rb)) (by omega))
  have HF3 := hide (Box4.new w3 76 (.slice ap p.length cp) (.int .i64 q) (.slice al l.length cl) (.slice none 0 0))
  have hs3 : w2.heap.size ≤ w3.heap.size := hg3.size
  have HNP : Hid (¬ (Value.slice ap p.length cp).ownBlock = some w3.heap.size ∧ ¬ (Value.slice al l.length cl).ownBlock = some w3.heap.size) := hide ⟨fun e => by have := (lown_lt HP2.out _ e).2; omega, fun e => by have := (lown_lt HL2.out _ e).2; omega⟩
  clear hr3 hl3 hg3 hg4 HR2 HP2 HL2 HG2 HB2
  go_wp2_with fail
  refine HR3.out.mono ?_
  rintro x w5 ⟨v5, rfl, rfl, hl5, hg5⟩
  simp only at hl5 ⊢
  have HFS : Hid (FnS w rb w3.heap.size s (.slice ap p.length cp) (.slice al l.length cl) p l q w5) := hide ⟨HG3.out.trans hg5, ⟨by omega, by have := hg5.size; simp at this; omega⟩, hrb, HB3.out.gc hg5 (by omega), lown_mono (HP3.out.kept hg5 (.inr (by intro e; have := lown_ge HP3.out _ e; simp at this; omega))) (by simp), lown_mono (HL3.out.kept hg5 (.inr (by intro e; have := lown_ge HL3.out _ e; omega))) (by omega), HNP.out.1, HNP.out.2⟩
  have HI0 : Hid (FnW w5 w5.heap.size rb w3.heap.size s (.slice ap p.length cp) (.int .i64 q) (.slice al l.length cl) [] (.slice none 0 0) r4 b4 w5) := hide ⟨⟨by have := hg5.size; simp at this; omega, by have := hg5.size; simp at this; omega, by omega⟩, HF3.out.gc hg5 (by omega), fun _ _ _ _ => rfl, Nat.le_refl _, ⟨rfl, .inl ⟨rfl, rfl⟩⟩, hl5, rfl, rfl, rfl⟩
  have hgc : Gc rb w w5 := HG3.out.trans hg5
  have HTB : Hid (Tab w5) := hide (fun j hj => hgc.box (fun e => h0 e.symm) (HT.out j hj))
  clear hgc hl5 hg5 HR3 HP3 HL3 HG3 HB3 HF3 HNP HT HL HQ HN
  generalize w3.heap.size = fb at HFS HI0 ⊢
  clear hs1 hs2 hs3
  have HTA : Hid (∀ (W' : World) (c' : List PIns) (vc' : Value) (r' : List UInt8) (b' : Bool), FnW w5 w5.heap.size rb fb s (.slice ap p.length cp) (.int .i64 q) (.slice al l.length cl) c' vc' r' b' W' → Tab W') := hide (fun W' c' vc' r' b' hf j hj => (World.cell?_of_block (hf.low 0 (by have := HFS.out.hfb; omega) (fun e => h0 e.symm) (by have := HFS.out.hfb; omega))).trans (HTB.out j hj))
  clear HTB
  go_wp2_with fail
  go_loopw [7] (fun i wr => ∃ (k : Nat) (c : List PIns) (vc : Value) (rk : List UInt8) (bk : Bool), i = .int .i64 (k : Int) ∧ c.length + k ≤ 200 ∧ FnW w5 w5.heap.size rb fb s (.slice ap p.length cp) (.int .i64 q) (.slice al l.length cl) c vc rk bk wr ∧ lcode n r4 b4 = (c ++ (lcode k rk bk).1, (lcode k rk bk).2)) (fun i _ => (intOf i).toNat)
  case atStart => exact ⟨n, [], .slice none 0 0, r4, b4, rfl, by simpa using hn, HI0.out, by simp⟩
  case round =>
    clear HI0
    obtain ⟨k, c, vc, rk, bk, rfl, hck, hfw, hT⟩ := hrel
    obtain ⟨ac, cc, rfl⟩ := lown_shape hfw.ow
    have HFW := hide hfw
    have HTT := hide hT
    clear hfw hT
    by_cases hk : 0 < k
    · obtain ⟨j, rfl⟩ : ∃ j, k = j + 1 := ⟨k - 1, by omega⟩
      have HP := hide (next_ls rb s rk bk wr HFW.out.ls)
      have HLC : Hid (lcode (j + 1) rk bk = if 20 < (lnext rk bk).1 then ([], (lnext rk bk).2.1, true) else ((lins (lnext rk bk).1 (lnext rk bk).2.1 (lnext rk bk).2.2).1 :: (lcode j (lins (lnext rk bk).1 (lnext rk bk).2.1 (lnext rk bk).2.2).2.1 (lins (lnext rk bk).1 (lnext rk bk).2.1 (lnext rk bk).2.2).2.2).1, (lcode j (lins (lnext rk bk).1 (lnext rk bk).2.1 (lnext rk bk).2.2).2.1 (lins (lnext rk bk).1 (lnext rk bk).2.1 (lnext rk bk).2.2).2.2).2)) := hide rfl
      generalize lnext rk bk = L at HP HLC
      obtain ⟨o, r6, b6⟩ := L
      simp only at HLC
      go_wp2_with fail
      refine HP.out.mono ?_
      rintro x w6 ⟨v6, rfl, rfl, hl6, hg6⟩
      simp only at hl6 ⊢
      have hf6 := HFW.out.call hg6 hl6
      have HF7 := hide (hf6.gr ((Gr.refl w6).alloc (.cells #[.int .i64 (o : Int), .int .i64 0, .int .i64 0] 91)))
      have HI7 := hide (Box3.new w6 91 (.int .i64 (o : Int)) (.int .i64 0) (.int .i64 0))
      have hib : w5.heap.size ≤ w6.heap.size := hf6.hs
      have hvb : ¬ (Value.slice ac c.length cc).ownBlock = some w6.heap.size := fun e => by have := (lown_lt hf6.ow _ e).2; omega
      clear hf6 hl6 hg6 HP HFW
      go_upto_region 9 with fail
      generalize w6.alloc (.cells #[.int .i64 (o : Int), .int .i64 0, .int .i64 0] 91) = W7 at HF7 HI7 ⊢
      generalize w6.heap.size = ib at HI7 hib hvb ⊢
      obtain ⟨i0, i1, i2, y0, y1, y2⟩ := HI7.out
      by_cases ho : 20 < o
      · have ho1 : (o : Int) > 20 := by omega
        have ho2 : 20 < (o : Int) := by omega
        have HSE : Hid (lfunc r bad = (⟨p, q, l, c⟩, r6, true)) := hide (by rw [HS.out, HTT.out, HLC.out, if_pos ho]; simp)
        obtain ⟨z2, z3⟩ := HF7.out.ls.bad
        have HF8 := hide (HF7.out.call ((Gc.refl rb W7).set 2 (.bool true)) HF7.out.ls.spoil)
        obtain ⟨f0, f1, f2, f3, g0, g1, g2, g3⟩ := HF8.out.bx
        obtain ⟨m0, m1, m2, m3, n0, n1, n2, n3⟩ := HFS.out.res_ HF8.out
        have HE := hide (HFS.out.end_ HF8.out)
        have hB : Box4 (put4 (W7.setCell ⟨rb, 2, none⟩ (.bool true)) w.heap.size (.slice ap p.length cp) (.int .i64 q) (.slice al l.length cl) (.slice ac c.length cc)) w.heap.size (.slice ap p.length cp) (.int .i64 q) (.slice al l.length cl) (.slice ac c.length cc) := ((((HFS.out.res_ HF8.out).set0 (.slice ap p.length cp)).set1 (.int .i64 q)).set2 (.slice al l.length cl)).set3 (.slice ac c.length cc)
        have HB4 := hide hB
        unfold put4 at HE HB4
        clear hB
        go_wp2_with fail
        obtain ⟨c0, c1, c2, c3, _, _, _, _⟩ := HB4.out
        refine bodyPost_ret (v := .agg #[.slice ap p.length cp, .int .i64 q, .slice al l.length cl, .slice ac c.length cc]) (by simp [results, Tryd.results96, go_sem, c0, c1, c2, c3]) rfl ?_
        rw [HSE.out]
        exact ⟨_, rfl, HE.out.1, HE.out.2.1, HE.out.2.2⟩
      · have ho1 : ¬ (o : Int) > 20 := by omega
        have ho2 : ¬ 20 < (o : Int) := by omega
        have hj0 : (0 : Int) ≤ (o : Int) := by omega
        have hj2 : (o : Int) < 21 := by omega
        have ht := HTA.out _ _ _ _ _ HF7.out o (by omega)
        by_cases h1 : o = 1
        · have hob : ((o : Int) == 1) = true := by simpa using (show (o : Int) = 1 by omega)
          have HLX : Hid (lcode (j + 1) rk bk = (⟨(o : Int), (lsigned r6 b6).1, 0⟩ :: (lcode j (lsigned r6 b6).2.1 (lsigned r6 b6).2.2).1, (lcode j (lsigned r6 b6).2.1 (lsigned r6 b6).2.2).2)) := hide (by rw [HLC.out, if_neg ho]; subst h1; rfl)
          have HC8 := hide (signed_ls rb s r6 b6 W7 HF7.out.ls)
          generalize lsigned r6 b6 = L at HC8 HLX
          obtain ⟨a, r8, b8⟩ := L
          simp only at HLX
          have hn1 : operandsN (o : Int) = 1 := by subst h1; rfl
          rw [hn1] at ht
          clear HLC h1
          go_wp2_with fail
          refine HC8.out.mono ?_
          rintro x w8 ⟨v8, rfl, rfl, hl, hg⟩
          simp only at hl ⊢
          have hf := HF7.out.call hg hl
          have HF8 := hide (hf.set (o := 1) (v := .int .i64 a) hib hvb)
          have HI8 := hide (Box3.set1 (.int .i64 a) (HI7.out.gc hg (by have := HFS.out.hrb; have := HFS.out.hfb; omega)))
          obtain ⟨i0, i1, i2, y0, y1, y2⟩ := HI7.out.gc hg (by have := HFS.out.hrb; have := HFS.out.hfb; omega)
          have ht := HTA.out _ _ _ _ _ hf o (by omega)
          clear hf hl hg HC8
          rw [hn1] at ht
          obtain ⟨f0, f1, f2, f3, g0, g1, g2, g3⟩ := HF8.out.bx
          obtain ⟨i0, i1, i2, y0, y1, y2⟩ := HI8.out
          have HOW := hide HF8.out.ow
          have hsz := HF8.out.hs
          have ht := HTA.out _ _ _ _ _ HF8.out o (by omega)
          rw [hn1] at ht
          clear hn1
          clear f0 f1 f2 g0 g1 g2 g3
          go_wp2_with (at_builtin; refine wpList_append_vals _ rfl _ _ 74 91 3 24 (.agg #[.int .i64 0, .int .i64 0, .int .i64 0]) Tryd.infInsL Tryd.underlying74 rfl (by decide) (by decide) rfl w5.heap.size _ c.length (c.flatMap lC) rfl HOW.out #[.int .i64 (o : Int), .int .i64 a, .int .i64 0] rfl (by intro u hu; simp at hu; rcases hu with rfl | rfl | rfl <;> rfl) _ rfl (by simp) (by omega) hsz ?_; intro v3 w3 hap; have HPT := hide (HF8.out.put (i := ⟨(o : Int), a, 0⟩) hap); obtain ⟨e3, k3, rfl⟩ := lown_shape hap.own; obtain ⟨_, _, _, d3, _, _, _, z3⟩ := HPT.out.1; clear hap)
          exact ⟨⟨j, c ++ [⟨(o : Int), a, 0⟩], _, r8, b8, by simp, by simp; omega, HPT.out.2, by rw [HTT.out, HLX.out]; simp⟩, by simp [intOf]⟩
        · have hob : ((o : Int) == 1) = false := by rw [beq_eq_false_iff_ne]; omega
          rcases operandsN_le (o : Int) with hn1 | hn1 | hn1
          · have HLX : Hid (lcode (j + 1) rk bk = (⟨(o : Int), 0, 0⟩ :: (lcode j r6 b6).1, (lcode j r6 b6).2)) := hide (by rw [HLC.out, if_neg ho]; simp [lins, lopA, lopB, h1, hn1])
            rw [hn1] at ht
            clear HLC h1
            obtain ⟨f0, f1, f2, f3, g0, g1, g2, g3⟩ := HF7.out.bx
            obtain ⟨i0, i1, i2, y0, y1, y2⟩ := HI7.out
            have HOW := hide HF7.out.ow
            have hsz := HF7.out.hs
            have ht := HTA.out _ _ _ _ _ HF7.out o (by omega)
            rw [hn1] at ht
            clear hn1
            clear f0 f1 f2 g0 g1 g2 g3
            go_wp2_with (at_builtin; refine wpList_append_vals _ rfl _ _ 74 91 3 24 (.agg #[.int .i64 0, .int .i64 0, .int .i64 0]) Tryd.infInsL Tryd.underlying74 rfl (by decide) (by decide) rfl w5.heap.size _ c.length (c.flatMap lC) rfl HOW.out #[.int .i64 (o : Int), .int .i64 0, .int .i64 0] rfl (by intro u hu; simp at hu; rcases hu with rfl | rfl | rfl <;> rfl) _ rfl (by simp) (by omega) hsz ?_; intro v3 w3 hap; have HPT := hide (HF7.out.put (i := ⟨(o : Int), 0, 0⟩) hap); obtain ⟨e3, k3, rfl⟩ := lown_shape hap.own; obtain ⟨_, _, _, d3, _, _, _, z3⟩ := HPT.out.1; clear hap)
            exact ⟨⟨j, c ++ [⟨(o : Int), 0, 0⟩], _, r6, b6, by simp, by simp; omega, HPT.out.2, by rw [HTT.out, HLX.out]; simp⟩, by simp [intOf]⟩
          · have HLX : Hid (lcode (j + 1) rk bk = (⟨(o : Int), (lsmall 65535 r6 b6).1, 0⟩ :: (lcode j (lsmall 65535 r6 b6).2.1 (lsmall 65535 r6 b6).2.2).1, (lcode j (lsmall 65535 r6 b6).2.1 (lsmall 65535 r6 b6).2.2).2)) := hide (by rw [HLC.out, if_neg ho]; simp [lins, lopA, lopB, h1, hn1])
            have HC8 := hide (small_ls 65535 (by decide) rb s r6 b6 W7 HF7.out.ls)
            generalize lsmall 65535 r6 b6 = L at HC8 HLX
            obtain ⟨a, r8, b8⟩ := L
            simp only at HLX
            rw [hn1] at ht
            clear HLC h1
            go_wp2_with fail
            refine HC8.out.mono ?_
            rintro x w8 ⟨v8, rfl, rfl, hl, hg⟩
            simp only at hl ⊢
            have hf := HF7.out.call hg hl
            have HF8 := hide (hf.set (o := 1) (v := .int .i64 a) hib hvb)
            have HI8 := hide (Box3.set1 (.int .i64 a) (HI7.out.gc hg (by have := HFS.out.hrb; have := HFS.out.hfb; omega)))
            obtain ⟨i0, i1, i2, y0, y1, y2⟩ := HI7.out.gc hg (by have := HFS.out.hrb; have := HFS.out.hfb; omega)
            have ht := HTA.out _ _ _ _ _ hf o (by omega)
            clear hf hl hg HC8
            rw [hn1] at ht
            obtain ⟨f0, f1, f2, f3, g0, g1, g2, g3⟩ := HF8.out.bx
            obtain ⟨i0, i1, i2, y0, y1, y2⟩ := HI8.out
            have HOW := hide HF8.out.ow
            have hsz := HF8.out.hs
            have ht := HTA.out _ _ _ _ _ HF8.out o (by omega)
            rw [hn1] at ht
            clear hn1
            clear f0 f1 f2 g0 g1 g2 g3
            go_wp2_with (at_builtin; refine wpList_append_vals _ rfl _ _ 74 91 3 24 (.agg #[.int .i64 0, .int .i64 0, .int .i64 0]) Tryd.infInsL Tryd.underlying74 rfl (by decide) (by decide) rfl w5.heap.size _ c.length (c.flatMap lC) rfl HOW.out #[.int .i64 (o : Int), .int .i64 a, .int .i64 0] rfl (by intro u hu; simp at hu; rcases hu with rfl | rfl | rfl <;> rfl) _ rfl (by simp) (by omega) hsz ?_; intro v3 w3 hap; have HPT := hide (HF8.out.put (i := ⟨(o : Int), a, 0⟩) hap); obtain ⟨e3, k3, rfl⟩ := lown_shape hap.own; obtain ⟨_, _, _, d3, _, _, _, z3⟩ := HPT.out.1; clear hap)
            exact ⟨⟨j, c ++ [⟨(o : Int), a, 0⟩], _, r8, b8, by simp, by simp; omega, HPT.out.2, by rw [HTT.out, HLX.out]; simp⟩, by simp [intOf]⟩
          · have HLX : Hid (lcode (j + 1) rk bk = (⟨(o : Int), (lsmall 65535 r6 b6).1, (lsmall 65535 (lsmall 65535 r6 b6).2.1 (lsmall 65535 r6 b6).2.2).1⟩ :: (lcode j (lsmall 65535 (lsmall 65535 r6 b6).2.1 (lsmall 65535 r6 b6).2.2).2.1 (lsmall 65535 (lsmall 65535 r6 b6).2.1 (lsmall 65535 r6 b6).2.2).2.2).1, (lcode j (lsmall 65535 (lsmall 65535 r6 b6).2.1 (lsmall 65535 r6 b6).2.2).2.1 (lsmall 65535 (lsmall 65535 r6 b6).2.1 (lsmall 65535 r6 b6).2.2).2.2).2)) := hide (by rw [HLC.out, if_neg ho]; simp [lins, lopA, lopB, h1, hn1])
            have HC8 := hide (small_ls 65535 (by decide) rb s r6 b6 W7 HF7.out.ls)
            generalize lsmall 65535 r6 b6 = L at HC8 HLX
            obtain ⟨a, r8, b8⟩ := L
            simp only at HLX
            rw [hn1] at ht
            clear HLC h1
            go_wp2_with fail
            refine HC8.out.mono ?_
            rintro x w8 ⟨v8, rfl, rfl, hl, hg⟩
            simp only at hl ⊢
            have hf := HF7.out.call hg hl
            have HF8 := hide (hf.set (o := 1) (v := .int .i64 a) hib hvb)
            have HI8 := hide (Box3.set1 (.int .i64 a) (HI7.out.gc hg (by have := HFS.out.hrb; have := HFS.out.hfb; omega)))
            obtain ⟨i0, i1, i2, y0, y1, y2⟩ := HI7.out.gc hg (by have := HFS.out.hrb; have := HFS.out.hfb; omega)
            have ht := HTA.out _ _ _ _ _ hf o (by omega)
            clear hf hl hg HC8
            rw [hn1] at ht
            have HC9 := hide (small_ls 65535 (by decide) rb s r8 b8 _ HF8.out.ls)
            generalize lsmall 65535 r8 b8 = L at HC9 HLX
            obtain ⟨b, r9, b9⟩ := L
            simp only at HLX
            obtain ⟨i0, i1, i2, y0, y1, y2⟩ := HI8.out
            have ht := HTA.out _ _ _ _ _ HF8.out o (by omega)
            rw [hn1] at ht
            go_wp2_with fail
            refine HC9.out.mono ?_
            rintro x w9 ⟨v9, rfl, rfl, hl, hg⟩
            simp only at hl ⊢
            have hf := HF8.out.call hg hl
            have HF9 := hide (hf.set (o := 2) (v := .int .i64 b) hib hvb)
            have HI9 := hide (Box3.set2 (.int .i64 b) (HI8.out.gc hg (by have := HFS.out.hrb; have := HFS.out.hfb; omega)))
            obtain ⟨i0, i1, i2, y0, y1, y2⟩ := HI8.out.gc hg (by have := HFS.out.hrb; have := HFS.out.hfb; omega)
            have ht := HTA.out _ _ _ _ _ hf o (by omega)
            clear hf hl hg HC9
            rw [hn1] at ht
            obtain ⟨f0, f1, f2, f3, g0, g1, g2, g3⟩ := HF9.out.bx
            obtain ⟨i0, i1, i2, y0, y1, y2⟩ := HI9.out
            have HOW := hide HF9.out.ow
            have hsz := HF9.out.hs
            have ht := HTA.out _ _ _ _ _ HF9.out o (by omega)
            rw [hn1] at ht
            clear hn1
            clear f0 f1 f2 g0 g1 g2 g3
            go_wp2_with (at_builtin; refine wpList_append_vals _ rfl _ _ 74 91 3 24 (.agg #[.int .i64 0, .int .i64 0, .int .i64 0]) Tryd.infInsL Tryd.underlying74 rfl (by decide) (by decide) rfl w5.heap.size _ c.length (c.flatMap lC) rfl HOW.out #[.int .i64 (o : Int), .int .i64 a, .int .i64 b] rfl (by intro u hu; simp at hu; rcases hu with rfl | rfl | rfl <;> rfl) _ rfl (by simp) (by omega) hsz ?_; intro v3 w3 hap; have HPT := hide (HF9.out.put (i := ⟨(o : Int), a, b⟩) hap); obtain ⟨e3, k3, rfl⟩ := lown_shape hap.own; obtain ⟨_, _, _, d3, _, _, _, z3⟩ := HPT.out.1; clear hap)
            exact ⟨⟨j, c ++ [⟨(o : Int), a, b⟩], _, r9, b9, by simp, by simp; omega, HPT.out.2, by rw [HTT.out, HLX.out]; simp⟩, by simp [intOf]⟩
    · obtain rfl : k = 0 := by omega
      have HSE : Hid (lfunc r bad = (⟨p, q, l, c⟩, rk, bk)) := hide (by rw [HS.out, HTT.out]; simp [lcode])
      obtain ⟨f0, f1, f2, f3, g0, g1, g2, g3⟩ := HFW.out.bx
      obtain ⟨m0, m1, m2, m3, n0, n1, n2, n3⟩ := HFS.out.res_ HFW.out
      have HE := hide (HFS.out.end_ HFW.out)
      have hB : Box4 (put4 wr w.heap.size (.slice ap p.length cp) (.int .i64 q) (.slice al l.length cl) (.slice ac c.length cc)) w.heap.size (.slice ap p.length cp) (.int .i64 q) (.slice al l.length cl) (.slice ac c.length cc) := ((((HFS.out.res_ HFW.out).set0 (.slice ap p.length cp)).set1 (.int .i64 q)).set2 (.slice al l.length cl)).set3 (.slice ac c.length cc)
      have HB4 := hide hB
      unfold put4 at HE HB4
      clear hB
      go_wp2_with fail
      obtain ⟨c0, c1, c2, c3, _, _, _, _⟩ := HB4.out
      refine bodyPost_ret (v := .agg #[.slice ap p.length cp, .int .i64 q, .slice al l.length cl, .slice ac c.length cc]) (by simp [results, Tryd.results96, go_sem, c0, c1, c2, c3]) rfl ?_
      rw [HSE.out]
      exact ⟨_, rfl, HE.out.1, HE.out.2.1, HE.out.2.2⟩
end Go.Proofs.YtkgncijcnlfhiaaDoor

