import Derived.Test.YtkgncijcnlfhiaaGreatMp
namespace Go.Proofs.YtkgncijcnlfhiaaGreat
set_option maxRecDepth 100000
set_option maxHeartbeats 2000000
set_option linter.unusedVariables false
set_option linter.unusedSimpArgs false
open Go.RowKit
attribute [local go_sem ↓] Go.wp_at_zero Go.wp_at_succ
def z'(C:MC)(w:World)(ρ:Nat→bC)(nm fbn:Nat→Nat)(cs:Nat→Int)(ct:Int)(L:List dA)(bs:List (List PV))(tk:Nat)(told:List Int)(r:Bool)(e:Ending)(w':World):Prop:=e=.returned (.bool r)∧qJ C w ρ nm fbn cs ct L bs tk told w'
section
variable {C:MC} {w w':World} {ρ:Nat→bC} {nm fbn:Nat→Nat} {cs:Nat→Int} {ct:Int} {L:List dA} {bs:List (List PV)} {tk:Nat} {told:List Int}
theorem nt{x:dA}{s:List PV}{v:PV}(b:Int)(hx:x.stack=s++ [v])(hv:v.blk=none)(a:Int)(h:MW C w ρ nm fbn cs ct (x :: L) bs tk told)(hn:x.stack.length≤1000):
 Calls Tryz.prog 106 #[.pointer (some ⟨fbn L.length,0,none⟩),.agg #[.int .i64 16,.int .i64 a,.int .i64 b]] w (z' C w ρ nm fbn cs ct (x.st s :: L) bs tk told false):=by
 have g1:=((Gr.refl w).alloc (.cells #[.int .i64 16,.int .i64 a,.int .i64 b] 26)).alloc (.cells #[.int .i64 0,.pointer none] 183);have hs1:(w.alloc (.cells #[.int .i64 16,.int .i64 a,.int .i64 b] 26)).heap.size=w.heap.size+1:=by simp
 have hb0:=(((Gr.refl (w.alloc (.cells #[.int .i64 16,.int .i64 a,.int .i64 b] 26))).alloc (.cells #[.int .i64 0,.pointer none] 183)).block w.heap.size (by simp) (by simp)).trans (heap_alloc_new w (.cells #[.int .i64 16,.int .i64 a,.int .i64 b] 26));have hb1:=heap_alloc_new (w.alloc (.cells #[.int .i64 16,.int .i64 a,.int .i64 b] 26)) (.cells #[.int .i64 0,.pointer none] 183);rw [hs1] at hb1;have h1:=h.of_gr g1;have HG:=aH g1;have HB0:=aH hb0;have HB1:=aH hb1;have HN0:=aH (h.new_no (Nat.le_refl _));have HN1:=aH (h.new_no (Nat.le_succ _));have HL0:Hid (w.heap.size < ((w.alloc (.cells #[.int .i64 16,.int .i64 a,.int .i64 b] 26)).alloc (.cells #[.int .i64 0,.pointer none] 183)).heap.size):=aH (by simp;omega);have HL1:Hid (w.heap.size+1 < ((w.alloc (.cells #[.int .i64 16,.int .i64 a,.int .i64 b] 26)).alloc (.cells #[.int .i64 0,.pointer none] 183)).heap.size):=aH (by simp);have hc:=eU h1 hx hn;have e0:de nm v.blk=none:=by rw [hv];rfl
 rw [e0] at hc;have HC:=aH hc;have hnil:=Tryz.blkNil;have hf1:=Tryz.fld1;clear hc e0 h h1 g1 hs1 hb0 hb1 HB1 HN1 HL1 hx hv;generalize fbn L.length=fb at HC ⊢;go_enter Tryz.func106,Tryz.ntmps106
 go_wp2_with fail
 refine HC.out.mono ?_;rintro e w2 ⟨rfl,ρ',hM,hK⟩;have HR:=aH (And.intro hM ((an.of_gr HG.out).trans hK));clear hM hK;go_wp2_with fail
 go_ret
 exact ⟨rfl,ρ',HR.out.1,HR.out.2⟩
theorem ui{x:dA}{s fs:List PV}{v fv:PV}{j b:Nat}(hx:x.stack=s++ [v])(hv:v.blk=some j)(hj:bs[j]? =some fs)(hb:fs[b]? =some fv)(a:Int)(h:MW C w ρ nm fbn cs ct (x :: L) bs tk told)(hn:x.stack.length≤1000):
 Calls Tryz.prog 106 #[.pointer (some ⟨fbn L.length,0,none⟩),.agg #[.int .i64 16,.int .i64 a,.int .i64 (b:Int)]] w (z' C w ρ nm fbn cs ct (x.st (s++ [fv]) :: L) bs tk told true):=by
 have g1:=((Gr.refl w).alloc (.cells #[.int .i64 16,.int .i64 a,.int .i64 (b:Int)] 26)).alloc (.cells #[.int .i64 0,.pointer none] 183);have hs1:(w.alloc (.cells #[.int .i64 16,.int .i64 a,.int .i64 (b:Int)] 26)).heap.size=w.heap.size+1:=by simp
 have hb0:=(((Gr.refl (w.alloc (.cells #[.int .i64 16,.int .i64 a,.int .i64 (b:Int)] 26))).alloc (.cells #[.int .i64 0,.pointer none] 183)).block w.heap.size (by simp) (by simp)).trans (heap_alloc_new w (.cells #[.int .i64 16,.int .i64 a,.int .i64 (b:Int)] 26));have hb1:=heap_alloc_new (w.alloc (.cells #[.int .i64 16,.int .i64 a,.int .i64 (b:Int)] 26)) (.cells #[.int .i64 0,.pointer none] 183);rw [hs1] at hb1;have h1:=h.of_gr g1;have HG:=aH g1;have HB0:=aH hb0;have HB1:=aH hb1;have HN0:=aH (h.new_no (Nat.le_refl _));have HN1:=aH (h.new_no (Nat.le_succ _));have HL0:Hid (w.heap.size < ((w.alloc (.cells #[.int .i64 16,.int .i64 a,.int .i64 (b:Int)] 26)).alloc (.cells #[.int .i64 0,.pointer none] 183)).heap.size):=aH (by simp;omega);have HL1:Hid (w.heap.size+1 < ((w.alloc (.cells #[.int .i64 16,.int .i64 a,.int .i64 (b:Int)] 26)).alloc (.cells #[.int .i64 0,.pointer none] 183)).heap.size):=aH (by simp);have hc:=eU h1 hx hn;have e0:de nm v.blk=some ⟨nm j,0,none⟩:=by rw [hv];rfl
 rw [e0] at hc;have HC:=aH hc;have hbl:=(List.getElem?_eq_some_iff.1 hb).1;have hbi:(b:Int) < (fs.length:Int):=by omega
 have hf1:=Tryz.fld1;have hne:=fun (w:World)=>Tryz.blkNe ⟨nm j,0,none⟩ w
 have hl:s.length≤1000:=by rw [hx] at hn;simp at hn;omega
 clear hc e0 h h1 g1 hs1 hb0 hb1 HB1 HN1 HL1 hx hv;go_enter Tryz.func106,Tryz.ntmps106
 go_wp2_with fail
 refine HC.out.mono ?_;rintro e w2 ⟨rfl,ρ',hM,hK⟩;have HR:=aH (And.intro hM ((an.of_gr HG.out).trans hK));have HE:=aH ((hK.keep _ HL0.out HN0.out).trans HB0.out);clear hM hK HC HG HB0 HN0 HL0;obtain ⟨⟨vf,hB⟩,_⟩:=HR.out.1.blks j fs hj;have hfl:=hB.fl;have hbox:=hB.box;have hrf:=hB.rf;obtain ⟨g,cap,rfl⟩:∃g cap,vf=.slice (some ⟨g,0,none⟩) fs.length cap:=by
  rcases hfl.2 with ⟨_,e⟩|⟨g,cap,cur,e,_⟩
  · omega
  · exact ⟨g,cap,e⟩
 have hr:=jz nm fs b fv hb;have d0:=(hfl.cellAt (b * 2) (by omega)).trans hr.1;have d1:=(hfl.cellAt (b * 2+1) (by omega)).trans hr.2;have k0:w2.cell? ⟨w.heap.size,0,none⟩=some (.int .i64 16):=by rw [aI HE.out];rfl
 have KS0:Hid (∀w',Gr w2 w'→w'.cell? ⟨nm j,0,none⟩=some (.slice (some ⟨g,0,none⟩) fs.length cap)∧w'.cell? ⟨w.heap.size,2,none⟩=some (.int .i64 (b:Int))∧w'.cell? ⟨g,b * 2,none⟩=some (.int .i64 fv.num)∧w'.cell? ⟨g,b * 2+1,none⟩=some (.pointer (de nm fv.blk))):=aH (fun w' gg=>⟨gg.cell (by rw [aI hbox];rfl) (by simp),gg.cell (by rw [aI HE.out];rfl) (by simp),gg.cell d0 (by simp),gg.cell d1 (by simp)⟩);have HP:Hid (∀w',Gr w2 w'→Calls Tryz.prog 103 #[.pointer (some ⟨fbn L.length,0,none⟩),.agg #[.int .i64 fv.num,.pointer (de nm fv.blk)]] w' fun e w3=>e=.returned (.tuple #[])∧qJ C w' ρ' nm fbn cs ct (x.st (s++ [fv]) :: L) bs tk told w3):=aH (fun w' g=>fF (x:=x.st s) fv (HR.out.1.of_gr g) hl);clear hB hfl hbox hrf hr d0 d1 HE hb hj hn hl;generalize ((w.alloc (.cells #[.int .i64 16,.int .i64 a,.int .i64 (b:Int)] 26)).alloc (.cells #[.int .i64 0,.pointer none] 183))=W1;generalize fbn L.length=fb at HP ⊢;generalize fs.length=n at KS0 hbi hbl;generalize de nm fv.blk=p at HP KS0;generalize fv.num=num at HP KS0;generalize nm j=bj at KS0 hne ⊢;generalize w.heap.size=bi at KS0 k0 ⊢;go_wp2_with fail
 refine cH 9 (S:=(fun w'=>w'.cell? ⟨bj,0,none⟩=some (.slice (some ⟨g,0,none⟩) n cap)∧w'.cell? ⟨bi,2,none⟩=some (.int .i64 (b:Int))∧w'.cell? ⟨g,b * 2,none⟩=some (.int .i64 num)∧w'.cell? ⟨g,b * 2+1,none⟩=some (.pointer p))) (by kernel_rfl) (KS0.out _ (Gr.drew (Gr.refl _))) (fun hH=>?_);refine tY 0 ?_;simp only [Act.put,sA,s0,s1];refine tY 1 ?_;simp only [Act.put,sA,s0,s1];refine tY 2 ?_;simp only [Act.put,sA,s0,s1];refine tY 3 ?_;simp only [Act.put,sA,s0,s1];refine tY 4 ?_;simp only [Act.put,sA,s0,s1];refine tY 5 ?_;simp only [Act.put,sA,s0,s1];refine tY 6 ?_;simp only [Act.put,sA,s0,s1];refine tY 7 ?_;simp only [Act.put,sA,s0,s1];refine tY 8 ?_;simp only [Act.put,sA,s0,s1];refine cT (i:=9) rfl (by kernel_rfl) (fun K hK=>?_);refine aS rfl 103 _ _ rfl #[.pointer (some ⟨fb,0,none⟩),.agg #[.int .i64 num,.pointer p]] (by simp [Act.eval]) (Tryz.callPush _ _) ((HP.out _ (Gr.drew (Gr.refl _))).mono ?_);rintro e w3 ⟨rfl,ρ3,hM,hK2⟩;have HR3:=aH (And.intro hM (HR.out.2.trans ((an.of_gr (Gr.drew (Gr.refl _))).trans hK2)));clear hM hK2;refine .inl ⟨_,rfl,?_⟩;refine hK.out _ _ (fun h=>absurd rfl h) (fun _=>?_);clear hK;try simp only [Act.put,sA,s0,s1]
 refine iR (by kernel_rfl) ?_ _;clear hH;go_wp2_with fail
 go_ret
 exact ⟨rfl,ρ3,HR3.out.1,HR3.out.2⟩
theorem nu{x:dA}{s:List PV}{v v':PV}(b:Int)(hx:x.stack=s++ [v,v'])(hv:v.blk=none)(a:Int)(h:MW C w ρ nm fbn cs ct (x :: L) bs tk told)(hn:x.stack.length≤1000):
 Calls Tryz.prog 106 #[.pointer (some ⟨fbn L.length,0,none⟩),.agg #[.int .i64 17,.int .i64 a,.int .i64 b]] w (z' C w ρ nm fbn cs ct (x.st s :: L) bs tk told false):=by
 have g1:=((Gr.refl w).alloc (.cells #[.int .i64 17,.int .i64 a,.int .i64 b] 26)).alloc (.cells #[.int .i64 0,.pointer none] 183);have hs1:(w.alloc (.cells #[.int .i64 17,.int .i64 a,.int .i64 b] 26)).heap.size=w.heap.size+1:=by simp
 have hb0:=(((Gr.refl (w.alloc (.cells #[.int .i64 17,.int .i64 a,.int .i64 b] 26))).alloc (.cells #[.int .i64 0,.pointer none] 183)).block w.heap.size (by simp) (by simp)).trans (heap_alloc_new w (.cells #[.int .i64 17,.int .i64 a,.int .i64 b] 26));have hb1:=heap_alloc_new (w.alloc (.cells #[.int .i64 17,.int .i64 a,.int .i64 b] 26)) (.cells #[.int .i64 0,.pointer none] 183);rw [hs1] at hb1;have h1:=h.of_gr g1;have HG:=aH g1;have HB0:=aH hb0;have HB1:=aH hb1;have HN0:=aH (h.new_no (Nat.le_refl _));have HN1:=aH (h.new_no (Nat.le_succ _));have HL0:Hid (w.heap.size < ((w.alloc (.cells #[.int .i64 17,.int .i64 a,.int .i64 b] 26)).alloc (.cells #[.int .i64 0,.pointer none] 183)).heap.size):=aH (by simp;omega);have HL1:Hid (w.heap.size+1 < ((w.alloc (.cells #[.int .i64 17,.int .i64 a,.int .i64 b] 26)).alloc (.cells #[.int .i64 0,.pointer none] 183)).heap.size):=aH (by simp);have hl:s.length+2≤1000:=by rw [hx] at hn;simpa using hn
 have HC:=aH (eU (s:=s++ [v]) (v:=v') h1 (by rw [hx];simp) hn);have HV:=aH h.gr.size;have HC2:Hid (∀(w2:World) (ρ':Nat→bC),MW C w2 ρ' nm fbn cs ct (x.st (s++ [v]) :: L) bs tk told→Calls Tryz.prog 100 #[.pointer (some ⟨fbn L.length,0,none⟩)] w2 fun e w'=>e=.returned (.agg #[.int .i64 v.num,.pointer none])∧qJ C w2 ρ' nm fbn cs ct (x.st s :: L) bs tk told w'):=aH (fun w2 ρ' hM=>by
  have hc:=eU (x:=x.st (s++ [v])) (s:=s) (v:=v) hM rfl (by show (s++ [v]).length≤1000;simp;omega);have e0:de nm v.blk=none:=by rw [hv];rfl
  rw [e0] at hc;exact hc)
 have hnil:=Tryz.blkNil;have hf1:=Tryz.fld1;clear h h1 g1 hs1 hb0 hb1 hx hv hl;generalize fbn L.length=fb at HC HC2 ⊢;go_enter Tryz.func106,Tryz.ntmps106
 go_wp2_with fail
 refine HC.out.mono ?_;rintro e w2 ⟨rfl,ρ',hM,hK⟩;have HR:=aH (And.intro hM ((an.of_gr HG.out).trans hK));have HE0:=aH ((hK.keep _ HL0.out HN0.out).trans HB0.out);have HE1:=aH ((hK.keep _ HL1.out HN1.out).trans HB1.out);have HM0:=aH ((hK.role _ HL0.out).trans HN0.out);have HM1:=aH ((hK.role _ HL1.out).trans HN1.out);have HS0:=aH (Nat.lt_of_lt_of_le HL0.out hK.size);have HS1:=aH (Nat.lt_of_lt_of_le HL1.out hK.size);clear hM hK HC HG HB0 HN0 HL0 HB1 HN1 HL1;generalize (w.alloc (.cells #[.int .i64 17,.int .i64 a,.int .i64 b] 26)).alloc (.cells #[.int .i64 0,.pointer none] 183)=W1;have q0:w2.cell? ⟨w.heap.size+1,0,none⟩=some (.int .i64 0):=by rw [aI HE1.out];rfl
 have q1:w2.cell? ⟨w.heap.size+1,1,none⟩=some (.pointer none):=by rw [aI HE1.out];rfl
 have y0:w2.frozen? ⟨w.heap.size+1,0,none⟩=false:=aR HE1.out;have y1:w2.frozen? ⟨w.heap.size+1,1,none⟩=false:=aR HE1.out;go_upto_region 4 with fail
 have hoth:∀b,¬b=w.heap.size+1→((w2.setCell ⟨w.heap.size+1,0,none⟩ (.int .i64 v'.num)).setCell ⟨w.heap.size+1,1,none⟩ (.pointer (de nm v'.blk))).heap[b]? =w2.heap[b]? :=fun b hb=>(Below.heap_setCell _ _ _ _ hb).trans (Below.heap_setCell _ _ _ _ hb)
 have hM3:MW C ((w2.setCell ⟨w.heap.size+1,0,none⟩ (.int .i64 v'.num)).setCell ⟨w.heap.size+1,1,none⟩ (.pointer (de nm v'.blk))) ρ' nm fbn cs ct (x.st (s++ [v]) :: L) bs tk told:=HR.out.1.other rfl rfl rfl (by simp) (fun b hb hr=>hoth b (fun e=>by
  subst e;rcases hr with hr|hr
  · exact hr HM1.out
  · have:=HV.out;omega))
 have hK3:an w ((w2.setCell ⟨w.heap.size+1,0,none⟩ (.int .i64 v'.num)).setCell ⟨w.heap.size+1,1,none⟩ (.pointer (de nm v'.blk))) ρ ρ':=⟨HR.out.2.os,HR.out.2.tape,HR.out.2.output,by have:=HR.out.2.size;simpa using this,HR.out.2.role,fun b hb e=>(hoth b (by omega)).trans (HR.out.2.keep b hb e)⟩;have HR3:=aH (And.intro hM3 hK3);have HE3:Hid (((w2.setCell ⟨w.heap.size+1,0,none⟩ (.int .i64 v'.num)).setCell ⟨w.heap.size+1,1,none⟩ (.pointer (de nm v'.blk))).heap[w.heap.size]? =_):=aH ((hoth _ (by omega)).trans HE0.out);have HF3:=aH ((heap_setCell_same _ (w.heap.size+1) 1 _ _ (.pointer (de nm v'.blk)) (heap_setCell_same w2 (w.heap.size+1) 0 _ _ (.int .i64 v'.num) HE1.out)).trans (by simp:_=some (.cells #[.int .i64 v'.num,.pointer (de nm v'.blk)] 183 (0,0))));have HS3:Hid (w.heap.size+1 < ((w2.setCell ⟨w.heap.size+1,0,none⟩ (.int .i64 v'.num)).setCell ⟨w.heap.size+1,1,none⟩ (.pointer (de nm v'.blk))).heap.size):=aH (by have:=HS1.out;simpa using this);clear hM3 hK3 hoth q0 q1 y0 y1 HE0 HE1 HS0 HS1 HR;generalize ((w2.setCell ⟨w.heap.size+1,0,none⟩ (.int .i64 v'.num)).setCell ⟨w.heap.size+1,1,none⟩ (.pointer (de nm v'.blk)))=W3 at HR3 HE3 HF3 HS3 ⊢;go_wp2_with fail
 refine (HC2.out _ _ HR3.out.1).mono ?_;rintro e w4 ⟨rfl,ρ4,hM,hK⟩;have HR4:=aH (And.intro hM (HR3.out.2.trans hK));have HE4:=aH ((hK.keep _ (Nat.lt_of_succ_lt HS3.out) HM0.out).trans HE3.out);have HF4:=aH ((hK.keep _ HS3.out HM1.out).trans HF3.out);clear hM hK HR3 HE3 HF3 HS3 HC2 HM0 HM1;go_wp2_with fail
 go_ret
 exact ⟨rfl,ρ4,HR4.out.1,HR4.out.2⟩
theorem wd{x:dA}{s fs:List PV}{v v':PV}{j b:Nat}(hx:x.stack=s++ [v,v'])(hv:v.blk=some j)(hj:bs[j]? =some fs)(hb:b < fs.length)(a:Int)(h:MW C w ρ nm fbn cs ct (x :: L) bs tk told)(hn:x.stack.length≤1000):
 Calls Tryz.prog 106 #[.pointer (some ⟨fbn L.length,0,none⟩),.agg #[.int .i64 17,.int .i64 a,.int .i64 (b:Int)]] w (z' C w ρ nm fbn cs ct (x.st s :: L) (bs.set j (fs.set b v')) tk told true):=by
 have g1:=((Gr.refl w).alloc (.cells #[.int .i64 17,.int .i64 a,.int .i64 (b:Int)] 26)).alloc (.cells #[.int .i64 0,.pointer none] 183);have hs1:(w.alloc (.cells #[.int .i64 17,.int .i64 a,.int .i64 (b:Int)] 26)).heap.size=w.heap.size+1:=by simp
 have hb0:=(((Gr.refl (w.alloc (.cells #[.int .i64 17,.int .i64 a,.int .i64 (b:Int)] 26))).alloc (.cells #[.int .i64 0,.pointer none] 183)).block w.heap.size (by simp) (by simp)).trans (heap_alloc_new w (.cells #[.int .i64 17,.int .i64 a,.int .i64 (b:Int)] 26));have hb1:=heap_alloc_new (w.alloc (.cells #[.int .i64 17,.int .i64 a,.int .i64 (b:Int)] 26)) (.cells #[.int .i64 0,.pointer none] 183);rw [hs1] at hb1;have h1:=h.of_gr g1;have HG:=aH g1;have HB0:=aH hb0;have HB1:=aH hb1;have HN0:=aH (h.new_no (Nat.le_refl _));have HN1:=aH (h.new_no (Nat.le_succ _));have HL0:Hid (w.heap.size < ((w.alloc (.cells #[.int .i64 17,.int .i64 a,.int .i64 (b:Int)] 26)).alloc (.cells #[.int .i64 0,.pointer none] 183)).heap.size):=aH (by simp;omega);have HL1:Hid (w.heap.size+1 < ((w.alloc (.cells #[.int .i64 17,.int .i64 a,.int .i64 (b:Int)] 26)).alloc (.cells #[.int .i64 0,.pointer none] 183)).heap.size):=aH (by simp);have hl:s.length+2≤1000:=by rw [hx] at hn;simpa using hn
 have HC:=aH (eU (s:=s++ [v]) (v:=v') h1 (by rw [hx];simp) hn);have HV:=aH h.gr.size;have HC2:Hid (∀(w2:World) (ρ':Nat→bC),MW C w2 ρ' nm fbn cs ct (x.st (s++ [v]) :: L) bs tk told→Calls Tryz.prog 100 #[.pointer (some ⟨fbn L.length,0,none⟩)] w2 fun e w'=>e=.returned (.agg #[.int .i64 v.num,.pointer (some ⟨nm j,0,none⟩)])∧qJ C w2 ρ' nm fbn cs ct (x.st s :: L) bs tk told w'):=aH (fun w2 ρ' hM=>by
  have hc:=eU (x:=x.st (s++ [v])) (s:=s) (v:=v) hM rfl (by show (s++ [v]).length≤1000;simp;omega);have e0:de nm v.blk=some ⟨nm j,0,none⟩:=by rw [hv];rfl
  rw [e0] at hc;exact hc)
 have hbi:(b:Int) < (fs.length:Int):=by omega
 have hf1:=Tryz.fld1;have hne:=fun (w:World)=>Tryz.blkNe ⟨nm j,0,none⟩ w
 clear h h1 g1 hs1 hb0 hb1 hx hv hl hn;generalize hFB:fbn L.length=fb at HC HC2 ⊢;clear hFB;go_enter Tryz.func106,Tryz.ntmps106
 go_wp2_with fail
 refine HC.out.mono ?_;rintro e w2 ⟨rfl,ρ',hM,hK⟩;have HR:=aH (And.intro hM ((an.of_gr HG.out).trans hK));have HE0:=aH ((hK.keep _ HL0.out HN0.out).trans HB0.out);have HE1:=aH ((hK.keep _ HL1.out HN1.out).trans HB1.out);have HM0:=aH ((hK.role _ HL0.out).trans HN0.out);have HM1:=aH ((hK.role _ HL1.out).trans HN1.out);have HS0:=aH (Nat.lt_of_lt_of_le HL0.out hK.size);have HS1:=aH (Nat.lt_of_lt_of_le HL1.out hK.size);clear hM hK HC HG HB0 HN0 HL0 HB1 HN1 HL1;generalize (w.alloc (.cells #[.int .i64 17,.int .i64 a,.int .i64 (b:Int)] 26)).alloc (.cells #[.int .i64 0,.pointer none] 183)=W1;have q0:w2.cell? ⟨w.heap.size+1,0,none⟩=some (.int .i64 0):=by rw [aI HE1.out];rfl
 have q1:w2.cell? ⟨w.heap.size+1,1,none⟩=some (.pointer none):=by rw [aI HE1.out];rfl
 have y0:w2.frozen? ⟨w.heap.size+1,0,none⟩=false:=aR HE1.out;have y1:w2.frozen? ⟨w.heap.size+1,1,none⟩=false:=aR HE1.out;go_upto_region 4 with fail
 have hoth:∀b,¬b=w.heap.size+1→((w2.setCell ⟨w.heap.size+1,0,none⟩ (.int .i64 v'.num)).setCell ⟨w.heap.size+1,1,none⟩ (.pointer (de nm v'.blk))).heap[b]? =w2.heap[b]? :=fun b hb=>(Below.heap_setCell _ _ _ _ hb).trans (Below.heap_setCell _ _ _ _ hb)
 have hM3:MW C ((w2.setCell ⟨w.heap.size+1,0,none⟩ (.int .i64 v'.num)).setCell ⟨w.heap.size+1,1,none⟩ (.pointer (de nm v'.blk))) ρ' nm fbn cs ct (x.st (s++ [v]) :: L) bs tk told:=HR.out.1.other rfl rfl rfl (by simp) (fun b hb hr=>hoth b (fun e=>by
  subst e;rcases hr with hr|hr
  · exact hr HM1.out
  · have:=HV.out;omega))
 have hK3:an w ((w2.setCell ⟨w.heap.size+1,0,none⟩ (.int .i64 v'.num)).setCell ⟨w.heap.size+1,1,none⟩ (.pointer (de nm v'.blk))) ρ ρ':=⟨HR.out.2.os,HR.out.2.tape,HR.out.2.output,by have:=HR.out.2.size;simpa using this,HR.out.2.role,fun b hb e=>(hoth b (by omega)).trans (HR.out.2.keep b hb e)⟩;have HR3:=aH (And.intro hM3 hK3);have HE3:Hid (((w2.setCell ⟨w.heap.size+1,0,none⟩ (.int .i64 v'.num)).setCell ⟨w.heap.size+1,1,none⟩ (.pointer (de nm v'.blk))).heap[w.heap.size]? =_):=aH ((hoth _ (by omega)).trans HE0.out);have HF3:=aH ((heap_setCell_same _ (w.heap.size+1) 1 _ _ (.pointer (de nm v'.blk)) (heap_setCell_same w2 (w.heap.size+1) 0 _ _ (.int .i64 v'.num) HE1.out)).trans (by simp:_=some (.cells #[.int .i64 v'.num,.pointer (de nm v'.blk)] 183 (0,0))));have HS3:Hid (w.heap.size+1 < ((w2.setCell ⟨w.heap.size+1,0,none⟩ (.int .i64 v'.num)).setCell ⟨w.heap.size+1,1,none⟩ (.pointer (de nm v'.blk))).heap.size):=aH (by have:=HS1.out;simpa using this);clear hM3 hK3 hoth q0 q1 y0 y1 HE0 HE1 HS0 HS1 HR;generalize ((w2.setCell ⟨w.heap.size+1,0,none⟩ (.int .i64 v'.num)).setCell ⟨w.heap.size+1,1,none⟩ (.pointer (de nm v'.blk)))=W3 at HR3 HE3 HF3 HS3 ⊢;go_wp2_with fail
 refine (HC2.out _ _ HR3.out.1).mono ?_;rintro e w4 ⟨rfl,ρ4,hM,hK⟩;have HR4:=aH (And.intro hM (HR3.out.2.trans hK));have HE4:=aH ((hK.keep _ (Nat.lt_of_succ_lt HS3.out) HM0.out).trans HE3.out);have HF4:=aH ((hK.keep _ HS3.out HM1.out).trans HF3.out);clear hM hK HR3 HE3 HF3 HS3 HC2 HM0 HM1;obtain ⟨⟨vf,hB⟩,_⟩:=HR4.out.1.blks j fs hj;have hfl:=hB.fl;have hbox:=hB.box;have hrf:=hB.rf;obtain ⟨g,cap,rfl⟩:∃g cap,vf=.slice (some ⟨g,0,none⟩) fs.length cap:=by
  rcases hfl.2 with ⟨_,e⟩|⟨g,cap,cur,e,_⟩
  · omega
  · exact ⟨g,cap,e⟩
 obtain ⟨cur,hgh,hcz⟩:∃cur,w4.heap[g]? =some (.cells cur 183 (0,0))∧b * 2+1 < cur.size:=by
  rcases hfl.2 with ⟨e,_⟩|⟨g',cap',cur,e,_,e2,e3,_,e5,_⟩
  · cases e
  · cases e
    exact ⟨cur,e2,by omega⟩
 have k0:w4.cell? ⟨w.heap.size,0,none⟩=some (.int .i64 17):=by rw [aI HE4.out];rfl
 have KS0:Hid (∀w',Gr w4 w'→w'.cell? ⟨nm j,0,none⟩=some (.slice (some ⟨g,0,none⟩) fs.length cap)∧w'.cell? ⟨w.heap.size,2,none⟩=some (.int .i64 (b:Int))∧w'.cell? ⟨w.heap.size+1,0,none⟩=some (.int .i64 v'.num)∧w'.cell? ⟨w.heap.size+1,1,none⟩=some (.pointer (de nm v'.blk))):=aH (fun w' gg=>⟨gg.cell (by rw [aI hbox];rfl) (by simp),gg.cell (by rw [aI HE4.out];rfl) (by simp),gg.cell (by rw [aI HF4.out];rfl) (by simp),gg.cell (by rw [aI HF4.out];rfl) (by simp)⟩);have HZ:Hid (∀w',Gr w4 w'→MW C ((w'.setCell ⟨g,b * 2,none⟩ (.int .i64 v'.num)).setCell ⟨g,b * 2+1,none⟩ (.pointer (de nm v'.blk))) ρ4 nm fbn cs ct (x.st s :: L) (bs.set j (fs.set b v')) tk told∧an w ((w'.setCell ⟨g,b * 2,none⟩ (.int .i64 v'.num)).setCell ⟨g,b * 2+1,none⟩ (.pointer (de nm v'.blk))) ρ ρ4):=aH (fun w' gg=>by
  have hst:f8 (fun r=>r≠.no) w4 w' ρ4 ρ4:=fun b hb _=>⟨gg.block b hb (by simp),rfl⟩
  have hz:=(HR4.out.1.of_gr gg).setField (a:=b) v' hj (hB.mv hst nofun nofun);exact ⟨hz.1,HR4.out.2.trans ((an.of_gr gg).trans hz.2)⟩)
 have HH:Hid (∀w',Gr w4 w'→w'.heap[g]? =some (.cells cur 183 (0,0))):=aH (fun w' gg=>(gg.block g (Array.getElem?_eq_some_iff.1 hgh).1 (by simp)).trans hgh);clear hB hfl hbox hrf HE4 HF4 hj hgh HR4;generalize fs.length=n at KS0 hbi hb;generalize de nm v'.blk=p at KS0 HZ HH ⊢;generalize v'.num=num at KS0 HZ HH ⊢;generalize nm j=bj at KS0 hne ⊢;generalize w.heap.size+1=bv at KS0 ⊢;generalize w.heap.size=bi at KS0 k0 ⊢;go_wp2_with fail
 refine cH 8 (S:=(fun w'=>w'.cell? ⟨bj,0,none⟩=some (.slice (some ⟨g,0,none⟩) n cap)∧w'.cell? ⟨bi,2,none⟩=some (.int .i64 (b:Int))∧w'.cell? ⟨bv,0,none⟩=some (.int .i64 num)∧w'.cell? ⟨bv,1,none⟩=some (.pointer p))) (by kernel_rfl) (KS0.out _ (Gr.drew (Gr.refl _))) (fun hH=>?_);refine tY 0 ?_;simp only [Act.put,sA,s0,s1];refine tY 1 ?_;simp only [Act.put,sA,s0,s1];refine tY 2 ?_;simp only [Act.put,sA,s0,s1];refine tY 3 ?_;simp only [Act.put,sA,s0,s1];refine tY 4 ?_;simp only [Act.put,sA,s0,s1];refine tY 5 ?_;simp only [Act.put,sA,s0,s1];refine tY 6 ?_;simp only [Act.put,sA,s0,s1];refine tY 7 ?_;simp only [Act.put,sA,s0,s1];refine cT (i:=8) rfl (by kernel_rfl) (fun K hK=>?_);have f0:=HH.out _ (Gr.refl _);have m0:=aI (o:=b * 2) f0;have m1:=aI (o:=b * 2+1) f0;have z0:=aR (o:=b * 2) f0;have z1:=aR (o:=b * 2+1) f0;rw [Array.getElem?_eq_getElem (by omega)] at m0 m1;have HK:=aH hK;clear hK f0;refine ae (by rfl) ?_;go_simp
 have hK:=HK.out;clear HK m0 m1 z0 z1;refine hK.out _ _ (fun h=>absurd rfl h) (fun _=>?_);clear hK;try simp only [Act.put,sA,s0,s1]
 refine iR (by kernel_rfl) ?_ _;clear hH;have HZ2:=aH (And.intro ((HZ.out _ (Gr.refl _)).1.of_gr (Gr.drew (Gr.refl _))) ((HZ.out _ (Gr.refl _)).2.trans (an.of_gr (Gr.drew (Gr.refl _)))));clear HZ HH KS0;go_wp2_with fail
 go_ret
 exact ⟨rfl,ρ4,HZ2.out.1,HZ2.out.2⟩
end
open Go.RowKit
attribute [local go_sem ↓] Go.wp_at_zero Go.wp_at_succ
theorem Tryz.callWords(vals:Array Value)(w:World):(callFunc 135 vals).run Tryz.prog w=.ok (.enter 135 vals) w:=by kernel_rfl
section
variable {C:MC} {w w':World} {ρ:Nat→bC} {nm fbn:Nat→Nat} {cs:Nat→Int} {ct:Int} {L:List dA} {bs:List (List PV)} {tk:Nat} {told:List Int}
theorem kX.names{nm':Nat→Nat}{n:Nat}(e:∀j,j < n→nm' j=nm j):∀{L:List dA},kX C w ρ nm fbn L→(∀x∈L,Bd n x.slots∧Bd n x.stack)→kX C w ρ nm' fbn L
 | [],_,_=>trivial
 | x :: l,h,hb=>by
  obtain ⟨vc,vs,vk,f,h0⟩:=h.1;have hx:=hb x List.mem_cons_self;refine ⟨⟨vc,vs,vk,f,⟨h0.func,h0.code,h0.box,?_,?_,h0.rb,h0.rsl,h0.rst⟩⟩,kX.names e h.2 fun y hy=>hb y (List.mem_cons_of_mem _ hy)⟩
  · rw [gD e _ hx.1];exact h0.sl
  · rw [gD e _ hx.2];exact h0.st
theorem MW.addBlk{w0:World}{ρ0:Nat→bC}{v:Value}{fs:List PV}(h:MW C w ρ nm fbn cs ct L bs tk told)(h0:an w0 w ρ0 ρ)(hV:C.V.heap.size≤w0.heap.size)(hv:w.ownsRow w0.heap.size 183 2 v fs.length (dV nm fs))(hρ:∀k,v.ownBlock=some k→ρ k=.no)(hct:0≤ct)(bL:∀x∈L,Bd bs.length x.slots∧Bd bs.length x.stack)(bB:∀r∈bs,Bd bs.length r)(bF:Bd bs.length fs):
 ∃ρ' nm' cs',nm' bs.length=w.heap.size∧MW C (w.alloc (.cells #[v,.int .i64 0] 224)) ρ' nm' fbn cs' ct L (bs++ [fs]) tk told∧an w0 (w.alloc (.cells #[v,.int .i64 0] 224)) ρ0 ρ':=by
 let ρ':Nat→bC:=fun b=>if b=w.heap.size then .bb bs.length else if v.ownBlock=some b then .bf bs.length else ρ b
 let nm':Nat→Nat:=fun j=>if j=bs.length then w.heap.size else nm j
 let cs':Nat→Int:=fun j=>if j=bs.length then 0 else cs j
 have hvs:∀b,v.ownBlock=some b→w0.heap.size≤b∧b < w.heap.size:=fun b hb=>hv.lt b hb
 have g:=(Gr.refl w).alloc (.cells #[v,.int .i64 0] 224);have hsz:(w.alloc (.cells #[v,.int .i64 0] 224)).heap.size=w.heap.size+1:=by simp
 have h0s:=h0.size;have hr1:ρ' w.heap.size=.bb bs.length:=if_pos rfl;have hr2:∀b,v.ownBlock=some b→ρ' b=.bf bs.length:=fun b hb=>by
  have e1:¬b=w.heap.size:=by have:=(hvs b hb).2;omega
  show (if b=w.heap.size then _ else _)=_
  rw [if_neg e1,if_pos hb]
 have hr3:∀b,b < w.heap.size→(ρ b≠.no∨b < w0.heap.size)→ρ' b=ρ b:=fun b hb hn=>by
  have e1:¬b=w.heap.size:=by omega
  have e2:¬v.ownBlock=some b:=fun e=>by
   rcases hn with hn|hn
   · exact hn (hρ b e)
   · have:=(hvs b e).1;omega
  show (if b=w.heap.size then _ else _)=_
  rw [if_neg e1,if_neg e2]
 have hn1:∀j,j < bs.length→nm' j=nm j:=fun j hj=>if_neg (by omega)
 have hn2:nm' bs.length=w.heap.size:=if_pos rfl;have s:f8 (fun r=>r≠.no) w (w.alloc (.cells #[v,.int .i64 0] 224)) ρ ρ':=fun b hb hS=>⟨g.block b hb (by simp),hr3 b hb (.inl hS)⟩
 have K:an w0 (w.alloc (.cells #[v,.int .i64 0] 224)) ρ0 ρ':=⟨g.os.trans h0.os,g.tape.trans h0.tape,g.output.trans h0.output,by omega,fun b hb=>(hr3 b (by omega) (.inr hb)).trans (h0.role b hb),fun b hb e=>(g.block b (by omega) (by simp)).trans (h0.keep b hb e)⟩;obtain ⟨vf,vt,hm⟩:=h.mb;refine ⟨ρ',nm',cs',hn2,⟨h.gr.trans g,fun b hb=>?_,⟨vf,vt,hm.mv s nofun nofun nofun⟩,(h.frs.mv s fun i _=>⟨nofun,nofun,nofun,rfl⟩).names hn1 bL,fun j r hj=>?_⟩,K⟩
 · have hVs:=h.gr.size;by_cases e1:b=w.heap.size
   · subst e1;exact ⟨hVs,by omega⟩
   · by_cases e2:v.ownBlock=some b
     · have:=hvs b e2;exact ⟨by omega,by omega⟩
     · have e3:ρ' b=ρ b:=by
        show (if b=w.heap.size then _ else _)=_
        rw [if_neg e1,if_neg e2]
       rw [e3] at hb;have:=h.lo b hb
       exact ⟨this.1,by omega⟩
 · by_cases e:j < bs.length
   · rw [List.getElem?_append_left e] at hj;obtain ⟨⟨v1,hB⟩,hc⟩:=h.blks j r hj;have hB1:=hB.mv s nofun nofun;have ec:cs' j=cs j:=if_neg (by omega);rw [ec];refine ⟨⟨v1,⟨?_,?_,?_,hB1.rf⟩⟩,hc⟩
     · rw [hn1 j e];exact hB1.box
     · rw [gD hn1 _ (bB r (List.mem_of_getElem? hj))];exact hB1.fl
     · rw [hn1 j e];exact hB1.rb
   · rw [List.getElem?_append_right (by omega)] at hj;have e0:j - bs.length=0:=by
      have:=(List.getElem?_eq_some_iff.1 hj).1
      simp at this;omega
     rw [e0] at hj;have ej:j=bs.length:=by omega
     subst ej;simp at hj
     subst hj;have ec:cs' bs.length=0:=if_pos rfl;rw [ec];refine ⟨⟨v,⟨?_,?_,?_,hr2⟩⟩,by omega,hct⟩
     · rw [hn2];exact heap_alloc_new w _
     · rw [gD hn1 _ bF];have:=cY hv g
       exact ⟨this.1,this.2.imp id (fun ⟨g,c,cur,e1,e2,e3⟩=>⟨g,c,cur,e1,Nat.zero_le _,e3⟩)⟩
     · rw [hn2];exact hr1
theorem MW.setMb{tk':Nat}{ct':Int}{vf vt:Value}(h:MW C w ρ nm fbn cs ct L bs tk told)(hm:wu C w ρ fbn L.length (tk:Int) ct told vf vt)(hF:nW w' C.mb C.v1 C.v2 C.v3 C.v4 C.v5 vf (C.heap:Int) (tk':Int) ct' vt)(hct:ct≤ct')(hos:w'.os=w.os)(htp:w'.tape=w.tape)(hou:w'.output=w.output)(hsz:w.heap.size≤w'.heap.size)(hoth:∀b,b < w.heap.size→¬b=C.mb→w'.heap[b]? =w.heap[b]?):
 MW C w' ρ nm fbn cs ct' L bs tk' told∧an w w' ρ ρ:=by
 have s:f8 (fun r=>r≠.mach) w w' ρ ρ:=fun b hb hS=>⟨hoth b hb (fun e=>hS (e▸hm.rm)),rfl⟩
 have K:an w w' ρ ρ:=⟨hos,htp,hou,hsz,fun _ _=>rfl,fun b hb e=>hoth b hb (fun e2=>by rw [e2,hm.rm] at e;cases e)⟩;obtain ⟨a1,a2⟩:=dZ hm.fr hm.rf s nofun;obtain ⟨b1,b2⟩:=dZ hm.tl hm.rt s nofun;refine ⟨⟨K.gr h.gr h.lo,fun b hb=>⟨(h.lo b hb).1,Nat.lt_of_lt_of_le (h.lo b hb).2 hsz⟩,⟨vf,vt,⟨hF,a1,b1,hm.rm,a2,b2⟩⟩,h.frs.mv s fun i _=>⟨nofun,nofun,nofun,rfl⟩,fun j r hj=>?_⟩,K⟩;obtain ⟨⟨v,hB⟩,hc⟩:=h.blks j r hj;exact ⟨⟨v,hB.mv s nofun nofun⟩,hc.1,by omega⟩
theorem xI{w0:World}{ρ0:Nat→bC}{v:Value}{fs:List PV}(h:MW C w ρ nm fbn cs ct L bs tk told)(h0:an w0 w ρ0 ρ)(hV:C.V.heap.size≤w0.heap.size)(hv:w.ownsRow w0.heap.size 183 2 v fs.length (dV nm fs))(hρ:∀k,v.ownBlock=some k→ρ k=.no)(hct:0≤ct)(bL:∀x∈L,Bd bs.length x.slots∧Bd bs.length x.stack)(bB:∀r∈bs,Bd bs.length r)(bF:Bd bs.length fs)(htk:tk≤10000000)(hf:fs.length≤1000):
 Calls Tryz.prog 105 #[.pointer (some ⟨C.mb,6,none⟩),v] w fun e w'=>∃ρ' nm' cs',e=.returned (.pointer (some ⟨nm' bs.length,0,none⟩))∧MW C w' ρ' nm' fbn cs' ct L (bs++ [fs]) (tk+(fs.length+1)) told∧an w0 w' ρ0 ρ':=by
 obtain ⟨va,vcp,rfl⟩:=aL hv;obtain ⟨vf,vt,hm⟩:=h.mb;have hbox:=hm.box;have hB':=(heap_setCell_same w C.mb 7 _ _ (.int .i64 ((tk+(fs.length+1):Nat):Int)) hbox).trans (by simp:_=some (.cells #[C.v1,C.v2,C.v3,C.v4,C.v5,vf,.int .i64 (C.heap:Int),.int .i64 ((tk+(fs.length+1):Nat):Int),.int .i64 ct,vt] 121 (0,0)));have h2:=h.setMb (w':=w.setCell ⟨C.mb,7,none⟩ (.int .i64 ((tk+(fs.length+1):Nat):Int))) hm hB' (Int.le_refl _) rfl rfl rfl (by simp) (fun b hb hne=>Below.heap_setCell _ _ _ _ (by show b≠C.mb;exact hne));have hv2:(w.setCell ⟨C.mb,7,none⟩ (.int .i64 ((tk+(fs.length+1):Nat):Int))).ownsRow w0.heap.size 183 2 (.slice va fs.length vcp) fs.length (dV nm fs):=bX hv fun k hk=>Below.heap_setCell _ _ _ _ (by show k≠C.mb;exact fun e=>by have:=hρ k hk;rw [e,hm.rm] at this;cases this)
 have HZ:Hid (∀w2,Gr (w.setCell ⟨C.mb,7,none⟩ (.int .i64 ((tk+(fs.length+1):Nat):Int))) w2→∃ρ' nm' cs',nm' bs.length=w2.heap.size∧MW C (w2.alloc (.cells #[.slice va fs.length vcp,.int .i64 0] 224)) ρ' nm' fbn cs' ct L (bs++ [fs]) (tk+(fs.length+1)) told∧an w0 (w2.alloc (.cells #[.slice va fs.length vcp,.int .i64 0] 224)) ρ0 ρ'):=aH (fun w2 gg=>(h2.1.of_gr gg).addBlk (h0.trans (h2.2.trans (an.of_gr gg))) hV (cY hv2 gg) hρ hct bL bB bF);have c7:w.cell? ⟨C.mb,7,none⟩=some (.int .i64 (tk:Int)):=by rw [aI hbox];rfl
 have KS0:Hid (∀w',Gr w w'→w'.cell? ⟨C.mb,7,none⟩=some (.int .i64 (tk:Int))):=aH (fun w' g=>g.cell c7 (by simp));have z7:w.frozen? ⟨C.mb,7,none⟩=false:=aR hbox;have hw1:IntKind.i64.wrap ((tk:Int)+((fs.length:Int)+1))=((tk+(fs.length+1):Nat):Int):=by rw [Go.IntWalk.i64_in _ (by omega)];omega
 clear hB' h2 hv2 hbox hm h h0 hv hρ bL bB bF;generalize C.mb=mb at KS0 c7 z7 HZ ⊢;generalize ((tk+(fs.length+1):Nat):Int)=TK at HZ hw1 ⊢;go_enter Tryz.func105,Tryz.ntmps105
 go_wp2_with fail
 refine cH 10 (S:=(fun w'=>w'.cell? ⟨mb,7,none⟩=some (.int .i64 (tk:Int)))) (by kernel_rfl) (KS0.out _ (Gr.drew (Gr.refl _))) (fun hH=>?_);refine tY 0 ?_;simp only [Act.put,sA,s0,s1];refine tY 1 ?_;simp only [Act.put,sA,s0,s1];refine tY 2 ?_;simp only [Act.put,sA,s0,s1];refine tY 3 ?_;simp only [Act.put,sA,s0,s1];refine tY 4 ?_;simp only [Act.put,sA,s0,s1];refine tY 5 ?_;simp only [Act.put,sA,s0,s1];refine cT (i:=6) rfl (by kernel_rfl) (fun K hK=>?_);refine aS rfl 135 _ _ rfl #[.int .i64 (fs.length:Int)] (by simp [Act.eval]) (Tryz.callWords _ _) ((fi fs.length _ (by omega)).mono ?_);rintro e w2 ⟨rfl,hw2⟩;subst hw2;refine .inl ⟨_,rfl,?_⟩;refine hK.out _ _ (fun _=>KS0.out _ (Gr.drew (Gr.refl _))) (fun hH=>?_);replace hH:=hH (by decide);clear hK;try simp only [Act.put,sA,s0,s1]
 refine tY 7 ?_;simp only [Act.put,sA,s0,s1];refine tY 8 ?_;simp only [Act.put,sA,s0,s1];refine tY 9 ?_;simp only [Act.put,sA,s0,s1];refine cT (i:=10) rfl (by kernel_rfl) (fun K hK=>?_);have HK:=aH hK;clear hK;refine ae (by rfl) ?_;go_simp
 have hK:=HK.out;clear HK c7 z7;refine hK.out _ _ (fun h=>absurd rfl h) (fun _=>?_);clear hK;try simp only [Act.put,sA,s0,s1]
 refine iR (by kernel_rfl) ?_ _;clear hH KS0;obtain ⟨ρ',nm',cs',hn,hM,hK⟩:=HZ.out _ (Gr.drew (Gr.refl _));have HR:=aH (And.intro hn (And.intro hM hK));clear hn hM hK HZ;go_wp2_with fail
 go_ret
 exact ⟨ρ',nm',cs',by rw [HR.out.1];simp,HR.out.2.1,HR.out.2.2⟩
end
def ch(L:List dA)(bs:List (List PV)):Nat:=(cK bs (bs.length+(fx L).length+1) ⟨fun _=>false,0,fx L⟩).all
def mr(mark:Nat→Bool)(n:Nat):Nat:=((List.range n).filter fun k=>!mark k).length
theorem om{mark mark':Nat→Bool}:∀{n:Nat},(∀k,k < n→mark' k=mark k)→mr mark' n=mr mark n:=fun {n} h=>by
 unfold mr;congr 1
 exact List.filter_congr fun k hk=>by rw [h k (List.mem_range.1 hk)]
theorem li(mark:Nat→Bool)(n:Nat):mr mark (n+1)=mr mark n+(if mark n then 0 else 1):=by
 unfold mr;rw [List.range_succ,List.filter_append,List.length_append];cases h:mark n<;>simp [h]
theorem po{mark:Nat→Bool}{j:Nat}(hm:mark j=false):∀{n:Nat},j < n→mr (fun k=>decide (k=j) || mark k) n+1=mr mark n
 | 0,h=>by omega
 | n+1,h=>by
  rw [li,li];by_cases e:j=n
  · subst e;have:=om (n:=j) (mark:=mark) (mark':=fun k=>decide (k=j) || mark k) (fun k hk=>by simp;omega)
    rw [this,hm];simp
  · have ih:=po hm (n:=n) (by omega);have:decide (n=j)=false:=by simp;omega
    simp only [this,Bool.false_or];omega
theorem mA:∀(n:Nat),mr (fun _=>false) n=n
 | 0=>rfl
 | n+1=>by rw [li,mA n];rfl
theorem jX{bs:List (List PV)}{st:sC}(h:st.wt= []):∀n,cK bs n st=st
 | 0=>rfl
 | n+1=>by simp [cK,h]
theorem fK{bs:List (List PV)}{st:sC}{wt:List (List PV)}{r:List PV}(h:st.wt=wt++ [r])(n:Nat):cK bs (n+1) st=cK bs n (cr bs r ⟨st.mark,st.all,wt⟩):=by
 simp [cK,h]
theorem dB{bs:List (List PV)}{v:PV}{vs:List PV}{st:sC}(h:v.blk=none):cr bs (v :: vs) st=cr bs vs st:=by
 rw [cr,h]
theorem pd{bs:List (List PV)}{v:PV}{vs:List PV}{st:sC}{j:Nat}(h:v.blk=some j)(hm:st.mark j=true):cr bs (v :: vs) st=cr bs vs st:=by
 rw [cr,h];simp [hm]
theorem lu{bs:List (List PV)}{v:PV}{vs:List PV}{st:sC}{j:Nat}{fs:List PV}(h:v.blk=some j)(hm:st.mark j=false)(hf:bs[j]? =some fs):cr bs (v :: vs) st=cr bs vs ⟨fun k=>decide (k=j) || st.mark k,st.all+(fs.length+1),st.wt++ [fs]⟩:=by
 rw [cr,h];simp [hm,List.getD_eq_getElem?_getD,hf]
def ym:Value→Nat
 | .slice _ n _=>n
 | _=>0
def zz(w:World)(a:Addr):Int:=match w.cell? a with
 | some v=>intOf v
 | none=>0
def AW(nm:Nat→Nat)(n:Nat)(c:Int)(w:World):Nat:=mr (fun k=>decide (zz w ⟨nm k,1,none⟩=c)) n
def nh(r:bC):Prop:=∃i,r=.fsl i∨r=.fst i∨r=.bf i
structure WE(w:World)(ρ:Nat→bC)(nm:Nat→Nat)(n:Nat)(v:Value)(r:List PV):Prop where
 own:w.ownsRow 0 183 2 v r.length (dV nm r)
 role:∀b,v.ownBlock=some b→nh (ρ b)
 bd:Bd n r
 short:r.length≤1000
theorem WE.mv{w w':World}{ρ:Nat→bC}{nm:Nat→Nat}{n:Nat}{v:Value}{r:List PV}(h:WE w ρ nm n v r)(s:∀b,b < w.heap.size→nh (ρ b)→w'.heap[b]? =w.heap[b]?):WE w' ρ nm n v r:=
 ⟨bX h.own fun k hk=>s k (h.own.lt k hk).2 (h.role k hk),h.role,h.bd,h.short⟩
structure RW(C:MC)(w0:World)(ρ:Nat→bC)(nm fbn:Nat→Nat)(c:Int)(L:List dA)(bs:List (List PV))(tk:Nat)(told:List Int)(wr:World)(vw:Value)(st:sC):Prop where
 mw:∃cs,MW C wr ρ nm fbn cs c L bs tk told∧∀j,j < bs.length→st.mark j=decide (cs j=c)
 kp:an w0 wr ρ ρ
 wt:∃es:List (Value×List PV),es.map (·.2)=st.wt∧wr.ownsRow w0.heap.size 177 1 vw es.length (es.map (·.1))∧∀e∈es,WE wr ρ nm bs.length e.1 e.2
section
variable {C:MC} {w0 wr w':World} {ρ:Nat→bC} {nm fbn:Nat→Nat} {c:Int} {L:List dA} {bs:List (List PV)} {tk:Nat} {told:List Int} {vw:Value} {st:sC}
theorem RW.of_gr(h:RW C w0 ρ nm fbn c L bs tk told wr vw st)(g:Gr wr w'):RW C w0 ρ nm fbn c L bs tk told w' vw st:=by
 obtain ⟨cs,hM,hc⟩:=h.mw;obtain ⟨es,h1,h2,h3⟩:=h.wt;exact ⟨⟨cs,hM.of_gr g,hc⟩,h.kp.trans (an.of_gr g),⟨es,h1,cY h2 g,fun e he=>(h3 e he).mv fun b hb _=>g.block b hb (by simp)⟩⟩
theorem RW.un(h:RW C w0 ρ nm fbn c L bs tk told wr vw st):AW nm bs.length c wr=mr st.mark bs.length:=by
 obtain ⟨cs,hM,hc⟩:=h.mw;unfold AW;refine om fun k hk=>?_
 obtain ⟨⟨v,hB⟩,_⟩:=hM.blks k _ (List.getElem?_eq_getElem hk);have:wr.cell? ⟨nm k,1,none⟩=some (.int .i64 (cs k)):=by rw [aI hB.box];rfl
 rw [hc k hk];unfold zz;rw [this];rfl
theorem RW.len(h:RW C w0 ρ nm fbn c L bs tk told wr vw st):ym vw=st.wt.length:=by
 obtain ⟨es,h1,h2,_⟩:=h.wt;obtain ⟨ao,cp,rfl⟩:=aL h2;rw [←h1];simp [ym]
theorem RW.mark{j:Nat}{fs:List PV}(h:RW C w0 ρ nm fbn c L bs tk told wr vw st)(hno:∀b,w0.heap.size≤b→ρ b=.no)(hj:bs[j]? =some fs)(hc0:0≤c):RW C w0 ρ nm fbn c L bs tk told (wr.setCell ⟨nm j,1,none⟩ (.int .i64 c)) vw ⟨fun k=>decide (k=j) || st.mark k,st.all,st.wt⟩:=by
 obtain ⟨cs,hM,hc⟩:=h.mw;obtain ⟨es,h1,h2,h3⟩:=h.wt;obtain ⟨⟨v,hB⟩,_⟩:=hM.blks j fs hj;have hm:=hM.mark c hj hB ⟨hc0,Int.le_refl _⟩;have hoth:∀b,¬b=nm j→(wr.setCell ⟨nm j,1,none⟩ (.int .i64 c)).heap[b]? =wr.heap[b]? :=fun b hb=>Below.heap_setCell _ _ _ _ hb
 refine ⟨⟨_,hm.1,fun k hk=>?_⟩,h.kp.trans hm.2,⟨es,h1,bX h2 fun k hk=>hoth k fun e=>?_,fun e he=>(h3 e he).mv fun b hb hr=>hoth b fun e2=>?_⟩⟩
 · show (decide (k=j) || st.mark k)=decide ((if k=j then c else cs k)=c)
   by_cases e:k=j
   · simp [e]
   · simp [e,hc k hk]
 · have:=hno k (h2.lt k hk).1
   rw [e,hB.rb] at this;cases this
 · rw [e2,hB.rb] at hr;obtain ⟨i,hi⟩:=hr;rcases hi with hi|hi|hi<;>cases hi
theorem RW.grow{wa:World}{vw':Value}{es new:List (Value×List PV)}{all:Nat}(h:RW C w0 ρ nm fbn c L bs tk told wr vw st)(hno:∀b,w0.heap.size≤b→ρ b=.no)(hV:C.V.heap.size≤w0.heap.size)(hg:Gr wr wa)(hga:wa.grownBy w' vw.ownBlock)(ho:w'.ownsRow w0.heap.size 177 1 vw' (es++new).length ((es++new).map (·.1)))(hes:es.map (·.2)=st.wt)(he:∀e∈es,WE wr ρ nm bs.length e.1 e.2)(hn:∀e∈new,WE wr ρ nm bs.length e.1 e.2):
 RW C w0 ρ nm fbn c L bs tk told w' vw' ⟨st.mark,all,st.wt++new.map (·.2)⟩:=by
 obtain ⟨cs,hM,hc⟩:=h.mw;obtain ⟨es0,_,h2,_⟩:=h.wt;have hvw:∀b,vw.ownBlock=some b→w0.heap.size≤b∧ρ b=.no:=fun b hb=>⟨(h2.lt b hb).1,hno b (h2.lt b hb).1⟩
 have hkeep:∀b,b < wr.heap.size→¬vw.ownBlock=some b→w'.heap[b]? =wr.heap[b]? :=fun b hb hne=>(hga.block b (Nat.lt_of_lt_of_le hb hg.size) (fun e=>hne e.symm)).trans (hg.block b hb (by simp))
 have hM':MW C w' ρ nm fbn cs c L bs tk told:=hM.other (hga.os.trans hg.os) (hga.tape.trans hg.tape) (hga.output.trans hg.output) (Nat.le_trans hg.size hga.size) fun b hb hr=>hkeep b hb fun e=>by
  rcases hr with hr|hr
  · exact hr (hvw b e).2
  · have:=(hvw b e).1;omega
 have hrow:∀b,b < wr.heap.size→nh (ρ b)→w'.heap[b]? =wr.heap[b]? :=fun b hb hr=>hkeep b hb fun e=>by
  obtain ⟨i,hi⟩:=hr;rw [(hvw b e).2] at hi;rcases hi with hi|hi|hi<;>cases hi
 refine ⟨⟨cs,hM',hc⟩,⟨hga.os.trans (hg.os.trans h.kp.os),hga.tape.trans (hg.tape.trans h.kp.tape),hga.output.trans (hg.output.trans h.kp.output),Nat.le_trans h.kp.size (Nat.le_trans hg.size hga.size),fun _ _=>rfl,fun b hb e=>(hkeep b (Nat.lt_of_lt_of_le hb h.kp.size) fun e2=>by have:=(hvw b e2).1;omega).trans (h.kp.keep b hb e)⟩,⟨es++new,by simp [hes],ho,fun e hx=>?_⟩⟩;rcases List.mem_append.1 hx with hx|hx
 · exact (he e hx).mv hrow
 · exact (hn e hx).mv hrow
end
theorem kX.at{C:MC}{w:World}{ρ:Nat→bC}{nm fbn:Nat→Nat}:∀{L:List dA} {i:Nat},kX C w ρ nm fbn L→i < L.length→∃x∈L,L.drop (L.length - (i+1))=x :: L.drop (L.length - i)∧Ai C w ρ nm fbn i x
 | [],i,_,hi=>by simp at hi
 | x :: l,i,h,hi=>by
  by_cases e:i=l.length
  · subst e;exact ⟨x,List.mem_cons_self,by simp,h.1⟩
  · have hl:i < l.length:=by simp at hi;omega
    obtain ⟨y,hy,e1,e2⟩:=kX.at h.2 hl;refine ⟨y,List.mem_cons_of_mem _ hy,?_,e2⟩;rw [show (x :: l).length - (i+1)=(l.length - (i+1))+1 by simp;omega,show (x :: l).length - i=(l.length - i)+1 by simp;omega,List.drop_succ_cons,List.drop_succ_cons];exact e1
theorem ki:∀L:List dA,(fx L).length=2 * L.length
 | []=>rfl
 | x :: l=>by simp [fx,ki l];omega
end Go.Proofs.YtkgncijcnlfhiaaGreat
