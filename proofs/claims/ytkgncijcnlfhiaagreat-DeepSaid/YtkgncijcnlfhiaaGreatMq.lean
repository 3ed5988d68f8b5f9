import Derived.Test.YtkgncijcnlfhiaaGreatMp
namespace Go.Proofs.YtkgncijcnlfhiaaGreat
set_option maxRecDepth 100000
set_option maxHeartbeats 2000000
set_option linter.unusedVariables false
set_option linter.unusedSimpArgs false
open Go.RowKit
attribute [local go_sem ↓] Go.wp_at_zero Go.wp_at_succ
def InR(C:MC)(w:World)(ρ:Nat→Role)(nm fbn:Nat→Nat)(cs:Nat→Int)(ct:Int)(L:List PFr)(bs:List (List PV))(tk:Nat)(told:List Int)(r:Bool)(e:Ending)(w':World):Prop:=e=.returned (.bool r)∧MGo C w ρ nm fbn cs ct L bs tk told w'
section
variable {C:MC} {w w':World} {ρ:Nat→Role} {nm fbn:Nat→Nat} {cs:Nat→Int} {ct:Int} {L:List PFr} {bs:List (List PV)} {tk:Nat} {told:List Int}
theorem into_get_nil{x:PFr}{s:List PV}{v:PV}(b:Int)(hx:x.stack=s++ [v])(hv:v.blk=none)(a:Int)(h:MW C w ρ nm fbn cs ct (x :: L) bs tk told)(hn:x.stack.length≤1000):
 Calls Tryz.prog 106 #[.pointer (some ⟨fbn L.length,0,none⟩),.agg #[.int .i64 16,.int .i64 a,.int .i64 b]] w (InR C w ρ nm fbn cs ct (x.st s :: L) bs tk told false):=by
 have g1:=((Gr.refl w).alloc (.cells #[.int .i64 16,.int .i64 a,.int .i64 b] 26)).alloc (.cells #[.int .i64 0,.pointer none] 183);have hs1:(w.alloc (.cells #[.int .i64 16,.int .i64 a,.int .i64 b] 26)).heap.size=w.heap.size+1:=by simp
 have hb0:=(((Gr.refl (w.alloc (.cells #[.int .i64 16,.int .i64 a,.int .i64 b] 26))).alloc (.cells #[.int .i64 0,.pointer none] 183)).block w.heap.size (by simp) (by simp)).trans (heap_alloc_new w (.cells #[.int .i64 16,.int .i64 a,.int .i64 b] 26));have hb1:=heap_alloc_new (w.alloc (.cells #[.int .i64 16,.int .i64 a,.int .i64 b] 26)) (.cells #[.int .i64 0,.pointer none] 183);rw [hs1] at hb1;have h1:=h.of_gr g1;have HG:=hide g1;have HB0:=hide hb0;have HB1:=hide hb1;have HN0:=hide (h.new_no (Nat.le_refl _));have HN1:=hide (h.new_no (Nat.le_succ _));have HL0:Hid (w.heap.size < ((w.alloc (.cells #[.int .i64 16,.int .i64 a,.int .i64 b] 26)).alloc (.cells #[.int .i64 0,.pointer none] 183)).heap.size):=hide (by simp;omega);have HL1:Hid (w.heap.size+1 < ((w.alloc (.cells #[.int .i64 16,.int .i64 a,.int .i64 b] 26)).alloc (.cells #[.int .i64 0,.pointer none] 183)).heap.size):=hide (by simp);have hc:=pop_mw h1 hx hn;have e0:pvP nm v.blk=none:=by rw [hv];rfl
 rw [e0] at hc;have HC:=hide hc;have hnil:=Tryz.blkNil;have hf1:=Tryz.fld1;clear hc e0 h h1 g1 hs1 hb0 hb1 HB1 HN1 HL1 hx hv;generalize fbn L.length=fb at HC ⊢;go_enter Tryz.func106,Tryz.ntmps106
 go_wp2_with fail
 refine HC.out.mono ?_;rintro e w2 ⟨rfl,ρ',hM,hK⟩;have HR:=hide (And.intro hM ((Kept.of_gr HG.out).trans hK));clear hM hK;go_wp2_with fail
 go_ret
 exact ⟨rfl,ρ',HR.out.1,HR.out.2⟩
theorem into_get{x:PFr}{s fs:List PV}{v fv:PV}{j b:Nat}(hx:x.stack=s++ [v])(hv:v.blk=some j)(hj:bs[j]? =some fs)(hb:fs[b]? =some fv)(a:Int)(h:MW C w ρ nm fbn cs ct (x :: L) bs tk told)(hn:x.stack.length≤1000):
 Calls Tryz.prog 106 #[.pointer (some ⟨fbn L.length,0,none⟩),.agg #[.int .i64 16,.int .i64 a,.int .i64 (b:Int)]] w (InR C w ρ nm fbn cs ct (x.st (s++ [fv]) :: L) bs tk told true):=by
 have g1:=((Gr.refl w).alloc (.cells #[.int .i64 16,.int .i64 a,.int .i64 (b:Int)] 26)).alloc (.cells #[.int .i64 0,.pointer none] 183);have hs1:(w.alloc (.cells #[.int .i64 16,.int .i64 a,.int .i64 (b:Int)] 26)).heap.size=w.heap.size+1:=by simp
 have hb0:=(((Gr.refl (w.alloc (.cells #[.int .i64 16,.int .i64 a,.int .i64 (b:Int)] 26))).alloc (.cells #[.int .i64 0,.pointer none] 183)).block w.heap.size (by simp) (by simp)).trans (heap_alloc_new w (.cells #[.int .i64 16,.int .i64 a,.int .i64 (b:Int)] 26));have hb1:=heap_alloc_new (w.alloc (.cells #[.int .i64 16,.int .i64 a,.int .i64 (b:Int)] 26)) (.cells #[.int .i64 0,.pointer none] 183);rw [hs1] at hb1;have h1:=h.of_gr g1;have HG:=hide g1;have HB0:=hide hb0;have HB1:=hide hb1;have HN0:=hide (h.new_no (Nat.le_refl _));have HN1:=hide (h.new_no (Nat.le_succ _));have HL0:Hid (w.heap.size < ((w.alloc (.cells #[.int .i64 16,.int .i64 a,.int .i64 (b:Int)] 26)).alloc (.cells #[.int .i64 0,.pointer none] 183)).heap.size):=hide (by simp;omega);have HL1:Hid (w.heap.size+1 < ((w.alloc (.cells #[.int .i64 16,.int .i64 a,.int .i64 (b:Int)] 26)).alloc (.cells #[.int .i64 0,.pointer none] 183)).heap.size):=hide (by simp);have hc:=pop_mw h1 hx hn;have e0:pvP nm v.blk=some ⟨nm j,0,none⟩:=by rw [hv];rfl
 rw [e0] at hc;have HC:=hide hc;have hbl:=(List.getElem?_eq_some_iff.1 hb).1;have hbi:(b:Int) < (fs.length:Int):=by omega
 have hf1:=Tryz.fld1;have hne:=fun (w:World)=>Tryz.blkNe ⟨nm j,0,none⟩ w
 have hl:s.length≤1000:=by rw [hx] at hn;simp at hn;omega
 clear hc e0 h h1 g1 hs1 hb0 hb1 HB1 HN1 HL1 hx hv;go_enter Tryz.func106,Tryz.ntmps106
 go_wp2_with fail
 refine HC.out.mono ?_;rintro e w2 ⟨rfl,ρ',hM,hK⟩;have HR:=hide (And.intro hM ((Kept.of_gr HG.out).trans hK));have HE:=hide ((hK.keep _ HL0.out HN0.out).trans HB0.out);clear hM hK HC HG HB0 HN0 HL0;obtain ⟨⟨vf,hB⟩,_⟩:=HR.out.1.blks j fs hj;have hfl:=hB.fl;have hbox:=hB.box;have hrf:=hB.rf;obtain ⟨g,cap,rfl⟩:∃g cap,vf=.slice (some ⟨g,0,none⟩) fs.length cap:=by
  rcases hfl.2 with ⟨_,e⟩|⟨g,cap,cur,e,_⟩
  · omega
  · exact ⟨g,cap,e⟩
 have hr:=rowV_at nm fs b fv hb;have d0:=(hfl.cellAt (b * 2) (by omega)).trans hr.1;have d1:=(hfl.cellAt (b * 2+1) (by omega)).trans hr.2;have k0:w2.cell? ⟨w.heap.size,0,none⟩=some (.int .i64 16):=by rw [hcell_ HE.out];rfl
 have KS0:Hid (∀w',Gr w2 w'→w'.cell? ⟨nm j,0,none⟩=some (.slice (some ⟨g,0,none⟩) fs.length cap)∧w'.cell? ⟨w.heap.size,2,none⟩=some (.int .i64 (b:Int))∧w'.cell? ⟨g,b * 2,none⟩=some (.int .i64 fv.num)∧w'.cell? ⟨g,b * 2+1,none⟩=some (.pointer (pvP nm fv.blk))):=hide (fun w' gg=>⟨gg.cell (by rw [hcell_ hbox];rfl) (by simp),gg.cell (by rw [hcell_ HE.out];rfl) (by simp),gg.cell d0 (by simp),gg.cell d1 (by simp)⟩);have HP:Hid (∀w',Gr w2 w'→Calls Tryz.prog 103 #[.pointer (some ⟨fbn L.length,0,none⟩),.agg #[.int .i64 fv.num,.pointer (pvP nm fv.blk)]] w' fun e w3=>e=.returned (.tuple #[])∧MGo C w' ρ' nm fbn cs ct (x.st (s++ [fv]) :: L) bs tk told w3):=hide (fun w' g=>push_mw (x:=x.st s) fv (HR.out.1.of_gr g) hl);clear hB hfl hbox hrf hr d0 d1 HE hb hj hn hl;generalize ((w.alloc (.cells #[.int .i64 16,.int .i64 a,.int .i64 (b:Int)] 26)).alloc (.cells #[.int .i64 0,.pointer none] 183))=W1;generalize fbn L.length=fb at HP ⊢;generalize fs.length=n at KS0 hbi hbl;generalize pvP nm fv.blk=p at HP KS0;generalize fv.num=num at HP KS0;generalize nm j=bj at KS0 hne ⊢;generalize w.heap.size=bi at KS0 k0 ⊢;go_wp2_with fail
 refine wp_region_z 9 (S:=(fun w'=>w'.cell? ⟨bj,0,none⟩=some (.slice (some ⟨g,0,none⟩) n cap)∧w'.cell? ⟨bi,2,none⟩=some (.int .i64 (b:Int))∧w'.cell? ⟨g,b * 2,none⟩=some (.int .i64 num)∧w'.cell? ⟨g,b * 2+1,none⟩=some (.pointer p))) (by kernel_rfl) (KS0.out _ (Gr.drew (Gr.refl _))) (fun hH=>?_);refine tY 0 _ rfl (fun w hS=>by go_simp<;>rfl) hH ?_
 simp only [Act.put,sA,s0,s1];refine tY 1 _ rfl (fun w hS=>by go_simp<;>rfl) hH ?_
 simp only [Act.put,sA,s0,s1];refine tY 2 _ rfl (fun w hS=>by go_simp<;>rfl) hH ?_
 simp only [Act.put,sA,s0,s1];refine tY 3 _ rfl (fun w hS=>by go_simp<;>rfl) hH ?_
 simp only [Act.put,sA,s0,s1];refine tY 4 _ rfl (fun w hS=>by go_simp<;>rfl) hH ?_
 simp only [Act.put,sA,s0,s1];refine tY 5 _ rfl (fun w hS=>by go_simp<;>rfl) hH ?_
 simp only [Act.put,sA,s0,s1];refine tY 6 _ rfl (fun w hS=>by go_simp<;>rfl) hH ?_
 simp only [Act.put,sA,s0,s1];refine tY 7 _ rfl (fun w hS=>by go_simp<;>rfl) hH ?_
 simp only [Act.put,sA,s0,s1];refine tY 8 _ rfl (fun w hS=>by go_simp<;>rfl) hH ?_
 simp only [Act.put,sA,s0,s1];refine aloneZ (i:=9) rfl (by kernel_rfl) (fun K hK=>?_);refine step_calls_w rfl 103 _ _ rfl #[.pointer (some ⟨fb,0,none⟩),.agg #[.int .i64 num,.pointer p]] (by simp [Act.eval]) (Tryz.callPush _ _) ((HP.out _ (Gr.drew (Gr.refl _))).mono ?_);rintro e w3 ⟨rfl,ρ3,hM,hK2⟩;have HR3:=hide (And.intro hM (HR.out.2.trans ((Kept.of_gr (Gr.drew (Gr.refl _))).trans hK2)));clear hM hK2;refine .inl ⟨_,rfl,?_⟩;refine hK.out _ _ (fun h=>absurd rfl h) (fun _=>?_);clear hK;try simp only [Act.put,sA,s0,s1]
 refine doneZ (by kernel_rfl) ?_ _;clear hH;go_wp2_with fail
 go_ret
 exact ⟨rfl,ρ3,HR3.out.1,HR3.out.2⟩
theorem into_set_nil{x:PFr}{s:List PV}{v v':PV}(b:Int)(hx:x.stack=s++ [v,v'])(hv:v.blk=none)(a:Int)(h:MW C w ρ nm fbn cs ct (x :: L) bs tk told)(hn:x.stack.length≤1000):
 Calls Tryz.prog 106 #[.pointer (some ⟨fbn L.length,0,none⟩),.agg #[.int .i64 17,.int .i64 a,.int .i64 b]] w (InR C w ρ nm fbn cs ct (x.st s :: L) bs tk told false):=by
 have g1:=((Gr.refl w).alloc (.cells #[.int .i64 17,.int .i64 a,.int .i64 b] 26)).alloc (.cells #[.int .i64 0,.pointer none] 183);have hs1:(w.alloc (.cells #[.int .i64 17,.int .i64 a,.int .i64 b] 26)).heap.size=w.heap.size+1:=by simp
 have hb0:=(((Gr.refl (w.alloc (.cells #[.int .i64 17,.int .i64 a,.int .i64 b] 26))).alloc (.cells #[.int .i64 0,.pointer none] 183)).block w.heap.size (by simp) (by simp)).trans (heap_alloc_new w (.cells #[.int .i64 17,.int .i64 a,.int .i64 b] 26));have hb1:=heap_alloc_new (w.alloc (.cells #[.int .i64 17,.int .i64 a,.int .i64 b] 26)) (.cells #[.int .i64 0,.pointer none] 183);rw [hs1] at hb1;have h1:=h.of_gr g1;have HG:=hide g1;have HB0:=hide hb0;have HB1:=hide hb1;have HN0:=hide (h.new_no (Nat.le_refl _));have HN1:=hide (h.new_no (Nat.le_succ _));have HL0:Hid (w.heap.size < ((w.alloc (.cells #[.int .i64 17,.int .i64 a,.int .i64 b] 26)).alloc (.cells #[.int .i64 0,.pointer none] 183)).heap.size):=hide (by simp;omega);have HL1:Hid (w.heap.size+1 < ((w.alloc (.cells #[.int .i64 17,.int .i64 a,.int .i64 b] 26)).alloc (.cells #[.int .i64 0,.pointer none] 183)).heap.size):=hide (by simp);have hl:s.length+2≤1000:=by rw [hx] at hn;simpa using hn
 have HC:=hide (pop_mw (s:=s++ [v]) (v:=v') h1 (by rw [hx];simp) hn);have HV:=hide h.gr.size;have HC2:Hid (∀(w2:World) (ρ':Nat→Role),MW C w2 ρ' nm fbn cs ct (x.st (s++ [v]) :: L) bs tk told→Calls Tryz.prog 100 #[.pointer (some ⟨fbn L.length,0,none⟩)] w2 fun e w'=>e=.returned (.agg #[.int .i64 v.num,.pointer none])∧MGo C w2 ρ' nm fbn cs ct (x.st s :: L) bs tk told w'):=hide (fun w2 ρ' hM=>by
  have hc:=pop_mw (x:=x.st (s++ [v])) (s:=s) (v:=v) hM rfl (by show (s++ [v]).length≤1000;simp;omega);have e0:pvP nm v.blk=none:=by rw [hv];rfl
  rw [e0] at hc;exact hc)
 have hnil:=Tryz.blkNil;have hf1:=Tryz.fld1;clear h h1 g1 hs1 hb0 hb1 hx hv hl;generalize fbn L.length=fb at HC HC2 ⊢;go_enter Tryz.func106,Tryz.ntmps106
 go_wp2_with fail
 refine HC.out.mono ?_;rintro e w2 ⟨rfl,ρ',hM,hK⟩;have HR:=hide (And.intro hM ((Kept.of_gr HG.out).trans hK));have HE0:=hide ((hK.keep _ HL0.out HN0.out).trans HB0.out);have HE1:=hide ((hK.keep _ HL1.out HN1.out).trans HB1.out);have HM0:=hide ((hK.role _ HL0.out).trans HN0.out);have HM1:=hide ((hK.role _ HL1.out).trans HN1.out);have HS0:=hide (Nat.lt_of_lt_of_le HL0.out hK.size);have HS1:=hide (Nat.lt_of_lt_of_le HL1.out hK.size);clear hM hK HC HG HB0 HN0 HL0 HB1 HN1 HL1;generalize (w.alloc (.cells #[.int .i64 17,.int .i64 a,.int .i64 b] 26)).alloc (.cells #[.int .i64 0,.pointer none] 183)=W1;have q0:w2.cell? ⟨w.heap.size+1,0,none⟩=some (.int .i64 0):=by rw [hcell_ HE1.out];rfl
 have q1:w2.cell? ⟨w.heap.size+1,1,none⟩=some (.pointer none):=by rw [hcell_ HE1.out];rfl
 have y0:w2.frozen? ⟨w.heap.size+1,0,none⟩=false:=hfrozen_ HE1.out;have y1:w2.frozen? ⟨w.heap.size+1,1,none⟩=false:=hfrozen_ HE1.out;go_upto_region 4 with fail
 have hoth:∀b,¬b=w.heap.size+1→((w2.setCell ⟨w.heap.size+1,0,none⟩ (.int .i64 v'.num)).setCell ⟨w.heap.size+1,1,none⟩ (.pointer (pvP nm v'.blk))).heap[b]? =w2.heap[b]? :=fun b hb=>(Below.heap_setCell _ _ _ _ hb).trans (Below.heap_setCell _ _ _ _ hb)
 have hM3:MW C ((w2.setCell ⟨w.heap.size+1,0,none⟩ (.int .i64 v'.num)).setCell ⟨w.heap.size+1,1,none⟩ (.pointer (pvP nm v'.blk))) ρ' nm fbn cs ct (x.st (s++ [v]) :: L) bs tk told:=HR.out.1.other rfl rfl rfl (by simp) (fun b hb hr=>hoth b (fun e=>by
  subst e;rcases hr with hr|hr
  · exact hr HM1.out
  · have:=HV.out;omega))
 have hK3:Kept w ((w2.setCell ⟨w.heap.size+1,0,none⟩ (.int .i64 v'.num)).setCell ⟨w.heap.size+1,1,none⟩ (.pointer (pvP nm v'.blk))) ρ ρ':=⟨HR.out.2.os,HR.out.2.tape,HR.out.2.output,by have:=HR.out.2.size;simpa using this,HR.out.2.role,fun b hb e=>(hoth b (by omega)).trans (HR.out.2.keep b hb e)⟩;have HR3:=hide (And.intro hM3 hK3);have HE3:Hid (((w2.setCell ⟨w.heap.size+1,0,none⟩ (.int .i64 v'.num)).setCell ⟨w.heap.size+1,1,none⟩ (.pointer (pvP nm v'.blk))).heap[w.heap.size]? =_):=hide ((hoth _ (by omega)).trans HE0.out);have HF3:=hide ((heap_setCell_same _ (w.heap.size+1) 1 _ _ (.pointer (pvP nm v'.blk)) (heap_setCell_same w2 (w.heap.size+1) 0 _ _ (.int .i64 v'.num) HE1.out)).trans (by simp:_=some (.cells #[.int .i64 v'.num,.pointer (pvP nm v'.blk)] 183 (0,0))));have HS3:Hid (w.heap.size+1 < ((w2.setCell ⟨w.heap.size+1,0,none⟩ (.int .i64 v'.num)).setCell ⟨w.heap.size+1,1,none⟩ (.pointer (pvP nm v'.blk))).heap.size):=hide (by have:=HS1.out;simpa using this);clear hM3 hK3 hoth q0 q1 y0 y1 HE0 HE1 HS0 HS1 HR;generalize ((w2.setCell ⟨w.heap.size+1,0,none⟩ (.int .i64 v'.num)).setCell ⟨w.heap.size+1,1,none⟩ (.pointer (pvP nm v'.blk)))=W3 at HR3 HE3 HF3 HS3 ⊢;go_wp2_with fail
 refine (HC2.out _ _ HR3.out.1).mono ?_;rintro e w4 ⟨rfl,ρ4,hM,hK⟩;have HR4:=hide (And.intro hM (HR3.out.2.trans hK));have HE4:=hide ((hK.keep _ (Nat.lt_of_succ_lt HS3.out) HM0.out).trans HE3.out);have HF4:=hide ((hK.keep _ HS3.out HM1.out).trans HF3.out);clear hM hK HR3 HE3 HF3 HS3 HC2 HM0 HM1;go_wp2_with fail
 go_ret
 exact ⟨rfl,ρ4,HR4.out.1,HR4.out.2⟩
theorem into_set{x:PFr}{s fs:List PV}{v v':PV}{j b:Nat}(hx:x.stack=s++ [v,v'])(hv:v.blk=some j)(hj:bs[j]? =some fs)(hb:b < fs.length)(a:Int)(h:MW C w ρ nm fbn cs ct (x :: L) bs tk told)(hn:x.stack.length≤1000):
 Calls Tryz.prog 106 #[.pointer (some ⟨fbn L.length,0,none⟩),.agg #[.int .i64 17,.int .i64 a,.int .i64 (b:Int)]] w (InR C w ρ nm fbn cs ct (x.st s :: L) (bs.set j (fs.set b v')) tk told true):=by
 have g1:=((Gr.refl w).alloc (.cells #[.int .i64 17,.int .i64 a,.int .i64 (b:Int)] 26)).alloc (.cells #[.int .i64 0,.pointer none] 183);have hs1:(w.alloc (.cells #[.int .i64 17,.int .i64 a,.int .i64 (b:Int)] 26)).heap.size=w.heap.size+1:=by simp
 have hb0:=(((Gr.refl (w.alloc (.cells #[.int .i64 17,.int .i64 a,.int .i64 (b:Int)] 26))).alloc (.cells #[.int .i64 0,.pointer none] 183)).block w.heap.size (by simp) (by simp)).trans (heap_alloc_new w (.cells #[.int .i64 17,.int .i64 a,.int .i64 (b:Int)] 26));have hb1:=heap_alloc_new (w.alloc (.cells #[.int .i64 17,.int .i64 a,.int .i64 (b:Int)] 26)) (.cells #[.int .i64 0,.pointer none] 183);rw [hs1] at hb1;have h1:=h.of_gr g1;have HG:=hide g1;have HB0:=hide hb0;have HB1:=hide hb1;have HN0:=hide (h.new_no (Nat.le_refl _));have HN1:=hide (h.new_no (Nat.le_succ _));have HL0:Hid (w.heap.size < ((w.alloc (.cells #[.int .i64 17,.int .i64 a,.int .i64 (b:Int)] 26)).alloc (.cells #[.int .i64 0,.pointer none] 183)).heap.size):=hide (by simp;omega);have HL1:Hid (w.heap.size+1 < ((w.alloc (.cells #[.int .i64 17,.int .i64 a,.int .i64 (b:Int)] 26)).alloc (.cells #[.int .i64 0,.pointer none] 183)).heap.size):=hide (by simp);have hl:s.length+2≤1000:=by rw [hx] at hn;simpa using hn
 have HC:=hide (pop_mw (s:=s++ [v]) (v:=v') h1 (by rw [hx];simp) hn);have HV:=hide h.gr.size;have HC2:Hid (∀(w2:World) (ρ':Nat→Role),MW C w2 ρ' nm fbn cs ct (x.st (s++ [v]) :: L) bs tk told→Calls Tryz.prog 100 #[.pointer (some ⟨fbn L.length,0,none⟩)] w2 fun e w'=>e=.returned (.agg #[.int .i64 v.num,.pointer (some ⟨nm j,0,none⟩)])∧MGo C w2 ρ' nm fbn cs ct (x.st s :: L) bs tk told w'):=hide (fun w2 ρ' hM=>by
  have hc:=pop_mw (x:=x.st (s++ [v])) (s:=s) (v:=v) hM rfl (by show (s++ [v]).length≤1000;simp;omega);have e0:pvP nm v.blk=some ⟨nm j,0,none⟩:=by rw [hv];rfl
  rw [e0] at hc;exact hc)
 have hbi:(b:Int) < (fs.length:Int):=by omega
 have hf1:=Tryz.fld1;have hne:=fun (w:World)=>Tryz.blkNe ⟨nm j,0,none⟩ w
 clear h h1 g1 hs1 hb0 hb1 hx hv hl hn;generalize hFB:fbn L.length=fb at HC HC2 ⊢;clear hFB;go_enter Tryz.func106,Tryz.ntmps106
 go_wp2_with fail
 refine HC.out.mono ?_;rintro e w2 ⟨rfl,ρ',hM,hK⟩;have HR:=hide (And.intro hM ((Kept.of_gr HG.out).trans hK));have HE0:=hide ((hK.keep _ HL0.out HN0.out).trans HB0.out);have HE1:=hide ((hK.keep _ HL1.out HN1.out).trans HB1.out);have HM0:=hide ((hK.role _ HL0.out).trans HN0.out);have HM1:=hide ((hK.role _ HL1.out).trans HN1.out);have HS0:=hide (Nat.lt_of_lt_of_le HL0.out hK.size);have HS1:=hide (Nat.lt_of_lt_of_le HL1.out hK.size);clear hM hK HC HG HB0 HN0 HL0 HB1 HN1 HL1;generalize (w.alloc (.cells #[.int .i64 17,.int .i64 a,.int .i64 (b:Int)] 26)).alloc (.cells #[.int .i64 0,.pointer none] 183)=W1;have q0:w2.cell? ⟨w.heap.size+1,0,none⟩=some (.int .i64 0):=by rw [hcell_ HE1.out];rfl
 have q1:w2.cell? ⟨w.heap.size+1,1,none⟩=some (.pointer none):=by rw [hcell_ HE1.out];rfl
 have y0:w2.frozen? ⟨w.heap.size+1,0,none⟩=false:=hfrozen_ HE1.out;have y1:w2.frozen? ⟨w.heap.size+1,1,none⟩=false:=hfrozen_ HE1.out;go_upto_region 4 with fail
 have hoth:∀b,¬b=w.heap.size+1→((w2.setCell ⟨w.heap.size+1,0,none⟩ (.int .i64 v'.num)).setCell ⟨w.heap.size+1,1,none⟩ (.pointer (pvP nm v'.blk))).heap[b]? =w2.heap[b]? :=fun b hb=>(Below.heap_setCell _ _ _ _ hb).trans (Below.heap_setCell _ _ _ _ hb)
 have hM3:MW C ((w2.setCell ⟨w.heap.size+1,0,none⟩ (.int .i64 v'.num)).setCell ⟨w.heap.size+1,1,none⟩ (.pointer (pvP nm v'.blk))) ρ' nm fbn cs ct (x.st (s++ [v]) :: L) bs tk told:=HR.out.1.other rfl rfl rfl (by simp) (fun b hb hr=>hoth b (fun e=>by
  subst e;rcases hr with hr|hr
  · exact hr HM1.out
  · have:=HV.out;omega))
 have hK3:Kept w ((w2.setCell ⟨w.heap.size+1,0,none⟩ (.int .i64 v'.num)).setCell ⟨w.heap.size+1,1,none⟩ (.pointer (pvP nm v'.blk))) ρ ρ':=⟨HR.out.2.os,HR.out.2.tape,HR.out.2.output,by have:=HR.out.2.size;simpa using this,HR.out.2.role,fun b hb e=>(hoth b (by omega)).trans (HR.out.2.keep b hb e)⟩;have HR3:=hide (And.intro hM3 hK3);have HE3:Hid (((w2.setCell ⟨w.heap.size+1,0,none⟩ (.int .i64 v'.num)).setCell ⟨w.heap.size+1,1,none⟩ (.pointer (pvP nm v'.blk))).heap[w.heap.size]? =_):=hide ((hoth _ (by omega)).trans HE0.out);have HF3:=hide ((heap_setCell_same _ (w.heap.size+1) 1 _ _ (.pointer (pvP nm v'.blk)) (heap_setCell_same w2 (w.heap.size+1) 0 _ _ (.int .i64 v'.num) HE1.out)).trans (by simp:_=some (.cells #[.int .i64 v'.num,.pointer (pvP nm v'.blk)] 183 (0,0))));have HS3:Hid (w.heap.size+1 < ((w2.setCell ⟨w.heap.size+1,0,none⟩ (.int .i64 v'.num)).setCell ⟨w.heap.size+1,1,none⟩ (.pointer (pvP nm v'.blk))).heap.size):=hide (by have:=HS1.out;simpa using this);clear hM3 hK3 hoth q0 q1 y0 y1 HE0 HE1 HS0 HS1 HR;generalize ((w2.setCell ⟨w.heap.size+1,0,none⟩ (.int .i64 v'.num)).setCell ⟨w.heap.size+1,1,none⟩ (.pointer (pvP nm v'.blk)))=W3 at HR3 HE3 HF3 HS3 ⊢;go_wp2_with fail
 refine (HC2.out _ _ HR3.out.1).mono ?_;rintro e w4 ⟨rfl,ρ4,hM,hK⟩;have HR4:=hide (And.intro hM (HR3.out.2.trans hK));have HE4:=hide ((hK.keep _ (Nat.lt_of_succ_lt HS3.out) HM0.out).trans HE3.out);have HF4:=hide ((hK.keep _ HS3.out HM1.out).trans HF3.out);clear hM hK HR3 HE3 HF3 HS3 HC2 HM0 HM1;obtain ⟨⟨vf,hB⟩,_⟩:=HR4.out.1.blks j fs hj;have hfl:=hB.fl;have hbox:=hB.box;have hrf:=hB.rf;obtain ⟨g,cap,rfl⟩:∃g cap,vf=.slice (some ⟨g,0,none⟩) fs.length cap:=by
  rcases hfl.2 with ⟨_,e⟩|⟨g,cap,cur,e,_⟩
  · omega
  · exact ⟨g,cap,e⟩
 obtain ⟨cur,hgh,hcz⟩:∃cur,w4.heap[g]? =some (.cells cur 183 (0,0))∧b * 2+1 < cur.size:=by
  rcases hfl.2 with ⟨e,_⟩|⟨g',cap',cur,e,_,e2,e3,_,e5,_⟩
  · cases e
  · cases e
    exact ⟨cur,e2,by omega⟩
 have k0:w4.cell? ⟨w.heap.size,0,none⟩=some (.int .i64 17):=by rw [hcell_ HE4.out];rfl
 have KS0:Hid (∀w',Gr w4 w'→w'.cell? ⟨nm j,0,none⟩=some (.slice (some ⟨g,0,none⟩) fs.length cap)∧w'.cell? ⟨w.heap.size,2,none⟩=some (.int .i64 (b:Int))∧w'.cell? ⟨w.heap.size+1,0,none⟩=some (.int .i64 v'.num)∧w'.cell? ⟨w.heap.size+1,1,none⟩=some (.pointer (pvP nm v'.blk))):=hide (fun w' gg=>⟨gg.cell (by rw [hcell_ hbox];rfl) (by simp),gg.cell (by rw [hcell_ HE4.out];rfl) (by simp),gg.cell (by rw [hcell_ HF4.out];rfl) (by simp),gg.cell (by rw [hcell_ HF4.out];rfl) (by simp)⟩);have HZ:Hid (∀w',Gr w4 w'→MW C ((w'.setCell ⟨g,b * 2,none⟩ (.int .i64 v'.num)).setCell ⟨g,b * 2+1,none⟩ (.pointer (pvP nm v'.blk))) ρ4 nm fbn cs ct (x.st s :: L) (bs.set j (fs.set b v')) tk told∧Kept w ((w'.setCell ⟨g,b * 2,none⟩ (.int .i64 v'.num)).setCell ⟨g,b * 2+1,none⟩ (.pointer (pvP nm v'.blk))) ρ ρ4):=hide (fun w' gg=>by
  have hst:Stays (fun r=>r≠.no) w4 w' ρ4 ρ4:=fun b hb _=>⟨gg.block b hb (by simp),rfl⟩
  have hz:=(HR4.out.1.of_gr gg).setField (a:=b) v' hj (hB.mv hst nofun nofun);exact ⟨hz.1,HR4.out.2.trans ((Kept.of_gr gg).trans hz.2)⟩)
 have HH:Hid (∀w',Gr w4 w'→w'.heap[g]? =some (.cells cur 183 (0,0))):=hide (fun w' gg=>(gg.block g (Array.getElem?_eq_some_iff.1 hgh).1 (by simp)).trans hgh);clear hB hfl hbox hrf HE4 HF4 hj hgh HR4;generalize fs.length=n at KS0 hbi hb;generalize pvP nm v'.blk=p at KS0 HZ HH ⊢;generalize v'.num=num at KS0 HZ HH ⊢;generalize nm j=bj at KS0 hne ⊢;generalize w.heap.size+1=bv at KS0 ⊢;generalize w.heap.size=bi at KS0 k0 ⊢;go_wp2_with fail
 refine wp_region_z 8 (S:=(fun w'=>w'.cell? ⟨bj,0,none⟩=some (.slice (some ⟨g,0,none⟩) n cap)∧w'.cell? ⟨bi,2,none⟩=some (.int .i64 (b:Int))∧w'.cell? ⟨bv,0,none⟩=some (.int .i64 num)∧w'.cell? ⟨bv,1,none⟩=some (.pointer p))) (by kernel_rfl) (KS0.out _ (Gr.drew (Gr.refl _))) (fun hH=>?_);refine tY 0 _ rfl (fun w hS=>by go_simp<;>rfl) hH ?_
 simp only [Act.put,sA,s0,s1];refine tY 1 _ rfl (fun w hS=>by go_simp<;>rfl) hH ?_
 simp only [Act.put,sA,s0,s1];refine tY 2 _ rfl (fun w hS=>by go_simp<;>rfl) hH ?_
 simp only [Act.put,sA,s0,s1];refine tY 3 _ rfl (fun w hS=>by go_simp<;>rfl) hH ?_
 simp only [Act.put,sA,s0,s1];refine tY 4 _ rfl (fun w hS=>by go_simp<;>rfl) hH ?_
 simp only [Act.put,sA,s0,s1];refine tY 5 _ rfl (fun w hS=>by go_simp<;>rfl) hH ?_
 simp only [Act.put,sA,s0,s1];refine tY 6 _ rfl (fun w hS=>by go_simp<;>rfl) hH ?_
 simp only [Act.put,sA,s0,s1];refine tY 7 _ rfl (fun w hS=>by go_simp<;>rfl) hH ?_
 simp only [Act.put,sA,s0,s1];refine aloneZ (i:=8) rfl (by kernel_rfl) (fun K hK=>?_);have f0:=HH.out _ (Gr.refl _);have m0:=hcell_ (o:=b * 2) f0;have m1:=hcell_ (o:=b * 2+1) f0;have z0:=hfrozen_ (o:=b * 2) f0;have z1:=hfrozen_ (o:=b * 2+1) f0;rw [Array.getElem?_eq_getElem (by omega)] at m0 m1;have HK:=hide hK;clear hK f0;refine want_yes (by rfl) ?_;go_simp
 have hK:=HK.out;clear HK m0 m1 z0 z1;refine hK.out _ _ (fun h=>absurd rfl h) (fun _=>?_);clear hK;try simp only [Act.put,sA,s0,s1]
 refine doneZ (by kernel_rfl) ?_ _;clear hH;have HZ2:=hide (And.intro ((HZ.out _ (Gr.refl _)).1.of_gr (Gr.drew (Gr.refl _))) ((HZ.out _ (Gr.refl _)).2.trans (Kept.of_gr (Gr.drew (Gr.refl _)))));clear HZ HH KS0;go_wp2_with fail
 go_ret
 exact ⟨rfl,ρ4,HZ2.out.1,HZ2.out.2⟩
end
end Go.Proofs.YtkgncijcnlfhiaaGreat
