import Derived.Test.YtkgncijcnlfhiabGreatMp
namespace Go.Proofs.YtkgncijcnlfhiabGreat
set_option maxRecDepth 100000
set_option maxHeartbeats 2000000
set_option linter.unusedVariables false
set_option linter.unusedSimpArgs false
open Go.RowKit
attribute [local go_sem ↓] Go.wp_at_zero Go.wp_at_succ
def BS(C:MC)(w:World)(ρ:Nat->bD)(nm I0:Nat->Nat)(cs:Nat->Int)(ct:Int)(L:List ch)(bs:List (List PV))(tk:Nat)(told:List Int)(r:Bool)(e:Ending)(w':World):Prop:=e=.returned (.bool r)/\ra C w ρ nm I0 cs ct L bs tk told w'
section
variable {C:MC} {w w':World} {ρ:Nat->bD} {nm I0:Nat->Nat} {cs:Nat->Int} {ct:Int} {L:List ch} {bs:List (List PV)} {tk:Nat} {told:List Int}
theorem od{x:ch}{s:List PV}{v:PV}(b:Int)(hx:x.stack=s++ [v])(hv:v.blk=none)(a:Int)(h:MW C w ρ nm I0 cs ct (x :: L) bs tk told)(hn:x.stack.length<=1000):
 Calls Tryz.prog 96 #[.pointer (some ⟨I0 L.length,0,none⟩),.agg #[.int .i64 16,.int .i64 a,.int .i64 b]] w (BS C w ρ nm I0 cs ct (x.st s :: L) bs tk told false):=by
 have g1:=((Gr.refl w).alloc (.cells #[.int .i64 16,.int .i64 a,.int .i64 b] 42)).alloc (.cells #[.int .i64 0,.pointer none] 166);have I6:(w.alloc (.cells #[.int .i64 16,.int .i64 a,.int .i64 b] 42)).heap.size=w.heap.size+1:=Q6
 have D4:=(((Gr.refl (w.alloc (.cells #[.int .i64 16,.int .i64 a,.int .i64 b] 42))).alloc (.cells #[.int .i64 0,.pointer none] 166)).block w.heap.size Q6 Q6).trans (heap_alloc_new w (.cells #[.int .i64 16,.int .i64 a,.int .i64 b] 42));have Y0:=heap_alloc_new (w.alloc (.cells #[.int .i64 16,.int .i64 a,.int .i64 b] 42)) (.cells #[.int .i64 0,.pointer none] 166);rw [I6] at Y0;have h1:=h.of_gr g1;have HG:=aH g1;have H6:=aH D4;have S6:=aH Y0;have Ol:=aH (h.new_no (Nat.le_refl _));have Oa:=aH (h.new_no (Nat.le_succ _));have Zb:Hid (w.heap.size < ((w.alloc (.cells #[.int .i64 16,.int .i64 a,.int .i64 b] 42)).alloc (.cells #[.int .i64 0,.pointer none] 166)).heap.size):=aH gS;have Xc:Hid (w.heap.size+1 < ((w.alloc (.cells #[.int .i64 16,.int .i64 a,.int .i64 b] 42)).alloc (.cells #[.int .i64 0,.pointer none] 166)).heap.size):=aH Q6;have hc:=er h1 hx hn;have e0:di nm v.blk=none:=by rw [hv];rfl
 rw [e0] at hc;have HC:=aH hc;have Ip:=Tryz.blkNil;have Ro:=Tryz.fld1;clear hc e0 h h1 g1 I6 D4 Y0 S6 Oa Xc hx hv;generalize I0 L.length=fb at HC |-;go_enter Tryz.func96,Tryz.ntmps96
 go_wp2_with fail
 refine HC.out.mono ?_;rintro e w2 ⟨rfl,ρ',hM,hK⟩;have HR:=aH (And.intro hM ((am.of_gr HG.out).trans hK));clear hM hK;go_wp2_with fail
 go_ret
 exact ⟨rfl,ρ',HR.out.1,HR.out.2⟩
theorem wQ{x:ch}{s fs:List PV}{v fv:PV}{j b:Nat}(hx:x.stack=s++ [v])(hv:v.blk=some j)(hj:bs[j]? =some fs)(hb:fs[b]? =some fv)(a:Int)(h:MW C w ρ nm I0 cs ct (x :: L) bs tk told)(hn:x.stack.length<=1000):
 Calls Tryz.prog 96 #[.pointer (some ⟨I0 L.length,0,none⟩),.agg #[.int .i64 16,.int .i64 a,.int .i64 (b:Int)]] w (BS C w ρ nm I0 cs ct (x.st (s++ [fv]) :: L) bs tk told true):=by
 have g1:=((Gr.refl w).alloc (.cells #[.int .i64 16,.int .i64 a,.int .i64 (b:Int)] 42)).alloc (.cells #[.int .i64 0,.pointer none] 166);have I6:(w.alloc (.cells #[.int .i64 16,.int .i64 a,.int .i64 (b:Int)] 42)).heap.size=w.heap.size+1:=Q6
 have D4:=(((Gr.refl (w.alloc (.cells #[.int .i64 16,.int .i64 a,.int .i64 (b:Int)] 42))).alloc (.cells #[.int .i64 0,.pointer none] 166)).block w.heap.size Q6 Q6).trans (heap_alloc_new w (.cells #[.int .i64 16,.int .i64 a,.int .i64 (b:Int)] 42));have Y0:=heap_alloc_new (w.alloc (.cells #[.int .i64 16,.int .i64 a,.int .i64 (b:Int)] 42)) (.cells #[.int .i64 0,.pointer none] 166);rw [I6] at Y0;have h1:=h.of_gr g1;have HG:=aH g1;have H6:=aH D4;have S6:=aH Y0;have Ol:=aH (h.new_no (Nat.le_refl _));have Oa:=aH (h.new_no (Nat.le_succ _));have Zb:Hid (w.heap.size < ((w.alloc (.cells #[.int .i64 16,.int .i64 a,.int .i64 (b:Int)] 42)).alloc (.cells #[.int .i64 0,.pointer none] 166)).heap.size):=aH gS;have Xc:Hid (w.heap.size+1 < ((w.alloc (.cells #[.int .i64 16,.int .i64 a,.int .i64 (b:Int)] 42)).alloc (.cells #[.int .i64 0,.pointer none] 166)).heap.size):=aH Q6;have hc:=er h1 hx hn;have e0:di nm v.blk=some ⟨nm j,0,none⟩:=by rw [hv];rfl
 rw [e0] at hc;have HC:=aH hc;have Y9:=(List.getElem?_eq_some_iff.1 hb).1;have RD:(b:Int) < (fs.length:Int):=Q5
 have Ro:=Tryz.fld1;have hne:=fun (w:World)=>Tryz.blkNe ⟨nm j,0,none⟩ w
 have hl:s.length<=1000:=by rw [hx] at hn;simp at hn;omega
 clear hc e0 h h1 g1 I6 D4 Y0 S6 Oa Xc hx hv;go_enter Tryz.func96,Tryz.ntmps96
 go_wp2_with fail
 refine HC.out.mono ?_;rintro e w2 ⟨rfl,ρ',hM,hK⟩;have HR:=aH (And.intro hM ((am.of_gr HG.out).trans hK));have HE:=aH ((hK.keep _ Zb.out Ol.out).trans H6.out);clear hM hK HC HG H6 Ol Zb;obtain ⟨⟨vf,hB⟩,_⟩:=HR.out.1.blks j fs hj;have Ie:=hB.fl;have N3:=hB.box;have hrf:=hB.rf;obtain ⟨g,cap,rfl⟩:∃g cap,vf=.slice (some ⟨g,0,none⟩) fs.length cap:=by
  rcases Ie.2 with ⟨_,e⟩|⟨g,cap,cur,e,_⟩
  · omega
  · exact ⟨g,cap,e⟩
 have hr:=lA nm fs b fv hb;have d0:=(Ie.cellAt (b * 2) Q5).trans hr.1;have d1:=(Ie.cellAt (b * 2+1) Q5).trans hr.2;have k0:w2.cell? ⟨w.heap.size,0,none⟩=some (.int .i64 16):=by rw [aJ HE.out];rfl
 have KS0:Hid (∀w',Gr w2 w'->w'.cell? ⟨nm j,0,none⟩=some (.slice (some ⟨g,0,none⟩) fs.length cap)/\w'.cell? ⟨w.heap.size,2,none⟩=some (.int .i64 (b:Int))/\w'.cell? ⟨g,b * 2,none⟩=some (.int .i64 fv.num)/\w'.cell? ⟨g,b * 2+1,none⟩=some (.pointer (di nm fv.blk))):=aH (fun w' gg=>⟨gg.cell (by rw [aJ N3];rfl) Q6,gg.cell (by rw [aJ HE.out];rfl) Q6,gg.cell d0 Q6,gg.cell d1 Q6⟩);have HP:Hid (∀w',Gr w2 w'->Calls Tryz.prog 93 #[.pointer (some ⟨I0 L.length,0,none⟩),.agg #[.int .i64 fv.num,.pointer (di nm fv.blk)]] w' fun e w3=>e=.returned (.tuple #[])/\ra C w' ρ' nm I0 cs ct (x.st (s++ [fv]) :: L) bs tk told w3):=aH (fun w' g=>fo (x:=x.st s) fv (HR.out.1.of_gr g) hl);clear hB Ie N3 hrf hr d0 d1 HE hb hj hn hl;generalize ((w.alloc (.cells #[.int .i64 16,.int .i64 a,.int .i64 (b:Int)] 42)).alloc (.cells #[.int .i64 0,.pointer none] 166))=W1;generalize I0 L.length=fb at HP |-;generalize fs.length=n at KS0 RD Y9;generalize di nm fv.blk=p at HP KS0;generalize fv.num=num at HP KS0;generalize nm j=bj at KS0 hne |-;generalize w.heap.size=bi at KS0 k0 |-;go_wp2_with fail
 refine cJ 9 (S:=(fun w'=>w'.cell? ⟨bj,0,none⟩=some (.slice (some ⟨g,0,none⟩) n cap)/\w'.cell? ⟨bi,2,none⟩=some (.int .i64 (b:Int))/\w'.cell? ⟨g,b * 2,none⟩=some (.int .i64 num)/\w'.cell? ⟨g,b * 2+1,none⟩=some (.pointer p))) Q7 (KS0.out _ (Gr.drew (Gr.refl _))) (fun hH=>?_);refine tY 0 ?_;simp only [Act.put,sA,s0,s1];refine tY 1 ?_;simp only [Act.put,sA,s0,s1];refine tY 2 ?_;simp only [Act.put,sA,s0,s1];refine tY 3 ?_;simp only [Act.put,sA,s0,s1];refine tY 4 ?_;simp only [Act.put,sA,s0,s1];refine tY 5 ?_;simp only [Act.put,sA,s0,s1];refine tY 6 ?_;simp only [Act.put,sA,s0,s1];refine tY 7 ?_;simp only [Act.put,sA,s0,s1];refine tY 8 ?_;simp only [Act.put,sA,s0,s1];refine cg (i:=9) rfl Q7 (fun K hK=>?_);refine aQ rfl 93 _ _ rfl #[.pointer (some ⟨fb,0,none⟩),.agg #[.int .i64 num,.pointer p]] fk (Tryz.callPush _ _) ((HP.out _ (Gr.drew (Gr.refl _))).mono ?_);rintro e w3 ⟨rfl,ρ3,hM,Zr⟩;have Ld:=aH (And.intro hM (HR.out.2.trans ((am.of_gr (Gr.drew (Gr.refl _))).trans Zr)));clear hM Zr;refine .inl ⟨_,rfl,?_⟩;refine hK.out _ _ (fun h=>absurd rfl h) (fun _=>?_);clear hK;try simp only [Act.put,sA,s0,s1]
 refine jJ Q7 ?_ _;clear hH;go_wp2_with fail
 go_ret
 exact ⟨rfl,ρ3,Ld.out.1,Ld.out.2⟩
theorem pF{x:ch}{s:List PV}{v v':PV}(b:Int)(hx:x.stack=s++ [v,v'])(hv:v.blk=none)(a:Int)(h:MW C w ρ nm I0 cs ct (x :: L) bs tk told)(hn:x.stack.length<=1000):
 Calls Tryz.prog 96 #[.pointer (some ⟨I0 L.length,0,none⟩),.agg #[.int .i64 17,.int .i64 a,.int .i64 b]] w (BS C w ρ nm I0 cs ct (x.st s :: L) bs tk told false):=by
 have g1:=((Gr.refl w).alloc (.cells #[.int .i64 17,.int .i64 a,.int .i64 b] 42)).alloc (.cells #[.int .i64 0,.pointer none] 166);have I6:(w.alloc (.cells #[.int .i64 17,.int .i64 a,.int .i64 b] 42)).heap.size=w.heap.size+1:=Q6
 have D4:=(((Gr.refl (w.alloc (.cells #[.int .i64 17,.int .i64 a,.int .i64 b] 42))).alloc (.cells #[.int .i64 0,.pointer none] 166)).block w.heap.size Q6 Q6).trans (heap_alloc_new w (.cells #[.int .i64 17,.int .i64 a,.int .i64 b] 42));have Y0:=heap_alloc_new (w.alloc (.cells #[.int .i64 17,.int .i64 a,.int .i64 b] 42)) (.cells #[.int .i64 0,.pointer none] 166);rw [I6] at Y0;have h1:=h.of_gr g1;have HG:=aH g1;have H6:=aH D4;have S6:=aH Y0;have Ol:=aH (h.new_no (Nat.le_refl _));have Oa:=aH (h.new_no (Nat.le_succ _));have Zb:Hid (w.heap.size < ((w.alloc (.cells #[.int .i64 17,.int .i64 a,.int .i64 b] 42)).alloc (.cells #[.int .i64 0,.pointer none] 166)).heap.size):=aH gS;have Xc:Hid (w.heap.size+1 < ((w.alloc (.cells #[.int .i64 17,.int .i64 a,.int .i64 b] 42)).alloc (.cells #[.int .i64 0,.pointer none] 166)).heap.size):=aH Q6;have hl:s.length+2<=1000:=by rw [hx] at hn;simpa using hn
 have HC:=aH (er (s:=s++ [v]) (v:=v') h1 (by rw [hx];simp) hn);have HV:=aH h.gr.size;have O3:Hid (∀(w2:World) (ρ':Nat->bD),MW C w2 ρ' nm I0 cs ct (x.st (s++ [v]) :: L) bs tk told->Calls Tryz.prog 90 #[.pointer (some ⟨I0 L.length,0,none⟩)] w2 fun e w'=>e=.returned (.agg #[.int .i64 v.num,.pointer none])/\ra C w2 ρ' nm I0 cs ct (x.st s :: L) bs tk told w'):=aH (fun w2 ρ' hM=>by
  have hc:=er (x:=x.st (s++ [v])) (s:=s) (v:=v) hM rfl (by show (s++ [v]).length<=1000;simp;omega);have e0:di nm v.blk=none:=by rw [hv];rfl
  rw [e0] at hc;exact hc)
 have Ip:=Tryz.blkNil;have Ro:=Tryz.fld1;clear h h1 g1 I6 D4 Y0 hx hv hl;generalize I0 L.length=fb at HC O3 |-;go_enter Tryz.func96,Tryz.ntmps96
 go_wp2_with fail
 refine HC.out.mono ?_;rintro e w2 ⟨rfl,ρ',hM,hK⟩;have HR:=aH (And.intro hM ((am.of_gr HG.out).trans hK));have VK:=aH ((hK.keep _ Zb.out Ol.out).trans H6.out);have Vb:=aH ((hK.keep _ Xc.out Oa.out).trans S6.out);have Jn:=aH ((hK.role _ Zb.out).trans Ol.out);have V9:=aH ((hK.role _ Xc.out).trans Oa.out);have Zh:=aH (Nat.lt_of_lt_of_le Zb.out hK.size);have W_:=aH (Nat.lt_of_lt_of_le Xc.out hK.size);clear hM hK HC HG H6 Ol Zb S6 Oa Xc;generalize (w.alloc (.cells #[.int .i64 17,.int .i64 a,.int .i64 b] 42)).alloc (.cells #[.int .i64 0,.pointer none] 166)=W1;have q0:w2.cell? ⟨w.heap.size+1,0,none⟩=some (.int .i64 0):=by rw [aJ Vb.out];rfl
 have q1:w2.cell? ⟨w.heap.size+1,1,none⟩=some (.pointer none):=by rw [aJ Vb.out];rfl
 have y0:w2.frozen? ⟨w.heap.size+1,0,none⟩=false:=aS Vb.out;have y1:w2.frozen? ⟨w.heap.size+1,1,none⟩=false:=aS Vb.out;go_upto_region 4 with fail
 have hoth:∀b,¬b=w.heap.size+1->((w2.setCell ⟨w.heap.size+1,0,none⟩ (.int .i64 v'.num)).setCell ⟨w.heap.size+1,1,none⟩ (.pointer (di nm v'.blk))).heap[b]? =w2.heap[b]? :=fun b hb=>(Below.heap_setCell _ _ _ _ hb).trans (Below.heap_setCell _ _ _ _ hb)
 have C5:MW C ((w2.setCell ⟨w.heap.size+1,0,none⟩ (.int .i64 v'.num)).setCell ⟨w.heap.size+1,1,none⟩ (.pointer (di nm v'.blk))) ρ' nm I0 cs ct (x.st (s++ [v]) :: L) bs tk told:=HR.out.1.other rfl rfl rfl Q6 (fun b hb hr=>hoth b (fun e=>by
  subst e;rcases hr with hr|hr
  · exact hr V9.out
  · have:=HV.out;omega))
 have V4:am w ((w2.setCell ⟨w.heap.size+1,0,none⟩ (.int .i64 v'.num)).setCell ⟨w.heap.size+1,1,none⟩ (.pointer (di nm v'.blk))) ρ ρ':=⟨HR.out.2.os,HR.out.2.tape,HR.out.2.output,by have:=HR.out.2.size;simpa using this,HR.out.2.role,fun b hb e=>(hoth b Q5).trans (HR.out.2.keep b hb e)⟩;have Ld:=aH (And.intro C5 V4);have Va:Hid (((w2.setCell ⟨w.heap.size+1,0,none⟩ (.int .i64 v'.num)).setCell ⟨w.heap.size+1,1,none⟩ (.pointer (di nm v'.blk))).heap[w.heap.size]? =_):=aH ((hoth _ Q5).trans VK.out);have Wc:=aH ((heap_setCell_same _ (w.heap.size+1) 1 _ _ (.pointer (di nm v'.blk)) (heap_setCell_same w2 (w.heap.size+1) 0 _ _ (.int .i64 v'.num) Vb.out)).trans (by simp:_=some (.cells #[.int .i64 v'.num,.pointer (di nm v'.blk)] 166 (0,0))));have Hd:Hid (w.heap.size+1 < ((w2.setCell ⟨w.heap.size+1,0,none⟩ (.int .i64 v'.num)).setCell ⟨w.heap.size+1,1,none⟩ (.pointer (di nm v'.blk))).heap.size):=aH (by have:=W_.out;simpa using this);clear C5 V4 hoth q0 q1 y0 y1 VK Vb Zh W_ HR;generalize ((w2.setCell ⟨w.heap.size+1,0,none⟩ (.int .i64 v'.num)).setCell ⟨w.heap.size+1,1,none⟩ (.pointer (di nm v'.blk)))=W3 at Ld Va Wc Hd |-;go_wp2_with fail
 refine (O3.out _ _ Ld.out.1).mono ?_;rintro e w4 ⟨rfl,ρ4,hM,hK⟩;have Qh:=aH (And.intro hM (Ld.out.2.trans hK));have We:=aH ((hK.keep _ (Nat.lt_of_succ_lt Hd.out) Jn.out).trans Va.out);have Cr:=aH ((hK.keep _ Hd.out V9.out).trans Wc.out);clear hM hK Ld Va Wc Hd O3 Jn V9;go_wp2_with fail
 go_ret
 exact ⟨rfl,ρ4,Qh.out.1,Qh.out.2⟩
theorem yQ{x:ch}{s fs:List PV}{v v':PV}{j b:Nat}(hx:x.stack=s++ [v,v'])(hv:v.blk=some j)(hj:bs[j]? =some fs)(hb:b < fs.length)(a:Int)(h:MW C w ρ nm I0 cs ct (x :: L) bs tk told)(hn:x.stack.length<=1000):
 Calls Tryz.prog 96 #[.pointer (some ⟨I0 L.length,0,none⟩),.agg #[.int .i64 17,.int .i64 a,.int .i64 (b:Int)]] w (BS C w ρ nm I0 cs ct (x.st s :: L) (bs.set j (fs.set b v')) tk told true):=by
 have g1:=((Gr.refl w).alloc (.cells #[.int .i64 17,.int .i64 a,.int .i64 (b:Int)] 42)).alloc (.cells #[.int .i64 0,.pointer none] 166);have I6:(w.alloc (.cells #[.int .i64 17,.int .i64 a,.int .i64 (b:Int)] 42)).heap.size=w.heap.size+1:=Q6
 have D4:=(((Gr.refl (w.alloc (.cells #[.int .i64 17,.int .i64 a,.int .i64 (b:Int)] 42))).alloc (.cells #[.int .i64 0,.pointer none] 166)).block w.heap.size Q6 Q6).trans (heap_alloc_new w (.cells #[.int .i64 17,.int .i64 a,.int .i64 (b:Int)] 42));have Y0:=heap_alloc_new (w.alloc (.cells #[.int .i64 17,.int .i64 a,.int .i64 (b:Int)] 42)) (.cells #[.int .i64 0,.pointer none] 166);rw [I6] at Y0;have h1:=h.of_gr g1;have HG:=aH g1;have H6:=aH D4;have S6:=aH Y0;have Ol:=aH (h.new_no (Nat.le_refl _));have Oa:=aH (h.new_no (Nat.le_succ _));have Zb:Hid (w.heap.size < ((w.alloc (.cells #[.int .i64 17,.int .i64 a,.int .i64 (b:Int)] 42)).alloc (.cells #[.int .i64 0,.pointer none] 166)).heap.size):=aH gS;have Xc:Hid (w.heap.size+1 < ((w.alloc (.cells #[.int .i64 17,.int .i64 a,.int .i64 (b:Int)] 42)).alloc (.cells #[.int .i64 0,.pointer none] 166)).heap.size):=aH Q6;have hl:s.length+2<=1000:=by rw [hx] at hn;simpa using hn
 have HC:=aH (er (s:=s++ [v]) (v:=v') h1 (by rw [hx];simp) hn);have HV:=aH h.gr.size;have O3:Hid (∀(w2:World) (ρ':Nat->bD),MW C w2 ρ' nm I0 cs ct (x.st (s++ [v]) :: L) bs tk told->Calls Tryz.prog 90 #[.pointer (some ⟨I0 L.length,0,none⟩)] w2 fun e w'=>e=.returned (.agg #[.int .i64 v.num,.pointer (some ⟨nm j,0,none⟩)])/\ra C w2 ρ' nm I0 cs ct (x.st s :: L) bs tk told w'):=aH (fun w2 ρ' hM=>by
  have hc:=er (x:=x.st (s++ [v])) (s:=s) (v:=v) hM rfl (by show (s++ [v]).length<=1000;simp;omega);have e0:di nm v.blk=some ⟨nm j,0,none⟩:=by rw [hv];rfl
  rw [e0] at hc;exact hc)
 have RD:(b:Int) < (fs.length:Int):=Q5
 have Ro:=Tryz.fld1;have hne:=fun (w:World)=>Tryz.blkNe ⟨nm j,0,none⟩ w
 clear h h1 g1 I6 D4 Y0 hx hv hl hn;generalize hFB:I0 L.length=fb at HC O3 |-;clear hFB;go_enter Tryz.func96,Tryz.ntmps96
 go_wp2_with fail
 refine HC.out.mono ?_;rintro e w2 ⟨rfl,ρ',hM,hK⟩;have HR:=aH (And.intro hM ((am.of_gr HG.out).trans hK));have VK:=aH ((hK.keep _ Zb.out Ol.out).trans H6.out);have Vb:=aH ((hK.keep _ Xc.out Oa.out).trans S6.out);have Jn:=aH ((hK.role _ Zb.out).trans Ol.out);have V9:=aH ((hK.role _ Xc.out).trans Oa.out);have Zh:=aH (Nat.lt_of_lt_of_le Zb.out hK.size);have W_:=aH (Nat.lt_of_lt_of_le Xc.out hK.size);clear hM hK HC HG H6 Ol Zb S6 Oa Xc;generalize (w.alloc (.cells #[.int .i64 17,.int .i64 a,.int .i64 (b:Int)] 42)).alloc (.cells #[.int .i64 0,.pointer none] 166)=W1;have q0:w2.cell? ⟨w.heap.size+1,0,none⟩=some (.int .i64 0):=by rw [aJ Vb.out];rfl
 have q1:w2.cell? ⟨w.heap.size+1,1,none⟩=some (.pointer none):=by rw [aJ Vb.out];rfl
 have y0:w2.frozen? ⟨w.heap.size+1,0,none⟩=false:=aS Vb.out;have y1:w2.frozen? ⟨w.heap.size+1,1,none⟩=false:=aS Vb.out;go_upto_region 4 with fail
 have hoth:∀b,¬b=w.heap.size+1->((w2.setCell ⟨w.heap.size+1,0,none⟩ (.int .i64 v'.num)).setCell ⟨w.heap.size+1,1,none⟩ (.pointer (di nm v'.blk))).heap[b]? =w2.heap[b]? :=fun b hb=>(Below.heap_setCell _ _ _ _ hb).trans (Below.heap_setCell _ _ _ _ hb)
 have C5:MW C ((w2.setCell ⟨w.heap.size+1,0,none⟩ (.int .i64 v'.num)).setCell ⟨w.heap.size+1,1,none⟩ (.pointer (di nm v'.blk))) ρ' nm I0 cs ct (x.st (s++ [v]) :: L) bs tk told:=HR.out.1.other rfl rfl rfl Q6 (fun b hb hr=>hoth b (fun e=>by
  subst e;rcases hr with hr|hr
  · exact hr V9.out
  · have:=HV.out;omega))
 have V4:am w ((w2.setCell ⟨w.heap.size+1,0,none⟩ (.int .i64 v'.num)).setCell ⟨w.heap.size+1,1,none⟩ (.pointer (di nm v'.blk))) ρ ρ':=⟨HR.out.2.os,HR.out.2.tape,HR.out.2.output,by have:=HR.out.2.size;simpa using this,HR.out.2.role,fun b hb e=>(hoth b Q5).trans (HR.out.2.keep b hb e)⟩;have Ld:=aH (And.intro C5 V4);have Va:Hid (((w2.setCell ⟨w.heap.size+1,0,none⟩ (.int .i64 v'.num)).setCell ⟨w.heap.size+1,1,none⟩ (.pointer (di nm v'.blk))).heap[w.heap.size]? =_):=aH ((hoth _ Q5).trans VK.out);have Wc:=aH ((heap_setCell_same _ (w.heap.size+1) 1 _ _ (.pointer (di nm v'.blk)) (heap_setCell_same w2 (w.heap.size+1) 0 _ _ (.int .i64 v'.num) Vb.out)).trans (by simp:_=some (.cells #[.int .i64 v'.num,.pointer (di nm v'.blk)] 166 (0,0))));have Hd:Hid (w.heap.size+1 < ((w2.setCell ⟨w.heap.size+1,0,none⟩ (.int .i64 v'.num)).setCell ⟨w.heap.size+1,1,none⟩ (.pointer (di nm v'.blk))).heap.size):=aH (by have:=W_.out;simpa using this);clear C5 V4 hoth q0 q1 y0 y1 VK Vb Zh W_ HR;generalize ((w2.setCell ⟨w.heap.size+1,0,none⟩ (.int .i64 v'.num)).setCell ⟨w.heap.size+1,1,none⟩ (.pointer (di nm v'.blk)))=W3 at Ld Va Wc Hd |-;go_wp2_with fail
 refine (O3.out _ _ Ld.out.1).mono ?_;rintro e w4 ⟨rfl,ρ4,hM,hK⟩;have Qh:=aH (And.intro hM (Ld.out.2.trans hK));have We:=aH ((hK.keep _ (Nat.lt_of_succ_lt Hd.out) Jn.out).trans Va.out);have Cr:=aH ((hK.keep _ Hd.out V9.out).trans Wc.out);clear hM hK Ld Va Wc Hd O3 Jn V9;obtain ⟨⟨vf,hB⟩,_⟩:=Qh.out.1.blks j fs hj;have Ie:=hB.fl;have N3:=hB.box;have hrf:=hB.rf;obtain ⟨g,cap,rfl⟩:∃g cap,vf=.slice (some ⟨g,0,none⟩) fs.length cap:=by
  rcases Ie.2 with ⟨_,e⟩|⟨g,cap,cur,e,_⟩
  · omega
  · exact ⟨g,cap,e⟩
 obtain ⟨cur,Qp,hcz⟩:∃cur,w4.heap[g]? =some (.cells cur 166 (0,0))/\b * 2+1 < cur.size:=by
  rcases Ie.2 with ⟨e,_⟩|⟨g',Se,cur,e,_,e2,e3,_,e5,_⟩
  · cases e
  · cases e
    exact ⟨cur,e2,Q5⟩
 have k0:w4.cell? ⟨w.heap.size,0,none⟩=some (.int .i64 17):=by rw [aJ We.out];rfl
 have KS0:Hid (∀w',Gr w4 w'->w'.cell? ⟨nm j,0,none⟩=some (.slice (some ⟨g,0,none⟩) fs.length cap)/\w'.cell? ⟨w.heap.size,2,none⟩=some (.int .i64 (b:Int))/\w'.cell? ⟨w.heap.size+1,0,none⟩=some (.int .i64 v'.num)/\w'.cell? ⟨w.heap.size+1,1,none⟩=some (.pointer (di nm v'.blk))):=aH (fun w' gg=>⟨gg.cell (by rw [aJ N3];rfl) Q6,gg.cell (by rw [aJ We.out];rfl) Q6,gg.cell (by rw [aJ Cr.out];rfl) Q6,gg.cell (by rw [aJ Cr.out];rfl) Q6⟩);have HZ:Hid (∀w',Gr w4 w'->MW C ((w'.setCell ⟨g,b * 2,none⟩ (.int .i64 v'.num)).setCell ⟨g,b * 2+1,none⟩ (.pointer (di nm v'.blk))) ρ4 nm I0 cs ct (x.st s :: L) (bs.set j (fs.set b v')) tk told/\am w ((w'.setCell ⟨g,b * 2,none⟩ (.int .i64 v'.num)).setCell ⟨g,b * 2+1,none⟩ (.pointer (di nm v'.blk))) ρ ρ4):=aH (fun w' gg=>by
  have T0:iC (fun r=>r≠.no) w4 w' ρ4 ρ4:=fun b hb _=>⟨gg.block b hb Q6,rfl⟩
  have hz:=(Qh.out.1.of_gr gg).setField (a:=b) v' hj (hB.mv T0 nofun nofun);exact ⟨hz.1,Qh.out.2.trans ((am.of_gr gg).trans hz.2)⟩)
 have HH:Hid (∀w',Gr w4 w'->w'.heap[g]? =some (.cells cur 166 (0,0))):=aH (fun w' gg=>(gg.block g (Array.getElem?_eq_some_iff.1 Qp).1 Q6).trans Qp);clear hB Ie N3 hrf We Cr hj Qp Qh;generalize fs.length=n at KS0 RD hb;generalize di nm v'.blk=p at KS0 HZ HH |-;generalize v'.num=num at KS0 HZ HH |-;generalize nm j=bj at KS0 hne |-;generalize w.heap.size+1=bv at KS0 |-;generalize w.heap.size=bi at KS0 k0 |-;go_wp2_with fail
 refine cJ 8 (S:=(fun w'=>w'.cell? ⟨bj,0,none⟩=some (.slice (some ⟨g,0,none⟩) n cap)/\w'.cell? ⟨bi,2,none⟩=some (.int .i64 (b:Int))/\w'.cell? ⟨bv,0,none⟩=some (.int .i64 num)/\w'.cell? ⟨bv,1,none⟩=some (.pointer p))) Q7 (KS0.out _ (Gr.drew (Gr.refl _))) (fun hH=>?_);refine tY 0 ?_;simp only [Act.put,sA,s0,s1];refine tY 1 ?_;simp only [Act.put,sA,s0,s1];refine tY 2 ?_;simp only [Act.put,sA,s0,s1];refine tY 3 ?_;simp only [Act.put,sA,s0,s1];refine tY 4 ?_;simp only [Act.put,sA,s0,s1];refine tY 5 ?_;simp only [Act.put,sA,s0,s1];refine tY 6 ?_;simp only [Act.put,sA,s0,s1];refine tY 7 ?_;simp only [Act.put,sA,s0,s1];refine cg (i:=8) rfl Q7 (fun K hK=>?_);have f0:=HH.out _ (Gr.refl _);have m0:=aJ (o:=b * 2) f0;have m1:=aJ (o:=b * 2+1) f0;have z0:=aS (o:=b * 2) f0;have z1:=aS (o:=b * 2+1) f0;rw [Array.getElem?_eq_getElem Q5] at m0 m1;have HK:=aH hK;clear hK f0;refine ae cw ?_;go_simp
 have hK:=HK.out;clear HK m0 m1 z0 z1;refine hK.out _ _ (fun h=>absurd rfl h) (fun _=>?_);clear hK;try simp only [Act.put,sA,s0,s1]
 refine jJ Q7 ?_ _;clear hH;have SK:=aH (And.intro ((HZ.out _ (Gr.refl _)).1.of_gr (Gr.drew (Gr.refl _))) ((HZ.out _ (Gr.refl _)).2.trans (am.of_gr (Gr.drew (Gr.refl _)))));clear HZ HH KS0;go_wp2_with fail
 go_ret
 exact ⟨rfl,ρ4,SK.out.1,SK.out.2⟩
end
open Go.RowKit
attribute [local go_sem ↓] Go.wp_at_zero Go.wp_at_succ
theorem Tryz.callWords(M0:Array Value)(w:World):(callFunc 127 M0).run Tryz.prog w=.ok (.enter 127 M0) w:=Q7
section
variable {C:MC} {w w':World} {ρ:Nat->bD} {nm I0:Nat->Nat} {cs:Nat->Int} {ct:Int} {L:List ch} {bs:List (List PV)} {tk:Nat} {told:List Int}
theorem lr.names{Pa:Nat->Nat}{n:Nat}(e:∀j,j < n->Pa j=nm j):∀{L:List ch},lr C w ρ nm I0 L->(∀x∈L,Bd n x.slots/\Bd n x.stack)->lr C w ρ Pa I0 L
 | [],_,_=>trivial
 | x :: l,h,hb=>by
  obtain ⟨vc,vs,vk,f,h0⟩:=h.1;have hx:=hb x List.mem_cons_self;refine ⟨⟨vc,vs,vk,f,⟨h0.func,h0.code,h0.box,?_,?_,h0.rb,h0.rsl,h0.rst⟩⟩,lr.names e h.2 fun y hy=>hb y (List.mem_cons_of_mem _ hy)⟩
  · rw [gu e _ hx.1];exact h0.sl
  · rw [gu e _ hx.2];exact h0.st
theorem MW.addBlk{w0:World}{ρ0:Nat->bD}{v:Value}{fs:List PV}(h:MW C w ρ nm I0 cs ct L bs tk told)(h0:am w0 w ρ0 ρ)(hV:C.V.heap.size<=w0.heap.size)(hv:w.ownsRow w0.heap.size 166 2 v fs.length (dc nm fs))(hρ:∀k,v.ownBlock=some k->ρ k=.no)(Cs:0<=ct)(bL:∀x∈L,Bd bs.length x.slots/\Bd bs.length x.stack)(bB:∀r∈bs,Bd bs.length r)(bF:Bd bs.length fs):
 ∃ρ' Pa T7,Pa bs.length=w.heap.size/\MW C (w.alloc (.cells #[v,.int .i64 0] 216)) ρ' Pa I0 T7 ct L (bs++ [fs]) tk told/\am w0 (w.alloc (.cells #[v,.int .i64 0] 216)) ρ0 ρ':=by
 let ρ':Nat->bD:=fun b=>if b=w.heap.size then .bb bs.length else if v.ownBlock=some b then .bf bs.length else ρ b
 let Pa:Nat->Nat:=fun j=>if j=bs.length then w.heap.size else nm j
 let T7:Nat->Int:=fun j=>if j=bs.length then 0 else cs j
 have Jz:∀b,v.ownBlock=some b->w0.heap.size<=b/\b < w.heap.size:=fun b hb=>hv.lt b hb
 have g:=(Gr.refl w).alloc (.cells #[v,.int .i64 0] 216);have R0:(w.alloc (.cells #[v,.int .i64 0] 216)).heap.size=w.heap.size+1:=Q6
 have h0s:=h0.size;have Ez:ρ' w.heap.size=.bb bs.length:=if_pos rfl;have F6:∀b,v.ownBlock=some b->ρ' b=.bf bs.length:=fun b hb=>by
  have e1:¬b=w.heap.size:=by have:=(Jz b hb).2;omega
  show (if b=w.heap.size then _ else _)=_
  rw [if_neg e1,if_pos hb]
 have Lr:∀b,b < w.heap.size->(ρ b≠.no\/b < w0.heap.size)->ρ' b=ρ b:=fun b hb hn=>by
  have e1:¬b=w.heap.size:=Q5
  have e2:¬v.ownBlock=some b:=fun e=>by
   rcases hn with hn|hn
   · exact hn (hρ b e)
   · have:=(Jz b e).1;omega
  show (if b=w.heap.size then _ else _)=_
  rw [if_neg e1,if_neg e2]
 have C4:∀j,j < bs.length->Pa j=nm j:=fun j hj=>if_neg Q5
 have T6:Pa bs.length=w.heap.size:=if_pos rfl;have s:iC (fun r=>r≠.no) w (w.alloc (.cells #[v,.int .i64 0] 216)) ρ ρ':=fun b hb hS=>⟨g.block b hb Q6,Lr b hb (.inl hS)⟩
 have K:am w0 (w.alloc (.cells #[v,.int .i64 0] 216)) ρ0 ρ':=⟨g.os.trans h0.os,g.tape.trans h0.tape,g.output.trans h0.output,Q5,fun b hb=>(Lr b Q5 (.inr hb)).trans (h0.role b hb),fun b hb e=>(g.block b Q5 Q6).trans (h0.keep b hb e)⟩;obtain ⟨vf,vt,hm⟩:=h.mb;refine ⟨ρ',Pa,T7,T6,⟨h.gr.trans g,fun b hb=>?_,⟨vf,vt,hm.mv s nofun nofun nofun⟩,(h.frs.mv s fun i _=>⟨nofun,nofun,nofun,rfl⟩).names C4 bL,fun j r hj=>?_⟩,K⟩
 · have ES:=h.gr.size;by_cases e1:b=w.heap.size
   · subst e1;exact ⟨ES,Q5⟩
   · by_cases e2:v.ownBlock=some b
     · have:=Jz b e2;exact ⟨Q5,Q5⟩
     · have e3:ρ' b=ρ b:=by
        show (if b=w.heap.size then _ else _)=_
        rw [if_neg e1,if_neg e2]
       rw [e3] at hb;have:=h.lo b hb
       exact ⟨this.1,Q5⟩
 · by_cases e:j < bs.length
   · rw [List.getElem?_append_left e] at hj;obtain ⟨⟨v1,hB⟩,hc⟩:=h.blks j r hj;have hB1:=hB.mv s nofun nofun;have ec:T7 j=cs j:=if_neg Q5;rw [ec];refine ⟨⟨v1,⟨?_,?_,?_,hB1.rf⟩⟩,hc⟩
     · rw [C4 j e];exact hB1.box
     · rw [gu C4 _ (bB r (List.mem_of_getElem? hj))];exact hB1.fl
     · rw [C4 j e];exact hB1.rb
   · rw [List.getElem?_append_right Q5] at hj;have e0:j - bs.length=0:=by
      have:=(List.getElem?_eq_some_iff.1 hj).1
      simp at this;omega
     rw [e0] at hj;have ej:j=bs.length:=Q5
     subst ej;simp at hj
     subst hj;have ec:T7 bs.length=0:=if_pos rfl;rw [ec];refine ⟨⟨v,⟨?_,?_,?_,F6⟩⟩,Q5,Cs⟩
     · rw [T6];exact heap_alloc_new w _
     · rw [gu C4 _ bF];have:=dA hv g
       exact ⟨this.1,this.2.imp id (fun ⟨g,c,cur,e1,e2,e3⟩=>⟨g,c,cur,e1,Nat.zero_le _,e3⟩)⟩
     · rw [T6];exact Ez
theorem MW.setMb{tk':Nat}{Vf:Int}{vf vt:Value}(h:MW C w ρ nm I0 cs ct L bs tk told)(hm:ya C w ρ I0 L.length (tk:Int) ct told vf vt)(hF:pN w' C.mb C.v1 C.v2 C.v3 C.v4 C.v5 vf (C.heap:Int) (tk':Int) Vf vt)(Cs:ct<=Vf)(Gn:w'.os=w.os)(Qw:w'.tape=w.tape)(Rw:w'.output=w.output)(R0:w.heap.size<=w'.heap.size)(hoth:∀b,b < w.heap.size->¬b=C.mb->w'.heap[b]? =w.heap[b]?):
 MW C w' ρ nm I0 cs Vf L bs tk' told/\am w w' ρ ρ:=by
 have s:iC (fun r=>r≠.mach) w w' ρ ρ:=fun b hb hS=>⟨hoth b hb (fun e=>hS (e▸hm.rm)),rfl⟩
 have K:am w w' ρ ρ:=⟨Gn,Qw,Rw,R0,fun _ _=>rfl,fun b hb e=>hoth b hb (fun e2=>by rw [e2,hm.rm] at e;cases e)⟩;obtain ⟨a1,a2⟩:=dj hm.fr hm.rf s nofun;obtain ⟨b1,b2⟩:=dj hm.tl hm.rt s nofun;refine ⟨⟨K.gr h.gr h.lo,fun b hb=>⟨(h.lo b hb).1,Nat.lt_of_lt_of_le (h.lo b hb).2 R0⟩,⟨vf,vt,⟨hF,a1,b1,hm.rm,a2,b2⟩⟩,h.frs.mv s fun i _=>⟨nofun,nofun,nofun,rfl⟩,fun j r hj=>?_⟩,K⟩;obtain ⟨⟨v,hB⟩,hc⟩:=h.blks j r hj;exact ⟨⟨v,hB.mv s nofun nofun⟩,hc.1,Q5⟩
theorem zN{w0:World}{ρ0:Nat->bD}{v:Value}{fs:List PV}(h:MW C w ρ nm I0 cs ct L bs tk told)(h0:am w0 w ρ0 ρ)(hV:C.V.heap.size<=w0.heap.size)(hv:w.ownsRow w0.heap.size 166 2 v fs.length (dc nm fs))(hρ:∀k,v.ownBlock=some k->ρ k=.no)(Cs:0<=ct)(bL:∀x∈L,Bd bs.length x.slots/\Bd bs.length x.stack)(bB:∀r∈bs,Bd bs.length r)(bF:Bd bs.length fs)(Rp:tk<=10000000)(hf:fs.length<=1000):
 Calls Tryz.prog 95 #[.pointer (some ⟨C.mb,6,none⟩),v] w fun e w'=>∃ρ' Pa T7,e=.returned (.pointer (some ⟨Pa bs.length,0,none⟩))/\MW C w' ρ' Pa I0 T7 ct L (bs++ [fs]) (tk+(fs.length+1)) told/\am w0 w' ρ0 ρ':=by
 obtain ⟨va,Sp,rfl⟩:=aL hv;obtain ⟨vf,vt,hm⟩:=h.mb;have N3:=hm.box;have Hn:=(heap_setCell_same w C.mb 7 _ _ (.int .i64 ((tk+(fs.length+1):Nat):Int)) N3).trans (by simp:_=some (.cells #[C.v1,C.v2,C.v3,C.v4,C.v5,vf,.int .i64 (C.heap:Int),.int .i64 ((tk+(fs.length+1):Nat):Int),.int .i64 ct,vt] 108 (0,0)));have h2:=h.setMb (w':=w.setCell ⟨C.mb,7,none⟩ (.int .i64 ((tk+(fs.length+1):Nat):Int))) hm Hn (Int.le_refl _) rfl rfl rfl Q6 (fun b hb hne=>Below.heap_setCell _ _ _ _ (by show b≠C.mb;exact hne));have I7:(w.setCell ⟨C.mb,7,none⟩ (.int .i64 ((tk+(fs.length+1):Nat):Int))).ownsRow w0.heap.size 166 2 (.slice va fs.length Sp) fs.length (dc nm fs):=bS hv fun k hk=>Below.heap_setCell _ _ _ _ (by show k≠C.mb;exact fun e=>by have:=hρ k hk;rw [e,hm.rm] at this;cases this)
 have HZ:Hid (∀w2,Gr (w.setCell ⟨C.mb,7,none⟩ (.int .i64 ((tk+(fs.length+1):Nat):Int))) w2->∃ρ' Pa T7,Pa bs.length=w2.heap.size/\MW C (w2.alloc (.cells #[.slice va fs.length Sp,.int .i64 0] 216)) ρ' Pa I0 T7 ct L (bs++ [fs]) (tk+(fs.length+1)) told/\am w0 (w2.alloc (.cells #[.slice va fs.length Sp,.int .i64 0] 216)) ρ0 ρ'):=aH (fun w2 gg=>(h2.1.of_gr gg).addBlk (h0.trans (h2.2.trans (am.of_gr gg))) hV (dA I7 gg) hρ Cs bL bB bF);have c7:w.cell? ⟨C.mb,7,none⟩=some (.int .i64 (tk:Int)):=by rw [aJ N3];rfl
 have KS0:Hid (∀w',Gr w w'->w'.cell? ⟨C.mb,7,none⟩=some (.int .i64 (tk:Int))):=aH (fun w' g=>g.cell c7 Q6);have z7:w.frozen? ⟨C.mb,7,none⟩=false:=aS N3;have D2:IntKind.i64.wrap ((tk:Int)+((fs.length:Int)+1))=((tk+(fs.length+1):Nat):Int):=by rw [Q_];omega
 clear Hn h2 I7 N3 hm h h0 hv hρ bL bB bF;generalize C.mb=mb at KS0 c7 z7 HZ |-;generalize ((tk+(fs.length+1):Nat):Int)=TK at HZ D2 |-;go_enter Tryz.func95,Tryz.ntmps95
 go_wp2_with fail
 refine cJ 10 (S:=(fun w'=>w'.cell? ⟨mb,7,none⟩=some (.int .i64 (tk:Int)))) Q7 (KS0.out _ (Gr.drew (Gr.refl _))) (fun hH=>?_);refine tY 0 ?_;simp only [Act.put,sA,s0,s1];refine tY 1 ?_;simp only [Act.put,sA,s0,s1];refine tY 2 ?_;simp only [Act.put,sA,s0,s1];refine tY 3 ?_;simp only [Act.put,sA,s0,s1];refine tY 4 ?_;simp only [Act.put,sA,s0,s1];refine tY 5 ?_;simp only [Act.put,sA,s0,s1];refine cg (i:=6) rfl Q7 (fun K hK=>?_);refine aQ rfl 127 _ _ rfl #[.int .i64 (fs.length:Int)] fk (Tryz.callWords _ _) ((gY fs.length _ Q5).mono ?_);rintro e w2 ⟨rfl,D3⟩;subst D3;refine .inl ⟨_,rfl,?_⟩;refine hK.out _ _ (fun _=>KS0.out _ (Gr.drew (Gr.refl _))) (fun hH=>?_);replace hH:=hH Q9;clear hK;try simp only [Act.put,sA,s0,s1]
 refine tY 7 ?_;simp only [Act.put,sA,s0,s1];refine tY 8 ?_;simp only [Act.put,sA,s0,s1];refine tY 9 ?_;simp only [Act.put,sA,s0,s1];refine cg (i:=10) rfl Q7 (fun K hK=>?_);have HK:=aH hK;clear hK;refine ae cw ?_;go_simp
 have hK:=HK.out;clear HK c7 z7;refine hK.out _ _ (fun h=>absurd rfl h) (fun _=>?_);clear hK;try simp only [Act.put,sA,s0,s1]
 refine jJ Q7 ?_ _;clear hH KS0;obtain ⟨ρ',Pa,T7,hn,hM,hK⟩:=HZ.out _ (Gr.drew (Gr.refl _));have HR:=aH (And.intro hn (And.intro hM hK));clear hn hM hK HZ;go_wp2_with fail
 go_ret
 exact ⟨ρ',Pa,T7,by rw [HR.out.1];simp,HR.out.2.1,HR.out.2.2⟩
end
def cq(L:List ch)(bs:List (List PV)):Nat:=(fV bs (bs.length+(cA L).length+1) ⟨fun _=>false,0,cA L⟩).all
def oT(mark:Nat->Bool)(n:Nat):Nat:=((List.range n).filter fun k=>!mark k).length
theorem qB{mark mark':Nat->Bool}:∀{n:Nat},(∀k,k < n->mark' k=mark k)->oT mark' n=oT mark n:=fun {n} h=>by
 unfold oT;congr 1
 exact List.filter_congr fun k hk=>by rw [h k (List.mem_range.1 hk)]
theorem nO(mark:Nat->Bool)(n:Nat):oT mark (n+1)=oT mark n+(if mark n then 0 else 1):=by
 unfold oT;rw [List.range_succ,List.filter_append,List.length_append];cases h:mark n<;>simp [h]
theorem qS{mark:Nat->Bool}{j:Nat}(hm:mark j=false):∀{n:Nat},j < n->oT (fun k=>decide (k=j) || mark k) n+1=oT mark n
 | 0,h=>by omega
 | n+1,h=>by
  rw [nO,nO];by_cases e:j=n
  · subst e;have:=qB (n:=j) (mark:=mark) (mark':=fun k=>decide (k=j) || mark k) (fun k hk=>by simp;omega)
    rw [this,hm];simp
  · have ih:=qS hm (n:=n) Q5;have:decide (n=j)=false:=by simp;omega
    simp only [this,Bool.false_or];omega
theorem nR:∀(n:Nat),oT (fun _=>false) n=n
 | 0=>rfl
 | n+1=>by rw [nO,nR n];rfl
theorem nF{bs:List (List PV)}{st:pT}(h:st.wt= []):∀n,fV bs n st=st
 | 0=>rfl
 | n+1=>by simp [fV,h]
theorem mC{bs:List (List PV)}{st:pT}{wt:List (List PV)}{r:List PV}(h:st.wt=wt++ [r])(n:Nat):fV bs (n+1) st=fV bs n (cK bs r ⟨st.mark,st.all,wt⟩):=by
 simp [fV,h]
theorem oS{bs:List (List PV)}{v:PV}{vs:List PV}{st:pT}(h:v.blk=none):cK bs (v :: vs) st=cK bs vs st:=by
 rw [cK,h]
theorem rF{bs:List (List PV)}{v:PV}{vs:List PV}{st:pT}{j:Nat}(h:v.blk=some j)(hm:st.mark j=true):cK bs (v :: vs) st=cK bs vs st:=by
 rw [cK,h];simp [hm]
theorem wS{bs:List (List PV)}{v:PV}{vs:List PV}{st:pT}{j:Nat}{fs:List PV}(h:v.blk=some j)(hm:st.mark j=false)(hf:bs[j]? =some fs):cK bs (v :: vs) st=cK bs vs ⟨fun k=>decide (k=j) || st.mark k,st.all+(fs.length+1),st.wt++ [fs]⟩:=by
 rw [cK,h];simp [hm,List.getD_eq_getElem?_getD,hf]
def AH:Value->Nat
 | .slice _ n _=>n
 | _=>0
def Bf(w:World)(a:Addr):Int:=match w.cell? a with
 | some v=>intOf v
 | none=>0
def CA(nm:Nat->Nat)(n:Nat)(c:Int)(w:World):Nat:=oT (fun k=>decide (Bf w ⟨nm k,1,none⟩=c)) n
def pP(r:bD):Prop:=∃i,r=.fsl i\/r=.fst i\/r=.bf i
structure WE(w:World)(ρ:Nat->bD)(nm:Nat->Nat)(n:Nat)(v:Value)(r:List PV):Prop where
 own:w.ownsRow 0 166 2 v r.length (dc nm r)
 role:∀b,v.ownBlock=some b->pP (ρ b)
 bd:Bd n r
 short:r.length<=1000
theorem WE.mv{w w':World}{ρ:Nat->bD}{nm:Nat->Nat}{n:Nat}{v:Value}{r:List PV}(h:WE w ρ nm n v r)(s:∀b,b < w.heap.size->pP (ρ b)->w'.heap[b]? =w.heap[b]?):WE w' ρ nm n v r:=
 ⟨bS h.own fun k hk=>s k (h.own.lt k hk).2 (h.role k hk),h.role,h.bd,h.short⟩
structure RW(C:MC)(w0:World)(ρ:Nat->bD)(nm I0:Nat->Nat)(c:Int)(L:List ch)(bs:List (List PV))(tk:Nat)(told:List Int)(wr:World)(vw:Value)(st:pT):Prop where
 mw:∃cs,MW C wr ρ nm I0 cs c L bs tk told/\∀j,j < bs.length->st.mark j=decide (cs j=c)
 kp:am w0 wr ρ ρ
 wt:∃es:List (Value×List PV),es.map (·.2)=st.wt/\wr.ownsRow w0.heap.size 160 1 vw es.length (es.map (·.1))/\∀e∈es,WE wr ρ nm bs.length e.1 e.2
section
variable {C:MC} {w0 wr w':World} {ρ:Nat->bD} {nm I0:Nat->Nat} {c:Int} {L:List ch} {bs:List (List PV)} {tk:Nat} {told:List Int} {vw:Value} {st:pT}
theorem RW.of_gr(h:RW C w0 ρ nm I0 c L bs tk told wr vw st)(g:Gr wr w'):RW C w0 ρ nm I0 c L bs tk told w' vw st:=by
 obtain ⟨cs,hM,hc⟩:=h.mw;obtain ⟨es,h1,h2,h3⟩:=h.wt;exact ⟨⟨cs,hM.of_gr g,hc⟩,h.kp.trans (am.of_gr g),⟨es,h1,dA h2 g,fun e he=>(h3 e he).mv fun b hb _=>g.block b hb Q6⟩⟩
theorem RW.un(h:RW C w0 ρ nm I0 c L bs tk told wr vw st):CA nm bs.length c wr=oT st.mark bs.length:=by
 obtain ⟨cs,hM,hc⟩:=h.mw;unfold CA;refine qB fun k hk=>?_
 obtain ⟨⟨v,hB⟩,_⟩:=hM.blks k _ (List.getElem?_eq_getElem hk);have:wr.cell? ⟨nm k,1,none⟩=some (.int .i64 (cs k)):=by rw [aJ hB.box];rfl
 rw [hc k hk];unfold Bf;rw [this];rfl
theorem RW.len(h:RW C w0 ρ nm I0 c L bs tk told wr vw st):AH vw=st.wt.length:=by
 obtain ⟨es,h1,h2,_⟩:=h.wt;obtain ⟨ao,cp,rfl⟩:=aL h2;rw [<-h1];simp [AH]
theorem RW.mark{j:Nat}{fs:List PV}(h:RW C w0 ρ nm I0 c L bs tk told wr vw st)(Rj:∀b,w0.heap.size<=b->ρ b=.no)(hj:bs[j]? =some fs)(L8:0<=c):RW C w0 ρ nm I0 c L bs tk told (wr.setCell ⟨nm j,1,none⟩ (.int .i64 c)) vw ⟨fun k=>decide (k=j) || st.mark k,st.all,st.wt⟩:=by
 obtain ⟨cs,hM,hc⟩:=h.mw;obtain ⟨es,h1,h2,h3⟩:=h.wt;obtain ⟨⟨v,hB⟩,_⟩:=hM.blks j fs hj;have hm:=hM.mark c hj hB ⟨L8,Int.le_refl _⟩;have hoth:∀b,¬b=nm j->(wr.setCell ⟨nm j,1,none⟩ (.int .i64 c)).heap[b]? =wr.heap[b]? :=fun b hb=>Below.heap_setCell _ _ _ _ hb
 refine ⟨⟨_,hm.1,fun k hk=>?_⟩,h.kp.trans hm.2,⟨es,h1,bS h2 fun k hk=>hoth k fun e=>?_,fun e he=>(h3 e he).mv fun b hb hr=>hoth b fun e2=>?_⟩⟩
 · show (decide (k=j) || st.mark k)=decide ((if k=j then c else cs k)=c)
   by_cases e:k=j
   · simp [e]
   · simp [e,hc k hk]
 · have:=Rj k (h2.lt k hk).1
   rw [e,hB.rb] at this;cases this
 · rw [e2,hB.rb] at hr;obtain ⟨i,hi⟩:=hr;rcases hi with hi|hi|hi<;>cases hi
theorem RW.grow{wa:World}{Vg:Value}{es new:List (Value×List PV)}{all:Nat}(h:RW C w0 ρ nm I0 c L bs tk told wr vw st)(Rj:∀b,w0.heap.size<=b->ρ b=.no)(hV:C.V.heap.size<=w0.heap.size)(hg:Gr wr wa)(hga:wa.grownBy w' vw.ownBlock)(ho:w'.ownsRow w0.heap.size 160 1 Vg (es++new).length ((es++new).map (·.1)))(Yd:es.map (·.2)=st.wt)(he:∀e∈es,WE wr ρ nm bs.length e.1 e.2)(hn:∀e∈new,WE wr ρ nm bs.length e.1 e.2):
 RW C w0 ρ nm I0 c L bs tk told w' Vg ⟨st.mark,all,st.wt++new.map (·.2)⟩:=by
 obtain ⟨cs,hM,hc⟩:=h.mw;obtain ⟨es0,_,h2,_⟩:=h.wt;have Tm:∀b,vw.ownBlock=some b->w0.heap.size<=b/\ρ b=.no:=fun b hb=>⟨(h2.lt b hb).1,Rj b (h2.lt b hb).1⟩
 have hkeep:∀b,b < wr.heap.size->¬vw.ownBlock=some b->w'.heap[b]? =wr.heap[b]? :=fun b hb hne=>(hga.block b (Nat.lt_of_lt_of_le hb hg.size) (fun e=>hne e.symm)).trans (hg.block b hb Q6)
 have FA:MW C w' ρ nm I0 cs c L bs tk told:=hM.other (hga.os.trans hg.os) (hga.tape.trans hg.tape) (hga.output.trans hg.output) (Nat.le_trans hg.size hga.size) fun b hb hr=>hkeep b hb fun e=>by
  rcases hr with hr|hr
  · exact hr (Tm b e).2
  · have:=(Tm b e).1;omega
 have T1:∀b,b < wr.heap.size->pP (ρ b)->w'.heap[b]? =wr.heap[b]? :=fun b hb hr=>hkeep b hb fun e=>by
  obtain ⟨i,hi⟩:=hr;rw [(Tm b e).2] at hi;rcases hi with hi|hi|hi<;>cases hi
 refine ⟨⟨cs,FA,hc⟩,⟨hga.os.trans (hg.os.trans h.kp.os),hga.tape.trans (hg.tape.trans h.kp.tape),hga.output.trans (hg.output.trans h.kp.output),Nat.le_trans h.kp.size (Nat.le_trans hg.size hga.size),fun _ _=>rfl,fun b hb e=>(hkeep b (Nat.lt_of_lt_of_le hb h.kp.size) fun e2=>by have:=(Tm b e2).1;omega).trans (h.kp.keep b hb e)⟩,⟨es++new,by simp [Yd],ho,fun e hx=>?_⟩⟩;rcases List.mem_append.1 hx with hx|hx
 · exact (he e hx).mv T1
 · exact (hn e hx).mv T1
end
theorem lr.at{C:MC}{w:World}{ρ:Nat->bD}{nm I0:Nat->Nat}:∀{L:List ch} {i:Nat},lr C w ρ nm I0 L->i < L.length->∃x∈L,L.drop (L.length - (i+1))=x :: L.drop (L.length - i)/\CL C w ρ nm I0 i x
 | [],i,_,hi=>by simp at hi
 | x :: l,i,h,hi=>by
  by_cases e:i=l.length
  · subst e;exact ⟨x,List.mem_cons_self,Q6,h.1⟩
  · have hl:i < l.length:=by simp at hi;omega
    obtain ⟨y,hy,e1,e2⟩:=lr.at h.2 hl;refine ⟨y,List.mem_cons_of_mem _ hy,?_,e2⟩;rw [show (x :: l).length - (i+1)=(l.length - (i+1))+1 by simp;omega,show (x :: l).length - i=(l.length - i)+1 by simp;omega,List.drop_succ_cons,List.drop_succ_cons];exact e1
theorem lg:∀L:List ch,(cA L).length=2 * L.length
 | []=>rfl
 | x :: l=>by simp [cA,lg l];omega
end Go.Proofs.YtkgncijcnlfhiabGreat
