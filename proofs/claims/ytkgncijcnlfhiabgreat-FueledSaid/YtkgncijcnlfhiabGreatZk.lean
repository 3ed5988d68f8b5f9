import Derived.Deep.RegionLaw
import Derived.Test.YtkgncijcnlfhiabGreatZ7
import Derived.Deep.Cut
import Derived.Deep.CutRange
import Derived.Test.YtkgncijcnlfhiabGreatZ6
namespace Go.Proofs.YtkgncijcnlfhiabGreat
set_option maxRecDepth 100000
set_option maxHeartbeats 4000000
set_option linter.unusedVariables false
set_option linter.unusedSimpArgs false
open Go.RowKit
attribute [local go_sem ↓] Go.wp_at_zero Go.wp_at_succ
theorem lU(w:World)(x0 x1 x2 x3 x4 x5 x6 x7:Value)(op ia ib n a:Int):(((w.alloc (.cells #[x0,x1,x2,x3,x4,x5,x6,x7] 80)).alloc (.cells #[.int .i64 op,.int .i64 ia,.int .i64 ib] 42)).alloc (.cells #[.int .i64 10,.int .i64 n,.int .i64 a] 62)).alloc (.cells #[.slice none 0 0,.slice none 0 0] 184)=lR w x0 x1 x2 x3 x4 x5 x6 x7 op ia ib n a:=rfl
theorem r8(w:World)(y:Int)(t:TypeId):(w.alloc (.cells #[.int .i64 y] t)).drew.cell? ⟨w.heap.size,0,none⟩=some (.int .i64 y):=by simp [go_sem]
theorem uc{w:World}{p:Addr}{x:Value}(h:w.cell? p=some x):w.drew.cell? p=some x:=h
theorem oX{w1 w2:World}{p0 p1 p2 p3 p4 p5 p6 p7 p8 p9 p10 p11 p12 p13:Addr}{x0 x1 x2 x3 x4 x5 x6 x7 x8 x9 Jp Lp Mp Np:Value}(g:Gr w1 w2)(h:w1.cell? p0=some x0/\w1.cell? p1=some x1/\w1.cell? p2=some x2/\w1.cell? p3=some x3/\w1.cell? p4=some x4/\w1.cell? p5=some x5/\w1.cell? p6=some x6/\w1.cell? p7=some x7/\w1.cell? p8=some x8/\w1.cell? p9=some x9/\w1.cell? p10=some Jp/\w1.cell? p11=some Lp/\w1.cell? p12=some Mp/\w1.cell? p13=some Np):w2.cell? p0=some x0/\w2.cell? p1=some x1/\w2.cell? p2=some x2/\w2.cell? p3=some x3/\w2.cell? p4=some x4/\w2.cell? p5=some x5/\w2.cell? p6=some x6/\w2.cell? p7=some x7/\w2.cell? p8=some x8/\w2.cell? p9=some x9/\w2.cell? p10=some Jp/\w2.cell? p11=some Lp/\w2.cell? p12=some Mp/\w2.cell? p13=some Np:=by
 obtain ⟨h0,h1,h2,h3,h4,h5,h6,h7,h8,h9,Ev,V8,O_,Jg⟩:=h;exact ⟨g.cell h0 Q6,g.cell h1 Q6,g.cell h2 Q6,g.cell h3 Q6,g.cell h4 Q6,g.cell h5 Q6,g.cell h6 Q6,g.cell h7 Q6,g.cell h8 Q6,g.cell h9 Q6,g.cell Ev Q6,g.cell V8 Q6,g.cell O_ Q6,g.cell Jg Q6⟩
theorem wv{w1:World}{s:Nat}{x0 x1 x2 x3 x4 x5 x6 x7 x8 x9 Jp Lp Mp Np y0 y1:Value}(h:w1.cell? ⟨s,0,none⟩=some x0/\w1.cell? ⟨s,1,none⟩=some x1/\w1.cell? ⟨s,2,none⟩=some x2/\w1.cell? ⟨s,3,none⟩=some x3/\w1.cell? ⟨s,4,none⟩=some x4/\w1.cell? ⟨s,5,none⟩=some x5/\w1.cell? ⟨s,6,none⟩=some x6/\w1.cell? ⟨s,7,none⟩=some x7/\w1.cell? ⟨s+1,0,none⟩=some x8/\w1.cell? ⟨s+1,1,none⟩=some x9/\w1.cell? ⟨s+1,2,none⟩=some Jp/\w1.cell? ⟨s+1+1,0,none⟩=some Lp/\w1.cell? ⟨s+1+1,1,none⟩=some Mp/\w1.cell? ⟨s+1+1,2,none⟩=some Np):((w1.setCell ⟨s+1+1+1,0,none⟩ y0).setCell ⟨s+1+1+1,1,none⟩ y1).cell? ⟨s,0,none⟩=some x0/\((w1.setCell ⟨s+1+1+1,0,none⟩ y0).setCell ⟨s+1+1+1,1,none⟩ y1).cell? ⟨s,1,none⟩=some x1/\((w1.setCell ⟨s+1+1+1,0,none⟩ y0).setCell ⟨s+1+1+1,1,none⟩ y1).cell? ⟨s,2,none⟩=some x2/\((w1.setCell ⟨s+1+1+1,0,none⟩ y0).setCell ⟨s+1+1+1,1,none⟩ y1).cell? ⟨s,3,none⟩=some x3/\((w1.setCell ⟨s+1+1+1,0,none⟩ y0).setCell ⟨s+1+1+1,1,none⟩ y1).cell? ⟨s,4,none⟩=some x4/\((w1.setCell ⟨s+1+1+1,0,none⟩ y0).setCell ⟨s+1+1+1,1,none⟩ y1).cell? ⟨s,5,none⟩=some x5/\((w1.setCell ⟨s+1+1+1,0,none⟩ y0).setCell ⟨s+1+1+1,1,none⟩ y1).cell? ⟨s,6,none⟩=some x6/\((w1.setCell ⟨s+1+1+1,0,none⟩ y0).setCell ⟨s+1+1+1,1,none⟩ y1).cell? ⟨s,7,none⟩=some x7/\((w1.setCell ⟨s+1+1+1,0,none⟩ y0).setCell ⟨s+1+1+1,1,none⟩ y1).cell? ⟨s+1,0,none⟩=some x8/\((w1.setCell ⟨s+1+1+1,0,none⟩ y0).setCell ⟨s+1+1+1,1,none⟩ y1).cell? ⟨s+1,1,none⟩=some x9/\((w1.setCell ⟨s+1+1+1,0,none⟩ y0).setCell ⟨s+1+1+1,1,none⟩ y1).cell? ⟨s+1,2,none⟩=some Jp/\((w1.setCell ⟨s+1+1+1,0,none⟩ y0).setCell ⟨s+1+1+1,1,none⟩ y1).cell? ⟨s+1+1,0,none⟩=some Lp/\((w1.setCell ⟨s+1+1+1,0,none⟩ y0).setCell ⟨s+1+1+1,1,none⟩ y1).cell? ⟨s+1+1,1,none⟩=some Mp/\((w1.setCell ⟨s+1+1+1,0,none⟩ y0).setCell ⟨s+1+1+1,1,none⟩ y1).cell? ⟨s+1+1,2,none⟩=some Np:=by
 obtain ⟨h0,h1,h2,h3,h4,h5,h6,h7,h8,h9,Ev,V8,O_,Jg⟩:=h;exact ⟨(bN Q5).trans h0,(bN Q5).trans h1,(bN Q5).trans h2,(bN Q5).trans h3,(bN Q5).trans h4,(bN Q5).trans h5,(bN Q5).trans h6,(bN Q5).trans h7,(bN Q5).trans h8,(bN Q5).trans h9,(bN Q5).trans Ev,(bN Q5).trans V8,(bN Q5).trans O_,(bN Q5).trans Jg⟩
theorem jN{ops:Array Oper}{o:Oper}{a:Act}{K:Act->World->Prop}{Q:Exit->Act->World->Prop}{E:Prop}{w:World}(Z':o.guard=none)(f:FuncId)(args:Array Operand)(Ws:Array TypeId)
 (ho:o.op=.call { callee:=.value (.func f),args:=args,argTypes:=Ws }) (M0:Array Value) (hv:args.map a.eval=M0) (Yh:(callFunc f M0).run Tryz.prog w=.ok (.enter f M0) w) (h:Calls Tryz.prog f M0 w (fun x w'=>∃v,x=.returned v/\K (a.put o.dst v) w')):
 if Region.wanted o (yielded ops a.tmps)=true then Oper.wp Tryz.prog o a w K Q else E:=by
 have hw:Region.wanted o (yielded ops a.tmps)=true:=by simp [Region.wanted,Z']
 rw [if_pos hw];unfold Oper.wp;have he:(execOp a.eval o).run Tryz.prog w=.ok (.enter f M0) w:=by
  subst hv;simp [execOp,ho,resolve,invoke,Act.eval,go_sem]
  exact Yh
 rw [he,Oper.upon_enter];refine h.mono ?_;rintro x w' ⟨v,rfl,hk⟩;exact hk
theorem jk{ops:Array Oper}{o:Oper}{a:Act}{K:Act->World->Prop}{Q:Exit->Act->World->Prop}{E:Prop}{w:World}(Z':o.guard=none)(f:FuncId)(args:Array Operand)(Ws:Array TypeId)
 (ho:o.op=.call { callee:=.value (.func f),args:=args,argTypes:=Ws }) (M0:Array Value) (hv:args.map a.eval=M0) (Yh:(callFunc f M0).run Tryz.prog w=.ok (.enter f M0) w) (h:Calls Tryz.prog f M0 w (fun x w'=>∃c,x=.panicked c/\Q (.panic c) a w')):
 if Region.wanted o (yielded ops a.tmps)=true then Oper.wp Tryz.prog o a w K Q else E:=by
 have hw:Region.wanted o (yielded ops a.tmps)=true:=by simp [Region.wanted,Z']
 rw [if_pos hw];unfold Oper.wp;have he:(execOp a.eval o).run Tryz.prog w=.ok (.enter f M0) w:=by
  subst hv;simp [execOp,ho,resolve,invoke,Act.eval,go_sem]
  exact Yh
 rw [he,Oper.upon_enter];refine h.mono ?_;rintro x w' ⟨v,rfl,hk⟩;exact hk
theorem Tryz.callKinds(M0:Array Value)(w:World):(callFunc 134 M0).run Tryz.prog w=.ok (.enter 134 M0) w:=Q7
theorem Tryz.callFields(M0:Array Value)(w:World):(callFunc 138 M0).run Tryz.prog w=.ok (.enter 138 M0) w:=Q7
theorem Tryz.callField(M0:Array Value)(w:World):(callFunc 139 M0).run Tryz.prog w=.ok (.enter 139 M0) w:=Q7
theorem ma{o:Option (List Int×List Int)}{n a:Int}{w wf:World}{g:Nat}{T P:Value}{ts ps:List Int}(hq:o=some (ts,ps))(M3:Gr w (put2 wf g T P))(ht:aW (put2 wf g T P) T ts)(hp:aW (put2 wf g T P) P ps):gO o n a w (.returned (.agg #[T,P])) (put2 wf g T P):=by
 subst hq;exact ⟨M3,T,P,rfl,ht,hp⟩
theorem As(u:aK)(f:aO)(ja jb:Nat)(J2:ja<=65535)(Y0:jb<=65535)(st:List Int)(v1 v2 v3 v4 v5 vs I2:Value)(n a:Int)(W w:World)(hS:Sc W u (f.aF++f.aG) v1 v2 v3 v4 vs)(hW:Gr W w)(T0:aW w I2 st)(I5:f.code.length<=1000000):
 Calls Tryz.prog 107 #[.agg #[v1,v2,v3,v4,v5,vs,.int .i64 (f.code.length:Int),.int .i64 f.result],.agg #[.int .i64 15,.int .i64 (ja:Int),.int .i64 (jb:Int)],I2,.agg #[.int .i64 10,.int .i64 n,.int .i64 a]] w (gO (aj u f ⟨15,(ja:Int),(jb:Int)⟩ st) n a w):=by
 have M4:Hid (∀G4,f.aF++f.aG=G4->aj u f ⟨15,(ja:Int),(jb:Int)⟩ st=(dE u (ja:Int)).map fun s=>(s,[(ja:Int)])):=aH (fun G4 h=>by subst h;unfold aj dQ;simp [dE]);generalize hsl:f.aF++f.aG=sl at hS;have J4:=aH (M4.out sl hsl);clear hsl M4;obtain ⟨a2,c2,rfl⟩:=hS.co;obtain ⟨a1,c1,rfl⟩:=hS.sh.shape;obtain ⟨a3,c3,rfl⟩:=hS.fu.shape;obtain ⟨a4,c4,L6⟩:∃ao cap,v4=.slice ao u.aB.length cap:=by obtain ⟨ao,cap,h,_⟩:=hS.im;exact ⟨ao,cap,h⟩
 subst L6;obtain ⟨al,cs,rfl⟩:=hS.sl.shape;obtain ⟨at_,ct,rfl⟩:=T0.shape;have HS:=aH hS;have K7:=aH hW;have HB:=aH (lw.new w (.slice a1 u.aA.length c1) (.slice a2 u.aD.length c2) (.slice a3 u.aE.length c3) (.slice a4 u.aB.length c4) v5 (.slice al sl.length cs) (.int .i64 (f.code.length:Int)) (.int .i64 f.result) 15 (ja:Int) (jb:Int) n a);clear hS T0 hW;cases hx:dE u (ja:Int) with
 | some s=>
  have HX:=aH hx;have HQ:Hid (aj u f ⟨15,(ja:Int),(jb:Int)⟩ st=some (s,[(ja:Int)])):=aH (by rw [J4.out,hx];rfl);clear hx J4;have HF:Hid (∀U:World,Gr w U->Calls Tryz.prog 138 #[.agg #[.slice a1 u.aA.length c1,.slice a2 u.aD.length c2,.slice a3 u.aE.length c3,.slice a4 u.aB.length c4,v5,.slice al sl.length cs,.int .i64 (f.code.length:Int),.int .i64 f.result],.int .i64 (ja:Int),.agg #[.int .i64 10,.int .i64 n,.int .i64 a]] U fun x w'=>Gr U w'/\∃v,x=.returned v/\aW W v s):=aH (fun U hU=>kg HX.out Q5 Q5 _ _ _ _ _ _ _ _ _ _ W _ HS.out.sh (K7.out.trans hU));go_enter Tryz.func107,Tryz.ntmps107
  go_wp2_with fail
  rw [lU];generalize lR w (.slice a1 u.aA.length c1) (.slice a2 u.aD.length c2) (.slice a3 u.aE.length c3) (.slice a4 u.aB.length c4) v5 (.slice al sl.length cs) (.int .i64 (f.code.length:Int)) (.int .i64 f.result) 15 (ja:Int) (jb:Int) n a=V at HB |-;have Sg:=HB.out.sz;obtain ⟨-,-,s0,s1,s2,s3,s4,s5,s6,s7,i0,i1,i2,y0,y1,y2,-,-,-,-⟩:=HB.out;go_region_held3 (fun w'=>w'.cell? ⟨w.heap.size,0,none⟩=some (.slice a1 u.aA.length c1)/\w'.cell? ⟨w.heap.size,1,none⟩=some (.slice a2 u.aD.length c2)/\w'.cell? ⟨w.heap.size,2,none⟩=some (.slice a3 u.aE.length c3)/\w'.cell? ⟨w.heap.size,3,none⟩=some (.slice a4 u.aB.length c4)/\w'.cell? ⟨w.heap.size,4,none⟩=some (v5)/\w'.cell? ⟨w.heap.size,5,none⟩=some (.slice al sl.length cs)/\w'.cell? ⟨w.heap.size,6,none⟩=some (.int .i64 (f.code.length:Int))/\w'.cell? ⟨w.heap.size,7,none⟩=some (.int .i64 f.result)/\w'.cell? ⟨w.heap.size+1,0,none⟩=some (.int .i64 15)/\w'.cell? ⟨w.heap.size+1,1,none⟩=some (.int .i64 (ja:Int))/\w'.cell? ⟨w.heap.size+1,2,none⟩=some (.int .i64 (jb:Int))/\w'.cell? ⟨w.heap.size+1+1,0,none⟩=some (.int .i64 10)/\w'.cell? ⟨w.heap.size+1+1,1,none⟩=some (.int .i64 n)/\w'.cell? ⟨w.heap.size+1+1,2,none⟩=some (.int .i64 a)) (first|(go_keep;done)|exact oX D0 Q8|exact oX E0 Q8|exact wv ⟨hE.s0,hE.s1,hE.s2,hE.s3,hE.s4,hE.s5,hE.s6,hE.s7,hE.i0,hE.i1,hE.i2,hE.y0,hE.y1,hE.y2⟩) (first|(go_at_call 138;refine (HF.out _ (HB.out.gr.trans Q2)).mono ?_;rintro e w' ⟨D0,v,rfl,Tf⟩;obtain ⟨av,cv,rfl⟩:=Tf.shape;have Vm:=aH Tf;clear Tf;have hE:=HB.out.go (show Gr V w' from Q2);have R0:=hE.sz;have r0:=hE.r0;have r1:=hE.r1;have z0:=hE.z0;have z1:=hE.z1)|(go_at_call 134;refine (a8 _ _).mono ?_;rintro e w2 ⟨rfl,E0⟩;have hE:=HB.out.go (show Gr V w2 from Q2);have R0:=hE.sz;have r0:=hE.r0;have r1:=hE.r1;have z0:=hE.z0;have z1:=hE.z1))
  all_goals go_wp2_with fail
  all_goals rw [cH]
  all_goals have Sy:=fun y0 y1=>(bq (y0:=y0) (y1:=y1) hE.r0 hE.r1).1
  all_goals have Mg:=fun y0 y1=>(bq (y0:=y0) (y1:=y1) hE.r0 hE.r1).2
  all_goals exact bodyPost_ret (by simp [results,Tryz.results107,go_sem,Sy,Mg]) rfl (ma HQ.out (bJ hE.gr Q5) (by first|exact bn _|exact Vm.out.gr (K7.out.trans (bJ hE.gr Q5))|exact bp (w:=w) Q1 Q5|exact eP (w:=w) Q1 Q1 Q5) (by first|exact bn _|exact Vm.out.gr (K7.out.trans (bJ hE.gr Q5))|exact bp (w:=w) Q1 Q5|exact eP (w:=w) Q1 Q1 Q5))
 | none=>
  have HX:=aH hx;have HQ:Hid (aj u f ⟨15,(ja:Int),(jb:Int)⟩ st=none):=aH (by rw [J4.out,hx];rfl);clear hx J4;have HF:Hid (∀U:World,Gr w U->Calls Tryz.prog 138 #[.agg #[.slice a1 u.aA.length c1,.slice a2 u.aD.length c2,.slice a3 u.aE.length c3,.slice a4 u.aB.length c4,v5,.slice al sl.length cs,.int .i64 (f.code.length:Int),.int .i64 f.result],.int .i64 (ja:Int),.agg #[.int .i64 10,.int .i64 n,.int .i64 a]] U fun x w'=>Gr U w'/\x=.panicked (kC 10 n a)):=aH (fun U hU=>lu HX.out Q5 Q5 _ _ _ _ _ _ _ _ _ _ W _ HS.out.sh (K7.out.trans hU));go_enter Tryz.func107,Tryz.ntmps107
  go_wp2_with fail
  rw [lU];generalize lR w (.slice a1 u.aA.length c1) (.slice a2 u.aD.length c2) (.slice a3 u.aE.length c3) (.slice a4 u.aB.length c4) v5 (.slice al sl.length cs) (.int .i64 (f.code.length:Int)) (.int .i64 f.result) 15 (ja:Int) (jb:Int) n a=V at HB |-;have Sg:=HB.out.sz;obtain ⟨-,-,s0,s1,s2,s3,s4,s5,s6,s7,i0,i1,i2,y0,y1,y2,-,-,-,-⟩:=HB.out;obtain ⟨-,-,t0,t1,t2,t3,t4,t5,t6,t7,j0,j1,j2,q0,q1,q2,-,-,-,-⟩:=HB.out.go (Gr.alloc (Gr.refl V) (.cells #[.int .i64 (ja:Int)] 3));go_region_law (first|(refine jk rfl 138 _ _ rfl #[.agg #[.slice a1 u.aA.length c1,.slice a2 u.aD.length c2,.slice a3 u.aE.length c3,.slice a4 u.aB.length c4,v5,.slice al sl.length cs,.int .i64 (f.code.length:Int),.int .i64 f.result],.int .i64 (ja:Int),.agg #[.int .i64 10,.int .i64 n,.int .i64 a]] (by simp [Act.eval,Act.put]) (Tryz.callFields _ _) ((HF.out _ (HB.out.gr.trans Q2)).mono ?_);rintro x w' ⟨D0,rfl⟩;refine ⟨_,rfl,?_⟩;refine aR ?_)|(refine jN rfl 134 _ _ rfl #[.slice (some ⟨V.heap.size,0,none⟩) 1 1] (by simp [Act.eval,Act.put]) (Tryz.callKinds _ _) ((a8 _ _).mono ?_);rintro x w2 ⟨rfl,E0⟩;refine ⟨_,rfl,?_⟩;have hE:=HB.out.go (show Gr V w2 from Q2);have P3:=hE;obtain ⟨-,-,s0,s1,s2,s3,s4,s5,s6,s7,i0,i1,i2,y0,y1,y2,-,-,-,-⟩:=P3))
  all_goals exact ⟨rfl,HB.out.gr.trans Q2,by rw [HQ.out]⟩
open Go.RowKit
attribute [local go_sem ↓] Go.wp_at_zero Go.wp_at_succ
theorem AO(u:aK)(f:aO)(ja jb:Nat)(J2:ja<=65535)(Y0:jb<=65535)(st:List Int)(v1 v2 v3 v4 v5 vs I2:Value)(n a:Int)(W w:World)(hS:Sc W u (f.aF++f.aG) v1 v2 v3 v4 vs)(hW:Gr W w)(T0:aW w I2 st)(I5:f.code.length<=1000000):
 Calls Tryz.prog 107 #[.agg #[v1,v2,v3,v4,v5,vs,.int .i64 (f.code.length:Int),.int .i64 f.result],.agg #[.int .i64 16,.int .i64 (ja:Int),.int .i64 (jb:Int)],I2,.agg #[.int .i64 10,.int .i64 n,.int .i64 a]] w (gO (aj u f ⟨16,(ja:Int),(jb:Int)⟩ st) n a w):=by
 have M4:Hid (∀G4,f.aF++f.aG=G4->aj u f ⟨16,(ja:Int),(jb:Int)⟩ st=(iA u ⟨16,(ja:Int),(jb:Int)⟩).map fun y=>([(ja:Int)],[y])):=aH (fun G4 h=>by subst h;unfold aj dQ;unfold iA dE;simp only [Option.map_bind];rfl);generalize hsl:f.aF++f.aG=sl at hS;have J4:=aH (M4.out sl hsl);clear hsl M4;obtain ⟨a2,c2,rfl⟩:=hS.co;obtain ⟨a1,c1,rfl⟩:=hS.sh.shape;obtain ⟨a3,c3,rfl⟩:=hS.fu.shape;obtain ⟨a4,c4,L6⟩:∃ao cap,v4=.slice ao u.aB.length cap:=by obtain ⟨ao,cap,h,_⟩:=hS.im;exact ⟨ao,cap,h⟩
 subst L6;obtain ⟨al,cs,rfl⟩:=hS.sl.shape;obtain ⟨at_,ct,rfl⟩:=T0.shape;have HS:=aH hS;have K7:=aH hW;have HB:=aH (lw.new w (.slice a1 u.aA.length c1) (.slice a2 u.aD.length c2) (.slice a3 u.aE.length c3) (.slice a4 u.aB.length c4) v5 (.slice al sl.length cs) (.int .i64 (f.code.length:Int)) (.int .i64 f.result) 16 (ja:Int) (jb:Int) n a);clear hS T0 hW;cases hx:iA u ⟨16,(ja:Int),(jb:Int)⟩ with
 | some y=>
  have HX:=aH hx;have HQ:Hid (aj u f ⟨16,(ja:Int),(jb:Int)⟩ st=some ([(ja:Int)],[y])):=aH (by rw [J4.out,hx];rfl);clear hx J4;have HF:Hid (∀U:World,Gr w U->Calls Tryz.prog 139 #[.agg #[.slice a1 u.aA.length c1,.slice a2 u.aD.length c2,.slice a3 u.aE.length c3,.slice a4 u.aB.length c4,v5,.slice al sl.length cs,.int .i64 (f.code.length:Int),.int .i64 f.result],.agg #[.int .i64 16,.int .i64 (ja:Int),.int .i64 (jb:Int)],.agg #[.int .i64 10,.int .i64 n,.int .i64 a]] U fun x w'=>x=.returned (.int .i64 y)/\Gr U w'):=aH (fun U hU=>oA HX.out Q6 gS Q6 gS _ _ _ _ _ _ _ _ _ _ W _ HS.out.sh (K7.out.trans hU));go_enter Tryz.func107,Tryz.ntmps107
  go_wp2_with fail
  rw [lU];generalize lR w (.slice a1 u.aA.length c1) (.slice a2 u.aD.length c2) (.slice a3 u.aE.length c3) (.slice a4 u.aB.length c4) v5 (.slice al sl.length cs) (.int .i64 (f.code.length:Int)) (.int .i64 f.result) 16 (ja:Int) (jb:Int) n a=V at HB |-;have Sg:=HB.out.sz;obtain ⟨-,-,s0,s1,s2,s3,s4,s5,s6,s7,i0,i1,i2,y0,y1,y2,-,-,-,-⟩:=HB.out;go_region_held3 (fun w'=>w'.cell? ⟨w.heap.size,0,none⟩=some (.slice a1 u.aA.length c1)/\w'.cell? ⟨w.heap.size,1,none⟩=some (.slice a2 u.aD.length c2)/\w'.cell? ⟨w.heap.size,2,none⟩=some (.slice a3 u.aE.length c3)/\w'.cell? ⟨w.heap.size,3,none⟩=some (.slice a4 u.aB.length c4)/\w'.cell? ⟨w.heap.size,4,none⟩=some (v5)/\w'.cell? ⟨w.heap.size,5,none⟩=some (.slice al sl.length cs)/\w'.cell? ⟨w.heap.size,6,none⟩=some (.int .i64 (f.code.length:Int))/\w'.cell? ⟨w.heap.size,7,none⟩=some (.int .i64 f.result)/\w'.cell? ⟨w.heap.size+1,0,none⟩=some (.int .i64 16)/\w'.cell? ⟨w.heap.size+1,1,none⟩=some (.int .i64 (ja:Int))/\w'.cell? ⟨w.heap.size+1,2,none⟩=some (.int .i64 (jb:Int))/\w'.cell? ⟨w.heap.size+1+1,0,none⟩=some (.int .i64 10)/\w'.cell? ⟨w.heap.size+1+1,1,none⟩=some (.int .i64 n)/\w'.cell? ⟨w.heap.size+1+1,2,none⟩=some (.int .i64 a)) (first|(go_keep;done)|exact oX D0 Q8|exact oX E0 Q8|exact wv ⟨hE.s0,hE.s1,hE.s2,hE.s3,hE.s4,hE.s5,hE.s6,hE.s7,hE.i0,hE.i1,hE.i2,hE.y0,hE.y1,hE.y2⟩) (first|(go_at_call 139;refine (HF.out _ (HB.out.gr.trans Q2)).mono ?_;rintro e w' ⟨rfl,D0⟩;have hE:=HB.out.go (show Gr V w' from Q2);have R0:=hE.sz;have r0:=hE.r0;have r1:=hE.r1;have z0:=hE.z0;have z1:=hE.z1)|(go_at_call 134;refine (a8 _ _).mono ?_;rintro e w2 ⟨rfl,E0⟩;have hE:=HB.out.go (show Gr V w2 from Q2);have R0:=hE.sz;have r0:=hE.r0;have r1:=hE.r1;have z0:=hE.z0;have z1:=hE.z1))
  all_goals go_wp2_with fail
  all_goals rw [cH]
  all_goals have Sy:=fun y0 y1=>(bq (y0:=y0) (y1:=y1) hE.r0 hE.r1).1
  all_goals have Mg:=fun y0 y1=>(bq (y0:=y0) (y1:=y1) hE.r0 hE.r1).2
  all_goals exact bodyPost_ret (by simp [results,Tryz.results107,go_sem,Sy,Mg]) rfl (ma HQ.out (bJ hE.gr Q5) (by first|exact bn _|exact Vm.out.gr (K7.out.trans (bJ hE.gr Q5))|exact bp (w:=w) Q1 Q5|exact eP (w:=w) Q1 Q1 Q5) (by first|exact bn _|exact Vm.out.gr (K7.out.trans (bJ hE.gr Q5))|exact bp (w:=w) Q1 Q5|exact eP (w:=w) Q1 Q1 Q5))
 | none=>
  have HX:=aH hx;have HQ:Hid (aj u f ⟨16,(ja:Int),(jb:Int)⟩ st=none):=aH (by rw [J4.out,hx];rfl);clear hx J4;have HF:Hid (∀U:World,Gr w U->Calls Tryz.prog 139 #[.agg #[.slice a1 u.aA.length c1,.slice a2 u.aD.length c2,.slice a3 u.aE.length c3,.slice a4 u.aB.length c4,v5,.slice al sl.length cs,.int .i64 (f.code.length:Int),.int .i64 f.result],.agg #[.int .i64 16,.int .i64 (ja:Int),.int .i64 (jb:Int)],.agg #[.int .i64 10,.int .i64 n,.int .i64 a]] U fun x w'=>x=.panicked (kC 10 n a)/\Gr U w'):=aH (fun U hU=>qC HX.out Q6 gS Q6 gS _ _ _ _ _ _ _ _ _ _ W _ HS.out.sh (K7.out.trans hU));go_enter Tryz.func107,Tryz.ntmps107
  go_wp2_with fail
  rw [lU];generalize lR w (.slice a1 u.aA.length c1) (.slice a2 u.aD.length c2) (.slice a3 u.aE.length c3) (.slice a4 u.aB.length c4) v5 (.slice al sl.length cs) (.int .i64 (f.code.length:Int)) (.int .i64 f.result) 16 (ja:Int) (jb:Int) n a=V at HB |-;have Sg:=HB.out.sz;obtain ⟨-,-,s0,s1,s2,s3,s4,s5,s6,s7,i0,i1,i2,y0,y1,y2,-,-,-,-⟩:=HB.out;obtain ⟨-,-,t0,t1,t2,t3,t4,t5,t6,t7,j0,j1,j2,q0,q1,q2,-,-,-,-⟩:=HB.out.go (Gr.alloc (Gr.refl V) (.cells #[.int .i64 (ja:Int)] 3));go_region_law (first|(refine jk rfl 139 _ _ rfl #[.agg #[.slice a1 u.aA.length c1,.slice a2 u.aD.length c2,.slice a3 u.aE.length c3,.slice a4 u.aB.length c4,v5,.slice al sl.length cs,.int .i64 (f.code.length:Int),.int .i64 f.result],.agg #[.int .i64 16,.int .i64 (ja:Int),.int .i64 (jb:Int)],.agg #[.int .i64 10,.int .i64 n,.int .i64 a]] (by simp [Act.eval,Act.put]) (Tryz.callField _ _) ((HF.out _ (HB.out.gr.trans Q2)).mono ?_);rintro x w' ⟨rfl,D0⟩;refine ⟨_,rfl,?_⟩;refine aR ?_)|(refine jN rfl 134 _ _ rfl #[.slice (some ⟨V.heap.size,0,none⟩) 1 1] (by simp [Act.eval,Act.put]) (Tryz.callKinds _ _) ((a8 _ _).mono ?_);rintro x w2 ⟨rfl,E0⟩;refine ⟨_,rfl,?_⟩;have hE:=HB.out.go (show Gr V w2 from Q2);have P3:=hE;obtain ⟨-,-,s0,s1,s2,s3,s4,s5,s6,s7,i0,i1,i2,y0,y1,y2,-,-,-,-⟩:=P3))
  all_goals exact ⟨rfl,HB.out.gr.trans Q2,by rw [HQ.out]⟩
open Go.RowKit
attribute [local go_sem ↓] Go.wp_at_zero Go.wp_at_succ
theorem Ai(u:aK)(f:aO)(ja jb:Nat)(J2:ja<=65535)(Y0:jb<=65535)(st:List Int)(v1 v2 v3 v4 v5 vs I2:Value)(n a:Int)(W w:World)(hS:Sc W u (f.aF++f.aG) v1 v2 v3 v4 vs)(hW:Gr W w)(T0:aW w I2 st)(I5:f.code.length<=1000000):
 Calls Tryz.prog 107 #[.agg #[v1,v2,v3,v4,v5,vs,.int .i64 (f.code.length:Int),.int .i64 f.result],.agg #[.int .i64 17,.int .i64 (ja:Int),.int .i64 (jb:Int)],I2,.agg #[.int .i64 10,.int .i64 n,.int .i64 a]] w (gO (aj u f ⟨17,(ja:Int),(jb:Int)⟩ st) n a w):=by
 have M4:Hid (∀G4,f.aF++f.aG=G4->aj u f ⟨17,(ja:Int),(jb:Int)⟩ st=(iA u ⟨17,(ja:Int),(jb:Int)⟩).map fun y=>([(ja:Int),y],[])):=aH (fun G4 h=>by subst h;unfold aj dQ;unfold iA dE;simp only [Option.map_bind];rfl);generalize hsl:f.aF++f.aG=sl at hS;have J4:=aH (M4.out sl hsl);clear hsl M4;obtain ⟨a2,c2,rfl⟩:=hS.co;obtain ⟨a1,c1,rfl⟩:=hS.sh.shape;obtain ⟨a3,c3,rfl⟩:=hS.fu.shape;obtain ⟨a4,c4,L6⟩:∃ao cap,v4=.slice ao u.aB.length cap:=by obtain ⟨ao,cap,h,_⟩:=hS.im;exact ⟨ao,cap,h⟩
 subst L6;obtain ⟨al,cs,rfl⟩:=hS.sl.shape;obtain ⟨at_,ct,rfl⟩:=T0.shape;have HS:=aH hS;have K7:=aH hW;have HB:=aH (lw.new w (.slice a1 u.aA.length c1) (.slice a2 u.aD.length c2) (.slice a3 u.aE.length c3) (.slice a4 u.aB.length c4) v5 (.slice al sl.length cs) (.int .i64 (f.code.length:Int)) (.int .i64 f.result) 17 (ja:Int) (jb:Int) n a);clear hS T0 hW;cases hx:iA u ⟨17,(ja:Int),(jb:Int)⟩ with
 | some y=>
  have HX:=aH hx;have HQ:Hid (aj u f ⟨17,(ja:Int),(jb:Int)⟩ st=some ([(ja:Int),y],[])):=aH (by rw [J4.out,hx];rfl);clear hx J4;have HF:Hid (∀U:World,Gr w U->Calls Tryz.prog 139 #[.agg #[.slice a1 u.aA.length c1,.slice a2 u.aD.length c2,.slice a3 u.aE.length c3,.slice a4 u.aB.length c4,v5,.slice al sl.length cs,.int .i64 (f.code.length:Int),.int .i64 f.result],.agg #[.int .i64 17,.int .i64 (ja:Int),.int .i64 (jb:Int)],.agg #[.int .i64 10,.int .i64 n,.int .i64 a]] U fun x w'=>x=.returned (.int .i64 y)/\Gr U w'):=aH (fun U hU=>oA HX.out Q6 gS Q6 gS _ _ _ _ _ _ _ _ _ _ W _ HS.out.sh (K7.out.trans hU));go_enter Tryz.func107,Tryz.ntmps107
  go_wp2_with fail
  rw [lU];generalize lR w (.slice a1 u.aA.length c1) (.slice a2 u.aD.length c2) (.slice a3 u.aE.length c3) (.slice a4 u.aB.length c4) v5 (.slice al sl.length cs) (.int .i64 (f.code.length:Int)) (.int .i64 f.result) 17 (ja:Int) (jb:Int) n a=V at HB |-;have Sg:=HB.out.sz;obtain ⟨-,-,s0,s1,s2,s3,s4,s5,s6,s7,i0,i1,i2,y0,y1,y2,-,-,-,-⟩:=HB.out;go_region_held3 (fun w'=>w'.cell? ⟨w.heap.size,0,none⟩=some (.slice a1 u.aA.length c1)/\w'.cell? ⟨w.heap.size,1,none⟩=some (.slice a2 u.aD.length c2)/\w'.cell? ⟨w.heap.size,2,none⟩=some (.slice a3 u.aE.length c3)/\w'.cell? ⟨w.heap.size,3,none⟩=some (.slice a4 u.aB.length c4)/\w'.cell? ⟨w.heap.size,4,none⟩=some (v5)/\w'.cell? ⟨w.heap.size,5,none⟩=some (.slice al sl.length cs)/\w'.cell? ⟨w.heap.size,6,none⟩=some (.int .i64 (f.code.length:Int))/\w'.cell? ⟨w.heap.size,7,none⟩=some (.int .i64 f.result)/\w'.cell? ⟨w.heap.size+1,0,none⟩=some (.int .i64 17)/\w'.cell? ⟨w.heap.size+1,1,none⟩=some (.int .i64 (ja:Int))/\w'.cell? ⟨w.heap.size+1,2,none⟩=some (.int .i64 (jb:Int))/\w'.cell? ⟨w.heap.size+1+1,0,none⟩=some (.int .i64 10)/\w'.cell? ⟨w.heap.size+1+1,1,none⟩=some (.int .i64 n)/\w'.cell? ⟨w.heap.size+1+1,2,none⟩=some (.int .i64 a)) (first|(go_keep;done)|exact oX D0 Q8|exact oX E0 Q8|exact wv ⟨hE.s0,hE.s1,hE.s2,hE.s3,hE.s4,hE.s5,hE.s6,hE.s7,hE.i0,hE.i1,hE.i2,hE.y0,hE.y1,hE.y2⟩) (first|(go_at_call 139;refine (HF.out _ (HB.out.gr.trans Q2)).mono ?_;rintro e w' ⟨rfl,D0⟩;have hE:=HB.out.go (show Gr V w' from Q2);have R0:=hE.sz;have r0:=hE.r0;have r1:=hE.r1;have z0:=hE.z0;have z1:=hE.z1)|(go_at_call 134;refine (a8 _ _).mono ?_;rintro e w2 ⟨rfl,E0⟩;have hE:=HB.out.go (show Gr V w2 from Q2);have R0:=hE.sz;have r0:=hE.r0;have r1:=hE.r1;have z0:=hE.z0;have z1:=hE.z1))
  all_goals go_wp2_with fail
  all_goals rw [cH]
  all_goals have Sy:=fun y0 y1=>(bq (y0:=y0) (y1:=y1) hE.r0 hE.r1).1
  all_goals have Mg:=fun y0 y1=>(bq (y0:=y0) (y1:=y1) hE.r0 hE.r1).2
  all_goals exact bodyPost_ret (by simp [results,Tryz.results107,go_sem,Sy,Mg]) rfl (ma HQ.out (bJ hE.gr Q5) (by first|exact bn _|exact Vm.out.gr (K7.out.trans (bJ hE.gr Q5))|exact bp (w:=w) Q1 Q5|exact eP (w:=w) Q1 Q1 Q5) (by first|exact bn _|exact Vm.out.gr (K7.out.trans (bJ hE.gr Q5))|exact bp (w:=w) Q1 Q5|exact eP (w:=w) Q1 Q1 Q5))
 | none=>
  have HX:=aH hx;have HQ:Hid (aj u f ⟨17,(ja:Int),(jb:Int)⟩ st=none):=aH (by rw [J4.out,hx];rfl);clear hx J4;have HF:Hid (∀U:World,Gr w U->Calls Tryz.prog 139 #[.agg #[.slice a1 u.aA.length c1,.slice a2 u.aD.length c2,.slice a3 u.aE.length c3,.slice a4 u.aB.length c4,v5,.slice al sl.length cs,.int .i64 (f.code.length:Int),.int .i64 f.result],.agg #[.int .i64 17,.int .i64 (ja:Int),.int .i64 (jb:Int)],.agg #[.int .i64 10,.int .i64 n,.int .i64 a]] U fun x w'=>x=.panicked (kC 10 n a)/\Gr U w'):=aH (fun U hU=>qC HX.out Q6 gS Q6 gS _ _ _ _ _ _ _ _ _ _ W _ HS.out.sh (K7.out.trans hU));go_enter Tryz.func107,Tryz.ntmps107
  go_wp2_with fail
  rw [lU];generalize lR w (.slice a1 u.aA.length c1) (.slice a2 u.aD.length c2) (.slice a3 u.aE.length c3) (.slice a4 u.aB.length c4) v5 (.slice al sl.length cs) (.int .i64 (f.code.length:Int)) (.int .i64 f.result) 17 (ja:Int) (jb:Int) n a=V at HB |-;have Sg:=HB.out.sz;obtain ⟨-,-,s0,s1,s2,s3,s4,s5,s6,s7,i0,i1,i2,y0,y1,y2,-,-,-,-⟩:=HB.out;obtain ⟨-,-,t0,t1,t2,t3,t4,t5,t6,t7,j0,j1,j2,q0,q1,q2,-,-,-,-⟩:=HB.out.go (Gr.alloc (Gr.refl V) (.cells #[.int .i64 (ja:Int)] 3));go_region_law (first|(refine jk rfl 139 _ _ rfl #[.agg #[.slice a1 u.aA.length c1,.slice a2 u.aD.length c2,.slice a3 u.aE.length c3,.slice a4 u.aB.length c4,v5,.slice al sl.length cs,.int .i64 (f.code.length:Int),.int .i64 f.result],.agg #[.int .i64 17,.int .i64 (ja:Int),.int .i64 (jb:Int)],.agg #[.int .i64 10,.int .i64 n,.int .i64 a]] (by simp [Act.eval,Act.put]) (Tryz.callField _ _) ((HF.out _ (HB.out.gr.trans Q2)).mono ?_);rintro x w' ⟨rfl,D0⟩;refine ⟨_,rfl,?_⟩;refine aR ?_)|(refine jN rfl 134 _ _ rfl #[.slice (some ⟨V.heap.size,0,none⟩) 1 1] (by simp [Act.eval,Act.put]) (Tryz.callKinds _ _) ((a8 _ _).mono ?_);rintro x w2 ⟨rfl,E0⟩;refine ⟨_,rfl,?_⟩;have hE:=HB.out.go (show Gr V w2 from Q2);have P3:=hE;obtain ⟨-,-,s0,s1,s2,s3,s4,s5,s6,s7,i0,i1,i2,y0,y1,y2,-,-,-,-⟩:=P3))
  all_goals exact ⟨rfl,HB.out.gr.trans Q2,by rw [HQ.out]⟩
open Go.RowKit
theorem tT{i:aw}(h:a_ i=true):(0<=i.op/\i.op<=20)/\(i.op=1\/((0<=i.a/\i.a<=65535)/\0<=i.b/\i.b<=65535)):=by
 unfold a_ ah wB at h;simp only [Bool.and_eq_true,decide_eq_true_eq] at h;obtain ⟨h1,h2,h3⟩:=h;refine ⟨h1,?_⟩;by_cases e:i.op=1
 · exact .inl e
 · right
   rw [if_neg e] at h2;constructor
   · by_cases c:1<=aa i.op
     · rw [if_pos c] at h2;simpa using h2
     · rw [if_neg c] at h2;simp at h2;omega
   · by_cases c:2<=aa i.op
     · rw [if_pos c] at h3;simpa using h3
     · rw [if_neg c] at h3;simp at h3;omega
theorem tD(u:aK)(f:aO)(i:aw)(hi:a_ i=true)(st:List Int)(v1 v2 v3 v4 v5 vs I2:Value)(n a:Int)(W w:World)(hS:Sc W u (f.aF++f.aG) v1 v2 v3 v4 vs)(hW:Gr W w)(T0:aW w I2 st)(I5:f.code.length<=1000000):
 Calls Tryz.prog 107 #[.agg #[v1,v2,v3,v4,v5,vs,.int .i64 (f.code.length:Int),.int .i64 f.result],.agg #[.int .i64 i.op,.int .i64 i.a,.int .i64 i.b],I2,.agg #[.int .i64 10,.int .i64 n,.int .i64 a]] w (gO (aj u f i st) n a w):=by
 obtain ⟨Da,G5⟩:=tT hi;obtain ⟨op,ia,ib⟩:=i;simp only at Da G5 |-;by_cases h1:op=1
 · subst h1;exact BX u f ia ib st v1 v2 v3 v4 v5 vs I2 n a W w hS hW T0 I5
 · have RZ:=G5.resolve_left h1;obtain ⟨ja,rfl⟩:∃j:Nat,ia=(j:Int):=⟨ia.toNat,Q5⟩;obtain ⟨jb,rfl⟩:∃j:Nat,ib=(j:Int):=⟨ib.toNat,Q5⟩;have J2:ja<=65535:=by omega
   have Y0:jb<=65535:=Q5
   have hd:op=0\/op=2\/op=3\/op=4\/op=5\/op=6\/op=7\/op=8\/op=9\/op=10\/op=11\/op=12\/op=13\/op=14\/op=15\/op=16\/op=17\/op=18\/op=19\/op=20:=Q5
   clear G5 RZ Da h1 hi;rcases hd with rfl|rfl|rfl|rfl|rfl|rfl|rfl|rfl|rfl|rfl|rfl|rfl|rfl|rfl|rfl|rfl|rfl|rfl|rfl|rfl
   · exact BA u f ja jb J2 Y0 st v1 v2 v3 v4 v5 vs I2 n a W w hS hW T0 I5
   · exact A8 u f ja jb J2 Y0 st v1 v2 v3 v4 v5 vs I2 n a W w hS hW T0 I5
   · exact A9 u f ja jb J2 Y0 st v1 v2 v3 v4 v5 vs I2 n a W w hS hW T0 I5
   · exact BU u f ja jb J2 Y0 st v1 v2 v3 v4 v5 vs I2 n a W w hS hW T0 I5
   · exact Bl u f ja jb J2 Y0 st v1 v2 v3 v4 v5 vs I2 n a W w hS hW T0 I5
   · exact A2 u f ja jb J2 Y0 st v1 v2 v3 v4 v5 vs I2 n a W w hS hW T0 I5
   · exact Bi u f ja jb J2 Y0 st v1 v2 v3 v4 v5 vs I2 n a W w hS hW T0 I5
   · exact Ba u f ja jb J2 Y0 st v1 v2 v3 v4 v5 vs I2 n a W w hS hW T0 I5
   · exact BB u f ja jb J2 Y0 st v1 v2 v3 v4 v5 vs I2 n a W w hS hW T0 I5
   · exact AM u f ja jb J2 Y0 st v1 v2 v3 v4 v5 vs I2 n a W w hS hW T0 I5
   · exact AU u f ja jb J2 Y0 st v1 v2 v3 v4 v5 vs I2 n a W w hS hW T0 I5
   · exact Ac u f ja jb J2 Y0 st v1 v2 v3 v4 v5 vs I2 n a W w hS hW T0 I5
   · exact Ab u f ja jb J2 Y0 st v1 v2 v3 v4 v5 vs I2 n a W w hS hW T0 I5
   · exact AJ u f ja jb J2 Y0 st v1 v2 v3 v4 v5 vs I2 n a W w hS hW T0 I5
   · exact As u f ja jb J2 Y0 st v1 v2 v3 v4 v5 vs I2 n a W w hS hW T0 I5
   · exact AO u f ja jb J2 Y0 st v1 v2 v3 v4 v5 vs I2 n a W w hS hW T0 I5
   · exact Ai u f ja jb J2 Y0 st v1 v2 v3 v4 v5 vs I2 n a W w hS hW T0 I5
   · exact AB u f ja jb J2 Y0 st v1 v2 v3 v4 v5 vs I2 n a W w hS hW T0 I5
   · exact Aa u f ja jb J2 Y0 st v1 v2 v3 v4 v5 vs I2 n a W w hS hW T0 I5
   · exact An u f ja jb J2 Y0 st v1 v2 v3 v4 v5 vs I2 n a W w hS hW T0 I5
open Go.RowKit
attribute [local go_sem ↓] Go.wp_at_zero Go.wp_at_succ
theorem z3{w w1:World}{t:TypeId}(g:Gr (w.alloc (.cells #[.int .i64 0,.int .i64 0,.int .i64 0] t)).drew w1):w1.cell? ⟨w.heap.size,0,none⟩=some (.int .i64 0)/\w1.cell? ⟨w.heap.size,1,none⟩=some (.int .i64 0)/\w1.cell? ⟨w.heap.size,2,none⟩=some (.int .i64 0)/\w1.frozen? ⟨w.heap.size,0,none⟩=false/\w1.frozen? ⟨w.heap.size,1,none⟩=false/\w1.frozen? ⟨w.heap.size,2,none⟩=false:=by
 have hb:w1.heap[w.heap.size]? =some (.cells #[.int .i64 0,.int .i64 0,.int .i64 0] t (0,0)):=(g.block w.heap.size Q6 Q6).trans (heap_alloc_new w _);refine ⟨?_,?_,?_,?_,?_,?_⟩
 · rw [aU hb];rfl
 · rw [aU hb];rfl
 · rw [aU hb];rfl
 · exact bH hb
 · exact bH hb
 · exact bH hb
theorem CT{w w1:World}{t t':TypeId}(g:Gr ((w.alloc (.cells #[.int .i64 0,.int .i64 0,.int .i64 0] t)).alloc (.cells #[.int .i64 0,.int .i64 0,.int .i64 0] t')).drew w1):w1.cell? ⟨w.heap.size,0,none⟩=some (.int .i64 0)/\w1.cell? ⟨w.heap.size,1,none⟩=some (.int .i64 0)/\w1.cell? ⟨w.heap.size,2,none⟩=some (.int .i64 0)/\w1.frozen? ⟨w.heap.size,0,none⟩=false/\w1.frozen? ⟨w.heap.size,1,none⟩=false/\w1.frozen? ⟨w.heap.size,2,none⟩=false:=
 by
 have g0:=World.grownBy_alloc (w.alloc (.cells #[.int .i64 0,.int .i64 0,.int .i64 0] t)) (.cells #[.int .i64 0,.int .i64 0,.int .i64 0] t') none;have g1:Gr (w.alloc (.cells #[.int .i64 0,.int .i64 0,.int .i64 0] t)).drew ((w.alloc (.cells #[.int .i64 0,.int .i64 0,.int .i64 0] t)).alloc (.cells #[.int .i64 0,.int .i64 0,.int .i64 0] t')).drew:=⟨g0.os,g0.tape,g0.output,g0.size,g0.block⟩;exact z3 (t:=t) (g1.trans g)
structure Bo(w wx:World)(i:aw)(n q ib wb:Nat):Prop where
 gr:Gr w wx
 il:w.heap.size<=ib
 wl:w.heap.size<=wb
 c0:wx.cell? ⟨ib,0,none⟩=some (.int .i64 i.op)
 c1:wx.cell? ⟨ib,1,none⟩=some (.int .i64 i.a)
 c2:wx.cell? ⟨ib,2,none⟩=some (.int .i64 i.b)
 y0:wx.cell? ⟨wb,0,none⟩=some (.int .i64 10)
 y1:wx.cell? ⟨wb,1,none⟩=some (.int .i64 (n:Int))
 y2:wx.cell? ⟨wb,2,none⟩=some (.int .i64 (q:Int))
theorem Bo.go{w wx wy:World}{i:aw}{n q ib wb:Nat}(h:Bo w wx i n q ib wb)(g:Gr wx wy):Bo w wy i n q ib wb:=
 ⟨h.gr.trans g,h.il,h.wl,g.cell h.c0 Q6,g.cell h.c1 Q6,g.cell h.c2 Q6,g.cell h.y0 Q6,g.cell h.y1 Q6,g.cell h.y2 Q6⟩
def CB(w:World)(i:aw)(n q:Nat)(I2:Value)(a4 a5 a6:Value)(wx:World):Prop:=∃ib wb,a4=.pointer (some ⟨ib,0,none⟩)/\a5=I2/\a6=.pointer (some ⟨wb,0,none⟩)/\Bo w wx i n q ib wb
end Go.Proofs.YtkgncijcnlfhiabGreat
