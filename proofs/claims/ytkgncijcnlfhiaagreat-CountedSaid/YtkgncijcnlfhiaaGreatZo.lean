import Derived.Test.YtkgncijcnlfhiaaGreatZk
import Derived.Test.YtkgncijcnlfhiaaGreatZp
import Derived.Test.YtkgncijcnlfhiaaGreatRg2
namespace Go.Proofs.YtkgncijcnlfhiaaGreat
set_option linter.unusedVariables false
set_option linter.unusedSimpArgs false
open Go.RowKit
attribute [local go_sem ↓] Go.wp_at_zero Go.wp_at_succ
structure Ah(W0:World)(u:aK)(f:aO)(v1 v2 v3 v4 v5 vc:Value):Prop where
 sh:bG W0 v1 u.aA
 co:∃ao cap,v2=.slice ao u.aD.length cap
 fu:cG W0 v3 u.aE
 im:bK W0 v4 u.aB
 ex:∃ao n cap,v5=.slice ao n cap
 l2:u.aD.length≤1000000
 l3:u.aE.length≤1000000
 l4:u.aB.length≤1000000
 cd:dM W0 vc f.code
 ok:f.code.all bH=true
theorem A0{w w1:World}{t t':TypeId}(g:Gr ((w.alloc (.cells #[.int .i64 0,.int .i64 0,.int .i64 0] t)).alloc (.cells #[.int .i64 0,.int .i64 0,.int .i64 0] t')).drew w1):w1.cell? ⟨w.heap.size+1,0,none⟩=some (.int .i64 0)∧w1.cell? ⟨w.heap.size+1,1,none⟩=some (.int .i64 0)∧w1.cell? ⟨w.heap.size+1,2,none⟩=some (.int .i64 0)∧w1.frozen? ⟨w.heap.size+1,0,none⟩=false∧w1.frozen? ⟨w.heap.size+1,1,none⟩=false∧w1.frozen? ⟨w.heap.size+1,2,none⟩=false:=by
 have:=z3 (w:=w.alloc (.cells #[.int .i64 0,.int .i64 0,.int .i64 0] t)) (t:=t') g
 simpa using this
theorem jW{s':List Int}{q t:Nat}{l:List (Option Nat)}{st:Nat→Option (List Int)}{s0:List Int}(h:st t=some s0)(hne:¬s0=s'):bz s' q (some t :: l) st=.inl t:=by
 simp [bz,h,hne]
theorem jt{s':List Int}{q t:Nat}{l:List (Option Nat)}{st:Nat→Option (List Int)}(h:st t=none∨st t=some s'):bz s' q (some t :: l) st=bz s' q l (fun j=>if j=t then some s' else st j):=by
 rcases h with h|h
 · simp [bz,h]
 · have e:(fun j=>if j=t then some s' else st j)=st:=by
    funext j
    by_cases hj:j=t
    · rw [if_pos hj,hj,h]
    · rw [if_neg hj]
   rw [e];simp [bz,h]
theorem Tryz.callUnless(vals:Array Value)(w:World):(callFunc 32 vals).run Tryz.prog w=.ok (.enter 32 vals) w:=by kernel_rfl
theorem Tryz.callConcat(vals:Array Value)(w:World):(callFunc 47 vals).run Tryz.prog w=.ok (.enter 47 vals) w:=by kernel_rfl
theorem Tryz.callEqual(vals:Array Value)(w:World):(callFunc 36 vals).run Tryz.prog w=.ok (.enter 36 vals) w:=by kernel_rfl
theorem Ak{w w1:World}{t:TypeId}(g:Gr (w.alloc (.cells #[.slice none 0 0,.slice none 0 0] t)).drew w1):w1.cell? ⟨w.heap.size,0,none⟩=some (.slice none 0 0)∧w1.cell? ⟨w.heap.size,1,none⟩=some (.slice none 0 0)∧w1.frozen? ⟨w.heap.size,0,none⟩=false∧w1.frozen? ⟨w.heap.size,1,none⟩=false:=by
 have hb:w1.heap[w.heap.size]? =some (.cells #[.slice none 0 0,.slice none 0 0] t (0,0)):=(g.block w.heap.size (by simp) (by simp)).trans (heap_alloc_new w _);refine ⟨?_,?_,?_,?_⟩
 · rw [aU hb];rfl
 · rw [aU hb];rfl
 · exact bJ hb
 · exact bJ hb
structure A1(w wx:World)(ts ps:List Int)(eb:Nat)(vt vp:Value):Prop where
 gr:Gr w wx
 el:w.heap.size≤eb
 e0:wx.cell? ⟨eb,0,none⟩=some vt
 e1:wx.cell? ⟨eb,1,none⟩=some vp
 rt:aX wx vt ts
 rp:aX wx vp ps
def Aa(w:World)(ts ps:List Int)(a7:Value)(wx:World):Prop:=∃eb vt vp,a7=.pointer (some ⟨eb,0,none⟩)∧A1 w wx ts ps eb vt vp
theorem Tryz.callEffect(vals:Array Value)(w:World):(callFunc 80 vals).run Tryz.prog w=.ok (.enter 80 vals) w:=by kernel_rfl
set_option maxRecDepth 100000 in
set_option maxHeartbeats 4000000 in
theorem vh(W0:World)(lb mb B:Nat)(v1 v2 v3 v4 v5 vs:Value)(u:aK)(f:aO)(n:Nat)(vc:Value)(hU:Ah W0 u f v1 v2 v3 v4 v5 vc):
 yB W0 lb mb B v1 v2 v3 v4 v5 vs (f.aF++f.aG) u f n vc:=by
 intro w vw st dn m l k q i s hLk hi hst;have HL:=aH hLk;have HU:=aH hU;have HI:=aH hi;have HST:=aH hst;obtain ⟨vst,hmq,hrq⟩:=hLk.sts q s hst;obtain ⟨ast,BH,rfl⟩:=hrq.to.shape;have HRQ:=aH hrq;have hql:q < f.code.length:=(List.getElem?_eq_some_iff.1 hi).1;obtain ⟨cao,cc,rfl,hcm,hcc⟩:=hU.cd;obtain ⟨cb,coff,rfl,k0,k1,k2⟩:=hcc q i hi;have hsm:=hLk.small;have KS:Hid (∀w',Gr w w'→w'.cell? ⟨lb,9,none⟩=some (.slice (some ⟨cb,coff,none⟩) f.code.length cc)∧w'.cell? ⟨lb,10,none⟩=some (.map (some mb))∧w'.cell? ⟨cb,coff+q * 3,none⟩=some (.int .i64 i.op)∧w'.cell? ⟨cb,coff+q * 3+1,none⟩=some (.int .i64 i.a)∧w'.cell? ⟨cb,coff+q * 3+2,none⟩=some (.int .i64 i.b)∧(Instr.lookup 71 (.map (some mb)) (.int .i64 (q:Int)) false).run Tryz.prog w'=.ok (.slice ast s.length BH) w'):=aH (fun w' g=>by
  have h2:=HL.out.gr g;have g0:=(kS HL.out.low).trans g;have e:=h2.mp.look1 q (by omega);rw [hmq] at e;exact ⟨by rw [aU h2.box];rfl,by rw [aU h2.box];rfl,g0.cell k0 (by simp),g0.cell k1 (by simp),g0.cell k2 (by simp),e⟩)
 have HWR:Hid (∀w',Gr w w'→Calls Tryz.prog 78 #[.pointer (some ⟨lb,0,none⟩),.int .i64 (q:Int)] w' fun x w2=>x=.returned (.agg #[.int .i64 10,.int .i64 (n:Int),.int .i64 (q:Int)])∧Gr w' w2):=aH (fun w' g=>my lb n q w' (by rw [aU (HL.out.gr g).box];rfl));have hqi:(q:Int) < (f.code.length:Int):=by omega
 have hq1:q≤1000:=by omega
 clear hLk hU hi hst hrq hcc k0 k1 k2 hmq hcm;go_enter Tryz.func50,Tryz.ntmps50
 go_upto_region 0 with fail
 go_cut [4,5,6] from 7 (fun a4 a5 a6 wx=>AY w i n q (.slice ast s.length BH) a4 a5 a6 wx)
 case first=>
  go_region_held3 (fun w'=>w'.cell? ⟨lb,9,none⟩=some (.slice (some ⟨cb,coff,none⟩) f.code.length cc)∧w'.cell? ⟨lb,10,none⟩=some (.map (some mb))∧w'.cell? ⟨cb,coff+q * 3,none⟩=some (.int .i64 i.op)∧w'.cell? ⟨cb,coff+q * 3+1,none⟩=some (.int .i64 i.a)∧w'.cell? ⟨cb,coff+q * 3+2,none⟩=some (.int .i64 i.b)∧(Instr.lookup 71 (.map (some mb)) (.int .i64 (q:Int)) false).run Tryz.prog w'=.ok (.slice ast s.length BH) w') (first|exact KS.out _ (by repeat (first|with_reducible exact Gr.refl _|with_reducible assumption|with_reducible refine Gr.drew ?_|with_reducible refine Gr.alloc ?_ _|with_reducible refine d_ ?_ (by simp)|with_reducible refine Gr.trans ?_ (by with_reducible assumption)))) (first|(go_at_call 78;refine (HWR.out _ (by repeat (first|with_reducible exact Gr.refl _|with_reducible assumption|with_reducible refine Gr.drew ?_|with_reducible refine Gr.alloc ?_ _|with_reducible refine Gr.trans ?_ (by with_reducible assumption)))).mono ?_;rintro x w1 ⟨rfl,hg1⟩;have hsz1:w.heap.size≤w1.heap.size:=(by have:=hg1.size;first|(simp at this;omega)|(simpa using this));first|(have hz1:=Av hg1;have hz2:=A0 hg1;obtain ⟨z0,z1,z2,zf0,zf1,zf2⟩:=hz1;obtain ⟨y0,y1,y2,yf0,yf1,yf2⟩:=hz2)|(have hz1:=z3 hg1;have hlt1:w.heap.size < w1.heap.size:=(by have:=hg1.size;simp at this;omega);have hne1:¬w.heap.size=w1.heap.size:=Nat.ne_of_lt hlt1;obtain ⟨z0,z1,z2,zf0,zf1,zf2⟩:=hz1;have hzo:=fun o=>z3 (Gr.alloc hg1 o))|skip))
  all_goals
   go_wp2_with fail
   go_meet
   refine ⟨_,_,rfl,rfl,rfl,?_⟩;clear KS HWR HL HU HRQ HI HST;constructor
   · repeat (first|with_reducible exact Gr.refl _|with_reducible assumption|with_reducible refine Gr.drew ?_|with_reducible refine Gr.alloc ?_ _|with_reducible refine d_ ?_ (by first|(simp;done)|omega)|with_reducible refine Gr.trans ?_ (by with_reducible assumption))
   · first|(simp;done)|(simp;omega)|omega
   · first|(simp;done)|(simp;omega)|omega
   all_goals first|(simp [go_sem];done)|(simp [go_sem, *];done)|trace_state
 case rest=>
  obtain ⟨ib,wb,rfl,rfl,rfl,hL0⟩:=hcut;obtain ⟨wA,hA⟩:∃x,x=wc:=⟨wc,rfl⟩;subst hA;have HL0:=aH hL0;have HLc:=aH (HL.out.gr hL0.gr);have hii:bH i=true:=List.all_eq_true.1 HU.out.ok i (List.mem_of_getElem? HI.out);obtain ⟨a2,c2,hv2⟩:=HU.out.co;obtain ⟨a1,c1,hv1⟩:=HU.out.sh.shape;obtain ⟨a3,c3,hv3⟩:=HU.out.fu.shape;obtain ⟨a4,c4,hv4⟩:∃ao cap,v4=.slice ao u.aB.length cap:=by obtain ⟨ao,cap,h,_⟩:=HU.out.im;exact ⟨ao,cap,h⟩
  obtain ⟨a5,n5,c5,hv5⟩:=HU.out.ex;obtain ⟨al,cl,hvs⟩:=HL.out.slt.to.shape;subst hv1 hv2 hv3 hv4 hv5 hvs;generalize hsl:f.aF++f.aG=sl at *;have HSL:=aH hsl;clear hsl;have HEF:Hid (∀w',Gr wA w'→Calls Tryz.prog 80 #[.agg #[.slice a1 u.aA.length c1,.slice a2 u.aD.length c2,.slice a3 u.aE.length c3,.slice a4 u.aB.length c4,.slice a5 n5 c5,.slice al sl.length cl,.int .i64 (f.code.length:Int),.int .i64 f.result],.agg #[.int .i64 i.op,.int .i64 i.a,.int .i64 i.b],.slice ast s.length BH,.agg #[.int .i64 10,.int .i64 (n:Int),.int .i64 (q:Int)]] w' (fd (A3 u f i s) n q w')):=aH (fun w' g=>by
   have g0:=(kS HLc.out.low).trans g;have hS:Sc w' u (f.aF++f.aG) (.slice a1 u.aA.length c1) (.slice a2 u.aD.length c2) (.slice a3 u.aE.length c3) (.slice a4 u.aB.length c4) (.slice al sl.length cl):=⟨HU.out.sh.gr g0,⟨_,_,rfl⟩,HU.out.fu.gr g0,HU.out.im.gr g0,by rw [HSL.out];exact (HLc.out.gr g).slt.to,HU.out.l2,HU.out.l3,HU.out.l4⟩;exact rF u f i hii s _ _ _ _ _ _ _ _ _ w' w' hS (Gr.refl _) (HRQ.out.to.gr (HL0.out.gr.trans g)) (by omega))
  have KS1:Hid (∀w',Gr wA w'→w'.cell? ⟨lb,0,none⟩=some (.slice a1 u.aA.length c1)∧w'.cell? ⟨lb,1,none⟩=some (.slice a2 u.aD.length c2)∧w'.cell? ⟨lb,2,none⟩=some (.slice a3 u.aE.length c3)∧w'.cell? ⟨lb,3,none⟩=some (.slice a4 u.aB.length c4)∧w'.cell? ⟨lb,4,none⟩=some (.slice a5 n5 c5)∧w'.cell? ⟨lb,5,none⟩=some (.slice al sl.length cl)∧w'.cell? ⟨lb,6,none⟩=some (.int .i64 (f.code.length:Int))∧w'.cell? ⟨lb,7,none⟩=some (.int .i64 f.result)∧w'.cell? ⟨ib,0,none⟩=some (.int .i64 i.op)∧w'.cell? ⟨ib,1,none⟩=some (.int .i64 i.a)∧w'.cell? ⟨ib,2,none⟩=some (.int .i64 i.b)∧w'.cell? ⟨wb,0,none⟩=some (.int .i64 10)∧w'.cell? ⟨wb,1,none⟩=some (.int .i64 (n:Int))∧w'.cell? ⟨wb,2,none⟩=some (.int .i64 (q:Int))):=aH (fun w' g=>by
   have h2:=HLc.out.gr g;have h3:=HL0.out.go g;exact ⟨by rw [aU h2.box];rfl,by rw [aU h2.box];rfl,by rw [aU h2.box];rfl,by rw [aU h2.box];rfl,by rw [aU h2.box];rfl,by rw [aU h2.box];rfl,by rw [aU h2.box];rfl,by rw [aU h2.box];rfl,h3.c0,h3.c1,h3.c2,h3.y0,h3.y1,h3.y2⟩)
  have HLow:Hid (∀w',Gr wA w'→Below W0.heap.size W0 w'):=aH (fun w' g=>(HLc.out.gr g).low);clear hL0 KS HWR hii;cases hef:A3 u f i s with
  | none=>
   have HSt:Hid (dz u f q i s st=.inl q):=aH (by unfold dz fY;rw [hef]);rw [hef] at HEF;clear hef;obtain ⟨l0,l1,l2,l3,l4,l5,l6,l7,i0,i1,i2,y0,y1,y2⟩:=KS1.out wA (Gr.refl _);obtain ⟨m0,m1,m2,m3,m4,m5,m6,m7,j0,j1,j2,z0,z1,z2⟩:=KS1.out _ (Gr.alloc (Gr.refl wA) (.cells #[.slice none 0 0,.slice none 0 0] 142));go_upto_region 1 with fail
   go_region_law (first|(refine jE rfl 80 _ _ rfl #[.agg #[.slice a1 u.aA.length c1,.slice a2 u.aD.length c2,.slice a3 u.aE.length c3,.slice a4 u.aB.length c4,.slice a5 n5 c5,.slice al sl.length cl,.int .i64 (f.code.length:Int),.int .i64 f.result],.agg #[.int .i64 i.op,.int .i64 i.a,.int .i64 i.b],.slice ast s.length BH,.agg #[.int .i64 10,.int .i64 (n:Int),.int .i64 (q:Int)]] (by simp [Act.eval,Act.put]) (Tryz.callEffect _ _) ((HEF.out _ (by repeat (first|with_reducible exact Gr.refl _|with_reducible refine Gr.drew ?_|with_reducible refine Gr.alloc ?_ _))).mono ?_);rintro x w' ⟨hg',rfl⟩;refine ⟨_,rfl,?_⟩;refine aQ ?_))
   all_goals exact ⟨rfl,by rw [HSt.out];exact ⟨rfl,HLow.out _ (Gr.trans (by repeat (first|with_reducible exact Gr.refl _|with_reducible refine Gr.drew ?_|with_reducible refine Gr.alloc ?_ _)) hg')⟩⟩
  | some tp=>
   obtain ⟨ts,ps⟩:=tp;rw [hef] at HEF;have HEQ:=aH hef;clear hef;go_upto_region 1 with fail
   go_cut [7] from 8 (fun a7 wx=>Aa wA ts ps a7 wx)
   case first=>
    go_region_held3 (fun w'=>w'.cell? ⟨lb,0,none⟩=some (.slice a1 u.aA.length c1)∧w'.cell? ⟨lb,1,none⟩=some (.slice a2 u.aD.length c2)∧w'.cell? ⟨lb,2,none⟩=some (.slice a3 u.aE.length c3)∧w'.cell? ⟨lb,3,none⟩=some (.slice a4 u.aB.length c4)∧w'.cell? ⟨lb,4,none⟩=some (.slice a5 n5 c5)∧w'.cell? ⟨lb,5,none⟩=some (.slice al sl.length cl)∧w'.cell? ⟨lb,6,none⟩=some (.int .i64 (f.code.length:Int))∧w'.cell? ⟨lb,7,none⟩=some (.int .i64 f.result)∧w'.cell? ⟨ib,0,none⟩=some (.int .i64 i.op)∧w'.cell? ⟨ib,1,none⟩=some (.int .i64 i.a)∧w'.cell? ⟨ib,2,none⟩=some (.int .i64 i.b)∧w'.cell? ⟨wb,0,none⟩=some (.int .i64 10)∧w'.cell? ⟨wb,1,none⟩=some (.int .i64 (n:Int))∧w'.cell? ⟨wb,2,none⟩=some (.int .i64 (q:Int))) (exact KS1.out _ (by repeat (first|with_reducible exact Gr.refl _|with_reducible assumption|with_reducible refine Gr.drew ?_|with_reducible refine Gr.alloc ?_ _|with_reducible refine d_ ?_ (by first|(simp;done)|omega)|with_reducible refine Gr.trans ?_ (by with_reducible assumption)))) (first|(go_at_call 80;refine (HEF.out _ (by repeat (first|with_reducible exact Gr.refl _|with_reducible assumption|with_reducible refine Gr.drew ?_|with_reducible refine Gr.alloc ?_ _|with_reducible refine d_ ?_ (by first|(simp;done)|omega)|with_reducible refine Gr.trans ?_ (by with_reducible assumption)))).mono ?_;rintro x w1 ⟨hg1,vt,vp,rfl,hrt,hrp⟩;obtain ⟨xt,ct,rfl⟩:=hrt.shape;obtain ⟨xp,cp,rfl⟩:=hrp.shape;have HRT:=aH hrt;have HRP:=aH hrp;clear hrt hrp;have hsz1:wA.heap.size≤w1.heap.size:=(by have:=hg1.size;first|(simp at this;omega)|(simpa using this));first|(have hz1:=Ak hg1;obtain ⟨z0,z1,zf0,zf1⟩:=hz1)|skip))
    all_goals
     go_wp2_with fail
     go_meet
     refine ⟨_,.slice xt ts.length ct,.slice xp ps.length cp,rfl,?_⟩;clear KS1 HEF HL HU HRQ HI HST HLc HLow;constructor
     · exact (by repeat (first|with_reducible exact Gr.refl _|with_reducible assumption|with_reducible refine Gr.drew ?_|with_reducible refine Gr.alloc ?_ _|with_reducible refine d_ ?_ (by first|(simp;done)|omega)|with_reducible refine Gr.trans ?_ (by with_reducible assumption)))
     · first|(simp;done)|(simp;omega)|omega
     · first|(simp [go_sem];done)|(simp [go_sem, *];done)|trace_state
     · first|(simp [go_sem];done)|(simp [go_sem, *];done)|trace_state
     · first|exact HRT.out.gr ((Gr.refl _).alloc _)|exact lN HRT.out z0 z1
     · first|exact HRP.out.gr ((Gr.refl _).alloc _)|exact lN HRP.out z0 z1
   case rest=>
    obtain ⟨eb,vt,vp,rfl,hL1⟩:=hcut;obtain ⟨xt,ct,rfl⟩:=hL1.rt.shape;obtain ⟨xp,cp,rfl⟩:=hL1.rp.shape;have HL1:=aH hL1;have HLd:=aH (HLc.out.gr hL1.gr);have HLw:Hid (∀w',Gr wc w'→Below W0.heap.size W0 w'):=aH (fun w' g=>(HLd.out.gr g).low);have KS2:Hid (∀w',Gr wc w'→w'.cell? ⟨ib,0,none⟩=some (.int .i64 i.op)∧w'.cell? ⟨ib,1,none⟩=some (.int .i64 i.a)∧w'.cell? ⟨ib,2,none⟩=some (.int .i64 i.b)∧w'.cell? ⟨wb,0,none⟩=some (.int .i64 10)∧w'.cell? ⟨wb,1,none⟩=some (.int .i64 (n:Int))∧w'.cell? ⟨wb,2,none⟩=some (.int .i64 (q:Int))∧w'.cell? ⟨eb,0,none⟩=some (.slice xt ts.length ct)∧w'.cell? ⟨eb,1,none⟩=some (.slice xp ps.length cp)∧w'.cell? ⟨lb,9,none⟩=some (.slice (some ⟨cb,coff,none⟩) f.code.length cc)):=aH (fun w' g=>by
     have h2:=HLd.out.gr g;have h3:=HL0.out.go (HL1.out.gr.trans g);exact ⟨h3.c0,h3.c1,h3.c2,h3.y0,h3.y1,h3.y2,g.cell HL1.out.e0 (by simp),g.cell HL1.out.e1 (by simp),by rw [aU h2.box];rfl⟩)
    have HRST:=aH (HRQ.out.to.gr (HL0.out.gr.trans HL1.out.gr));have HRT:=aH hL1.rt;have HRP:=aH hL1.rp;have hsl20:s.length≤20:=HL.out.len q s HST.out;have hscap:s.length≤BH:=HRQ.out.cap;have htm:ts.length≤maxLen:=by obtain ⟨_,_,_,h,_⟩:=hL1.rt;exact h
    unfold maxLen at htm;obtain ⟨i0,i1,i2,y0,y1,y2,t0,t1,c9⟩:=KS2.out wc (Gr.refl _);have hw1:IntKind.i64.wrap ((s.length:Int) - (ts.length:Int))=(s.length:Int) - (ts.length:Int):=Go.IntWalk.i64_in _ (by omega);clear hL1;by_cases hle:ts.length≤s.length
    · obtain ⟨d,hd⟩:∃d:Nat,d=s.length - ts.length:=⟨_,rfl⟩;have hw2:(s.length:Int) - (ts.length:Int)=(d:Int):=by omega
      have hw3:=hw1.trans hw2;have HD:=aH hd;have hdl:d≤s.length:=by omega
      have hdi:(d:Int)≤(s.length:Int):=by omega
      have hdc:d≤BH:=by omega
      have hdci:(d:Int)≤(BH:Int):=by omega
      have hdg:decide ((0:Int)≤(d:Int))=true:=by simp
      clear hw2 hd hw1;go_upto_region 3 with fail
      have KT:Hid (∀w',Gr wc w'→w'.cell? ⟨wb,0,none⟩=some (.int .i64 10)∧w'.cell? ⟨wb,1,none⟩=some (.int .i64 (n:Int))∧w'.cell? ⟨wb,2,none⟩=some (.int .i64 (q:Int))∧w'.cell? ⟨eb,0,none⟩=some (.slice xt ts.length ct)):=aH (fun w' g=>by obtain ⟨_,_,_,a,b,c,d,_,_⟩:=KS2.out w' g;exact ⟨a,b,c,d⟩);refine wp_region_held_drew (S:=(fun w'=>w'.cell? ⟨wb,0,none⟩=some (.int .i64 10)∧w'.cell? ⟨wb,1,none⟩=some (.int .i64 (n:Int))∧w'.cell? ⟨wb,2,none⟩=some (.int .i64 (q:Int))∧w'.cell? ⟨eb,0,none⟩=some (.slice xt ts.length ct))) (by kernel_rfl) (⟨y0,y1,y2,t0⟩) (fun hH=>?_);refine tL 0 ?_;simp only [Act.put,sA,s0,s1];refine tL 1 ?_;simp only [Act.put,sA,s0,s1];refine tL 2 ?_;simp only [Act.put,sA,s0,s1];refine tL 3 ?_;simp only [Act.put,sA,s0,s1];refine tL 4 ?_;simp only [Act.put,sA,s0,s1];refine tL 5 ?_;simp only [Act.put,sA,s0,s1];refine tL 6 ?_;simp only [Act.put,sA,s0,s1];refine tL 7 ?_;simp only [Act.put,sA,s0,s1];refine tL 8 ?_;simp only [Act.put,sA,s0,s1];refine au (i:=9) rfl (by kernel_rfl) (fun K hK=>?_);refine aS rfl 36 _ _ rfl #[.slice (if BH=d then ast else Option.map (fun x=>x.add d) ast) (s.length - d) (BH - d),.slice xt ts.length ct] (by simp [Act.eval]) (Tryz.callEqual _ _) ((BQ _ _ (s.drop d) ts _ ((rT HRST.out hscap hdl).gr (by repeat (first|with_reducible exact Gr.refl _|with_reducible refine Gr.drew ?_|with_reducible refine Gr.alloc ?_ _))) (HRT.out.gr (by repeat (first|with_reducible exact Gr.refl _|with_reducible refine Gr.drew ?_|with_reducible refine Gr.alloc ?_ _)))).mono ?_);rintro x w2 ⟨rfl,hg2⟩;have HG2:Hid (Gr wc w2):=aH (Gr.trans (by repeat (first|with_reducible exact Gr.refl _|with_reducible refine Gr.drew ?_|with_reducible refine Gr.alloc ?_ _)) hg2);refine .inl ⟨_,rfl,?_⟩;clear hg2;by_cases he:s.drop d=ts
      · have hde:decide (s.drop d=ts)=true:=by simpa using he
        rw [hde];have HE:=aH he;clear hde he;refine hK.out _ _ (KT.out _ HG2.out) (fun hH=>?_);clear hK;try simp only [Act.put,sA,s0,s1]
        refine tL 10 ?_;simp only [Act.put,sA,s0,s1];refine au (i:=11) rfl (by kernel_rfl) (fun K hK=>?_);refine aS rfl 32 _ _ rfl #[.agg #[.int .i64 10,.int .i64 (n:Int),.int .i64 (q:Int)],.bool true] (by simp [Act.eval]) (Tryz.callUnless _ _) ((bU _ _ _ _).mono ?_);rintro x w3 ⟨rfl,hg3⟩;have HG3:Hid (Gr wc w3):=aH (HG2.out.trans hg3);refine .inl ⟨_,rfl,?_⟩;clear hg3;refine hK.out _ _ (KT.out _ HG3.out) (fun hH=>?_);clear hK;try simp only [Act.put,sA,s0,s1]
        refine wpAnyH_done (by kernel_rfl) ?_ _;generalize hv46:(if BH=d then ast else Option.map (fun x=>x.add d) ast)=a46;clear hv46;have hDQ:i.op=14→d=0→fY u f i s=some (s.take d++ps):=fun h14 h0=>by
         unfold fY;rw [HEQ.out];simp only [];rw [←HD.out,if_neg (by rintro (h|h);omega;exact h HE.out),if_pos h14,if_pos (by have:=HD.out;omega)]
        have hDN:i.op=14→¬d=0→fY u f i s=none:=fun h14 h0=>by
         unfold fY;rw [HEQ.out];simp only [];rw [←HD.out,if_neg (by rintro (h|h);omega;exact h HE.out),if_pos h14,if_neg (by have:=HD.out;omega)]
        have hDS:¬i.op=14→(s.take d++ps).length≤20→fY u f i s=some (s.take d++ps):=fun h14 h0=>by
         unfold fY;rw [HEQ.out];simp only [];rw [←HD.out,if_neg (by rintro (h|h);omega;exact h HE.out),if_neg h14,if_pos h0]
        have hDL:¬i.op=14→¬(s.take d++ps).length≤20→fY u f i s=none:=fun h14 h0=>by
         unfold fY;rw [HEQ.out];simp only [];rw [←HD.out,if_neg (by rintro (h|h);omega;exact h HE.out),if_neg h14,if_neg h0]
        have HDQ:=aH hDQ;have HDN:=aH hDN;have HDS:=aH hDS;have HDL:=aH hDL;obtain ⟨i0,i1,i2,y0,y1,y2,t0,t1,c9⟩:=KS2.out w3 HG3.out;clear hDQ hDN hDS hDL hle hdg;by_cases h14:i.op=14
        · have hb:(i.op == 14)=true:=by simpa using h14
          by_cases hd0:d=0
          · have hbd:((d:Int) == 0)=true:=by simpa using hd0
            have HSt:Hid (dz u f q i s st=.inr st):=aH (by unfold dz;rw [HDQ.out h14 hd0];simp [eA,h14,bz]);clear HDQ HDN HDS HDL hd0 h14;go_wp2_with (go_at_call 32;refine (bU _ _ _ _).mono ?_;rintro e w' ⟨rfl,hg'⟩)
            go_end0
            rw [HSt.out];exact ⟨rfl,vw,m,l,k,HLd.out.gr (HG3.out.trans hg')⟩
          · have hbd:((d:Int) == 0)=false:=by simpa using hd0
            have HSt:Hid (dz u f q i s st=.inl q):=aH (by unfold dz;rw [HDN.out h14 hd0]);clear HDQ HDN HDS HDL hd0 h14;go_wp2_with (go_at_call 32;refine (bk _ _ _ _).mono ?_;rintro e w' ⟨rfl,hg'⟩)
            exact ⟨rfl,by rw [HSt.out];exact ⟨rfl,HLw.out _ (HG3.out.trans hg')⟩⟩
        · have hb:(i.op == 14)=false:=by simpa using h14
          go_upto_region 6 with fail
          have KP:Hid (∀w',Gr wc w'→w'.cell? ⟨eb,1,none⟩=some (.slice xp ps.length cp)):=aH (fun w' g=>by obtain ⟨_,_,_,_,_,_,_,a,_⟩:=KS2.out w' g;exact a);refine wp_region_held_drew (S:=(fun w'=>w'.cell? ⟨eb,1,none⟩=some (.slice xp ps.length cp))) (by kernel_rfl) (t1) (fun hH=>?_);refine tL 0 ?_;simp only [Act.put,sA,s0,s1];refine tL 1 ?_;simp only [Act.put,sA,s0,s1];refine tL 2 ?_;simp only [Act.put,sA,s0,s1];refine tL 3 ?_;simp only [Act.put,sA,s0,s1];refine tL 4 ?_;simp only [Act.put,sA,s0,s1];refine au (i:=5) rfl (by kernel_rfl) (fun K hK=>?_);refine ae (by rfl) ?_;go_simp
          refine hK.out _ _ (KP.out _ (Gr.alloc (Gr.drew HG3.out) _)) (fun hH=>?_);clear hK;try simp only [Act.put,sA,s0,s1]
          refine au (i:=6) rfl (by kernel_rfl) (fun K hK=>?_);refine aS rfl 47 _ _ rfl #[.slice (some ⟨w3.heap.size,0,none⟩) 2 2] (by simp [Act.eval]) (Tryz.callConcat _ _) ((lS w3.heap.size (.slice ast d BH) (.slice xp ps.length cp) (s.take d) ps _ (by simp [go_sem]) (by simp [go_sem]) ((q_ (HRST.out.gr HG3.out) hdl).gr (by repeat (first|with_reducible exact Gr.refl _|with_reducible refine Gr.drew ?_|with_reducible refine Gr.alloc ?_ _))) ((HRP.out.gr HG3.out).gr (by repeat (first|with_reducible exact Gr.refl _|with_reducible refine Gr.drew ?_|with_reducible refine Gr.alloc ?_ _))) (by rw [List.length_take];omega) (by have:=mh HEQ.out;omega)).mono ?_);rintro x w4 ⟨v4,rfl,ho4,hg4⟩;have hpl:(s.take d++ps).length≤1000:=by have:=mh HEQ.out;rw [List.length_append,List.length_take];omega
          generalize hs':s.take d++ps=s' at *;clear hs';obtain ⟨a6,c6,rfl⟩:=aL ho4;have HG4:Hid (Gr wc w4):=aH (HG3.out.trans (Gr.trans (by repeat (first|with_reducible exact Gr.refl _|with_reducible refine Gr.drew ?_|with_reducible refine Gr.alloc ?_ _)) hg4));have hsz4:w.heap.size≤w3.heap.size:=((HL0.out.gr.trans HL1.out.gr).trans HG3.out).size;have HR4:Hid (dP (Sb B vw) w4 (.slice a6 s'.length c6) s'):=aH ((ml ho4).mono fun b hb hl=>⟨rfl,by
           have h1:w3.heap.size+1≤b:=by simpa using hb.1
           have h2:=HL.out.bs;exact ⟨by omega,fun e=>by have:=(World.ownsRow.lt HL.out.row b e).2;omega⟩⟩)
          refine .inl ⟨_,rfl,?_⟩;clear hg4 ho4;refine hK.out _ _ (KP.out _ HG4.out) (fun hH=>?_);clear hK;try simp only [Act.put,sA,s0,s1]
          refine tL 7 ?_;simp only [Act.put,sA,s0,s1];refine wpAnyH_done (by kernel_rfl) ?_ _;obtain ⟨i0,i1,i2,y0,y1,y2,t0,t1,c9⟩:=KS2.out w4 HG4.out;by_cases h20:s'.length≤20
          · have h20i:(s'.length:Int)≤20:=by omega
            have HDo:=aH (HDS.out h14 h20);have HStC:Hid (dz u f q i s st=bz s' q (eA f q i) st):=aH (by unfold dz;rw [HDo.out]);have h20d:decide ((s'.length:Int)≤20)=true:=by simpa using h20i
            have h20e:decide (s'.length≤20)=true:=by simpa using h20
            have HG20:=aH h20;clear HDQ HDN HDS HDL;have hii:bH i=true:=List.all_eq_true.1 HU.out.ok i (List.mem_of_getElem? HI.out);have hnat:=sD hii;by_cases h11:i.op=11
            · have hb11:(i.op != 11)=false:=by simp [h11]
              have hb12:(i.op == 11)=true:=by simp [h11]
              obtain ⟨ta,hta⟩:∃ta:Nat,i.a=(ta:Int):=⟨i.a.toNat,by omega⟩;have htn:ta < f.code.length:=by have:=mo HEQ.out (.inl h11);omega
              have HStD:Hid (dz u f q i s st=bz s' q [some ta] st):=aH (by rw [HStC.out];simp [eA,h11,hta]);rw [hta] at KS2 i1;clear HStC hnat hii hta h11 hb;go_wp2_with ((go_at_call 32;refine (bU _ _ _ _).mono ?_;rintro e w' ⟨rfl,hg'⟩);obtain ⟨i0',i1',i2',y0',y1',y2',t0',t1',c9'⟩:=KS2.out w' (HG4.out.trans hg'))
              have HC:=aH (kA W0 w' lb mb B _ _ _ _ _ _ sl f.code.length f.result n _ vw st dn m l k ta s' (.slice a6 s'.length c6) (HLd.out.gr (HG4.out.trans hg')) htn (HR4.out.mono fun b hb hl=>⟨hg'.block b hl (by simp),hb⟩) HG20.out);refine HC.out.mono ?_;rintro x w6 (⟨s0,hs0,hne,rfl,hlow⟩|⟨rfl,vw2,m2,l2,k2,hl2,hfr2,hlies2,hst2⟩)
              · exact ⟨rfl,by rw [HStD.out,jW hs0 hne];exact ⟨rfl,hlow⟩⟩
              · have HL2:=aH hl2;have HS2:=aH hst2;clear hl2 hfr2 hlies2 hst2 HC;go_wp2_with fail
                go_end0
                rw [HStD.out,jt HS2.out];exact ⟨rfl,vw2,m2,l2,k2,HL2.out⟩
            · have hb11:(i.op != 11)=true:=by simp [h11]
              have hb12:(i.op == 11)=false:=by simp [h11]
              have hwq:IntKind.i64.wrap ((q:Int)+1)=(q:Int)+1:=Go.IntWalk.i64_in _ (by omega);have hcast:((q+1:Nat):Int)=(q:Int)+1:=by omega
              have HCast:=aH hcast;clear hcast hb;go_upto_region 9 with ((go_at_call 32;refine (bU _ _ _ _).mono ?_;rintro e w' ⟨rfl,hg'⟩);obtain ⟨i0',i1',i2',y0',y1',y2',t0',t1',c9'⟩:=KS2.out w' (HG4.out.trans hg'))
              have HG5:Hid (Gr wc w'):=aH (HG4.out.trans hg');have HR5:Hid (dP (Sb B vw) w' (.slice a6 s'.length c6) s'):=aH (HR4.out.mono fun b hb hl=>⟨hg'.block b hl (by simp),hb⟩);have KC:Hid (∀w',Gr wc w'→w'.cell? ⟨wb,0,none⟩=some (.int .i64 10)∧w'.cell? ⟨wb,1,none⟩=some (.int .i64 (n:Int))∧w'.cell? ⟨wb,2,none⟩=some (.int .i64 (q:Int))∧w'.cell? ⟨lb,9,none⟩=some (.slice (some ⟨cb,coff,none⟩) f.code.length cc)):=aH (fun w' g=>by obtain ⟨_,_,_,a,b,c,_,_,d⟩:=KS2.out w' g;exact ⟨a,b,c,d⟩);clear hg' i0 i1 i2 y0 y1 y2 t0 t1 c9;by_cases hq2:q+1 < f.code.length
              · have hq2i:(q:Int)+1 < (f.code.length:Int):=by omega
                have hq2d:decide ((q:Int)+1 < (f.code.length:Int))=true:=by simpa using hq2i
                refine wp_region_held_drew (S:=(fun w'=>w'.cell? ⟨wb,0,none⟩=some (.int .i64 10)∧w'.cell? ⟨wb,1,none⟩=some (.int .i64 (n:Int))∧w'.cell? ⟨wb,2,none⟩=some (.int .i64 (q:Int))∧w'.cell? ⟨lb,9,none⟩=some (.slice (some ⟨cb,coff,none⟩) f.code.length cc))) (by kernel_rfl) (⟨y0',y1',y2',c9'⟩) (fun hH=>?_);refine tL 0 ?_;simp only [Act.put,sA,s0,s1];refine tL 1 ?_;simp only [Act.put,sA,s0,s1];refine tL 2 ?_;simp only [Act.put,sA,s0,s1];refine tL 3 ?_;simp only [Act.put,sA,s0,s1];refine tL 4 ?_;simp only [Act.put,sA,s0,s1];refine tL 5 ?_;simp only [Act.put,sA,s0,s1];refine tL 6 ?_;simp only [Act.put,sA,s0,s1];refine tL 7 ?_;simp only [Act.put,sA,s0,s1];refine tL 8 ?_;simp only [Act.put,sA,s0,s1];refine au (i:=9) rfl (by kernel_rfl) (fun K hK=>?_);refine aS rfl 32 _ _ rfl #[.agg #[.int .i64 10,.int .i64 (n:Int),.int .i64 (q:Int)],.bool true] (by simp [Act.eval]) (Tryz.callUnless _ _) ((bU _ _ _ _).mono ?_);rintro x w6 ⟨rfl,hg6⟩;have HG6:Hid (Gr wc w6):=aH (HG5.out.trans (Gr.trans (Gr.drew (Gr.refl _)) hg6));have HR6:Hid (dP (Sb B vw) w6 (.slice a6 s'.length c6) s'):=aH (HR5.out.mono fun b hb hl=>⟨(Gr.trans (Gr.drew (Gr.refl w')) hg6).block b hl (by simp),hb⟩);refine .inl ⟨_,rfl,?_⟩;clear hg6;refine hK.out _ _ (KC.out _ HG6.out) (fun hH=>?_);clear hK;try simp only [Act.put,sA,s0,s1]
                refine wpAnyH_done (by kernel_rfl) ?_ _;obtain ⟨i0,i1,i2,-,-,-,-,-,-⟩:=KS2.out w6 HG6.out;have HC:=aH (kA W0 w6 lb mb B _ _ _ _ _ _ sl f.code.length f.result n _ vw st dn m l k (q+1) s' (.slice a6 s'.length c6) (HLd.out.gr HG6.out) hq2 HR6.out HG20.out);rw [HCast.out] at HC;clear y0' y1' y2' t0' t1' c9' i0' i1' i2' hq2d hq2i;go_wp2_with fail
                refine HC.out.mono ?_;have HNx:Hid (eA f q i=some (q+1) :: if i.op=12 then [some i.a.toNat] else []):=aH (by
                 unfold eA;rw [if_neg h11,if_neg h14];simp only [if_pos hq2];split<;>rfl)
                rintro x w7 (⟨s0,hs0,hne,rfl,hlow⟩|⟨rfl,vw2,m2,l2,k2,hl2,hfr2,hlies2,hst2⟩)
                · exact ⟨rfl,by rw [HStC.out,HNx.out,jW hs0 hne];exact ⟨rfl,hlow⟩⟩
                · have HStD:Hid (dz u f q i s st=bz s' q (if i.op=12 then [some i.a.toNat] else []) (fun j=>if j=q+1 then some s' else st j)):=aH (by rw [HStC.out,HNx.out,jt hst2]);have hibl:ib < w6.heap.size:=World.block_lt_of_cell? w6 _ i0;have hibw:=HL0.out.il;have hbs:=HL.out.bs;have hlb:=HL.out.lbB;have hmb:=HL.out.mbB;have hkeep:w7.heap[ib]? =w6.heap[ib]? :=hfr2.rest ib hibl (by omega) (by omega) (fun e=>by have:=(World.ownsRow.lt HL.out.row ib e).2;omega);have j0:=(World.cell?_of_block (a:=⟨ib,0,none⟩) hkeep).trans i0;have j1:=(World.cell?_of_block (a:=⟨ib,1,none⟩) hkeep).trans i1;have HL2:=aH hl2;have HR7:Hid (dP (Sb B vw2) w7 (.slice a6 s'.length c6) s'):=aH (HR6.out.mono fun b hb hl=>⟨hfr2.rest b hl (by have:=hb.1;omega) (by have:=hb.1;omega) hb.2,hb.of hl hlies2⟩);clear hl2 hfr2 hlies2 hst2 HC HNx HStC hkeep i0 i1 i2 hibl hibw hbs hlb hmb;by_cases h12:i.op=12
                  · have hbe:(i.op == 12)=true:=by simp [h12]
                    obtain ⟨ta,hta⟩:∃ta:Nat,i.a=(ta:Int):=⟨i.a.toNat,by omega⟩;have htn:ta < f.code.length:=by have:=mo HEQ.out (.inr h12);omega
                    have HStE:Hid (dz u f q i s st=bz s' q [some ta] (fun j=>if j=q+1 then some s' else st j)):=aH (by rw [HStD.out,if_pos h12,hta];rfl);rw [hta] at j1;have HC2:=aH (kA W0 w7 lb mb B _ _ _ _ _ _ sl f.code.length f.result n _ vw2 _ dn m2 l2 k2 ta s' (.slice a6 s'.length c6) HL2.out htn HR7.out HG20.out);clear HStD hnat hii hta h12 h11 hwq;go_wp2_with fail
                    refine HC2.out.mono ?_;rintro x w8 (⟨s0,hs0,hne,rfl,hlow⟩|⟨rfl,vw3,m3,l3,k3,hl3,hfr3,hlies3,hst3⟩)
                    · exact ⟨rfl,by rw [HStE.out,jW hs0 hne];exact ⟨rfl,hlow⟩⟩
                    · have HL3:=aH hl3;have HS3:=aH hst3;clear hl3 hfr3 hlies3 hst3 HC2;go_wp2_with fail
                      go_end0
                      rw [HStE.out,jt HS3.out];exact ⟨rfl,vw3,m3,l3,k3,HL3.out⟩
                  · have hbe:(i.op == 12)=false:=by simp [h12]
                    have HStE:Hid (dz u f q i s st=.inr (fun j=>if j=q+1 then some s' else st j)):=aH (by rw [HStD.out,if_neg h12];rfl);clear HStD hnat hii h12 h11 hwq;go_wp2_with fail
                    go_end0
                    rw [HStE.out];exact ⟨rfl,vw2,m2,l2,k2,HL2.out⟩
              · have hq2i:¬(q:Int)+1 < (f.code.length:Int):=by omega
                have hq2d:decide ((q:Int)+1 < (f.code.length:Int))=false:=by simpa using hq2i
                have HSt:Hid (dz u f q i s st=.inl q):=aH (by
                 rw [HStC.out];unfold eA;rw [if_neg h11,if_neg h14];simp only [if_neg hq2];split<;>rfl)
                refine wp_region_held_drew (S:=(fun w'=>w'.cell? ⟨wb,0,none⟩=some (.int .i64 10)∧w'.cell? ⟨wb,1,none⟩=some (.int .i64 (n:Int))∧w'.cell? ⟨wb,2,none⟩=some (.int .i64 (q:Int))∧w'.cell? ⟨lb,9,none⟩=some (.slice (some ⟨cb,coff,none⟩) f.code.length cc))) (by kernel_rfl) (⟨y0',y1',y2',c9'⟩) (fun hH=>?_);refine tL 0 ?_;simp only [Act.put,sA,s0,s1];refine tL 1 ?_;simp only [Act.put,sA,s0,s1];refine tL 2 ?_;simp only [Act.put,sA,s0,s1];refine tL 3 ?_;simp only [Act.put,sA,s0,s1];refine tL 4 ?_;simp only [Act.put,sA,s0,s1];refine tL 5 ?_;simp only [Act.put,sA,s0,s1];refine tL 6 ?_;simp only [Act.put,sA,s0,s1];refine tL 7 ?_;simp only [Act.put,sA,s0,s1];refine tL 8 ?_;simp only [Act.put,sA,s0,s1];refine au (i:=9) rfl (by kernel_rfl) (fun K hK=>?_);refine aS rfl 32 _ _ rfl #[.agg #[.int .i64 10,.int .i64 (n:Int),.int .i64 (q:Int)],.bool false] (by simp [Act.eval]) (Tryz.callUnless _ _) ((bk _ _ _ _).mono ?_);rintro x w6 ⟨rfl,hg6⟩;exact .inr ⟨_,rfl,rfl,by rw [HSt.out];exact ⟨rfl,HLw.out _ (HG5.out.trans (Gr.trans (Gr.drew (Gr.refl _)) hg6))⟩⟩
          · have h20i:¬(s'.length:Int)≤20:=by omega
            have h20d:decide ((s'.length:Int)≤20)=false:=by simpa using h20i
            have h20e:decide (s'.length≤20)=false:=by simpa using h20
            have HSt:Hid (dz u f q i s st=.inl q):=aH (by unfold dz;rw [HDL.out h14 h20]);clear HDQ HDN HDS HDL;go_wp2_with (go_at_call 32;refine (bk _ _ _ _).mono ?_;rintro e w' ⟨rfl,hg'⟩)
            exact ⟨rfl,by rw [HSt.out];exact ⟨rfl,HLw.out _ (HG4.out.trans hg')⟩⟩
      · have hde:decide (s.drop d=ts)=false:=by simpa using he
        have HSt:Hid (dz u f q i s st=.inl q):=aH (by unfold dz fY;rw [HEQ.out];simp only [];rw [←HD.out,if_pos (Or.inr he)]);rw [hde];clear hde he;refine hK.out _ _ (KT.out _ HG2.out) (fun hH=>?_);clear hK;try simp only [Act.put,sA,s0,s1]
        refine tL 10 ?_;simp only [Act.put,sA,s0,s1];refine au (i:=11) rfl (by kernel_rfl) (fun K hK=>?_);refine aS rfl 32 _ _ rfl #[.agg #[.int .i64 10,.int .i64 (n:Int),.int .i64 (q:Int)],.bool false] (by simp [Act.eval]) (Tryz.callUnless _ _) ((bk _ _ _ _).mono ?_);rintro x w' ⟨rfl,hg'⟩;exact .inr ⟨_,rfl,rfl,by rw [HSt.out];exact ⟨rfl,HLw.out _ (HG2.out.trans hg')⟩⟩
    · have HSt:Hid (dz u f q i s st=.inl q):=aH (by unfold dz fY;rw [HEQ.out];simp only [];rw [if_pos (Or.inl (by omega))]);obtain ⟨D,hD⟩:∃D:Int,D=(s.length:Int) - (ts.length:Int):=⟨_,rfl⟩;have hg1:¬(0:Int)≤D:=by omega
      have hg2:decide ((0:Int)≤D)=false:=by simpa using hg1
      have hw3:=hw1.trans hD.symm;clear hD hle hw1;go_upto_region 3 with fail
      refine wp_region_held_drew (S:=(fun w'=>w'.cell? ⟨wb,0,none⟩=some (.int .i64 10)∧w'.cell? ⟨wb,1,none⟩=some (.int .i64 (n:Int))∧w'.cell? ⟨wb,2,none⟩=some (.int .i64 (q:Int)))) (by kernel_rfl) (⟨y0,y1,y2⟩) (fun hH=>?_);refine tL 0 ?_;simp only [Act.put,sA,s0,s1];refine tL 1 ?_;simp only [Act.put,sA,s0,s1];refine tL 2 ?_;simp only [Act.put,sA,s0,s1];refine tL 3 ?_;simp only [Act.put,sA,s0,s1];refine eC (i:=4) rfl (by kernel_rfl) (by kernel_rfl) (by kernel_rfl) (fun _ _ _ h=>h) (by rfl) hH ?_;simp only [Act.put,sA,s0,s1];refine eC (i:=5) rfl (by kernel_rfl) (by kernel_rfl) (by kernel_rfl) (fun _ _ _ h=>h) (by rfl) hH ?_;simp only [Act.put,sA,s0,s1];refine eC (i:=6) rfl (by kernel_rfl) (by kernel_rfl) (by kernel_rfl) (fun _ _ _ h=>h) (by rfl) hH ?_;simp only [Act.put,sA,s0,s1];refine eC (i:=7) rfl (by kernel_rfl) (by kernel_rfl) (by kernel_rfl) (fun _ _ _ h=>h) (by rfl) hH ?_;simp only [Act.put,sA,s0,s1];refine eC (i:=8) rfl (by kernel_rfl) (by kernel_rfl) (by kernel_rfl) (fun _ _ _ h=>h) (by rfl) hH ?_;simp only [Act.put,sA,s0,s1];refine eC (i:=9) rfl (by kernel_rfl) (by kernel_rfl) (by kernel_rfl) (fun _ _ _ h=>h) (by rfl) hH ?_;simp only [Act.put,sA,s0,s1];refine tL 10 ?_;simp only [Act.put,sA,s0,s1];refine au (i:=11) rfl (by kernel_rfl) (fun K hK=>?_);refine aS rfl 32 _ _ rfl #[.agg #[.int .i64 10,.int .i64 (n:Int),.int .i64 (q:Int)],.bool false] (by simp [Act.eval]) (Tryz.callUnless _ _) ((bk _ _ _ _).mono ?_);rintro x w' ⟨rfl,hg'⟩;exact .inr ⟨_,rfl,rfl,by rw [HSt.out];exact ⟨rfl,HLw.out _ (Gr.trans (by repeat (first|with_reducible exact Gr.refl _|with_reducible assumption|with_reducible refine Gr.drew ?_|with_reducible refine Gr.alloc ?_ _|with_reducible refine d_ ?_ (by first|(simp;done)|omega)|with_reducible refine Gr.trans ?_ (by with_reducible assumption))) hg')⟩⟩
end Go.Proofs.YtkgncijcnlfhiaaGreat
