import Derived.Test.YtkgncijcnlfhiabGreatZk
import Derived.Test.YtkgncijcnlfhiabGreatZp
import Derived.Test.YtkgncijcnlfhiabGreatRg2
namespace Go.Proofs.YtkgncijcnlfhiabGreat
set_option linter.unusedVariables false
set_option linter.unusedSimpArgs false
open Go.RowKit
attribute [local go_sem ↓] Go.wp_at_zero Go.wp_at_succ
structure CK(W0:World)(u:aK)(f:aO)(v1 v2 v3 v4 v5 vc:Value):Prop where
 sh:bM W0 v1 u.aA
 co:∃ao cap,v2=.slice ao u.aD.length cap
 fu:dH W0 v3 u.aE
 im:bo W0 v4 u.aB
 ex:∃ao n cap,v5=.slice ao n cap
 l2:u.aD.length<=1000000
 l3:u.aE.length<=1000000
 l4:u.aB.length<=1000000
 cd:eH W0 vc f.code
 ok:f.code.all a_=true
theorem CS{w w1:World}{t t':TypeId}(g:Gr ((w.alloc (.cells #[.int .i64 0,.int .i64 0,.int .i64 0] t)).alloc (.cells #[.int .i64 0,.int .i64 0,.int .i64 0] t')).drew w1):w1.cell? ⟨w.heap.size+1,0,none⟩=some (.int .i64 0)/\w1.cell? ⟨w.heap.size+1,1,none⟩=some (.int .i64 0)/\w1.cell? ⟨w.heap.size+1,2,none⟩=some (.int .i64 0)/\w1.frozen? ⟨w.heap.size+1,0,none⟩=false/\w1.frozen? ⟨w.heap.size+1,1,none⟩=false/\w1.frozen? ⟨w.heap.size+1,2,none⟩=false:=by
 have:=z3 (w:=w.alloc (.cells #[.int .i64 0,.int .i64 0,.int .i64 0] t)) (t:=t') g
 simpa using this
theorem kb{s':List Int}{q t:Nat}{l:List (Option Nat)}{st:Nat->Option (List Int)}{s0:List Int}(h:st t=some s0)(hne:¬s0=s'):b7 s' q (some t :: l) st=.inl t:=by
 simp [b7,h,hne]
theorem kX{s':List Int}{q t:Nat}{l:List (Option Nat)}{st:Nat->Option (List Int)}(h:st t=none\/st t=some s'):b7 s' q (some t :: l) st=b7 s' q l (fun j=>if j=t then some s' else st j):=by
 rcases h with h|h
 · simp [b7,h]
 · have e:(fun j=>if j=t then some s' else st j)=st:=by
    funext j
    by_cases hj:j=t
    · rw [if_pos hj,hj,h]
    · rw [if_neg hj]
   rw [e];simp [b7,h]
theorem Tryz.callUnless(M0:Array Value)(w:World):(callFunc 64 M0).run Tryz.prog w=.ok (.enter 64 M0) w:=Q7
theorem Tryz.callConcat(M0:Array Value)(w:World):(callFunc 57 M0).run Tryz.prog w=.ok (.enter 57 M0) w:=Q7
theorem Tryz.callEqual(M0:Array Value)(w:World):(callFunc 83 M0).run Tryz.prog w=.ok (.enter 83 M0) w:=Q7
theorem CQ{w w1:World}{t:TypeId}(g:Gr (w.alloc (.cells #[.slice none 0 0,.slice none 0 0] t)).drew w1):w1.cell? ⟨w.heap.size,0,none⟩=some (.slice none 0 0)/\w1.cell? ⟨w.heap.size,1,none⟩=some (.slice none 0 0)/\w1.frozen? ⟨w.heap.size,0,none⟩=false/\w1.frozen? ⟨w.heap.size,1,none⟩=false:=by
 have hb:w1.heap[w.heap.size]? =some (.cells #[.slice none 0 0,.slice none 0 0] t (0,0)):=(g.block w.heap.size Q6 Q6).trans (heap_alloc_new w _);refine ⟨?_,?_,?_,?_⟩
 · rw [aU hb];rfl
 · rw [aU hb];rfl
 · exact bH hb
 · exact bH hb
structure CP(w wx:World)(ts ps:List Int)(eb:Nat)(vt vp:Value):Prop where
 gr:Gr w wx
 el:w.heap.size<=eb
 e0:wx.cell? ⟨eb,0,none⟩=some vt
 e1:wx.cell? ⟨eb,1,none⟩=some vp
 rt:aW wx vt ts
 rp:aW wx vp ps
def CG(w:World)(ts ps:List Int)(a7:Value)(wx:World):Prop:=∃eb vt vp,a7=.pointer (some ⟨eb,0,none⟩)/\CP w wx ts ps eb vt vp
theorem Tryz.callEffect(M0:Array Value)(w:World):(callFunc 107 M0).run Tryz.prog w=.ok (.enter 107 M0) w:=Q7
set_option maxRecDepth 100000 in
set_option maxHeartbeats 4000000 in
theorem wF(W0:World)(lb mb B:Nat)(v1 v2 v3 v4 v5 vs:Value)(u:aK)(f:aO)(n:Nat)(vc:Value)(hU:CK W0 u f v1 v2 v3 v4 v5 vc):
 zt W0 lb mb B v1 v2 v3 v4 v5 vs (f.aF++f.aG) u f n vc:=by
 intro w vw st dn m l k q i s DR hi T0;have HL:=aH DR;have HU:=aH hU;have HI:=aH hi;have J7:=aH T0;obtain ⟨I2,hmq,TZ⟩:=DR.sts q s T0;obtain ⟨Qr,Wm,rfl⟩:=TZ.to.shape;have NJ:=aH TZ;have JD:q < f.code.length:=(List.getElem?_eq_some_iff.1 hi).1;obtain ⟨cao,cc,rfl,Kt,OJ⟩:=hU.cd;obtain ⟨cb,Db,rfl,k0,k1,k2⟩:=OJ q i hi;have Ra:=DR.small;have KS:Hid (∀w',Gr w w'->w'.cell? ⟨lb,9,none⟩=some (.slice (some ⟨cb,Db,none⟩) f.code.length cc)/\w'.cell? ⟨lb,10,none⟩=some (.map (some mb))/\w'.cell? ⟨cb,Db+q * 3,none⟩=some (.int .i64 i.op)/\w'.cell? ⟨cb,Db+q * 3+1,none⟩=some (.int .i64 i.a)/\w'.cell? ⟨cb,Db+q * 3+2,none⟩=some (.int .i64 i.b)/\(Instr.lookup 82 (.map (some mb)) (.int .i64 (q:Int)) false).run Tryz.prog w'=.ok (.slice Qr s.length Wm) w'):=aH (fun w' g=>by
  have h2:=HL.out.gr g;have g0:=(ju HL.out.low).trans g;have e:=h2.mp.look1 q Q5;rw [hmq] at e;exact ⟨by rw [aU h2.box];rfl,by rw [aU h2.box];rfl,g0.cell k0 Q6,g0.cell k1 Q6,g0.cell k2 Q6,e⟩)
 have Zt:Hid (∀w',Gr w w'->Calls Tryz.prog 105 #[.pointer (some ⟨lb,0,none⟩),.int .i64 (q:Int)] w' fun x w2=>x=.returned (.agg #[.int .i64 10,.int .i64 (n:Int),.int .i64 (q:Int)])/\Gr w' w2):=aH (fun w' g=>nx lb n q w' (by rw [aU (HL.out.gr g).box];rfl));have Nj:(q:Int) < (f.code.length:Int):=Q5
 have Pp:q<=1000:=Q5
 clear DR hU hi T0 TZ OJ k0 k1 k2 hmq Kt;go_enter Tryz.func60,Tryz.ntmps60
 go_upto_region 0 with fail
 go_cut [4,5,6] from 7 (fun a4 a5 a6 wx=>CB w i n q (.slice Qr s.length Wm) a4 a5 a6 wx)
 case first=>
  go_region_held3 (fun w'=>w'.cell? ⟨lb,9,none⟩=some (.slice (some ⟨cb,Db,none⟩) f.code.length cc)/\w'.cell? ⟨lb,10,none⟩=some (.map (some mb))/\w'.cell? ⟨cb,Db+q * 3,none⟩=some (.int .i64 i.op)/\w'.cell? ⟨cb,Db+q * 3+1,none⟩=some (.int .i64 i.a)/\w'.cell? ⟨cb,Db+q * 3+2,none⟩=some (.int .i64 i.b)/\(Instr.lookup 82 (.map (some mb)) (.int .i64 (q:Int)) false).run Tryz.prog w'=.ok (.slice Qr s.length Wm) w') (first|exact KS.out _ (by repeat (first|with_reducible exact Gr.refl _|with_reducible assumption|with_reducible refine Gr.drew ?_|with_reducible refine Gr.alloc ?_ _|with_reducible refine eI ?_ Q6|with_reducible refine Gr.trans ?_ (by with_reducible assumption)))) (first|(go_at_call 105;refine (Zt.out _ (by repeat (first|with_reducible exact Gr.refl _|with_reducible assumption|with_reducible refine Gr.drew ?_|with_reducible refine Gr.alloc ?_ _|with_reducible refine Gr.trans ?_ (by with_reducible assumption)))).mono ?_;rintro x w1 ⟨rfl,hg1⟩;have Nk:w.heap.size<=w1.heap.size:=(by have:=hg1.size;first|(simp at this;omega)|(simpa using this));first|(have N5:=CT hg1;have D5:=CS hg1;obtain ⟨z0,z1,z2,zf0,zf1,zf2⟩:=N5;obtain ⟨y0,y1,y2,yf0,yf1,yf2⟩:=D5)|(have N5:=z3 hg1;have VZ:w.heap.size < w1.heap.size:=(by have:=hg1.size;simp at this;omega);have ZY:¬w.heap.size=w1.heap.size:=Nat.ne_of_lt VZ;obtain ⟨z0,z1,z2,zf0,zf1,zf2⟩:=N5;have hzo:=fun o=>z3 (Gr.alloc hg1 o))|skip))
  all_goals
   go_wp2_with fail
   go_meet
   refine ⟨_,_,rfl,rfl,rfl,?_⟩;clear KS Zt HL HU NJ HI J7;constructor
   · repeat (first|with_reducible exact Gr.refl _|with_reducible assumption|with_reducible refine Gr.drew ?_|with_reducible refine Gr.alloc ?_ _|with_reducible refine eI ?_ (by first|(simp;done)|omega)|with_reducible refine Gr.trans ?_ (by with_reducible assumption))
   · first|(simp;done)|(simp;omega)|omega
   · first|(simp;done)|(simp;omega)|omega
   all_goals first|(simp [go_sem];done)|(simp [go_sem, *];done)|trace_state
 case rest=>
  obtain ⟨ib,wb,rfl,rfl,rfl,WZ⟩:=hcut;obtain ⟨wA,hA⟩:∃x,x=wc:=⟨wc,rfl⟩;subst hA;have Zb:=aH WZ;have ND:=aH (HL.out.gr WZ.gr);have Vq:a_ i=true:=List.all_eq_true.1 HU.out.ok i (List.mem_of_getElem? HI.out);obtain ⟨a2,c2,I7⟩:=HU.out.co;obtain ⟨a1,c1,R7⟩:=HU.out.sh.shape;obtain ⟨a3,c3,N7⟩:=HU.out.fu.shape;obtain ⟨a4,c4,L6⟩:∃ao cap,v4=.slice ao u.aB.length cap:=by obtain ⟨ao,cap,h,_⟩:=HU.out.im;exact ⟨ao,cap,h⟩
  obtain ⟨a5,n5,c5,Xm⟩:=HU.out.ex;obtain ⟨al,cl,Jz⟩:=HL.out.slt.to.shape;subst R7 I7 N7 L6 Xm Jz;generalize hsl:f.aF++f.aG=sl at *;have XZ:=aH hsl;clear hsl;have Xu:Hid (∀w',Gr wA w'->Calls Tryz.prog 107 #[.agg #[.slice a1 u.aA.length c1,.slice a2 u.aD.length c2,.slice a3 u.aE.length c3,.slice a4 u.aB.length c4,.slice a5 n5 c5,.slice al sl.length cl,.int .i64 (f.code.length:Int),.int .i64 f.result],.agg #[.int .i64 i.op,.int .i64 i.a,.int .i64 i.b],.slice Qr s.length Wm,.agg #[.int .i64 10,.int .i64 (n:Int),.int .i64 (q:Int)]] w' (gO (aj u f i s) n q w')):=aH (fun w' g=>by
   have g0:=(ju ND.out.low).trans g;have hS:Sc w' u (f.aF++f.aG) (.slice a1 u.aA.length c1) (.slice a2 u.aD.length c2) (.slice a3 u.aE.length c3) (.slice a4 u.aB.length c4) (.slice al sl.length cl):=⟨HU.out.sh.gr g0,⟨_,_,rfl⟩,HU.out.fu.gr g0,HU.out.im.gr g0,by rw [XZ.out];exact (ND.out.gr g).slt.to,HU.out.l2,HU.out.l3,HU.out.l4⟩;exact tD u f i Vq s _ _ _ _ _ _ _ _ _ w' w' hS (Gr.refl _) (NJ.out.to.gr (Zb.out.gr.trans g)) Q5)
  have ER:Hid (∀w',Gr wA w'->w'.cell? ⟨lb,0,none⟩=some (.slice a1 u.aA.length c1)/\w'.cell? ⟨lb,1,none⟩=some (.slice a2 u.aD.length c2)/\w'.cell? ⟨lb,2,none⟩=some (.slice a3 u.aE.length c3)/\w'.cell? ⟨lb,3,none⟩=some (.slice a4 u.aB.length c4)/\w'.cell? ⟨lb,4,none⟩=some (.slice a5 n5 c5)/\w'.cell? ⟨lb,5,none⟩=some (.slice al sl.length cl)/\w'.cell? ⟨lb,6,none⟩=some (.int .i64 (f.code.length:Int))/\w'.cell? ⟨lb,7,none⟩=some (.int .i64 f.result)/\w'.cell? ⟨ib,0,none⟩=some (.int .i64 i.op)/\w'.cell? ⟨ib,1,none⟩=some (.int .i64 i.a)/\w'.cell? ⟨ib,2,none⟩=some (.int .i64 i.b)/\w'.cell? ⟨wb,0,none⟩=some (.int .i64 10)/\w'.cell? ⟨wb,1,none⟩=some (.int .i64 (n:Int))/\w'.cell? ⟨wb,2,none⟩=some (.int .i64 (q:Int))):=aH (fun w' g=>by
   have h2:=ND.out.gr g;have h3:=Zb.out.go g;exact ⟨by rw [aU h2.box];rfl,by rw [aU h2.box];rfl,by rw [aU h2.box];rfl,by rw [aU h2.box];rfl,by rw [aU h2.box];rfl,by rw [aU h2.box];rfl,by rw [aU h2.box];rfl,by rw [aU h2.box];rfl,h3.c0,h3.c1,h3.c2,h3.y0,h3.y1,h3.y2⟩)
  have Dd:Hid (∀w',Gr wA w'->Below W0.heap.size W0 w'):=aH (fun w' g=>(ND.out.gr g).low);clear WZ KS Zt Vq;cases Im:aj u f i s with
  | none=>
   have E4:Hid (eE u f q i s st=.inl q):=aH (by unfold eE gJ;rw [Im]);rw [Im] at Xu;clear Im;obtain ⟨l0,l1,l2,l3,l4,l5,l6,l7,i0,i1,i2,y0,y1,y2⟩:=ER.out wA (Gr.refl _);obtain ⟨m0,m1,m2,m3,m4,m5,m6,m7,j0,j1,j2,z0,z1,z2⟩:=ER.out _ (Gr.alloc (Gr.refl wA) (.cells #[.slice none 0 0,.slice none 0 0] 184));go_upto_region 1 with fail
   go_region_law (first|(refine jk rfl 107 _ _ rfl #[.agg #[.slice a1 u.aA.length c1,.slice a2 u.aD.length c2,.slice a3 u.aE.length c3,.slice a4 u.aB.length c4,.slice a5 n5 c5,.slice al sl.length cl,.int .i64 (f.code.length:Int),.int .i64 f.result],.agg #[.int .i64 i.op,.int .i64 i.a,.int .i64 i.b],.slice Qr s.length Wm,.agg #[.int .i64 10,.int .i64 (n:Int),.int .i64 (q:Int)]] (by simp [Act.eval,Act.put]) (Tryz.callEffect _ _) ((Xu.out _ Q3).mono ?_);rintro x w' ⟨D0,rfl⟩;refine ⟨_,rfl,?_⟩;refine aR ?_))
   all_goals exact ⟨rfl,by rw [E4.out];exact ⟨rfl,Dd.out _ (Gr.trans Q3 D0)⟩⟩
  | some tp=>
   obtain ⟨ts,ps⟩:=tp;rw [Im] at Xu;have Ih:=aH Im;clear Im;go_upto_region 1 with fail
   go_cut [7] from 8 (fun a7 wx=>CG wA ts ps a7 wx)
   case first=>
    go_region_held3 (fun w'=>w'.cell? ⟨lb,0,none⟩=some (.slice a1 u.aA.length c1)/\w'.cell? ⟨lb,1,none⟩=some (.slice a2 u.aD.length c2)/\w'.cell? ⟨lb,2,none⟩=some (.slice a3 u.aE.length c3)/\w'.cell? ⟨lb,3,none⟩=some (.slice a4 u.aB.length c4)/\w'.cell? ⟨lb,4,none⟩=some (.slice a5 n5 c5)/\w'.cell? ⟨lb,5,none⟩=some (.slice al sl.length cl)/\w'.cell? ⟨lb,6,none⟩=some (.int .i64 (f.code.length:Int))/\w'.cell? ⟨lb,7,none⟩=some (.int .i64 f.result)/\w'.cell? ⟨ib,0,none⟩=some (.int .i64 i.op)/\w'.cell? ⟨ib,1,none⟩=some (.int .i64 i.a)/\w'.cell? ⟨ib,2,none⟩=some (.int .i64 i.b)/\w'.cell? ⟨wb,0,none⟩=some (.int .i64 10)/\w'.cell? ⟨wb,1,none⟩=some (.int .i64 (n:Int))/\w'.cell? ⟨wb,2,none⟩=some (.int .i64 (q:Int))) (exact ER.out _ (by repeat (first|with_reducible exact Gr.refl _|with_reducible assumption|with_reducible refine Gr.drew ?_|with_reducible refine Gr.alloc ?_ _|with_reducible refine eI ?_ (by first|(simp;done)|omega)|with_reducible refine Gr.trans ?_ (by with_reducible assumption)))) (first|(go_at_call 107;refine (Xu.out _ (by repeat (first|with_reducible exact Gr.refl _|with_reducible assumption|with_reducible refine Gr.drew ?_|with_reducible refine Gr.alloc ?_ _|with_reducible refine eI ?_ (by first|(simp;done)|omega)|with_reducible refine Gr.trans ?_ (by with_reducible assumption)))).mono ?_;rintro x w1 ⟨hg1,vt,vp,rfl,YZ,ZZ⟩;obtain ⟨xt,ct,rfl⟩:=YZ.shape;obtain ⟨xp,cp,rfl⟩:=ZZ.shape;have Hm:=aH YZ;have Fh:=aH ZZ;clear YZ ZZ;have Nk:wA.heap.size<=w1.heap.size:=(by have:=hg1.size;first|(simp at this;omega)|(simpa using this));first|(have N5:=CQ hg1;obtain ⟨z0,z1,zf0,zf1⟩:=N5)|skip))
    all_goals
     go_wp2_with fail
     go_meet
     refine ⟨_,.slice xt ts.length ct,.slice xp ps.length cp,rfl,?_⟩;clear ER Xu HL HU NJ HI J7 ND Dd;constructor
     · exact (by repeat (first|with_reducible exact Gr.refl _|with_reducible assumption|with_reducible refine Gr.drew ?_|with_reducible refine Gr.alloc ?_ _|with_reducible refine eI ?_ (by first|(simp;done)|omega)|with_reducible refine Gr.trans ?_ (by with_reducible assumption)))
     · first|(simp;done)|(simp;omega)|omega
     · first|(simp [go_sem];done)|(simp [go_sem, *];done)|trace_state
     · first|(simp [go_sem];done)|(simp [go_sem, *];done)|trace_state
     · first|exact Hm.out.gr ((Gr.refl _).alloc _)|exact mr Hm.out z0 z1
     · first|exact Fh.out.gr ((Gr.refl _).alloc _)|exact mr Fh.out z0 z1
   case rest=>
    obtain ⟨eb,vt,vp,rfl,Mw⟩:=hcut;obtain ⟨xt,ct,rfl⟩:=Mw.rt.shape;obtain ⟨xp,cp,rfl⟩:=Mw.rp.shape;have Xc:=aH Mw;have PJ:=aH (ND.out.gr Mw.gr);have QJ:Hid (∀w',Gr wc w'->Below W0.heap.size W0 w'):=aH (fun w' g=>(PJ.out.gr g).low);have Rr:Hid (∀w',Gr wc w'->w'.cell? ⟨ib,0,none⟩=some (.int .i64 i.op)/\w'.cell? ⟨ib,1,none⟩=some (.int .i64 i.a)/\w'.cell? ⟨ib,2,none⟩=some (.int .i64 i.b)/\w'.cell? ⟨wb,0,none⟩=some (.int .i64 10)/\w'.cell? ⟨wb,1,none⟩=some (.int .i64 (n:Int))/\w'.cell? ⟨wb,2,none⟩=some (.int .i64 (q:Int))/\w'.cell? ⟨eb,0,none⟩=some (.slice xt ts.length ct)/\w'.cell? ⟨eb,1,none⟩=some (.slice xp ps.length cp)/\w'.cell? ⟨lb,9,none⟩=some (.slice (some ⟨cb,Db,none⟩) f.code.length cc)):=aH (fun w' g=>by
     have h2:=PJ.out.gr g;have h3:=Zb.out.go (Xc.out.gr.trans g);exact ⟨h3.c0,h3.c1,h3.c2,h3.y0,h3.y1,h3.y2,g.cell Xc.out.e0 Q6,g.cell Xc.out.e1 Q6,by rw [aU h2.box];rfl⟩)
    have RJ:=aH (NJ.out.to.gr (Zb.out.gr.trans Xc.out.gr));have Hm:=aH Mw.rt;have Fh:=aH Mw.rp;have hsl20:s.length<=20:=HL.out.len q s J7.out;have SJ:s.length<=Wm:=NJ.out.cap;have htm:ts.length<=maxLen:=by obtain ⟨_,_,_,h,_⟩:=Mw.rt;exact h
    unfold maxLen at htm;obtain ⟨i0,i1,i2,y0,y1,y2,t0,t1,c9⟩:=Rr.out wc (Gr.refl _);have D2:IntKind.i64.wrap ((s.length:Int) - (ts.length:Int))=(s.length:Int) - (ts.length:Int):=Q_;clear Mw;by_cases hle:ts.length<=s.length
    · obtain ⟨d,hd⟩:∃d:Nat,d=s.length - ts.length:=⟨_,rfl⟩;have D3:(s.length:Int) - (ts.length:Int)=(d:Int):=by omega
      have V5:=D2.trans D3;have HD:=aH hd;have hdl:d<=s.length:=Q5
      have hdi:(d:Int)<=(s.length:Int):=Q5
      have hdc:d<=Wm:=Q5
      have hdci:(d:Int)<=(Wm:Int):=Q5
      have hdg:decide ((0:Int)<=(d:Int))=true:=Q6
      clear D3 hd D2;go_upto_region 3 with fail
      have KT:Hid (∀w',Gr wc w'->w'.cell? ⟨wb,0,none⟩=some (.int .i64 10)/\w'.cell? ⟨wb,1,none⟩=some (.int .i64 (n:Int))/\w'.cell? ⟨wb,2,none⟩=some (.int .i64 (q:Int))/\w'.cell? ⟨eb,0,none⟩=some (.slice xt ts.length ct)):=aH (fun w' g=>by obtain ⟨_,_,_,a,b,c,d,_,_⟩:=Rr.out w' g;exact ⟨a,b,c,d⟩);refine wp_region_held_drew (S:=(fun w'=>w'.cell? ⟨wb,0,none⟩=some (.int .i64 10)/\w'.cell? ⟨wb,1,none⟩=some (.int .i64 (n:Int))/\w'.cell? ⟨wb,2,none⟩=some (.int .i64 (q:Int))/\w'.cell? ⟨eb,0,none⟩=some (.slice xt ts.length ct))) Q7 (⟨y0,y1,y2,t0⟩) (fun hH=>?_);refine tL 0 ?_;simp only [Act.put,sA,s0,s1];refine tL 1 ?_;simp only [Act.put,sA,s0,s1];refine tL 2 ?_;simp only [Act.put,sA,s0,s1];refine tL 3 ?_;simp only [Act.put,sA,s0,s1];refine tL 4 ?_;simp only [Act.put,sA,s0,s1];refine tL 5 ?_;simp only [Act.put,sA,s0,s1];refine tL 6 ?_;simp only [Act.put,sA,s0,s1];refine tL 7 ?_;simp only [Act.put,sA,s0,s1];refine tL 8 ?_;simp only [Act.put,sA,s0,s1];refine aq (i:=9) rfl Q7 (fun K hK=>?_);refine aQ rfl 83 _ _ rfl #[.slice (if Wm=d then Qr else Option.map (fun x=>x.add d) Qr) (s.length - d) (Wm - d),.slice xt ts.length ct] fk (Tryz.callEqual _ _) ((j6 _ _ (s.drop d) ts _ ((sR RJ.out SJ hdl).gr Q3) (Hm.out.gr Q3)).mono ?_);rintro x w2 ⟨rfl,E0⟩;have O0:Hid (Gr wc w2):=aH (Gr.trans Q3 E0);refine .inl ⟨_,rfl,?_⟩;clear E0;by_cases he:s.drop d=ts
      · have TJ:decide (s.drop d=ts)=true:=by simpa using he
        rw [TJ];have HE:=aH he;clear TJ he;refine hK.out _ _ (KT.out _ O0.out) (fun hH=>?_);clear hK;try simp only [Act.put,sA,s0,s1]
        refine tL 10 ?_;simp only [Act.put,sA,s0,s1];refine aq (i:=11) rfl Q7 (fun K hK=>?_);refine aQ rfl 64 _ _ rfl #[.agg #[.int .i64 10,.int .i64 (n:Int),.int .i64 (q:Int)],.bool true] fk (Tryz.callUnless _ _) ((bP _ _ _ _).mono ?_);rintro x w3 ⟨rfl,P0⟩;have HG3:Hid (Gr wc w3):=aH (O0.out.trans P0);refine .inl ⟨_,rfl,?_⟩;clear P0;refine hK.out _ _ (KT.out _ HG3.out) (fun hH=>?_);clear hK;try simp only [Act.put,sA,s0,s1]
        refine wpAnyH_done Q7 ?_ _;generalize Na:(if Wm=d then Qr else Option.map (fun x=>x.add d) Qr)=a46;clear Na;have hDQ:i.op=14->d=0->gJ u f i s=some (s.take d++ps):=fun Z9 h0=>by
         unfold gJ;rw [Ih.out];simp only [];rw [<-HD.out,if_neg (by rintro (h|h);omega;exact h HE.out),if_pos Z9,if_pos (by have:=HD.out;omega)]
        have hDN:i.op=14->¬d=0->gJ u f i s=none:=fun Z9 h0=>by
         unfold gJ;rw [Ih.out];simp only [];rw [<-HD.out,if_neg (by rintro (h|h);omega;exact h HE.out),if_pos Z9,if_neg (by have:=HD.out;omega)]
        have hDS:¬i.op=14->(s.take d++ps).length<=20->gJ u f i s=some (s.take d++ps):=fun Z9 h0=>by
         unfold gJ;rw [Ih.out];simp only [];rw [<-HD.out,if_neg (by rintro (h|h);omega;exact h HE.out),if_neg Z9,if_pos h0]
        have hDL:¬i.op=14->¬(s.take d++ps).length<=20->gJ u f i s=none:=fun Z9 h0=>by
         unfold gJ;rw [Ih.out];simp only [];rw [<-HD.out,if_neg (by rintro (h|h);omega;exact h HE.out),if_neg Z9,if_neg h0]
        have VJ:=aH hDQ;have Gw:=aH hDN;have WJ:=aH hDS;have XJ:=aH hDL;obtain ⟨i0,i1,i2,y0,y1,y2,t0,t1,c9⟩:=Rr.out w3 HG3.out;clear hDQ hDN hDS hDL hle hdg;by_cases Z9:i.op=14
        · have hb:(i.op == 14)=true:=by simpa using Z9
          by_cases Zu:d=0
          · have hbd:((d:Int) == 0)=true:=by simpa using Zu
            have E4:Hid (eE u f q i s st=.inr st):=aH (by unfold eE;rw [VJ.out Z9 Zu];simp [eO,Z9,b7]);clear VJ Gw WJ XJ Zu Z9;go_wp2_with (go_at_call 64;refine (bP _ _ _ _).mono ?_;rintro e w' ⟨rfl,D0⟩)
            go_end0
            rw [E4.out];exact ⟨rfl,vw,m,l,k,PJ.out.gr (HG3.out.trans D0)⟩
          · have hbd:((d:Int) == 0)=false:=by simpa using Zu
            have E4:Hid (eE u f q i s st=.inl q):=aH (by unfold eE;rw [Gw.out Z9 Zu]);clear VJ Gw WJ XJ Zu Z9;go_wp2_with (go_at_call 64;refine (bk _ _ _ _).mono ?_;rintro e w' ⟨rfl,D0⟩)
            exact ⟨rfl,by rw [E4.out];exact ⟨rfl,QJ.out _ (HG3.out.trans D0)⟩⟩
        · have hb:(i.op == 14)=false:=by simpa using Z9
          go_upto_region 6 with fail
          have KP:Hid (∀w',Gr wc w'->w'.cell? ⟨eb,1,none⟩=some (.slice xp ps.length cp)):=aH (fun w' g=>by obtain ⟨_,_,_,_,_,_,_,a,_⟩:=Rr.out w' g;exact a);refine wp_region_held_drew (S:=(fun w'=>w'.cell? ⟨eb,1,none⟩=some (.slice xp ps.length cp))) Q7 (t1) (fun hH=>?_);refine tL 0 ?_;simp only [Act.put,sA,s0,s1];refine tL 1 ?_;simp only [Act.put,sA,s0,s1];refine tL 2 ?_;simp only [Act.put,sA,s0,s1];refine tL 3 ?_;simp only [Act.put,sA,s0,s1];refine tL 4 ?_;simp only [Act.put,sA,s0,s1];refine aq (i:=5) rfl Q7 (fun K hK=>?_);refine ae cw ?_;go_simp
          refine hK.out _ _ (KP.out _ (Gr.alloc (Gr.drew HG3.out) _)) (fun hH=>?_);clear hK;try simp only [Act.put,sA,s0,s1]
          refine aq (i:=6) rfl Q7 (fun K hK=>?_);refine aQ rfl 57 _ _ rfl #[.slice (some ⟨w3.heap.size,0,none⟩) 2 2] fk (Tryz.callConcat _ _) ((nP w3.heap.size (.slice Qr d Wm) (.slice xp ps.length cp) (s.take d) ps _ (by simp [go_sem]) (by simp [go_sem]) ((sD (RJ.out.gr HG3.out) hdl).gr Q3) ((Fh.out.gr HG3.out).gr Q3) (by rw [List.length_take];omega) (by have:=nr Ih.out;omega)).mono ?_);rintro x w4 ⟨v4,rfl,ho4,T4⟩;have Om:(s.take d++ps).length<=1000:=by have:=nr Ih.out;rw [List.length_append,List.length_take];omega
          generalize EU:s.take d++ps=s' at *;clear EU;obtain ⟨a6,c6,rfl⟩:=aL ho4;have O1:Hid (Gr wc w4):=aH (HG3.out.trans (Gr.trans Q3 T4));have Y8:w.heap.size<=w3.heap.size:=((Zb.out.gr.trans Xc.out.gr).trans HG3.out).size;have Qh:Hid (dS (Sb B vw) w4 (.slice a6 s'.length c6) s'):=aH ((oW ho4).mono fun b hb hl=>⟨rfl,by
           have h1:w3.heap.size+1<=b:=by simpa using hb.1
           have h2:=HL.out.bs;exact ⟨Q5,fun e=>by have:=(World.ownsRow.lt HL.out.row b e).2;omega⟩⟩)
          refine .inl ⟨_,rfl,?_⟩;clear T4 ho4;refine hK.out _ _ (KP.out _ O1.out) (fun hH=>?_);clear hK;try simp only [Act.put,sA,s0,s1]
          refine tL 7 ?_;simp only [Act.put,sA,s0,s1];refine wpAnyH_done Q7 ?_ _;obtain ⟨i0,i1,i2,y0,y1,y2,t0,t1,c9⟩:=Rr.out w4 O1.out;by_cases h20:s'.length<=20
          · have Kz:(s'.length:Int)<=20:=by omega
            have HDo:=aH (WJ.out Z9 h20);have Kl:Hid (eE u f q i s st=b7 s' q (eO f q i) st):=aH (by unfold eE;rw [HDo.out]);have h20d:decide ((s'.length:Int)<=20)=true:=by simpa using Kz
            have h20e:decide (s'.length<=20)=true:=by simpa using h20
            have Lz:=aH h20;clear VJ Gw WJ XJ;have Vq:a_ i=true:=List.all_eq_true.1 HU.out.ok i (List.mem_of_getElem? HI.out);have Mz:=tT Vq;by_cases V8:i.op=11
            · have hb11:(i.op != 11)=false:=by simp [V8]
              have hb12:(i.op == 11)=true:=by simp [V8]
              obtain ⟨ta,Nz⟩:∃ta:Nat,i.a=(ta:Int):=⟨i.a.toNat,Q5⟩;have YJ:ta < f.code.length:=by have:=oF Ih.out (.inl V8);omega
              have Vi:Hid (eE u f q i s st=b7 s' q [some ta] st):=aH (by rw [Kl.out];simp [eO,V8,Nz]);rw [Nz] at Rr i1;clear Kl Mz Vq Nz V8 hb;go_wp2_with ((go_at_call 64;refine (bP _ _ _ _).mono ?_;rintro e w' ⟨rfl,D0⟩);obtain ⟨i0',i1',i2',FR,GR,JR,t0',t1',ZJ⟩:=Rr.out w' (O1.out.trans D0))
              have HC:=aH (lN W0 w' lb mb B _ _ _ _ _ _ sl f.code.length f.result n _ vw st dn m l k ta s' (.slice a6 s'.length c6) (PJ.out.gr (O1.out.trans D0)) YJ (Qh.out.mono fun b hb hl=>⟨D0.block b hl Q6,hb⟩) Lz.out);refine HC.out.mono ?_;rintro x w6 (⟨s0,Ka,hne,rfl,D1⟩|⟨rfl,Hz,m2,l2,k2,M7,L9,Te,Me⟩)
              · exact ⟨rfl,by rw [Vi.out,kb Ka hne];exact ⟨rfl,D1⟩⟩
              · have Nb:=aH M7;have F':=aH Me;clear M7 L9 Te Me HC;go_wp2_with fail
                go_end0
                rw [Vi.out,kX F'.out];exact ⟨rfl,Hz,m2,l2,k2,Nb.out⟩
            · have hb11:(i.op != 11)=true:=by simp [V8]
              have hb12:(i.op == 11)=false:=by simp [V8]
              have LR:IntKind.i64.wrap ((q:Int)+1)=(q:Int)+1:=Q_;have Fa:((q+1:Nat):Int)=(q:Int)+1:=Q5
              have DK:=aH Fa;clear Fa hb;go_upto_region 9 with ((go_at_call 64;refine (bP _ _ _ _).mono ?_;rintro e w' ⟨rfl,D0⟩);obtain ⟨i0',i1',i2',FR,GR,JR,t0',t1',ZJ⟩:=Rr.out w' (O1.out.trans D0))
              have T5:Hid (Gr wc w'):=aH (O1.out.trans D0);have Ei:Hid (dS (Sb B vw) w' (.slice a6 s'.length c6) s'):=aH (Qh.out.mono fun b hb hl=>⟨D0.block b hl Q6,hb⟩);have KC:Hid (∀w',Gr wc w'->w'.cell? ⟨wb,0,none⟩=some (.int .i64 10)/\w'.cell? ⟨wb,1,none⟩=some (.int .i64 (n:Int))/\w'.cell? ⟨wb,2,none⟩=some (.int .i64 (q:Int))/\w'.cell? ⟨lb,9,none⟩=some (.slice (some ⟨cb,Db,none⟩) f.code.length cc)):=aH (fun w' g=>by obtain ⟨_,_,_,a,b,c,_,_,d⟩:=Rr.out w' g;exact ⟨a,b,c,d⟩);clear D0 i0 i1 i2 y0 y1 y2 t0 t1 c9;by_cases Xj:q+1 < f.code.length
              · have Cu:(q:Int)+1 < (f.code.length:Int):=by omega
                have EK:decide ((q:Int)+1 < (f.code.length:Int))=true:=by simpa using Cu
                refine wp_region_held_drew (S:=(fun w'=>w'.cell? ⟨wb,0,none⟩=some (.int .i64 10)/\w'.cell? ⟨wb,1,none⟩=some (.int .i64 (n:Int))/\w'.cell? ⟨wb,2,none⟩=some (.int .i64 (q:Int))/\w'.cell? ⟨lb,9,none⟩=some (.slice (some ⟨cb,Db,none⟩) f.code.length cc))) Q7 (⟨FR,GR,JR,ZJ⟩) (fun hH=>?_);refine tL 0 ?_;simp only [Act.put,sA,s0,s1];refine tL 1 ?_;simp only [Act.put,sA,s0,s1];refine tL 2 ?_;simp only [Act.put,sA,s0,s1];refine tL 3 ?_;simp only [Act.put,sA,s0,s1];refine tL 4 ?_;simp only [Act.put,sA,s0,s1];refine tL 5 ?_;simp only [Act.put,sA,s0,s1];refine tL 6 ?_;simp only [Act.put,sA,s0,s1];refine tL 7 ?_;simp only [Act.put,sA,s0,s1];refine tL 8 ?_;simp only [Act.put,sA,s0,s1];refine aq (i:=9) rfl Q7 (fun K hK=>?_);refine aQ rfl 64 _ _ rfl #[.agg #[.int .i64 10,.int .i64 (n:Int),.int .i64 (q:Int)],.bool true] fk (Tryz.callUnless _ _) ((bP _ _ _ _).mono ?_);rintro x w6 ⟨rfl,P2⟩;have Wa:Hid (Gr wc w6):=aH (T5.out.trans (Gr.trans (Gr.drew (Gr.refl _)) P2));have Ce:Hid (dS (Sb B vw) w6 (.slice a6 s'.length c6) s'):=aH (Ei.out.mono fun b hb hl=>⟨(Gr.trans (Gr.drew (Gr.refl w')) P2).block b hl Q6,hb⟩);refine .inl ⟨_,rfl,?_⟩;clear P2;refine hK.out _ _ (KC.out _ Wa.out) (fun hH=>?_);clear hK;try simp only [Act.put,sA,s0,s1]
                refine wpAnyH_done Q7 ?_ _;obtain ⟨i0,i1,i2,-,-,-,-,-,-⟩:=Rr.out w6 Wa.out;have HC:=aH (lN W0 w6 lb mb B _ _ _ _ _ _ sl f.code.length f.result n _ vw st dn m l k (q+1) s' (.slice a6 s'.length c6) (PJ.out.gr Wa.out) Xj Ce.out Lz.out);rw [DK.out] at HC;clear FR GR JR t0' t1' ZJ i0' i1' i2' EK Cu;go_wp2_with fail
                refine HC.out.mono ?_;have Oz:Hid (eO f q i=some (q+1) :: if i.op=12 then [some i.a.toNat] else []):=aH (by
                 unfold eO;rw [if_neg V8,if_neg Z9];simp only [if_pos Xj];split<;>rfl)
                rintro x w7 (⟨s0,Ka,hne,rfl,D1⟩|⟨rfl,Hz,m2,l2,k2,M7,L9,Te,Me⟩)
                · exact ⟨rfl,by rw [Kl.out,Oz.out,kb Ka hne];exact ⟨rfl,D1⟩⟩
                · have Vi:Hid (eE u f q i s st=b7 s' q (if i.op=12 then [some i.a.toNat] else []) (fun j=>if j=q+1 then some s' else st j)):=aH (by rw [Kl.out,Oz.out,kX Me]);have FK:ib < w6.heap.size:=World.block_lt_of_cell? w6 _ i0;have hibw:=Zb.out.il;have Hh:=HL.out.bs;have Sh:=HL.out.lbB;have Rf:=HL.out.mbB;have hkeep:w7.heap[ib]? =w6.heap[ib]? :=L9.rest ib FK Q5 Q5 (fun e=>by have:=(World.ownsRow.lt HL.out.row ib e).2;omega);have j0:=(World.cell?_of_block (a:=⟨ib,0,none⟩) hkeep).trans i0;have j1:=(World.cell?_of_block (a:=⟨ib,1,none⟩) hkeep).trans i1;have Nb:=aH M7;have HR7:Hid (dS (Sb B Hz) w7 (.slice a6 s'.length c6) s'):=aH (Ce.out.mono fun b hb hl=>⟨L9.rest b hl (by have:=hb.1;omega) (by have:=hb.1;omega) hb.2,hb.of hl Te⟩);clear M7 L9 Te Me HC Oz Kl hkeep i0 i1 i2 FK hibw Hh Sh Rf;by_cases O_:i.op=12
                  · have hbe:(i.op == 12)=true:=by simp [O_]
                    obtain ⟨ta,Nz⟩:∃ta:Nat,i.a=(ta:Int):=⟨i.a.toNat,Q5⟩;have YJ:ta < f.code.length:=by have:=oF Ih.out (.inr O_);omega
                    have Du:Hid (eE u f q i s st=b7 s' q [some ta] (fun j=>if j=q+1 then some s' else st j)):=aH (by rw [Vi.out,if_pos O_,Nz];rfl);rw [Nz] at j1;have O3:=aH (lN W0 w7 lb mb B _ _ _ _ _ _ sl f.code.length f.result n _ Hz _ dn m2 l2 k2 ta s' (.slice a6 s'.length c6) Nb.out YJ HR7.out Lz.out);clear Vi Mz Vq Nz O_ V8 LR;go_wp2_with fail
                    refine O3.out.mono ?_;rintro x w8 (⟨s0,Ka,hne,rfl,D1⟩|⟨rfl,vw3,m3,l3,k3,Dz,hfr3,Pz,Z8⟩)
                    · exact ⟨rfl,by rw [Du.out,kb Ka hne];exact ⟨rfl,D1⟩⟩
                    · have Yq:=aH Dz;have Hd:=aH Z8;clear Dz hfr3 Pz Z8 O3;go_wp2_with fail
                      go_end0
                      rw [Du.out,kX Hd.out];exact ⟨rfl,vw3,m3,l3,k3,Yq.out⟩
                  · have hbe:(i.op == 12)=false:=by simp [O_]
                    have Du:Hid (eE u f q i s st=.inr (fun j=>if j=q+1 then some s' else st j)):=aH (by rw [Vi.out,if_neg O_];rfl);clear Vi Mz Vq O_ V8 LR;go_wp2_with fail
                    go_end0
                    rw [Du.out];exact ⟨rfl,Hz,m2,l2,k2,Nb.out⟩
              · have Cu:¬(q:Int)+1 < (f.code.length:Int):=by omega
                have EK:decide ((q:Int)+1 < (f.code.length:Int))=false:=by simpa using Cu
                have E4:Hid (eE u f q i s st=.inl q):=aH (by
                 rw [Kl.out];unfold eO;rw [if_neg V8,if_neg Z9];simp only [if_neg Xj];split<;>rfl)
                refine wp_region_held_drew (S:=(fun w'=>w'.cell? ⟨wb,0,none⟩=some (.int .i64 10)/\w'.cell? ⟨wb,1,none⟩=some (.int .i64 (n:Int))/\w'.cell? ⟨wb,2,none⟩=some (.int .i64 (q:Int))/\w'.cell? ⟨lb,9,none⟩=some (.slice (some ⟨cb,Db,none⟩) f.code.length cc))) Q7 (⟨FR,GR,JR,ZJ⟩) (fun hH=>?_);refine tL 0 ?_;simp only [Act.put,sA,s0,s1];refine tL 1 ?_;simp only [Act.put,sA,s0,s1];refine tL 2 ?_;simp only [Act.put,sA,s0,s1];refine tL 3 ?_;simp only [Act.put,sA,s0,s1];refine tL 4 ?_;simp only [Act.put,sA,s0,s1];refine tL 5 ?_;simp only [Act.put,sA,s0,s1];refine tL 6 ?_;simp only [Act.put,sA,s0,s1];refine tL 7 ?_;simp only [Act.put,sA,s0,s1];refine tL 8 ?_;simp only [Act.put,sA,s0,s1];refine aq (i:=9) rfl Q7 (fun K hK=>?_);refine aQ rfl 64 _ _ rfl #[.agg #[.int .i64 10,.int .i64 (n:Int),.int .i64 (q:Int)],.bool false] fk (Tryz.callUnless _ _) ((bk _ _ _ _).mono ?_);rintro x w6 ⟨rfl,P2⟩;exact .inr ⟨_,rfl,rfl,by rw [E4.out];exact ⟨rfl,QJ.out _ (T5.out.trans (Gr.trans (Gr.drew (Gr.refl _)) P2))⟩⟩
          · have Kz:¬(s'.length:Int)<=20:=by omega
            have h20d:decide ((s'.length:Int)<=20)=false:=by simpa using Kz
            have h20e:decide (s'.length<=20)=false:=by simpa using h20
            have E4:Hid (eE u f q i s st=.inl q):=aH (by unfold eE;rw [XJ.out Z9 h20]);clear VJ Gw WJ XJ;go_wp2_with (go_at_call 64;refine (bk _ _ _ _).mono ?_;rintro e w' ⟨rfl,D0⟩)
            exact ⟨rfl,by rw [E4.out];exact ⟨rfl,QJ.out _ (O1.out.trans D0)⟩⟩
      · have TJ:decide (s.drop d=ts)=false:=by simpa using he
        have E4:Hid (eE u f q i s st=.inl q):=aH (by unfold eE gJ;rw [Ih.out];simp only [];rw [<-HD.out,if_pos (Or.inr he)]);rw [TJ];clear TJ he;refine hK.out _ _ (KT.out _ O0.out) (fun hH=>?_);clear hK;try simp only [Act.put,sA,s0,s1]
        refine tL 10 ?_;simp only [Act.put,sA,s0,s1];refine aq (i:=11) rfl Q7 (fun K hK=>?_);refine aQ rfl 64 _ _ rfl #[.agg #[.int .i64 10,.int .i64 (n:Int),.int .i64 (q:Int)],.bool false] fk (Tryz.callUnless _ _) ((bk _ _ _ _).mono ?_);rintro x w' ⟨rfl,D0⟩;exact .inr ⟨_,rfl,rfl,by rw [E4.out];exact ⟨rfl,QJ.out _ (O0.out.trans D0)⟩⟩
    · have E4:Hid (eE u f q i s st=.inl q):=aH (by unfold eE gJ;rw [Ih.out];simp only [];rw [if_pos (Or.inl Q5)]);obtain ⟨D,hD⟩:∃D:Int,D=(s.length:Int) - (ts.length:Int):=⟨_,rfl⟩;have hg1:¬(0:Int)<=D:=by omega
      have E0:decide ((0:Int)<=D)=false:=by simpa using hg1
      have V5:=D2.trans hD.symm;clear hD hle D2;go_upto_region 3 with fail
      refine wp_region_held_drew (S:=(fun w'=>w'.cell? ⟨wb,0,none⟩=some (.int .i64 10)/\w'.cell? ⟨wb,1,none⟩=some (.int .i64 (n:Int))/\w'.cell? ⟨wb,2,none⟩=some (.int .i64 (q:Int)))) Q7 (⟨y0,y1,y2⟩) (fun hH=>?_);refine tL 0 ?_;simp only [Act.put,sA,s0,s1];refine tL 1 ?_;simp only [Act.put,sA,s0,s1];refine tL 2 ?_;simp only [Act.put,sA,s0,s1];refine tL 3 ?_;simp only [Act.put,sA,s0,s1];refine eJ (i:=4) rfl Q7 Q7 Q7 (fun _ _ _ h=>h) cw hH ?_;simp only [Act.put,sA,s0,s1];refine eJ (i:=5) rfl Q7 Q7 Q7 (fun _ _ _ h=>h) cw hH ?_;simp only [Act.put,sA,s0,s1];refine eJ (i:=6) rfl Q7 Q7 Q7 (fun _ _ _ h=>h) cw hH ?_;simp only [Act.put,sA,s0,s1];refine eJ (i:=7) rfl Q7 Q7 Q7 (fun _ _ _ h=>h) cw hH ?_;simp only [Act.put,sA,s0,s1];refine eJ (i:=8) rfl Q7 Q7 Q7 (fun _ _ _ h=>h) cw hH ?_;simp only [Act.put,sA,s0,s1];refine eJ (i:=9) rfl Q7 Q7 Q7 (fun _ _ _ h=>h) cw hH ?_;simp only [Act.put,sA,s0,s1];refine tL 10 ?_;simp only [Act.put,sA,s0,s1];refine aq (i:=11) rfl Q7 (fun K hK=>?_);refine aQ rfl 64 _ _ rfl #[.agg #[.int .i64 10,.int .i64 (n:Int),.int .i64 (q:Int)],.bool false] fk (Tryz.callUnless _ _) ((bk _ _ _ _).mono ?_);rintro x w' ⟨rfl,D0⟩;exact .inr ⟨_,rfl,rfl,by rw [E4.out];exact ⟨rfl,QJ.out _ (Gr.trans (by repeat (first|with_reducible exact Gr.refl _|with_reducible assumption|with_reducible refine Gr.drew ?_|with_reducible refine Gr.alloc ?_ _|with_reducible refine eI ?_ (by first|(simp;done)|omega)|with_reducible refine Gr.trans ?_ (by with_reducible assumption))) D0)⟩⟩
end Go.Proofs.YtkgncijcnlfhiabGreat
