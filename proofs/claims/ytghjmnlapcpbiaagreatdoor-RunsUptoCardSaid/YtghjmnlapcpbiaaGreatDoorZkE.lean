import Derived.Test.YtghjmnlapcpbiaaGreatDoorJ2
namespace Go.Proofs.YtghjmnlapcpbiaaGreatDoor
open _root_ renaming Option.some->Y,Option.none->G,Go.Value.int->O,Go.IntKind.i64->Z,Go.Value.slice->J,List->I,Nat->R,Int->A,Go.World.cell?->H,List.length->D,Go.Obj.cells->X,Go.Value->M,Go.World->T,Go.Addr.mk->Q,Go.RowKit.Hid->U,UInt8->AI,Bool.false->AS,Bool.true->AT,Option->By
open Go.Proofs.Tryz
set_option maxRecDepth 100000
set_option maxHeartbeats 8000000
set_option linter.unusedVariables false
set_option linter.unusedSimpArgs false
open Go.RowKit
variable{a:Act}{K:Act->T->Prop}{p2 p5 p6 p7 p8:Addr}{ops:Array Oper}{QQq:Exit->Act->T->Prop}{N g q sb tb:R}{dn:R->Bool}{tv:R->A}{vs:R->M}{o:Oper}{E:Prop}{t:TypeId}{x0 x1 x10 x11 x12 x13 x2 x3 x4 x5 x6 x7 x8 x9:M}{V0 w w1 w2 wr:T}{i:bP}
attribute [local go_sem ↓] Go.wp_at_zero Go.wp_at_succ
theorem qS(w:T)(x0 x1 x2 x3 x4 x5 x6 x7:M)(op ia ib n a:A):(((w.alloc (X #[x0,x1,x2,x3,x4,x5,x6,x7] 169)).alloc (X #[O Z op,O Z ia,O Z ib] 87)).alloc (X #[O Z 10,O Z n,O Z a] 91)).alloc (X #[J G 0 0,J G 0 0] 265)=qD w x0 x1 x2 x3 x4 x5 x6 x7 op ia ib n a:=rfl
theorem AR(w:T)(y:A)(t:TypeId):(w.alloc (X #[O Z y] t)).drew.cell? (Q w.heap.size 0 G)=Y (O Z y):=by simp[go_sem]
theorem Db{p:Addr}{x:M}(h:H w p=Y x):H w.drew p=Y x:=h
theorem ut{p0 p1 p3 p4 p9 F ad d ae:Addr}(g:Gr w1 w2)(h:H w1 p0=Y x0/\H w1 p1=Y x1/\H w1 p2=Y x2/\H w1 p3=Y x3/\H w1 p4=Y x4/\H w1 p5=Y x5/\H w1 p6=Y x6/\H w1 p7=Y x7/\H w1 p8=Y x8/\H w1 p9=Y x9/\H w1 F=Y x10/\H w1 ad=Y x11/\H w1 d=Y x12/\H w1 ae=Y x13):H w2 p0=Y x0/\H w2 p1=Y x1/\H w2 p2=Y x2/\H w2 p3=Y x3/\H w2 p4=Y x4/\H w2 p5=Y x5/\H w2 p6=Y x6/\H w2 p7=Y x7/\H w2 p8=Y x8/\H w2 p9=Y x9/\H w2 F=Y x10/\H w2 ad=Y x11/\H w2 d=Y x12/\H w2 ae=Y x13:=by
 obtain⟨h0,h1,h2,h3,h4,h5,h6,h7,h8,h9,ai,TC,af,ak⟩:=h;exact⟨g.cell h0 Q6,g.cell h1 Q6,g.cell h2 Q6,g.cell h3 Q6,g.cell h4 Q6,g.cell h5 Q6,g.cell h6 Q6,g.cell h7 Q6,g.cell h8 Q6,g.cell h9 Q6,g.cell ai Q6,g.cell TC Q6,g.cell af Q6,g.cell ak Q6⟩
theorem Et{s:R}{y0 y1:M}(h:H w1 (Q s 0 G)=Y x0/\H w1 (Q s 1 G)=Y x1/\H w1 (Q s 2 G)=Y x2/\H w1 (Q s 3 G)=Y x3/\H w1 (Q s 4 G)=Y x4/\H w1 (Q s 5 G)=Y x5/\H w1 (Q s 6 G)=Y x6/\H w1 (Q s 7 G)=Y x7/\H w1 ⟨s+1,0,G⟩=Y x8/\H w1 ⟨s+1,1,G⟩=Y x9/\H w1 ⟨s+1,2,G⟩=Y x10/\H w1 ⟨s+1+1,0,G⟩=Y x11/\H w1 ⟨s+1+1,1,G⟩=Y x12/\H w1 ⟨s+1+1,2,G⟩=Y x13):H ((w1.setCell ⟨s+1+1+1,0,G⟩ y0).setCell ⟨s+1+1+1,1,G⟩ y1) ⟨s,0,G⟩=Y x0/\H ((w1.setCell ⟨s+1+1+1,0,G⟩ y0).setCell ⟨s+1+1+1,1,G⟩ y1) ⟨s,1,G⟩=Y x1/\H ((w1.setCell ⟨s+1+1+1,0,G⟩ y0).setCell ⟨s+1+1+1,1,G⟩ y1) ⟨s,2,G⟩=Y x2/\H ((w1.setCell ⟨s+1+1+1,0,G⟩ y0).setCell ⟨s+1+1+1,1,G⟩ y1) ⟨s,3,G⟩=Y x3/\H ((w1.setCell ⟨s+1+1+1,0,G⟩ y0).setCell ⟨s+1+1+1,1,G⟩ y1) ⟨s,4,G⟩=Y x4/\H ((w1.setCell ⟨s+1+1+1,0,G⟩ y0).setCell ⟨s+1+1+1,1,G⟩ y1) ⟨s,5,G⟩=Y x5/\H ((w1.setCell ⟨s+1+1+1,0,G⟩ y0).setCell ⟨s+1+1+1,1,G⟩ y1) ⟨s,6,G⟩=Y x6/\H ((w1.setCell ⟨s+1+1+1,0,G⟩ y0).setCell ⟨s+1+1+1,1,G⟩ y1) ⟨s,7,G⟩=Y x7/\H ((w1.setCell ⟨s+1+1+1,0,G⟩ y0).setCell ⟨s+1+1+1,1,G⟩ y1) ⟨s+1,0,G⟩=Y x8/\H ((w1.setCell ⟨s+1+1+1,0,G⟩ y0).setCell ⟨s+1+1+1,1,G⟩ y1) ⟨s+1,1,G⟩=Y x9/\H ((w1.setCell ⟨s+1+1+1,0,G⟩ y0).setCell ⟨s+1+1+1,1,G⟩ y1) ⟨s+1,2,G⟩=Y x10/\H ((w1.setCell ⟨s+1+1+1,0,G⟩ y0).setCell ⟨s+1+1+1,1,G⟩ y1) ⟨s+1+1,0,G⟩=Y x11/\H ((w1.setCell ⟨s+1+1+1,0,G⟩ y0).setCell ⟨s+1+1+1,1,G⟩ y1) ⟨s+1+1,1,G⟩=Y x12/\H ((w1.setCell ⟨s+1+1+1,0,G⟩ y0).setCell ⟨s+1+1+1,1,G⟩ y1) ⟨s+1+1,2,G⟩=Y x13:=by
 obtain⟨h0,h1,h2,h3,h4,h5,h6,h7,h8,h9,F,TC,d,ad⟩:=h;exact⟨(dQ Q5).trans h0,(dQ Q5).trans h1,(dQ Q5).trans h2,(dQ Q5).trans h3,(dQ Q5).trans h4,(dQ Q5).trans h5,(dQ Q5).trans h6,(dQ Q5).trans h7,(dQ Q5).trans h8,(dQ Q5).trans h9,(dQ Q5).trans F,(dQ Q5).trans TC,(dQ Q5).trans d,(dQ Q5).trans ad⟩
theorem Od{p:Prop}(h:p:=by
 have hw:Region.wanted o (yielded ops a.tmps)=AT:=by simp[Region.wanted,TA]
 rw[mI hw];unfold Oper.wp;have he:(execOp a.eval o).run prog w=.ok (.enter f vals) w:=by
  subst hv;simp[execOp,ho,resolve,invoke,Act.eval,go_sem]
  exact Vb
 rw[he,M3];refine h.mono ?_;rintro x w' ⟨v,rfl,hk⟩;exact hk):p:=h
theorem nL(TA:o.guard=G)(f:FuncId)(args:Array Operand)(d:Array TypeId)
 (ho:o.op=.call { callee:=.value (.func f),args:=args,argTypes:=d }) (vals:Array M) (hv:args.map a.eval=vals) (Vb:(callFunc f vals).run prog w=.ok (.enter f vals) w) (h:Calls prog f vals w λx w'=>∃v,x=.returned v/\K (a.put o.dst v) w'):
 if Region.wanted o (yielded ops a.tmps)=AT then Oper.wp prog o a w K QQq else E:=by
 exact Od
theorem n_(TA:o.guard=G)(f:FuncId)(args:Array Operand)(d:Array TypeId)
 (ho:o.op=.call { callee:=.value (.func f),args:=args,argTypes:=d }) (vals:Array M) (hv:args.map a.eval=vals) (Vb:(callFunc f vals).run prog w=.ok (.enter f vals) w) (h:Calls prog f vals w λx w'=>∃c,x=.panicked c/\QQq (.panic c) a w'):
 if Region.wanted o (yielded ops a.tmps)=AT then Oper.wp prog o a w K QQq else E:=by
 exact Od
theorem Tryz.callKinds(vals:Array M)(w:T):(callFunc 163 vals).run Tryz.prog w=.ok (.enter 163 vals) w:=Q7
theorem Tryz.callFields(vals:Array M)(w:T):(callFunc 167 vals).run Tryz.prog w=.ok (.enter 167 vals) w:=Q7
theorem Tryz.callField(vals:Array M)(w:T):(callFunc 168 vals).run Tryz.prog w=.ok (.enter 168 vals) w:=Q7
theorem rW{o:By (I A×I A)}{n a:A}{wf:T}{d P:M}{ts ps:I A}(hq:o=Y (ts,ps))(F:Gr w (put2 wf g d P))(ht:aY (put2 wf g d P) d ts)(hp:aY (put2 wf g d P) P ps):kR o n a w (.returned (.agg #[d,P])) (put2 wf g d P):=by
 subst hq;exact⟨F,d,P,rfl,ht,hp⟩
theorem Qm{p:Prop}(h:p:=by first|exact aw _|exact Xi.j.gr (Ud.j.trans (dN hE.gr Q5))|exact du (w:=w) Q1 Q5|exact ic (w:=w) Q1 Q1 Q5):p:=h
theorem Rs{p:Prop}(h:p:=by simp[Act.eval,Act.put]):p:=h
theorem R9{p:Prop}(h:p:=by simp[results,results157,go_sem,Vx,Uz]):p:=h
theorem IA(u:aK)(f:aQ)(F jb:R)(Tl:F<=65535)(S9:jb<=65535)(st:I A):uo u f 15 (F:A) (jb:A) st:=by
 refine pu ?_;intro sl Us a1 a2 a3 a4 al at_ c1 c2 c3 c4 cs ct v5 n a W w af ai HS Tv Ud d;have Uo:U (bq u f ⟨15,F,jb⟩ st=(fT u F).map λs=>(s,[(F:A)])):=aJ R8;cases hx:fT u (F:A) with
 | some s=>
  have HX:=aJ hx;have HQ:U (bq u f _ _=Y (s,[(F:A)])):=aJ QO;clear hx;have HF:U (∀U',Gr w U'->Calls _ _ #[.agg #[J _ _ _,J a2 (D u.aE) c2,J a3 (D u.aG) c3,J a4 (D u.aC) c4,v5,J al (D sl) cs,O Z (D f.code),O Z f.result],.int _ _,.agg #[.int _ _,.int _ n,.int _ a]] U' λx w'=>Gr U' w'/\∃v,x=.returned v/\aY W v s):=aJ λU' hU=>bI HX Q5 Q5 _ _ _ _ _ _ _ _ _ _ W _ HS.sh (Ud.trans hU);go_enter func157,ntmps157
  go_wp2_with fail;rw[qS];generalize qD w _ _ _ _ _ _ _ _ _ _ _ n a=V at d |-;have ae:=d.sz;obtain⟨-,-,s0,s1,s2,s3,s4,s5,s6,s7,i0,i1,i2,y0,y1,y2,-,-,-,-⟩:=d.j;go_region_held3 (λw'=>H w' (Q w.heap.size 0 G)=Y (J a1 (D u.aA) c1)/\H w' (Q w.heap.size 1 G)=Y (J a2 (D u.aE) c2)/\H w' (Q w.heap.size 2 G)=Y (J a3 (D u.aG) c3)/\H w' (Q w.heap.size 3 G)=Y (J a4 (D u.aC) c4)/\H w' (Q w.heap.size 4 G)=Y (v5)/\H w' (Q w.heap.size 5 G)=Y (J al (D sl) cs)/\H w' (Q w.heap.size 6 G)=Y (O Z (D f.code:A))/\H w' (Q w.heap.size 7 G)=Y (O Z f.result)/\H w' ⟨w.heap.size+1,0,G⟩=Y (O Z 15)/\H w' ⟨w.heap.size+1,1,G⟩=Y (O Z (F:A))/\H w' ⟨w.heap.size+1,2,G⟩=Y (O Z (jb:A))/\H w' ⟨w.heap.size+1+1,0,G⟩=Y (O Z 10)/\H w' ⟨w.heap.size+1+1,1,G⟩=Y (O Z n)/\H w' ⟨w.heap.size+1+1,2,G⟩=Y (O Z a)) (first|(go_keep;done)|exact ut BY Q8|exact ut IT Q8|exact Et ⟨hE.s0,hE.s1,hE.s2,hE.s3,hE.s4,hE.s5,hE.s6,hE.s7,hE.i0,hE.i1,hE.i2,hE.y0,hE.y1,hE.y2⟩) (first|(go_at_call 167;refine(HF.j _ (d.j.gr.trans Q2)).mono ?_;rintro e w' ⟨BY,v,rfl,ad⟩;obtain⟨av,cv,rfl⟩:=ad.shape;have Xi:=aJ ad;clear ad;have hE:=d.j.go (show Gr V w' from Q2);have S7:=hE.sz;have r0:=hE.r0;have r1:=hE.r1;have z0:=hE.z0;have z1:=hE.z1)|(go_at_call 163;refine(cR _ _).mono ?_;rintro e w2 ⟨rfl,IT⟩;have hE:=d.j.go (show Gr V w2 from Q2);have S7:=hE.sz;have r0:=hE.r0;have r1:=hE.r1;have z0:=hE.z0;have z1:=hE.z1))
  all_goals go_wp2_with fail
  all_goals rw[eY]
  all_goals have Vx:=λy0 y1=>(dt (y0:=y0) (y1:=y1) hE.r0 hE.r1).1
  all_goals have Uz:=λy0 y1=>(dt (y0:=y0) (y1:=y1) hE.r0 hE.r1).2
  all_goals exact qn R9 rfl (rW HQ.j (dN hE.gr Q5) Qm Qm)
 | none=>
  have HX:=aJ hx;have HQ:U (bq u f _ _=G):=aJ QO;clear hx;have HF:U (∀U',Gr w U'->Calls _ _ #[.agg #[J _ _ _,J a2 (D u.aE) c2,J a3 (D u.aG) c3,J a4 (D u.aC) c4,v5,J al (D sl) cs,O Z (D f.code),O Z f.result],.int _ _,.agg #[.int _ _,.int _ n,.int _ a]] U' λx w'=>Gr U' w'/\x=.panicked (oG 10 n a)):=aJ λU' hU=>qQ HX Q5 Q5 _ _ _ _ _ _ _ _ _ _ W _ HS.sh (Ud.trans hU);go_enter func157,ntmps157
  go_wp2_with fail;rw[qS];generalize qD w _ _ _ _ _ _ _ _ _ _ _ n a=V at d |-;have ae:=d.sz;obtain⟨-,-,s0,s1,s2,s3,s4,s5,s6,s7,i0,i1,i2,y0,y1,y2,-,-,-,-⟩:=d.j;obtain⟨-,-,t0,t1,t2,t3,t4,t5,t6,t7,j0,j1,j2,q0,q1,q2,-,-,-,-⟩:=d.go (Gr.alloc (Gr.refl V) (X #[O Z F] 3));go_region_law (first|(refine n_ rfl 167 _ _ rfl #[.agg #[J a1 (D u.aA) c1,J a2 (D u.aE) c2,J a3 (D u.aG) c3,J a4 (D u.aC) c4,v5,J al (D sl) cs,O Z (D f.code:A),O Z f.result],O Z (F:A),.agg #[O Z 10,O Z n,O Z a]] Rs (Tryz.callFields _ _) ((HF.j _ (d.j.gr.trans Q2)).mono ?_);rintro x w' ⟨BY,rfl⟩;refine⟨_,rfl,?_⟩;refine an ?_)|(refine nL rfl 163 _ _ rfl #[J (Y (Q V.heap.size 0 G)) 1 1] Rs (Tryz.callKinds _ _) ((cR _ _).mono ?_);rintro x w2 ⟨rfl,IT⟩;refine⟨_,rfl,?_⟩;have hE:=d.j.go (show Gr V w2 from Q2);have T8:=hE;obtain⟨-,-,s0,s1,s2,s3,s4,s5,s6,s7,i0,i1,i2,y0,y1,y2,-,-,-,-⟩:=T8))
  all_goals exact⟨rfl,d.j.gr.trans Q2,by rw[HQ.j]⟩
theorem Sg{p:Prop}(h:p:=by obtain rfl:=Us.j;unfold bq bU;unfold lE fT;simp only[Option.map_bind];rfl):p:=h
theorem Ia(u:aK)(f:aQ)(F jb:R)(Tl:F<=65535)(S9:jb<=65535)(st:I A):uo u f 16 (F:A) (jb:A) st:=by
 refine pu ?_;intro sl Us a1 a2 a3 a4 al at_ c1 c2 c3 c4 cs ct v5 n a W w ae af HS Tv Ud d;have Uo:U (bq u f ⟨16,_,jb⟩ st=(lE u ⟨16,F,_⟩).map λy=>([(F:A)],[y])):=aJ Sg;cases hx:lE u ⟨16,(F:A),(jb:A)⟩with
 | some y=>
  have HX:=aJ hx;have HQ:U (bq u f _ _=Y ([(F:A)],[y])):=aJ QO;clear hx;have HF:U (∀U',Gr w U'->Calls _ _ #[.agg #[J _ _ _,J a2 (D u.aE) c2,J a3 (D u.aG) c3,J a4 (D u.aC) c4,v5,J al (D sl) cs,O Z (D f.code),O Z f.result],.agg #[.int _ 16,.int _ F,.int _ jb],.agg #[.int _ _,.int _ n,.int _ a]] U' λx w'=>x=.returned (O Z y)/\Gr U' w'):=aJ λU' hU=>ui HX Q6 jB Q6 jB _ _ _ _ _ _ _ _ _ _ W _ HS.sh (Ud.trans hU);go_enter func157,ntmps157
  go_wp2_with fail;rw[qS];generalize qD w _ _ _ _ _ _ _ _ _ _ _ n a=V at d |-;have ad:=d.sz;obtain⟨-,-,s0,s1,s2,s3,s4,s5,s6,s7,i0,i1,i2,y0,y1,y2,-,-,-,-⟩:=d.j;go_region_held3 (λw'=>H w' (Q w.heap.size 0 G)=Y (J a1 (D u.aA) c1)/\H w' (Q w.heap.size 1 G)=Y (J a2 (D u.aE) c2)/\H w' (Q w.heap.size 2 G)=Y (J a3 (D u.aG) c3)/\H w' (Q w.heap.size 3 G)=Y (J a4 (D u.aC) c4)/\H w' (Q w.heap.size 4 G)=Y (v5)/\H w' (Q w.heap.size 5 G)=Y (J al (D sl) cs)/\H w' (Q w.heap.size 6 G)=Y (O Z (D f.code:A))/\H w' (Q w.heap.size 7 G)=Y (O Z f.result)/\H w' ⟨w.heap.size+1,0,G⟩=Y (O Z 16)/\H w' ⟨w.heap.size+1,1,G⟩=Y (O Z (F:A))/\H w' ⟨w.heap.size+1,2,G⟩=Y (O Z (jb:A))/\H w' ⟨w.heap.size+1+1,0,G⟩=Y (O Z 10)/\H w' ⟨w.heap.size+1+1,1,G⟩=Y (O Z n)/\H w' ⟨w.heap.size+1+1,2,G⟩=Y (O Z a)) (first|(go_keep;done)|exact ut BY Q8|exact ut IT Q8|exact Et ⟨hE.s0,hE.s1,hE.s2,hE.s3,hE.s4,hE.s5,hE.s6,hE.s7,hE.i0,hE.i1,hE.i2,hE.y0,hE.y1,hE.y2⟩) (first|(go_at_call 168;refine(HF.j _ (d.j.gr.trans Q2)).mono ?_;rintro e w' ⟨rfl,BY⟩;have hE:=d.j.go (show Gr V w' from Q2);have S7:=hE.sz;have r0:=hE.r0;have r1:=hE.r1;have z0:=hE.z0;have z1:=hE.z1)|(go_at_call 163;refine(cR _ _).mono ?_;rintro e w2 ⟨rfl,IT⟩;have hE:=d.j.go (show Gr V w2 from Q2);have S7:=hE.sz;have r0:=hE.r0;have r1:=hE.r1;have z0:=hE.z0;have z1:=hE.z1))
  all_goals go_wp2_with fail
  all_goals rw[eY]
  all_goals have Vx:=λy0 y1=>(dt (y0:=y0) (y1:=y1) hE.r0 hE.r1).1
  all_goals have Uz:=λy0 y1=>(dt (y0:=y0) (y1:=y1) hE.r0 hE.r1).2
  all_goals exact qn R9 rfl (rW HQ.j (dN hE.gr Q5) Qm Qm)
 | none=>
  have HX:=aJ hx;have HQ:U (bq u f _ _=G):=aJ QO;clear hx;have HF:U (∀U',Gr w U'->Calls _ _ #[.agg #[J _ _ _,J a2 (D u.aE) c2,J a3 (D u.aG) c3,J a4 (D u.aC) c4,v5,J al (D sl) cs,O Z (D f.code),O Z f.result],.agg #[.int _ 16,.int _ F,.int _ jb],.agg #[.int _ _,.int _ n,.int _ a]] U' λx w'=>x=.panicked (oG 10 n a)/\Gr U' w'):=aJ λU' hU=>xi HX Q6 jB Q6 jB _ _ _ _ _ _ _ _ _ _ W _ HS.sh (Ud.trans hU);go_enter func157,ntmps157
  go_wp2_with fail;rw[qS];generalize qD w _ _ _ _ _ _ _ _ _ _ _ n a=V at d |-;have ad:=d.sz;obtain⟨-,-,s0,s1,s2,s3,s4,s5,s6,s7,i0,i1,i2,y0,y1,y2,-,-,-,-⟩:=d.j;obtain⟨-,-,t0,t1,t2,t3,t4,t5,t6,t7,j0,j1,j2,q0,q1,q2,-,-,-,-⟩:=d.go (Gr.alloc (Gr.refl V) (X #[O Z F] 3));go_region_law (first|(refine n_ rfl 168 _ _ rfl #[.agg #[J a1 (D u.aA) c1,J a2 (D u.aE) c2,J a3 (D u.aG) c3,J a4 (D u.aC) c4,v5,J al (D sl) cs,O Z (D f.code:A),O Z f.result],.agg #[O Z 16,O Z (F:A),O Z (jb:A)],.agg #[O Z 10,O Z n,O Z a]] Rs (Tryz.callField _ _) ((HF.j _ (d.j.gr.trans Q2)).mono ?_);rintro x w' ⟨rfl,BY⟩;refine⟨_,rfl,?_⟩;refine an ?_)|(refine nL rfl 163 _ _ rfl #[J (Y (Q V.heap.size 0 G)) 1 1] Rs (Tryz.callKinds _ _) ((cR _ _).mono ?_);rintro x w2 ⟨rfl,IT⟩;refine⟨_,rfl,?_⟩;have hE:=d.j.go (show Gr V w2 from Q2);have T8:=hE;obtain⟨-,-,s0,s1,s2,s3,s4,s5,s6,s7,i0,i1,i2,y0,y1,y2,-,-,-,-⟩:=T8))
  all_goals exact⟨rfl,d.j.gr.trans Q2,by rw[HQ.j]⟩
theorem Hu(u:aK)(f:aQ)(F jb:R)(Tl:F<=65535)(S9:jb<=65535)(st:I A):uo u f 17 (F:A) (jb:A) st:=by
 refine pu ?_;intro sl Us a1 a2 a3 a4 al at_ c1 c2 c3 c4 cs ct v5 n a W w ae af HS Tv Ud d;have Uo:U (bq u f ⟨17,_,jb⟩ st=(lE u ⟨17,F,_⟩).map λy=>([(F:A),y],[])):=aJ Sg;cases hx:lE u ⟨17,(F:A),(jb:A)⟩with
 | some y=>
  have HX:=aJ hx;have HQ:U (bq u f _ _=Y ([(F:A),y],[])):=aJ QO;clear hx;have HF:U (∀U',Gr w U'->Calls _ _ #[.agg #[J _ _ _,J a2 (D u.aE) c2,J a3 (D u.aG) c3,J a4 (D u.aC) c4,v5,J al (D sl) cs,O Z (D f.code),O Z f.result],.agg #[.int _ 17,.int _ F,.int _ jb],.agg #[.int _ _,.int _ n,.int _ a]] U' λx w'=>x=.returned (O Z y)/\Gr U' w'):=aJ λU' hU=>ui HX Q6 jB Q6 jB _ _ _ _ _ _ _ _ _ _ W _ HS.sh (Ud.trans hU);go_enter func157,ntmps157
  go_wp2_with fail;rw[qS];generalize qD w _ _ _ _ _ _ _ _ _ _ _ n a=V at d |-;have ad:=d.sz;obtain⟨-,-,s0,s1,s2,s3,s4,s5,s6,s7,i0,i1,i2,y0,y1,y2,-,-,-,-⟩:=d.j;go_region_held3 (λw'=>H w' (Q w.heap.size 0 G)=Y (J a1 (D u.aA) c1)/\H w' (Q w.heap.size 1 G)=Y (J a2 (D u.aE) c2)/\H w' (Q w.heap.size 2 G)=Y (J a3 (D u.aG) c3)/\H w' (Q w.heap.size 3 G)=Y (J a4 (D u.aC) c4)/\H w' (Q w.heap.size 4 G)=Y (v5)/\H w' (Q w.heap.size 5 G)=Y (J al (D sl) cs)/\H w' (Q w.heap.size 6 G)=Y (O Z (D f.code:A))/\H w' (Q w.heap.size 7 G)=Y (O Z f.result)/\H w' ⟨w.heap.size+1,0,G⟩=Y (O Z 17)/\H w' ⟨w.heap.size+1,1,G⟩=Y (O Z (F:A))/\H w' ⟨w.heap.size+1,2,G⟩=Y (O Z (jb:A))/\H w' ⟨w.heap.size+1+1,0,G⟩=Y (O Z 10)/\H w' ⟨w.heap.size+1+1,1,G⟩=Y (O Z n)/\H w' ⟨w.heap.size+1+1,2,G⟩=Y (O Z a)) (first|(go_keep;done)|exact ut BY Q8|exact ut IT Q8|exact Et ⟨hE.s0,hE.s1,hE.s2,hE.s3,hE.s4,hE.s5,hE.s6,hE.s7,hE.i0,hE.i1,hE.i2,hE.y0,hE.y1,hE.y2⟩) (first|(go_at_call 168;refine(HF.j _ (d.j.gr.trans Q2)).mono ?_;rintro e w' ⟨rfl,BY⟩;have hE:=d.j.go (show Gr V w' from Q2);have S7:=hE.sz;have r0:=hE.r0;have r1:=hE.r1;have z0:=hE.z0;have z1:=hE.z1)|(go_at_call 163;refine(cR _ _).mono ?_;rintro e w2 ⟨rfl,IT⟩;have hE:=d.j.go (show Gr V w2 from Q2);have S7:=hE.sz;have r0:=hE.r0;have r1:=hE.r1;have z0:=hE.z0;have z1:=hE.z1))
  all_goals go_wp2_with fail
  all_goals rw[eY]
  all_goals have Vx:=λy0 y1=>(dt (y0:=y0) (y1:=y1) hE.r0 hE.r1).1
  all_goals have Uz:=λy0 y1=>(dt (y0:=y0) (y1:=y1) hE.r0 hE.r1).2
  all_goals exact qn R9 rfl (rW HQ.j (dN hE.gr Q5) Qm Qm)
 | none=>
  have HX:=aJ hx;have HQ:U (bq u f _ _=G):=aJ QO;clear hx;have HF:U (∀U',Gr w U'->Calls _ _ #[.agg #[J _ _ _,J a2 (D u.aE) c2,J a3 (D u.aG) c3,J a4 (D u.aC) c4,v5,J al (D sl) cs,O Z (D f.code),O Z f.result],.agg #[.int _ 17,.int _ F,.int _ jb],.agg #[.int _ _,.int _ n,.int _ a]] U' λx w'=>x=.panicked (oG 10 n a)/\Gr U' w'):=aJ λU' hU=>xi HX Q6 jB Q6 jB _ _ _ _ _ _ _ _ _ _ W _ HS.sh (Ud.trans hU);go_enter func157,ntmps157
  go_wp2_with fail;rw[qS];generalize qD w _ _ _ _ _ _ _ _ _ _ _ n a=V at d |-;have ad:=d.sz;obtain⟨-,-,s0,s1,s2,s3,s4,s5,s6,s7,i0,i1,i2,y0,y1,y2,-,-,-,-⟩:=d.j;obtain⟨-,-,t0,t1,t2,t3,t4,t5,t6,t7,j0,j1,j2,q0,q1,q2,-,-,-,-⟩:=d.go (Gr.alloc (Gr.refl V) (X #[O Z F] 3));go_region_law (first|(refine n_ rfl 168 _ _ rfl #[.agg #[J a1 (D u.aA) c1,J a2 (D u.aE) c2,J a3 (D u.aG) c3,J a4 (D u.aC) c4,v5,J al (D sl) cs,O Z (D f.code:A),O Z f.result],.agg #[O Z 17,O Z (F:A),O Z (jb:A)],.agg #[O Z 10,O Z n,O Z a]] Rs (Tryz.callField _ _) ((HF.j _ (d.j.gr.trans Q2)).mono ?_);rintro x w' ⟨rfl,BY⟩;refine⟨_,rfl,?_⟩;refine an ?_)|(refine nL rfl 163 _ _ rfl #[J (Y (Q V.heap.size 0 G)) 1 1] Rs (Tryz.callKinds _ _) ((cR _ _).mono ?_);rintro x w2 ⟨rfl,IT⟩;refine⟨_,rfl,?_⟩;have hE:=d.j.go (show Gr V w2 from Q2);have T8:=hE;obtain⟨-,-,s0,s1,s2,s3,s4,s5,s6,s7,i0,i1,i2,y0,y1,y2,-,-,-,-⟩:=T8))
  all_goals exact⟨rfl,d.j.gr.trans Q2,by rw[HQ.j]⟩
theorem Bn(h:bl i=AT):(0<=i.op/\i.op<=20)/\(i.op=1\/((0<=i.a/\i.a<=65535)/\0<=i.b/\i.b<=65535)):=by
 exact N4
theorem Ah(u:aK)(f:aQ)(i:bP)(hi:bl i=AT)(st:I A)(v1 v2 v3 v4 v5 vs d:M)(n a:A)(W w:T)(hS:Sc W u (f.aH++f.aI) v1 v2 v3 v4 vs)(hW:Gr W w)(Tj:aY w d st)(F:D f.code<=1000000):
 Calls prog 157 #[.agg #[v1,v2,v3,v4,v5,vs,O Z (D f.code:A),O Z f.result],.agg #[O Z i.op,O Z i.a,O Z i.b],d,.agg #[O Z 10,O Z n,O Z a]] w (kR (bq u f i st) n a w):=by
 obtain⟨hop,ad⟩:=Bn hi;obtain⟨op,ia,ib⟩:=i;simp only at hop ad |-;by_cases h1:op=1
 · subst h1;exact JP u f ia ib st v1 v2 v3 v4 v5 vs d n a W w hS hW Tj F
 have ae:=ad.resolve_left h1;obtain⟨ja,rfl⟩:∃j:R,ia=(j:A):=⟨ia.toNat,Q5⟩;obtain⟨jb,rfl⟩:∃j:R,ib=(j:A):=⟨ib.toNat,Q5⟩;have Tl:ja<=65535:=by omega
 have S9:jb<=65535:=Q5;have hd:op=0\/op=2\/op=3\/op=4\/op=5\/op=6\/op=7\/op=8\/op=9\/op=10\/op=11\/op=12\/op=13\/op=14\/op=15\/op=16\/op=17\/op=18\/op=19\/op=20:=Q5;clear ad ae hop h1 hi;rcases hd with rfl|rfl|rfl|rfl|rfl|rfl|rfl|rfl|rfl|rfl|rfl|rfl|rfl|rfl|rfl|rfl|rfl|rfl|rfl|rfl
 · exact JE u f ja jb Tl S9 st v1 v2 v3 v4 v5 vs d n a W w hS hW Tj F
 · exact JD u f ja jb Tl S9 st v1 v2 v3 v4 v5 vs d n a W w hS hW Tj F
 · exact Ji u f ja jb Tl S9 st v1 v2 v3 v4 v5 vs d n a W w hS hW Tj F
 · exact Jn u f ja jb Tl S9 st v1 v2 v3 v4 v5 vs d n a W w hS hW Tj F
 · exact Iy u f ja jb Tl S9 st v1 v2 v3 v4 v5 vs d n a W w hS hW Tj F
 · exact JJ u f ja jb Tl S9 st v1 v2 v3 v4 v5 vs d n a W w hS hW Tj F
 · exact Jo u f ja jb Tl S9 st v1 v2 v3 v4 v5 vs d n a W w hS hW Tj F
 · exact JC u f ja jb Tl S9 st v1 v2 v3 v4 v5 vs d n a W w hS hW Tj F
 · exact JF u f ja jb Tl S9 st v1 v2 v3 v4 v5 vs d n a W w hS hW Tj F
 · exact IC u f ja jb Tl S9 st v1 v2 v3 v4 v5 vs d n a W w hS hW Tj F
 · exact IF u f ja jb Tl S9 st v1 v2 v3 v4 v5 vs d n a W w hS hW Tj F
 · exact Ib u f ja jb Tl S9 st v1 v2 v3 v4 v5 vs d n a W w hS hW Tj F
 · exact IE u f ja jb Tl S9 st v1 v2 v3 v4 v5 vs d n a W w hS hW Tj F
 · exact IP u f ja jb Tl S9 st v1 v2 v3 v4 v5 vs d n a W w hS hW Tj F
 · exact IA u f ja jb Tl S9 st v1 v2 v3 v4 v5 vs d n a W w hS hW Tj F
 · exact Ia u f ja jb Tl S9 st v1 v2 v3 v4 v5 vs d n a W w hS hW Tj F
 · exact Hu u f ja jb Tl S9 st v1 v2 v3 v4 v5 vs d n a W w hS hW Tj F
 · exact H6 u f ja jb Tl S9 st v1 v2 v3 v4 v5 vs d n a W w hS hW Tj F
 · exact Ie u f ja jb Tl S9 st v1 v2 v3 v4 v5 vs d n a W w hS hW Tj F
 exact IU u f ja jb Tl S9 st v1 v2 v3 v4 v5 vs d n a W w hS hW Tj F
theorem z3(g:Gr (w.alloc (X #[O Z 0,O Z 0,O Z 0] t)).drew w1):H w1 (Q w.heap.size 0 G)=Y (O Z 0)/\H w1 (Q w.heap.size 1 G)=Y (O Z 0)/\H w1 (Q w.heap.size 2 G)=Y (O Z 0)/\w1.frozen? ⟨w.heap.size,0,G⟩=AS/\w1.frozen? ⟨w.heap.size,1,G⟩=AS/\w1.frozen? ⟨w.heap.size,2,G⟩=AS:=by
 have d:=(g.block _ Q6 Q6).trans (jZ w _);refine⟨?_,?_,?_,?_,?_,?_⟩
 · rw[aS d];rfl
 · rw[aS d];rfl
 · rw[aS d];rfl
 · exact bE d
 · exact bE d
 exact bE d
theorem LI{F:TypeId}(g:Gr ((w.alloc (X #[O Z 0,O Z 0,O Z 0] t)).alloc (X #[O Z 0,O Z 0,O Z 0] F)).drew w1):H w1 (Q w.heap.size 0 G)=Y (O Z 0)/\H w1 (Q w.heap.size 1 G)=Y (O Z 0)/\H w1 (Q w.heap.size 2 G)=Y (O Z 0)/\w1.frozen? ⟨w.heap.size,0,G⟩=AS/\w1.frozen? ⟨w.heap.size,1,G⟩=AS/\w1.frozen? ⟨w.heap.size,2,G⟩=AS:=
 by
 have d:=zp (w.alloc (X #[O Z 0,O Z 0,O Z 0] t)) (X #[O Z 0,O Z 0,O Z 0] F) G;have g1:Gr (w.alloc _).drew ((w.alloc _).alloc _).drew:=⟨d.os,d.tape,d.output,d.size,d.block⟩;exact z3 (g1.trans g)
structure Jy(w wx:T)(i:bP)(n q ib wb:R):Prop where
 gr:Gr w wx
 il:w.heap.size<=ib
 wl:w.heap.size<=wb
 c0:H wx (Q ib 0 G)=Y (O Z i.op)
 c1:H wx (Q ib 1 G)=Y (O Z i.a)
 c2:H wx (Q ib 2 G)=Y (O Z i.b)
 y0:H wx (Q wb 0 G)=Y (O Z 10)
 y1:H wx (Q wb 1 G)=Y (O Z (n:A))
 y2:H wx (Q wb 2 G)=Y (O Z (q:A))
theorem Jy.go{d wy:T}{n ib F:R}(h:Jy w d i n q ib F)(g:Gr d wy):Jy w wy i n q ib F:=
 ⟨h.gr.trans g,h.il,h.wl,g.cell h.c0 Q6,g.cell h.c1 Q6,g.cell h.c2 Q6,g.cell h.y0 Q6,g.cell h.y1 Q6,g.cell h.y2 Q6⟩
def Ki(w:T)(i:bP)(n q:R)(vst:M)(a4 a5 a6:M)(wx:T):Prop:=∃ib wb,a4=.pointer (Y (Q ib 0 G))/\a5=vst/\a6=.pointer (Y (Q wb 0 G))/\Jy w wx i n q ib wb
end Go.Proofs.YtghjmnlapcpbiaaGreatDoor
