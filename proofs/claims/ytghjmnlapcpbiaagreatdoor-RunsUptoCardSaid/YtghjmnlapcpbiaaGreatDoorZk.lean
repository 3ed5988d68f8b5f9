import Derived.Test.YtghjmnlapcpbiaaGreatDoorJ3
namespace Go.Proofs.YtghjmnlapcpbiaaGreatDoor
open _root_ renaming Option.some->Y,Option.none->G,Go.Value.int->O,Go.IntKind.i64->Z,Go.Value.slice->J,List->I,Nat->R,Int->A,Go.World.cell?->H,List.length->D,Go.Obj.cells->X,Go.Value->M,Go.World->T,Go.Addr.mk->Q,Go.RowKit.Hid->U,UInt8->AI,Bool.false->AS,Bool.true->AT,Option->By
open Go.Proofs.Tryz
set_option maxRecDepth 100000
set_option maxHeartbeats 8000000
set_option linter.unusedVariables false
set_option linter.unusedSimpArgs false
open Go.RowKit
variable{a:Act}{K:Act->T->Prop}{p2 p5 p6 p7 p8:Addr}{ops:Array Oper}{QQq:Exit->Act->T->Prop}{N g q sb tb:R}{dn:R->Bool}{tv:R->A}{vs:R->M}{o:Oper}{E:Prop}{t:TypeId}{x0 x1 x10 x11 x12 x13 x2 x3 x4 x5 x6 x7 x8 x9:M}{V0 w w1 w2 wr:T}{i:bP}
structure kN(V0 wr:T)(sb tb N:R)(tv:R->A)(vs:R->M)(st:R->By (I A))(dn:R->Bool):Prop where
 gr:Gr V0 wr
 hsb:V0.heap.size<=sb
 htb:V0.heap.size<=tb
 ne:¬sb=tb
 sbk:∃S:Array M,wr.heap[sb]? =Y (X S 26 (0,0))/\S.size=N/\∀k,k<N->S[k]? =Y (vs k)
 tbk:∃Tq:Array M,wr.heap[tb]? =Y (X Tq 3 (0,0))/\Tq.size=N/\∀k,k<N->Tq[k]? =Y (O Z (tv k))
 val:∀k,k<N->(tv k=0/\st k=G/\vs k=J G 0 0)\/((tv k=1\/tv k=2)/\∃s,st k=Y s/\dY (λb=>¬b=sb/\¬b=tb) wr (vs k) s/\D s<=20)
 dnv:∀k,dn k=decide (k<N/\tv k=2)
 j:∀k,N<=k->st k=G
theorem kN.tcell{st:R->By (I A)}(h:kN V0 wr sb tb N tv vs st dn){k:R}(F:k<N):H wr (Q tb k G)=Y (O Z (tv k))/\wr.frozen? ⟨tb,k,G⟩=AS:=by
 obtain⟨Tq,d,h2,h3⟩:=h.tbk;exact⟨by rw[aS d];exact h3 k F,bE d⟩
theorem kN.scell{st:R->By (I A)}(h:kN V0 wr sb tb N tv vs st dn){k:R}(F:k<N):H wr (Q sb k G)=Y (vs k)/\wr.frozen? ⟨sb,k,G⟩=AS:=by
 obtain⟨Tq,d,h2,h3⟩:=h.sbk;exact⟨by rw[aS d];exact h3 k F,bE d⟩
theorem kN.go{st:R->By (I A)}(h:kN V0 wr sb tb N tv vs st dn)(g:Gr wr w2):kN V0 w2 sb tb N tv vs st dn:=by
 obtain⟨S,F,h2,h3⟩:=h.sbk;obtain⟨Tq,d,k2,k3⟩:=h.tbk;refine⟨h.gr.trans g,h.hsb,h.htb,h.ne,⟨S,(g.block _ (eJ.1 F).1 Q6).trans F,h2,h3⟩,⟨Tq,(g.block _ (eJ.1 d).1 Q6).trans d,k2,k3⟩,λk hk=>?_,h.dnv,h.j⟩;rcases h.val k hk with e|⟨e1,s,e2,e3,e4⟩
 · exact .inl e
 exact .inr ⟨e1,s,e2,e3.mono λb hb hl=>⟨g.block b hl Q6,hb⟩,e4⟩
theorem rK{W:T}{o:R}{v:M}(h:Gr W w)(d:W.heap.size<=g):Gr W (w.setCell (Q g o G) v):=
 ⟨h.os,h.tape,h.output,Rh,λi hi No=>by rw[dp _ _ _ _ (by show i≠g;omega)];exact h.block i hi No⟩
theorem vN{d:Array M}{v:M}(F:q<d.size)(k:R):(d.setIfInBounds q v)[k]? =if k=q then Y v else d[k]? :=by
 rw[Array.getElem?_setIfInBounds];by_cases e:q=k
 · subst e;simp[F]
 rw[eP e,eP λh=>e h.symm]
theorem kN.mark{st:R->By (I A)}(h:kN V0 wr sb tb N tv vs st dn){q:R}(hq:q<N)(h1:tv q=1):
 kN V0 (wr.setCell (Q tb q G) (O Z 2)) sb tb N (λk=>if k=q then 2 else tv k) vs st (λj=>decide (j=q)||dn j):=by
 obtain⟨S,s1,s2,s3⟩:=h.sbk;obtain⟨Tq,k1,k2,k3⟩:=h.tbk;have No:=h.ne;refine⟨rK h.gr h.htb,h.hsb,h.htb,h.ne,⟨S,(dp _ _ _ _ No).trans s1,s2,s3⟩,⟨_,wS _ _ q _ _ _ k1,by simpa using k2,λk d=>?_⟩,λk d=>?_,λk=>?_,h.j⟩
 · rw[vN Q5];by_cases e:k=q
   · rw[mI e,mI e]
   rw[eP e,eP e];exact k3 k d
 · rcases h.val k d with⟨e0,e1,F⟩|⟨e1,s,F,e3,e4⟩
   · have e:¬k=q:=λe=>by rw[e,h1]at e0;cases e0
     exact .inl ⟨by rw[eP e];exact e0,e1,F⟩
   refine .inr ⟨?_,s,F,e3.mono λb hb hl=>⟨dp _ _ _ _ hb.2,hb⟩,e4⟩;by_cases e:k=q
   · rw[mI e];exact .inr rfl
   rw[eP e];exact e1
 rw[h.dnv k];by_cases e:k=q
 · simp[e,hq]
 simp[e]
theorem kN.come{st:R->By (I A)}(h:kN V0 wr sb tb N tv vs st dn){q:R}(hq:q<N)(h0:tv q=0){v:M}{s:I A}(hv:dY (λb=>¬b=sb/\¬b=tb) wr v s)(hs:D s<=20):
 kN V0 ((wr.setCell (Q tb q G) (O Z 1)).setCell (Q sb q G) v) sb tb N (λk=>if k=q then 1 else tv k) (λk=>if k=q then v else vs k) (λk=>if k=q then Y s else st k) dn:=by
 obtain⟨S,s1,s2,s3⟩:=h.sbk;obtain⟨Tq,k1,k2,k3⟩:=h.tbk;have No:=h.ne;have ad:¬tb=sb:=λe=>No e.symm
 have af:(wr.setCell (Q _ q G) (O Z 1)).heap[sb]? =Y _:=(dp _ _ _ _ No).trans s1;have ae:=wS _ _ q _ _ (O Z 1) k1;have keep:∀b,(¬b=sb/\¬b=tb)->((wr.setCell (Q _ q G) (O Z 1)).setCell (Q _ q G) v).heap[b]? =wr.heap[b]? :=λb d=>(dp _ _ _ _ d.1).trans (dp _ _ _ _ d.2)
 refine⟨rK (rK h.gr h.htb) h.hsb,h.hsb,h.htb,h.ne,⟨_,wS _ _ q _ _ v af,by simpa using s2,λk F=>?_⟩,⟨_,(dp _ _ _ _ ad).trans ae,by simpa using k2,λk F=>?_⟩,λk F=>?_,λk=>?_,λk F=>?_⟩
 · rw[vN Q5];by_cases e:k=q
   · rw[mI e,mI e]
   rw[eP e,eP e];exact s3 k F
 · rw[vN Q5];by_cases e:k=q
   · rw[mI e,mI e]
   rw[eP e,eP e];exact k3 k F
 · by_cases e:k=q
   · refine .inr ⟨.inl (by rw[mI e]),s,by rw[mI e],?_,hs⟩;rw[mI e];exact hv.mono λb d hl=>⟨keep b d,d⟩
   rcases h.val k F with⟨e0,e1,e2⟩|⟨e1,s',e2,e3,e4⟩
   · exact .inl ⟨by rw[eP e];exact e0,by rw[eP e];exact e1,by rw[eP e];exact e2⟩
   exact .inr ⟨by rw[eP e];exact e1,_,by rw[eP e];exact e2,by rw[eP e];exact e3.mono λb d hl=>⟨keep b d,d⟩,e4⟩
 · rw[h.dnv k];by_cases e:k=q
   · subst e;simp[h0]
   simp[e]
 have e:¬k=q:=by omega
 rw[eP e];exact h.j k F
theorem kN.waits{st:R->By (I A)}(h:kN V0 wr sb tb N tv vs st dn){k:R}(d:k<N):((st k).isSome && !dn k)=decide (tv k=1):=by
 rw[h.dnv k];rcases h.val k d with⟨e0,e1,_⟩|⟨e|e,s,F,_⟩
 · rw[e1,e0];rfl
 · rw[F,e];simp
 rw[F,e];simp[d]
theorem kN.least{st:R->By (I A)}(h:kN V0 wr sb tb N tv vs st dn){q:R}(d:q<N)(h1:tv q=1)(hm:∀j,j<q->¬tv j=1):kE N st dn=Y q:=by
 rw[nM];exact⟨d,by rw[h.waits d,h1];rfl,λk F=>by rw[h.waits Q5];simpa using hm k F⟩
theorem kN.no{st:R->By (I A)}(h:kN V0 wr sb tb N tv vs st dn)(hm:∀j,j<N->¬tv j=1):kE N st dn=G:=by
 rw[nN];exact λk d=>by rw[h.waits d];simpa using hm k d
theorem kN.start(gr:Gr V0 wr)(hsb:V0.heap.size<=sb)(htb:V0.heap.size<=tb)(ne:¬sb=tb)(hN:0<N){S F:Array M}(h1:wr.heap[sb]? =Y (X S 26 (0,0)))(h2:S.size=N)(h3:∀k,k<N->S[k]? =Y (J G 0 0))(k1:wr.heap[tb]? =Y (X F 3 (0,0)))(k2:F.size=N)(k3:∀k,k<N->F[k]? =Y (O Z 0)):
 kN V0 (wr.setCell (Q tb 0 G) (O Z 1)) sb tb N (λk=>if k=0 then 1 else 0) (λ_=>J G 0 0) (λk=>if k=0 then Y [] else G) (λ_=>AS):=by
 refine⟨rK gr htb,hsb,htb,ne,⟨S,(dp _ _ _ _ ne).trans h1,h2,h3⟩,⟨_,wS _ _ 0 _ _ _ k1,by simpa using k2,λk d=>?_⟩,λk d=>?_,λk=>?_,λk d=>?_⟩
 · rw[vN Q5];by_cases e:k=0
   · rw[mI e,mI e]
   rw[eP e,eP e];exact k3 k d
 · by_cases e:k=0
   · exact .inr ⟨.inl (by rw[mI e]),_,by rw[mI e],ji _ _,Q6⟩
   exact .inl ⟨by rw[eP e],by rw[eP e],rfl⟩
 · by_cases e:k=0<;>simp[e]
 rw[eP Q5]
attribute [local go_sem ↓] Go.wp_at_zero Go.wp_at_succ
def jI(u:aK)(f:aQ):A:=match fj u f with
 | some t=>(t:A)
 | none=>-1
def I3(u:aK)(w:T)(x:Ending)(w':T):Prop:=x=.returned (.tuple #[O Z (ar u).1,O Z ((ar u).2.1:A),O Z ((ar u).2.2:A)])/\Gr w w'
theorem JW{p0 p1 p3 p4:Addr}(g:Gr w1 w2)(h:H w1 p0=Y x0/\H w1 p1=Y x1/\H w1 p2=Y x2/\H w1 p3=Y x3/\H w1 p4=Y x4/\H w1 p5=Y x5/\H w1 p6=Y x6/\H w1 p7=Y x7/\H w1 p8=Y x8):H w2 p0=Y x0/\H w2 p1=Y x1/\H w2 p2=Y x2/\H w2 p3=Y x3/\H w2 p4=Y x4/\H w2 p5=Y x5/\H w2 p6=Y x6/\H w2 p7=Y x7/\H w2 p8=Y x8:=by
 obtain⟨d,h1,h2,F,h4,h5,h6,h7,h8⟩:=h;exact⟨g.cell d Q6,g.cell h1 Q6,g.cell h2 Q6,g.cell F Q6,g.cell h4 Q6,g.cell h5 Q6,g.cell h6 Q6,g.cell h7 Q6,g.cell h8 Q6⟩
theorem SB{p:Prop}(h:p:=by unfold ar;rw[Tb];rfl):p:=h
theorem ti(u:aK)(v1 v2 v3 v4 v5:M)(w:T)(hU:bV w (.agg #[v1,v2,v3,v4,v5]) u)(ad:∀v∈[v1,v2,v3,v4,v5],∃a n c,v=J a n c)
 (hR:∀V,Gr w V->Calls prog 40 #[.agg #[v1,v2,v3,v4,v5]] V λx w'=>x=.returned (.bool (bG u))/\Gr V w')
 (hL:bG u=AT->∀f∈u.aG,∀vp vl vc V,aY w vp f.aH->aY w vl f.aI->eC w vc f.code->Gr w V->Calls prog 45 #[.agg #[v1,v2,v3,v4,v5],.agg #[vp,O Z f.result,vl,vc]] V λx w'=>x=.returned (O Z (jI u f))/\Gr V w'):
 Calls prog 21 #[.agg #[v1,v2,v3,v4,v5]] w (I3 u w):=by
 obtain⟨x1,x2,x3,x4,x5,he,_,_,hF,_,_⟩:=hU;simp only[Ch,FL,Bk,I7]at he;obtain⟨rfl,rfl,rfl,rfl,rfl⟩:=he;obtain⟨q1,n1,c1,rfl⟩:=ad v1 Q6;obtain⟨q2,n2,c2,rfl⟩:=ad v2 Q6;obtain⟨q4,n4,c4,rfl⟩:=ad v4 Q6;obtain⟨q5,n5,c5,rfl⟩:=ad v5 Q6;obtain⟨q3,c3,rfl,ay,az⟩:=hF;unfold maxLen at ay;have T6:=aJ az;have HR:=aJ hR;have HL:=aJ hL;have aC:=Gr.alloc (Gr.refl w) (X #[J q1 n1 c1,J q2 n2 c2,J q3 (D u.aG) c3,J q4 n4 c4,J q5 n5 c5] 58);have HK:U (∀V,Gr (w.alloc (X #[J q1 n1 c1,J q2 n2 c2,J q3 (D u.aG) c3,J q4 n4 c4,J q5 n5 c5] 58)) V->H V (Q w.heap.size 0 G)=Y (J q1 n1 c1)/\H V (Q w.heap.size 1 G)=Y (J q2 n2 c2)/\H V (Q w.heap.size 2 G)=Y (J q3 (D u.aG) c3)/\H V (Q w.heap.size 3 G)=Y (J q4 n4 c4)/\H V (Q w.heap.size 4 G)=Y (J q5 n5 c5)):=aJ λV g=>⟨g.cell Ql Q6,g.cell Ql Q6,g.cell Ql Q6,g.cell Ql Q6,g.cell Ql Q6⟩;have Tt:=aJ aC;go_enter func21,ntmps21
 go_wp2_with fail;refine(HR _ Tt).mono ?_;rintro x w1 ⟨rfl,S5⟩;have Td:=aJ S5;cases Tb:bG u with
 | false=>
  have HV:U (ar u=(1,0,0)):=aJ SB;go_wp2_with fail;go_ret3
  exact⟨by rw[HV];rfl,Tt.trans Td⟩
 | true=>
  have HV:U (ar u=iC u 0 _):=aJ SB;have UF:=aJ Tb;go_wp2_with fail;go_loopw[6] (λi wr=>∃k:R,i=O Z (k:A)/\k<=D u.aG/\ar u=iC u k (u.aG.drop k)/\Gr (w.alloc (X #[J q1 n1 c1,J q2 n2 c2,J q3 (D u.aG) c3,J q4 n4 c4,J q5 n5 c5] 58)) wr) λi _=>D u.aG-(intOf i).toNat
  case atStart=>exact⟨0,rfl,Lz,HV,Td⟩
  obtain⟨k,rfl,hk,hv,hg⟩:=hrel;have ak:=aJ hv;have ae:=aJ hg;obtain⟨e0,e1,e2,e3,e4⟩:=HK _ hg;by_cases IN:k<D u.aG
  · obtain⟨f,hf⟩:=aU IN;obtain⟨b,off,vp,vl,vc,rfl,f0,f1,f2,f3,ai,av,ax⟩:=T6 k f hf;obtain⟨ap,cp,rfl⟩:=ai.shape;obtain⟨al,cl,rfl⟩:=av.shape;obtain⟨ac,cc,rfl⟩:=ax.shape;have F:=Tt.trans ae;have f0:=F.cell f0 Q6;have f1:=F.cell f1 Q6;have f2:=F.cell f2 Q6;have f3:=F.cell f3 Q6;have UB:(k:A)<D u.aG:=by omega
    have hw:Z.wrap _=k+1:=Q_;have aA:=aJ (HL UF f (dL hf) _ _ _ _ ai av ax (F.drew));have Tv:U (ar u=match fj u f with|some q=>(10,k,q)|none=>iC u _ (u.aG.drop (k+1))):=aJ (by
     rw[ak,Be IN];have:=by rw[dW IN]at hf;exact tz hf
     rw[this,iC];cases fj u f<;>rfl)
    go_wp2_with fail;go_region_held3 (λw'=>H w' (Q w.heap.size 0 G)=Y (J q1 n1 c1)/\H w' (Q w.heap.size 1 G)=Y (J q2 n2 c2)/\H w' (Q w.heap.size 2 G)=Y (J (Y (Q b off G)) (D u.aG) c3)/\H w' (Q w.heap.size 3 G)=Y (J q4 n4 c4)/\H w' (Q w.heap.size 4 G)=Y (J q5 n5 c5)/\H w' ⟨b,off+k*4,G⟩=Y (J ap (D f.aH) cp)/\H w' ⟨b,off+k*4+1,G⟩=Y (O Z f.result)/\H w' ⟨b,off+k*4+2,G⟩=Y (J al (D f.aI) cl)/\H w' ⟨b,off+k*4+3,G⟩=Y (J ac (D f.code) cc)) (first|(go_keep;done)|exact JW IT Q8) (first|(go_at_call 45;refine aA.j.mono ?_;rintro x w2 ⟨rfl,IT⟩))
    have OF:=aJ (Gr.trans (Gr.drew ae) IT);cases Vj:fj u f with
    | some t=>
     have af:jI u f=t:=by unfold jI;rw[Vj]
     have d:U (ar u=(10,k,t)):=aJ (by rw[Tv,Vj]);rw[af];have aD:(0:A)<=t:=Q5;go_wp2_with fail;go_ret3
     exact⟨by rw[d];rfl,Tt.trans OF⟩
    | none=>
     have af:jI u f=-1:=by unfold jI;rw[Vj]
     have d:U (ar u=iC u _ _):=aJ (by rw[Tv,Vj]);rw[af];go_wp2_with fail;exact⟨⟨_,Q6,IN,d,OF⟩,Qh⟩
  have aB:k=D u.aG:=by omega
  subst aB;have d:U (ar u=(0,0,0)):=aJ (by rw[ak,Ln];rfl);go_wp2_with fail;go_ret3
  exact⟨by rw[d];rfl,Tt.trans ae⟩
theorem Tryz.callDone(vals:Array M)(w:T):(callFunc 106 vals).run Tryz.prog w=.ok (.enter 106 vals) w:=Q7
theorem ET{u:aK}{f:aQ}{s s':I A}(hd:et u f i s=Y s')(ha:i.op=11\/i.op=12->0<=i.a):∀t,Y t∈ch f q i->t<D f.code:=by
 intro t d;have hj:i.op=11\/i.op=12->i.a<D f.code:=by
  intro h;unfold et at hd;cases he:bU u f i with
  | none=>rw[he]at hd;cases hd
  | some p=>
   unfold bU at he;rcases h with h|h<;>simp[h]at he<;>exact he.1
 unfold ch at d;by_cases TC:i.op=11
 · have:=hj (.inl TC);have:=ha (.inl TC)
   rw[mI TC]at d;simp at d;omega
 rw[eP TC]at d;by_cases TM:i.op=14
 · rw[mI TM]at d;cases d
 rw[eP TM]at d;by_cases F:i.op=12
 · have:=hj (.inr F);have:=ha (.inr F)
   rw[mI F]at d;by_cases hb:q+1<D f.code
   · rw[mI hb]at d;simp at d;omega
   rw[eP hb]at d;simp at d;omega
 rw[eP F]at d;by_cases hb:q+1<D f.code
 · rw[mI hb]at d;simp at d;omega
 rw[eP hb]at d;simp at d
def Kh(o:By R):A:=match o with
 | none=>-1
 | some t=>(t:A)
theorem FU{f:aQ}{k:R}{o:By R}(h:(ch f q i)[k]? =Y o):(f9 f q i).getD k 0=Kh o:=by
 unfold f9;rw[mh,Ha,h];cases o<;>rfl
theorem E8(f:aQ)(q:R)(i:bP):D (ch f q i)<=2:=by
 unfold ch;by_cases TC:i.op=11
 · rw[mI TC];simp
 rw[eP TC];by_cases F:i.op=14
 · rw[mI F];simp
 rw[eP F];by_cases d:i.op=12
 · rw[mI d];simp
 rw[eP d];simp
theorem D0(u:aK)(f:aQ)(Tb:bG u=AT)(e6:f∈u.aG)(v1 v2 v3 v4 v5 vp vl vc:M)(w:T)(hU:bV w (.agg #[v1,v2,v3,v4,v5]) u)(hp:aY w vp f.aH)(hl:aY w vl f.aI)(hc:eC w vc f.code)(g':1<=D f.code)(g6:D f.code<=200)(Tc:f.code.all bl=AT)
 (hE:∀i,bl i=AT->∀V,Gr w V->Calls prog 46 #[.agg #[v1,v2,v3,v4,v5],.agg #[vp,O Z f.result,vl,vc],.agg #[O Z i.op,O Z i.a,O Z i.b]] V (r_ (bU u f i) V)):
 Calls prog 45 #[.agg #[v1,v2,v3,v4,v5],.agg #[vp,O Z f.result,vl,vc]] w λx w'=>x=.returned (O Z (jI u f))/\Gr w w':=by
 have f':=aJ hU;obtain⟨x1,x2,x3,x4,x5,he,h1,h2,h3,h4,h5⟩:=hU;simp only[Ch,FL,Bk,I7]at he;obtain⟨rfl,rfl,rfl,rfl,rfl⟩:=he;obtain⟨a1,c1,rfl⟩:=h1.shape;obtain⟨a2,c2,rfl⟩:=h2.shape;obtain⟨a3,c3,rfl⟩:=h3.shape;obtain⟨a4,c4,rfl⟩:=h4.shape;obtain⟨a5,c5,rfl⟩:=h5.shape;obtain⟨ap,cp,rfl⟩:=hp.shape;obtain⟨al,cl,rfl⟩:=hl.shape;obtain⟨ac,cc,rfl⟩:=hc.shape;have HP:=aJ hp;have ep:=aJ hl;have HC:=aJ hc;have HE:=aJ hE;have c':=aJ Tc;have fo:U (∀i ts ps,bU u f i=Y (ts,ps)->ts=[-1]\/∀t∈ts,0<=t):=aJ (λi ts ps h=>by
  by_cases h4:i.op=4
  · unfold bU at h;simp[h4]at h;exact .inl h.1.symm
  by_cases h5:i.op=5
  · unfold bU at h;simp[h5]at h;exact .inl h.1.symm
  exact .inr (A4 Tb e6 _ _ h h4 h5).1)
 have bL:U (Gr w ((w.alloc (X (yE u a1 c1 a2 c2 a3 c3 a4 c4 a5 c5) 58)).alloc (X #[J ap (D f.aH) cp,O Z f.result,J al (D f.aI) cl,J ac (D f.code) cc] 74))):=aJ (((Gr.refl w).alloc _).alloc _);have Wg:U (((w.alloc (X (yE u a1 c1 a2 c2 a3 c3 a4 c4 a5 c5) 58)).alloc (X #[J ap (D f.aH) cp,O Z f.result,J al (D f.aI) cl,J ac (D f.code) cc] 74)).heap.size=w.heap.size+1+1):=aJ Q6;have b0:U (∀w',Gr ((w.alloc (X (yE u a1 c1 a2 c2 a3 c3 a4 c4 a5 c5) 58)).alloc (X #[J ap (D f.aH) cp,O Z f.result,J al (D f.aI) cl,J ac (D f.code) cc] 74)) w'->H w' (Q w.heap.size 0 G)=Y (J a1 (D u.aA) c1)/\H w' (Q w.heap.size 1 G)=Y (J a2 (D u.aE) c2)/\H w' (Q w.heap.size 2 G)=Y (J a3 (D u.aG) c3)/\H w' (Q w.heap.size 3 G)=Y (J a4 (D u.aC) c4)/\H w' (Q w.heap.size 4 G)=Y (J a5 (D u.aD) c5)/\H w' ⟨w.heap.size+1,0,G⟩=Y (J ap (D f.aH) cp)/\H w' ⟨w.heap.size+1,1,G⟩=Y (O Z f.result)/\H w' ⟨w.heap.size+1,2,G⟩=Y (J al (D f.aI) cl)/\H w' ⟨w.heap.size+1,3,G⟩=Y (J ac (D f.code) cc)):=aJ λw' g=>⟨g.cell Ql Q6,g.cell Ql Q6,g.cell Ql Q6,g.cell Ql Q6,g.cell Ql Q6,g.cell Ql Q6,g.cell Ql Q6,g.cell Ql Q6,g.cell Ql Q6⟩;clear h1 h2 h3 h4 h5 hp hl hc hE Tc;go_enter func45,ntmps45
 go_upto_region 1 with fail
 generalize (w.alloc _).alloc _=V0 at bL Wg b0 |-;obtain⟨k0,k1,k2,k3,k4,k5,k6,k7,k8⟩:=b0 _ G0;obtain⟨V1,sb,fg,cB,aM,ai⟩:∃V1 sb,(Instr.makeSlice 25 _ _).run _ _=.ok (J (Y ⟨sb,0,_⟩) _ (D f.code)) V1/\sb=V0.heap.size/\V1.heap[sb]? =Y _/\Gr _ V1:=
  ⟨_,_,pJ Q7 Tryz.ownSlice Q5 Q5 rfl _,rfl,jZ _ _,(G0).alloc _⟩
 obtain⟨V2,tb,cy,cu,ak,aL⟩:∃V2 tb,(Instr.makeSlice 26 _ _).run _ _=.ok (J (Y ⟨tb,0,_⟩) _ (D f.code)) V2/\tb=V1.heap.size/\V2.heap[tb]? =Y _/\Gr _ V2:=
  ⟨_,_,pJ Q7 Tryz.ownInt Q5 Q5 rfl _,rfl,jZ _ _,(G0).alloc _⟩
 have fy:=ai.cell k8 Q6;have Tn:=(eJ.1 aM).1;have ax:=(aL.block _ Tn Q6).trans aM;have Tv:=aJ (kN.start (N:=D f.code) (ai.trans aL) Q5 (by have:=ai.size;omega) Q5 Q5 ax (by simp[Lv]) (λk hk=>by rw[pT (by simp[Value.cells]) Q5];simp[Value.cells,Nat.mod_one]) ak (by simp[Lv]) λk hk=>by rw[pT (by simp[Value.cells]) Q5];simp[Value.cells,Nat.mod_one]);have eu:H V2 (Q tb 0 G)=Y (O Z 0):=by rw[aS ak,pT (by simp[Value.cells]) Q5];simp[Value.cells]
 have a':V2.frozen? ⟨_,0,_⟩=AS:=bE ak;have HW:U (fj u f=j5 u f (dh _ _+1) _ _):=aJ (by rw[iz];rfl);clear cB cu aM ak ai aL Tn ax;go_wp2_with fail;generalize V2.setCell _ _=Xq at Tv |-;clear fg cy eu a' k0 k1 k2 k3 k4 k5 k6 k7 k8 fy;go_loopg [7] (D f.code+1) λgk _ wr=>∃(tv:R->A) (vs:R->M) (st:R->By (I A)) (dn:R->Bool),gk=dh (D f.code) dn+1/\kN V0 wr sb tb (D f.code) tv vs st dn/\fj u f=j5 u f (dh (D f.code) dn+1) st dn
 case atStart=>exact⟨_,_,_,_,by rw[iz],Tv,HW⟩
 obtain⟨tv,vs,st,dn,rfl,hl,hw⟩:=hrel;have HL:=aJ hl;have eo:=aJ hw;obtain⟨k0,k1,k2,k3,k4,k5,k6,k7,k8⟩:=b0 _ hl.gr;clear hl hw;go_wp2_with fail;go_loopw[7] (λvk w'=>wr=w'/\∃k:R,vk=O Z (k:A)/\k<=D f.code/\∀j,j<k->¬tv j=1) λvk _=>D f.code-(intOf vk).toNat
 case atStart=>exact⟨rfl,0,rfl,Lz,λj h=>by omega⟩
 obtain⟨rfl,q,rfl,hq,Vv⟩:=hrel;have a6:=aJ Vv;clear Vv;by_cases IN:q<D f.code
 · have gX:(q:A)<D f.code:=by omega
   obtain⟨ad,a'⟩:=HL.tcell IN;have g3:Z.wrap _=q+1:=Q_;obtain⟨tq,av⟩:∃x,tv q=x:=⟨_,rfl⟩;rw[av]at ad;by_cases h1:tq=1
   · subst h1;obtain⟨i,hi⟩:=aU IN;have b':=zl.1 c' i (dL hi);have gA:=kj b';obtain⟨s,ed,ca,cx⟩:∃s,st q=Y s/\dY _ _ _ s/\D s<=20:=by
      rcases HL.val q IN with⟨e0,_,_⟩|⟨_,s,e2,e3,e4⟩
      · rw[av]at e0;cases e0
      exact⟨s,e2,e3,e4⟩
     obtain⟨xs,xc,b4⟩:=ca.to.shape;have az:=aJ (HL.mark IN av);have ek:U (fj u f=match nW u f q i s _ with| .inl t=>Y t| .inr gf=>j5 u f _ _ _):=aJ (by rw[eo,tD (HL.least IN av a6) hi ed];cases nW u f q i s st<;>rfl)
     have ds:=aJ (j7 _ q dn IN (by rw[HL.dnv q,av];simp));have g4:((q:A)==D f.code)=AS:=Rp
     have bC:=(eJ.1 az.sbk.choose_spec.1).1;have bp:=(eJ.1 az.tbk.choose_spec.1).1;have b9:U (dY _ (wr.setCell (Q _ q G) (O Z 2)) (J _ _ _) s):=aJ (by
      rw[<-b4];exact ca.mono λb hb hl=>⟨dp _ _ _ _ hb.2,hb⟩)
     have fv:=aJ b4;have HI:=aJ hi;clear ca ed b4 av hi;go_upto_region 10 with fail
     generalize wr.setCell _ _=wm at az b9 bC bp |-;obtain⟨g2,g1,ez,_,ec⟩:=HC.j;obtain⟨cb,gF,rfl,p0,p1,p2⟩:=ec q i HI;simp only[jj,Bt]at ez;obtain⟨rfl,rfl⟩:=ez;have ae:=aJ (bL.trans az.gr);have KD:U (∀w',Gr _ w'->H w' _=Y _/\H w' _=Y _/\H w' _=Y _/\H w' _=Y _/\H w' _=Y _/\H w' _=Y _/\H w' _=Y _/\H w' _=Y _/\H w' _=Y _/\H w' _=Y _/\H w' _=Y _/\H w' _=Y _/\H w' _=Y _):=aJ (λw' g=>by
      obtain⟨n0,n1,n2,n3,n4,n5,n6,n7,n8⟩:=b0 _ (az.gr.trans g);have g0:=ae.trans g;have aF:=((az.go g).scell IN).1;rw[fv]at aF;exact⟨n0,n1,n2,n3,n4,n5,n6,n7,n8,g0.cell p0 Q6,g0.cell p1 Q6,g0.cell p2 Q6,aF⟩)
     have ga:=aJ (FT u f i s b' (fo i) _ _ _ _ _ _ _ _ _ _ (f'.gr ae.drew) (HP.gr ae.drew) (ep.gr ae.drew) ⟨_,_,rfl⟩ (b9.to.gr Gy) ⟨_,_,rfl,b9.cap⟩ cx λV g=>HE i b' V (ae.drew.trans g));clear ec k0 k1 k2 k3 k4 k5 k6 k7 k8 ad a';refine xE (S:=(λw'=>H w' _=Y _/\H w' _=Y _/\H w' _=Y _/\H w' _=Y _/\H w' _=Y _/\H w' _=Y _/\H w' _=Y _/\H w' _=Y _/\H w' _=Y _/\H w' _=Y _/\H w' _=Y _/\H w' _=Y _/\H w' _=Y _)) Q7 (KD _ Gy) λhH=>?_;refine tL 0 ?_;refine tL 1 ?_;refine tL 2 ?_;refine tL 3 ?_;refine tL 4 ?_;refine tL 5 ?_;refine tL 6 ?_;refine tL 7 ?_;refine tL 8 ?_;refine tL 9 ?_;refine tL 10 ?_;refine bQ (i:=11) rfl Q7 λK hK=>?_;refine am rfl _ _ _ rfl _ fZ (Tryz.callDone _ _) (ga.mono ?_);rintro x w5 ⟨Th,v5,out,rfl,a0,bo⟩;obtain⟨x5,y5,rfl⟩:=a0.to.shape;have Tu:=aJ (Gr.trans Gy Th);have c6:=aJ a0;have cz:=aJ bo;refine .inl ⟨_,rfl,?_⟩;clear Th a0 bo;refine hK _ _ (KD _ Tu) λhH=>?_;clear hK;try simp only[Act.put,sA,s0,s1]
     refine tL 12 ?_;refine tL 13 ?_;refine tL 14 ?_;refine tL 15 ?_;refine tL 16 ?_;refine Ev Q7 ?_ _;have gm:U (∀b,wm.drew.heap.size<=b->¬b=sb/\¬b=tb):=aJ (λb hb=>by
      have h1:wm.heap.size<=b:=hb;exact⟨Q5,Q5⟩)
     cases d:et u f i s with
     | none=>
      have aB:U (jI u f=q):=aJ (by unfold jI;rw[ek];unfold nW;rw[d]);simp only[L6];clear d;go_wp2_with fail;go_ret
      exact⟨by rw[aB];rfl,ae.trans Tu⟩
     | some s'=>
      obtain rfl:=cz _ d;have VT:U (fj u f=match dB _ q _ _ with| .inl t=>Y t| .inr gf=>j5 u f _ _ _):=aJ (by rw[ek];unfold nW;rw[d]);have e':=aJ (ET (q:=q) d λh=>by rcases h with h|h<;>omega)
      have bF:D s'<=20:=by
       unfold et at d;cases he:bU u f i with
       | none=>rw[he]at d;cases d
       | some p=>
        rw[he]at d;simp only[]at d;split at d
        · cases d
        split at d
        · cases d
        split at d
        · rename_i hx;obtain rfl:=tz d;exact hx.1
        cases d
      have eV:=aJ (FV f q i HI (λh=>by rcases h with h|h<;>omega) _ _ _ w5 (HP.j.gr (ae.j.trans Tu.j)) (ep.j.gr (ae.j.trans Tu.j)) (HC.j.gr (ae.j.trans Tu.j)) Q5)
      obtain⟨n0,n1,n2,n3,n4,n5,n6,n7,n8,-,-,-,-⟩:=KD _ Tu;simp only[Lu];clear d;go_wp2_with fail;refine eV.mono ?_;rintro x w6 ⟨v6,rfl,b5,cn,bk⟩;obtain⟨x6,y6,rfl⟩:=b5.shape;have fr:=aJ ((az.go Tu).go cn);have e8:=aJ (c6.mono λb hb hl=>⟨cn.block b hl Q6,gm b hb⟩);have e5:=aJ b5;have Vi:U (∀b,(J _ _ _).ownBlock=Y b->¬b=sb/\¬b=tb):=aJ (λb hb=>by
       have h1:=bk b hb;have h2:=Tu.size;exact⟨Q5,Q5⟩)
      have dw:D (f9 f q i)=D (ch f q i):=by unfold f9;rw[JY]
      have cL:=E8 f q i;have ay:=aJ dw;have gU:D (f9 f q i)<=2:=Q5;clear b5 cn bk dw cL bC bp n0 n1 n2 n3 n4 n5 n6 n7 n8;go_wp2_with fail;go_loopw[11] (λvk w'=>∃(k:R) (b7:R->A) (ev:R->M) (bj:R->By (I A)),vk=O Z (k:A)/\k<=D (f9 f q i)/\kN V0 w' sb tb (D f.code) b7 ev bj (λj=>decide (j=q)||dn j)/\dB s' q (ch f q i) st=dB s' q ((ch f q i).drop k) bj/\w6.heap.size<=w'.heap.size/\∀b,b<w6.heap.size->¬b=sb->¬b=tb->w'.heap[b]? =w6.heap[b]?) λvk _=>D (f9 f q i)-(intOf vk).toNat
      case atStart=>exact⟨0,_,_,_,rfl,Lz,fr,rfl,lj,λb _ _ _=>rfl⟩
      obtain⟨k,b7,ev,bj,rfl,hk,cf,dO,S7,Ui⟩:=hrel;have a9:=aJ cf;have bg:=aJ dO;have Uq:=aJ Ui;have b3:=aJ (e8.mono λb hb hl=>⟨Ui b hl hb.1 hb.2,hb⟩);have bB:=aJ (bL.trans cf.gr);clear cf dO Ui;by_cases af:k<D (f9 f q i)
      · obtain⟨o,ho⟩:=aU (show k<(D (ch f q i)) by have:=ay.j;omega);have di:(ch f q i).drop k=o::(ch f q i).drop (k+1):=by
         have en:=(dm.1 ho).1;rw[Be en];rw[dW en]at ho;rw[tz ho]
        have bt:=FU ho;obtain⟨gW,g5,ef,_,ej⟩:=e5.j;obtain⟨b6,o6,rfl,S6⟩:=ej k af;simp only[jj,Bt]at ef;obtain⟨rfl,rfl⟩:=ef;obtain⟨e9,dd⟩:=Vi b6 rfl;have S6:=(so (Uq _ (wI _ _ S6) e9 dd)).trans S6;rw[bt]at S6;have UB:k<(D (f9 f q i):A):=Q5;have hg:Z.wrap _=k+1:=Q_;have b1:=aJ di;have HO:=aJ ho;clear di bt ej ho;cases o with
        | none=>
         have aB:U (jI u f=q):=aJ (by unfold jI;rw[VT,bg,b1];rfl);simp only[Kh]at S6;go_wp2_with fail;go_ret
         exact⟨by rw[aB];rfl,bB⟩
        | some t=>
         simp only[Kh]at S6;have a8:=e' t (dL HO);have ha:(t:A)<D f.code:=Q5;have hf:¬(t:A)<0:=Q5;obtain⟨ad,a'⟩:=a9.tcell a8;obtain⟨aF,gw⟩:=a9.scell a8;rcases a9.val t a8 with⟨e0,e1,e2⟩|⟨e1,s9,e2,e3,e4⟩
         · rw[e0]at ad;rw[e2]at aF;have ck:=aJ (iX _ _ _ _ _ (aw _) b3.to);have e7:=aJ e0;have cj:U (dB _ q _ _=dB s' q ((ch f q i).drop (k+1)) λj=>if j=t then Y s' else bj j):=aJ (by rw[bg,b1];simp[dB,e1]);clear e0 e1 e2;go_wp2_with fail;refine ck.mono ?_;rintro x w7 ⟨rfl,F⟩;have a7:=aJ (a9.go F);have gb:=aJ (b3.mono λb hb hl=>⟨F.block b hl Q6,hb⟩);have b2:=aJ λb h1 h2 h3=>(F.block b Q5 Q6).trans (Uq b h1 h2 h3);have cv:=F.size;have S6:=F.cell S6 Q6;have ad:=F.cell ad Q6;have aF:=F.cell aF Q6;have a':=(a7.tcell a8).2;have gw:=(a7.scell a8).2;have cM:=a7.ne;have gy:¬tb=sb:=λe=>cM e.symm
           have gB:¬tb=b6:=λe=>dd e.symm
           generalize decide ([]=s')=bb;clear F;go_wp2_with fail;exact⟨⟨_,_,_,_,Q6,af,a7.come a8 e7 gb bF,cj,QL,λb h1 h2 h3=>(dp _ _ _ _ h2).trans ((dp _ _ _ _ h3).trans (b2 b h1 h2 h3))⟩,Qh⟩
         obtain⟨xa,xb,b8⟩:=e3.to.shape;rw[b8]at aF;have ck:=aJ (iX (J _ _ _) _ _ _ _ (by rw[<-b8];exact e3.to) b3.to);obtain⟨tt,dT⟩:∃x,b7 t=x:=⟨_,rfl⟩;rw[dT]at ad e1;have gV:0<tt:=by omega
         have eu:(tt==0)=AS:=Rp
         clear e1 e3 b8 dT;go_wp2_with fail;refine ck.mono ?_;rintro x w7 ⟨rfl,F⟩;have a7:=aJ (a9.go F);have b2:=aJ λb h1 h2 h3=>(F.block b Q5 Q6).trans (Uq b h1 h2 h3);have fa:=aJ (bB.trans F);have cv:=F.size;have S6:=F.cell S6 Q6;have ad:=F.cell ad Q6;by_cases heq:s9=s'
         · have hd:decide (s9=s')=AT:=by simpa using heq
           rw[hd];have cj:U (dB _ q _ _=dB s' q ((ch f q i).drop (k+1)) bj):=aJ (by rw[bg,b1];simp[dB,e2,heq]);clear hd heq e2 F;go_wp2_with fail;exact⟨⟨_,_,_,_,Q6,af,a7,cj,Q5,b2⟩,Qh⟩
         have hd:decide (s9=s')=AS:=by simpa using heq
         rw[hd];have aB:U (jI u f=t):=aJ (by unfold jI;rw[VT,bg,b1];simp[dB,e2,heq]);clear hd heq e2 F;go_wp2_with fail;go_ret
         exact⟨by rw[aB];rfl,fa⟩
      · have gp:k=D (f9 f q i):=by omega
        subst gp;have fz:U (fj u f=j5 u f _ _ _):=aJ (by
         have e:(ch f q i).drop (D (f9 f q i))=[]:=by rw[ay,Ln]
         rw[VT,bg,e];rfl)
        clear af hk;go_wp2_with fail;go_roundg (dh (D f.code) (λj=>decide (j=q)||dn j)+1)
        case measure=>have:=ds.j;omega
        case rel=>exact⟨_,_,_,_,rfl,a9,by rw[fz,ds]⟩
   · have hb:(tq !=1)=AT:=by simp[h1]
     have Uj:U (∀j,j<q+1->¬tv j=1):=aJ (λj hj=>by
      by_cases e:j=q
      · subst e;rw[av];exact h1
      exact a6 j Q5)
     clear h1 av;go_wp2_with fail;exact⟨⟨QE,q+1,Q6,IN,Uj.j⟩,Qh⟩
 have gg:q=D f.code:=by omega
 subst gg;have aB:U (jI u f=-1):=aJ (by
  unfold jI;rw[eo,sG (HL.no a6)])
 have fm:=aJ (bL.trans HL.gr);clear IN hq;go_wp2_with fail;go_ret
 exact⟨by rw[aB];rfl,fm⟩
end Go.Proofs.YtghjmnlapcpbiaaGreatDoor
