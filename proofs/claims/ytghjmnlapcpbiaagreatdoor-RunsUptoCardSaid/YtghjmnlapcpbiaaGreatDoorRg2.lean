import Derived.Test.YtghjmnlapcpbiaaGreatDoorR2
import Derived.Deep.AppendLies
import Derived.Laws.CopyOwn
import Derived.Lib.OwnKind
namespace Go.Proofs.YtghjmnlapcpbiaaGreatDoor
open _root_ renaming Option.some->Y,Option.none->G,Go.Value.int->O,Go.IntKind.i64->Z,Go.Value.slice->J,List->I,Nat->R,Int->A,Go.World.cell?->H,List.length->D,Go.Obj.cells->X,Go.Value->M,Go.World->T,Go.Addr.mk->Q,Go.RowKit.Hid->U,UInt8->AI,Bool.false->AS,Bool.true->AT,Option->By
open Go.Proofs.Tryz
open Go.RowKit
set_option linter.defProp false
variable{K:Act->T->Prop}{listed:Array Bool}{cur:Array M}{all:Bool}{xs:I M}{B b fuel g i lo n ob x y:R}{P':R->Prop}{V:R->M}{oi ox oy:Oper}{e t:TypeId}{x0 x1 x2 x3 x4 y0 y1 y2 y3 y4 z:M}{w w':T}
def eJ:=@Array.getElem?_eq_some_iff.{0}
def Bk:=@List.cons.injEq.{0}
def Ce:=@List.mem_cons.{0}
def Ch:=@Value.agg.injEq
def FL:=@Array.mk.injEq.{0}
def Ha:=@List.getElem?_map.{0,0}
def I7:=@and_true
def Jb:=@Array.setIfInBounds_comm.{0}
def JQ:=@List.getElem?_cons_zero.{0}
def Kw:=@List.eq_nil_of_length_eq_zero.{0}
def Lg:=@Region.noSelect_spec
def Lk:=@Array.getElem?_toList.{0}
def Lr:=@run_underlying
def Lw:=@wanted_put
def Ly:=@Array.getElem?_eq_getElem.{0}
def LW:=@List.length_nil.{0}
def L8:=@Act.put_comm
def Mo:=@Nat.add_zero
def MF:=@Oper.apart_spec
def MP:=@Nat.mul_le_mul
def MQ:=@wpAnyH_all
def MS:=@Nat.zero_mul
def M3:=@Oper.upon_enter
def Nb:=@Calls.mono
def Nc:=@Ne.symm.{1}
set_option maxRecDepth 100000
set_option maxHeartbeats 2000000
set_option linter.unusedVariables false
set_option linter.unusedSimpArgs false
open Go.RowKit
def put5(w:T)(b:R)(x0 x1 x2 x3 x4:M):T:=((((w.setCell (Q b 0 G) x0).setCell (Q b 1 G) x1).setCell (Q b 2 G) x2).setCell (Q b 3 G) x3).setCell (Q b 4 G) x4
theorem fd(w:T)(b:R)(x0 x1 x2 x3 x4:M):((((w.setCell (Q b 0 G) x0).setCell (Q b 1 G) x1).setCell (Q b 2 G) x2).setCell (Q b 3 G) x3).setCell (Q b 4 G) x4=put5 w b x0 x1 x2 x3 x4:=rfl
theorem eI(y0 y1 y2 y3 y4:M)(h:da w b x0 x1 x2 x3 x4):da (put5 w b y0 y1 y2 y3 y4) b y0 y1 y2 y3 y4:=((((h.set0 y0).set1 y1).set2 y2).set3 y3).set4 y4
theorem fY{w1:T}(h:Gr w w1)(d:w.heap.size<=b):Gr w (put5 w1 b y0 y1 y2 y3 y4):=dC (dC (dC (dC (dC h d) d) d) d) d
theorem gq{v:M}{u:aK}(h:mX B w v u)(d:b<B):mX B (put5 w b y0 y1 y2 y3 y4) v u:=((((h.kp (aX d)).kp (aX d)).kp (aX d)).kp (aX d)).kp (aX d)
theorem Cx(h:¬b=g)(d:eQ w g x0 x1 x2):eQ (put5 w b y0 y1 y2 y3 y4) g x0 x1 x2:=((((d.other h).other h).other h).other h).other h
theorem Cb(h:¬b=g)(d:da w g x0 x1 x2 x3 x4):da (put5 w b y0 y1 y2 y3 y4) g x0 x1 x2 x3 x4:=((((d.other h).other h).other h).other h).other h
def JV(w:T)(ub:R):aK ⊕ (A×R)->Ending->T->Prop
 | .inl u,x,w'=>∃v1 v2 v3 v4 v5 B w1,x=.returned (.tuple #[])/\w.heap.size<=B/\mX B w1 (.agg #[v1,v2,v3,v4,v5]) u/\Gr w w1/\w'=put5 w1 ub v1 v2 v3 v4 v5
 | .inr (e,p),x,w'=>x=.panicked (iT e p)/\Gr w w'
theorem Es(s:ByteArray)(tb ub:R)(x0 x1 x2 x3 x4:M)(w:T)(ht:H w (Q tb 0 G)=Y (.string s))(hs:s.size<=maxLen)(T1:da w ub x0 x1 x2 x3 x4):
 Calls prog 28 #[.pointer (Y (Q tb 0 G)),.pointer (Y (Q ub 0 G))] w (JV w ub (lk s.data.toList)):=by
 have HB:=aJ T1;generalize hT:lk _=DDq;go_enter func28,ntmps28
 go_wp2_with fail;refine(FG FN s _ hs).mono ?_;rw[hT];intro x w1 h;cases DDq with
 | inl u=>
  obtain⟨v,B,rfl,hB,hu,d⟩:=h;obtain⟨v1,v2,v3,v4,v5,rfl,k1,k2,k3,k4,k5⟩:=hu;obtain⟨a1,c1,rfl⟩:=k1.shape;obtain⟨a2,c2,rfl⟩:=k2.shape;obtain⟨a3,c3,rfl⟩:=k3.shape;obtain⟨a4,c4,rfl⟩:=k4.shape;obtain⟨a5,c5,rfl⟩:=k5.shape;have HU:U (mX B _ _ u):=aJ ⟨_,_,_,_,_,rfl,k1,k2,k3,k4,k5⟩;have HG:=aJ d;have F:=aJ hB;obtain⟨b0,b1,b2,b3,b4,d0,d1,d2,d3,d4⟩:=HB.gr d;go_wp2;rw[fd];go_end0
  exact⟨_,_,_,_,_,B,_,rfl,F,HU,HG,rfl⟩
 | inr q=>
  obtain⟨e,p⟩:=q;obtain⟨rfl,d⟩:=h;exact⟨rfl,rfl,d⟩
def KI(w:T):aK ⊕ (A×R)->Ending->T->Prop
 | .inl u,x,w'=>∃v B,x=.returned (.tuple #[v,O Z 0,O Z 0])/\w.heap.size<=B/\mX B w' v u/\Gr w w'
 | .inr (e,p),x,w'=>x=.returned (.tuple #[.agg yF,O Z e,O Z p])/\Gr w w'
def I5(w:T):aK ⊕ (A×R)->T->Prop
 | .inl u,w1=>∃v1 v2 v3 v4 v5 B,w.heap.size+4<=B/\mX B w1 (.agg #[v1,v2,v3,v4,v5]) u/\Gr w w1/\da w1 (w.heap.size+2) v1 v2 v3 v4 v5/\da w1 (w.heap.size+1) (J G 0 0) (J G 0 0) (J G 0 0) (J G 0 0) (J G 0 0)
 | .inr _,_=>False
def H_(w:T):aK ⊕ (A×R)->A->A->A->T->Prop
 | .inl _,_,_,_,_=>False
 | .inr (e,p),e',_,p',w1=>e'=e/\p'=p/\Gr w w1/\da w1 (w.heap.size+2) (J G 0 0) (J G 0 0) (J G 0 0) (J G 0 0) (J G 0 0)/\da w1 (w.heap.size+1) (J G 0 0) (J G 0 0) (J G 0 0) (J G 0 0) (J G 0 0)
def yt(w:T)(s:ByteArray):T:=((((w.alloc (X #[.string s] 9)).alloc (X yF 58)).alloc (X yF 58)))
theorem GC(w:T)(s:ByteArray):((((w.alloc (X #[.string s] 9)).alloc (X yF 58)).alloc (X yF 58)))=yt w s:=rfl
theorem As(w:T)(s:ByteArray):H (yt w s) (Q w.heap.size 0 G)=Y (.string s)/\da (yt w s) (w.heap.size+1) (J G 0 0) (J G 0 0) (J G 0 0) (J G 0 0) (J G 0 0)/\da (yt w s) (w.heap.size+2) (J G 0 0) (J G 0 0) (J G 0 0) (J G 0 0) (J G 0 0)/\Gr w (yt w s)/\(yt w s).heap.size=w.heap.size+3:=by
 unfold yt;refine⟨Ql,⟨?_,?_,?_,?_,?_,?_,?_,?_,?_,?_⟩,⟨?_,?_,?_,?_,?_,?_,?_,?_,?_,?_⟩,((G5).alloc _).alloc _,Q6⟩<;>simp[go_sem]
theorem zb(s:ByteArray)(w:T)(hs:s.size<=maxLen):
 Calls prog 15 #[.string s] w (KI w (lk s.data.toList)):=by
 have HF:=aJ (As w s);generalize hD:lk _=DDq;go_enter func15,ntmps15
 go_wp2_with fail;rw[GC];obtain⟨ht,hrb,T1,al,S7⟩:=HF.j;generalize yt w s=V at ht hrb T1 al S7 |-;have TZ:=eQ.new V 91 (O Z 0) (O Z 0) (O Z 0);have F:=Gr.alloc (Gr.refl V) (X #[O Z 0,O Z 0,O Z 0] 91);have aF:(V.alloc (X #[O Z 0,O Z 0,O Z 0] 91)).heap.size=V.heap.size+1:=Q6;refine(nJ _ _ V (I5 w DDq) (H_ w DDq) (λw=>rfl)
  ((Es s _ _ _ _ _ _ _ _ (F.cell ht Q6) hs (T1.gr F)).mono ?_)).mono ?_
 · rw[hD];intro x w' h;cases DDq with
   | inl u=>
    obtain⟨v1,v2,v3,v4,v5,B,w1,rfl,hB,hu,hg,rfl⟩:=h;refine⟨?_,.inl ⟨rfl,_,_,_,_,_,B,Q5,gq hu Q5,fY ((al.trans F).trans hg) Q5,eI _ _ _ _ _ ((T1.gr F).gr hg),Cb Q5 ((hrb.gr F).gr hg)⟩⟩;exact Cx Q5 (TZ.gr hg)
   | inr q=>
    obtain⟨e,p⟩:=q;obtain⟨rfl,hg⟩:=h;exact⟨TZ.gr hg,.inr ⟨e,0,p,rfl,rfl,rfl,(al.trans F).trans hg,(T1.gr F).gr hg,(hrb.gr F).gr hg⟩⟩
 clear TZ F aF ht al T1 hrb hD hs;rintro x w2 ⟨w1,d,az,h⟩;cases DDq with
 | inl u=>
  rcases h with⟨rfl,h⟩|⟨e,n,a,rfl,h⟩
  · obtain⟨v1,v2,v3,v4,v5,B,hB,hu,hg,TJ,hrb⟩:=h;have HU:=aJ (hu.kp (d.kp Q5));have HG:=aJ (iZ hg d Q5);have ax:=aJ hB;have af:=TJ.gc d Q5;have ae:=hrb.gc d Q5;have TV:w.heap.size+3<w2.heap.size:=by have h1:=az;have h2:=d.size;omega
    obtain⟨aH,aM,aL,a0,aI,he,k1,k2,k3,k4,k5⟩:=HU.j;simp only[Ch,FL,Bk,I7]at he;obtain⟨rfl,rfl,rfl,rfl,rfl⟩:=he;obtain⟨a1,c1,rfl⟩:=k1.shape;obtain⟨a2,c2,rfl⟩:=k2.shape;obtain⟨a3,c3,rfl⟩:=k3.shape;obtain⟨a4,c4,rfl⟩:=k4.shape;obtain⟨a5,c5,rfl⟩:=k5.shape;have IT:=Gr.alloc (Gr.refl w2) (X #[O Z 0,O Z 0,O Z 0] 91);have ai:=eQ.new w2 91 (O Z 0) (O Z 0) (O Z 0);have OF:=aJ (HG.trans IT);have ay:=aJ (HU.kp IT.kp);obtain⟨b0,b1,b2,b3,b4,d0,d1,d2,d3,d4⟩:=af.gr IT;have ad:=aJ (ae.gr IT);obtain⟨r0,r1,r2,r3,r4,s0,s1,s2,s3,s4⟩:=ad.j;have av:=ai.1;have Ut:=ai.2.2.1;have Ti:¬w2.heap.size=w.heap.size+1:=Q5;have T9:¬w.heap.size+1=w2.heap.size:=Q5;go_wp2;generalize w2.alloc _=W3 at b0 b1 b2 b3 b4 r0 r1 r2 r3 r4 s0 s1 s2 s3 s4 av Ut OF ad ay |-;go_region_held3 (λw'=>H w' (Q w2.heap.size 0 G)=Y (O Z 0)/\H w' (Q w2.heap.size 2 G)=Y (O Z 0)/\H w' ⟨w.heap.size+2,0,G⟩=Y (J a1 (D u.aA) c1)/\H w' ⟨w.heap.size+2,1,G⟩=Y (J a2 (D u.aE) c2)/\H w' ⟨w.heap.size+2,2,G⟩=Y (J a3 (D u.aG) c3)/\H w' ⟨w.heap.size+2,3,G⟩=Y (J a4 (D u.aC) c4)/\H w' ⟨w.heap.size+2,4,G⟩=Y (J a5 (D u.aD) c5)) (go_keep) (fail)
    rw[fd];have ak:=eI (J a1 (D u.aA) c1) (J a2 (D u.aE) c2) (J a3 (D u.aG) c3) (J a4 (D u.aC) c4) (J a5 (D u.aD) c5) ad;have Te:=aJ (fY (b:=w.heap.size+1) (y0:=J a1 (D u.aA) c1) (y1:=J a2 (D u.aE) c2) (y2:=J a3 (D u.aG) c3) (y3:=J a4 (D u.aC) c4) (y4:=J a5 (D u.aD) c5) OF Q5);have aB:=aJ (gq (b:=w.heap.size+1) (y0:=J a1 (D u.aA) c1) (y1:=J a2 (D u.aE) c2) (y2:=J a3 (D u.aG) c3) (y3:=J a4 (D u.aC) c4) (y4:=J a5 (D u.aD) c5) ay (by have:=ax.j;omega));generalize put5 _ _ _ _ _ _ _=W4 at ak Te aB |-;obtain⟨r0,r1,r2,r3,r4,s0,s1,s2,s3,s4⟩:=(show da W4.drew _ _ _ _ _ _ from ak);go_wp2;exact qn (by simp[results,results15,go_sem,r0,r1,r2,r3,r4]) rfl ⟨_,B,rfl,by have:=ax.j;omega,aB.kp (Gy).kp,Te.drew⟩
  exact h.elim
 | inr q=>
  obtain⟨e,p⟩:=q;rcases h with⟨rfl,h⟩|⟨e',n,a,rfl,h⟩
  · exact h.elim
  obtain⟨rfl,rfl,hg,TJ,hrb⟩:=h;have HG:=aJ (iZ hg d Q5);have af:=TJ.gc d Q5;have ae:=hrb.gc d Q5;have TV:w.heap.size+3<w2.heap.size:=by have h1:=az;have h2:=d.size;omega
  have IT:=Gr.alloc (Gr.refl w2) (X #[O Z e',O Z n,O Z p] 91);have ai:=eQ.new w2 91 (O Z e') (O Z n) (O Z p);have OF:=aJ (HG.trans IT);obtain⟨b0,b1,b2,b3,b4,d0,d1,d2,d3,d4⟩:=af.gr IT;have ad:=aJ (ae.gr IT);obtain⟨r0,r1,r2,r3,r4,s0,s1,s2,s3,s4⟩:=ad.j;have av:=ai.1;have Ut:=ai.2.2.1;have Ti:¬w2.heap.size=w.heap.size+1:=Q5;have T9:¬w.heap.size+1=w2.heap.size:=Q5;go_wp2;generalize w2.alloc _=W3 at b0 b1 b2 b3 b4 r0 r1 r2 r3 r4 s0 s1 s2 s3 s4 av Ut OF ad |-;go_region_held3 (λw'=>H w' (Q w2.heap.size 0 G)=Y (O Z e')/\H w' (Q w2.heap.size 2 G)=Y (O Z (p:A))/\H w' ⟨w.heap.size+2,0,G⟩=Y (J G 0 0)/\H w' ⟨w.heap.size+2,1,G⟩=Y (J G 0 0)/\H w' ⟨w.heap.size+2,2,G⟩=Y (J G 0 0)/\H w' ⟨w.heap.size+2,3,G⟩=Y (J G 0 0)/\H w' ⟨w.heap.size+2,4,G⟩=Y (J G 0 0)) (go_keep) (fail)
  rw[fd];have ak:=eI (J G 0 0) (J G 0 0) (J G 0 0) (J G 0 0) (J G 0 0) ad;have Te:=aJ (fY (b:=w.heap.size+1) (y0:=J G 0 0) (y1:=J G 0 0) (y2:=J G 0 0) (y3:=J G 0 0) (y4:=J G 0 0) OF Q5);generalize put5 _ _ _ _ _ _ _=W4 at ak Te |-;obtain⟨r0,r1,r2,r3,r4,s0,s1,s2,s3,s4⟩:=(show da W4.drew _ _ _ _ _ _ from ak);go_wp2;exact qn (by simp[results,results15,go_sem,r0,r1,r2,r3,r4]) rfl ⟨rfl,Te.drew⟩
structure Ap(base:R)(e:TypeId)(n:R)(w:T)(v:M)(w':T)(v':M)(len:R)(xs:I M):Prop where
 own:w'.ownsRow base e n v' len xs
 frm:w.grownBy w' v.ownBlock
 lies:∀k,v'.ownBlock=Y k->v.ownBlock=Y k\/w.heap.size<=k
theorem Ov{p:Prop}(h:p:=by
 intro j u hj;have e:(⟨w.heap.size,0,G⟩:Addr).add j=⟨w.heap.size,j,G⟩:=by simp[Addr.add];try (intro h;exact h.symm)
 rw[e];have h:=World.cell?_alloc_mark w ys t (0,0) j;exact h.trans (by rw[<-Lk];exact hj)):p:=h
theorem lx(w:T)(ys:Array M)(t:TypeId):∀j u,ys.toList[j]? =Y u->H (w.alloc (X ys t)) ((⟨w.heap.size,0,G⟩:Addr).add j)=Y u:=by
 exact Ov
section
variable {ops:Array Oper} {rest:I Oper} {o:Oper} {a:Act} {QQq:Exit->Act->T->Prop}
theorem PU{p:Prop}(h:p:=by
 rcases k4 with e|e
 · exact .inl (e▸hk)
 rw[hk]at e;simp at e;right;omega):p:=h
theorem bS(w:T)(TA:o.guard=G)(s x:Operand)(t e:TypeId)(n bytes:R)(zero:M)(inf:(prog.info? e).map (λi=>(i.zero,i.size,i.bytes))=Y (Y zero,n,bytes))(ht:prog.underlying t=Y (.slice e))(VR:zero.cells.size=n)(hn:0<n)(Vk:bytes<=1000)
 (ho:o.op=.call { callee:=.builtin .append,args:=#[s,x],argTypes:=#[t,t] })
 (base:R) (v:M) (len:R) (xs:I M) (hs:a.eval s=v) (Tf:w.ownsRow base e n v len xs) (ys:Array M) (F:ys.size=n) (h1:∀u∈ys.toList,u.oneCell'=AT)
 (HHq:R) (hx:a.eval x=J (Y (Q HHq 0 G)) 1 1) (hH:w.heap.size=HHq) (hlen:len<=10000000) (d:base<=w.heap.size)
 (h:∀v' w',Ap base e n w v w' v' (len+1) (xs++ys.toList)->wpList prog ops QQq rest (a.put o.dst v') w'):
 wpList prog ops QQq (o::rest) a (w.alloc (X ys e)):=by
 subst hH;obtain⟨i0,hi,TU,Ty,TO⟩:=Lt inf;refine wpList_append_own_at _ TA s x t ho _ e _ _ n _ ht hi TU Ty TO VR hn v _ _ hs (Tf.alloc _) _ 1 1 _ hx (by rw[Aj,F,Nf]) (lx _ _ _) h1 QB (wz (MP (Nat.add_le_add_right hlen 1) Vk) Q9) jB ?_;intro v' w' k1 k2 _ k4;refine h _ _ ⟨k1,(zp w _ _).trans k2,λk hk=>?_⟩;exact PU
end
def gD(P:R->Prop)(w:T)(v:M)(l:I A):Prop:=
 ∃ao cap,v=J ao (D l) cap/\D l<=maxLen/\∀i y,l[i]? =Y y->∃b off,ao=Y (Q b off G)/\P b/\H w ⟨b,off+i,G⟩=Y (O Z y)
def jz(P:R->Prop)(w:T)(v:M)(l:I (I A)):Prop:=
 ∃ao cap,v=J ao (D l) cap/\D l<=maxLen/\∀i x,l[i]? =Y x->∃b off vx,ao=Y (Q b off G)/\P b/\H w ⟨b,off+i,G⟩=Y vx/\gD P w vx x
def kG(P:R->Prop)(w:T)(v:M)(l:I bP):Prop:=
 ∃ao cap,v=J ao (D l) cap/\D l<=maxLen/\∀i x,l[i]? =Y x->∃b off,ao=Y (Q b off G)/\P b/\
  w.cell? ⟨b,off+i*3,G⟩=Y (O Z x.op)/\H w ⟨b,off+i*3+1,G⟩=Y (O Z x.a)/\H w ⟨b,off+i*3+2,G⟩=Y (O Z x.b)
def lN(P:R->Prop)(w:T)(v:M)(l:I aQ):Prop:=
 ∃ao cap,v=J ao (D l) cap/\D l<=maxLen/\∀i x,l[i]? =Y x->∃b off vp vl vc,ao=Y (Q b off G)/\P b/\
  w.cell? ⟨b,off+i*4,G⟩=Y vp/\H w ⟨b,off+i*4+1,G⟩=Y (O Z x.result)/\H w ⟨b,off+i*4+2,G⟩=Y vl/\H w ⟨b,off+i*4+3,G⟩=Y vc/\
  gD P w vp x.aH/\gD P w vl x.aI/\kG P w vc x.code
def jU(P:R->Prop)(w:T)(v:M)(l:I eL):Prop:=
 ∃ao cap,v=J ao (D l) cap/\D l<=maxLen/\∀i x,l[i]? =Y x->∃b off vs vp,ao=Y (Q b off G)/\P b/\
  w.cell? ⟨b,off+i*3,G⟩=Y vs/\H w ⟨b,off+i*3+1,G⟩=Y vp/\H w ⟨b,off+i*3+2,G⟩=Y (O Z x.result)/\
  iU vs x.name/\gD P w vp x.aH
def jg(P:R->Prop)(w:T)(v:M)(l:I cJ):Prop:=
 ∃ao cap,v=J ao (D l) cap/\D l<=maxLen/\∀i x,l[i]? =Y x->∃b off vs,ao=Y (Q b off G)/\P b/\
  w.cell? ⟨b,off+i*2,G⟩=Y vs/\H w ⟨b,off+i*2+1,G⟩=Y (O Z x.func)/\iU vs x.name
def gZ(P P':R->Prop)(w w':T):Prop:=∀b,P b->b<w.heap.size->w'.heap[b]? =w.heap[b]? /\P' b
theorem gZ.cell{P:R->Prop}(h:gZ P P' w w'){b o:R}{x:M}(F:P b)(d:H w (Q b o G)=Y x):H w' (Q b o G)=Y x/\P' b:=by
 obtain⟨h1,h2⟩:=h b F (wI w _ d);exact⟨(so h1).trans d,h2⟩
theorem gD.stay{P:R->Prop}{v:M}{l:I A}(h:gD P w v l)(g:gZ P P' w w'):gD P' w' v l:=by
 obtain⟨ao,cap,hv,hm,hc⟩:=h;refine⟨_,_,hv,hm,λi x hi=>?_⟩;obtain⟨b,off,h1,d,F⟩:=hc i x hi;exact⟨b,_,h1,(g.cell d F).2,(g.cell d F).1⟩
theorem kG.stay{P:R->Prop}{v:M}{l:I bP}(h:kG P w v l)(g:gZ P P' w w'):kG P' w' v l:=by
 obtain⟨ao,cap,hv,hm,hc⟩:=h;refine⟨_,_,hv,hm,λi x hi=>?_⟩;obtain⟨b,off,h1,d,F,h4,h5⟩:=hc i x hi;exact⟨b,_,h1,(g.cell d F).2,(g.cell d F).1,(g.cell d h4).1,(g.cell d h5).1⟩
theorem jz.stay{P:R->Prop}{v:M}{l:I (I A)}(h:jz P w v l)(g:gZ P P' w w'):jz P' w' v l:=by
 obtain⟨ao,cap,hv,hm,hc⟩:=h;refine⟨_,_,hv,hm,λi x hi=>?_⟩;obtain⟨b,off,vx,h1,d,F,h4⟩:=hc i x hi;exact⟨b,_,_,h1,(g.cell d F).2,(g.cell d F).1,h4.stay g⟩
theorem lN.stay{P:R->Prop}{v:M}{l:I aQ}(h:lN P w v l)(g:gZ P P' w w'):lN P' w' v l:=by
 obtain⟨ao,cap,hv,hm,hc⟩:=h;refine⟨_,_,hv,hm,λi x hi=>?_⟩;obtain⟨b,off,vp,vl,vc,h1,d,F,h4,h5,h6,h7,h8,h9⟩:=hc i x hi;exact⟨b,_,_,_,_,h1,(g.cell d F).2,(g.cell d F).1,(g.cell d h4).1,(g.cell d h5).1,(g.cell d h6).1,h7.stay g,h8.stay g,h9.stay g⟩
theorem jU.stay{P:R->Prop}{v:M}{l:I eL}(h:jU P w v l)(g:gZ P P' w w'):jU P' w' v l:=by
 obtain⟨ao,cap,hv,hm,hc⟩:=h;refine⟨_,_,hv,hm,λi x hi=>?_⟩;obtain⟨b,off,vs,vp,h1,d,F,h4,h5,h6,h7⟩:=hc i x hi;exact⟨b,_,_,_,h1,(g.cell d F).2,(g.cell d F).1,(g.cell d h4).1,(g.cell d h5).1,h6,h7.stay g⟩
theorem jg.stay{P:R->Prop}{v:M}{l:I cJ}(h:jg P w v l)(g:gZ P P' w w'):jg P' w' v l:=by
 obtain⟨ao,cap,hv,hm,hc⟩:=h;refine⟨_,_,hv,hm,λi x hi=>?_⟩;obtain⟨b,off,vs,h1,d,F,h4,h5⟩:=hc i x hi;exact⟨b,_,_,h1,(g.cell d F).2,(g.cell d F).1,(g.cell d h4).1,h5⟩
theorem nz{α:Type}{f:α->I M}(d:∀x,D (f x)=n):∀{l:I α} {i j:R} {x:α},l[i]? =Y x->j<n->(l.flatMap f)[i*n+j]? =(f x)[j]?
 | [],i,j,x,h,_=>by simp at h
 | a::l,0,j,x,h,hj=>by
  simp only[JQ,qN]at h;subst h;rw[I',MS,Aq,ze (by rw[d];exact hj)]
 | a::l,i+1,j,x,h,hj=>by
  rw[List.getElem?_cons_succ]at h;rw[I',Ag (by rw[d,LV];omega),d,show(i+1)*n+j-n=i*n+j by rw[LV];omega];exact nz d h hj
theorem kV{α:Type}{f:α->I M}(d:∀x,D (f x)=n):∀(l:I α),D (l.flatMap f)=D l*n
 | []=>by simp
 | a::l=>by rw[I',fe,d,kV d l,Jk,LV];omega
theorem iE{len:R}{v:M}(h:w.ownsRow B e n v len xs){j:R}(d:j<len*n):∃g,v.ownBlock=Y g/\B<=g/\(∃cap,v=J (Y (Q g 0 G)) len cap)/\H w ⟨g,0+j,G⟩=xs[j]? :=by
 have h':=h;rcases h.2 with⟨rfl,rfl⟩|⟨g,cap,cur,rfl,F,_⟩
 · simp at d
 exact⟨g,rfl,F,⟨_,rfl⟩,by rw[Aq];exact h'.cellAt j d⟩
theorem bD{len:R}{v:M}(h:w.ownsRow B e n v len xs):(∃ao cap,v=J ao len cap)/\len<=maxLen:=by
 rcases h.2 with⟨rfl,rfl⟩|⟨g,cap,cur,rfl,hg,_,F,d,_⟩
 · exact⟨⟨_,0,rfl⟩,SF⟩
 exact⟨⟨_,_,rfl⟩,wz F d⟩
theorem zq{v:M}{α:Type}{f:α->I M}{l:I α}(hf:∀x,D (f x)=n)(h:w.ownsRow B e n v (D l) (l.flatMap f))(hn:0<n):
 ∃ao cap,v=J ao (D l) cap/\D l<=maxLen/\∀i x,l[i]? =Y x->∃b,ao=Y (Q b 0 G)/\B<=b/\v.ownBlock=Y b/\∀j,j<n->H w ⟨b,0+(i*n+j),G⟩=(f x)[j]? :=by
 obtain⟨⟨ao,cap,hv⟩,hm⟩:=bD h;refine⟨_,_,hv,hm,λi x hi=>?_⟩;have Ug:=(dm.1 hi).1;have hb:∀j,j<n->i*n+j<D l*n:=λj hj=>by
  have d:(i+1)*n<=D l*n:=Jl _ Ug;rw[LV]at d;omega
 obtain⟨g,d,h2,⟨Un,h3⟩,_⟩:=iE h (hb 0 hn);refine⟨g,?_,h2,d,λj hj=>?_⟩
 · rw[hv]at h3;simp only[jj]at h3;exact h3.1
 obtain⟨g',F,_,_,k4⟩:=iE h (hb j hj);rw[d]at F;simp only[qN]at F;subst F;rw[k4];exact nz hf hi hj
theorem AY{P:Program}(w:T)(dT sT ty elem:TypeId)(n g F al:R)(sp:By Addr)(d ae:R)(cur:Array M)(t:TypeId)(cs:I M)
 (hu:P.underlying dT=Y (.slice elem)) (hs:(P.info? elem).map (·.size)=Y n) (hg:w.heap[g]? =Y (X cur t (0,0))) (hle:d<=F) (hn:D cs=d*n)
 (ai:0<d->∃ad,sp=Y ad/\∀j v,cs[j]? =Y v->H w (ad.add j)=Y v) (ak:D cs<=cur.size) (h1:∀v∈cs,v.oneCell'=AT):
 (Builtin.copy_ #[dT,sT] ty #[J (Y (Q g 0 G)) F al,J sp d ae]).run P w=.ok (goInt d) (w.setRow g (cs++cur.toList.drop (D cs)).toArray):=by
 have Vv:Nat.min _ _=d:=Mn hle;cases hq:P.info? elem with
 | none=>simp[hq]at hs
 | some i=>
  have hi:=by simpa[hq]using hs
  have Tj:=run_storeCells_at P g 0 t _ 0 _ w hg (by simpa using ak) h1;simp only[Mo,List.take_zero,Kj,Aq]at Tj;by_cases h0:d=0
  · subst h0;obtain rfl:=Kw (by rw[hn];simp);simp only[Kj,LW,List.drop_zero,Array.toArray_toList];rw[setRow_self w g _ t _ hg];cases sp with
    | none=>simp[Builtin.copy_,Lr hu,Builtin.lenOf,Builtin.firstCells,sizeOf,typeInfo,hq,storeCells]
    | some ad=>
     have hl:=run_loadCells_list (P:=P) w ad [] Q6;simp at hl
     simp[Builtin.copy_,Lr hu,Builtin.lenOf,Builtin.firstCells,sizeOf,typeInfo,hq,storeCells,hl]
  obtain⟨ad,rfl,af⟩:=ai Q5;have hl:=run_loadCells_list (P:=P) w _ _ af;rw[hn]at hl;simp[Builtin.copy_,Lr hu,Builtin.lenOf,Builtin.firstCells,sizeOf,typeInfo,hq,hi,Vv,hl,Tj]
abbrev gz:M:=O Z (-77000000)
abbrev nS:M:=J G 0 0
abbrev zI:M:=O Z 0
abbrev eS:M:=.string ⟨#[]⟩
abbrev oI:M:=.string ⟨#[105,110,107]⟩
def wQ(r:R×R):M:=J (Y (Q r.1 0 G)) r.2 r.2
def oT:R->TypeId
 | 0=>26|1=>25|2=>72|3=>54|4=>55|5=>56|6=>22|_=>53
def eT:R->TypeId
 | 0=>3|1=>26|2=>87|3=>74|4=>89|5=>71|6=>9|_=>58
def sZ:R->R
 | 0=>1|1=>1|2=>3|3=>4|4=>3|5=>2|6=>1|_=>5
def lH(P:R->Prop)(w:T)(b k:R):R->Prop
 | 0=>H w (Q b k G)=Y gz
 | 1=>∃b',H w (Q b k G)=Y (J (Y (Q b' 0 G)) 1 1)/\P b'/\w.heap[b']? =Y (X #[gz] 3 (0,0))
 | 2=>H w ⟨b,k*3,G⟩=Y gz/\H w ⟨b,k*3+1,G⟩=Y zI/\H w ⟨b,k*3+2,G⟩=Y zI
 | 3=>H w ⟨b,k*4,G⟩=Y nS/\H w ⟨b,k*4+1,G⟩=Y gz/\H w ⟨b,k*4+2,G⟩=Y nS/\H w ⟨b,k*4+3,G⟩=Y nS
 | 4=>H w ⟨b,k*3,G⟩=Y eS/\H w ⟨b,k*3+1,G⟩=Y nS/\H w ⟨b,k*3+2,G⟩=Y gz
 | 5=>H w ⟨b,k*2,G⟩=Y eS/\H w ⟨b,k*2+1,G⟩=Y gz
 | 6=>H w (Q b k G)=Y oI
 | _=>∃b',H w ⟨b,k*5,G⟩=Y nS/\H w ⟨b,k*5+1,G⟩=Y (J (Y (Q b' 0 G)) 1 1)/\H w ⟨b,k*5+2,G⟩=Y nS/\H w ⟨b,k*5+3,G⟩=Y nS/\H w ⟨b,k*5+4,G⟩=Y nS/\P b'/\w.heap[b']? =Y (X #[gz] 3 (0,0))
structure gM(P:R->Prop)(w:T)(f:R)(all:Bool)(r:R×R):Prop where
 here:P r.1
 two:2<=r.2
 most:r.2<=10000000
 cells:∃cs:Array M,w.heap[r.1]? =Y (X cs (eT f) (0,0))/\cs.size=r.2*sZ f
 inked:∀k,(all=AT\/r.2<=k+2)->k<r.2->lH P w r.1 k f
def PO(lo ob:R)(V:R->M)(b:R):Prop:=lo<=b/\¬b=ob/\∀f,f<8->¬(V f).ownBlock=Y b
structure cg(lo:R)(w:T)(ob:R)(all:Bool)(V:R->M)(S:R->I (R×R)):Prop where
 box:w.heap[ob]? =Y (X #[V 0,V 1,V 2,V 3,V 4,V 5,V 6,V 7] 43 (0,0))
 low:lo<=ob
 own:∀f,f<8->w.ownsRow lo (oT f) 1 (V f) (D (S f)) ((S f).map wQ)
 rows:∀f,f<8->∀r∈S f,gM (PO lo ob V) w f all r
theorem bM{o:Obj}(h:w.heap[b]? =Y o):b<w.heap.size:=(eJ.1 h).1
theorem bY{base:R}{v:M}{len:R}(h:w.ownsRow base e n v len xs)(hs:∀g,v.ownBlock=Y g->w'.heap[g]? =w.heap[g]?):w'.ownsRow base e n v len xs:=by
 refine⟨h.1,?_⟩;rcases h.2 with⟨h1,d⟩|⟨g,cap,cur,rfl,d,h3,F⟩
 · exact .inl ⟨h1,d⟩
 exact .inr ⟨g,_,_,rfl,d,(hs g rfl).trans h3,F⟩
theorem bK{o:R}{v:M}(d:w.heap[g]? =Y (X cur t (0,0))):(w.setCell (Q g o G) v).heap[g]? =Y (X (cur.setIfInBounds o v) t (0,0)):=by
 rw[setCell_eq_setRow w g o _ t _ v d];exact Kg w g _ _ t _ d
theorem cg.cell{S:R->I (R×R)}(h:cg lo w ob all V S):∀f,f<8->H w (Q ob f G)=Y (V f)
 | 0,_=>by simp[World.cell?,h.box]
 | 1,_=>by simp[World.cell?,h.box]
 | 2,_=>by simp[World.cell?,h.box]
 | 3,_=>by simp[World.cell?,h.box]
 | 4,_=>by simp[World.cell?,h.box]
 | 5,_=>by simp[World.cell?,h.box]
 | 6,_=>by simp[World.cell?,h.box]
 | 7,_=>by simp[World.cell?,h.box]
 | _+8,hf=>by omega
theorem cg.row{S:R->I (R×R)}(h:cg lo w ob all V S){f:R}(d:f<8){i:R}{r:R×R}(hi:(S f)[i]? =Y r):
 ∃g cap,V f=J (Y (Q g 0 G)) (D (S f)) cap/\H w (Q g i G)=Y (J (Y (Q r.1 0 G)) r.2 r.2)/\gM (PO lo ob V) w f all r:=by
 have Ug:=(dm.1 hi).1;obtain⟨g,h1,h2,⟨cap,F⟩,h4⟩:=iE (h.own f d) (j:=i) Q5;refine⟨g,_,F,?_,h.rows f d r (dL hi)⟩;rw[Aq]at h4;rw[h4,Ha,hi];rfl
theorem Tryz.ownInt:(Tryz.prog.info? 3).map (λi=>(i.zero,i.size,i.bytes))=Y (Y (O Z 0),1,8):=Q7
theorem Tryz.ownSlice:(Tryz.prog.info? 26).map (λi=>(i.zero,i.size,i.bytes))=Y (Y (J G 0 0),1,24):=Q7
theorem Tryz.ownFunc:(Tryz.prog.info? 74).map (λi=>(i.zero,i.size,i.bytes))=Y (Y (Value.agg #[J G 0 0,O Z 0,J G 0 0,J G 0 0]),4,80):=Q7
theorem Tryz.ownExp:(Tryz.prog.info? 71).map (λi=>(i.zero,i.size,i.bytes))=Y (Y (Value.agg #[.string ⟨#[]⟩,O Z 0]),2,24):=Q7
theorem Tryz.ownRow0:(Tryz.prog.info? 26).map (λi=>(i.zero,i.size,i.bytes))=Y (Y (J G 0 0),1,24):=Q7
theorem Cv{x:By TypeInfo}(h:x.map (λi=>(i.zero,i.size,i.bytes))=Y (Y z,n,b)):x.map (·.size)=Y n:=by
 cases x with
 | none=>cases h
 | some i=>simp only[Mb,qN,H9]at h |-;exact h.2.1
theorem pJ{sz d:R}{m:A}(ht:prog.underlying t=Y (.slice e))(inf:(prog.info? e).map (λi=>(i.zero,i.size,i.bytes))=Y (Y z,sz,d))(hb:d<=1000)(hn:n<=10000000)(hm:m=(n:A))(V:T):
 (Instr.makeSlice t (O Z m) (O Z m)).run prog V=.ok (J (Y (Q V.heap.size 0 G)) n n) (V.alloc (X (madeCells z.cells (n*sz)) e)):=by
 subst hm;obtain⟨i0,hi,TU,F,TO⟩:=Lt inf;have hle:=MP hb hn;have h:=Ng V t e _ z ht hi TU Z Z n n Q5 Q5 RM Q5;rw[F]at h;simpa using h
theorem pT{z:Array M}{j:R}(F:0<z.size)(d:j<n):(madeCells z n)[j]? =z[j%z.size]? :=by
 have hm:j%z.size<z.size:=Nat.mod_lt _ F;simp[madeCells,d,hm,Ly]
theorem R5{p:Prop}(h:p:=by show(w.heap.push _)[w.heap.size]? =_;simp):p:=h
theorem Ik(w:T)(d:Array M)(e:TypeId)(cs:I M):
 ((w.alloc (X d e)).setRow w.heap.size (cs++d.toList.drop (D cs)).toArray).heap[w.heap.size]? =Y (X (cs++d.toList.drop (D cs)).toArray e (0,0))/\Gr w ((w.alloc (X d e)).setRow w.heap.size (cs++d.toList.drop (D cs)).toArray):=by
 have h0:(w.alloc (X d e)).heap[w.heap.size]? =Y (X d e (0,0)):=R5
 refine⟨Kg _ _ d _ e _ h0,?_⟩;have F:=Gr.alloc (Gr.refl w) (X d e);exact⟨F.os,F.tape,F.output,by rw[setRow_size];exact F.size,λi hi No=>(Kk _ _ _ _ Q5).trans (F.block i hi No)⟩
theorem aN{j:R}(h:w.heap[b]? =Y (X cur e (0,0))):H w (Q b j G)=cur[j]? :=by simp[World.cell?,h]
theorem aT{j:R}(h:w.heap[b]? =Y (X cur e (0,0))):w.frozen? ⟨b,j,G⟩=AS:=by simp[World.frozen?,h]
theorem Hb{d:T}{o1 o2:R}{v1 v2:M}(h:Gr w d)(F:w.heap.size<=b):Gr w ((d.setCell (Q b o1 G) v1).setCell (Q b o2 G) v2):=dC (dC h F) F
theorem Q'{p:Prop}(h:p:=by simpa using hi):p:=h
theorem bz{P:Program}{l:I Oper}{md:Region.Mode}{QQq:Exit->Act->T->Prop}{S:T->Prop}{v:M}{a:Act}(hi:l[i]? =Y oi)
 (hs:Region.noSelect l.toArray=AT) (d:Region.free md l.toArray listed i=AT) (F:(Region.ready md l.toArray listed).contains i=AT)
 (hQ:∀c a w,QQq (.panic c) (a.put oi.dst v) w->QQq (.panic c) a w) (hw:Region.wanted oi (yielded l.toArray a.tmps)=AT) (hy:∀w,S w->(execOp a.eval oi).run P w=.ok (.value v) w) (hS:S w)
 (h:wpAnyH P md l.toArray QQq S fuel (listed.setIfInBounds i AT) (a.put oi.dst v) w):wpAnyH P md l.toArray QQq S (fuel+1) listed a w:=
 wpAnyH_take Q' hs d F hQ (.inl ⟨hw,hy⟩) hS h
theorem tL{P:Program}{l:I Oper}{md:Region.Mode}{QQq:Exit->Act->T->Prop}{S:T->Prop}(i:R){oi:Oper}{v:M}{fuel:R}{listed d:Array Bool}{a F:Act}{w:T}(h:wpAnyH P md l.toArray QQq S fuel d F w)(hi:l[i]? =Y oi:=by rfl)(hy:∀w,S w->(execOp a.eval oi).run P w=.ok (.value v) w:=by intro w hS;go_simp<;>rfl)(hS:S w:=by assumption)(hs:Region.noSelect l.toArray=AT:=by kernel_rfl)(hf:Region.free md l.toArray listed i=AT:=by kernel_rfl)(hr:(Region.ready md l.toArray listed).contains i=AT:=by kernel_rfl)(hQ:∀c a w,QQq (.panic c) (a.put oi.dst v) w->QQq (.panic c) a w:=by intro c a w h;exact h)(hw:Region.wanted oi (yielded l.toArray a.tmps)=AT:=by rfl)(ha:a.put oi.dst v=F:=by first|(simp only[Act.put,sA,s0,s1];rfl)|rfl)(hl:listed.setIfInBounds i AT=d:=by first|(simp only[sA,s0,s1];rfl)|rfl):wpAnyH P md l.toArray QQq S (fuel+1) listed a w:=bz hi hs hf hr hQ hw hy hS (ha▸hl▸h)
theorem eH{P:Program}{l:I Oper}{md:Region.Mode}{QQq:Exit->Act->T->Prop}{S:T->Prop}{a:Act}(hi:l[i]? =Y oi)
 (hs:Region.noSelect l.toArray=AT) (hf:Region.free md l.toArray listed i=AT) (d:(Region.ready md l.toArray listed).contains i=AT)
 (F:∀c a w,QQq (.panic c) (a.put oi.dst undef) w->QQq (.panic c) a w) (hw:Region.wanted oi (yielded l.toArray a.tmps)=AS) (hS:S w)
 (h:wpAnyH P md l.toArray QQq S fuel (listed.setIfInBounds i AT) (a.put oi.dst undef) w):wpAnyH P md l.toArray QQq S (fuel+1) listed a w:=
 wpAnyH_take Q' hs hf d F (.inr ⟨hw,rfl⟩) hS h
theorem bQ{P:Program}{l:I Oper}{md:Region.Mode}{QQq:Exit->Act->T->Prop}{S:T->Prop}{o:Oper}{a:Act}(ho:l[i]? =Y o)(F:Region.ready md l.toArray listed=[i])
 (h:∀d:Act->T->Prop,Shut (∀a w,S w->(S w->wpAnyH P md l.toArray QQq S fuel (listed.setIfInBounds i AT) a w)->d a w)->if Region.wanted o (yielded l.toArray a.tmps)=AT then Oper.wp P o a w d QQq else d (a.put o.dst undef) w):wpAnyH P md l.toArray QQq S (fuel+1) listed a w:=
 wpAnyH_ready F Q6 (AllReadyH.cons (by simpa using ho) h AllReadyH.nil)
theorem aW{c:Bool}{AAq B:Prop}(d:c=AT)(h:AAq):if c=AT then AAq else B:=by rw[mI d];exact h
theorem Oq{p:Prop}(h:p:=by
 unfold Oper.wp;have he:(execOp a.eval o).run prog w=.ok (.enter f vals) w:=by
  subst hv;simp[execOp,ho,resolve,invoke,Act.eval,go_sem]
  exact Vb
 rw[he,M3];refine h.mono ?_;rintro x w' (⟨v,rfl,hk⟩|⟨v,rfl,hk⟩)
 · exact hk
 exact hk):p:=h
theorem pi{o:Oper}{a:Act}{QQq:Exit->Act->T->Prop}(f:FuncId)(args:Array Operand)(d:Array TypeId)
 (ho:o.op=.call { callee:=.value (.func f),args:=args,argTypes:=d }) (vals:Array M) (hv:args.map a.eval=vals) (Vb:(callFunc f vals).run prog w=.ok (.enter f vals) w) (h:Calls prog f vals w λx w'=>(∃v,x=.returned v/\K (a.put o.dst v) w')\/(∃c,x=.panicked c/\QQq (.panic c) a w')):
 Oper.wp prog o a w K QQq:=by
 exact Oq
theorem am{ops:Array Oper}{o:Oper}{a:Act}{QQq:Exit->Act->T->Prop}{E:Prop}(hw:Region.wanted o (yielded ops a.tmps)=AT)(f:FuncId)(args:Array Operand)(d:Array TypeId)
 (ho:o.op=.call { callee:=.value (.func f),args:=args,argTypes:=d }) (vals:Array M) (hv:args.map a.eval=vals) (Vb:(callFunc f vals).run prog w=.ok (.enter f vals) w) (h:Calls prog f vals w λx w'=>(∃v,x=.returned v/\K (a.put o.dst v) w')\/(∃c,x=.panicked c/\QQq (.panic c) a w')):
 if Region.wanted o (yielded ops a.tmps)=AT then Oper.wp prog o a w K QQq else E:=by
 rw[mI hw];exact Oq
theorem Act.put_defers_(a:Act)(d:By Tmp)(v:M):(a.put d v).defers=a.defers:=by cases d<;>rfl
theorem fX{P:Program}{ops:Array Oper}{QQq:Exit->Act->T->Prop}{o:Oper}{a:Act}{d:By Tmp}{u:M}(hs:∀cs b,o.op≠.select cs b)(hd:∀t,d=Y t->t∉o.looksAt ops)(No:∀t,d=Y t->o.dst≠Y t)
 (hQ:∀c a v w,QQq (.panic c) a w->QQq (.panic c) (a.put d v) w) {RRq:M->T->Prop} (h:∀K:Act->T->Prop,(∀v w2,RRq v w2->K (a.put o.dst v) w2)->o.wp P a w K QQq):
 ∀K:Act->T->Prop,(∀v w2,RRq v w2->K ((a.put d u).put o.dst v) w2)->o.wp P (a.put d u) w K QQq:=by
 intro K hK;have hc:=λv=>L8 a u v No
 have F:=h (λa2 w2=>(∃v,a2=a.put _ v/\RRq v w2)) λv w2 hr=>⟨v,rfl,hr⟩;have key:∀v w2,(∃v',a.put o.dst v=a.put o.dst v'/\RRq v' w2)->K ((a.put d u).put o.dst v) w2:=by
  rintro v w2 ⟨v',e,r⟩;rw[hc v,e,<-hc _];exact hK _ _ r
 unfold Oper.wp at *;rw[execOp_put o hs a d u hd];generalize (execOp _ o).run P w=res at *;cases res with
 | ok n w'=>
  cases n<;>simp only[Oper.upon]at F |-
  case value v=>exact key v _ F
  case skip=>exact key _ _ F
  case defer dd=>
   obtain⟨v',e,_⟩:=F;exfalso
   have e2:=congrArg Act.defers e;rw[Act.put_defers_,Act.put_defers_]at e2;have:=congrArg List.length e2
   simp at this
  case enter f args=>
   refine Nb F λe ad he=>?_
   cases e with
   | returned v=>exact key v _ he
   | panicked c=>exact hQ _ _ _ _ he
   | outgrown=>exact he
  case row row args=>exact Rows.mono F λv ad he=>key v _ he
 | halt x w'=>
  cases x<;>simp only[Oper.upon]at F |-
  case panic v=>exact hQ _ _ _ _ F
section
variable {P:Program} {l:I Oper} {md:Region.Mode} {QQq:Exit->Act->T->Prop} {S:T->Prop}
theorem jH{o:Oper}{a:Act}{RRq:M->T->Prop}(ho:l[i]? =Y o)(hw:Region.wanted o (yielded l.toArray a.tmps)=AT)
 (h:∀K:Act->T->Prop,(∀v w2,RRq v w2->K (a.put o.dst v) w2)->o.wp P a w K QQq) (rest:∀v w2,RRq v w2->S w2/\wpAnyH P md l.toArray QQq S fuel (listed.setIfInBounds i AT) (a.put o.dst v) w2):
 wpOp P l.toArray QQq i (λd w'=>S w'/\wpAnyH P md l.toArray QQq S fuel (listed.setIfInBounds i AT) d w') a w:=by
 refine wpOp_step (by simpa using ho) λK hK=>?_;rw[mI hw];exact h K λv w2 F=>hK _ _ (rest v _ F)
theorem EG{a:Act}(hx:l[x]? =Y ox)(hy:l[y]? =Y oy)(hs:Region.noSelect l.toArray=AT)(S4:ox.apart l.toArray oy=AT)(No:x≠y)
 (hr:Region.ready md l.toArray listed=[x,y]) (av:Region.ready md l.toArray (listed.setIfInBounds x AT)=[y]) (al:Region.ready md l.toArray (listed.setIfInBounds y AT)=[x])
 (ak:Region.wanted ox (yielded l.toArray a.tmps)=AT) (ai:Region.wanted oy (yielded l.toArray a.tmps)=AT)
 (hQ:∀c a d v w,QQq (.panic c) a w->QQq (.panic c) (a.put d v) w) (F:T->Prop) (Ax Ay:M->T->Prop) (af:∀w,F w->S w) (hJ:F w)
 (ad:∀w',F w'->∀K:Act->T->Prop,(∀v w2,(F w2/\Ax v w2/\∀u,Ay u w'->Ay u w2)->K (a.put ox.dst v) w2)->ox.wp P a w' K QQq)
 (ae:∀w',F w'->∀K:Act->T->Prop,(∀v w2,(F w2/\Ay v w2/\∀u,Ax u w'->Ax u w2)->K (a.put oy.dst v) w2)->oy.wp P a w' K QQq)
 (rest:∀vx vy w',F w'->Ax vx w'->Ay vy w'->wpAnyH P md l.toArray QQq S fuel ((listed.setIfInBounds x AT).setIfInBounds y AT) ((a.put ox.dst vx).put oy.dst vy) w'):
 wpAnyH P md l.toArray QQq S (fuel+1+1) listed a w:=by
 obtain⟨h1,h2,h3⟩:=MF S4;have aB:=λcs b=>Lg hs x _ cs b (by simpa using hx)
 have aA:=λcs b=>Lg hs y _ cs b (by simpa using hy)
 have az:∀d,oy.dst=Y d->ox.dst≠Y d:=λd hd e=>h2 d e hd
 refine MQ hr Q6 λi hi=>?_
 rcases Ce.1 hi with rfl|hi
 · refine jH hx ak (ad w hJ) ?_;rintro vx w2 ⟨j2,ax,_⟩;refine⟨af _ j2,MQ av Q6 λi hi=>?_⟩;rcases Ce.1 hi with rfl|hi
   · refine jH hy ((Lw _ a _ _ h1).trans ai) (fX aA h1 h2 (λc a v w=>hQ c a _ v w) (ae _ j2)) ?_;rintro vy w3 ⟨j3,ay,k⟩;exact⟨af _ j3,rest _ _ _ j3 (k _ ax) ay⟩
   cases hi
 rcases Ce.1 hi with rfl|hi
 · refine jH hy ai (ae w hJ) ?_;rintro vy w2 ⟨j2,ay,_⟩;refine⟨af _ j2,MQ al Q6 λi hi=>?_⟩;rcases Ce.1 hi with rfl|hi
   · refine jH hx ((Lw _ a _ _ h3).trans ak) (fX aB h3 az (λc a v w=>hQ c a _ v w) (ad _ j2)) ?_;rintro vx w3 ⟨j3,ax,k⟩;refine⟨af _ j3,?_⟩;have:=rest _ _ _ j3 ax (k _ ay)
     rw[Jb _ _ No,L8 a _ _ h2]at this;exact this
   cases hi
 cases hi
theorem Gn{z t:R}{oz ot:Oper}{a:Act}(hx:l[x]? =Y ox)(hy:l[y]? =Y oy)(hz:l[z]? =Y oz)(ht:l[t]? =Y ot)(hs:Region.noSelect l.toArray=AT)
 (bB:ox.apart l.toArray oy=AT) (b2:ox.apart l.toArray oz=AT) (b1:oy.apart l.toArray oz=AT) (b5:ot.apart l.toArray oz=AT) (a9:x≠y) (bk:x≠z) (bj:y≠z) (b6:t≠z)
 (hr:Region.ready md l.toArray listed=[x,y,z])
 (b7:Region.ready md l.toArray (listed.setIfInBounds x AT)=[y,z]) (b3:Region.ready md l.toArray (listed.setIfInBounds y AT)=[x,z]) (b8:Region.ready md l.toArray (listed.setIfInBounds z AT)=[x,y])
 (aE:Region.ready md l.toArray ((listed.setIfInBounds x AT).setIfInBounds z AT)=[y]) (aA:Region.ready md l.toArray ((listed.setIfInBounds y AT).setIfInBounds z AT)=[x])
 (bp:(Region.ready md l.toArray ((listed.setIfInBounds x AT).setIfInBounds y AT)).contains t=AT) (bt:Region.free md l.toArray ((listed.setIfInBounds x AT).setIfInBounds y AT) t=AT)
 (aH:Region.ready md l.toArray (((listed.setIfInBounds x AT).setIfInBounds y AT).setIfInBounds t AT)=[z])
 (aF:(Region.ready md l.toArray (((listed.setIfInBounds x AT).setIfInBounds y AT).setIfInBounds z AT)).contains t=AT) (aG:Region.free md l.toArray (((listed.setIfInBounds x AT).setIfInBounds y AT).setIfInBounds z AT) t=AT)
 (a7:Region.wanted ox (yielded l.toArray a.tmps)=AT) (aI:Region.wanted oy (yielded l.toArray a.tmps)=AT) (a0:Region.wanted oz (yielded l.toArray a.tmps)=AT)
 (hQ:∀c a d v w,QQq (.panic c) a w->QQq (.panic c) (a.put d v) w) (bF:∀c a d v w,QQq (.panic c) (a.put d v) w->QQq (.panic c) a w) (F:T->Prop) (Ax Ay Az:M->T->Prop) (Tq:M->M->M->Prop) (ai:∀w,F w->S w) (hJ:F w)
 (ad:∀w',F w'->∀K:Act->T->Prop,(∀v w2,(F w2/\Ax v w2/\(∀u,Ay u w'->Ay u w2)/\∀u,Az u w'->Az u w2)->K (a.put ox.dst v) w2)->ox.wp P a w' K QQq)
 (af:∀w',F w'->∀K:Act->T->Prop,(∀v w2,(F w2/\Ay v w2/\(∀u,Ax u w'->Ax u w2)/\∀u,Az u w'->Az u w2)->K (a.put oy.dst v) w2)->oy.wp P a w' K QQq)
 (ae:∀w',F w'->∀K:Act->T->Prop,(∀v w2,(F w2/\Az v w2/\(∀u,Ax u w'->Ax u w2)/\∀u,Ay u w'->Ay u w2)->K (a.put oz.dst v) w2)->oz.wp P a w' K QQq)
 (stepT:∀vx vy w',F w'->Ax vx w'->Ay vy w'->∃vt,Tq vx vy vt/\Region.wanted ot (yielded l.toArray ((a.put ox.dst vx).put oy.dst vy).tmps)=AT/\∀w,S w->(execOp ((a.put ox.dst vx).put oy.dst vy).eval ot).run P w=.ok (.value vt) w)
 (rest:∀vx vy vz vt w',F w'->Ax vx w'->Ay vy w'->Az vz w'->Tq vx vy vt->wpAnyH P md l.toArray QQq S fuel ((((listed.setIfInBounds x AT).setIfInBounds y AT).setIfInBounds z AT).setIfInBounds t AT) ((((a.put ox.dst vx).put oy.dst vy).put oz.dst vz).put ot.dst vt) w'):
 wpAnyH P md l.toArray QQq S (fuel+1+1+1+1) listed a w:=by
 obtain⟨a5,al,a6⟩:=MF bB;obtain⟨a8,av,aL⟩:=MF b2;obtain⟨a2,ak,aM⟩:=MF b1;obtain⟨bL,b0,bC⟩:=MF b5;have a4:=λcs b=>Lg hs x _ cs b (by simpa using hx)
 have a3:=λcs b=>Lg hs y _ cs b (by simpa using hy)
 have S7:=λcs b=>Lg hs z _ cs b SD
 have Tj:=λcs b=>Lg hs t _ cs b (by simpa using ht)
 have aC:∀d,oy.dst=Y d->ox.dst≠Y d:=λd hd e=>al d e hd
 have aD:∀d,oz.dst=Y d->ox.dst≠Y d:=λd hd e=>av d e hd
 have aB:∀d,oz.dst=Y d->oy.dst≠Y d:=λd hd e=>ak d e hd
 have fin:∀vx vy vz w',F w'->Ax vx w'->Ay vy w'->Az vz w'->wpAnyH P md l.toArray QQq S (fuel+1) (((listed.setIfInBounds x AT).setIfInBounds y AT).setIfInBounds z AT) (((a.put ox.dst vx).put oy.dst vy).put oz.dst vz) w':=by
  intro vx vy vz w' j ax ay az;obtain⟨vt,hT,bg,a'⟩:=stepT _ _ _ j ax ay;exact bz ht hs aG aF (λc a w=>bF c a _ _ w) ((Lw _ _ _ _ bC).trans bg) (λw hw=>by rw[execOp_put _ Tj _ _ _ bC];exact a' w hw) (ai _ j) (rest _ _ _ _ _ j ax ay az hT)
 have mid:∀vx vy w',F w'->Ax vx w'->Ay vy w'->wpAnyH P md l.toArray QQq S (fuel+1+1) ((listed.setIfInBounds x AT).setIfInBounds y AT) ((a.put ox.dst vx).put oy.dst vy) w':=by
  intro vx vy w' j ax ay;obtain⟨vt,hT,bg,a'⟩:=stepT _ _ _ j ax ay;refine bz ht hs bt bp (λc a w=>bF c a _ _ w) bg a' (ai _ j) ?_;refine MQ aH Q6 λi hi=>?_
  rcases Ce.1 hi with rfl|hi
  · have st:=fX (u:=vt) S7 bL b0 (λc a v w=>hQ c a _ v w) (fX (u:=vy) S7 a2 ak (λc a v w=>hQ c a _ v w) (fX (u:=vx) S7 a8 av (λc a v w=>hQ c a _ v w) (ae _ j)));refine jH hz (((Lw _ _ _ _ bL).trans ((Lw _ _ _ _ a2).trans (Lw _ a _ _ a8))).trans a0) st ?_;rintro vz w2 ⟨j2,az,kx,ky⟩;refine⟨ai _ j2,?_⟩;have:=rest _ _ _ _ _ j2 (kx _ ax) (ky _ ay) az hT
    rw[Jb _ _ (Nc b6),<-L8 _ _ _ b0]at this;exact this
  cases hi
 refine MQ hr Q6 λi hi=>?_
 have hi:=Q'
 rcases hi with rfl|rfl|rfl
 · refine jH hx a7 (ad w hJ) ?_;rintro vx w2 ⟨j2,ax,_,_⟩;refine⟨ai _ j2,MQ b7 Q6 λi hi=>?_⟩;have hi:=by simpa using hi
   rcases hi with rfl|rfl
   · refine jH hy ((Lw _ a _ _ a5).trans aI) (fX a3 a5 al (λc a v w=>hQ c a _ v w) (af _ j2)) ?_;rintro vy w3 ⟨j3,ay,kx,_⟩;exact⟨ai _ j3,mid _ _ _ j3 (kx _ ax) ay⟩
   refine jH hz ((Lw _ a _ _ a8).trans a0) (fX S7 a8 av (λc a v w=>hQ c a _ v w) (ae _ j2)) ?_;rintro vz w3 ⟨j3,az,kx,_⟩;refine⟨ai _ j3,MQ aE Q6 λi hi=>?_⟩;rcases Ce.1 hi with rfl|hi
   · refine jH hy (((Lw _ _ _ _ aM).trans (Lw _ a _ _ a5)).trans aI) (fX a3 aM aB (λc a v w=>hQ c a _ v w) (fX a3 a5 al (λc a v w=>hQ c a _ v w) (af _ j3))) ?_;rintro vy w4 ⟨j4,ay,b9,bo⟩;refine⟨ai _ j4,?_⟩;have:=fin _ _ _ _ j4 (b9 _ (kx _ ax)) ay (bo _ az)
     rw[Jb _ _ bj,L8 _ _ _ ak]at this;exact this
   cases hi
 · refine jH hy aI (af w hJ) ?_;rintro vy w2 ⟨j2,ay,_,_⟩;refine⟨ai _ j2,MQ b3 Q6 λi hi=>?_⟩;have hi:=by simpa using hi
   rcases hi with rfl|rfl
   · refine jH hx ((Lw _ a _ _ a6).trans a7) (fX a4 a6 aC (λc a v w=>hQ c a _ v w) (ad _ j2)) ?_;rintro vx w3 ⟨j3,ax,ky,_⟩;refine⟨ai _ j3,?_⟩;have:=mid _ _ _ j3 ax (ky _ ay)
     rw[Jb _ _ a9,L8 a _ _ al]at this;exact this
   refine jH hz ((Lw _ a _ _ a2).trans a0) (fX S7 a2 ak (λc a v w=>hQ c a _ v w) (ae _ j2)) ?_;rintro vz w3 ⟨j3,az,_,ky⟩;refine⟨ai _ j3,MQ aA Q6 λi hi=>?_⟩;rcases Ce.1 hi with rfl|hi
   · refine jH hx (((Lw _ _ _ _ aL).trans (Lw _ a _ _ a6)).trans a7) (fX a4 aL aD (λc a v w=>hQ c a _ v w) (fX a4 a6 aC (λc a v w=>hQ c a _ v w) (ad _ j3))) ?_;rintro vx w4 ⟨j4,ax,b4,bo⟩;refine⟨ai _ j4,?_⟩;have:=fin _ _ _ _ j4 ax (b4 _ (ky _ ay)) (bo _ az)
     rw[Jb _ _ a9,Jb _ _ bk,L8 a _ _ al,L8 _ _ _ av]at this;exact this
   cases hi
 refine jH hz a0 (ae w hJ) ?_;rintro vz w2 ⟨j2,az,_,_⟩;refine⟨ai _ j2,EG hx hy hs bB a9 b8 (by rw[Jb _ _ (Nc bk)];exact aE) (by rw[Jb _ _ (Nc bj)];exact aA) ((Lw _ a _ _ aL).trans a7) ((Lw _ a _ _ aM).trans aI) hQ (λw=>F w/\Az _ w) Ax Ay (λw h=>ai w h.1) ⟨j2,az⟩ ?_ ?_ ?_⟩
 · intro w' j';exact fX a4 aL aD (λc a v w=>hQ c a _ v w) λK hK=>ad _ j'.1 K λv w2 h=>hK v _ ⟨⟨h.1,h.2.2.2 _ j'.2⟩,h.2.1,h.2.2.1⟩
 · intro w' j';exact fX a3 aM aB (λc a v w=>hQ c a _ v w) λK hK=>af _ j'.1 K λv w2 h=>hK v _ ⟨⟨h.1,h.2.2.2 _ j'.2⟩,h.2.1,h.2.2.1⟩
 intro vx vy w' j' ax ay;have:=fin _ _ _ _ j'.1 ax ay j'.2
 rw[Jb _ _ bj,Jb _ _ bk,L8 _ _ _ ak,L8 a _ _ av]at this;exact this
end
end Go.Proofs.YtghjmnlapcpbiaaGreatDoor
