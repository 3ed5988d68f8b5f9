import Derived.Test.YtghjmnlapcpbiaaGreatDoorNs
namespace Go.Proofs.YtghjmnlapcpbiaaGreatDoor
open _root_ renaming Option.some->Y,Option.none->G,Go.Value.int->O,Go.IntKind.i64->Z,Go.Value.slice->J,List->I,Nat->R,Int->A,Go.World.cell?->H,List.length->D,Go.Obj.cells->X,Go.Value->M,Go.World->T,Go.Addr.mk->Q,Go.RowKit.Hid->U,UInt8->AI,Bool.false->AS,Bool.true->AT,Option->By
open Go.Proofs.Tryz
open Go.RowKit
set_option linter.defProp false
variable{AAq:BR->Prop}{k:A}{bs:I (I PV)}{ks:I A}{ms:I R}{a op r roots vs:I PV}{h i mb n q:R}
def MI:=@List.length_singleton.{0}
set_option linter.unusedVariables false
set_option linter.unusedSimpArgs false
open Go.RowKit
attribute [local go_sem ↓] Go.wp_at_zero Go.wp_at_succ
def gQ(q:R)(f:aQ):PM:=⟨⟨q,0,dG (D f.aI),[]⟩,[],[],0,[]⟩
def ft(fuel heap:R)(u:aK):kB:=match l8 u with
 | none=>⟨5,0,0,0,0,[],0⟩
 | some q=>match u.aG[q]? with
  | none=>⟨5,0,0,0,0,[],0⟩
  | some f=>kF u heap fuel 0 (gQ q f)
theorem qZ{us:I aK}{u:aK}(h:dK us=.inl u):u.aC=[]:=by
 cases us with
 | nil=>simp[dK]at h
 | cons a t=>
  rw[dK]at h;dsimp only at h
  repeat' split at h
  all_goals first
   |(cases h;done)
   |(cases h;rfl)
theorem qW{u:aK}(h:ar u=(0,0,0)):bG u=AT:=by
 unfold ar at h;by_cases hu:bG u=AT
 · exact hu
 rw[eP hu]at h;simp at h
theorem sW{u:aK}{Ts:R->R->By (I A)}{f:aQ}(F:∀n f,u.aG[n]? =Y f->lf u f (Ts n))(d:u.aG[q]? =Y f)(hp:f.aH=[])(hr:f.result=0):qg u Ts [] (gQ q f):=by
 refine⟨⟨f,_,d,(F q f d).zero,?_,.nil _,Q6⟩,trivial,⟨f,d,hr⟩,by show 0<=99;omega,rfl,λj k fs hj=>by simp at hj,by show 0<=1000;omega⟩;rw[hp,Kj];exact .zeros _ _
theorem ru(u:aK)(heap:R):∀(n s:R) (m:PM),(kF u heap n s m).unit=0/\(kF u heap n s m).at_=0/\(kF u heap n s m).e=0
 | 0,s,m=>⟨rfl,rfl,rfl⟩
 | n+1,s,m=>by
  rw[kF];cases cQ u heap m with
  | go m'=>exact ru u _ n _ _
  | stop why res m'=>exact⟨rfl,rfl,rfl⟩
theorem GS{C:MC}{w:T}{ρ:R->cV}{nm fbn:R->R}{cs:R->A}{ct:A}{L:I eZ}{tk:R}{told:I A}(h:MW C w ρ nm fbn cs ct L bs tk told):∃vf vt,Fv C w ρ fbn (D L) (tk:A) ct told vf vt/\gv C.V.heap.size w vt told:=by
 obtain⟨vf,vt,hm⟩:=h.mb;exact⟨_,_,hm,A2 hm.tl λg d=>(h.lo g (by rw[hm.rt g d];nofun)).1⟩
theorem S2{p:Prop}(h:p:=by rw[aP WU];rfl):p:=h
set_option maxRecDepth 100000 in
set_option maxHeartbeats 1000000 in
theorem EA(fuel heap:R)(hf:fuel<=200000)(hh:heap<=10000000)(u:aK)(V:T)(v:M)(b1:u.aC=[])(ad:ar u=(0,0,0))(hR:bV V v u):
 Calls prog 18 #[v,O Z (fuel:A),O Z (heap:A)] V λx w'=>∃vo,x=.returned vo/\Fa V.heap.size w' vo (ft fuel heap u)/\Gr V w':=by
 have Tb:=rD.of (qW ad);obtain⟨Ts,hT⟩:∃Ts:R->R->By _,∀n f,u.aG[n]? =Y f->lf u f (Ts n):=by
  have h:=pA (qW ad) ad;refine⟨λn=>if hn:n<D u.aG then (h _ (L2 hn)).choose else λ_=>G,λn f hf=>?_⟩;obtain⟨hn,rfl⟩:=dm.1 hf;simp only[hn,dif_pos];exact(h _ (L2 hn)).choose_spec
 have b7:=hR;obtain⟨a1,a2,a3,a4,a5,c1,c2,c3,c4,c5,rfl,r1,r2,r3,r4,r5⟩:=hR.parts;have g0:=(Gr.refl V).alloc (X (yE u a1 c1 a2 c2 a3 c3 a4 c4 a5 c5) 58);have TI:=jZ V (X (yE u a1 c1 a2 c2 a3 c3 a4 c4 a5 c5) 58);have Vd:(V.alloc (X (yE u a1 c1 a2 c2 a3 c3 a4 c4 a5 c5) 58)).heap.size=V.heap.size+1:=Q6;have g1:=(Gr.refl (V.alloc (X (yE u a1 c1 a2 c2 a3 c3 a4 c4 a5 c5) 58))).alloc (X yI 47);have S9:=jZ (V.alloc (X (yE u a1 c1 a2 c2 a3 c3 a4 c4 a5 c5) 58)) (X yI 47);rw[Vd]at S9;have ax:=(g1.block _ (by rw[Vd];omega) Q6).trans TI;have Td:=aJ (g0.trans g1);have cu:=aJ ax;have ck:=aJ S9;have cl:=aJ (zT u Tb _ _ (b7.gr (g0.trans g1)));have cy:U (∀mb,UW ⟨V,u,_,_,_,J a4 (D u.aC) c4,J a5 (D u.aD) c5,mb,heap⟩):=aJ λmb=>⟨Tb,b1,r1,r2,r3⟩;have HT:=aJ hT;have cf:U (((V.alloc (X (yE u a1 c1 a2 c2 a3 c3 a4 c4 a5 c5) 58)).alloc (X yI 47)).heap.size=V.heap.size+2):=aJ Q6;clear hR b7 r1 r2 r3 r4 r5 g0 TI Vd g1 S9 ax hT Tb ad b1;go_enter func18,ntmps18
 go_wp2_with fail;refine cl.mono ?_;rintro e w2 ⟨rfl,IT⟩;have OF:=aJ (Td.trans IT);have WU:=aJ ((IT.block _ (by rw[cf];omega) Q6).trans cu);have a0:=aJ ((IT.block _ (by rw[cf];omega) Q6).trans ck);clear IT;generalize (V.alloc _).alloc _=W1;have cz:=mM a0;obtain⟨⟨s0,s1,s2,s3,s4,s5,s6⟩,⟨y0,y1,y2,y3,y4,y5,y6⟩⟩:=cz;cases al:l8 u with
 | none=>
  have Ur:U (ft fuel heap u=⟨5,0,0,0,0,_,0⟩):=aJ (by unfold ft;rw[al]);clear al;simp only[Dn];go_wp2_with fail;rw[jG];have TZ:=jV (y0:=O Z 5) (y1:=O Z 0) (y2:=O Z 0) (y3:=O Z 0) (y4:=O Z 0) (y5:=J G 0 0) (y6:=O Z 0) a0;have UQ:∀k,¬k=V.heap.size+1->(jO _ _ (O Z 5) (O Z 0) (O Z 0) (O Z 0) (O Z 0) (J G 0 0) (O Z 0)).heap[k]? =w2.heap[k]? :=λk hk=>iF hk
  have UR:(jO _ (V.heap.size+1) (O Z 5) (O Z 0) (O Z 0) (O Z 0) (O Z 0) (J G 0 0) (O Z 0)).heap.size=w2.heap.size:=jr;have aM:=pB w2 (V.heap.size+1) (O Z 5) (O Z 0) (O Z 0) (O Z 0) (O Z 0) (J G 0 0) (O Z 0);generalize jO _ _ _ _ _ _ _ _ _=WE at TZ UQ UR aM |-;obtain⟨dO,UI⟩:=Tryz.undOut;refine qn (L0 rfl _ _ _ _ _ _ _ rfl TZ UI rfl Tryz.sizOut) rfl ?_;rw[Ur];have g2:=OF.j;exact⟨_,rfl,⟨_,rfl,gj _⟩,⟨aM.1.trans g2.os,aM.2.1.trans g2.tape,aM.2.2.trans g2.output,by have:=g2.size;omega,λb hb No=>(UQ b Q5).trans (g2.block b hb No)⟩⟩
 | some q=>
  obtain⟨f,hq,bB,b5⟩:=pq al;have Ur:U (ft fuel heap u=kF u heap fuel 0 (gQ q f)):=aJ (by unfold ft;rw[al];simp only[hq]);have cj:=aJ (sW HT hq bB b5);clear al;simp only[Dn];have S7:=OF.size;have u0:H w2 (Q V.heap.size 0 G)=Y (J a1 (D u.aA) c1):=S2
  have u1:H w2 (Q V.heap.size 1 G)=Y (J a2 (D u.aE) c2):=S2
  have u2:H w2 (Q V.heap.size 2 G)=Y (J a3 (D u.aG) c3):=S2
  have u3:H w2 (Q V.heap.size 3 G)=Y (J a4 (D u.aC) c4):=S2
  have u4:H w2 (Q V.heap.size 4 G)=Y (J a5 (D u.aD) c5):=S2
  have b':=aJ (eJ.1 a0).1;have g3:=(Gr.refl w2).alloc (X #[J a1 (D u.aA) c1,J a2 (D u.aE) c2,J a3 (D u.aG) c3,J a4 (D u.aC) c4,J a5 (D u.aD) c5,J G 0 0,O Z heap,O Z 0,O Z 0,J G 0 0] 102);have b3:=jZ w2 (X #[J a1 (D u.aA) c1,J a2 (D u.aE) c2,J a3 (D u.aG) c3,J a4 (D u.aC) c4,J a5 (D u.aD) c5,J G 0 0,O Z heap,O Z 0,O Z 0,J G 0 0] 102);obtain⟨C,hC⟩:∃C:MC,C=⟨V,u,J a1 (D u.aA) c1,J a2 (D u.aE) c2,J a3 (D u.aG) c3,J a4 (D u.aC) c4,J a5 (D u.aD) c5,w2.heap.size,heap⟩:=⟨_,rfl⟩;have eV:C.V=V:=by rw[hC]
  have eu:C.u=u:=by rw[hC]
  have a7:C.mb=w2.heap.size:=by rw[hC]
  have a9:C.heap=heap:=by rw[hC]
  have ak:UW C:=by rw[hC];exact cy _
  have TR:MW C (w2.alloc (X #[J a1 (D u.aA) c1,J a2 (D u.aE) c2,J a3 (D u.aG) c3,J a4 (D u.aC) c4,J a5 (D u.aD) c5,J G 0 0,O Z heap,O Z 0,O Z 0,J G 0 0] 102)) (λb=>if b=w2.heap.size then .mach else .no) (λ_=>0) (λ_=>0) (λ_=>0) 0 [] [] 0 []:=by
   refine⟨by rw[eV];exact OF.trans g3,λb hb=>?_,⟨_,_,⟨?_,B5 _ _ _ _,B5 _ _ _ _,?_,λb hb=>(by cases hb),λb hb=>(by cases hb)⟩⟩,trivial,λj fs hj=>by simp at hj⟩
   · by_cases e:b=w2.heap.size
     · subst e;rw[eV];exact⟨S7,Q6⟩
     simp[e]at hb
   · rw[hC];exact b3
   show(if C.mb=w2.heap.size then cV.mach else cV.no)=_
   rw[mI a7]
  have b4:=yH (ps:=[]) TR (bJ.refl _ _) (by rw[eV];have:=g3.size;omega) ak.fu (by rw[eu];exact hq) ak.ok.few.2.2 (B5 _ _ _ _) (λk hk=>by cases hk) Q6 (by have:=(ak.ok.func f (by rw[eu];exact dL hq)).2.1;simp;omega);have bo:=aJ b4;have a8:U (∀(w4:T) (ρ4:R->cV) (ae:R->R),MW C _ ρ4 _ _ _ 0 [⟨q,0,_,_⟩] [] 0 []->Calls _ _ #[.pointer _,.pointer (Y ⟨ae 0,0,_⟩),.int _ _] w4 λe w'=>e=.returned (.agg #[O Z (kF u heap fuel 0 (gQ q f)).why,O Z 0,O Z 0,O Z 0,O Z (kF u heap fuel 0 (gQ q f)).result,J G 0 0,O Z (kF u heap fuel 0 (gQ q f)).steps])/\uB C w4 ρ4 (kF u heap fuel 0 (gQ q f)) w'):=aJ (λw4 ρ4 ae a6=>EL C _ _ _ (λ_=>0) _ (λ_=>0) (gQ q f) _ _ hf (by rw[a9];exact hh) ak (by rw[eu];exact HT) a6 (by rw[eu];exact cj) rfl rfl _ (by rw[eu,a9]));have cB:U (∀b,V.heap.size<=b->b<w2.heap.size->(λb=>if b=w2.heap.size then cV.mach else cV.no) b=cV.no):=aJ λb _ hb=>eP Q5;have aB:=aJ ((g3.block _ b' Q6).trans a0);have Te:=aJ (OF.trans g3);have cp:U ((w2.alloc (X #[J a1 (D u.aA) c1,J a2 (D u.aE) c2,J a3 (D u.aG) c3,J a4 (D u.aC) c4,J a5 (D u.aD) c5,J G 0 0,O Z heap,O Z 0,O Z 0,J G 0 0] 102)).heap.size=w2.heap.size+1):=aJ Q6;rw[<-Ur]at a8;have aL:U ((ft _ _ u).unit=0/\(ft _ _ u).at_=0/\(ft _ _ u).e=0):=aJ (by rw[Ur];exact ru _ _ _ _ _);clear b4 TR b3 ak hq bB b5 s0 s1 s2 s3 s4 s5 s6 y0 y1 y2 y3 y4 y5 y6;rw[a7]at bo a8;have bt:=aJ a7;have b8:=aJ eV;clear a7 eV eu a9 hC;generalize hF:ft _ _ u=FIN at a8 aL |-;have HF:=aJ hF;clear hF;go_upto_region 5 with fail
  clear u0 u1 u2 u3 u4;generalize w2.alloc _=W3 at bo aB Te cp g3 |-;go_wp2_with fail;refine bo.mono ?_;rintro e w4 ⟨ρ4,ae,rfl,a6,cc⟩;have bC:=cc.keepAt aB (cB _ Q5 b');have cn:=aJ (a8 _ _ _ a6);have Ux:=aJ bC;clear a6 cc bC;go_wp2_with fail;refine cn.mono ?_;rintro e w5 ⟨rfl,ρ5,di,cL,dw,dT,L5,c6,ds,bj,b2⟩;obtain⟨cM,c',av,aH⟩:=GS bj;have aI:=b2.keepAt Ux.1 Ux.2;have TJ:=av.box;rw[bt]at TJ;have g6:=(Gr.refl w5).alloc (X #[O Z FIN.why,O Z 0,O Z 0,O Z 0,O Z FIN.result,J G 0 0,O Z FIN.steps] 47);have b0:=jZ w5 (X #[O Z FIN.why,O Z 0,O Z 0,O Z 0,O Z FIN.result,J G 0 0,O Z FIN.steps] 47);obtain⟨ta,tc,rfl⟩:=aR av.tl;have m9:=g6.cell (show H w5 ⟨_,9,_⟩=Y (J _ _ _) by rw[aP TJ];rfl) Q6;have b9:=aJ m9;have bg:=(eJ.1 aI.1).1;have bF:=aJ ((g6.block _ bg Q6).trans aI.1);have bp:=aJ b0;have ca:=aJ aH;have Vi:=aJ bg;have cv:=aJ (by have:=bj.gr;rw[b8]at this;exact this);have cx:U (∀b,(J _ _ _).ownBlock=Y b->¬b=V.heap.size+1/\b<w5.heap.size):=aJ (λb hb=>⟨λe=>(by have:=av.rt b hb;rw[e,aI.2]at this;cases this),(av.tl.lt b hb).2⟩);rw[b8]at ca;clear bj b2 av aH aI TJ g6 b0 m9 bg;go_upto_region 7 with fail
  generalize bL:w5.alloc _=d at bF bp b9 |-;have ay:U (Gr _ d):=aJ (by rw[<-bL];exact(G0).alloc _);clear bL;have m9:=b9.j;have a':=(mM bp);have o5:=a'.1.2.2.2.2.2.1;have z5:=a'.2.2.2.2.2.2.1;have TF:=aJ ((wS _ _ 5 _ _ (J ta (D FIN.told) tc) bp).trans (by simp:_=Y (X #[O Z FIN.why,O Z 0,O Z 0,O Z 0,O Z FIN.result,J ta (D FIN.told) tc,O Z FIN.steps] 47 (0,0))));have bk:=aJ ((dp _ ⟨w5.heap.size,5,G⟩ (J ta (D FIN.told) tc) _ (by show V.heap.size+1≠w5.heap.size;have:=Vi.j;omega)).trans bF);clear a';go_upto_region 8 with fail
  clear m9 o5 z5;have az:∀b,¬b=w5.heap.size->¬b=V.heap.size+1->∀row,((d.setCell (Q w5.heap.size 5 G) (J ta (D FIN.told) tc)).setRow _ row).heap[b]? =d.heap[b]? :=λb h1 h2 row=>(Kk _ _ _ _ h2).trans (dp _ _ _ _ h1)
  have aF:=aJ az;clear az;have ai:U ((d.setCell (Q w5.heap.size 5 G) (J ta (D FIN.told) tc)).heap.size=d.heap.size/\(d.setCell (Q w5.heap.size 5 G) (J ta (D FIN.told) tc)).os=d.os/\(d.setCell (Q w5.heap.size 5 G) (J ta (D FIN.told) tc)).tape=d.tape/\(d.setCell (Q w5.heap.size 5 G) (J ta (D FIN.told) tc)).output=d.output):=aJ ⟨Q6,rfl,rfl,rfl⟩;generalize d.setCell _ _=W7 at TF bk aF ai |-;obtain⟨dO,UI⟩:=Tryz.undOut;refine MG ?_;refine Mm rfl _ _ rfl _ rfl _ _ _ _ TF UI rfl Tryz.sizOut ?_;refine Mh rfl _ _ _ rfl _ _ rfl rfl _ _ bk Tryz.sizOut rfl Qr ?_;have V6:=aJ UI;clear UI;have b6:=aJ (Kg _ _ _ #[O Z FIN.why,O Z 0,O Z 0,O Z 0,O Z FIN.result,J ta (D FIN.told) tc,O Z FIN.steps] _ _ bk);have af:U (∀b,¬b=w5.heap.size->¬b=V.heap.size+1->(W7.setRow _ #[O Z FIN.why,O Z 0,O Z 0,O Z 0,O Z FIN.result,J ta (D FIN.told) tc,O Z FIN.steps]).heap[b]? =d.heap[b]?):=aJ λb h1 h2=>aF b h1 h2 _;have F:U ((W7.setRow (V.heap.size+1) #[O Z FIN.why,O Z 0,O Z 0,O Z 0,O Z FIN.result,J ta (D FIN.told) tc,O Z FIN.steps]).heap.size=d.heap.size/\(W7.setRow (V.heap.size+1) #[O Z FIN.why,O Z 0,O Z 0,O Z 0,O Z FIN.result,J ta (D FIN.told) tc,O Z FIN.steps]).os=d.os/\(W7.setRow (V.heap.size+1) #[O Z FIN.why,O Z 0,O Z 0,O Z 0,O Z FIN.result,J ta (D FIN.told) tc,O Z FIN.steps]).tape=d.tape/\(W7.setRow (V.heap.size+1) #[O Z FIN.why,O Z 0,O Z 0,O Z 0,O Z FIN.result,J ta (D FIN.told) tc,O Z FIN.steps]).output=d.output):=aJ ⟨by rw[setRow_size];exact ai.1,ai.2.1,ai.2.2.1,ai.2.2.2⟩;generalize W7.setRow _ _=W8 at b6 af F |-;go_wp2_with fail;refine qn (L0 rfl _ _ _ _ _ _ _ rfl b6 V6 rfl Tryz.sizOut) rfl ?_;rw[HF];have gw:=cv.trans ay;have dd:=Vi.j;refine⟨_,rfl,⟨_,by rw[aL.1,aL.2.1,aL.2.2],?_⟩,⟨F.2.1.trans gw.os,F.2.2.1.trans gw.tape,F.2.2.2.trans gw.output,by have:=gw.size;have:=F.1;omega,λb hb No=>(af b Q5 Q5).trans (gw.block b hb No)⟩⟩;exact c_ ca λb hb=>by obtain⟨n1,n2⟩:=cx b hb;exact(af b Q5 n1).trans (ay.block b n2 Q6)
theorem ID(fuel heap:R)(hf:fuel<=200000)(F:heap<=10000000)(us:I aK):Ew (ft fuel heap) (fuel:A) (heap:A) us:=λu V v d hv hR=>EA fuel heap hf F u V v (qZ d) hv hR
def cZ(r:I PV)(j:R):Prop:=∃v∈r,v.blk=Y j
def Hl(bs:I (I PV))(j:R):R:=D (bs.getD j [])+1
def gK(bs:I (I PV))(ms:I R):R:=(ms.map (Hl bs)).sum
theorem ur{f:R->R}{x:R}:∀{l:I R},x∈l->(l.map f).sum=f x+((l.erase x).map f).sum
 | [],h=>by simp at h
 | y::l,h=>by
  by_cases c:y=x
  · subst c;simp
  have d:x∈l:=by
   rcases Ce.1 h with e|e
   · exact absurd e.symm c
   exact e
  rw[List.erase_cons_tail (by simpa using c)];simp only[Lq,Mg];rw[ur d];omega
theorem lU{f:R->R}:∀{a b:I R},a.Nodup->(∀j∈a,j∈b)->(a.map f).sum<=(b.map f).sum
 | [],b,_,_=>by simp
 | x::a,b,hn,hs=>by
  have hx:=hs x J9;rw[ur hx];simp only[Lq,Mg];have F:=List.nodup_cons.1 hn;have:=lU (f:=f) F.2 λj d=>(List.mem_erase_of_ne λ(e:j=x)=>F.1 (by rw[<-e];exact d)).2 (hs j (Jw _ d))
  omega
theorem EM(h:ms.Nodup)(d:∀j∈ms,j<n):D ms<=n:=by
 have:=lU (f:=λ_=>1) h λj F=>MN.2 (d j F)
 have e:∀l:I R,(l.map λ_=>1).sum=D l:=λl=>by induction l with
  | nil=>rfl
  | cons x l ih=>simp only[Lq,Mg,ih,Jk];omega
 rw[e,e,List.length_range]at this;exact this
theorem xW(bs:I (I PV))(a b:I R):gK bs (a++b)=gK bs a+gK bs b:=by simp[gK]
structure G7(bs:I (I PV))(st:vU)(ms:I R):Prop where
 nd:ms.Nodup
 mrk:∀j,st.mark j=AT↔j∈ms
 all:st.all=gK bs ms
theorem jq{v:PV}{j:R}:cZ (v::vs) j↔v.blk=Y j\/cZ vs j:=by simp[cZ]
theorem pP{j:R}:¬cZ [] j:=by simp[cZ]
theorem pW(bs:I (I PV)):∀(vs:I PV) (st:vU) (ms:I R),G7 bs st ms->∃d,G7 bs (ei bs vs st) (ms++d)/\(ei bs vs st).wt=st.wt++d.map (λj=>bs.getD j [])/\(∀j,cZ vs j->j∈ms++d)/\(∀j∈d,cZ vs j)
 | [],st,ms,h=>⟨[],by simpa[ei]using h,by simp[ei],λj F=>absurd F pP,λj F=>by simp at F⟩
 | v::vs,st,ms,h=>by
  cases hb:v.blk with
  | none=>
   obtain⟨d,h1,h2,h3,h4⟩:=pW _ vs _ _ h;rw[uY hb];refine⟨_,h1,h2,λj F=>?_,λj F=>jq.2 (.inr (h4 j F))⟩;rcases jq.1 F with e|e
   · rw[hb]at e;cases e
   exact h3 j e
  | some i=>
   by_cases hm:st.mark i=AT
   · obtain⟨d,h1,h2,h3,h4⟩:=pW _ vs _ _ h;rw[yC hb hm];refine⟨_,h1,h2,λj F=>?_,λj F=>jq.2 (.inr (h4 j F))⟩;rcases jq.1 F with e|e
     · rw[hb]at e;obtain rfl:=tz e;exact L1 _ ((h.mrk i).1 hm)
     exact h3 j e
   have U0:=by simpa using hm
   have hi:i∉ms:=λh'=>hm ((h.mrk i).2 h')
   have e:ei bs (v::vs) st=ei bs vs ⟨λk=>decide (k=i)||st.mark k,st.all+(D (bs.getD i [])+1),st.wt++[bs.getD i []]⟩:=by
    rw[ei,hb];simp[U0]
   have h':G7 bs ⟨λk=>decide (k=i)||st.mark k,st.all+(D (bs.getD i [])+1),st.wt++[bs.getD i []]⟩ (ms++[i]):=by
    refine⟨?_,λj=>?_,?_⟩
    · rw[List.nodup_append];exact⟨h.nd,Q6,λa ha b hb=>by rw[Jm.1 hb];exact λe=>hi (e▸ha)⟩
    · simp only[M1,xw,F1,Jm];rw[h.mrk j];exact⟨λx=>x.elim .inr .inl,λx=>x.elim .inr .inl⟩
    show st.all+_=_
    rw[xW,h.all];simp[gK,Hl]
   obtain⟨d,h1,h2,h3,h4⟩:=pW _ vs _ _ h';rw[e];refine⟨i::d,?_,?_,λj F=>?_,λj F=>?_⟩
   · rw[zx]at h1;exact h1
   · rw[h2];simp
   · rcases jq.1 F with e|e
     · rw[hb]at e;obtain rfl:=tz e;simp
     have:=h3 j e;rw[zx]at this;exact this
   rcases Ce.1 F with rfl|F
   · exact jq.2 (.inl hb)
   exact jq.2 (.inr (h4 j F))
structure ul(bs roots:I (I PV))(st:vU)(ms:I R):Prop where
 inv:G7 bs st ms
 clo:∀j∈ms,bs.getD j []∈st.wt\/∀i,cZ (bs.getD j []) i->i∈ms
 rts:∀r∈roots,r∈st.wt\/∀i,cZ r i->i∈ms
 snd:∀C:R->Prop,(∀r∈roots,∀i,cZ r i->C i)->(∀j,C j->∀i,cZ (bs.getD j []) i->C i)->(∀j∈ms,C j)/\∀r∈st.wt,∀i,cZ r i->C i
theorem ul.step{roots:I (I PV)}{st:vU}{wt:I (I PV)}(h:ul bs roots st ms)(hw:st.wt=wt++[r]):∃ad,ul bs roots (ei bs r ⟨st.mark,st.all,wt⟩) (ms++ad)/\(ei bs r ⟨st.mark,st.all,wt⟩).wt.length=D wt+D ad:=by
 obtain⟨ad,h1,h2,h3,h4⟩:=pW _ r ⟨st.mark,st.all,wt⟩ _ ⟨h.inv.nd,h.inv.mrk,h.inv.all⟩;have keep:∀x,(x∈st.wt\/∀i,cZ x i->i∈ms)->x∈(ei _ r _).wt\/∀i,cZ x i->i∈ms++ad:=λx d=>by
  rcases d with d|d
  · rw[hw]at d;rcases F1.1 d with d|d
    · exact .inl (by rw[h2];exact L1 _ d)
    rw[Jm.1 d];exact .inr h3
  exact .inr λi hi=>L1 _ (d i hi)
 refine⟨_,⟨h1,λj F=>?_,λx d=>keep x (h.rts x d),λC c1 c2=>?_⟩,by rw[h2];simp⟩
 · rcases F1.1 F with F|F
   · exact keep _ (h.clo j F)
   exact .inl (by rw[h2];exact List.mem_append_right _ (MB.2 ⟨j,F,rfl⟩))
 obtain⟨a1,a2⟩:=h.snd C c1 c2;have hr:=a2 r (by rw[hw];simp);have hm:=λj F=>hr j (h4 j F)
 refine⟨λj F=>(F1.1 F).elim (a1 j) (hm j),λx d=>?_⟩;rw[h2]at d;rcases F1.1 d with d|d
 · exact a2 x (by rw[hw];exact L1 _ d)
 obtain⟨j,F,rfl⟩:=MB.1 d;exact c2 j (hm j F)
theorem rZ{roots:I (I PV)}(F:∀r∈roots,∀i,cZ r i->i<D bs)(hb:∀j,j<D bs->∀i,cZ (bs.getD j []) i->i<D bs):∀(n:R) (st:vU) (ms:I R),ul bs roots st ms->D st.wt+D bs<=n+D ms->∃d,ul bs roots (jY bs n st) d/\(jY bs n st).wt=[]
 | 0,st,ms,h,hn=>by
  have:=EM h.inv.nd (h.snd _ F hb).1
  exact⟨_,h,Kw (by show D st.wt=0;omega)⟩
 | n+1,st,ms,h,hn=>by
  rcases List.eq_nil_or_concat st.wt with e|⟨wt,r,e⟩
  · rw[sq e];exact⟨_,h,e⟩
  rw[List.concat_eq_append]at e;obtain⟨d,h1,h2⟩:=h.step e;rw[qh e];refine rZ F hb n _ _ h1 ?_;rw[h2,fe];rw[e,fe]at hn;simp only[Jk,LW]at hn;omega
theorem lD{L:I eZ}(d:∀r∈dk L,∀i,cZ r i->i<D bs)(hb:∀j,j<D bs->∀i,cZ (bs.getD j []) i->i<D bs):∃ms:I R,ms.Nodup/\fE L bs=gK bs ms/\(∀r∈dk L,∀i,cZ r i->i∈ms)/\(∀j∈ms,∀i,cZ (bs.getD j []) i->i∈ms)/\(∀j∈ms,j<D bs)/\∀C:R->Prop,(∀r∈dk L,∀i,cZ r i->C i)->(∀j,C j->∀i,cZ (bs.getD j []) i->C i)->∀j∈ms,C j:=by
 have h0:ul bs (dk L) ⟨λ_=>AS,0,_⟩ []:=⟨⟨Q6,λj=>by simp,rfl⟩,λj F=>by simp at F,λr d=>.inl d,λC c1 c2=>⟨λj F=>by simp at F,c1⟩⟩;obtain⟨ms,h,hw⟩:=rZ d hb (D bs+D (dk L)+1) _ _ h0 (by show D (dk L)+D bs<=_;omega);refine⟨_,h.inv.nd,h.inv.all,λr d=>?_,λj F=>?_,(h.snd _ d hb).1,λC c1 c2=>(h.snd C c1 c2).1⟩
 · rcases h.rts r d with e|e
   · rw[hw]at e;cases e
   exact e
 rcases h.clo j F with e|e
 · rw[hw]at e;cases e
 exact e
theorem tG{L L':I eZ}{d:I (I PV)}(N:I R)(hr:∀r∈dk L,∀i,cZ r i->i<D bs)(hb:∀j,j<D bs->∀i,cZ (bs.getD j []) i->i<D bs)(ae:∀r∈dk L',∀i,cZ r i->i<D d)(ad:∀j,j<D d->∀i,cZ (d.getD j []) i->i<D d)
 (hz:∀j,j<D bs->Hl d j=Hl bs j)
 (h:∀DDq:R->Prop,(∀r∈dk L,∀i,cZ r i->DDq i)->(∀j,DDq j->∀i,cZ (bs.getD j []) i->DDq i)->(∀r∈dk L',∀i,cZ r i->DDq i\/i∈N)/\(∀j,DDq j->∀i,cZ (d.getD j []) i->DDq i\/i∈N)/\∀j∈N,∀i,cZ (d.getD j []) i->DDq i\/i∈N):fE L' d<=fE L bs+gK d N:=by
 obtain⟨ms,n1,e1,r1,c1,l1,_⟩:=lD hr hb;obtain⟨af,n2,e2,_,_,_,s2⟩:=lD ae ad;obtain⟨a1,a2,a3⟩:=h _ r1 c1;have hs:=s2 _ a1 λj F=>F.elim (a2 j) (a3 j);have h1:gK _ _<=gK d _:=lU n2 λj F=>F1.2 (hs j F);have h2:gK d ms=gK bs ms:=by
  unfold gK;congr 1
  exact Mc λj F=>hz j (l1 j F)
 rw[e1,e2];rw[xW,h2]at h1;exact h1
theorem gN.in_{σ:I A}(h:gN σ ks vs){i:R}(hi:cZ vs i):i<D σ:=by
 obtain⟨v,hv,e⟩:=hi;obtain⟨p,hp,rfl⟩:=List.mem_iff_getElem.1 hv;have d:p<D ks:=by rw[h.1];exact hp
 exact(dm.1 (h.2 p _ _ (dW d) (dW hp) i e).2).1
theorem BF{σ:I A}{u:aK}{Ts:R->R->By (I A)}:∀{l:I eZ} {c:R},nA u Ts σ c l->∀r∈dk l,∀i,cZ r i->i<D σ
 | [],_,_,r,d,_,_=>by simp[dk]at d
 | x::l,c,h,r,d,i,hi=>by
  obtain⟨⟨f,i0,g,s,_,_,_,_,_,_,h7,F,_⟩,h2⟩:=h;rw[dk]at d;rcases F1.1 d with d|d
  · exact BF h2 r d i hi
  rcases Ce.1 d with rfl|d
  · exact h7.in_ hi
  rw[Jm.1 d]at hi;exact F.in_ hi
theorem qg.in_{σ:I A}{u:aK}{Ts:R->R->By (I A)}{m:PM}(h:qg u Ts σ m):(∀r∈dk (m.top::m.low),∀i,cZ r i->i<D m.blks)/\∀j,j<D m.blks->∀i,cZ (m.blks.getD j []) i->i<D m.blks:=by
 rw[<-h.aA];constructor
 · intro r d i hi;obtain⟨f,s,_,_,h3,h4,_⟩:=h.top.fn;rw[dk]at d;rcases F1.1 d with d|d
   · exact BF h.low r d i hi
   rcases Ce.1 d with rfl|d
   · exact h3.in_ hi
   rw[Jm.1 d]at hi;exact h4.in_ hi
 intro j hj i hi;have F:j<D m.blks:=by rw[<-h.aA];exact hj
 obtain⟨s,_,_,h3⟩:=h.blks j _ _ (dW hj) (dW F);rw[mh,dW F]at hi;exact h3.in_ hi
theorem dU{b:I PV}:cZ (a++b) i↔cZ a i\/cZ b i:=by
 unfold cZ;constructor
 · rintro⟨v,hv,e⟩;exact(F1.1 hv).elim (λh=>.inl ⟨v,h,e⟩) λh=>.inr ⟨v,h,e⟩
 rintro(⟨v,hv,e⟩|⟨v,hv,e⟩)
 · exact⟨v,L1 _ hv,e⟩
 exact⟨v,List.mem_append_right _ hv,e⟩
theorem gI(h:cZ (a.take n) i):cZ a i:=by obtain⟨v,hv,e⟩:=h;exact⟨v,List.mem_of_mem_take hv,e⟩
theorem vJ(h:cZ (a.drop n) i):cZ a i:=by obtain⟨v,hv,e⟩:=h;exact⟨v,List.mem_of_mem_drop hv,e⟩
theorem gE{v:PV}:cZ [v] i↔v.blk=Y i:=by simp[cZ]
theorem je(h:(a.getD n lX).blk=Y i):cZ a i:=by
 rw[mh]at h;cases d:a[n]? with
 | none=>rw[d]at h;cases h
 | some v=>rw[d]at h;exact⟨v,dL d,h⟩
theorem zO{v:PV}(h:cZ (a.set n v) i):cZ a i\/v.blk=Y i:=by
 obtain⟨x,d,e⟩:=h;rcases List.mem_or_eq_of_mem_set d with d|rfl
 · exact .inl ⟨x,d,e⟩
 exact .inr e
theorem CA:¬cZ (dG n) i:=by
 rintro⟨v,hv,e⟩;rw[(List.mem_replicate.1 hv).2]at e;cases e
def KE(DDq:R->Prop)(x:eZ)(low:I eZ):Prop:=(∀r∈dk low,∀i,cZ r i->DDq i)/\(∀i,cZ x.slots i->DDq i)/\∀i,cZ x.stack i->DDq i
theorem lO{DDq:R->Prop}{x:eZ}{low:I eZ}:(∀r∈dk (x::low),∀i,cZ r i->DDq i)↔KE DDq x low:=by
 constructor
 · intro h;exact⟨λr d=>h r (by rw[dk];exact L1 _ d),h _ (by rw[dk];simp),h _ (by rw[dk];simp)⟩
 rintro⟨h1,F,h3⟩ r d;rw[dk]at d;rcases F1.1 d with d|d
 · exact h1 r d
 rcases Ce.1 d with rfl|d
 · exact F
 rw[Jm.1 d];exact h3
section
variable {u:aK} {Ts:R->R->By (I A)} {σ σ':I A} {m m':PM}
theorem dj(hm:qg u Ts σ m)(U0:qg u Ts σ' m')(F:m'.blks=m.blks)(ht:m'.taken=m.taken)(h0:cT m<=m.taken)(h:∀DDq:R->Prop,KE DDq m.top m.low->(∀j,DDq j->∀i,cZ (m.blks.getD j []) i->DDq i)->KE DDq m'.top m'.low):cT m'<=m'.taken:=by
 have hle:fE (m'.top::m'.low) m'.blks<=fE (m.top::m.low) m.blks+gK m'.blks []:=by
  refine tG _ hm.in_.1 hm.in_.2 U0.in_.1 U0.in_.2 (λj _=>by rw[F]) λDDq d1 d2=>?_;refine⟨λr hr i hi=>.inl (lO.2 (h DDq (lO.1 d1) d2) r hr i hi),λj d i hi=>.inl (d2 j d i (by rw[F]at hi;exact hi)),λj d=>by simp at d⟩
 rw[ht];exact wz hle h0
theorem yO{j p:R}:(bs.set j r).getD p []=if p=j/\j<D bs then r else bs.getD p []:=by
 rw[mh,MJ];by_cases e:j=p
 · subst e;rw[mI rfl];by_cases c:j<D bs
   · rw[mI c,mI ⟨rfl,c⟩];rfl
   rw[eP c,eP λh=>c h.2,mh,AK Q5]
 rw[eP e,eP λh=>e h.1.symm,mh]
theorem pD{p:R}:(bs++[r]).getD p []=if p=D bs then r else bs.getD p []:=by
 rw[mh,mh];by_cases e:p=D bs
 · rw[mI e,e];simp
 rw[eP e];by_cases c:p<D bs
 · rw[ze c]
 rw[AK jB,AK Q5]
theorem N6{p:Prop}(h:p:=by obtain rfl:=jP.go.inj hs;exact⟨dj h U0 rfl rfl h0 λDDq ⟨r1,r2,r3⟩ hc=>⟨r1,λi hi=>r2 i hi,λi hi=>(dU.1 hi).elim (r3 i) λe=>by cases gE.1 e⟩,J7⟩):p:=h
theorem Oj{p:Prop}(h:p:=by obtain rfl:=jP.go.inj hs;exact⟨dj h U0 rfl rfl h0 λDDq ⟨r1,r2,r3⟩ hc=>⟨r1,λi hi=>r2 i hi,λi hi=>r3 i (gI hi)⟩,J7⟩):p:=h
theorem OG{p:Prop}(h:p:=by obtain rfl:=jP.go.inj hs;exact⟨dj h U0 rfl rfl h0 λDDq ⟨r1,r2,r3⟩ hc=>⟨r1,λi hi=>r2 i hi,λi hi=>(dU.1 hi).elim (λe=>r3 i (gI e)) λe=>by cases gE.1 e⟩,J7⟩):p:=h
theorem zY(heap:R)(hu:rD u)(az:u.aC=[])(hT:∀n f,u.aG[n]? =Y f->lf u f (Ts n))(h:qg u Ts σ m)(h0:cT m<=m.taken)(hs:cQ u heap m=.go m'):cT m'<=m'.taken/\m.told <+:m'.told:=by
 have Tb:=wX heap hu az hT h;rw[hs]at Tb;obtain⟨σ',U0,_⟩:=Tb;obtain⟨f,i,base,ts,ps,a,b,hh⟩:=rM hu az hT h.top;have aE:lT u m.top=Y i:=RH
 unfold cQ at hs;rw[aE]at hs;dsimp only at hs
 unfold eW at hs;dsimp only[PM.on,eZ.behind]at hs
 by_cases e0:i.op=0
 · rw[mI e0]at hs;exact N6
 rw[eP e0]at hs;by_cases e1:i.op=1
 · rw[mI e1]at hs;exact N6
 rw[eP e1]at hs;by_cases e2:i.op=2
 · rw[mI e2]at hs;obtain rfl:=jP.go.inj hs;exact⟨dj h U0 rfl rfl h0 λDDq ⟨r1,r2,r3⟩ hc=>⟨r1,λi hi=>r2 i hi,λi hi=>(dU.1 hi).elim (r3 i) λe=>r2 i (je (gE.1 e))⟩,J7⟩
 rw[eP e2]at hs;by_cases e3:i.op=3
 · rw[mI e3]at hs;obtain rfl:=jP.go.inj hs;exact⟨dj h U0 rfl rfl h0 λDDq ⟨r1,r2,r3⟩ hc=>⟨r1,λi hi=>(zO hi).elim (r2 i) λe=>r3 i (je e),λi hi=>r3 i (gI hi)⟩,J7⟩
 rw[eP e3]at hs;by_cases e4:i.op=4
 · rw[mI e4]at hs;exact Oj
 rw[eP e4]at hs;by_cases e5:i.op=5
 · rw[mI e5]at hs;obtain rfl:=jP.go.inj hs;exact⟨dj h U0 rfl rfl h0 λDDq ⟨r1,r2,r3⟩ hc=>⟨r1,λi hi=>r2 i hi,λi hi=>(dU.1 hi).elim (r3 i) λe=>r3 i (je (gE.1 e))⟩,J7⟩
 rw[eP e5]at hs;by_cases ay:i.op=11
 · rw[mI ay]at hs;obtain rfl:=jP.go.inj hs;exact⟨dj h U0 rfl rfl h0 λDDq ⟨r1,r2,r3⟩ hc=>⟨r1,λi hi=>r2 i hi,λi hi=>r3 i hi⟩,J7⟩
 rw[eP ay]at hs;by_cases aB:i.op=12
 · rw[mI aB]at hs;split at hs
   · exact Oj
   exact Oj
 rw[eP aB]at hs;by_cases ai:i.op=13
 · rw[mI ai]at hs;split at hs
   · cases hs
   split at hs
   · cases hs
   obtain rfl:=jP.go.inj hs;refine⟨dj h U0 rfl rfl h0 λDDq ⟨r1,r2,r3⟩ hc=>⟨lO.2 ⟨r1,r2,λi hi=>r3 i (gI hi)⟩,λi hi=>(dU.1 hi).elim (λe=>r3 i (vJ e)) λe=>absurd e CA,λi hi=>absurd hi pP⟩,J7⟩
 rw[eP ai]at hs;by_cases al:i.op=14
 · rw[mI al]at hs;split at hs
   · cases hs
   next y l hl=>
   obtain rfl:=jP.go.inj hs;refine⟨dj h U0 rfl rfl h0 λDDq ⟨r1,r2,r3⟩ hc=>?_,J7⟩;rw[hl]at r1;obtain⟨s1,s2,s3⟩:=lO.1 r1;exact⟨s1,s2,λi hi=>(dU.1 hi).elim (s3 i) λe=>r3 i (je (gE.1 e))⟩
 rw[eP al]at hs;by_cases av:i.op=15
 · rw[mI av]at hs;generalize (D (u.aA.getD _ _))=k at hs;have aF:cT m<=(if m.taken+(k+1)>heap then cT m else m.taken):=by split<;>omega
   generalize (if m.taken+(k+1)>heap then cT m else m.taken)=tk at hs aF;by_cases hk:tk+(k+1)<=heap
   · rw[mI hk]at hs;obtain rfl:=jP.go.inj hs;refine⟨?_,J7⟩;have hle:=tG _ h.in_.1 h.in_.2 U0.in_.1 U0.in_.2 (λj hj=>by
      show D ((m.blks++[_]).getD j [])+1=_
      rw[pD,eP Q5];rfl) (λDDq d1 d2=>by
      obtain⟨r1,r2,r3⟩:=lO.1 d1;have ad:∀i,cZ (m.top.stack.drop (D m.top.stack-k)) i->DDq i:=λi hi=>r3 i (vJ hi)
      refine⟨lO.2 ⟨λr hr i hi=>.inl (r1 r hr i hi),λi hi=>.inl (r2 i hi),λi hi=>?_⟩,λj hj i hi=>?_,λj hj i hi=>?_⟩
      · rcases dU.1 hi with e|e
        · exact .inl (r3 i (gI e))
        exact .inr (Jm.2 (tz (gE.1 e)).symm)
      · have d:cZ ((m.blks++[m.top.stack.drop _]).getD j _) i:=hi;rw[pD]at d;split at d
        · exact .inl (ad i d)
        exact .inl (d2 j hj i d)
      have d:cZ ((m.blks++[m.top.stack.drop _]).getD j _) i:=hi;rw[Jm.1 hj,pD,mI rfl]at d;exact .inl (ad i d))
     have S7:gK (m.blks++[m.top.stack.drop (D m.top.stack-k)]) [D m.blks]<=k+1:=by
      unfold gK Hl;simp only[Lq,List.map_nil,Mg,List.sum_nil];rw[pD,mI rfl,J2];omega
     refine wz hle ?_;show cT m+gK (m.blks++[m.top.stack.drop (D m.top.stack-k)]) [D m.blks]<=tk+(k+1)
     omega
   · rw[eP hk]at hs;cases hs
 rw[eP av]at hs;by_cases ax:i.op=16
 · rw[mI ax]at hs;split at hs
   · cases hs
   next j hj=>
   obtain rfl:=jP.go.inj hs;exact⟨dj h U0 rfl rfl h0 λDDq ⟨r1,r2,r3⟩ hc=>⟨r1,r2,λi hi=>(dU.1 hi).elim (λe=>r3 i (gI e)) λe=>hc j (r3 j (je hj)) i (je (gE.1 e))⟩,J7⟩
 rw[eP ax]at hs;by_cases ak:i.op=17
 · rw[mI ak]at hs;split at hs
   · cases hs
   next j hj=>
   obtain rfl:=jP.go.inj hs;refine⟨?_,J7⟩;have hle:=tG [] h.in_.1 h.in_.2 U0.in_.1 U0.in_.2 (λp hp=>by
    show D ((m.blks.set j _).getD p [])+1=D (m.blks.getD p [])+1
    rw[yO];split
    · next e=>rw[e.1,List.length_set]
    · rfl) (λDDq d1 d2=>by
    obtain⟨r1,r2,r3⟩:=lO.1 d1;refine⟨lO.2 ⟨λr hr i hi=>.inl (r1 r hr i hi),λi hi=>.inl (r2 i hi),λi hi=>.inl (r3 i (gI hi))⟩,λp hp q hq=>?_,λp hp=>by simp at hp⟩;have F:cZ ((m.blks.set j _).getD p _) q:=hq;rw[yO]at F;split at F
    · next e=>
      rw[e.1]at hp;rcases zO F with e2|e2
      · exact .inl (d2 j hp q e2)
      exact .inl (r3 q (je e2))
    · exact .inl (d2 p hp q F))
   exact wz hle h0
 rw[eP ak]at hs;by_cases af:i.op=18
 · rw[mI af]at hs;exact N6
 rw[eP af]at hs;by_cases ae:i.op=19
 · rw[mI ae]at hs;exact OG
 rw[eP ae]at hs;by_cases aD:i.op=20
 · rw[mI aD]at hs;obtain rfl:=jP.go.inj hs;refine⟨dj h U0 rfl rfl h0 λDDq ⟨r1,r2,r3⟩ hc=>⟨r1,r2,λi hi=>r3 i (gI hi)⟩,?_⟩;show m.told <+:if D m.told<1000 then _ else m.told
   split
   · exact List.prefix_append _ _
   exact J7
 rw[eP aD]at hs;exact OG
def jP.tk(t:R):jP->jP
 | .go m=>.go ⟨m.top,m.low,m.blks,t,m.told⟩
 | .stop w r m=>.stop w r ⟨m.top,m.low,m.blks,t,m.told⟩
theorem IZ{h' t:R}{i:bP}(hi:¬i.op=15):eW u h' ⟨m.top,m.low,m.blks,t,m.told⟩ i=(eW u h m i).tk t:=by
 unfold eW;dsimp only[PM.on,eZ.behind]
 by_cases e0:i.op=0
 · simp only[mI e0];rfl
 simp only[eP e0];by_cases e1:i.op=1
 · simp only[mI e1];rfl
 simp only[eP e1];by_cases e2:i.op=2
 · simp only[mI e2];rfl
 simp only[eP e2];by_cases e3:i.op=3
 · simp only[mI e3];rfl
 simp only[eP e3];by_cases e4:i.op=4
 · simp only[mI e4];rfl
 simp only[eP e4];by_cases e5:i.op=5
 · simp only[mI e5];rfl
 simp only[eP e5];by_cases av:i.op=11
 · simp only[mI av];rfl
 simp only[eP av];by_cases ae:i.op=12
 · simp only[mI ae];split<;>rfl
 simp only[eP ae];by_cases ak:i.op=13
 · simp only[mI ak];split
   · rfl
   split<;>rfl
 simp only[eP ak];by_cases af:i.op=14
 · simp only[mI af];split<;>rfl
 simp only[eP af];simp only[eP hi];by_cases ai:i.op=16
 · simp only[mI ai];split<;>rfl
 simp only[eP ai];by_cases F:i.op=17
 · simp only[mI F];split<;>rfl
 simp only[eP F];by_cases ad:i.op=18
 · simp only[mI ad];rfl
 simp only[eP ad];by_cases d:i.op=19
 · simp only[mI d];rfl
 simp only[eP d];by_cases al:i.op=20
 · simp only[mI al];rfl
 simp only[eP al];rfl
theorem Bo{i:bP}(hi:i.op=15):eW u h m i=(let k:=D (u.aA.getD (i.a-1).toNat [])
                                         let tk:=if m.taken+(k+1)>h then cT m else m.taken
                                         if tk+(k+1)<=h then .go ⟨m.top.behind (m.top.stack.take (D m.top.stack-k)++[⟨0,Y (D m.blks)⟩]),m.low,m.blks++[m.top.stack.drop (D m.top.stack-k)],tk+(k+1),m.told⟩ else .stop 8 0 m):=by
 unfold eW;dsimp only
 rw[eP Q5,eP Q5,eP Q5,eP Q5,eP Q5,eP Q5,eP Q5,eP Q5,eP Q5,eP Q5,mI hi]
end
def vR(k:A)(v:PV):A:=if k=0 then v.num else match v.blk with
 | none=>0
 | some j=>(j:A)+1
def fN:I A->I PV->I M
 | k::ks,v::vs=>O Z k::O Z (vR k v)::fN ks vs
 | _,_=> []
theorem kd:∀{ks:I A} {vs:I PV},D ks=D vs->D (fN ks vs)=D vs*2
 | [],[],_=>rfl
 | k::ks,v::vs,h=>by simp only[fN,Jk,kd RY];omega
 | [],v::vs,h=>by simp at h
 | k::ks,[],h=>by simp at h
theorem l_:∀{ks F:I A} {vs d:I PV},D ks=D vs->fN (ks++F) (vs++d)=fN ks vs++fN F d
 | [],_,[],_,_=>rfl
 | k::ks,F,v::vs,d,h=>by simp only[Ls,fN,l_ RY]
 | [],_,v::vs,_,h=>by simp at h
 | k::ks,_,[],_,h=>by simp at h
theorem pN:∀(ks:I A) (vs:I PV),∀u∈fN ks vs,u.oneCell'=AT
 | [],vs,u,h=>by simp[fN]at h
 | k::ks,[],u,h=>by simp[fN]at h
 | k::ks,v::vs,u,h=>by
  simp only[fN,Ce]at h;rcases h with rfl|rfl|h
  · rfl
  · rfl
  exact pN _ _ u h
theorem nt:∀{ks:I A} {vs:I PV} {j:R} {k:A} {v:PV},ks[j]? =Y k->vs[j]? =Y v->(fN ks vs)[j*2]? =Y (O Z k)/\(fN ks vs)[j*2+1]? =Y (O Z (vR k v))
 | [],vs,j,k,v,h,_=>by simp at h
 | a::ks,[],j,k,v,_,h=>by simp at h
 | a::ks,b::vs,0,k,v,h1,h2=>by
  simp only[JQ,qN]at h1 h2;subst h1 h2;exact⟨rfl,rfl⟩
 | a::ks,b::vs,j+1,k,v,h1,h2=>by
  rw[List.getElem?_cons_succ]at h1 h2;have:=nt h1 h2
  rw[show(j+1)*2=j*2+2 by omega,show j*2+2+1=(j*2+1)+2 by omega];exact this
theorem rn:∀{ks:I A} {vs:I PV} {j:R} {k:A} (v:PV),ks[j]? =Y k->((fN ks vs).set (j*2) (O Z k)).set (j*2+1) (O Z (vR k v))=fN ks (vs.set j v)
 | [],vs,j,k,v,h=>by simp at h
 | a::ks,[],j,k,v,_=>by simp[fN]
 | a::ks,b::vs,0,k,v,h=>by
  simp only[JQ,qN]at h;subst h;rfl
 | a::ks,b::vs,j+1,k,v,h=>by
  rw[List.getElem?_cons_succ]at h;have:=rn (vs:=vs) v h
  rw[show(j+1)*2=j*2+2 by omega];simp only[fN,List.set_cons_succ,this]
theorem Gw{σ:I A}{v:PV}(h:wD σ k v)(d:v.blk=G):k=0\/vR k v=0:=by
 by_cases e:k=0
 · exact .inl e
 right;unfold vR;rw[eP e,d]
theorem GZ{σ:I A}{v:PV}{j:R}(h:wD σ k v)(d:v.blk=Y j):¬k=0/\vR k v=(j:A)+1/\j<D σ:=by
 obtain⟨F,h2⟩:=h j d;exact⟨F,by unfold vR;rw[eP F,d],(dm.1 h2).1⟩
structure RO(bs:I (I PV))(roots op:I PV)(ms:I R):Prop where
 nd:ms.Nodup
 lt:∀j∈ms,j<D bs
 clo:∀j∈ms,∀i,cZ (bs.getD j []) i->i∈ms\/cZ op i
 rts:∀i,cZ roots i->i∈ms\/cZ op i
 snd:∀C:R->Prop,(∀i,cZ roots i->C i)->(∀j,C j->∀i,cZ (bs.getD j []) i->C i)->(∀j∈ms,C j)/\∀i,cZ op i->C i
theorem RO.start(bs:I (I PV))(roots:I PV):RO bs roots roots []:=
 ⟨List.nodup_nil,λj h=>by simp at h,λj h=>by simp at h,λi h=>.inr h,λC d _=>⟨λj h=>by simp at h,d⟩⟩
theorem RO.skip{v:PV}(h:RO bs roots (op++[v]) ms)(hv:∀j,v.blk=Y j->j∈ms):RO bs roots op ms:=by
 have e:∀i,cZ _ i->i∈ms\/cZ op i:=λi hi=>by
  rcases dU.1 hi with hi|hi
  · exact .inr hi
  exact .inl (hv i (gE.1 hi))
 exact⟨h.nd,h.lt,λj hj i hi=>(h.clo j hj i hi).elim .inl (e i),λi hi=>(h.rts i hi).elim .inl (e i),λC F d=>⟨(h.snd C F d).1,λi hi=>(h.snd C F d).2 i (dU.2 (.inl hi))⟩⟩
theorem RO.take{v:PV}{j:R}(h:RO bs roots (op++[v]) ms)(hv:v.blk=Y j)(hj:j∉ms)(hl:j<D bs):RO bs roots (op++bs.getD j []) (j::ms):=by
 have e:∀i,cZ (op++[v]) i->i∈j::ms\/cZ (op++bs.getD j []) i:=λi hi=>by
  rcases dU.1 hi with hi|hi
  · exact .inr (dU.2 (.inl hi))
  left
  have:=gE.1 hi
  rw[hv]at this;rw[<-tz this];exact J9
 refine⟨List.nodup_cons.2 ⟨hj,h.nd⟩,λi hi=>?_,λi hi q F=>?_,λi hi=>?_,λC h1 h2=>?_⟩
 · rcases Ce.1 hi with rfl|hi
   · exact hl
   exact h.lt i hi
 · rcases Ce.1 hi with rfl|hi
   · exact .inr (dU.2 (.inr F))
   rcases h.clo i hi q F with k|k
   · exact .inl (Jw _ k)
   exact e q k
 · rcases h.rts i hi with k|k
   · exact .inl (Jw _ k)
   exact e i k
 obtain⟨k1,d⟩:=h.snd C h1 h2;have hC:=d j (dU.2 (.inr (gE.2 hv)));refine⟨λi hi=>?_,λi hi=>?_⟩
 · rcases Ce.1 hi with rfl|hi
   · exact hC
   exact k1 i hi
 rcases dU.1 hi with hi|hi
 · exact d i (dU.2 (.inl hi))
 exact h2 j hC i hi
theorem Fl{f:R->R}{a b:I R}(F:a.Nodup)(hb:b.Nodup)(h:∀j,j∈a↔j∈b):(a.map f).sum=(b.map f).sum:=
 Nat.le_antisymm (lU F λj d=>(h j).1 d) (lU hb λj d=>(h j).2 d)
theorem RO.done{L:I eZ}(h:RO bs roots [] ms)(hr:∀i,cZ roots i↔∃r∈dk L,cZ r i)(h1:∀r∈dk L,∀i,cZ r i->i<D bs)(h2:∀j,j<D bs->∀i,cZ (bs.getD j []) i->i<D bs):gK bs ms=fE L bs:=by
 obtain⟨ad,n1,n2,n3,n4,n5,n6⟩:=lD h1 h2;rw[n2];refine Fl h.nd n1 λj=>⟨λd=>?_,λd=>?_⟩
 · exact(h.snd _ (λi hi=>by obtain⟨r,k1,k2⟩:=(hr i).1 hi;exact n3 r k1 i k2) λj d i hi=>n4 j d i hi).1 j d
 exact n6 _ (λr F i hi=>(h.rts i ((hr i).2 ⟨r,F,hi⟩)).elim id λk=>absurd k pP) (λj d i hi=>(h.clo j d i hi).elim id λk=>absurd k pP) j d
theorem Gz(hn:ms.Nodup)(d:∀j∈ms,j<D bs):gK bs ms<=gK bs (List.range (D bs)):=lU hn λj F=>MN.2 (d j F)
theorem CO(bs:I (I PV))(j:R)(ms:I R):gK bs (j::ms)=D (bs.getD j [])+1+gK bs ms:=by simp[gK,Hl]
structure oN where
 V:T
 u:aK
 v1:M
 v2:M
 v3:M
 v4:M
 v5:M
 mb:R
 heap:R
structure RF where
 fn:R
 pos:R
 ks:I A
 slots:I PV
 kt:I A
 stack:I PV
 vs:M
 vk:M
def zW(e:RF):I M:=[O Z (e.fn:A),O Z (e.pos:A),e.vs,e.vk]
theorem pV(e:RF):D (zW e)=4:=rfl
structure RK where
 ks:I A
 fs:I PV
 v:M
structure Iw(mb:R)(ρ:R->BR)(w:T)(i:R)(e:RF):Prop where
 sl:jC ρ (.ls 0 i) w (mb+1) 122 2 e.vs (D e.slots) (fN e.ks e.slots)
 st:jC ρ (.ls 1 i) w (mb+1) 122 2 e.vk (D e.stack) (fN e.kt e.stack)
 ls:D e.ks=D e.slots
 lt:D e.kt=D e.stack
structure Gj(mb:R)(ρ:R->BR)(w:T)(j:R)(e:RK):Prop where
 fl:jC ρ (.ls 2 j) w (mb+1) 122 2 e.v (D e.fs) (fN e.ks e.fs)
 ln:D e.ks=D e.fs
structure RX where
 told:I A
 steps:A
 why:A
 res:A
structure DW(C:oN)(w:T)(ρ:R->BR)(L:I RF)(B:I RK)(x:RX)(vF vB vT:M):Prop where
 box:w.heap[C.mb]? =Y (X #[C.v1,C.v2,C.v3,C.v4,C.v5,vF,vB,O Z (C.heap:A),O Z x.why,O Z 0,O Z 0,O Z 0,O Z x.res,vT,O Z x.steps] 79 (0,0))
 pl:∀b,ρ b≠.no->C.mb<b/\b<w.heap.size
 low:∀b,b<C.mb->w.heap[b]? =C.V.heap[b]?
 env:w.os=C.V.os/\w.tape=C.V.tape/\w.output=C.V.output
 fr:jC ρ (.row 5) w (C.mb+1) 82 4 vF (D L) (L.flatMap zW)
 fs:∀i e,L[i]? =Y e->Iw C.mb ρ w i e
 bk:jC ρ (.row 6) w (C.mb+1) 130 1 vB (D B) (B.map (·.v))
 bs:∀j e,B[j]? =Y e->Gj C.mb ρ w j e
 tl:jC ρ (.row 13) w (C.mb+1) 3 1 vT (D x.told) (fK x.told)
theorem Iw.mv{ρ ρ':R->BR}{w w':T}{e:RF}(h:Iw mb ρ w i e)(m:jt mb AAq w w' ρ ρ')(d:¬AAq (.ls 0 i))(F:¬AAq (.ls 1 i)):Iw mb ρ' w' i e:=⟨h.sl.mv m d,h.st.mv m F,h.ls,h.lt⟩
theorem Gj.mv{ρ ρ':R->BR}{w w':T}{j:R}{e:RK}(h:Gj mb ρ w j e)(m:jt mb AAq w w' ρ ρ')(d:¬AAq (.ls 2 j)):Gj mb ρ' w' j e:=⟨h.fl.mv m d,h.ln⟩
section
variable {C:oN} {w w' w1:T} {ρ ρ':R->BR} {L:I RF} {B:I RK} {x:RX} {vF vB vT:M} {e:RF}
theorem DW.lt(h:DW C w ρ L B x vF vB vT):C.mb<w.heap.size:=(eJ.1 h.box).1
theorem DW.no(h:DW C w ρ L B x vF vB vT){b:R}(d:b<=C.mb):ρ b=.no:=by
 by_cases e:ρ b=.no
 · exact e
 have:=(h.pl b e).1;omega
theorem DW.new(h:DW C w ρ L B x vF vB vT){b:R}(d:w.heap.size<=b):ρ b=.no:=by
 by_cases e:ρ b=.no
 · exact e
 have:=(h.pl b e).2;omega
theorem DW.plA(h:DW C w ρ L B x vF vB vT)(m:jt C.mb AAq w w' ρ ρ'):∀b,ρ' b≠.no->C.mb<b/\b<w'.heap.size:=λb d=>by
 by_cases F:b<w.heap.size
 · rw[m.old b F]at d;exact⟨(h.pl b d).1,tu F m.size⟩
 exact⟨R6,m.new b Q5 d⟩
theorem DW.lowA(h:DW C w ρ L B x vF vB vT)(m:jt C.mb AAq w w' ρ ρ')(F:¬AAq .no):∀b,b<C.mb->w'.heap[b]? =C.V.heap[b]? :=λb d=>(m.blk b R6 Q5 (by rw[h.no Q5];exact F)).trans (h.low b d)
theorem DW.envA(h:DW C w ρ L B x vF vB vT)(m:jt C.mb AAq w w' ρ ρ'):w'.os=C.V.os/\w'.tape=C.V.tape/\w'.output=C.V.output:=⟨m.env.1.trans h.env.1,m.env.2.1.trans h.env.2.1,m.env.2.2.trans h.env.2.2⟩
theorem DW.keep(h:DW C w ρ L B x vF vB vT)(hs:w.heap.size<=w'.heap.size)(he:w'.os=w.os/\w'.tape=w.tape/\w'.output=w.output)(g:∀b,b<w.heap.size->(b<=C.mb\/ρ b≠.no)->w'.heap[b]? =w.heap[b]?):DW C w' ρ L B x vF vB vT:=by
 have m:jt C.mb (· =.no) w _ _ _:=⟨hs,λ_ _=>rfl,λk d _ hA=>g k d (.inr hA),λk d hn=>by have:=(h.pl k hn).2;omega,he⟩;exact⟨(g _ h.lt (.inl lj)).trans h.box,h.plA m,λb F=>(g b R6 (.inl Q5)).trans (h.low b F),h.envA m,h.fr.mv m nofun,λi e hi=>(h.fs i e hi).mv m nofun nofun,h.bk.mv m nofun,λj e hj=>(h.bs j e hj).mv m nofun,h.tl.mv m nofun⟩
theorem DW.gr(h:DW C w ρ L B x vF vB vT)(g:Gr w w'):DW C w' ρ L B x vF vB vT:=h.keep g.size ⟨g.os,g.tape,g.output⟩ λb d _=>g.block b d Q6
theorem DW.free(h:DW C w ρ L B x vF vB vT){f o:R}(hf:C.mb<f)(F:ρ f=.no)(v:M):DW C (w.setCell (Q f o G) v) ρ L B x vF vB vT:=
 h.keep Q6 ⟨rfl,rfl,rfl⟩ λb _ d=>dp _ _ _ _ (λe=>by
  rcases d with d|d
  · have:b=f:=e;omega
  exact d (by rw[show b=f from e];exact F))
theorem DW.vgr(h:DW C w ρ L B x vF vB vT)(d:C.V.heap.size=C.mb):Gr C.V w:=⟨h.env.1,h.env.2.1,h.env.2.2,R6,λi hi _=>h.low i Q5⟩
theorem DW.setBox(h:DW C w ρ L B x vF vB vT)(o:R)(v:M):jt C.mb (λ_=>False) w (w.setCell (Q C.mb o G) v) ρ ρ/\(w.setCell (Q C.mb o G) v).heap[C.mb]? =Y (X ((#[C.v1,C.v2,C.v3,C.v4,C.v5,vF,vB,O Z (C.heap:A),O Z x.why,O Z 0,O Z 0,O Z 0,O Z x.res,vT,O Z x.steps]:Array M).setIfInBounds o v) 79 (0,0)):=
 ⟨⟨Q6,λ_ _=>rfl,λk _ F _=>dp _ _ _ _ F,λk hk d=>by have:=(h.pl k d).2;omega,rfl,rfl,rfl⟩,bK h.box⟩
theorem DW.setX(h:DW C w ρ L B x vF vB vT)(o:R)(n:A)(x':RX)(ht:x'.told=x.told)(F:(#[C.v1,C.v2,C.v3,C.v4,C.v5,vF,vB,O Z (C.heap:A),O Z x.why,O Z 0,O Z 0,O Z 0,O Z x.res,vT,O Z x.steps]:Array M).setIfInBounds o (O Z n)=#[C.v1,C.v2,C.v3,C.v4,C.v5,vF,vB,O Z (C.heap:A),O Z x'.why,O Z 0,O Z 0,O Z 0,O Z x'.res,vT,O Z x'.steps]):DW C (w.setCell (Q C.mb o G) (O Z n)) ρ L B x' vF vB vT:=by
 obtain⟨m,d⟩:=h.setBox o (O Z n);exact⟨by rw[d,F],h.plA m,h.lowA m id,h.envA m,h.fr.mv m id,λi e hi=>(h.fs i e hi).mv m id id,h.bk.mv m id,λj e hj=>(h.bs j e hj).mv m id,by rw[ht];exact h.tl.mv m id⟩
theorem yW{L:I RF}{e e':RF}{y:M}(d:q<4)(he:(zW e).set q y=zW e'):((L++[e]).flatMap zW).set (D L*4+q) y=(L++[e']).flatMap zW:=by
 rw[Ka,Ka,List.set_append,eP (by rw[kV pV];omega),kV pV,Nat.add_sub_cancel_left];simp only[I',List.flatMap_nil,Ir];rw[he]
theorem RI{p:Prop}(h:p:=by have:=(dm.1 hi).1;simp at this;omega):p:=h
theorem DW.setFr(h:DW C w ρ (L++[e]) B x vF vB vT){g cap n:R}(hv:vF=J (Y (Q g 0 G)) n cap){q:R}{y:M}(hq:q<4){e':RF}(he:(zW e).set q y=zW e')(hF:Iw C.mb ρ w (D L) e->Iw C.mb ρ w (D L) e'):DW C (w.setCell ⟨g,D L*4+q,G⟩ y) ρ (L++[e']) B x vF vB vT:=by
 have hl:D (L++[e])=D L+1:=Q6;have F:vF.ownBlock=Y g:=Rr
 obtain⟨o,m⟩:=h.fr.set F (D L*4+q) (by rw[hl];omega) y λb hb=>(h.pl b hb).2;rw[yW hq he,hl]at o;have TA:g≠C.mb:=by have:=(h.fr.1.lt g F).1;omega
 refine⟨(dp _ _ _ _ λe=>TA e.symm).trans h.box,h.plA m,h.lowA m nofun,h.envA m,by rw[fe];exact o,λi f hi=>?_,h.bk.mv m nofun,λj e hj=>(h.bs j e hj).mv m nofun,h.tl.mv m nofun⟩;by_cases Ug:i<D L
 · rw[ze Ug]at hi;exact(h.fs i f (by rw[ze Ug];exact hi)).mv m nofun nofun
 have d:i=D L:=RI
 subst d;rw[Ag lj,Lf]at hi;obtain rfl:=Q'
 exact(hF (h.fs _ e Q6)).mv m nofun nofun
theorem DW.setPos(h:DW C w ρ (L++[e]) B x vF vB vT){g cap n:R}(hv:vF=J (Y (Q g 0 G)) n cap)(p:R):DW C (w.setCell ⟨g,D L*4+1,G⟩ (O Z (p:A))) ρ (L++[{ e with pos:=p }]) B x vF vB vT:=
 h.setFr hv Q9 rfl λf=>⟨f.sl,f.st,f.ls,f.lt⟩
theorem vW{w:T}{b:R}{t:TypeId}{sz len m cap:R}{a:By Addr}{xs:I M}(h:w.ownsRow b t sz (J a len cap) len xs)(hm:m<=len):w.ownsRow b t sz (J a m cap) m (xs.take (m*sz)):=by
 have hx:=h.1;have F:=Jl sz hm;refine⟨by rw[Bc,hx];omega,?_⟩;rcases h.2 with⟨d,h2⟩|⟨g,Un,cur,d,h2,h3,h4,h5,h6,h7⟩
 · simp only[jj]at d;obtain⟨rfl,rfl,rfl⟩:=d;obtain rfl:m=0:=by omega
   exact .inl ⟨rfl,rfl⟩
 simp only[jj]at d;obtain⟨rfl,_,rfl⟩:=d;exact .inr ⟨g,_,_,rfl,h2,h3,Q5,h5,h6,by rw[<-h7,List.take_take,Mn F]⟩
theorem pM(a:By Addr)(m n:R){c:R}:(J a m c).ownBlock=(J a n c).ownBlock:=by cases a<;>rfl
theorem uG(h:D ks=D vs){m:R}(hm:m<=D vs):(fN ks vs).take (m*2)=fN (ks.take m) (vs.take m):=by
 have e1:=KV m ks;have F:=KV m vs;have d:D (ks.take m)=D (vs.take m):=by rw[Bc,Bc,h]
 have:fN ks vs=fN (ks.take m) (vs.take m)++fN (ks.drop m) (vs.drop m):=by rw[<-l_ d,e1,F]
 rw[this,My (by rw[kd d,Bc];omega),JH (by rw[kd d,Bc];omega)]
theorem DW.cut(h:DW C w ρ (L++[e]) B x vF vB vT){g cap n:R}(hv:vF=J (Y (Q g 0 G)) n cap){a:By Addr}{c m:R}(d:e.vk=J a (D e.stack) c)(hm:m<=D e.stack):DW C (w.setCell ⟨g,D L*4+3,G⟩ (J a m c)) ρ (L++[{ e with kt:=e.kt.take m,stack:=e.stack.take m,vk:=J a m c }]) B x vF vB vT:=
 h.setFr hv Q9 rfl λf=>by
  have F:=f.st.1;rw[d]at F;refine⟨f.sl,⟨?_,λk TN=>f.st.2 k (by rw[d,pM a _ m];exact TN)⟩,f.ls,by rw[Bc,Bc,f.lt]⟩;have:=vW F hm
  rw[uG f.lt hm]at this;simpa[Mn hm]using this
theorem DW.push(h:DW C w ρ (L++[e]) B x vF vB vT){g cap n:R}(hv:vF=J (Y (Q g 0 G)) n cap){k:A}{v:PV}{d:M}(S4:Ap (C.mb+1) 122 2 w e.vk w1 d (D e.stack+1) (fN e.kt e.stack++[O Z k,O Z (vR k v)])):∃ρ',DW C (w1.setCell ⟨g,D L*4+3,G⟩ d) ρ' (L++[{ e with kt:=e.kt++[k],stack:=e.stack++[v],vk:=d }]) B x vF vB vT/\jt C.mb (λr=>r=.ls 1 (D L)\/r=.row 5) w (w1.setCell ⟨g,D L*4+3,G⟩ d) ρ ρ':=by
 have hf:=h.fs (D L) e Q6;have m:=oR S4 hf.st.2;have ho:=hf.st.app S4;have TJ:=S4.frm.block _ h.lt (λe=>by have:=(hf.st.1.lt _ e.symm).1;omega);have ae:=h.fr.mv m nofun;have hg:vF.ownBlock=Y g:=Rr
 have hl:∀e,D (L++[e])=D L+1:=λe=>by simp
 have af:=h.plA m;obtain⟨o,m2⟩:=ae.set hg (D L*4+3) (by rw[hl];omega) d λb hb=>(af b hb).2;rw[yW (e':={ e with kt:=e.kt++[k],stack:=e.stack++[v],vk:=d }) Q9 rfl,hl]at o;have F:jt _ (λr=>r=.ls 1 _\/r=.row 5) w _ _ _:=(m.mono λ_=>.inl).trans (m2.mono λ_=>.inr);have TA:g≠C.mb:=by have:=(ae.1.lt g hg).1;omega
 refine⟨_,⟨(dp _ _ _ _ λe=>TA e.symm).trans (TJ.trans h.box),h.plA F,h.lowA F Q6,h.envA F,by rw[hl];exact o,λi f hi=>?_,h.bk.mv F Q6,λj e hj=>(h.bs j e hj).mv F Q6,h.tl.mv F Q6⟩,F⟩;by_cases Ug:i<D L
 · rw[ze Ug]at hi;exact(h.fs i f (by rw[ze Ug];exact hi)).mv F Q6 jB
 have ad:i=D L:=RI
 subst ad;rw[Ag lj,Lf]at hi;obtain rfl:=Q'
 refine⟨(hf.sl.mv F Q6),?_,hf.ls,by simp[hf.lt]⟩;have:=ho.mv m2 nofun
 simp only[fe,MI];rw[l_ hf.lt];exact this
theorem DW.setSlot(h:DW C w ρ (L++[e]) B x vF vB vT){g cap n a:R}(hv:e.vs=J (Y (Q g 0 G)) n cap){k:A}(hk:e.ks[a]? =Y k)(v:PV):DW C ((w.setCell ⟨g,a*2,G⟩ (O Z k)).setCell ⟨g,a*2+1,G⟩ (O Z (vR k v))) ρ (L++[{ e with slots:=e.slots.set a v }]) B x vF vB vT:=by
 have d:=h.fs (D L) e Q6;have hg:e.vs.ownBlock=Y g:=Rr
 have ae:a<D e.slots:=by rw[<-d.ls];exact(dm.1 hk).1
 obtain⟨o1,m1⟩:=d.sl.set hg (a*2) Q5 (O Z k) λb hb=>(h.pl b hb).2;obtain⟨o2,m2⟩:=o1.set hg (a*2+1) Q5 (O Z (vR k v)) (λb hb=>by simpa using(h.pl b hb).2);have m:=m1.trans m2;rw[rn v hk]at o2;have TA:g≠C.mb:=by have:=(d.sl.1.lt g hg).1;omega
 have hl:∀e,D (L++[e])=D L+1:=λe=>by simp
 have F:=h.fr.mv m nofun;refine⟨(dp _ _ _ _ λe=>TA e.symm).trans ((dp _ _ _ _ λe=>TA e.symm).trans h.box),h.plA m,h.lowA m nofun,h.envA m,?_,λi f hi=>?_,h.bk.mv m nofun,λj e hj=>(h.bs j e hj).mv m nofun,h.tl.mv m nofun⟩
 · rw[hl]at F |-;simpa[zW]using F
 by_cases Ug:i<D L
 · rw[ze Ug]at hi;exact(h.fs i f (by rw[ze Ug];exact hi)).mv m jB Q6
 have ad:i=D L:=RI
 subst ad;rw[Ag lj,Lf]at hi;obtain rfl:=Q'
 exact⟨by simpa using o2,d.st.mv m Q6,by simp[d.ls],d.lt⟩
end
end Go.Proofs.YtghjmnlapcpbiaaGreatDoor
