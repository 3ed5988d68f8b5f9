import Derived.Test.YtghjmnlapcpbiaaGreatDoorNm
namespace Go.Proofs.YtghjmnlapcpbiaaGreatDoor
open _root_ renaming Option.some->Y,Option.none->G,Go.Value.int->O,Go.IntKind.i64->Z,Go.Value.slice->J,List->I,Nat->R,Int->A,Go.World.cell?->H,List.length->D,Go.Obj.cells->X,Go.Value->M,Go.World->T,Go.Addr.mk->Q,Go.RowKit.Hid->U,UInt8->AI,Bool.false->AS,Bool.true->AT,Option->By
open Go.Proofs.Tryz
open Go.RowKit
set_option linter.defProp false
variable{es1:I (M×I A)}{l:I A}{es3:I LF}{es5:I LX}{s:I AI}{xs:I M}{us:I aK}{B C base k:R}{ρ:R->Rl}{o:By R}{e:TypeId}{v1 v2 v3 v5:M}{u:aK}
def JY:=@List.length_map.{0,0}
def K4:=@Array.getElem?_setIfInBounds_self_of_lt.{0}
def Lj:=@Array.getElem?_setIfInBounds_ne.{0}
set_option maxRecDepth 100000
set_option maxHeartbeats 4000000
set_option linter.unusedVariables false
set_option linter.unusedSimpArgs false
open Go.RowKit
attribute [local go_sem ↓] Go.wp_at_zero Go.wp_at_succ
structure OU(B:R)(w:T)(v1 v2 v3 v5:M)(es1:I (M×I A))(cs:I A)(es3:I LF)(es5:I LX)(ρ:R->Rl):Prop where
 bs:B<=w.heap.size
 o1:Ow ρ .sh w B 26 1 v1 (D es1) (es1.map (·.1))
 o1i:∀i e,es1[i]? =Y e->Ow ρ (.sI i) w B 3 1 e.1 (D e.2) (fK e.2)
 o2:Ow ρ .co w B 3 1 v2 (D cs) (fK cs)
 o3:Ow ρ .fu w B 74 4 v3 (D es3) (es3.flatMap cF)
 o3i:∀i e,es3[i]? =Y e->Ow ρ (.fp i) w B 3 1 e.vp (D e.f.aH) (fK e.f.aH)/\Ow ρ (.fl i) w B 3 1 e.vl (D e.f.aI) (fK e.f.aI)/\Ow ρ (.fc i) w B 87 3 e.vc (D e.f.code) (e.f.code.flatMap cC)
 o5:Ow ρ .ex w B 71 2 v5 (D es5) (es5.flatMap cX)
theorem JA.ou{ab:R}{w:T}{cs:I A}(h:JA B ab w v1 v2 v3 v5 es1 cs es3 es5 ρ):OU B w v1 v2 v3 v5 es1 cs es3 es5 ρ:=⟨h.bs,h.o1,h.o1i,h.o2,h.o3,h.o3i,h.o5⟩
theorem OU.mv{w w':T}{cs:I A}(h:OU B w v1 v2 v3 v5 es1 cs es3 es5 ρ)(hs:w.heap.size<=w'.heap.size)(g:∀k,B<=k->k<w.heap.size->w'.heap[k]? =w.heap[k]?):OU B w' v1 v2 v3 v5 es1 cs es3 es5 ρ:=by
 have m:Mv B .bx w _ ρ _:=⟨hs,λk d F=>⟨rfl,λ_=>g k F d⟩⟩;exact⟨wz h.bs hs,h.o1.mv m nofun,λi e he=>(h.o1i i e he).mv m nofun,h.o2.mv m nofun,h.o3.mv m nofun,λi e he=>⟨(h.o3i i e he).1.mv m nofun,(h.o3i i e he).2.1.mv m nofun,(h.o3i i e he).2.2.mv m nofun⟩,h.o5.mv m nofun⟩
theorem mR{w:T}{n len:R}{v:M}(h:w.ownsRow B e n v len xs):len<=maxLen:=by
 rcases h.2 with⟨_,rfl⟩|⟨g,cap,cur,_,_,_,F,d,_⟩
 · exact Lz
 exact wz F d
theorem gh{w:T}{n len:R}{v:M}(h:w.ownsRow B e n v len xs){j:R}(hj:j<len*n):∃b cap,v=J (Y (Q b 0 G)) len cap/\H w (Q b j G)=xs[j]? :=by
 rcases h.2 with⟨_,F⟩|⟨g,cap,cur,e1,e2,d,e4,e5,e6,e7⟩
 · subst F;omega
 refine⟨g,_,e1,?_⟩;rw[aP d,<-e7,Lh,mI hj,Lk]
theorem nZ{w:T}{v:M}(h:w.ownsRow B e 1 v (D l) (fK l)):aY w v l:=by
 obtain⟨ao,cap,rfl⟩:=aR h;refine⟨_,_,rfl,mR h,λi hi=>?_⟩;obtain⟨b,F,e1,d⟩:=gh h (j:=i) Q5;simp only[jj,Bt]at e1;exact⟨b,0,e1.1,by rw[Aq,d];simp[fK,hi,mh]⟩
theorem E4{w:T}{v:M}{l:I bP}(h:w.ownsRow B e 3 v (D l) (l.flatMap cC)):eC w v l:=by
 obtain⟨ao,cap,rfl⟩:=aR h;refine⟨_,_,rfl,mR h,λi x hx=>?_⟩;have hi:=(dm.1 hx).1;obtain⟨b,cp,e1,e2⟩:=gh h (j:=i*3) Q5;obtain⟨b',ai,F,ae⟩:=gh h (j:=i*3+1) Q5;obtain⟨ak,af,d,ad⟩:=gh h (j:=i*3+2) Q5;simp only[jj,Bt]at e1 F d;obtain⟨rfl,rfl⟩:=e1;simp only[qN,Ij,I7]at F d;obtain⟨rfl,-⟩:=F;obtain⟨rfl,-⟩:=d;refine⟨b,0,rfl,?_,?_,?_⟩
 · rw[Aq,e2];exact jK nI l i 0 x hx Q5
 · rw[Aq,ae];exact jK nI l i 1 x hx Q5
 rw[Aq,ad];exact jK nI l i 2 x hx Q5
theorem OU.runit{w:T}{cs:I A}(h:OU B w v1 v2 v3 v5 es1 cs es3 es5 ρ)(hx:∀e∈es5,e.s.size<=maxLen):bV w (.agg #[v1,v2,v3,J G 0 0,v5]) ⟨es1.map (·.2),cs,es3.map (·.f),[],es5.map (·.p)⟩:=by
 refine⟨_,_,_,_,_,rfl,?_,nZ h.o2.1,?_,⟨_,0,rfl,Lz,λi x hi=>by simp at hi⟩,?_⟩
 · obtain⟨ao,cap,rfl⟩:=aR h.o1.1;refine⟨ao,cap,Q6,by simpa using mR h.o1.1,λi x hi=>?_⟩;simp only[Ha,AF]at hi;obtain⟨e,he,rfl⟩:=hi;have hl:=(dm.1 he).1;obtain⟨b,cp,e1,e2⟩:=gh h.o1.1 (j:=i) Q5;simp only[jj,Bt]at e1;exact⟨b,0,_,e1.1,by rw[Aq,e2];simp[he],nZ (h.o1i i e he).1⟩
 · obtain⟨ao,cap,rfl⟩:=aR h.o3.1;refine⟨ao,cap,Q6,by simpa using mR h.o3.1,λi x hi=>?_⟩;simp only[Ha,AF]at hi;obtain⟨e,he,rfl⟩:=hi;have hl:=(dm.1 he).1;obtain⟨b,cp,e1,e2⟩:=gh h.o3.1 (j:=i*4) Q5;simp only[jj,Bt]at e1;obtain⟨rfl,rfl⟩:=e1;have F:∀r,r<4->H w ⟨b,0+i*4+r,_⟩=(cF e)[r]? :=λr hr=>by
    obtain⟨b',ae,d,ad⟩:=gh h.o3.1 (j:=i*4+r) Q5;simp only[jj,qN,Ij,I7,Bt]at d;obtain⟨rfl,-⟩:=d;rw[Aq,ad];exact jK FJ _ i r e he hr
   obtain⟨p1,p2,p3⟩:=h.o3i i e he;exact⟨b,0,_,_,_,rfl,F 0 Q5,F 1 Q5,F 2 Q5,F 3 Q5,nZ p1.1,nZ p2.1,E4 p3.1⟩
 · obtain⟨ao,cap,rfl⟩:=aR h.o5.1;refine⟨ao,cap,Q6,by simpa using mR h.o5.1,λi x hi=>?_⟩;simp only[Ha,AF]at hi;obtain⟨e,he,rfl⟩:=hi;have hl:=(dm.1 he).1;obtain⟨b,cp,e1,e2⟩:=gh h.o5.1 (j:=i*2) Q5;simp only[jj,Bt]at e1;obtain⟨rfl,rfl⟩:=e1;have F:∀r,r<2->H w ⟨b,0+i*2+r,_⟩=(cX e)[r]? :=λr hr=>by
    obtain⟨b',ae,d,ad⟩:=gh h.o5.1 (j:=i*2+r) Q5;simp only[jj,qN,Ij,I7,Bt]at d;obtain⟨rfl,-⟩:=d;rw[Aq,ad];exact jK ER _ i r e he hr
   exact⟨b,0,_,rfl,F 0 Q5,F 1 Q5,_,rfl,rfl,hx e (dL he)⟩
theorem uZ(N:I AI->A):∀(l:I aK) (c f:R),(de N c f l).1.length=(l.map λu=>D u.aE).sum/\(de N c f l).2.1.length=(l.map λu=>D u.aG).sum/\(de N c f l).2.2.length=(l.map λu=>D u.aD).sum
 | [],c,f=>⟨rfl,rfl,rfl⟩
 | u::l,c,f=>by
  obtain⟨F,d,h3⟩:=uZ N l (c+D u.aE) (f+D u.aG);simp only[de,fe,JY,Lq,Mg,F,d,h3,and_self]
theorem yh(N:I AI->A)(l:I aK):uA l=!decide (30<(de N 0 0 l).2.1.length\/50<(de N 0 0 l).1.length\/20<(de N 0 0 l).2.2.length):=by
 obtain⟨h1,F,d⟩:=uZ N l 0 0;rw[h1,F,d];unfold uA cw gG oW;rw[J6];rw[KZ];simp
theorem E6(l:I aK):oU (iA 0 l λ_=>G)=tgtN l:=by funext n;rfl
theorem qq(N:I AI->A):∀(l:I aK) (c f:R),∀e∈(de N c f l).2.2,∃u∈l,∃x∈u.aD,e.name=x.name
 | [],c,f,e,h=>by simp[de]at h
 | u::l,c,f,e,h=>by
  simp only[de,F1,MB]at h;rcases h with⟨x,d,rfl⟩|h
  · exact⟨u,J9,x,d,rfl⟩
  obtain⟨F,hu,x,d,e1⟩:=qq N l _ _ e h;exact⟨_,Jw _ hu,x,d,e1⟩
def oM(C:R)(w:T)(v:M)(u:aK):Prop:=∃v1 v2 v3 v5 es1 cs es3 es5 ρ B,v=.agg #[v1,v2,v3,J G 0 0,v5]/\C<=B/\OU B w v1 v2 v3 v5 es1 cs es3 es5 ρ/\u=⟨es1.map (·.2),cs,es3.map (·.f),[],es5.map (·.p)⟩/\∀e∈es5,e.s.size<=maxLen
theorem oM.runit{w:T}{v:M}(h:oM C w v u):bV w v u:=by
 obtain⟨v1,v2,v3,v5,es1,cs,es3,es5,ρ,B,rfl,_,F,rfl,d⟩:=h;exact F.runit d
theorem oM.mv{w w':T}{v:M}(h:oM C w v u)(hs:w.heap.size<=w'.heap.size)(g:∀k,C<=k->k<w.heap.size->w'.heap[k]? =w.heap[k]?):oM C w' v u:=by
 obtain⟨v1,v2,v3,v5,es1,cs,es3,es5,ρ,B,e1,d,ho,e2,hx⟩:=h;exact⟨_,_,_,_,_,_,_,_,_,B,e1,d,ho.mv hs λk F hl=>g k (wz d F) hl,e2,hx⟩
theorem oM.slices{w:T}{v:M}(h:oM C w v u):∃a1 F a3 a5 n1 n2 n3 n5 c1 c2 c3 c5,v=.agg #[J a1 n1 c1,J F n2 c2,J a3 n3 c3,J G 0 0,J a5 n5 c5]:=by
 obtain⟨v1,v2,v3,v5,es1,cs,es3,es5,ρ,B,rfl,_,d,_⟩:=h;obtain⟨a1,c1,rfl⟩:=aR d.o1.1;obtain⟨F,c2,rfl⟩:=aR d.o2.1;obtain⟨a3,c3,rfl⟩:=aR d.o3.1;obtain⟨a5,c5,rfl⟩:=aR d.o5.1;exact⟨_,_,_,_,_,_,_,_,_,_,_,_,rfl⟩
def Hv(W:T)(l:I aK)(x:Ending)(w':T):Prop:=Gr W w'/\((∃v u,dK l=.inl u/\x=.returned v/\oM W.heap.size w' v u)\/∃(e:A) (k:R),dK l=.inr (e,k)/\x=.panicked (iT e (k:A)))
theorem Tryz.callWf(F d:M)(w:T):(callFunc 71 (#[]++(#[F,d]++#[]))).run Tryz.prog w=.ok (.enter 71 (#[]++(#[F,d]++#[]))) w:=Q7
theorem Tryz.callU1(F d v1:M)(w:T):(callFunc 72 (#[]++(#[F,d]++#[v1]))).run Tryz.prog w=.ok (.enter 72 (#[]++(#[F,d]++#[v1]))) w:=Q7
theorem Tryz.callTh(v1 F d:M)(w:T):(callFunc 76 (#[v1]++(#[F,d]++#[]))).run Tryz.prog w=.ok (.enter 76 (#[v1]++(#[F,d]++#[]))) w:=Q7
theorem Tryz.callAl(v1 F d:M)(w:T):(callFunc 77 (#[v1]++(#[F,d]++#[]))).run Tryz.prog w=.ok (.enter 77 (#[v1]++(#[F,d]++#[]))) w:=Q7
theorem CU{α:Type}{p:α->Bool}{l:I α}(h:(l.any λx=>!p x)=AS):∀x∈l,p x=AT:=by
 intro x d;cases hp:p x with
 | true=>rfl
 | false=>
  have:(l.any λx=>!p x)=AT:=Mj.2 ⟨x,d,by simp[hp]⟩
  rw[h]at this;cases this
theorem OP{p:Prop}(h:p:=by
 clear hc;go_enter func31,ntmps31
 go_wp2_with fail;refine(bA _ _ _).mono ?_;rintro z w2 ⟨rfl,IT⟩;exact⟨rfl,Td.trans IT,.inr ⟨4,0,VY,rfl⟩⟩):p:=h
theorem CI(W:T)(l:I aK)(vl:M)(hR:dH W vl l):Calls prog 31 #[vl] W (Hv W l):=by
 obtain⟨al,cl,rfl⟩:=hR.shape;have hm:D l<=maxLen:=by obtain⟨_,_,_,hm,_⟩:=hR;exact hm
 unfold maxLen at hm;have g1:Gr W ((W.alloc (X #[J al (D l) cl] 53)).alloc (X yF 58)):=((Gr.refl W).alloc _).alloc _;have TI:=jZ W (X #[J al (D l) cl] 53);have S9:=jZ (W.alloc (X #[J al (D l) cl] 53)) (X yF 58);have s1:(W.alloc (X #[J al (D l) cl] 53)).heap.size=W.heap.size+1:=Q6;have s2:((W.alloc (X #[J al (D l) cl] 53)).alloc (X yF 58)).heap.size=W.heap.size+2:=Q6;rw[s1]at S9;have a9:U (H ((W.alloc _).alloc (X yF 58)) ⟨_,0,_⟩=Y (J _ _ _)):=aJ (((G0).alloc _:Gr _ _).cell (by rw[aP TI];rfl) Q6);have b2:=aJ S9;have Td:=aJ g1;have HR:=aJ hR;have bt:=aJ s2;clear hR TI S9 s1 s2 g1;by_cases hc:1<=D l/\D l<=6
 · obtain⟨b',a6⟩:=hc;obtain⟨h0,t,IN⟩:∃h t,l=h::t:=by
    cases l with
    | nil=>simp at b'
    | cons h t=>exact⟨h,t,rfl⟩
   have b6:U (l[0]? =Y _):=aJ (by rw[IN];rfl);have VY:U (dK l=match fW _ 0 l with
    | some k=>.inr (1,k)
    | none=>match fW _ 0 l with
    | some k=>.inr (5,k)
    | none=>match g9 _ 0 l with
    | some k=>.inr (6,k)
    | none=>match fW (λu=>u.aC.any λi=>!(iA 0 l _ i.name).isSome) 0 l with
    | some k=>.inr (7,k)
    | none=>match fW (λu=>u.aC.any λi=>!jX (iA 0 l λ_=>G) i) 0 l with
    | some k=>.inr (8,k)
    | none=>if 30<(de (tgtN l) 0 0 l).2.1.length\/50<(de (tgtN l) 0 0 l).1.length\/20<(de (tgtN l) 0 0 l).2.2.length then .inr _ else .inl ⟨_,(de (tgtN l) 0 0 l).1,(de (tgtN l) 0 0 l).2.1,_,(de (tgtN l) 0 0 l).2.2⟩):=aJ (by
    subst IN;rw[dK,eP (by simp at a6 |-;omega)];rfl)
   clear IN;have i1:(1:A)<=D l:=Q5;have i6:(D l:A)<=6:=Q5;obtain⟨ao,cap,he,_,b4⟩:=HR.j;simp only[jj,Bt]at he;obtain⟨rfl,rfl⟩:=he;obtain⟨b0,cf,x1,x2,x3,x4,x5,rfl,q1,_,_,_,_,a2⟩:=b4 0 _ b6;simp only[MS,Mo]at q1;obtain⟨sa,_,_,_,_,sc,_,_,_,_,he,rs,_⟩:=a2.parts;simp only[Ch,FL,Bk,I7]at he;obtain⟨rfl,-,-,-,-⟩:=he;have Uo:=aJ q1;have UU:=aJ rs;have c0:=a9.j;clear q1 rs a2 b4;go_enter func31,ntmps31
   go_wp2_with fail;generalize (W.alloc _).alloc _=V1 at a9 b2 Td bt c0 |-;refine(aj _ _ _).mono ?_;rintro z w2 ⟨rfl,IT⟩;have OF:=aJ IT;have c2:=IT.cell c0 Q6;clear c0 IT i1 i6;go_wp2_with fail;refine(nD _ _ _ (λvu vr w=>Tryz.callWf _ _ w) 1 l _ _ (λ_ V=>Gr _ V) _ _ _ (HR.gr (Td.trans OF)) (λk V h=>h) (λk V V' h g=>h.trans g) G0 (EO _ l) Q5 ⟨_,_,rfl⟩).mono ?_;intro x w3 F;rw[mB]at F;cases d:fW (λu=>!bG u) 0 l with
   | some k=>
    rw[d]at F;obtain⟨rfl,hb⟩:=F;exact⟨rfl,Td.trans (OF.trans hb),.inr ⟨1,k,by rw[VY,d],rfl⟩⟩
   | none=>
   rw[d]at F;obtain⟨rfl,Ta⟩:=F;have UF:=aJ (λu hu=>by have:=(lV l 0).1 d u hu;simpa using this);have ax:=aJ d;have Te:=aJ (OF.trans Ta);have c3:=Ta.cell c2 Q6;clear c2 Ta d;go_wp2_with fail;refine(nD _ _ _ (λvu vr w=>Tryz.callU1 _ _ _ w) 5 l _ _ (λ_ V=>Gr _ V) _ _ _ (HR.gr (Td.trans Te)) (λk V h=>h) (λk V V' h g=>h.trans g) G0 (zw _ l _ _ _ _ _ _ _ _ ⟨c3,(Td.trans Te).cell Uo Q6,UU.gr (Td.trans Te),Q5⟩) Q5 ⟨_,_,rfl⟩).mono ?_;intro x w4 F;rw[mB]at F;cases d:fW (λu=>!decide (u.aA=h0.aA)) 0 l with
   | some k=>
    rw[d]at F;obtain⟨rfl,hb⟩:=F;exact⟨rfl,Td.trans (Te.trans hb),.inr ⟨5,k,by rw[VY,ax,d],rfl⟩⟩
   | none=>
   rw[d]at F;obtain⟨rfl,bj⟩:=F;have aI:=aJ d;have Tg:=aJ (Te.trans bj);have c4:=bj.cell c3 Q6;clear c3 bj d;go_wp2_with fail;refine(wo _ l _ (HR.gr (Td.trans Tg)) a6 UF).mono ?_;rintro x w5 ⟨Th,F⟩;cases d:g9 [] 0 l with
   | some k=>
    rw[d]at F;obtain rfl:=F;exact⟨rfl,Td.trans (Tg.trans Th),.inr ⟨6,k,by rw[VY,ax,aI,d],rfl⟩⟩
   | none=>
   rw[d]at F;obtain⟨mb,nn,rfl,b5⟩:=F;have a5:=aJ d;have b8:=aJ b5;have a0:=aJ Th;have Tu:=aJ (Tg.trans Th);have c5:=Th.cell c4 Q6;clear c4 Th d b5;go_wp2_with fail;refine(nD _ _ _ (λvu vr w=>Tryz.callTh _ _ _ w) 7 l _ _ (λ_ V=>Gr _ V) _ _ _ (HR.gr (Td.trans Tu)) (λk V h=>h) (λk V V' h g=>h.trans g) G0 (DG _ l _ _ _ _ a0 b8) Q5 ⟨_,_,rfl⟩).mono ?_;intro x w6 F;rw[mB]at F;cases d:fW (λu=>u.aC.any λi=>!(iA 0 l (λ_=>G) i.name).isSome) 0 l with
   | some k=>
    rw[d]at F;obtain⟨rfl,hb⟩:=F;exact⟨rfl,Td.trans (Tu.trans hb),.inr ⟨7,k,by rw[VY,ax,aI,a5,d],rfl⟩⟩
   | none=>
   rw[d]at F;obtain⟨rfl,aM⟩:=F;have b9:=aJ λu hu=>CU ((lV l 0).1 d u hu);have bk:=aJ d;have a3:=aJ (a0.trans aM);have a4:=aJ (b8.gr aM);have bg:=aJ (Tu.trans aM);have c6:=aM.cell c5 Q6;clear c5 aM d;go_wp2_with fail;refine(nD _ _ _ (λvu vr w=>Tryz.callAl _ _ _ w) 8 l _ _ (λ_ V=>Gr _ V) _ _ _ (HR.gr (Td.trans bg)) (λk V h=>h) (λk V V' h g=>h.trans g) G0 (Cy _ l _ _ _ _ a3 a4 b9) Q5 ⟨_,_,rfl⟩).mono ?_;intro x w7 F;rw[mB]at F;cases d:fW (λu=>u.aC.any λi=>!jX (iA 0 l λ_=>G) i) 0 l with
   | some k=>
    rw[d]at F;obtain⟨rfl,hb⟩:=F;exact⟨rfl,Td.trans (bg.trans hb),.inr ⟨8,k,by rw[VY,ax,aI,a5,bk,d],rfl⟩⟩
   | none=>
   rw[d]at F;obtain⟨rfl,aH⟩:=F;have b3:=aJ d;have bL:=aJ (a3.trans aH);have bF:=aJ (a4.gr aH);have bp:=aJ (bg.trans aH);have c7:=aH.cell c6 Q6;clear c6 aH d;go_wp2_with fail;refine(GR _ l _ (HR.gr (Td.trans bp)) a6 UF).mono ?_;rintro x w8 ⟨rfl,a7⟩;cases ae:uA l with
   | false=>
    have bo:U (dK l=.inr _):=aJ (by
     have:=yh (tgtN l) l
     rw[ae]at this;rw[VY,ax,aI,a5,bk,b3];exact mI (by
      have h2:=this.symm;rw[Bool.not_eq_false',xw]at h2;exact h2))
    clear ae c7;go_wp2_with fail;refine(bA _ _ _).mono ?_;rintro z w9 ⟨rfl,ai⟩;exact⟨rfl,Td.trans (bp.trans (a7.trans ai)),.inr ⟨9,0,bo,rfl⟩⟩
   | true=>
    have bo:U (dK l=.inl _):=aJ (by
     have:=yh (tgtN l) l
     rw[ae]at this;rw[VY,ax,aI,a5,bk,b3];exact eP (by simpa using this.symm))
    have a':=aJ a7;have c8:=a7.cell c7 Q6;clear ae c7 a7;go_wp2_with fail;refine(aj _ _ _).mono ?_;rintro z w9 ⟨rfl,ai⟩;have bC:=aJ (bL.trans (a'.trans ai));have bB:=aJ (bF.gr (a'.trans ai));have a8:=aJ (bp.trans (a'.trans ai));have c9:=ai.cell c8 Q6;clear c8 ai;go_wp2_with fail;refine(AE _ _ l _ _ _ _ _ b6 (HR.gr (Td.trans Tg)) bC bB a6 UF).mono ?_;rintro x ad ⟨v1,v2,v3,v5,es1,cs,es3,es5,ρ,B,ab,rfl,ca,hJ,T0,af,ak⟩;obtain⟨ay,az,rfl⟩:=aR hJ.o1.1;obtain⟨aD,aB,rfl⟩:=aR hJ.o2.1;obtain⟨aE,av,rfl⟩:=aR hJ.o3.1;obtain⟨aG,aF,rfl⟩:=aR hJ.o5.1;have hrb:=((a8.trans ak).block _ (by have:=bt.j;omega) Q6).trans b2;have p0:H ad ⟨W.heap.size+1,0,G⟩=Y (J G 0 0):=Ry
    have p1:H ad ⟨W.heap.size+1,1,G⟩=Y (J G 0 0):=Ry
    have p2:H ad ⟨W.heap.size+1,2,G⟩=Y (J G 0 0):=Ry
    have p3:H ad ⟨W.heap.size+1,3,G⟩=Y (J G 0 0):=Ry
    have p4:H ad ⟨W.heap.size+1,4,G⟩=Y (J G 0 0):=Ry
    have z0:ad.frozen? ⟨_,0,_⟩=AS:=aq hrb;have z1:ad.frozen? ⟨_,1,_⟩=AS:=aq hrb;have z2:ad.frozen? ⟨_,2,_⟩=AS:=aq hrb;have z3:ad.frozen? ⟨_,3,_⟩=AS:=aq hrb;have z4:ad.frozen? ⟨_,4,_⟩=AS:=aq hrb;have UH:=aJ hrb;have HJ:=aJ hJ;have UA:=aJ T0;have cc:=aJ af;have b1:=aJ (a8.trans ak);have ck:W.heap.size+2<=ab:=by have:=a8.size;have:=bt.j;omega
    clear hrb hJ T0 af ak c9 ca;go_wp2_with fail;rw[xI];have UQ:∀q,¬q=W.heap.size+1->(jJ _ _ (J ay (D es1) az) (J aD (D cs) aB) (J aE (D es3) av) (J G 0 0) (J aG (D es5) aF)).heap[q]? =ad.heap[q]? :=λq hq=>i9 hq
    have TZ:=od (y0:=J ay (D es1) az) (y1:=J aD (D cs) aB) (y2:=J aE (D es3) av) (y3:=J G 0 0) (y4:=J aG (D es5) aF) UH;have UR:(jJ ad (W.heap.size+1) (J ay (D es1) az) (J aD (D cs) aB) (J aE (D es3) av) (J G 0 0) (J aG (D es5) aF)).heap.size=ad.heap.size:=by unfold jJ;simp
    have aL:=Td.trans b1;have b7:Gr W (jJ ad (W.heap.size+1) (J ay (D es1) az) (J aD (D cs) aB) (J aE (D es3) av) (J G 0 0) (J aG (D es5) aF)):=⟨aL.os,aL.tape,aL.output,by rw[UR];exact aL.size,λi hi No=>(UQ i Q5).trans (aL.block i hi No)⟩;generalize jJ _ _ _ _ _ _ _=WE at UQ TZ UR b7 |-;have t0:H WE ⟨W.heap.size+1,0,G⟩=Y (J ay (D es1) az):=Qp
    have t1:H WE ⟨W.heap.size+1,1,G⟩=Y (J aD (D cs) aB):=Qp
    have t2:H WE ⟨W.heap.size+1,2,G⟩=Y (J aE (D es3) av):=Qp
    have t3:H WE ⟨W.heap.size+1,3,G⟩=Y (J G 0 0):=Qp
    have t4:H WE ⟨W.heap.size+1,4,G⟩=Y (J aG (D es5) aF):=Qp
    refine qn (v:=.agg #[J ay (D es1) az,J aD (D cs) aB,J aE (D es3) av,J G 0 0,J aG (D es5) aF]) (by simp[results,results31,go_sem,t0,t1,t2,t3,t4]) rfl ?_;have af:=cc.j;rw[E6]at af;have j1:=congrArg (·.1) af;have j2:=congrArg (·.2.1) af;have j3:=congrArg (·.2.2) af;simp only at j1 j2 j3;have cj:=HJ.ab;refine⟨b7,.inl ⟨_,_,bo,rfl,⟨_,_,_,_,_,_,_,_,_,B,rfl,Q5,(HJ.keep Q5 UQ Q5 Q5).ou,?_,?_⟩⟩⟩
    · rw[UA,j1,j2,j3]
    intro e he;have hm:e.p∈(de (tgtN l) 0 0 l).2.2:=by rw[<-j3];exact List.mem_map_of_mem he
    obtain⟨u,hu,x,F,ex⟩:=qq _ _ _ _ _ hm;have:=yB (UF u hu) F
    rw[<-ex]at this;have e2:D e.p.name=e.s.size:=by show D e.s.data.toList=e.s.size;rw[Aj];rfl
    unfold maxLen;omega
 · have VY:U (dK l=.inr _):=aJ (by
    cases l with
    | nil=>rfl
    | cons h t=>rw[dK,mI (by simp at hc |-;omega)])
   have c0:=a9.j;by_cases h1:1<=D l
   · have i1:(1:A)<=D l:=by omega
     have n6:¬D l<=6:=λe=>hc ⟨h1,e⟩
     have i6:¬(D l:A)<=6:=Q5;exact OP
   have i1:¬(1:A)<=D l:=by omega
   exact OP
def K5(l:I aK)(ob:R)(W:T)(x:Ending)(w':T):Prop:=
 (∃u p0 p1 p2 p4 n0 n1 n2 n4 q0 q1 q2 q4 w1,dK l=.inl u/\x=.returned (.tuple #[])/\oM W.heap.size w1 (.agg #[J p0 n0 q0,J p1 n1 q1,J p2 n2 q2,J G 0 0,J p4 n4 q4]) u/\Gr W w1/\w'=jJ w1 ob (J p0 n0 q0) (J p1 n1 q1) (J p2 n2 q2) (J G 0 0) (J p4 n4 q4))\/
 ∃(e:A) (k:R),dK l=.inr (e,k)/\x=.panicked (iT e (k:A))/\Gr W w'
theorem C3(l:I aK)(vl:M)(ub ob:R)(W:T)(hR:dH W vl l)(hu:H W (Q ub 0 G)=Y vl)(ho:W.heap[ob]? =Y (X yF 58 (0,0))):
 Calls prog 30 #[.pointer (Y (Q ub 0 G)),.pointer (Y (Q ob 0 G))] W (K5 l ob W):=by
 obtain⟨al,cl,rfl⟩:=hR.shape;have ad:=aJ (CI W l _ hR);have HO:=aJ ho;go_enter func30,ntmps30
 go_wp2_with fail;refine ad.mono ?_;rintro x w1 ⟨F,⟨v,u,hl,rfl,hv⟩|⟨e,k,hl,rfl⟩⟩
 · obtain⟨p0,p1,p2,p4,n0,n1,n2,n4,q0,q1,q2,q4,rfl⟩:=hv.slices;have d:=(F.block _ (eJ.1 HO).1 Q6).trans HO;have c0:H w1 (Q ob 0 G)=Y (J G 0 0):=by rw[aP d];rfl
   have c1:H w1 (Q ob 1 G)=Y (J G 0 0):=by rw[aP d];rfl
   have c2:H w1 (Q ob 2 G)=Y (J G 0 0):=by rw[aP d];rfl
   have c3:H w1 (Q ob 3 G)=Y (J G 0 0):=by rw[aP d];rfl
   have c4:H w1 (Q ob 4 G)=Y (J G 0 0):=by rw[aP d];rfl
   have z0:w1.frozen? ⟨_,0,_⟩=AS:=aq d;have z1:w1.frozen? ⟨_,1,_⟩=AS:=aq d;have z2:w1.frozen? ⟨_,2,_⟩=AS:=aq d;have z3:w1.frozen? ⟨_,3,_⟩=AS:=aq d;have z4:w1.frozen? ⟨_,4,_⟩=AS:=aq d;have HL:=aJ hl;have HV:=aJ hv;have HG:=aJ F;go_wp2_with fail;go_end0
   exact .inl ⟨u,_,_,_,_,_,_,_,_,_,_,_,_,_,HL,rfl,HV,HG,rfl⟩
 exact⟨rfl,.inr ⟨e,k,hl,rfl,F⟩⟩
def Fi(W:T)(l:I aK)(e a:A)(w1:T):Prop:=∃p0 p1 p2 p3 p4 n0 n1 n2 n3 n4 q0 q1 q2 q3 q4,w1.heap[W.heap.size+2]? =Y (X #[J p0 n0 q0,J p1 n1 q1,J p2 n2 q2,J p3 n3 q3,J p4 n4 q4] 58 (0,0))/\w1.heap[W.heap.size+1]? =Y (X yF 58 (0,0))/\Gr W w1/\W.heap.size+4<=w1.heap.size/\
 ((∃u,dK l=.inl u/\e=0/\a=0/\oM (W.heap.size+4) w1 (.agg #[J p0 n0 q0,J p1 n1 q1,J p2 n2 q2,J p3 n3 q3,J p4 n4 q4]) u)\/∃k:R,dK l=.inr (e,k)/\a=(k:A)/\(.agg #[J p0 n0 q0,J p1 n1 q1,J p2 n2 q2,J p3 n3 q3,J p4 n4 q4]:M)=.agg yF)
def I6(W:T)(l:I aK)(x:Ending)(w':T):Prop:=Gr W w'/\((∃v u,dK l=.inl u/\x=.returned (.tuple #[v,O Z 0,O Z 0])/\oM W.heap.size w' v u)\/∃(e:A) (k:R),dK l=.inr (e,k)/\x=.returned (.tuple #[.agg yF,O Z e,O Z (k:A)]))
theorem oM.less{d:R}{w:T}{v:M}(h:oM C w v u)(F:d<=C):oM d w v u:=by
 obtain⟨v1,v2,v3,v5,es1,cs,es3,es5,ρ,B,e1,hb,r⟩:=h;exact⟨_,_,_,_,_,_,_,_,_,B,e1,wz F hb,r⟩
theorem zX{w:T}{b g:R}{x0 x1 x2 y0 y1 y2 y3 y4:M}(h:eQ w g x0 x1 x2)(hg:¬g=b):eQ (jJ w b y0 y1 y2 y3 y4) g x0 x1 x2:=by
 obtain⟨d,h1,F,z0,z1,z2⟩:=h;have e:=i9 (w:=w) (y0:=y0) (y1:=y1) (y2:=y2) (y3:=y3) (y4:=y4) hg;exact⟨(so (a:=⟨g,0,_⟩) e).trans d,(so (a:=⟨g,1,_⟩) e).trans h1,(so (a:=⟨g,2,_⟩) e).trans F,(zc (a:=⟨g,0,_⟩) e).trans z0,(zc (a:=⟨g,1,_⟩) e).trans z1,(zc (a:=⟨g,2,_⟩) e).trans z2⟩
theorem Tryz.infUn:(Tryz.prog.info? 58).map (·.size)=Y 5:=Q7
theorem D2(W:T)(l:I aK)(vl:M)(hR:dH W vl l):Calls prog 16 #[vl] W (I6 W l):=by
 obtain⟨al,cl,rfl⟩:=hR.shape;have TI:=jZ W (X #[J al (D l) cl] 53);have S9:=jZ (W.alloc (X #[J al (D l) cl] 53)) (X yF 58);have aA:=jZ ((W.alloc (X #[J al (D l) cl] 53)).alloc (X yF 58)) (X yF 58);have s1:(W.alloc (X #[J al (D l) cl] 53)).heap.size=W.heap.size+1:=Q6;have s2:((W.alloc (X #[J al (D l) cl] 53)).alloc (X yF 58)).heap.size=W.heap.size+2:=Q6;have s3:(((W.alloc (X #[J al (D l) cl] 53)).alloc (X yF 58)).alloc (X yF 58)).heap.size=W.heap.size+3:=Q6;rw[s1]at S9;rw[s2]at aA;have gV:Gr W (((W.alloc (X #[J al (D l) cl] 53)).alloc (X yF 58)).alloc (X yF 58)):=(((Gr.refl W).alloc _).alloc _).alloc _;have g2:Gr _ (((W.alloc (X #[J al (D l) cl] 53)).alloc (X yF 58)).alloc (X yF 58)):=(G0).alloc _;have g1:Gr _ (((W.alloc (X #[J al (D l) cl] 53)).alloc (X yF 58)).alloc (X yF 58)):=(G5).alloc _;have k0:H (((W.alloc _).alloc _).alloc _) ⟨_,0,_⟩=Y (J _ _ _):=g1.cell (by rw[aP TI];rfl) Q6;have k1:=(g2.block _ (by rw[s2];omega) Q6).trans S9;have HV:=aJ (And.intro gV (And.intro s3 (And.intro k0 (And.intro k1 aA))));have HR:=aJ hR;go_enter func16,ntmps16
 go_wp2_with fail;generalize (((W.alloc _).alloc _).alloc _)=V at HV |-;obtain⟨gV,aE,k0,k1,k2⟩:=HV.j;have TZ:=eQ.new V 91 (O Z 0) (O Z 0) (O Z 0);have d:=Gr.alloc (Gr.refl V) (X #[O Z 0,O Z 0,O Z 0] 91);have aF:(V.alloc (X #[O Z 0,O Z 0,O Z 0] 91)).heap.size=V.heap.size+1:=Q6;refine(nJ _ _ V (λw1=>Fi W l 0 0 w1) (λe n a w1=>n=0/\Fi W l e a w1) (λw=>rfl)
  ((C3 l _ _ _ _ (HR.gr (gV.trans d)) (d.cell k0 Q6) ((d.block _ Q5 Q6).trans k2)).mono ?_)).mono ?_
 · intro x w' h;rcases h with⟨u,p0,p1,p2,p4,n0,n1,n2,n4,F,q1,q2,q4,w1,hl,rfl,hv,hg,rfl⟩|⟨e,k,hl,rfl,hg⟩
   · have S7:(jJ w1 (W.heap.size+2) (J p0 n0 F) (J p1 n1 q1) (J p2 n2 q2) (J G 0 0) (J p4 n4 q4)).heap.size=w1.heap.size:=by unfold jJ;simp
     have af:W.heap.size+4<=w1.heap.size:=by have:=hg.size;omega
     have gW:=gV.trans (d.trans hg);refine⟨zX (TZ.gr hg) Q5,.inl ⟨rfl,p0,p1,p2,G,p4,n0,n1,n2,0,n4,F,q1,q2,0,q4,?_,?_,?_,by rw[S7];exact af,.inl ⟨u,hl,rfl,rfl,?_⟩⟩⟩
     · exact od ((hg.block _ Q5 Q6).trans ((d.block _ Q5 Q6).trans k2))
     · exact(i9 Q5).trans ((hg.block _ Q5 Q6).trans ((d.block _ Q5 Q6).trans k1))
     · exact⟨gW.os,gW.tape,gW.output,by rw[S7];exact gW.size,λi hi No=>(i9 Q5).trans (gW.block i hi No)⟩
     rw[aF,aE]at hv;exact hv.mv Q5 λk hk _=>i9 Q5
   have af:W.heap.size+4<=w'.heap.size:=by have:=hg.size;omega
   exact⟨TZ.gr hg,.inr ⟨e,0,_,rfl,rfl,_,_,_,_,_,0,0,0,0,0,0,0,0,0,0,(hg.block _ Q5 Q6).trans ((d.block _ Q5 Q6).trans k2),(hg.block _ Q5 Q6).trans ((d.block _ Q5 Q6).trans k1),gV.trans (d.trans hg),af,.inr ⟨k,hl,rfl,rfl⟩⟩⟩
 rintro x w2 ⟨w1,ae,_,hx⟩;have hy:∃e n a:A,x=.returned (.agg #[O Z e,O Z n,O Z a])/\Fi W l e a w1:=by
  rcases hx with⟨rfl,h⟩|⟨e,n,a,rfl,-,h⟩
  · exact⟨0,0,0,rfl,h⟩
  exact⟨e,n,a,rfl,h⟩
 obtain⟨e,n,a,rfl,p0,p1,p2,p3,p4,n0,n1,n2,n3,n4,F,q1,q2,q3,q4,Ub,ax,Uu,af,az⟩:=hy;have ad:∀k,k<w1.heap.size->¬k=W.heap.size+3->w2.heap[k]? =w1.heap[k]? :=λk hk hn=>ae.block k hk jB
 have ai:=(ad _ Q5 Q5).trans Ub;have ak:=(ad _ Q5 Q5).trans ax;have ay:Gr W _:=⟨ae.os.trans Uu.os,ae.tape.trans Uu.tape,ae.output.trans Uu.output,wz Uu.size ae.size,λi hi No=>(ad i (by have:=Uu.size;omega) Q5).trans (Uu.block i hi No)⟩;have av:(∃u,dK l=.inl u/\e=0/\a=0/\oM (W.heap.size+4) w2 (.agg #[J p0 n0 F,J p1 n1 q1,J p2 n2 q2,J p3 n3 q3,J p4 n4 q4]) u)\/∃k:R,dK l=.inr (e,k)/\a=k/\(.agg #[J p0 n0 F,J p1 n1 q1,J p2 n2 q2,J p3 n3 q3,J p4 n4 q4]:M)=.agg yF:=by
  rcases az with⟨u,h1,h2,h3,h4⟩|h
  · exact .inl ⟨u,h1,h2,h3,h4.mv ae.size λk hk hl=>ad k hl Q5⟩
  exact .inr h
 have aG:=wz af ae.size;have aD:=jZ w2 (X #[O Z e,O Z n,O Z a] 91);have g3:=(Gr.refl w2).alloc (X #[O Z e,O Z n,O Z a] 91);have KH:U (∀w',Gr _ w'->w'.heap[W.heap.size+2]? =Y _/\w'.heap[W.heap.size+1]? =Y _/\w'.heap[w2.heap.size]? =Y _):=aJ (λw' g=>
  ⟨((g3.trans g).block _ Q5 Q6).trans ai,((g3.trans g).block _ Q5 Q6).trans ak,(g.block _ Q6 Q6).trans aD⟩)
 have KS:U (∀w',Gr _ w'->H w' ⟨_,0,_⟩=Y (J _ _ _)/\H w' ⟨_,1,_⟩=Y (J _ _ _)/\H w' ⟨_,2,_⟩=Y (J _ _ _)/\H w' ⟨_,3,_⟩=Y (J _ _ _)/\H w' ⟨_,4,_⟩=Y (J _ _ _)/\H w' ⟨_,0,_⟩=Y (.int _ e)/\H w' ⟨_,2,_⟩=Y (.int _ a)):=aJ (λw' g=>by
  obtain⟨d1,_,d3⟩:=KH _ g;refine⟨?_,?_,?_,?_,?_,?_,?_⟩<;>first|(rw[aP d1];rfl)|(rw[aP d3];rfl))
 have aB:U (∀w',Gr _ w'->H (w'.setRow _ _) ⟨_,0,_⟩=Y (J _ _ _)/\H (w'.setRow _ _) ⟨_,1,_⟩=Y (J _ _ _)/\H (w'.setRow _ _) ⟨_,2,_⟩=Y (J _ _ _)/\H (w'.setRow _ _) ⟨_,3,_⟩=Y (J _ _ _)/\H (w'.setRow _ _) ⟨_,4,_⟩=Y (J _ _ _)/\H (w'.setRow _ _) ⟨_,0,_⟩=Y (.int _ e)/\H (w'.setRow _ _) ⟨_,2,_⟩=Y (.int _ a)):=aJ (λw' g=>by
  obtain⟨d1,_,d3⟩:=KH _ g;have e1:(w'.setRow (W.heap.size+1) #[J p0 n0 F,J p1 n1 q1,J p2 n2 q2,J p3 n3 q3,J p4 n4 q4]).heap[W.heap.size+2]? =_:=(Kk _ _ _ _ Q5).trans d1;have e3:(w'.setRow (W.heap.size+1) #[J p0 n0 F,J p1 n1 q1,J p2 n2 q2,J p3 n3 q3,J p4 n4 q4]).heap[w2.heap.size]? =_:=(Kk _ _ _ _ Q5).trans d3;refine⟨?_,?_,?_,?_,?_,?_,?_⟩<;>first|(rw[aP e1];rfl)|(rw[aP e3];rfl))
 have OF:=aJ (ay.trans g3);have Ur:=aJ av;have Te:=aJ g3;go_upto_region 3 with fail
 generalize w2.alloc _=W4 at KH KS aB OF Te |-;refine xE (S:=(λw'=>H w' _=Y _/\H w' _=Y _/\H w' _=Y _/\H w' _=Y _/\H w' _=Y _/\H w' _=Y _/\H w' _=Y _)) Q7 (KS _ Gy) λhH=>?_;refine tL 0 ?_;refine tL 1 ?_;refine tL 2 ?_;refine tL 3 ?_;refine tL 4 ?_;refine bQ (i:=5) rfl Q7 λK hK=>?_;refine aW bZ (Lc _ _ _ rfl _ #[J p0 n0 F,J p1 n1 q1,J p2 n2 q2,J p3 n3 q3,J p4 n4 q4] bZ fZ _ _ (KH _ Gy).2.1 Tryz.infUn rfl Qr ?_);refine hK _ _ (aB _ Gy) λhH=>?_;try simp only[Act.put,sA,s0,s1]
 refine tL 6 ?_;refine tL 7 ?_;refine Ev Q7 ?_ _;have VI:=Kg _ _ _ #[J p0 n0 F,J p1 n1 q1,J p2 n2 q2,J p3 n3 q3,J p4 n4 q4] _ _ (KH _ Gy).2.1;have t0:H (W4.drew.setRow (W.heap.size+1) #[J p0 n0 F,J p1 n1 q1,J p2 n2 q2,J p3 n3 q3,J p4 n4 q4]) ⟨W.heap.size+1,0,G⟩=Y (J p0 n0 F):=Rq
 have t1:H (W4.drew.setRow (W.heap.size+1) #[J p0 n0 F,J p1 n1 q1,J p2 n2 q2,J p3 n3 q3,J p4 n4 q4]) ⟨W.heap.size+1,1,G⟩=Y (J p1 n1 q1):=Rq
 have t2:H (W4.drew.setRow (W.heap.size+1) #[J p0 n0 F,J p1 n1 q1,J p2 n2 q2,J p3 n3 q3,J p4 n4 q4]) ⟨W.heap.size+1,2,G⟩=Y (J p2 n2 q2):=Rq
 have t3:H (W4.drew.setRow (W.heap.size+1) #[J p0 n0 F,J p1 n1 q1,J p2 n2 q2,J p3 n3 q3,J p4 n4 q4]) ⟨W.heap.size+1,3,G⟩=Y (J p3 n3 q3):=Rq
 have t4:H (W4.drew.setRow (W.heap.size+1) #[J p0 n0 F,J p1 n1 q1,J p2 n2 q2,J p3 n3 q3,J p4 n4 q4]) ⟨W.heap.size+1,4,G⟩=Y (J p4 n4 q4):=Rq
 go_wp2_with fail;refine qn (v:=.tuple #[.agg #[J p0 n0 F,J p1 n1 q1,J p2 n2 q2,J p3 n3 q3,J p4 n4 q4],O Z e,O Z a]) (by simp[results,results16,go_sem,t0,t1,t2,t3,t4]) rfl ?_;have aC:Gr W (W4.drew.setRow (W.heap.size+1) #[J p0 n0 F,J p1 n1 q1,J p2 n2 q2,J p3 n3 q3,J p4 n4 q4]):=rQ OF.drew Q5;refine⟨aC,?_⟩;rcases Ur.j with⟨u,h1,rfl,rfl,h4⟩|⟨k,h1,rfl,h3⟩
 · refine .inl ⟨_,u,h1,rfl,oM.less ((h4.mv Te.size λk hk hl=>Te.block k hl Q6).mv Q6 λk hk hl=>?_) Q5⟩;exact Kk _ _ _ _ Q5
 exact .inr ⟨e,k,h1,by rw[h3]⟩
def Kc(w w':T):Prop:=∀(a:Addr) (x:M),H w a=Y x->H w' a=Y x
theorem aY.kc{w w':T}{v:M}(h:aY w v l)(g:Kc w w'):aY w' v l:=by
 obtain⟨ao,cap,hv,hm,d⟩:=h;refine⟨_,_,hv,hm,λi hi=>?_⟩;obtain⟨b,off,h1,F⟩:=d i hi;exact⟨b,_,h1,g _ _ F⟩
theorem eC.kc{w w':T}{v:M}{l:I bP}(h:eC w v l)(g:Kc w w'):eC w' v l:=by
 obtain⟨ao,cap,hv,hm,d⟩:=h;refine⟨_,_,hv,hm,λi x hi=>?_⟩;obtain⟨b,off,h1,h2,h3,F⟩:=d i x hi;exact⟨b,_,h1,g _ _ h2,g _ _ h3,g _ _ F⟩
theorem cS.kc{w w':T}{v:M}{l:I (I A)}(h:cS w v l)(g:Kc w w'):cS w' v l:=by
 obtain⟨ao,cap,hv,hm,d⟩:=h;refine⟨_,_,hv,hm,λi x hi=>?_⟩;obtain⟨b,off,vx,h1,F,h3⟩:=d i x hi;exact⟨b,_,_,h1,g _ _ F,h3.kc g⟩
theorem eE.kc{w w':T}{v:M}{l:I aQ}(h:eE w v l)(g:Kc w w'):eE w' v l:=by
 obtain⟨ao,cap,hv,hm,d⟩:=h;refine⟨_,_,hv,hm,λi x hi=>?_⟩;obtain⟨b,off,vp,vl,vc,h1,h2,F,h4,h5,h6,h7,h8⟩:=d i x hi;exact⟨b,_,_,_,_,h1,g _ _ h2,g _ _ F,g _ _ h4,g _ _ h5,h6.kc g,h7.kc g,h8.kc g⟩
theorem dS.kc{w w':T}{v:M}{l:I eL}(h:dS w v l)(g:Kc w w'):dS w' v l:=by
 obtain⟨ao,cap,hv,hm,d⟩:=h;refine⟨_,_,hv,hm,λi x hi=>?_⟩;obtain⟨b,off,vs,vp,h1,h2,h3,F,h5,h6⟩:=d i x hi;exact⟨b,_,_,_,h1,g _ _ h2,g _ _ h3,g _ _ F,h5,h6.kc g⟩
theorem ee.kc{w w':T}{v:M}{l:I cJ}(h:ee w v l)(g:Kc w w'):ee w' v l:=by
 obtain⟨ao,cap,hv,hm,d⟩:=h;refine⟨_,_,hv,hm,λi x hi=>?_⟩;obtain⟨b,off,vs,h1,h2,h3,F⟩:=d i x hi;exact⟨b,_,_,h1,g _ _ h2,g _ _ h3,F⟩
theorem bV.kc{w w':T}{v:M}(h:bV w v u)(g:Kc w w'):bV w' v u:=by
 obtain⟨v1,v2,v3,v4,v5,e,h1,h2,h3,d,F⟩:=h;exact⟨_,_,_,_,_,e,h1.kc g,h2.kc g,h3.kc g,d.kc g,F.kc g⟩
def mn(w:T)(o:By R):T:=match o with
 | some b=>w.setRow b #[]
 | none=>w
theorem lu(w:T)(o:By R)(k:R)(h:¬o=Y k):(mn w o).heap[k]? =w.heap[k]? :=by
 cases o with
 | none=>rfl
 | some b=>exact Kk w b k _ λe=>h (by rw[e])
theorem mC(w:T)(o:By R):(mn w o).heap.size=w.heap.size:=by cases o<;>simp[mn]
theorem vV{w w3:T}{d:By R}{n len:R}{v:M}(hv:w.ownsRow base e n v len xs)(ho:v.ownBlock=o)(g:w.grownBy w3 o)(hl:d=o\/d=Y w.heap.size):Kc (mn w o) (mn w3 d):=by
 intro a x h;have IN:=wI _ _ h;rw[mC]at IN;by_cases F:o=Y a.block
 · exfalso
   subst F;rcases hv.2 with⟨rfl,_⟩|⟨g',cap,cur,rfl,_,hh,_⟩
   · simp[Value.ownBlock]at ho
   simp only[Value.ownBlock,qN]at ho;rw[ho]at hh;have h2:=Kg w _ _ #[] e _ hh;have h3:(mn w (Y _)).heap[a.block]? =Y _:=h2;have h4:H (mn w (Y a.block)) a=G:=by
    unfold World.cell?;rw[h3];simp
   rw[h4]at h;cases h
 have ad:¬d=Y a.block:=by
  rcases hl with rfl|rfl
  · exact F
  intro e;have:=tz e;omega
 have e1:(mn w3 d).heap[a.block]? =(mn w o).heap[a.block]? :=by
  rw[lu _ _ _ ad,lu _ _ _ F];exact g.block _ IN λe=>F e.symm
 exact(so e1).trans h
theorem vg{w w':T}(g:Gr w w')(ho:∀b,o=Y b->b<w.heap.size):Gr (mn w o) (mn w' o):=by
 refine⟨?_,?_,?_,by rw[mC,mC];exact g.size,λk d No=>?_⟩
 · cases o<;>exact g.os
 · cases o<;>exact g.tape
 · cases o<;>exact g.output
 rw[mC]at d;cases o with
 | none=>exact g.block k d No
 | some b=>
  by_cases F:k=b
  · subst F;have e:=g.block k d Q6;unfold mn World.setRow;simp only[Array.getElem?_modify,KA,e]
  show(w'.setRow b #[]).heap[k]? =(w.setRow b #[]).heap[k]?
  rw[Kk _ _ _ _ F,Kk _ _ _ _ F];exact g.block k d No
theorem BW{w:T}{n len:R}{v:M}(hv:w.ownsRow base e n v len xs)(F:v.ownBlock=o):Kc (mn w o) w:=by
 have:=vV hv F (World.grownBy.refl w o) (.inr rfl)
 intro a x h;have d:=this a x h;have IN:=wI _ _ h;rw[mC]at IN;have e:=lu w (Y w.heap.size) a.block (by intro e;have:=tz e;omega);exact(so e).symm.trans d
def eN:R->I (I AI)->I aK ⊕ (A×R×R)
 | _,[]=>.inl []
 | k,s::l=>match lk s with
  | .inr (e,p)=>.inr (e,k,p)
  | .inl u=>match eN (k+1) l with
   | .inl us=>.inl (u::us)
   | .inr r=>.inr r
def mg(us:I aK):I aK ⊕ (A×R×R)->I aK ⊕ (A×R×R)
 | .inl vs=>.inl (us++vs)
 | .inr r=>.inr r
theorem sX{l:I (I AI)}(h:lk s=.inl u):mg us (eN k (s::l))=mg (us++[u]) (eN (k+1) l):=by
 rw[eN,h];cases eN (k+1) l with
 | inl vs=>simp[mg]
 | inr r=>rfl
theorem ro{l:I (I AI)}{e:A}{p:R}(h:lk s=.inr (e,p)):mg us (eN k (s::l))=.inr (e,k,p):=by
 rw[eN,h];rfl
theorem ue(us:I aK):dK (us.take 7)=dK us:=by
 by_cases h:D us<=7
 · rw[JH h]
 cases us with
 | nil=>rfl
 | cons a t=>
  have e:(a::t).take 7=a::t.take 6:=rfl;rw[e,dK,dK,mI (by simp at h |-;omega),mI (by simp at h |-;omega)]
structure kB where
 why:A
 unit:A
 at_:A
 e:A
 result:A
 told:I A
 steps:A
def lY(S8:aK->kB)(ss:I (I AI))(fuel heap:A):kB:=
 if fuel<0\/200000<fuel\/heap<0\/5000<heap then ⟨1,0,0,0,0,[],0⟩ else match eN 0 ss with
 | .inr (e,k,p)=>⟨2,(k:A),(p:A),e,0,[],0⟩
 | .inl us=>match dK us with
  | .inr (e,k)=>⟨3,(k:A),0,e,0,[],0⟩
  | .inl u=>if (ar u).1≠0 then ⟨4,((ar u).2.1:A),((ar u).2.2:A),(ar u).1,0,[],0⟩ else S8 u
def g8(w:T)(v:M)(l:I (I AI)):Prop:=∃ao cap,v=J ao (D l) cap/\D l<=maxLen/\∀(i:R) (x:I AI),l[i]? =Y x->∃(b off:R) (s:ByteArray),ao=Y (Q b off G)/\H w ⟨b,off+i,G⟩=Y (.string s)/\s.data.toList=x/\s.size<=maxLen
structure OT(t:Bool)(w:T)(ob tb sb n c:R):Prop where
 box:w.heap[ob]? =Y (X #[nS,nS,nS,nS,nS,nS,J (Y (Q tb 0 G)) 1 c,nS] 43 (0,0))
 row:H w (Q tb 0 G)=Y (J (Y (Q sb 0 G)) (n+2) (n+2))
 str:∃cs,w.heap[sb]? =Y (X cs 9 (0,0))/\cs.size=n+2/\∀k,t=AT\/n<=k->k<n+2->cs[k]? =Y oI
 ln:n<=2000000
section
variable {t:Bool} {w w':T} {ob tb sb n c:R}
theorem OT.cs(h:OT t w ob tb sb n c):H w (Q ob 0 G)=Y (J G 0 0)/\H w (Q ob 1 G)=Y (J G 0 0)/\H w (Q ob 2 G)=Y (J G 0 0)/\H w (Q ob 3 G)=Y (J G 0 0)/\H w (Q ob 4 G)=Y (J G 0 0)/\H w (Q ob 5 G)=Y (J G 0 0)/\H w (Q ob 7 G)=Y (J G 0 0)/\H w (Q ob 6 G)=Y (J (Y (Q tb 0 G)) 1 c):=by
 simp[aN h.box]
theorem OT.ink(h:OT t w ob tb sb n c){k:R}(h1:t=AT\/n<=k)(F:k<n+2):H w (Q sb k G)=Y oI:=by
 obtain⟨cs,k1,k2,d⟩:=h.str;rw[aN k1];exact d k h1 F
theorem OT.keep(h:OT t w ob tb sb n c)(g:∀b,b=ob\/b=tb\/b=sb->w'.heap[b]? =w.heap[b]?):OT t w' ob tb sb n c:=by
 obtain⟨cs,F,d⟩:=h.str;exact⟨(g _ (.inl rfl)).trans h.box,(so (g _ (.inr (.inl rfl)))).trans h.row,⟨_,(g _ (.inr (.inr rfl))).trans F,d⟩,h.ln⟩
theorem Og{p:Prop}(h:p:=by
 go_wp2_with fail;go_ret
 exact⟨rfl,rfl⟩):p:=h
theorem Qt{p:Prop}(h:p:=by exact⟨rfl,rfl⟩):p:=h
theorem dc(m:A)(h:OT t w ob tb sb n c):
 Calls prog 26 #[.pointer (Y (Q ob 0 G)),O Z m] w λx w'=>x=.returned (.bool AT)/\w'=w:=by
 obtain⟨o0,o1,o2,o3,o4,o5,F,d⟩:=h.cs;go_enter func26,ntmps26
 go_wp2_with fail;go_loopw[5] (λi wr=>i=O Z 0/\w=wr) λ_ _=>0
 case atStart=>exact Qt
 obtain⟨rfl,rfl⟩:=hrel;go_wp2_with fail;go_loopw[8] (λi wr=>i=O Z 0/\w=wr) λ_ _=>0
 case atStart=>exact Qt
 obtain⟨rfl,rfl⟩:=hrel;go_wp2_with fail;go_loopw[11] (λi wr=>i=O Z 0/\w=wr) λ_ _=>0
 case atStart=>exact Qt
 obtain⟨rfl,rfl⟩:=hrel;exact Og
theorem Pm{p:Prop}(h:p:=by
 go_wp2_with fail;go_roundw
 case rel=>exact⟨1,Q5,QZ,QE⟩
 case measure=>simp[intOf]):p:=h
theorem dl(h:OT AS w ob tb sb n c):
 Calls prog 24 #[.pointer (Y (Q ob 0 G))] w λx w'=>x=.returned (.bool AT)/\w'=w:=by
 obtain⟨o0,o1,o2,o3,o4,o5,o7,o6⟩:=h.cs;have hr:=h.row;have i1:=h.ink (.inr lj) Q5;have i2:=h.ink (k:=n+1) (.inr Q5) Q5;have hn:=h.ln;have w1:Z.wrap (n+2-1)=n+1:=Qq
 have w2:Z.wrap (n+2-2)=n:=Qq
 have d:=aJ (dc 2 h);go_enter func24,ntmps24
 go_wp2_with fail;go_loopw[3] (λi wr=>i=O Z 0/\w=wr) λ_ _=>0
 case atStart=>exact Qt
 obtain⟨rfl,rfl⟩:=hrel;go_wp2_with fail;go_loopw[5] (λi wr=>i=O Z 0/\w=wr) λ_ _=>0
 case atStart=>exact Qt
 obtain⟨rfl,rfl⟩:=hrel;go_wp2_with fail;go_loopw[8] (λi wr=>i=O Z 0/\w=wr) λ_ _=>0
 case atStart=>exact Qt
 obtain⟨rfl,rfl⟩:=hrel;go_wp2_with fail;go_loopw[10] (λi wr=>i=O Z 0/\w=wr) λ_ _=>0
 case atStart=>exact Qt
 obtain⟨rfl,rfl⟩:=hrel;go_wp2_with fail;go_loopw[12] (λi wr=>∃k:R,k<=1/\i=O Z k/\w=wr) λi _=>1-(intOf i).toNat
 case atStart=>exact⟨0,SF,rfl,rfl⟩
 obtain⟨k,F,rfl,rfl⟩:=hrel;obtain rfl|rfl:k=0\/k=1:=Q5
 · exact Pm
 go_wp2_with(go_at_call 26;refine d.j.mono ?_;rintro e w' ⟨rfl,rfl⟩)
 go_ret
 exact⟨rfl,rfl⟩
theorem dx(h:OT AT w ob tb sb n c):
 Calls prog 13 #[.pointer (Y (Q ob 0 G))] w λx w'=>x=.returned (.bool AT)/\w'=w:=by
 obtain⟨o0,o1,o2,o3,o4,o5,o7,o6⟩:=h.cs;have hr:=h.row;have hn:=h.ln;have HI:=aJ λk=>h.ink (k:=k) (.inl rfl)
 go_enter func13,ntmps13
 go_wp2_with(go_at_call 26;refine(dc 0 h).mono ?_;rintro e w' ⟨rfl,d⟩;obtain rfl:=d.symm)
 go_wp2_with fail;go_loopw[4] (λi wr=>i=O Z 0/\w=wr) λ_ _=>0
 case atStart=>exact Qt
 obtain⟨rfl,rfl⟩:=hrel;go_wp2_with fail;go_loopw[6] (λi wr=>i=O Z 0/\w=wr) λ_ _=>0
 case atStart=>exact Qt
 obtain⟨rfl,rfl⟩:=hrel;go_wp2_with fail;go_loopw[8] (λi wr=>i=O Z 0/\w=wr) λ_ _=>0
 case atStart=>exact Qt
 obtain⟨rfl,rfl⟩:=hrel;go_wp2_with fail;go_loopw[10] (λi wr=>i=O Z 0/\w=wr) λ_ _=>0
 case atStart=>exact Qt
 obtain⟨rfl,rfl⟩:=hrel;go_wp2_with fail;go_loopw[12] (λi wr=>∃k:R,k<=1/\i=O Z k/\w=wr) λi _=>1-(intOf i).toNat
 case atStart=>exact⟨0,SF,rfl,rfl⟩
 obtain⟨k,hk,rfl,rfl⟩:=hrel;obtain rfl|rfl:k=0\/k=1:=Q5
 · go_wp2_with fail;go_loopw[13] (λi wr=>∃q:R,q<=n+2/\i=O Z q/\w=wr) (λi _=>n+2-(intOf i).toNat)
   case atStart=>exact⟨0,Lz,rfl,rfl⟩
   obtain⟨q,hq,rfl,rfl⟩:=hrel;by_cases F:q<n+2
   · have hi:=HI q F;go_wp2_with fail;go_roundw
     case rel=>exact⟨q+1,Q5,QZ,QE⟩
     case measure=>exact Qh
   obtain rfl:q=n+2:=by omega
   exact Pm
 exact Og
def ip(w:T)(ob tb sb n c q:R)(w':T):Prop:=OT AS w' ob tb sb n c/\w'.heap.size=w.heap.size/\(w'.os=w.os/\w'.tape=w.tape/\w'.output=w.output)/\(∀b,¬b=sb->w'.heap[b]? =w.heap[b]?)/\∀k,k<q->H w' (Q sb k G)=Y oI
theorem ip.next{q:R}(h:ip w ob tb sb n c q w')(h1:¬sb=ob)(h2:¬sb=tb)(hq:q<n+2):ip w ob tb sb n c (q+1) (w'.setCell (Q sb q G) oI):=by
 obtain⟨F,k2,k3,k4,k5⟩:=h;obtain⟨cs,m1,m2,m3⟩:=F.str;have hs:=bK (o:=q) (v:=oI) m1;have No:∀b,¬b=sb->(w'.setCell (Q _ q G) oI).heap[b]? =w'.heap[b]? :=λb d=>dp _ _ _ _ d
 refine⟨⟨(No _ (Nc h1)).trans F.box,(so (No _ (Nc h2))).trans F.row,⟨_,hs,by simp[m2],λk h3 h4=>?_⟩,F.ln⟩,by simp[k2],k3,λb d=>(No b d).trans (k4 b d),λk hk=>?_⟩
 · by_cases e:q=k
   · subst e;rw[K4 Q5]
   rw[Lj e];exact m3 k h3 h4
 rw[aN hs];by_cases e:q=k
 · subst e;rw[K4 Q5]
 rw[Lj e,<-aN m1];exact k5 k Q5
theorem nK(h:OT AS w ob tb sb n c)(h1:¬sb=ob)(h2:¬sb=tb):
 Calls prog 25 #[.pointer (Y (Q ob 0 G))] w λx w'=>x=.returned (.tuple #[])/\OT AT w' ob tb sb n c/\w'.heap.size=w.heap.size/\(w'.os=w.os/\w'.tape=w.tape/\w'.output=w.output)/\∀b,¬b=sb->w'.heap[b]? =w.heap[b]? :=by
 obtain⟨o0,o1,o2,o3,o4,o5,o7,o6⟩:=h.cs;have hn:=h.ln;have d:U (ip w _ _ _ n c 0 w):=aJ ⟨h,rfl,⟨rfl,rfl,rfl⟩,λ_ _=>rfl,λk hk=>by omega⟩;go_enter func25,ntmps25
 go_wp2_with fail;go_loopw[2] (λi wr=>i=O Z 0/\w=wr) λ_ _=>0
 case atStart=>exact Qt
 obtain⟨rfl,rfl⟩:=hrel;go_wp2_with fail;go_loopw[4] (λi wr=>i=O Z 0/\w=wr) λ_ _=>0
 case atStart=>exact Qt
 obtain⟨rfl,rfl⟩:=hrel;go_wp2_with fail;go_loopw[6] (λi wr=>i=O Z 0/\w=wr) λ_ _=>0
 case atStart=>exact Qt
 obtain⟨rfl,rfl⟩:=hrel;go_wp2_with fail;go_loopw[8] (λi wr=>i=O Z 0/\w=wr) λ_ _=>0
 case atStart=>exact Qt
 obtain⟨rfl,rfl⟩:=hrel;go_wp2_with fail;go_loopw[10] (λi wr=>i=O Z 0/\w=wr) λ_ _=>0
 case atStart=>exact Qt
 obtain⟨rfl,rfl⟩:=hrel;go_wp2_with fail;go_loopw[12] (λi wr=>i=O Z 0/\w=wr) λ_ _=>0
 case atStart=>exact Qt
 obtain⟨rfl,rfl⟩:=hrel;go_wp2_with fail;go_loopw[14] (λi wr=>i=O Z 0/\w=wr) λ_ _=>0
 case atStart=>exact Qt
 obtain⟨rfl,rfl⟩:=hrel;go_wp2_with fail;go_loopw[16] (λi wr=>∃k:R,k<=1/\i=O Z k/\ip w ob tb sb n c (k*(n+2)) wr) λi _=>1-(intOf i).toNat
 case atStart=>exact⟨0,SF,rfl,by rw[MS];exact d⟩
 obtain⟨k,hk,rfl,F⟩:=hrel;have d:=aJ F;obtain rfl|rfl:k=0\/k=1:=Q5
 · rw[MS]at d;obtain⟨_,_,_,_,_,_,_,o6⟩:=d.1.cs;have hr:=d.1.row;go_wp2_with fail;go_loopw[17] (λi wr=>∃q:R,q<=n+2/\i=O Z q/\ip w ob tb sb n c q wr) (λi _=>n+2-(intOf i).toNat)
   case atStart=>exact⟨0,Lz,rfl,d⟩
   obtain⟨q,hq,rfl,F⟩:=hrel;have d:=aJ F;obtain⟨_,_,_,_,_,_,_,o6⟩:=d.1.cs;have hr:=d.1.row;by_cases ad:q<n+2
   · have HN:=aJ (d.next h1 h2 ad);obtain⟨cs,m1,m2,m3⟩:=d.1.str;obtain⟨y,i0⟩:∃y,H wr ⟨_,q,_⟩=Y y:=⟨cs[q]'Q5,by rw[aN m1];simp⟩;have j0:wr.frozen? ⟨_,q,_⟩=AS:=aT m1;go_wp2_with fail;go_roundw
     case rel=>exact⟨_,Q5,QZ,HN⟩
     case measure=>exact Qh
   obtain rfl:q=n+2:=by omega
   go_wp2_with fail;go_roundw
   case rel=>exact⟨1,Q5,QZ,by rw[Nf];exact d⟩
   case measure=>exact SG
 rw[Nf]at d;obtain⟨_,_,_,_,_,_,_,o6⟩:=d.1.cs;go_wp2_with fail;go_end0
 obtain⟨k1,k2,k3,k4,k5⟩:=d.j;obtain⟨cs,m1,m2,_⟩:=k1.str;exact⟨rfl,⟨k1.box,k1.row,⟨_,m1,m2,λk _ hk=>by rw[<-aN m1];exact k5 k hk⟩,k1.ln⟩,k2,k3,k4⟩
end
end Go.Proofs.YtghjmnlapcpbiaaGreatDoor
