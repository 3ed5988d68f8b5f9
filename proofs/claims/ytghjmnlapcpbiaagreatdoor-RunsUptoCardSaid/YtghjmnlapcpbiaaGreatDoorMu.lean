import Derived.Test.YtghjmnlapcpbiaaGreatDoorMr
namespace Go.Proofs.YtghjmnlapcpbiaaGreatDoor
open _root_ renaming Option.some->Y,Option.none->G,Go.Value.int->O,Go.IntKind.i64->Z,Go.Value.slice->J,List->I,Nat->R,Int->A,Go.World.cell?->H,List.length->D,Go.Obj.cells->X,Go.Value->M,Go.World->T,Go.Addr.mk->Q,Go.RowKit.Hid->U,UInt8->AI,Bool.false->AS,Bool.true->AT,Option->By
open Go.Proofs.Tryz
set_option maxRecDepth 100000
set_option maxHeartbeats 2000000
set_option linter.unusedVariables false
set_option linter.unusedSimpArgs false
open Go.RowKit
attribute [local go_sem ↓] Go.wp_at_zero Go.wp_at_succ
variable{listed:Array Bool}{zs:I R}{fuel heap n s:R}{oi:Oper}{m m':PM}{vf vt:M}{w0:T}
theorem Tryz.infRow:(Tryz.prog.info? 178).map (λi=>(i.zero,i.size,i.bytes))=Y (Y (J G 0 0),1,24):=Q7
theorem Tryz.uRows:Tryz.prog.underlying 272=Y (.slice 178):=Q7
theorem yj{w1:T}{vw:M}{es:I (M×I PV)}(new:I (M×I PV))(ho:w1.ownsRow w0.heap.size 178 1 vw (D es) (es.map (·.1)))(hw:w0.heap.size<=w1.heap.size)(d:Array M)(hM:d.toList=new.map (·.1))(h1:∀v∈new.map (·.1),∃a n c,v=J a n c)(hn:D es+D new<=1000000)(ty:TypeId):
 ∃v' w',(Builtin.append_ #[272,272] ty #[vw,J (Y (Q w1.heap.size 0 G)) (D new) (D new)]).run prog (w1.alloc (X d 178))=.ok v' w'/\w'.ownsRow w0.heap.size 178 1 v' (D (es++new)) ((es++new).map (·.1))/\(w1.alloc (X d 178)).grownBy w' vw.ownBlock:=by
 have hR:=jE w1 d 178 (D new);rw[hM]at hR;obtain⟨v',w',hr,F,hg,_⟩:=fG (ty:=ty) _ _ _ Tryz.infRow Tryz.uRows rfl Q9 Q9 (eO ho G5) hR Q6 (by intro u hu;obtain⟨a,n,c,rfl⟩:=h1 u hu;rfl) hn jB;refine⟨_,_,hr,?_,hg⟩;rw[fe,Ju];exact F
section
variable {C:MC} {w:T} {ρ:R->cV} {nm fbn:R->R} {cs:R->A} {ct:A} {L:I eZ} {bs:I (I PV)} {tk:R} {told:I A}
theorem O2{p:Prop}(h:p:=by refine tL 14 ?_;refine Ev Q7 ?_ _;go_wp2_with fail;exact⟨⟨_,_,_,rfl,Q6,Q6,IN,VT,VV.2.1,VV.2.2,VF,VE⟩,by simp[intOf];omega⟩):p:=h
theorem Ar(h:MW C w ρ nm fbn cs ct L bs tk told)(hm:Fv C w ρ fbn (D L) (tk:A) ct told vf vt)(hL:0<D L)(en:D L<=1000)(ek:0<=ct/\ct<=10000000)(ep:D bs<=200000)(h8:∀r∈bs,D r<=1000)(bL:∀x∈L,Bd (D bs) x.slots/\Bd (D bs) x.stack)(sL:∀x∈L,D x.slots<=1000/\D x.stack<=1000)(bB:∀r∈bs,Bd (D bs) r):
 Calls prog 136 #[.pointer (Y (Q C.mb 6 G)),vf] w λe w'=>∃eo,e=.returned (O Z (fE L bs:A))/\fE L bs<=1001*D bs/\MW C w' ρ nm fbn eo (ct+1) L bs tk told/\bJ w w' ρ ρ:=by
 obtain⟨gf,fc,rfl⟩:∃g cap,vf=J _ _ cap:=by
  rcases hm.fr.2 with⟨_,e⟩|⟨g,cap,cur,e,_⟩
  · omega
  exact⟨g,_,e⟩
 have Ul:=hm.box;have ev:=(wS w _ 8 _ _ (O Z (ct+1)) Ul).trans (by simp:_=Y (X #[C.v1,C.v2,C.v3,C.v4,C.v5,J (Y (Q gf 0 G)) (D L) fc,O Z C.heap,O Z tk,O Z (ct+1),vt] 102 (0,0)));have h2:=h.setMb hm ev Q5 rfl rfl rfl Q6 (λb hb No=>dp _ _ _ _ (by show b≠C.mb;exact No));have Vh:U (RW C w _ _ _ _ L _ _ _ _ _ ⟨λ_=>AS,0,dk []⟩):=aJ ⟨⟨_,h2.1,λj hj=>by
  have:=(h.blks j _ (dW hj)).2.2
  simp;omega⟩,h2.2,⟨[],rfl,B5 _ _ _ _,λe he=>by cases he⟩⟩
 have cB:U ((w.setCell (Q C.mb 8 G) (O Z (ct+1))).ownsRow 0 _ 1 _ _ _):=aJ (c_ hm.fr λk hk=>dp _ _ _ _ (by show k≠C.mb;exact λe=>by have:=hm.rf k hk;rw[e,hm.rm]at this;cases this));have a2:U (∀b,w.heap.size<=b->ρ b=.no):=aJ λb hb=>h.new_no hb
 have HV:=aJ h.gr.size;have e8:=aJ hm.rf;have e9:=aJ bL;have Us:=aJ sL;have bC:=aJ en;have cy:=aJ ep;have cp:=aJ bB;have H8:=aJ h8;have fm:=aJ ek;obtain⟨RRq,hR⟩:∃RRq,jY bs (D bs+D (dk L)+1) ⟨λ_=>AS,0,dk L⟩=RRq:=⟨_,rfl⟩;have HR:=aJ hR;have ez:U (fE L _=RRq.all):=aJ (by unfold fE;rw[hR]);have c8:H w (Q C.mb 8 G)=Y (O Z ct):=Rm
 have z8:w.frozen? ⟨_,8,_⟩=AS:=aq Ul;have gm:Z.wrap _=ct+1:=Q_;rw[ez];go_enter func136,ntmps136
 go_upto_region 2 with fail
 generalize w.setCell _ _=W1 at Vh cB |-;go_wp2_with fail;go_loopw[5,22] (λvw i wr=>∃k:R,i=O Z (k:A)/\k<=D L/\wr.ownsRow 0 103 1 (J (Y (Q gf 0 G)) (D L) fc) (D L) (qA fbn (D L))/\RW C w ρ nm fbn (ct+1) L bs tk told wr vw ⟨λ_=>AS,0,dk (L.drop (D L-k))⟩) λ_ i _=>D L-(intOf i).toNat
 case atStart=>exact⟨0,rfl,Lz,cB,by
  have e:L.drop (D L-0)=[]:=Q6;rw[e];exact Vh⟩
 case round=>
  obtain⟨k,rfl,hk,eu,aC⟩:=hrel;have ax:=aJ aC;have b9:=aJ eu;by_cases IN:k<D L
  · have UB:(k:A)<D L:=by omega
    have hw:Z.wrap _=k+1:=Ld _ (by have:=bC.j;omega);have ck:=(b9.cellAt k Q5).trans (Bi _ IN);obtain⟨bF,bk,_⟩:=ax.mw;obtain⟨x,hx,dw,vc,vs,vk,f,ht⟩:=bk.frs.at IN;obtain⟨es,T0,Ut,aF⟩:=ax.wt;obtain⟨wa,wc,rfl⟩:=aR Ut;obtain⟨sa,sc,rfl⟩:=aR ht.sl;obtain⟨qa,qc,rfl⟩:=aR ht.st;have d:U (∀w',Gr _ w'->H w' ⟨_,2,_⟩=Y (J _ _ _)/\H w' ⟨_,3,_⟩=Y (J _ _ _)):=aJ (λw' gg=>⟨gg.cell (by rw[aP ht.box];rfl) Q6,gg.cell (by rw[aP ht.box];rfl) Q6⟩);have bt:D es=2*k:=by
     have:=congrArg List.length T0
     rw[JY]at this;rw[this];show D (dk (L.drop (D L-k)))=_
     rw[qJ,J2];omega
    have a3:∀e∈[(J sa (D x.slots) sc,x.slots),(J qa (D x.stack) qc,x.stack)],WE wr ρ nm (D bs) e.1 e.2:=by
     intro e he;have b1:=e9 x hx;have b2:=Us x hx;simp only[Ce,Mk,or_false]at he;rcases he with rfl|rfl
     · exact⟨ht.sl,λb hb=>⟨k,.inl (ht.rsl b hb)⟩,b1.1,b2.1⟩
     exact⟨ht.st,λb hb=>⟨k,.inr (.inl (ht.rst b hb))⟩,b1.2,b2.2⟩
    obtain⟨v6,w6,b5,b',aI⟩:=yj (ty:=272) [(J _ _ _,x.slots),(J qa _ _,x.stack)] (eO Ut Gy) ax.kp.size #[J sa (D x.slots) sc,J _ (D x.stack) qc] rfl (by intro v hv;simp at hv;rcases hv with rfl|rfl<;>exact⟨_,_,_,rfl⟩) (by rw[bt];have:=bC.j;simp;omega)
    have cj:RW C w ρ nm fbn (ct+1) L bs tk told w6 v6 ⟨λ_=>AS,0,dk (L.drop (D L-(k+1)))⟩:=by
     have az:Gr _ (wr.drew.alloc (X #[J sa (D x.slots) sc,J qa (D x.stack) qc] 178)):=(Gy).alloc _;have h6:=ax.grow (all:=0) a2 HV az aI b' T0 aF a3;rw[dw,dk];exact h6
    have cc:=c_ b9 λb hb=>by
     have hl:=(b9.lt b hb).2;have az:Gr _ (wr.drew.alloc (X #[J sa (D x.slots) sc,J qa (D x.stack) qc] 178)):=(Gy).alloc _;refine(aI.block b (tu hl az.size) λe=>?_).trans (az.block b hl Q6);have e1:=a2 b (Ut.lt b e.symm).1;rw[e8 b hb]at e1;cases e1
    have aM:=aJ cj;have cu:=aJ cc;have aG:=aJ b5;have bg:U (H w6 _=Y _/\H w6 _=Y _):=aJ (by
     have az:Gr _ (wr.drew.alloc (X #[J sa (D x.slots) sc,J qa (D x.stack) qc] 178)):=(Gy).alloc _;obtain⟨s1,s2⟩:=d _ az;have No:¬Y _=(J _ _ _).ownBlock:=λe=>by
      have e1:=a2 _ (Ut.lt _ e.symm).1;rw[ht.rb]at e1;cases e1
     exact⟨aI.cell s1 No,aI.cell s2 No⟩)
    generalize (D x.slots)=ns at d aG bg;generalize (D x.stack)=nk at d aG bg;generalize No:D es=ne at aG |-;generalize fbn k=fb at d ck bg |-;go_wp2_with fail;refine xE (S:=(λw'=>H w' _=Y _/\H w' _=Y _)) Q7 (d _ Gy) λhH=>?_;refine tL 0 ?_;refine tL 1 ?_;refine tL 2 ?_;refine tL 3 ?_;refine tL 4 ?_;refine tL 5 ?_;refine tL 6 ?_;refine tL 7 ?_;refine tL 8 ?_;refine bQ (i:=9) rfl Q7 λK hK=>?_;refine aW bZ ?_;have HK:=aJ hK;go_simp
    have hK:=HK.j;refine hK _ _ (d _ ((Gy).alloc _)) λhH=>?_;try simp only[Act.put,sA,s0,s1]
    refine bQ (i:=10) rfl Q7 λK hK=>?_;refine aW bZ (KO _ _ _ _ _ rfl _ _ fZ fZ _ _ aG ?_);refine hK _ _ (bg) λhH=>?_;try simp only[Act.put,sA,s0,s1]
    refine tL 11 ?_;refine Ev Q7 ?_ _;go_wp2_with fail;exact⟨⟨_,Q6,IN,cu,aM⟩,Qh⟩
  have ca:k=D L:=by omega
  subst ca;have e:L.drop (D L-D L)=L:=Q6;have aC:=ax.j;rw[e]at aC;have ak:=aJ aC;go_wp2_with fail;go_loopw[5,8] (λvw va wr=>∃(st:vU) (n:R) (v0:M),v0=vw/\va=O Z (st.all:A)/\jY bs n st=RRq/\D st.wt+uJ st.mark (D bs)<=n/\n<=300000/\st.all+1001*uJ st.mark (D bs)<=1001*D bs/\RW C w ρ nm fbn (ct+1) L bs tk told wr vw st) λvw _ wr=>Il vw+J8 nm (D bs) (ct+1) wr
  case atStart=>exact⟨_,_,_,rfl,rfl,HR,by rw[rU];show D (dk L)+D bs<=_;omega,by have:=cy.j;have:=bC.j;have:=qJ L;omega,by rw[rU];show 0+_<=_;omega,ak⟩
  obtain⟨st,n,vw,rfl,rfl,e3,b7,VO,b8,aC⟩:=hrel;have al:=aJ aC;have af:=aJ (And.intro e3 (And.intro b7 (And.intro VO b8)));obtain⟨es,T0,Ut,aF⟩:=al.wt;rcases List.eq_nil_or_concat es with rfl|⟨F,el,rfl⟩
  · have a5:st.wt=[]:=by rw[<-T0];rfl
    have cL:U (st.all=RRq.all):=aJ (by rw[<-af.1,sq a5]);obtain⟨wa,wc,rfl⟩:=aR Ut;obtain⟨gV,ej,_⟩:=al.mw;have fz:=aJ ej;have ed:=aJ al.kp;have cv:=aJ af.2.2.2;go_wp2_with fail;go_ret
    exact⟨_,by rw[<-cL];rfl,by rw[<-cL];have:=cv.j;omega,fz,ed⟩
  obtain⟨pv,r⟩:=el;rw[List.concat_eq_append]at T0 Ut aF;have a5:st.wt=F.map (·.2)++[r]:=by rw[<-T0];simp
  have c':WE _ _ _ _ pv r:=aF (pv,r) Q6;have aH:=Ut;rw[fe,Ju]at aH;have aH:wr.ownsRow _ _ 1 _ (D F+1) (F.map _++[pv]):=aH;obtain⟨g,cap,rfl⟩:∃g cap,vw=J _ (D F+1) cap:=by
   rcases aH.2 with⟨_,e⟩|⟨g,cap,cur,e,_⟩
   · omega
   exact⟨g,_,e⟩
  have f':D F+1<=cap:=by
   rcases aH.2 with⟨h,_⟩|⟨g',Un,cur,e,_,_,h,_⟩
   · cases h
   cases e;omega
  have ds:H wr ⟨g,D F,G⟩=Y pv:=by
   rw[aH.cellAt _ Q5,Ag Q6];simp
  have cf:=ownsRow_pop Q6 aH;obtain⟨pa,pc,rfl⟩:=aR c'.own;obtain⟨m,rfl⟩:∃m,n=m+1:=⟨n-1,by
   have:=af.2.1
   rw[a5]at this;simp at this
   omega⟩
  have a7:U (jY _ m _=RRq):=aJ (by rw[<-af.1,qh a5]);have a9:U (RW C w _ _ _ _ L _ _ _ _ _ ⟨st.mark,st.all,F.map _⟩):=aJ ⟨al.mw,al.kp,⟨_,rfl,cf,λe he=>aF e (by simp[he])⟩⟩;have ef:=aJ c';have Xe:=aJ af.2.2.2;have e5:=aJ al.un;have bo:U (D (F.map (·.2))+uJ st.mark (D bs)<=m/\m<=300000):=aJ ⟨by have:=af.2.1;rw[a5]at this;simp at this;simp;omega,by have:=af.2.2.1;omega⟩;have bt:D F<=300000:=by have:=bo.j;simp at this;omega
  have gw:Z.wrap (D F+1-1)=D F:=Qq
  have g3:Z.wrap (((D F+1:R):A)-1)=D F:=Qq
  have gX:Z.wrap _=D F:=Q_;have e4:U (D (F.map (·.2))=D F):=aJ Q6;generalize cx:(⟨_,_,_⟩:vU)=aB at a7 a9;have ad:U (aB.wt=F.map _/\aB.mark=st.mark/\aB.all=st.all):=aJ (by subst cx;exact⟨rfl,rfl,rfl⟩);generalize (D F)=a4 at *;have g1:(a4:A)<a4+1:=Q5;have g0:(0:A)<a4+1:=Q5;have gy:(a4:A)<=cap:=Q5;go_wp2_with fail;go_loopw[5,8,53] (λvw va i wr=>∃(k:R) (st:vU) (v0:M),v0=vw/\i=O Z (k:A)/\va=O Z (st.all:A)/\k<=D r/\ei bs (r.drop k) st=ei bs r aB/\D st.wt+uJ st.mark (D bs)<=D aB.wt+uJ aB.mark (D bs)/\st.all+1001*uJ st.mark (D bs)<=1001*D bs/\RW C w ρ nm fbn (ct+1) L bs tk told wr vw st/\WE wr ρ nm (D bs) (J pa (D r) pc) r) λ_ _ i _=>D r-(intOf i).toNat
  case atStart=>exact⟨0,_,_,rfl,rfl,by rw[ad.2.2],Lz,rfl,lj,by rw[ad.2.1,ad.2.2];exact Xe,a9,ef⟩
  obtain⟨k,av,vw,rfl,rfl,rfl,hk,fg,b7,b8,aC,a3⟩:=hrel;have ai:=aJ aC;have ae:=aJ a3;have VV:=aJ (And.intro fg (And.intro b7 b8));by_cases IN:k<D r
  · have UB:(k:A)<D r:=by omega
    have hw:Z.wrap _=k+1:=Ld _ (by have:=ae.short;omega);obtain⟨gp,rfl⟩:∃gp,pa=Y (Q gp 0 G):=by
     rcases ae.own.2 with⟨_,e⟩|⟨g,cap,cur,e,_⟩
     · omega
     cases e;exact⟨g,rfl⟩
    obtain⟨v,hv⟩:∃v,r[k]? =Y v:=⟨_,dW IN⟩;have dT:r.drop k=v::r.drop (k+1):=by
     rw[Be IN];rw[dW IN]at hv;cases hv;rfl
    have dd:=pR nm r k v hv;have e0:=(ae.own.cellAt _ Q5).trans dd.1;have e1:=(ae.own.cellAt _ Q5).trans dd.2;have b0:=aJ dT;have fv:=aJ (ae.bd v (dL hv));have gA:=(Gr.refl wr).alloc (X #[O Z v.num,.pointer (gi nm v.blk)] 184);have fy:=jZ wr (X #[O Z v.num,.pointer (gi nm v.blk)] 184);have Tt:=aJ gA;have ay:=aJ fy;cases hb:v.blk with
    | none=>
     have VT:U (ei _ (r.drop (k+1)) _=ei _ r _):=aJ (by rw[<-VV.1,b0,uY hb]);rw[hb]at e1 Tt ay;replace e1:H wr _=Y (.pointer G):=e1;replace Tt:U (Gr _ (wr.alloc (X #[.int _ _,.pointer G] _))):=Tt;replace ay:U ((wr.alloc (X #[.int _ _,.pointer G] _)).heap[wr.heap.size]? =Y (X #[.int _ _,.pointer G] _ _)):=ay;have d:U (∀w',Gr _ w'->H w' ⟨_,1,_⟩=Y (.pointer _)):=aJ (λw' gg=>gg.cell (by rw[aP ay];rfl) Q6);have VF:=aJ (ai.of_gr (Gr.drew Tt));have VE:=aJ (ae.mv λb hb _=>(Gr.drew Tt).block b hb Q6);have gb:=Tryz.blkNil;generalize v.num=num at e0 d VF VE;go_wp2_with fail;generalize wr.alloc _=W1 at d VF VE |-;refine xE (S:=(λw'=>H w' _=Y _)) Q7 (d _ Gy) λhH=>?_;refine tL 0 ?_;refine tL 1 ?_;refine tL 2 ?_;refine tL 3 ?_;refine eH (i:=4) rfl Q7 Q7 Q7 (λ_ _ _ h=>h) bZ hH ?_;simp only[Act.put,sA,s0,s1];refine eH (i:=5) rfl Q7 Q7 Q7 (λ_ _ _ h=>h) bZ hH ?_;simp only[Act.put,sA,s0,s1];refine eH (i:=6) rfl Q7 Q7 Q7 (λ_ _ _ h=>h) bZ hH ?_;simp only[Act.put,sA,s0,s1];refine eH (i:=7) rfl Q7 Q7 Q7 (λ_ _ _ h=>h) bZ hH ?_;simp only[Act.put,sA,s0,s1];refine eH (i:=8) rfl Q7 Q7 Q7 (λ_ _ _ h=>h) bZ hH ?_;simp only[Act.put,sA,s0,s1];refine eH (i:=9) rfl Q7 Q7 Q7 (λ_ _ _ h=>h) bZ hH ?_;simp only[Act.put,sA,s0,s1];refine eH (i:=10) rfl Q7 Q7 Q7 (λ_ _ _ h=>h) bZ hH ?_;simp only[Act.put,sA,s0,s1];refine eH (i:=11) rfl Q7 Q7 Q7 (λ_ _ _ h=>h) bZ hH ?_;simp only[Act.put,sA,s0,s1];refine eH (i:=12) rfl Q7 Q7 Q7 (λ_ _ _ h=>h) bZ hH ?_;simp only[Act.put,sA,s0,s1];refine eH (i:=13) rfl Q7 Q7 Q7 (λ_ _ _ h=>h) bZ hH ?_;simp only[Act.put,sA,s0,s1];exact O2
    | some j=>
     rw[hb]at e1 Tt ay;replace e1:H wr _=Y (.pointer (Y ⟨_,0,_⟩)):=e1;replace Tt:U (Gr _ (wr.alloc (X #[.int _ _,.pointer (Y ⟨_,0,_⟩)] _))):=Tt;replace ay:U ((wr.alloc (X #[.int _ _,.pointer (Y ⟨_,0,_⟩)] _)).heap[wr.heap.size]? =Y (X #[.int _ _,.pointer (Y ⟨_,0,_⟩)] _ _)):=ay;have b6:=fv j hb;obtain⟨fs,hj⟩:∃fs,bs[j]? =Y fs:=⟨_,dW b6⟩;obtain⟨bF,bk,cl⟩:=ai.mw;obtain⟨⟨gW,hB⟩,_⟩:=bk.blks j _ hj;obtain⟨gF,gU,fo⟩:=bk.mb;have aA:=hB.box;have aE:=fo.box;have cM:=cl j b6;have No:=λw=>Tryz.blkNe ⟨nm j,0,G⟩ w
     have VF:=aJ (ai.of_gr (Gr.drew Tt));have VE:=aJ (ae.mv λb hb _=>(Gr.drew Tt).block b hb Q6);by_cases bp:bF j=ct+1
     · have VT:U (ei _ (r.drop (k+1)) _=ei _ r _):=aJ (by rw[<-VV.1,b0,yC hb (by rw[cM];simp[bp])]);rw[bp]at aA;have d:U (∀w',Gr _ w'->H w' ⟨_,1,_⟩=Y (.pointer _)/\H w' ⟨_,1,_⟩=Y (.int _ _)/\H w' ⟨_,8,_⟩=Y (.int _ _)):=aJ (λw' gg=>⟨gg.cell (by rw[aP ay];rfl) Q6,(Tt.trans gg).cell (by rw[aP aA];rfl) Q6,(Tt.trans gg).cell (by rw[aP aE];rfl) Q6⟩);generalize v.num=num at e0 d VF VE;generalize nm j=bj at e1 d VF VE No;generalize C.mb=mb at d |-;go_wp2_with fail;generalize wr.alloc _=W1 at d VF VE |-;refine xE (S:=(λw'=>H w' _=Y _/\H w' _=Y _/\H w' _=Y _)) Q7 (d _ Gy) λhH=>?_;refine tL 0 ?_;refine tL 1 ?_;refine tL 2 ?_;refine tL 3 ?_;refine tL 4 ?_;refine tL 5 ?_;refine tL 6 ?_;refine tL 7 ?_;refine tL 8 ?_;refine tL 9 ?_;refine tL 10 ?_;refine tL 11 ?_;refine tL 12 ?_;refine tL 13 ?_;exact O2
     have c6:av.mark j=AS:=by rw[cM];simp[bp]
     have VT:U (ei _ (r.drop (k+1)) _=ei _ r _):=aJ (by rw[<-VV.1,b0,Eo hb c6 hj]);have Wy:=yA c6 b6;have e':=H8 _ (dL hj);have a0:U (D (av.wt++[fs])+uJ (λk=>decide (k=j)||av.mark k) (D bs)<=D aB.wt+uJ aB.mark (D bs)/\av.all+(D fs+1)+1001*uJ (λk=>decide (k=j)||av.mark k) (D bs)<=1001*D bs):=aJ ⟨by have:=VV.2.1;simp;omega,by have:=VV.2.2;omega⟩;have Tc:av.all<=1001*200000:=by have:=VV.2.2;have:=cy.j;omega
     have d:U (∀w',Gr _ w'->H w' ⟨_,1,_⟩=Y (.pointer _)/\H w' ⟨_,1,_⟩=Y (.int _ _)/\H w' ⟨_,8,_⟩=Y (.int _ _)):=aJ (λw' gg=>⟨gg.cell (by rw[aP ay];rfl) Q6,(Tt.trans gg).cell (by rw[aP aA];rfl) Q6,(Tt.trans gg).cell (by rw[aP aE];rfl) Q6⟩);have HH:U (∀w',Gr _ w'->w'.heap[nm j]? =Y _/\w'.heap[wr.heap.size]? =Y _):=aJ λw' gg=>⟨((Tt.trans gg).block _ hB.lt Q6).trans aA,(gg.block _ Q6 Q6).trans ay⟩;have e7:U (¬wr.heap.size=nm j):=aJ (by have:=hB.lt;omega);obtain⟨fa,a6,rfl⟩:=aR hB.fl;have eV:U (∀w',Gr _ w'->WE _ _ _ _ _ _):=aJ λw' gg=>(⟨hB.fl,λb hb=>⟨j,.inr (.inr (hB.rf b hb))⟩,cp _ (dL hj),e'⟩:WE _ _ _ _ _ _).mv λb hb _=>gg.block b hb Q6;have cz:U (∀w',Gr _ w'->RW C w _ _ _ _ L _ _ _ _ _ _/\(∀(v:M) (r:I _),WE _ ρ _ _ v r->WE (w'.setCell (Q _ 1 G) (O Z (ct+1))) _ nm (D bs) v r)):=aJ (λw' gg=>⟨(ai.of_gr (Tt.trans gg)).mark a2 hj (by have:=fm.j;omega),λv r a3=>a3.mv λb hb hr=>dp _ _ _ _ (by
      show b≠nm j
      intro e2;rw[e2,hB.rb]at hr;obtain⟨i,hi⟩:=hr;rcases hi with hi|hi|hi<;>cases hi)⟩)
     have aL:=Tt;generalize g2:bF j=q at d HH bp;go_wp2_with fail;generalize wr.alloc _=W1 at d HH cz aL |-;refine xE (S:=(λw'=>H w' _=Y _/\H w' _=Y _/\H w' _=Y _)) Q7 (d _ Gy) λhH=>?_;refine tL 0 ?_;refine tL 1 ?_;refine tL 2 ?_;refine tL 3 ?_;refine tL 4 ?_;refine tL 5 ?_;refine tL 6 ?_;refine tL 7 ?_;refine tL 8 ?_;refine tL 9 ?_;refine tL 10 ?_;refine tL 11 ?_;refine tL 12 ?_;refine tL 13 ?_;refine tL 14 ?_;refine Ev Q7 ?_ _;go_wp2_with fail;have GD:=Gr.drew (Gr.refl W1);have aD:=aJ GD;generalize W1.drew=W2 at aD |-;refine eD 8 (S:=(λw'=>H w' _=Y _/\H w' _=Y _/\H w' _=Y _)) Q7 (d _ (aD.trans Gy)) λhH=>?_;refine tY 0 ?_;refine tY 1 ?_;refine tY 2 ?_;refine tY 3 ?_;refine tY 4 ?_;refine tY 5 ?_;refine tY 6 ?_;refine tY 7 ?_;refine eh (i:=8) rfl Q7 λK hK=>?_;have f0:=(HH _ aD).1;have z1:W2.frozen? ⟨_,1,_⟩=AS:=aq f0;have HK:=aJ hK;refine aW bZ ?_;go_simp
     have hK:=HK.j;refine hK _ _ (λh=>absurd rfl h) λ_=>?_;try simp only[Act.put,sA,s0,s1]
     refine mf Q7 ?_ _;have b3:=(wS _ _ 1 _ _ (O Z (ct+1)) (HH _ aD).1).trans (by simp:_=Y (X #[J fa (D fs) a6,O Z (ct+1)] 247 (0,0)));have b4:=(dp _ ⟨_,1,G⟩ (O Z (ct+1)) _ e7).trans (HH _ aD).2;have h3:=(cz _ aD);have ak:=aJ (h3.1.of_gr Gy);have a8:=aJ ((h3.2 _ _ (eV _ (aL.trans aD))).mv (w':=(W2.setCell _ _).drew) λb hb _=>rfl);have a':=aJ ((h3.2 _ _ (ae.mv λb hb _=>(aL.trans aD).block b hb Q6)).mv (w':=(W2.setCell _ _).drew) λb hb _=>rfl);have di:U ((W2.setCell _ _).drew.heap[nm j]? =_):=aJ b3;have VH:U ((W2.setCell _ _).drew.heap[wr.heap.size]? =_):=aJ b4;generalize (W2.setCell _ _).drew=W3 at ak a8 a' di VH |-;have k0:H W3 ⟨nm j,0,G⟩=Y (J fa (D fs) a6):=by rw[aP di];rfl
     have k1:H W3 (Q wr.heap.size 1 G)=Y (.pointer (Y ⟨nm j,0,G⟩)):=by rw[aP VH];rfl
     obtain⟨es,T0,Ut,aF⟩:=ak.wt;obtain⟨wa,wc,rfl⟩:=aR Ut;have bt:D es+1<=1000000:=by
      have h1:=congrArg List.length T0;rw[JY]at h1;have h1:D es=D av.wt:=h1;have h2:=a0.1;have h3:=bo.j;rw[ad.1,ad.2.1]at h2;simp at h2 h3
      omega
     have UQ:∀e∈[(J fa (D fs) a6,fs)],WE W3 ρ nm (D bs) e.1 e.2:=by
      intro e he;simp only[Ce,Mk,or_false]at he;subst he;exact a8
     obtain⟨v6,w6,b5,b',aI⟩:=yj (ty:=272) [(J fa (D fs) a6,fs)] Ut ak.kp.size #[J _ _ _] rfl (by intro v hv;simp at hv;subst hv;exact⟨_,_,_,rfl⟩) bt;have az:Gr _ (W3.alloc (X #[J fa (D fs) a6] 178)):=(G0).alloc _;have aM:=aJ (ak.grow (all:=av.all+(D fs+1)) a2 HV az aI b' T0 aF UQ);have cn:=aJ (a'.mv λb hb hr=>(aI.block b (tu hb az.size) (λe=>by
      have e1:=a2 b (Ut.lt b e.symm).1;rw[e1]at hr;obtain⟨i,hi⟩:=hr;rcases hi with hi|hi|hi<;>cases hi)).trans (az.block b hb Q6))
     have aG:=aJ b5;have gB:Z.wrap (av.all+(D fs+1))=((av.all+(D fs+1):R):A):=Qq
     generalize ga:D es=ne at aG |-;go_wp2_with fail;refine(kZ _ _ Q5).mono ?_;rintro e w5 ⟨rfl,e6⟩;subst e6;go_wp2_with(at_builtin;refine CH _ rfl _ _ _ _ rfl _ _ rfl rfl _ _ aG.j ?_)
     exact⟨⟨_,_,_,rfl,Q6,Q6,IN,VT,a0.1,a0.2,aM,cn⟩,Qh⟩
  have ca:k=D r:=by omega
  subst ca;have VT:U (av=ei _ r _):=aJ (by rw[<-VV.1];simp[ei]);have ec:=aJ ai.len;have dO:=aJ ai.un;go_wp2_with fail;refine⟨⟨_,m,_,rfl,Q6,by rw[VT];exact a7,by have:=VV.2.1;have:=bo.j;rw[ad.1,ad.2.1]at *;omega,bo.2,VV.2.2,ai⟩,?_⟩;have h1:=ec.j;have h2:=dO.j;have h3:=e5.j;have h4:=VV.2.1;have h5:=e4.j;have h6:=ad.j;rw[h6.1,h6.2.1,h5]at h4;rw[h1,h2,h3];show _<a4+1+_
  omega
end
section
variable {C:MC} {w:T} {ρ:R->cV} {nm fbn:R->R} {cs:R->A} {ct:A} {L:I eZ} {bs:I (I PV)} {tk:R} {told:I A}
def kr(heap k:R)(L:I eZ)(bs:I (I PV))(tk:R):R:=if tk+(k+1)>heap then fE L bs else tk
theorem GP(k:R)(hk:k<=1000)(a':tk<=10000000)(a0:C.heap<=10000000)(h:MW C w ρ nm fbn cs ct L bs tk told)(hm:Fv C w ρ fbn (D L) (tk:A) ct told vf vt)(hL:0<D L)(aM:D L<=1000)(aG:0<=ct/\ct<=10000000)(a2:D bs<=200000)(h8:∀r∈bs,D r<=1000)(bL:∀x∈L,Bd (D bs) x.slots/\Bd (D bs) x.stack)(sL:∀x∈L,D x.slots<=1000/\D x.stack<=1000)(bB:∀r∈bs,Bd (D bs) r):
 Calls prog 87 #[.pointer (Y (Q C.mb 6 G)),O Z (k:A),vf] w λe w'=>∃ak ay,ct<=ay/\ay<=ct+1/\e=.returned (.bool (decide (kr C.heap k L bs tk+(k+1)<=C.heap)))/\MW C w' ρ nm fbn ak ay L bs (kr C.heap k L bs tk) told/\bJ w w' ρ ρ:=by
 have Ul:=hm.box;have F:U (∀w',Gr w w'->H w' ⟨_,7,_⟩=Y (.int _ _)/\H w' ⟨_,6,_⟩=Y (.int _ _)):=aJ λw' g=>⟨g.cell Rm Q6,g.cell Rm Q6⟩;have aC:Z.wrap (tk+(k+1))=((tk+(k+1):R):A):=Qq
 have al:U (∀w',Gr w w'->Calls _ _ _ _ λe w2=>∃ak,e=.returned (O Z (fE L bs:A))/\fE L bs<=1001*D bs/\MW C w2 ρ nm fbn ak (ct+1) L bs tk told/\bJ w' w2 ρ ρ):=aJ λw' gg=>Ar (h.of_gr gg) (hm.mv (S:=λ_=>True) (λb hb _=>⟨gg.block b hb Q6,rfl⟩) trivial trivial trivial) hL aM aG a2 h8 bL sL bB;have aH:=aJ h;obtain⟨va,vn,a4,rfl⟩:∃a n c,vf=J a n c:=by obtain⟨a,c,e⟩:=aR hm.fr;exact⟨a,_,c,e⟩
 obtain⟨hp,ax⟩:∃hp,C.heap=hp:=⟨_,rfl⟩;rw[ax]at F a0 |-;by_cases aD:tk+(k+1)>hp
 · have az:U (kr _ k L bs _=fE L _):=aJ (by unfold kr;rw[mI aD]);rw[az];have av:hp<((tk+(k+1):R):A):=by omega
   generalize ((tk+(k+1):R):A)=TK at av aC;generalize ae:C.mb=mb at F al |-;go_enter func87,ntmps87
   go_wp2_with fail;refine xE (S:=(λw'=>H w' _=Y _/\H w' _=Y _)) Q7 (F _ Gy) λhH=>?_;refine tL 0 ?_;refine tL 1 ?_;refine tL 2 ?_;refine tL 3 ?_;refine tL 4 ?_;refine tL 7 ?_;refine tL 8 ?_;refine tL 9 ?_;refine tL 10 ?_;refine bQ (i:=5) rfl Q7 λK hK=>?_;refine am rfl _ _ _ rfl _ fZ (Tryz.callWords _ _) ((kZ k _ Q5).mono ?_);rintro e a6 ⟨rfl,d⟩;subst d;refine .inl ⟨_,rfl,?_⟩;refine hK _ _ (F _ Gy) λhH=>?_;try simp only[Act.put,sA,s0,s1]
   refine tL 6 ?_;refine tL 11 ?_;refine Ev Q7 ?_ _;go_wp2_with fail;refine(al _ Gy).mono ?_;rintro e w2 ⟨ak,rfl,aF,hM,hK⟩;have UJ:=aJ ((bJ.of_gr (Gr.drew (Gr.refl w))).trans hK);obtain⟨aI,aL,aE⟩:=hM.mb;have af:=aE.box;rw[ae,ax]at af;have c7:H w2 (Q mb 7 G)=Y (O Z tk):=by rw[aP af];rfl
   have z7:w2.frozen? ⟨_,7,_⟩=AS:=aq af;have aA:=(wS _ _ 7 _ _ (O Z (fE L bs:A)) af).trans (by simp:_=Y (X #[C.v1,C.v2,C.v3,C.v4,C.v5,aI,O Z hp,O Z (fE L bs:A),O Z (ct+1),aL] 102 (0,0)));have h3:=hM.setMb (w':=w2.setCell _ _) aE (by rw[ae,ax];exact aA) (MM _) rfl rfl rfl Q6 (λb hb No=>dp _ _ _ _ (by show b≠mb;exact λe=>No (e.trans ae.symm)));have UN:=aJ (And.intro h3.1 (UJ.trans h3.2));have ad:U (∀w',Gr _ w'->H w' ⟨_,7,_⟩=Y (.int _ _)/\H w' ⟨_,6,_⟩=Y (.int _ _)):=aJ (λw' g=>⟨g.cell (by rw[aP aA];rfl) Q6,g.cell (by rw[aP aA];rfl) Q6⟩);go_upto_region 3 with fail
   generalize w2.setCell _ _=W3 at UN ad |-;have d:Z.wrap ((fE L bs:A)+(k+1))=((fE L bs+(k+1):R):A):=Qq
   generalize aB:fE L _=RN at UN ad d aF |-;have HD:U (decide (((RN+(k+1):R):A)<=hp)=decide (RN+(k+1)<=hp)):=aJ (by congr 1;exact propext Q5);generalize a3:((RN+(k+1):R):A)=a5 at d HD;refine xE (S:=(λw'=>H w' _=Y _/\H w' _=Y _)) Q7 (ad _ Gy) λhH=>?_;refine tL 0 ?_;refine tL 1 ?_;refine tL 2 ?_;refine tL 3 ?_;refine tL 4 ?_;refine tL 7 ?_;refine tL 8 ?_;refine tL 9 ?_;refine tL 10 ?_;refine bQ (i:=5) rfl Q7 λK hK=>?_;refine am rfl _ _ _ rfl _ fZ (Tryz.callWords _ _) ((kZ k _ Q5).mono ?_);rintro e a8 ⟨rfl,d⟩;subst d;refine .inl ⟨_,rfl,?_⟩;refine hK _ _ (ad _ Gy) λhH=>?_;try simp only[Act.put,sA,s0,s1]
   refine tL 6 ?_;refine tL 11 ?_;refine tL 12 ?_;refine Ev Q7 ?_ _;go_wp2_with fail;go_ret
   exact⟨_,_,Q5,MM _,by rw[aB,<-HD];rfl,by rw[aB];exact UN.1.of_gr Gy,UN.2.trans (bJ.of_gr Gy)⟩
 have az:U (kr _ k L bs _=tk):=aJ (by unfold kr;rw[eP aD]);rw[az];have av:¬hp<((tk+(k+1):R):A):=by omega
 have HD:U (decide (((tk+(k+1):R):A)<=hp)=decide (tk+(k+1)<=hp)):=aJ (by congr 1;exact propext Q5);generalize ((tk+(k+1):R):A)=TK at av aC HD;generalize ae:C.mb=mb at F al |-;go_enter func87,ntmps87
 go_wp2_with fail;refine xE (S:=(λw'=>H w' _=Y _/\H w' _=Y _)) Q7 (F _ Gy) λhH=>?_;refine tL 0 ?_;refine tL 1 ?_;refine tL 2 ?_;refine tL 3 ?_;refine tL 4 ?_;refine tL 7 ?_;refine tL 8 ?_;refine tL 9 ?_;refine tL 10 ?_;refine bQ (i:=5) rfl Q7 λK hK=>?_;refine am rfl _ _ _ rfl _ fZ (Tryz.callWords _ _) ((kZ k _ Q5).mono ?_);rintro e a9 ⟨rfl,d⟩;subst d;refine .inl ⟨_,rfl,?_⟩;refine hK _ _ (F _ Gy) λhH=>?_;try simp only[Act.put,sA,s0,s1]
 refine tL 6 ?_;refine tL 11 ?_;refine Ev Q7 ?_ _;go_upto_region 3 with fail
 have ai:=aJ (Gr.drew (Gr.refl w));have ad:U (∀w',Gr _ w'->H w' _=Y _/\H w' _=Y _):=aJ λw' g=>F _ (ai.trans g);generalize w.drew=W3 at ad ai |-;refine xE (S:=(λw'=>H w' _=Y _/\H w' _=Y _)) Q7 (ad _ Gy) λhH=>?_;refine tL 0 ?_;refine tL 1 ?_;refine tL 2 ?_;refine tL 3 ?_;refine tL 4 ?_;refine tL 7 ?_;refine tL 8 ?_;refine tL 9 ?_;refine tL 10 ?_;refine bQ (i:=5) rfl Q7 λK hK=>?_;refine am rfl _ _ _ rfl _ fZ (Tryz.callWords _ _) ((kZ k _ Q5).mono ?_);rintro e a7 ⟨rfl,d⟩;subst d;refine .inl ⟨_,rfl,?_⟩;refine hK _ _ (ad _ Gy) λhH=>?_;try simp only[Act.put,sA,s0,s1]
 refine tL 6 ?_;refine tL 11 ?_;refine tL 12 ?_;refine Ev Q7 ?_ _;go_wp2_with fail;go_ret
 exact⟨_,_,MM _,Q5,by rw[show decide (tk+(k+1)<=hp)=AT by simp;omega];rfl,aH.of_gr (ai.trans Gy),bJ.of_gr (ai.trans Gy)⟩
end
section
variable {P:Program} {ops:Array Oper} {QQq:Exit->Act->T->Prop} {md:Region.Mode} {S:T->Prop}
def kD(P:Program)(md:Region.Mode)(ops:Array Oper)(QQq:Exit->Act->T->Prop)(S:T->Prop)(zs:I R):R->Array Bool->Act->T->Prop
 | 0,listed,a,w=>Region.ready md ops listed=[]/\QQq .normal a w
 | fuel+1,listed,a,w=>
  (Region.ready md ops listed=[]->QQq .normal a w)/\
  ∀i∈Region.ready md ops listed,wpOp P ops QQq i (λa' w'=>(zs.contains i=AS->S w')/\kD P md ops QQq S zs fuel (listed.setIfInBounds i AT) a' w') a w
theorem tJ:∀(fuel:R) (listed:Array Bool) (a:Act) (w:T),kD P md ops QQq S zs fuel listed a w->wpAny P md ops QQq fuel listed a w
 | 0,_,_,_,h=>h
 | fuel+1,_,_,_,h=>⟨h.1,λi hi=>wpOp_mono (λd w' h'=>tJ fuel _ d w' h'.2) (h.2 i hi)⟩
theorem vd{i:R}{v:M}(hi:ops[i]? =Y oi)(F:∀(j:R) (o:Oper) cs b,ops[j]? =Y o->o.op≠.select cs b)
 (hQ:∀c a w,QQq (.panic c) (a.put oi.dst v) w->QQq (.panic c) a w):
 ∀(fuel:R) (listed:Array Bool) (a:Act) (w:T),(∀z,zs.contains z=AT->mu md ops listed i z)->
  (∀j oj,ops[j]? =Y oj->j≠i->listed.getD j AT=AS->(∀e∈oj.after,Region.binds md e=AT->e.on≠i)->oi.apart ops oj=AT)->
  i∈Region.ready md ops listed->YieldsIf P ops S oi v a->S w->
  kD P md ops QQq S zs fuel (listed.setIfInBounds i AT) (a.put oi.dst v) w->kD P md ops QQq S zs (fuel+1) listed a w:=by
 intro fuel
 induction fuel with
 | zero=>
  intro listed a w hw _ hr hy hS HHq;exact N5
 | succ fuel ih=>
  intro listed a w hw UL hr hy hS HHq;refine⟨λh=>RL,λj hj=>?_⟩;by_cases TG:j=i
  · exact Oz
  have h1:=HHq.2 j (Ml hj TG);obtain⟨Vw,oj,ad,Tc⟩:=M7.1 hj;have ae:∀e∈oj.after,Region.binds _ e=AT->e.on≠i:=λe he hb heq=>by
   exact NO
  have af:zs.contains j=AS:=by
   cases e:zs.contains j with
   | false=>rfl
   | true=>exact absurd hj (hw j e).not_ready
  have h2:=wpOp_putIf ad (UL j _ ad TG Vw ae) (λcs b=>F i _ _ b hi) (λcs b=>F j _ _ b ad) hQ hy h1;have d:∀k ok,ops[k]? =Y _->k≠i->(listed.setIfInBounds j _).getD k _=AS->
   (∀e∈ok.after,Region.binds _ e=AT->e.on≠i)->oi.apart _ ok=AT:=λk ok hk UB Wy UZ=>by
   exact Oe
  refine wpOp_mono (λa' w' h3=>⟨h3.2.1,ih _ _ _ (λz hz=>(hw z hz).list hj TG) d (Ml hr (Nc TG)) h3.1 (h3.2.1 af) ?_⟩) h2;rw[Jb _ _ TG];exact h3.2.2
end
section
variable {P:Program} {l:I Oper} {md:Region.Mode} {QQq:Exit->Act->T->Prop} {S:T->Prop}
theorem iO{i:R}{v:M}{a:Act}{w:T}(hi:l[i]? =Y oi)(d:(zs.all λz=>oc md l listed i 20 z)=AT)
 (hs:Region.noSelect l.toArray=AT) (F:Region.free md l.toArray listed i=AT) (hr:(Region.ready md l.toArray listed).contains i=AT)
 (hQ:∀c a w,QQq (.panic c) (a.put oi.dst v) w->QQq (.panic c) a w) (hw:Region.wanted oi (yielded l.toArray a.tmps)=AT) (hy:∀w,S w->(execOp a.eval oi).run P w=.ok (.value v) w) (hS:S w)
 (h:kD P md l.toArray QQq S zs fuel (listed.setIfInBounds i AT) (a.put oi.dst v) w):kD P md l.toArray QQq S zs (fuel+1) listed a w:=
 vd Q' (Lg hs) hQ fuel listed a w (λz hz=>nF (zl.1 d z SD)) (Region.free_spec Q' F) (by simpa using hr) (.inl ⟨hw,hy⟩) hS h
theorem tS{P:Program}{l:I Oper}{md:Region.Mode}{QQq:Exit->Act->T->Prop}{S:T->Prop}(i:R){oi:Oper}{v:M}{fuel:R}{listed F:Array Bool}{a a':Act}{w:T}(h:kD P md l.toArray QQq S zs fuel F a' w)(hi:l[i]? =Y oi:=by rfl)(hy:∀w,S w->(execOp a.eval oi).run P w=.ok (.value v) w:=by intro w hS;go_simp<;>rfl)(hS:S w:=by assumption)(d:(zs.all λz=>oc md l listed i 20 z)=AT:=by kernel_rfl)(hs:Region.noSelect l.toArray=AT:=by kernel_rfl)(hf:Region.free md l.toArray listed i=AT:=by kernel_rfl)(hr:(Region.ready md l.toArray listed).contains i=AT:=by kernel_rfl)(hQ:∀c a w,QQq (.panic c) (a.put oi.dst v) w->QQq (.panic c) a w:=by intro c a w h;exact h)(hw:Region.wanted oi (yielded l.toArray a.tmps)=AT:=by rfl)(ha:a.put oi.dst v=a':=by first|(simp only[Act.put,sA,s0,s1];rfl)|rfl)(hl:listed.setIfInBounds i AT=F:=by first|(simp only[sA,s0,s1];rfl)|rfl):kD P md l.toArray QQq S zs (fuel+1) listed a w:=iO hi d hs hf hr hQ hw hy hS (ha▸hl▸h)
theorem dy{i:R}{o:Oper}{a:Act}{w:T}(ho:l[i]? =Y o)(F:Region.ready md l.toArray listed=[i])
 (h:∀d:Act->T->Prop,Shut (∀a w,(zs.contains i=AS->S w)->kD P md l.toArray QQq S zs fuel (listed.setIfInBounds i AT) a w->d a w)->if Region.wanted o (yielded l.toArray a.tmps)=AT then Oper.wp P o a w d QQq else d (a.put o.dst undef) w):kD P md l.toArray QQq S zs (fuel+1) listed a w:=by
 refine⟨λh0=>absurd (F▸h0) Q6,F▸λj hj=>?_⟩;obtain rfl:=by simpa using hj
 exact wpOp_step (by simpa using ho) λd hK=>h _ λa w hS hW=>hK a w ⟨hS,hW⟩
theorem mo{a:Act}{w:T}(d:Region.ready md l.toArray listed=[])(h:QQq .normal a w):∀fuel,kD P md l.toArray QQq S zs fuel listed a w
 | 0=>⟨d,h⟩
 | _+1=>⟨λ_=>h,by rw[d];simp⟩
theorem eg(zs:I R){id:R}{a:Act}{w:T}(hm:P.follows .mixedOrders=AT)(hS:S w.drew)
 (h:S w.drew->kD P .any l.toArray QQq S zs l.toArray.size (Array.replicate l.toArray.size AS) a w.drew):(Code.region id l.toArray AT).wp P QQq a w:=
 wp_region_any hm (tJ _ _ _ _ (h hS))
end
def kF(u:aK)(heap:R):R->R->PM->kB
 | 0,s,m=>⟨7,0,0,0,0,m.told,(s:A)⟩
 | n+1,s,m=>match cQ u heap m with
  | .go m'=>kF u heap n (s+1) m'
  | .stop why res m'=>⟨why,0,0,0,res,m'.told,((s+1:R):A)⟩
theorem CF(u:aK)(heap s:R)(m:PM):kF u heap 0 s m=⟨7,0,0,0,0,m.told,(s:A)⟩:=rfl
theorem wg{u:aK}(h:cQ u heap m=.go m'):kF u heap (n+1) s m=kF u heap n (s+1) m':=by
 rw[kF,h]
theorem jl{u:aK}{why res:A}(h:cQ u heap m=.stop why res m'):kF u heap (n+1) s m=⟨why,0,0,0,res,m'.told,((s+1:R):A)⟩:=by
 rw[kF,h]
section
variable {C:MC} {w w':T} {ρ:R->cV} {nm fbn:R->R} {cs:R->A} {ct:A} {L:I eZ} {bs:I (I PV)} {tk:R} {told:I A}
variable {u:aK} {Ts:R->R->By (I A)} {σ:I A} {x:eZ} {f:aQ} {i:bP} {base ts ps:I A} {a b:I PV}
theorem mN.len(d:mN u Ts σ x f i base ts ps a b):D x.stack<=20:=by
 have h1:=d.short;have h2:=d.below.1;have F:=d.upon.1;rw[d.stack,fe,<-h2,<-F,<-fe];exact h1
theorem lQ{a:A}(h:0<=a):a=(a.toNat:A):=Q5
theorem II(heap:R)(hh:mN u Ts σ x f i base ts ps a b)(hk:(1<=i.op/\i.op<=10)\/i.op=18\/i.op=19)(h:MW C w ρ nm fbn cs ct (x::L) bs tk told):∃sl st,(∀(low:I eZ) (blks:I (I PV)) (taken:R) (told:I A),eW u heap ⟨x,low,blks,taken,told⟩ i=.go ⟨⟨x.fn,x.pos+1,sl,st⟩,low,blks,taken,told⟩)/\Calls prog 91 #[.pointer (Y ⟨fbn (D L),0,G⟩),.agg #[O Z i.op,O Z i.a,O Z i.b]] w (GV C w ρ nm fbn cs ct (⟨x.fn,x.pos,sl,st⟩::L) bs tk told):=by
 have d:D x.stack<=1000:=by have:=hh.len;omega
 have hS:=hh.stack;have hU:=hh.upon;have hL:=hh.slots;cases hh.ins with
 | small e=>
  refine⟨x.slots,x.stack++[⟨i.a,G⟩],λlow blks taken told=>?_,?_⟩
  · unfold eW;simp only[e];rfl
  rw[e];exact EW _ _ h d
 | load k e h0 F=>
  obtain⟨v,hv,_⟩:=hL.get F;refine⟨x.slots,x.stack++[v],λlow blks taken told=>?_,?_⟩
  · unfold eW;simp only[e];have:x.slots.getD i.a.toNat lX=v:=by rw[mh,hv];rfl
    rw[this];rfl
  rw[e,lQ h0];exact Gl _ hv _ h d
 | store k e h0 F=>
  obtain⟨v,rfl,hv⟩:=hU.of_one;have hl:=(dm.1 F).1;refine⟨x.slots.set i.a.toNat v,a,λlow blks taken told=>?_,?_⟩
  · unfold eW;simp only[e,hS,cD,dD];rfl
  have:=Er hS _ (hL.1▸hl) i.b h d
  rw[<-lQ h0]at this;rw[e];exact this
 | pop k e=>
  obtain⟨v,rfl,hv⟩:=hU.of_one;refine⟨x.slots,a,λlow blks taken told=>?_,?_⟩
  · unfold eW;simp only[e,hS,cD,dD];rfl
  rw[e];exact IV hS _ _ h d
 | dup k e=>
  obtain⟨v,rfl,hv⟩:=hU.of_one;refine⟨x.slots,x.stack++[v],λlow blks taken told=>?_,?_⟩
  · unfold eW;simp only[e];have:x.stack.getD (D x.stack-1) lX=v:=by rw[hS,cD]
    rw[this];rfl
  rw[e];exact Hz hS _ _ h d
 | reck e1 e2=>
  obtain⟨v,v',rfl,hv,av⟩:=hU.of_two;have n0:¬i.op=0:=Q5;have n1:¬i.op=1:=Q5;have n2:¬i.op=2:=Q5;have n3:¬i.op=3:=Q5;have n4:¬i.op=4:=Q5;have n5:¬i.op=5:=Q5;have n6:¬i.op=11:=Q5;have n7:¬i.op=12:=Q5;have n8:¬i.op=13:=Q5;have n9:¬i.op=14:=Q5;have ad:¬i.op=15:=Q5;have af:¬i.op=16:=Q5;have ae:¬i.op=17:=Q5;have al:¬i.op=18:=Q5;have ai:¬i.op=19:=Q5;have ak:¬i.op=20:=Q5;refine⟨x.slots,a++[⟨jT i.op v.num v'.num,G⟩],λlow blks taken told=>?_,?_⟩
  · unfold eW;simp only[n0,n1,n2,n3,n4,n5,n6,n7,n8,n9,ad,af,ae,al,ai,ak,L3,hS,ik,gL,io];rfl
  exact Gf hS _ _ _ ⟨e1,e2⟩ h d
 | nil e h1=>
  refine⟨x.slots,x.stack++[lX],λlow blks taken told=>?_,?_⟩
  · unfold eW;simp only[e];rfl
  rw[e];exact IK _ _ h d
 | isnil e h1=>
  obtain⟨v,rfl,hv⟩:=hU.of_one;refine⟨x.slots,a++[⟨fk v.blk.isNone,G⟩],λlow blks taken told=>?_,?_⟩
  · unfold eW;simp only[e,hS,cD,dD];rfl
  rw[e];exact Ep hS _ _ h d
 | const e=>omega
 | jump e=>omega
 | zero e=>omega
 | call g e=>omega
 | ret e=>omega
 | new e=>omega
 | get s k e=>omega
 | set s k e=>omega
 | out e=>omega
theorem yJ(heap:R)(hh:mN u Ts σ x f i base ts ps a b)(hk:i.op=16\/i.op=17)(h:MW C w ρ nm fbn cs ct (x::L) bs tk told)(hl:D σ=D bs)(hB:∀(j:R) (k:A) (fs:I PV),σ[j]? =Y k->bs[j]? =Y fs->∃s,1<=k/\u.aA[(k-1).toNat]? =Y s/\gN σ s fs):∃r st U8,(∀(low:I eZ) (taken:R) (told:I A),eW u heap ⟨x,low,bs,taken,told⟩ i=if r=AT then .go ⟨⟨x.fn,x.pos+1,x.slots,st⟩,low,U8,taken,told⟩ else .stop 10 0 ⟨x,low,bs,taken,told⟩)/\Calls prog 89 #[.pointer (Y ⟨fbn (D L),0,G⟩),.agg #[O Z i.op,O Z i.a,O Z i.b]] w (JZ C w ρ nm fbn cs ct (x.st st::L) U8 tk told r):=by
 have hn:D x.stack<=1000:=by have:=hh.len;omega
 have hS:=hh.stack;have hU:=hh.upon;cases hh.ins with
 | get s k e h1 h0 hs F=>
  obtain⟨v,rfl,hv⟩:=hU.of_one;cases d:v.blk with
  | none=>
   refine⟨AS,a,bs,λlow taken told=>?_,?_⟩
   · unfold eW;simp only[e,hS,cD,dD];rw[d];rfl
   rw[e];exact wv _ hS d _ h hn
  | some j=>
   obtain⟨q1,q2⟩:=hv j d;have ad:j<D bs:=by rw[<-hl];exact(dm.1 q2).1
   have hj:=dW ad;obtain⟨s2,p1,p2,p3⟩:=hB j _ _ q2 hj;rw[hs]at p2;cases p2;obtain⟨fv,ae,_⟩:=p3.get F;refine⟨AT,a++[fv],bs,λlow taken told=>?_,?_⟩
   · unfold eW;simp only[e,hS,cD,dD];rw[d];have e1:bs.getD j []=bs[j]:=by rw[mh,hj];rfl
     have e2:(bs[j]).getD i.b.toNat lX=fv:=by rw[mh,ae];rfl
     simp only[e1,e2];rfl
   have:=Ek hS d hj ae i.a h hn
   rw[<-lQ h0]at this;rw[e];exact this
 | set s k e h1 h0 hs F=>
  obtain⟨v,v',rfl,hv,af⟩:=hU.of_two;cases d:v.blk with
  | none=>
   refine⟨AS,a,bs,λlow taken told=>?_,?_⟩
   · unfold eW;simp only[e,hS,ik,gL,io];rw[d];rfl
   rw[e];exact wP _ hS d _ h hn
  | some j=>
   obtain⟨q1,q2⟩:=hv j d;have ad:j<D bs:=by rw[<-hl];exact(dm.1 q2).1
   have hj:=dW ad;obtain⟨s2,p1,p2,p3⟩:=hB j _ _ q2 hj;rw[hs]at p2;cases p2;refine⟨AT,a,bs.set j ((bs[j]).set i.b.toNat v'),λlow taken told=>?_,?_⟩
   · unfold eW;simp only[e,hS,ik,gL,io];rw[d];have e1:bs.getD j []=bs[j]:=by rw[mh,hj];rfl
     simp only[e1];rfl
   have:=Dp hS d hj (by have:=(dm.1 F).1;rw[<-p3.1];exact this) i.a h hn
   rw[<-lQ h0]at this;rw[e];exact this
 | reck e1 e2=>omega
 | _=>omega
end
def iP(w:T)(ob:R)(why res st:A):Prop:=w.heap[ob]? =Y (X #[O Z why,O Z 0,O Z 0,O Z 0,O Z res,J G 0 0,O Z st] 47 (0,0))
structure UW(C:MC):Prop where
 ok:rD C.u
 imp:C.u.aC=[]
 sh:cS C.V C.v1 C.u.aA
 co:aY C.V C.v2 C.u.aE
 fu:eE C.V C.v3 C.u.aG
structure JG(C:MC)(Ts:R->R->By (I A))(w0:T)(ρ0:R->cV)(ob rb fuel:R)(FIN:kB)(wr:T)(m:PM)(s:R)(ρ:R->cV)(nm fbn:R->R)(cs:R->A)(ct:A)(σ:I A):Prop where
 j:iP wr ob 7 0 (s:A)
 res:wr.heap[rb]? =w0.heap[rb]?
 rlt:rb<w0.heap.size
 rro:ρ0 rb=.no
 olt:w0.heap.size<=ob
 oro:ρ ob=.no
 le:s<=fuel
 run:kF C.u C.heap (fuel-s) s m=FIN
 ok:qg C.u Ts σ m
 ct0:0<=ct
 cts:ct<=(s:A)
 bls:D m.blks<=s
 tak:m.taken<=C.heap
 mw:MW C wr ρ nm fbn cs ct (m.top::m.low) m.blks m.taken m.told
 kp:bJ w0 wr ρ0 ρ
def o_(C:MC)(Ts:R->R->By (I A))(w0:T)(ρ0:R->cV)(ob rb fuel:R)(FIN:kB)(wr:T)(vf:M):Prop:=∃m s ρ nm fbn cs ct σ,vf=.pointer (Y ⟨fbn (D m.low),0,G⟩)/\JG C Ts w0 ρ0 ob rb fuel FIN wr m s ρ nm fbn cs ct σ
theorem o_.go{C:MC}{Ts:R->R->By (I A)}{ρ0:R->cV}{ob rb:R}{FIN:kB}{wr w':T}{ρ ρ':R->cV}{nm fbn ae fbn':R->R}{cs af:R->A}{ct d:A}{σ:I A}
 (h:JG C Ts w0 ρ0 ob rb fuel FIN wr m s ρ nm fbn cs ct σ) (hu:UW C) (hT:∀n f,C.u.aG[n]? =Y f->lf C.u f (Ts n)) (hs:s<fuel) (hp:cQ C.u C.heap m=.go m') (hm:MW C w' ρ' ae fbn' af d (m'.top::m'.low) m'.blks m'.taken m'.told) (hk:bJ w0 w' ρ0 ρ') (ho:iP w' ob 7 0 ((s:A)+1)) (ad:ρ' ob=.no) (h0:0<=d) (h1:d<=ct+1) (ht:m'.taken<=C.heap):o_ C Ts w0 ρ0 ob rb fuel FIN w' (.pointer (Y ⟨fbn' (D m'.low),0,G⟩)):=by
 have F:=wX C.heap hu.ok hu.imp hT h.ok;rw[hp]at F;obtain⟨σ',F,TQ⟩:=F;refine⟨_,s+1,_,_,_,_,_,_,rfl,⟨ho,hk.keep _ h.rlt h.rro,h.rlt,h.rro,h.olt,ad,hs,?_,F,h0,by have:=h.cts;omega,by have:=h.bls;omega,ht,hm,hk⟩⟩;rw[<-h.run,show fuel-s=(fuel-(s+1))+1 by omega,wg hp]
def uB(C:MC)(w0:T)(ρ0:R->cV)(FIN:kB)(w':T):Prop:=∃ρ' nm' fbn' cs' ct' L' U8 tk',MW C w' ρ' nm' fbn' cs' ct' L' U8 tk' FIN.told/\bJ w0 w' ρ0 ρ'
end Go.Proofs.YtghjmnlapcpbiaaGreatDoor
