import Derived.Test.YtghjmnlapcpbiaaGreatDoorBk8
namespace Go.Proofs.YtghjmnlapcpbiaaGreatDoor
open _root_ renaming Option.some->Y,Option.none->G,Go.Value.int->O,Go.IntKind.i64->Z,Go.Value.slice->J,List->I,Nat->R,Int->A,Go.World.cell?->H,List.length->D,Go.Obj.cells->X,Go.Value->M,Go.World->T,Go.Addr.mk->Q,Go.RowKit.Hid->U,UInt8->AI,Bool.false->AS,Bool.true->AT,Option->By
open Go.Proofs.Tryz
open Go.RowKit
set_option linter.defProp false
variable{k:A}{ks s s' σ:I A}{q:R}{u:aK}{i:bP}
def MY:=@Option.isSome_iff_exists.{0}
set_option maxRecDepth 100000
set_option maxHeartbeats 2000000
set_option linter.unusedVariables false
set_option linter.unusedSimpArgs false
open Go.RowKit
attribute [local go_sem ↓] Go.wp_at_zero Go.wp_at_succ
def pr(w:T)(x:Ending)(w':T):Prop:=x=.returned (.bool AT)/\Below w.heap.size w w'
def J5(db n B0:R)(os:I R)(ob N1:R)(V:R->M)(Xq:R->I M)(ρ:R->BR)(w5:T)(x:Ending)(w':T):Prop:=
 x=.returned (.bool AT)/\∃vo',yX (λb=>N1<=b/\b<w5.heap.size) db n B0 (os++[ob]) w' V Xq ρ vo'/\(∀b,N1<=b->b<w5.heap.size->w'.heap[b]? =w5.heap[b]?)/\Below db w5 w'
theorem Gg(lo db ob n B0:R)(vo:M)(os:I R)(V:R->M)(Xq:R->I M)(ρ:R->BR)(w:T){tb sb m c N1:R}(hd:yX (λb=>lo<=b) db n B0 os w V Xq ρ vo)(ho:OT AS w ob tb sb m c)(hz:∀b,b=ob\/b=tb\/b=sb->lo<=b/\b<N1)(hN:N1<=w.heap.size)(h1:¬sb=ob)(h2:¬sb=tb)(az:D os<=100):
 Calls prog 10 #[.pointer (Y (Q db 0 G)),.pointer (Y (Q ob 0 G))] w (J5 db n B0 os ob N1 V Xq ρ w):=by
 have HD:=aJ hd;have HO:=aJ ho;have HZ:=aJ hz;have HS:=aJ (nK ho h1 h2);clear hd ho hz h1 h2;go_enter func10,ntmps10
 go_wp2_with fail;refine(dl HO).mono ?_;rintro e w' ⟨rfl,al⟩;obtain rfl:=al.symm;go_wp2_with fail;refine HS.mono ?_;rintro e w2 ⟨rfl,ae,TV,F,TN⟩;have d:=aJ (HD.below ⟨F.1,F.2.1,F.2.2,Q5,λb hb=>TN b (by have:=(HZ _ (.inr (.inr rfl))).1;omega)⟩);have ai:=aJ ae;have UO:=aJ F;have UJ:=aJ TN;have av:=aJ TV;have ak:H w2 (Q db 0 G)=Y vo:=by rw[aN d.s.box];rfl
 have ad:¬vo.ownBlock=Y db:=λe=>by have:=(d.o.lt _ e).1;omega
 have Tn:D os<=10000000:=Q5;clear ae F TN TV;go_wp2_with(first
  |(at_builtin;refine bS _ rfl _ _ 24 39 1 8 (.pointer G) Tryz.ownPtrT underlying24 rfl Q9 Q9 rfl (db+1) _ (D os) (os.map po) rfl d.j.o #[po ob] rfl Qw _ rfl Q6 Tn (by have:=d.j.s.lt;omega) ?_;intro v3 w3 S4;obtain⟨⟨a8,c8,af⟩,_⟩:=bD S4.own;subst af;have ax:=S4.frm.cell ak λe=>ad e.symm;have ay:w3.frozen? ⟨db,0,G⟩=AS:=(zc (S4.frm.block db d.j.s.lt λe=>ad e.symm)).trans (aT d.j.s.box)))
 go_ret
 obtain⟨k1,k2,k3⟩:=HD.push ai HZ hN av UO UJ S4;exact⟨rfl,_,k1,k2,k3⟩
theorem xJ(db n B0:R)(os:I R)(w:T)(hd:Im db n B0 os w):
 Calls prog 5 #[.pointer (Y (Q db 0 G))] w λx w'=>x=.returned (.bool AT)/\Gr w w':=by
 obtain⟨V,Xq,ρ,vo,h⟩:=hd;obtain⟨⟨ao,cap,hv⟩,hm⟩:=bD h.o;have af:H w (Q db 0 G)=Y (J ao (D os) cap):=by rw[aN h.s.box,<-hv];rfl
 have Uy:∀i o,os[i]? =Y o->U (∃g,ao=Y _/\H w _=Y (.pointer _)/\∃tb sb m c,OT _ w o tb sb m c):=λi o hi=>aJ (by
  have Ug:=(dm.1 hi).1;obtain⟨g,k1,k2,⟨Un,d⟩,k4⟩:=iE h.o (j:=i) Q5;rw[hv]at d;simp only[jj]at d;rw[Aq]at k4;obtain⟨tb,sb,m,c,m1,m2⟩:=(h.k o (dL hi)).is;exact⟨g,d.1,by rw[k4,Ha,hi];rfl,_,_,m,c,m1⟩)
 have HS:=aJ h.s;have HE:=aJ h.e;unfold maxLen at hm;go_enter func5,ntmps5
 go_wp2_with fail;go_loopw[3] (λi wr=>∃k:R,k<=D os/\i=O Z k/\w=wr) λi _=>D os-(intOf i).toNat
 case atStart=>exact⟨0,Lz,rfl,rfl⟩
 obtain⟨k,hk,rfl,rfl⟩:=hrel;by_cases IN:k<D os
 · obtain⟨o,ho⟩:=aU IN;obtain⟨g,rfl,ae,tb,sb,m,c,Tb⟩:=(Uy k o ho).j;have UF:=aJ Tb;go_wp2_with(go_at_call 13;refine(dx UF.j).mono ?_;rintro e w' ⟨rfl,F⟩;obtain rfl:=F.symm)
   go_roundw
   case rel=>exact⟨k+1,Q5,QZ,QE⟩
   case measure=>exact Qh
 have ad:k=D os:=by omega
 subst ad;go_wp2_with fail;refine(zz _ _ _ V Xq _ w HS HE).mono ?_;rintro x w1 ⟨rfl,hg⟩;have HG:=aJ hg;exact Po
theorem Im.new{w:T}{db:R}(h:w.heap[db]? =Y (X #[nS,zI,nS,nS,nS,nS,nS,nS,nS,nS,nS] 35 (0,0))):Im db 0 0 [] w:=by
 have hl:=bM h;refine⟨_,_,_,_,⟨h,λi h1 h2=>⟨B5 _ _ _ _,λk hk=>by simp[nS,Value.ownBlock]at hk⟩,λb F=>absurd rfl F⟩,⟨⟨[],rfl,rfl,λe he=>by simp at he⟩,λ_ _=>rfl⟩,λi=>lj,B5 _ _ _ _,λg hg=>by simp[nS,Value.ownBlock]at hg,λb F=>absurd rfl F,Q5,λob d=>by simp at d⟩
def A8(u:aK)(f:aQ)(Tq:R->By (I A))(q:R)(s:I A):Prop:=∃i s',f.code[q]? =Y i/\et u f i s=Y s'/\∀t∈ch f q i,∃t',t=Y t'/\Tq t'=Y s'
structure lf(u:aK)(f:aQ)(Tq:R->By (I A)):Prop where
 zero:Tq 0=Y []
 step:∀q s,Tq q=Y s->A8 u f Tq q s
theorem oe:∀(l:I (By R)) (st d:R->By (I A)),dB s q l st=.inr d->∀t∈l,∃t',t=Y t'/\d t'=Y s
 | [],st,d,h,t,F=>by cases F
 | none::l,st,d,h,t,F=>by simp[dB]at h
 | some x::l,st,d,h,t,F=>by
  rw[dB]at h;cases hx:st x with
  | none=>
   rw[hx]at h;simp only at h;rcases Ce.1 F with rfl|F
   · refine⟨x,rfl,?_⟩;have:=j_ l _ _ h x Q6
     rw[this];simp
   exact oe l _ _ h t F
  | some s0=>
   rw[hx]at h;simp only at h;by_cases e:s0=s
   · rw[mI e]at h;rcases Ce.1 F with rfl|F
     · refine⟨x,rfl,?_⟩;have:=j_ l _ _ h x (by rw[hx];rfl)
       rw[this,hx,e]
     exact oe l _ _ h t F
   rw[eP e]at h;cases h
theorem om:∀(l:I (By R)) (st d:R->By (I A)),dB s q l st=.inr d->∀k,(d k).isSome=AT->(st k).isSome=AT\/Y k∈l
 | [],st,d,h,k,hk=>by simp[dB]at h;subst h;exact .inl hk
 | none::l,st,d,h,k,hk=>by simp[dB]at h
 | some x::l,st,d,h,k,hk=>by
  rw[dB]at h;cases hx:st x with
  | none=>
   rw[hx]at h;simp only at h;rcases om l _ _ h k hk with F|F
   · by_cases e:k=x
     · exact .inr (by rw[e];exact J9)
     simp only[eP e]at F;exact .inl F
   exact .inr (Jw _ F)
  | some s0=>
   rw[hx]at h;simp only at h;by_cases e:s0=s
   · rw[mI e]at h;rcases om l _ _ h k hk with F|F
     · exact .inl F
     exact .inr (Jw _ F)
   rw[eP e]at h;cases h
theorem xZ{f:aQ}(h:et u f i s=Y s'):∃ts ps,bU u f i=Y (ts,ps):=by
 unfold et at h;cases he:bU u f i with
 | none=>rw[he]at h;cases h
 | some p=>exact⟨_,_,rfl⟩
theorem GF{f:aQ}{t:R}(hd:et u f i s=Y s')(hi:f.code[q]? =Y i)(d:Y t∈ch f q i):t<D f.code:=by
 have hq:=(dm.1 hi).1;obtain⟨ts,ps,he⟩:=xZ hd;unfold ch at d;by_cases TC:i.op=11
 · rw[mI TC]at d;simp only[Jm,qN]at d;have:=by
    unfold bU at he;simp only[TC]at he;simp at he
    exact he.1
   omega
 · rw[eP TC]at d;by_cases TM:i.op=14
   · rw[mI TM]at d;cases d
   rw[eP TM]at d;by_cases F:i.op=12
   · rw[mI F]at d;simp only[Ce,Mk,or_false]at d;rcases d with d|d
     · split at d
       · simp only[qN]at d;omega
       cases d
     simp only[qN]at d;have:=by
      unfold bU at he;simp only[F]at he;simp at he
      exact he.1
     omega
   rw[eP F]at d;simp only[Jm]at d;split at d
   · simp only[qN]at d;omega
   cases d
theorem A8.mono{f:aQ}{d T':R->By (I A)}(h:A8 u f d q s)(hm:∀k,(d k).isSome=AT->T' k=d k):A8 u f T' q s:=by
 obtain⟨i,s',h1,h2,h3⟩:=h;refine⟨i,_,h1,h2,λt ht=>?_⟩;obtain⟨t',e,F⟩:=h3 t ht;exact⟨_,e,by rw[hm _ (by rw[F];rfl),F]⟩
theorem yi(u:aK)(f:aQ):∀(k:R) (st:R->By (I A)) (dn:R->Bool),dh (D f.code) dn<k->(∀q,(st q).isSome=AT->q<D f.code)->(∀q,dn q=AT->∃s,st q=Y s/\A8 u f st q s)->j5 u f k st dn=G->
 ∃Tq,(∀q,(st q).isSome=AT->Tq q=st q)/\∀q s,Tq q=Y s->A8 u f Tq q s
 | 0,st,dn,h,_,_,_=>by omega
 | k+1,st,dn,h,IN,af,F=>by
  cases hp:kE (D f.code) st dn with
  | none=>
   refine⟨_,λ_ _=>rfl,λq s hq=>?_⟩;have:=(nN.1 hp) q (IN q (by rw[hq];rfl))
   rw[hq]at this;simp at this
   obtain⟨s2,h1,h2⟩:=af q this;rw[hq]at h1;cases h1
   exact h2
  | some q=>
   obtain⟨ae,ad,_⟩:=nM.1 hp;simp only[sQ,Ms]at ad;obtain⟨i,hi⟩:∃i,f.code[q]? =Y i:=⟨_,dW ae⟩;obtain⟨s,hs⟩:=MY.1 ad.1;rw[j5,hp]at F;simp only[hi,hs]at F;cases hd:et u f i s with
   | none=>rw[hd]at F;cases F
   | some s'=>
    rw[hd]at F;simp only at F;cases hc:dB s' q (ch f q i) st with
    | inl t=>rw[hc]at F;cases F
    | inr ai=>
     rw[hc]at F;simp only at F;have d:=j_ _ _ _ hc;have Tb:A8 u f _ q s:=⟨i,_,hi,hd,oe _ _ _ hc⟩;have Wy:=j7 _ q _ ae ad.2;obtain⟨Tq,h1,h2⟩:=yi u f k _ _ Q5 (λj hj=>by
      rcases om _ _ _ hc j hj with h|h
      · exact IN j h
      · exact GF hd hi h) (λj hj=>by
      by_cases e:j=q
      · subst e;exact⟨s,by rw[d j ad.1,hs],Tb⟩
      simp only[e,decide_false,Bool.false_or]at hj;obtain⟨s2,h1,h2⟩:=af j hj;exact⟨_,by rw[d j (by rw[h1];rfl),h1],h2.mono d⟩) F
     exact⟨Tq,λj hj=>by rw[h1 j (by rw[d j hj];exact hj),d j hj],h2⟩
theorem DF{f:aQ}(hf:1<=D f.code)(h:fj u f=G):∃F,lf u f F:=by
 obtain⟨F,h1,h2⟩:=yi u f _ _ _ (by have:=ug (D f.code) λ_=>AS;omega) (λq d=>by
  by_cases e:q=0
  · omega
  simp[e]at d) (λq d=>by cases d) h
 exact⟨F,by rw[h1 0 Q6];simp,h2⟩
theorem pA(hu:bG u=AT)(h:ar u=(0,0,0)):∀f∈u.aG,∃F,lf u f F:=by
 have d:∀(l:I _) (k:R),iC u k l=(0,0,0)->∀f∈l,fj u f=G:=by
  intro l
  induction l with
  | nil=>intro k _ f d;cases d
  | cons g l ih=>
   intro k h f d;rw[iC]at h;cases hw:fj u g with
   | some q=>rw[hw]at h;simp at h
   | none=>
    rw[hw]at h;rcases Ce.1 d with rfl|d
    · exact hw
    exact ih _ h f d
 unfold ar at h;rw[mI hu]at h;intro f hm;refine DF ?_ (d _ _ h f hm);unfold bG cO at hu;simp only[sQ]at hu;have:=zl.1 hu.2.2.1.2 f hm
 unfold dA ir at this;exact PH
theorem Tryz.infVal:(Tryz.prog.info? 184).map (λi=>(i.zero,i.size,i.bytes))=Y (Y (.agg #[O Z 0,.pointer G]),2,16):=Q7
theorem Tryz.uVal:Tryz.prog.underlying 178=Y (.slice 184):=Q7
def qX(w:T)(fb:R)(vc:M)(pos:A)(vs vk:M):Prop:=w.heap[fb]? =Y (X #[vc,O Z pos,vs,vk] 181 (0,0))
structure Iu(w w':T)(a:R)(o:By R):Prop where
 os:w'.os=w.os
 tape:w'.tape=w.tape
 output:w'.output=w.output
 size:w.heap.size<=w'.heap.size
 blk:∀b,b<w.heap.size->¬b=a->¬o=Y b->w'.heap[b]? =w.heap[b]?
def K8(w:T)(fb:R)(vc:M)(pos:A)(vs vk:M)(n:R)(xs:I M)(num:A)(ptr:M)(x:Ending)(w':T):Prop:=∃vk',x=.returned (.tuple #[])/\qX w' fb vc pos vs vk'/\w'.ownsRow 0 184 2 vk' (n+1) (xs++[O Z num,ptr])/\(vk'.ownBlock=vk.ownBlock\/∃k,vk'.ownBlock=Y k/\w.heap.size<=k)/\Iu w w' fb vk.ownBlock
theorem EU(w:T)(fb:R)(vc:M)(pos:A)(vs vk:M)(n:R)(xs:I M)(num:A)(p:By Addr)(hF:qX w fb vc pos vs vk)(ho:w.ownsRow 0 184 2 vk n xs)(No:¬vk.ownBlock=Y fb)(hn:n<=100000):
 Calls prog 86 #[.pointer (Y (Q fb 0 G)),.agg #[O Z num,.pointer p]] w (K8 w fb vc pos vs vk n xs num (.pointer p)):=by
 obtain⟨ka,kc,rfl⟩:=aR ho;have hfb:=(eJ.1 hF).1;have HF:=aJ hF;have HO:=aJ ho;have g1:=(Gr.refl w).alloc (X #[O Z num,.pointer p] 184);have Td:=aJ g1;have S9:=jZ w (X #[O Z num,.pointer p] 184);have KS:U (∀w',Gr _ w'->H w' ⟨_,3,_⟩=Y (J _ n _)/\H w' ⟨_,0,_⟩=Y (.int _ _)/\H w' ⟨_,1,_⟩=Y (.pointer p)):=aJ (λw' g=>by
  have e0:=((g1.trans g).block _ hfb Q6).trans hF;have e1:=(g.block _ Q6 Q6).trans S9;exact⟨RR,RP,RP⟩)
 go_enter func86,ntmps86
 go_upto_region 1 with fail
 generalize aE:w.alloc _=W1 at KS Td |-;have UK:U (W1.heap.size=w.heap.size+1):=aJ (by rw[<-aE];simp);refine eD 10 (S:=(λw'=>H w' _=Y _/\H w' _=Y _/\H w' _=Y _)) Q7 (KS _ Gy) λhH=>?_;refine tZ 0 ?_;refine tZ 1 ?_;refine tZ 2 ?_;refine tZ 3 ?_;refine tZ 4 ?_;refine tZ 5 ?_;refine eh (i:=6) rfl Q7 λK hK=>?_;refine aW bZ ?_;have HK:=aJ hK;go_simp
 refine HK _ _ (λ_=>KS _ ((Gy).alloc _)) λhH=>?_;replace hH:=hH Q9;try simp only[Act.put,sA,s0,s1]
 obtain⟨v6,w6,aA,al,d,ak⟩:=fG (ty:=178) _ _ _ Tryz.infVal Tryz.uVal rfl Q9 Q9 (eO HO (Td.trans ((Gy).alloc _))) (jE _ #[O Z num,.pointer p] 184 1) rfl (by intro q hq;simp at hq;rcases hq with rfl|rfl<;>rfl) Q5 Lz
 obtain⟨av,az,rfl⟩:=aR al;have gA:=Td.trans ((Gy).alloc (X #[O Z num,.pointer p] 184));have ai:∀b,b<w.heap.size->¬(J _ n _).ownBlock=Y b->w6.heap[b]? =w.heap[b]? :=λb hb h2=>(d.block b (tu hb gA.size) λe=>h2 e.symm).trans (gA.block b hb Q6)
 have ad:=(ai _ hfb No).trans HF;have ay:H w6 (Q fb 3 G)=Y (J ka n kc):=by rw[aP ad];rfl
 have aH:w6.frozen? ⟨_,3,_⟩=AS:=aq ad;have aD:=aJ ai;have aF:=aJ ad;have aG:=aJ al;have aC:=aJ ak;have ae:=aJ (And.intro (d.os.trans gA.os) (And.intro (d.tape.trans gA.tape) (d.output.trans gA.output)));have ax:=aJ d.size;have F:U ((W1.drew.alloc (X #[O Z num,.pointer p] 184)).heap.size=W1.heap.size+1):=aJ (by show(W1.heap.push _).size=_;simp);have aB:U (¬(J _ _ _).ownBlock=Y _):=aJ (λe=>by
  rcases ak with h|h
  · exact No (h.symm.trans e)
  rw[e]at h;have:=tz h;have:=F.j;have:=UK.j;omega)
 have af:U (H w6 _=Y _/\H w6 _=Y _/\H w6 _=Y _):=aJ (by
  obtain⟨s0,s1,s2⟩:=KS _ ((Gy).alloc (X #[O Z num,.pointer p] 184));have hq:¬(J _ n _).ownBlock=Y w.heap.size:=λe=>by have:=(HO.lt _ e).2;omega
  exact⟨ay,d.cell s1 λe=>hq e.symm,d.cell s2 λe=>hq e.symm⟩)
 refine eh (i:=7) rfl Q7 λK hK=>?_;refine aW bZ (KO _ _ _ _ _ rfl _ _ fZ fZ _ _ aA ?_);refine hK _ _ (λ_=>af) λhH=>?_;replace hH:=hH Q9;try simp only[Act.put,sA,s0,s1]
 refine eh (i:=8) rfl Q7 λK hK=>?_;refine aW bZ ?_;have HK:=aJ hK;go_simp
 refine HK _ _ (λ_=>af) λhH=>?_;replace hH:=hH Q9;try simp only[Act.put,sA,s0,s1]
 refine tZ 9 ?_;refine eh (i:=10) rfl Q7 λK hK=>?_;refine aW bZ ?_;have HK:=aJ hK;go_simp
 refine HK _ _ (λh=>absurd rfl h) λ_=>?_;try simp only[Act.put,sA,s0,s1]
 refine mf Q7 ?_ _;go_wp2_with fail;go_end0
 refine⟨J av (n+1) az,rfl,?_,?_,?_,⟨ae.1,ae.2.1,ae.2.2,by have:=ax.j;have:=UK.j;have:=F.j;simp;omega,λb hb h1 h2=>?_⟩⟩
 · exact(wS _ _ 3 _ _ _ aF).trans Q6
 · exact c_ aG λq hq=>dp _ _ _ _ (by show q≠fb;exact λe=>aB (e▸hq))
 · rcases aC.j with e|e
   · exact .inl e
   exact .inr ⟨_,e,by have:=F.j;have:=UK.j;omega⟩
 rw[dp _ _ _ _ (by show b≠fb;exact h1)];exact aD b hb h2
def LE(w:T)(fb:R)(vc:M)(pos:A)(vs:M)(g n cap:R)(xs:I M)(num:A)(ptr:M)(x:Ending)(w':T):Prop:=x=.returned (.agg #[O Z num,ptr])/\qX w' fb vc pos vs (J (Y (Q g 0 G)) n cap)/\w'.ownsRow 0 184 2 (J (Y (Q g 0 G)) n cap) n xs/\Iu w w' fb G
theorem Pv{p:Prop}(h:p:=by
 rcases ho.2 with⟨h,_⟩|⟨g',Un,cur,e,_,_,h,_⟩
 · cases h
 simp only[jj,Bt]at e;omega):p:=h
theorem G1(w:T)(fb:R)(vc:M)(pos:A)(vs:M)(g n cap:R)(xs:I M)(num:A)(p:By Addr)(hF:qX w fb vc pos vs (J (Y (Q g 0 G)) (n+1) cap))(ho:w.ownsRow 0 184 2 (J (Y (Q g 0 G)) (n+1) cap) (n+1) (xs++[O Z num,.pointer p]))(hx:D xs=n*2)(No:¬g=fb)(hn:n<=100000):
 Calls prog 83 #[.pointer (Y (Q fb 0 G))] w (LE w fb vc pos vs g n cap xs num (.pointer p)):=by
 have hfb:=(eJ.1 hF).1;have ax:n+1<=cap:=by
  exact Pv
 have c0:H w ⟨g,n*2,G⟩=Y (O Z num):=by rw[ho.cellAt _ Q5,Ag Q5,hx,Lf];rfl
 have c1:H w ⟨g,n*2+1,G⟩=Y (.pointer p):=by rw[ho.cellAt _ Q5,Ag Q5,hx,show n*2+1-n*2=1 by omega];rfl
 have f3:H w (Q fb 3 G)=Y (J (Y (Q g 0 G)) (n+1) cap):=by rw[aP hF];rfl
 have HF:=aJ hF;have HO:=aJ (ownsRow_pop hx ho);have az:Z.wrap (n+1-1)=n:=Qq
 have aA:Z.wrap (((n+1:R):A)-1)=n:=Qq
 have ay:Z.wrap _=n:=Q_;have aB:(n:A)<n+1:=Q5;have aC:(n:A)<=cap:=Q5;have g1:=(Gr.refl w).alloc (X #[O Z 0,.pointer G] 184);have S9:=jZ w (X #[O Z 0,.pointer G] 184);have g2:Gr _ ((w.alloc (X #[O Z 0,.pointer G] 184)).alloc (X #[O Z num,.pointer p] 184)):=(G0).alloc _;have ak:=by
  have h:=jZ (w.alloc (X #[O Z 0,.pointer G] 184)) (X #[O Z num,.pointer p] 184);have e:(w.alloc (X #[O Z 0,.pointer G] 184)).heap.size=w.heap.size+1:=Q6;rw[e]at h;exact h
 have k0:=g1.cell c0 Q6;have k1:=g1.cell c1 Q6;have k3:=g1.cell f3 Q6;have OF:=aJ (g1.trans g2);have d:=aJ ((g2.block _ Q6 Q6).trans S9);have TT:=aJ ak;have ae:=aJ (((g1.trans g2).block _ hfb Q6).trans HF);go_enter func83,ntmps83
 go_upto_region 1 with fail
 generalize av:w.alloc _=W1 at k0 k1 k3 OF d TT ae |-;have Uh:W1.heap.size=w.heap.size+1:=by rw[<-av];simp
 go_upto_region 3 with fail
 generalize W1.alloc _=F at OF d TT ae |-;have m3:H F (Q fb 3 G)=Y (J (Y (Q g 0 G)) (n+1) cap):=by rw[aP ae];rfl
 have mz:F.frozen? ⟨_,3,_⟩=AS:=aq ae;have r0:H F (Q w.heap.size 0 G)=Y (O Z 0):=by rw[aP d];rfl
 have r1:H F (Q w.heap.size 1 G)=Y (.pointer G):=by rw[aP d];rfl
 have q0:F.frozen? ⟨_,0,_⟩=AS:=aq d;have q1:F.frozen? ⟨_,1,_⟩=AS:=aq d;have v0:H F ⟨w.heap.size+1,0,G⟩=Y (O Z num):=by rw[aP TT];rfl
 have v1:H F ⟨w.heap.size+1,1,G⟩=Y (.pointer p):=by rw[aP TT];rfl
 have TH:¬fb=w.heap.size:=Q5;have ai:¬w.heap.size=fb:=Q5;go_wp2_with fail;have e0:=wS _ _ 3 _ _ (J (Y (Q g 0 G)) n cap) ae;have ad:∀b,¬b=w.heap.size->(((F.setCell _ (J (Y (Q g 0 G)) n cap)).setCell (Q w.heap.size 0 G) (O Z num)).setCell (Q w.heap.size 1 G) (.pointer p)).heap[b]? =(F.setCell (Q fb 3 G) _).heap[b]? :=λb hb=>(dp _ _ _ _ hb).trans (dp _ _ _ _ hb)
 have e1:(F.setCell (Q _ 3 G) (J (Y (Q g 0 G)) n cap)).heap[w.heap.size]? =_:=(dp _ _ _ _ ai).trans d;have e2:=wS _ _ 1 _ _ (.pointer p) (wS _ _ 0 _ _ (O Z num) e1);have t0:H (((F.setCell (Q fb 3 G) (J (Y (Q g 0 G)) n cap)).setCell (Q w.heap.size 0 G) (O Z num)).setCell (Q w.heap.size 1 G) (.pointer p)) (Q w.heap.size 0 G)=Y (O Z num):=by rw[aP e2];rfl
 have t1:H (((F.setCell (Q fb 3 G) (J (Y (Q g 0 G)) n cap)).setCell (Q w.heap.size 0 G) (O Z num)).setCell (Q w.heap.size 1 G) (.pointer p)) (Q w.heap.size 1 G)=Y (.pointer p):=by rw[aP e2];rfl
 have af:=(HO.lt g rfl).2;refine qn (v:=.agg #[O Z num,.pointer p]) (by simp[results,results83,go_sem,t0,t1]) rfl ?_;refine⟨rfl,?_,?_,⟨OF.os,OF.tape,OF.output,by have:=OF.size;simp;omega,λb hb h1 _=>?_⟩⟩
 · exact(ad _ TH).trans (e0.trans Q6)
 · refine c_ HO λq hq=>?_;have al:=by simpa[Value.ownBlock]using hq
   subst al;exact(ad g Q5).trans ((dp _ _ _ _ No).trans (OF.block g af Q6))
 exact(ad b Q5).trans ((dp _ _ _ _ h1).trans (OF.block b hb Q6))
def fk(b:Bool):A:=if b then 1 else 0
theorem qU(b:Bool)(w:T):Calls prog 137 #[.bool b] w λx w'=>x=.returned (.agg #[O Z (fk b),.pointer G])/\Gr w w':=by
 cases b
 · go_enter func137,ntmps137
   go_wp2_with fail;exact qn (v:=.agg #[.int _ 0,.pointer _]) (by simp[results,results137,go_sem]) rfl ⟨rfl,(G0).alloc _⟩
 go_enter func137,ntmps137
 go_wp2_with fail;exact qn (v:=.agg #[.int _ 1,.pointer _]) (by simp[results,results137,go_sem]) rfl ⟨rfl,(G0).alloc _⟩
def jT(op x y:A):A:=if op=6 then wrap64 (x+y) else if op=7 then wrap64 (x-y) else if op=8 then wrap64 (x*y) else if op=9 then fk (decide (x<y)) else fk (decide (x=y))
theorem kZ(n:R)(w:T)(d:n<=100000):Calls prog 135 #[O Z (n:A)] w λx w'=>x=.returned (O Z ((n:A)+1))/\w'=w:=by
 have hw:Z.wrap _=n+1:=Q_;go_enter func135,ntmps135
 exact Og
theorem NJ{p:Prop}(h:p:=by
 have UO:=aJ e2;generalize fk _=tv at HE UO |-;go_wp2_with fail;have t0:H ((w1.setCell (Q w.heap.size 0 G) (O Z tv)).setCell (Q w.heap.size 1 G) (.pointer G)) (Q w.heap.size 0 G)=Y (O Z tv):=by rw[aP UO];rfl
 have t1:H ((w1.setCell (Q w.heap.size 0 G) (O Z tv)).setCell (Q w.heap.size 1 G) (.pointer G)) (Q w.heap.size 1 G)=Y (.pointer G):=by rw[aP UO];rfl
 refine qn (v:=.agg #[O Z tv,.pointer G]) (by simp[results,results138,go_sem,t0,t1]) rfl ⟨by rw[HE],?_⟩;exact p_ (p_ Xr lj) lj):p:=h
theorem SA{p:Prop}(h:p:=by simp[results,results138,go_sem]):p:=h
theorem xA(op x y:A)(w:T):Calls prog 138 #[O Z op,O Z x,O Z y] w λr w'=>r=.returned (.agg #[O Z (jT op x y),.pointer G])/\Gr w w':=by
 by_cases h6:op=6
 · subst h6;go_enter func138,ntmps138
   go_wp2_with fail;exact qn (v:=.agg #[O Z (wrap64 (x+y)),.pointer G]) SA rfl ⟨by simp[jT],(G0).alloc _⟩
 have d6:(op==6)=AS:=by simpa using h6
 by_cases h7:op=7
 · subst h7;go_enter func138,ntmps138
   go_wp2_with fail;exact qn (v:=.agg #[O Z (wrap64 (x-y)),.pointer G]) SA rfl ⟨by simp[jT],(G0).alloc _⟩
 have d7:(op==7)=AS:=by simpa using h7
 by_cases h8:op=8
 · subst h8;go_enter func138,ntmps138
   go_wp2_with fail;exact qn (v:=.agg #[O Z (wrap64 (x*y)),.pointer G]) SA rfl ⟨by simp[jT],(G0).alloc _⟩
 have d8:(op==8)=AS:=by simpa using h8
 by_cases h9:op=9
 · subst h9;have HE:U (jT 9 x y=fk (decide (x<y))):=aJ (by simp[jT]);go_enter func138,ntmps138
   go_wp2_with fail;refine(qU _ _).mono ?_;rintro z w1 ⟨rfl,F⟩;have d:=(F.block _ Q6 Q6).trans (jZ w (X _ 184));have r0:H w1 (Q w.heap.size 0 G)=Y (O Z 0):=by rw[aP d];rfl
   have r1:H w1 (Q w.heap.size 1 G)=Y (.pointer G):=by rw[aP d];rfl
   have q0:w1.frozen? ⟨_,0,_⟩=AS:=aq d;have q1:w1.frozen? ⟨_,1,_⟩=AS:=aq d;have Xr:=aJ (((Gr.refl w).alloc _).trans F);have e2:=wS _ _ 1 _ _ (.pointer G) (wS _ _ 0 _ _ (O Z (fk (decide (x<y)))) d);exact NJ
 have d9:(op==9)=AS:=by simpa using h9
 have HE:U (jT op x y=fk (decide (x=y))):=aJ (by simp[jT,h6,h7,h8,h9]);have ad:(x==y)=decide (x=y):=by cases h:decide (x=y)<;>simp_all
 go_enter func138,ntmps138
 go_wp2_with fail;refine(qU _ _).mono ?_;rintro z w1 ⟨rfl,F⟩;have d:=(F.block _ Q6 Q6).trans (jZ w (X _ 184));have r0:H w1 (Q w.heap.size 0 G)=Y (O Z 0):=by rw[aP d];rfl
 have r1:H w1 (Q w.heap.size 1 G)=Y (.pointer G):=by rw[aP d];rfl
 have q0:w1.frozen? ⟨_,0,_⟩=AS:=aq d;have q1:w1.frozen? ⟨_,1,_⟩=AS:=aq d;have Xr:=aJ (((Gr.refl w).alloc _).trans F);have e2:=wS _ _ 1 _ _ (.pointer G) (wS _ _ 0 _ _ (O Z (fk (decide (x=y)))) d);exact NJ
structure PV where
 num:A
 blk:By R
structure eZ where
 fn:R
 pos:R
 slots:I PV
 stack:I PV
structure PM where
 top:eZ
 low:I eZ
 blks:I (I PV)
 taken:R
 told:I A
def lX:PV:=⟨0,G⟩
def dG(n:R):I PV:=List.replicate n lX
def dk:I eZ->I (I PV)
 | []=> []
 | f::l=>dk l++[f.slots,f.stack]
structure vU where
 mark:R->Bool
 all:R
 wt:I (I PV)
def ei(bs:I (I PV)):I PV->vU->vU
 | [],st=>st
 | v::vs,st=>
  match v.blk with
  | none=>ei bs vs st
  | some j=>if st.mark j then ei bs vs st else ei bs vs ⟨λk=>decide (k=j)||st.mark k,st.all+(D (bs.getD j [])+1),st.wt++[bs.getD j []]⟩
def jY(bs:I (I PV)):R->vU->vU
 | 0,st=>st
 | n+1,st=>
  match st.wt.getLast? with
  | none=>st
  | some r=>jY bs n (ei bs r ⟨st.mark,st.all,st.wt.dropLast⟩)
def cT(m:PM):R:=(jY m.blks (D m.blks+D (dk (m.top::m.low))+1) ⟨λ_=>AS,0,dk (m.top::m.low)⟩).all
inductive jP where
 | go (m:PM)
 | stop (why res:A) (m:PM)
def eZ.behind(x:eZ)(s:I PV):eZ:=⟨x.fn,x.pos+1,x.slots,s⟩
def PM.on(m:PM)(s:I PV):jP:=.go ⟨m.top.behind s,m.low,m.blks,m.taken,m.told⟩
def eW(u:aK)(heap:R)(m:PM)(i:bP):jP:=
 let x:=m.top
 let s:=x.stack
 let n:=D s
 let t:=s.getD (n-1) lX
 let o:=s.take (n-1)
 if i.op=0 then m.on (s++[⟨u.aE.getD i.a.toNat 0,G⟩])
 else if i.op=1 then m.on (s++[⟨i.a,G⟩])
 else if i.op=2 then m.on (s++[x.slots.getD i.a.toNat lX])
 else if i.op=3 then .go ⟨⟨x.fn,x.pos+1,x.slots.set i.a.toNat t,o⟩,m.low,m.blks,m.taken,m.told⟩
 else if i.op=4 then m.on o
 else if i.op=5 then m.on (s++[t])
 else if i.op=11 then .go ⟨⟨x.fn,i.a.toNat,x.slots,s⟩,m.low,m.blks,m.taken,m.told⟩
 else if i.op=12 then (if t.num=0 then .go ⟨⟨x.fn,i.a.toNat,x.slots,o⟩,m.low,m.blks,m.taken,m.told⟩ else m.on o)
 else if i.op=13 then
  (if D m.low=99 then .stop 9 0 m
  else match u.aG[i.a.toNat]? with
   | none=>.stop 0 0 m
   | some g=>.go ⟨⟨i.a.toNat,0,s.drop (n-D g.aH)++dG (D g.aI),[]⟩,⟨x.fn,x.pos,x.slots,s.take (n-D g.aH)⟩::m.low,m.blks,m.taken,m.told⟩)
 else if i.op=14 then
  (match m.low with
  | []=>.stop 6 t.num m
  | y::l=>.go ⟨y.behind (y.stack++[t]),l,m.blks,m.taken,m.told⟩)
 else if i.op=15 then
  (let k:=D (u.aA.getD (i.a-1).toNat [])
   let tk:=if m.taken+(k+1)>heap then cT m else m.taken
   if tk+(k+1)<=heap then .go ⟨x.behind (s.take (n-k)++[⟨0,Y (D m.blks)⟩]),m.low,m.blks++[s.drop (n-k)],tk+(k+1),m.told⟩ else .stop 8 0 m)
 else if i.op=16 then
  (match t.blk with
  | none=>.stop 10 0 m
  | some j=>m.on (o++[(m.blks.getD j []).getD i.b.toNat lX]))
 else if i.op=17 then
  (match (s.getD (n-2) lX).blk with
  | none=>.stop 10 0 m
  | some j=>.go ⟨x.behind (s.take (n-2)),m.low,m.blks.set j ((m.blks.getD j []).set i.b.toNat t),m.taken,m.told⟩)
 else if i.op=18 then m.on (s++[lX])
 else if i.op=19 then m.on (o++[⟨fk t.blk.isNone,G⟩])
 else if i.op=20 then .go ⟨x.behind o,m.low,m.blks,m.taken,if D m.told<1000 then m.told++[t.num] else m.told⟩
 else m.on (s.take (n-2)++[⟨jT i.op (s.getD (n-2) lX).num t.num,G⟩])
def lT(u:aK)(x:eZ):By bP:=match u.aG[x.fn]? with
 | none=>G
 | some f=>f.code[x.pos]?
def cQ(u:aK)(heap:R)(m:PM):jP:=match lT u m.top with
 | none=>.stop 0 0 m
 | some i=>eW u heap m i
def wD(σ:I A)(k:A)(v:PV):Prop:=∀j,v.blk=Y j->k≠0/\σ[j]? =Y k
def gN(σ:I A)(ks:I A)(vs:I PV):Prop:=D ks=D vs/\∀(i:R) (k:A) (v:PV),ks[i]? =Y k->vs[i]? =Y v->wD σ k v
theorem wD.zero(σ:I A)(k:A):wD σ k lX:=λj h=>by cases h
theorem wD.num(σ:I A)(k n:A):wD σ k ⟨n,G⟩:=λj h=>by cases h
theorem wD.more{σ:I A}{k:A}{v:PV}(h:wD σ k v)(a:A):wD (σ++[a]) k v:=λj F=>by
 obtain⟨h1,d⟩:=h j F;exact⟨h1,by rw[ze (dm.1 d).1];exact d⟩
theorem gN.more{σ:I A}{ks:I A}{vs:I PV}(h:gN σ ks vs)(a:A):gN (σ++[a]) ks vs:=⟨h.1,λi k v F d=>(h.2 i k v F d).more a⟩
theorem gN.nil(σ:I A):gN σ [] []:=⟨rfl,λi k v h=>by simp at h⟩
theorem gN.app{F:I A}{vs d:I PV}(h:gN σ ks vs)(h':gN σ F d):gN σ (ks++F) (vs++d):=by
 refine⟨by simp[h.1,h'.1],λi k v h1 h2=>?_⟩;by_cases hi:i<D ks
 · rw[ze hi]at h1;rw[ze (h.1▸hi)]at h2;exact h.2 i k v h1 h2
 rw[Ag Q5]at h1;rw[Ag (by rw[<-h.1];omega),<-h.1]at h2;exact h'.2 _ k v h1 h2
theorem gN.one{v:PV}(h:wD σ k v):gN σ [k] [v]:=⟨rfl,λi k' v' d F=>by
 cases i with
 | zero=>simp at d F;subst d F;exact h
 | succ i=>simp at d⟩
theorem gN.push{vs:I PV}{v:PV}(h:gN σ ks vs)(hv:wD σ k v):gN σ (ks++[k]) (vs++[v]):=h.app (.one hv)
theorem gN.take{vs:I PV}(h:gN σ ks vs)(n:R):gN σ (ks.take n) (vs.take n):=by
 refine⟨by simp[h.1],λi k v d F=>?_⟩;rw[Lh]at d F;by_cases hi:i<n
 · rw[mI hi]at d F;exact h.2 i k v d F
 rw[eP hi]at d;cases d
theorem gN.drop{vs:I PV}(h:gN σ ks vs)(n:R):gN σ (ks.drop n) (vs.drop n):=by
 refine⟨by simp[h.1],λi k v F d=>?_⟩;rw[List.getElem?_drop]at F d;exact h.2 _ k v F d
theorem gN.get{vs:I PV}(h:gN σ ks vs){i:R}{k:A}(d:ks[i]? =Y k):∃v,vs[i]? =Y v/\wD σ k v:=by
 have F:=(dm.1 d).1;have:=h.1▸F
 exact⟨_,dW this,h.2 i k _ d (dW this)⟩
theorem gN.getD{vs:I PV}(h:gN σ ks vs){i:R}{k:A}(d:ks[i]? =Y k):wD σ k (vs.getD i lX):=by
 obtain⟨v,hv,F⟩:=h.get d;rw[mh,hv];exact F
theorem gN.set{vs:I PV}(h:gN σ ks vs){i:R}{k:A}(hk:ks[i]? =Y k){v:PV}(hv:wD σ k v):gN σ ks (vs.set i v):=by
 refine⟨by simp[h.1],λj k' v' F d=>?_⟩;rw[MJ]at d;by_cases e:i=j
 · subst e;rw[mI rfl]at d;split at d
   · rw[hk]at F;cases F;cases d;exact hv
   cases d
 rw[eP e]at d;exact h.2 j _ _ F d
theorem gN.zeros(σ:I A)(ks:I A):gN σ ks (dG (D ks)):=by
 refine⟨by simp[dG],λi k v F d=>?_⟩;rw[dG,Mx]at d;split at d
 · cases d;exact .zero _ k
 cases d
structure xk(u:aK)(Ts:R->R->By (I A))(σ:I A)(x:eZ):Prop where
 fn:∃f s,u.aG[x.fn]? =Y f/\Ts x.fn x.pos=Y s/\gN σ (f.aH++f.aI) x.slots/\gN σ s x.stack/\D s<=20
def tM(u:aK)(Ts:R->R->By (I A))(σ:I A)(c:R)(x:eZ):Prop:=∃f i g s,u.aG[x.fn]? =Y f/\f.code[x.pos]? =Y i/\i.op=13/\i.a.toNat=c/\u.aG[c]? =Y g/\Ts x.fn x.pos=Y s/\gN σ (f.aH++f.aI) x.slots/\gN σ (s.take (D s-D g.aH)) x.stack/\D s<=20
def AX:R->I eZ->R
 | c,[]=>c
 | _,y::l=>AX y.fn l
def nA(u:aK)(Ts:R->R->By (I A))(σ:I A):R->I eZ->Prop
 | _,[]=>True
 | c,x::l=>tM u Ts σ c x/\nA u Ts σ x.fn l
structure qg(u:aK)(Ts:R->R->By (I A))(σ:I A)(m:PM):Prop where
 top:xk u Ts σ m.top
 low:nA u Ts σ m.top.fn m.low
 main:∃f,u.aG[AX m.top.fn m.low]? =Y f/\f.result=0
 deep:D m.low<=99
 aA:D σ=D m.blks
 blks:∀(j:R) (k:A) (fs:I PV),σ[j]? =Y k->m.blks[j]? =Y fs->∃s,1<=k/\u.aA[(k-1).toNat]? =Y s/\gN σ s fs
 told:D m.told<=1000
theorem tM.more{u:aK}{Ts:R->R->By (I A)}{σ:I A}{c:R}{x:eZ}(h:tM u Ts σ c x)(a:A):tM u Ts (σ++[a]) c x:=by
 obtain⟨f,i,g,s,h1,h2,h3,F,h5,h6,h7,h8,d⟩:=h;exact⟨f,i,g,s,h1,h2,h3,F,h5,h6,h7.more a,h8.more a,d⟩
theorem nA.more{u:aK}{Ts:R->R->By (I A)}{σ:I A}(a:A):∀{l:I eZ} {c:R},nA u Ts σ c l->nA u Ts (σ++[a]) c l
 | [],_,_=>trivial
 | _::_,_,h=>⟨h.1.more a,nA.more a h.2⟩
end Go.Proofs.YtghjmnlapcpbiaaGreatDoor
