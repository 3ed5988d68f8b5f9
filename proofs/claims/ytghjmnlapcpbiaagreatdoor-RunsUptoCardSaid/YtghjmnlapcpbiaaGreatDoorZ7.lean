import Derived.Test.YtghjmnlapcpbiaaGreatDoorDf
namespace Go.Proofs.YtghjmnlapcpbiaaGreatDoor
open _root_ renaming Option.some->Y,Option.none->G,Go.Value.int->O,Go.IntKind.i64->Z,Go.Value.slice->J,List->I,Nat->R,Int->A,Go.World.cell?->H,List.length->D,Go.Obj.cells->X,Go.Value->M,Go.World->T,Go.Addr.mk->Q,Go.RowKit.Hid->U,UInt8->AI,Bool.false->AS,Bool.true->AT,Option->By
open Go.Proofs.Tryz
set_option maxRecDepth 100000
set_option maxHeartbeats 4000000
set_option linter.unusedVariables false
set_option linter.unusedSimpArgs false
open Go.RowKit
attribute [local go_sem ↓] Go.wp_at_zero Go.wp_at_succ
variable{ia ib y z:A}{s sl:I A}{b g h k o:R}{x0 x1 y0 y1:M}{w1 w2:T}{u:aK}{i:bP}
section
variable {C:oN} {w w':T} {ρ:R->BR} {L:I RF} {B:I RK} {x:RX} {vF vB vT:M}
theorem DW.frCell(h:DW C w ρ L B x vF vB vT){i:R}{e:RF}(hi:L[i]? =Y e):∃g c,vF=J (Y (Q g 0 G)) (D L) c/\(∀q,q<4->H w ⟨g,i*4+q,G⟩=(zW e)[q]?)/\C.mb<g:=by
 have Ug:=(dm.1 hi).1;obtain⟨g,h1,h2,⟨c,h3⟩,_⟩:=iE h.fr.1 (j:=i*4) Q5;refine⟨g,c,h3,λq hq=>?_,Q5⟩;obtain⟨g',F,_,_,d⟩:=iE h.fr.1 (j:=i*4+q) Q5;rw[h1]at F;obtain rfl:=tz F;rw[Aq]at d;rw[d];exact nz pV hi hq
theorem DW.bkCell(h:DW C w ρ L B x vF vB vT){j:R}{b:RK}(F:B[j]? =Y b):∃g c,vB=J (Y (Q g 0 G)) (D B) c/\H w (Q g j G)=Y b.v:=by
 have ad:=(dm.1 F).1;obtain⟨g,h1,h2,⟨c,h3⟩,d⟩:=iE h.bk.1 (j:=j) Q5;rw[Aq]at d;exact⟨g,c,h3,by rw[d,Ha,F];rfl⟩
theorem DW.cells(h:DW C w ρ L B x vF vB vT):H w (Q C.mb 5 G)=Y vF/\H w (Q C.mb 6 G)=Y vB/\H w (Q C.mb 2 G)=Y C.v3:=by
 refine⟨?_,?_,?_⟩<;>rw[aN h.box]<;>rfl
end
def uL:M->R
 | J _ n _=>n
 | _=>0
theorem qM{α:Type}:∀(l:I α),l=[]\/∃a x,l=a++[x]
 | []=>.inl rfl
 | x::l=>.inr (by
  rcases qM l with rfl|⟨a,y,rfl⟩
  · exact⟨[],x,rfl⟩
  exact⟨x::a,y,rfl⟩)
def Kq(L:I RF)(B:I RK)(w:T)(y:Ending)(w':T):Prop:=∃ms,RO (B.map (·.fs)) (cr L) [] ms/\y=.returned (O Z (gK (B.map (·.fs)) ms:R))/\Gr w w'
theorem Do{B:I RK}{j:R}{b:RK}(h:B[j]? =Y b):(B.map (·.fs)).getD j []=b.fs:=by
 rw[mh,Ha,h];rfl
theorem N7{p:Prop}(h:p:=by
 go_wp2_with fail;go_roundw
 case rel=>exact⟨_,_,_,_,_,rfl,rfl,HA,Xz,HS,Q5⟩
 case measure=>simp[intOf,uL]):p:=h
theorem yv{C:oN}{w:T}{ρ:R->BR}{L:I RF}{B:I RK}{x:RX}{vF vB vT:M}{σ:I A}(h:DW C w ρ L B x vF vB vT)(hL:∀e∈L,gN σ e.ks e.slots/\gN σ e.kt e.stack)(hB:∀b∈B,gN σ b.ks b.fs)(hσ:D σ=D B)(c6:D (cr L)<=10000)(ed:D B<=1000000)(ds:D L<=1000)
 (aI:I R) (m1:∀i,cZ (cr L) i->i∈aI) (m2:∀j∈aI,∀i,cZ ((B.map (·.fs)).getD j []) i->i∈aI) (m3:gK (B.map (·.fs)) aI<=10000):
 Calls prog 48 #[.pointer (Y (Q C.mb 0 G))] w (Kq L B w):=by
 have HD:=aJ h;have HL:=aJ hL;have cp:=aJ hB;have b5:=aJ m1;have Uj:=aJ m2;have az:=aJ m3;obtain⟨⟨aF,cF,rfl⟩,_⟩:=bD h.fr.1;obtain⟨⟨aB,cB,rfl⟩,_⟩:=bD h.bk.1;have a7:Z.wrap _=D B+1:=Q_;have bF:=λV=>pJ (n:=D B+1) (m:=D B+1) underlying209 Tryz.infBool Q9 Q5 Q6 V
 obtain⟨e5,e6,_⟩:=h.cells;have bj:U (xH w _ (D B) [] [] [] (w.alloc (X (madeCells (Value.bool AS).cells ((D B+1)*1)) 4)) _):=aJ
  ⟨(Gr.refl w).alloc _,lj,⟨_,jZ w _,by rw[Lv];omega,λj hj=>by rw[pT Q9 Q5];show(#[Value.bool AS]:Array M)[(j+1)%1]? =_;rw[Nat.mod_one];rfl⟩,B5 _ _ _ _⟩
 generalize madeCells _ _=S8 at bF bj;clear h hL hB m1 m2 m3;go_enter func48,ntmps48
 go_wp2;clear bF a7 e5 e6;go_loopw[4,5] (λvo iv wr=>∃(k:R) (c:R) (a:By Addr),k<=D L/\iv=O Z (k:A)/\vo=J a (D (cr (L.take k))) c/\xH w w.heap.size (D B) [] (nP (L.take k)) (cr (L.take k)) wr (J a (D (cr (L.take k))) c)) λ_ iv _=>D L-(intOf iv).toNat
 case atStart=>exact⟨0,0,_,Lz,rfl,rfl,bj⟩
 obtain⟨k,c,a,hk,rfl,rfl,hr⟩:=hrel;have hd:=HD.gr hr.gr;obtain⟨e5,e6,_⟩:=hd.cells;by_cases IN:k<D L
 · obtain⟨e,he⟩:=aU IN;obtain⟨g,c4,bC,a0,_⟩:=hd.frCell he;simp only[jj,Bt]at bC;obtain⟨rfl,rfl⟩:=bC;have f2:H wr _=Y _:=a0 2 Q9;have f3:H wr _=Y _:=a0 3 Q9;have F:=hd.fs k e he;obtain⟨TW,TN⟩:=HL e (dL he);obtain⟨ad,aA⟩:=AU he;have hlen:D (cr (L.take k))+D e.slots+D e.stack<=10000:=by
    have h1:D (cr (L.take (k+1)))<=D (cr L):=by
     have h2:cr L=cr (L.take (k+1))++cr (L.drop (k+1)):=by unfold cr;rw[<-Ka,KV]
     rw[h2,fe];omega
    rw[ad]at h1;simp only[fe]at h1;omega
   have aL:D (nP _)=D (cr (L.take k)):=(gN.flat λf hf=>HL f (List.mem_of_mem_take hf)).1;obtain⟨a1,c1,w1,al,ai,S9⟩:=hr.app aL F.ls (pz F.sl.1) Q5;have TH:=HD.gr ai.gr;have aC:=TH.fs k e he;obtain⟨a2,c2,w2,T2,a6,b'⟩:=ai.app (by simp[aL,F.ls]) F.lt (pz aC.st.1) (by simp only[fe];omega);rw[<-ad,<-aA]at a6;have cj:=aJ a6;rw[fe]at al;have d:=aJ al;have af:U ((Builtin.append_ _ _ _).run _ _=.ok (J _ (D (cr _)) _) _):=aJ (by rw[ad];rw[fe]at T2;exact T2);obtain⟨di,_,_⟩:=TH.cells;obtain⟨g',ec,aD,aE,_⟩:=TH.frCell he;simp only[jj,qN,Ij,I7,Bt]at aD;obtain⟨rfl,rfl⟩:=aD;have f31:H w1 _=Y _:=aE 3 Q9;obtain⟨⟨sa,sc,bp⟩,_⟩:=bD F.sl.1;obtain⟨⟨ka,kc,b2⟩,_⟩:=bD F.st.1;rw[bp]at f2 d;rw[b2]at f3 f31 af;have UB:(k:A)<D L:=Q5;have cv:(0:A)<=k:=Q5;clear hr hd F TW TN ad aA hlen aL al ai S9 TH aC T2 a6 b' a0 aE bp b2 he;go_upto_region 7 with(at_builtin;refine CH _ rfl _ _ _ _ rfl _ _ rfl rfl _ _ d.j ?_)
   clear e5 e6 f2 f3;go_wp2_with(at_builtin;refine CH _ rfl _ _ _ _ rfl _ _ rfl rfl _ _ af.j ?_)
   go_roundw
   case rel=>exact⟨_,_,_,Q5,QZ,rfl,cj⟩
   case measure=>exact Qh
 · have cn:k=D L:=by omega
   subst cn;have cc:=aJ (by have:=hr;rw[J6]at this;exact this);rw[J6];have aL:=(gN.flat HL).1;have ck:=aJ (gN.flat HL);clear hr hd IN hk;go_wp2_with fail;go_loopw[4,6] (λvo nv wr=>∃(ms:I R) (ko:I A) (op:I PV) (a:By Addr) (c:R),vo=J a (D op) c/\nv=O Z ((gK (B.map (·.fs)) ms:R):A)/\xH w w.heap.size (D B) ms ko op wr (J a (D op) c)/\gN σ ko op/\RO (B.map (·.fs)) (cr L) op ms/\D op<=D (cr L)+gK (B.map (·.fs)) ms) λvo nv _=>uL vo+(gK (B.map (·.fs)) (List.range (D B))-(intOf nv).toNat)
   case atStart=>exact⟨_,_,_,_,_,rfl,rfl,cc,ck,RO.start _ _,Q5⟩
   obtain⟨ms,ko,op,a,c,rfl,rfl,hr,Vf,av,Wl⟩:=hrel;have hlen:=Vf.1;rcases qM op with rfl|⟨op,v,rfl⟩
   · have HG:=aJ hr.gr;have VA:=aJ av;clear hr Vf av Wl e5 e6;rw[show List.length ([]:I _)=0 from rfl];go_wp2_with fail;go_ret
     exact⟨_,VA,rfl,HG⟩
   rcases qM ko with rfl|⟨ko,k,rfl⟩
   · simp at hlen
   simp only[fe,MI,Nat.add_right_cancel_iff]at hlen Wl;have b4:=Vf.2 (D op) k v (by rw[<-hlen];simp) Q6;have ay:gN _ _ _:=⟨hlen,λi a b h1 h2=>Vf.2 i a b (by rw[ze (dm.1 h1).1];exact h1) (by rw[ze (dm.1 h2).1];exact h2)⟩;have cM:gK (B.map (·.fs)) ms<=10000:=by
    have:=lU (f:=Hl (B.map (·.fs))) av.nd λj hj=>(av.snd _ b5 λj hj i hi=>Uj j hj i hi).1 j hj
    have h3:=az.j;unfold gK at h3 |-;omega
   obtain⟨g,h1,_,⟨c',h3⟩,h4⟩:=iE hr.own (j:=D op*2) Q6;obtain⟨g',b7,_,_,a3⟩:=iE hr.own (j:=D op*2+1) jB;rw[h1]at b7;obtain rfl:=tz b7;simp only[jj,Bt]at h3;obtain⟨rfl,rfl⟩:=h3;obtain⟨r1,r2⟩:=nt (ks:=ko++[k]) (vs:=op++[v]) (j:=D op) (k:=k) (v:=v) (by rw[<-hlen];simp) Q6;have d0:H wr ⟨g,D op*2,G⟩=Y (O Z k):=by rw[Aq]at h4;rw[h4];exact r1
   have d1:H wr ⟨g,D op*2+1,G⟩=Y (O Z (vR k v)):=by rw[Aq]at a3;rw[a3];exact r2
   have cx:D op+1<=c:=by
    rcases hr.own.2 with⟨h5,_⟩|⟨_,_,_,h5,_,_,h6,_⟩
    · cases h5
    simp only[jj]at h5;obtain⟨_,_,rfl⟩:=h5;simpa using h6
   have b8:(D op:A)<=c:=Q5;have b9:(0:A)<=D op:=Q5;have hp:=hr.pop hlen;have HA:=aJ (hp.mv ((G0).alloc (X #[O Z k,O Z (vR k v)] 122)));have ak:=aJ (jZ wr (X #[O Z k,O Z (vR k v)] 122));have UR:Z.wrap (D op+1-1)=D op:=Qq
   have dT:(0:A)<D op+1:=Q5;have bB:(List.length (op++[v]))=D op+1:=Q6;rw[bB];have VA:=aJ av;have Xz:=aJ ay;have b6:=aJ b4;clear hr Vf av ay b4 h1 h4 a3 r1 r2 hp bB e5 e6;go_upto_region 12 with fail
   generalize WO:wr.heap.size=vb at ak |-;have a9:=aJ WO;generalize wr.alloc _=W1 at HA ak |-;clear d0 d1 WO;have S6:H W1 (Q vb 0 G)=Y (O Z k)/\H W1 (Q vb 1 G)=Y (O Z (vR k v)):=by constructor<;>(rw[aN ak.j];rfl)
   obtain⟨c0,c1⟩:=S6;cases hb:v.blk with
   | none=>
    have HS:=aJ (VA.skip λj e=>by rw[hb]at e;cases e);rcases Gw b6 hb with Vl|cu
    · subst Vl;exact N7
    rw[cu]at c1;by_cases Vl:k=0
    · subst Vl;exact N7
    have cl:(k==0)=AS:=by simp[Vl]
    exact N7
   | some j=>
    obtain⟨Vl,bg,Uc⟩:=GZ b6 hb;rw[bg]at c1;rw[hσ]at Uc;have cl:(k==0)=AS:=by simp[Vl]
    have Vy:((j:A)+1==0)=AS:=by
     have:¬(j:A)+1=0:=by omega
     simp[this]
    have dd:(0:A)<=j+1:=Q5;have dw:(j:A)+1<D B+1:=Q5;have ek:((j:A)+1).toNat=j+1:=Q5;obtain⟨cs,hs,b0,a5⟩:=HA.seen;have b3:H W1 ⟨w.heap.size,j+1,G⟩=Y (.bool (decide (j∈ms))):=by rw[aN hs];exact a5 j Uc
    have en:W1.frozen? ⟨_,j+1,_⟩=AS:=aT hs;by_cases hm:j∈ms
    · have HS:=aJ (VA.skip λi e=>by rw[hb]at e;obtain rfl:=tz e;exact hm);rw[L9 hm]at b3;clear hs b0 a5;exact N7
    rw[decide_eq_false hm]at b3;have HT:=aJ (VA.take hb hm (by simpa using Uc));obtain⟨b,ax⟩:=aU Uc;have b1:=Do ax;have HM:=aJ (HA.mark Uc);clear hs b0 a5;have No:¬vb=w.heap.size:=λe=>by
     have h1:=a9.j;have h2:=(eJ.1 ak).1;obtain⟨cs,hs,_⟩:=HA.seen;have h3:=ak.j;rw[e,hs]at h3;simp only[qN,Obj.cells.injEq]at h3;exact absurd h3.2.1 Q9
    go_upto_region 14 with fail
    have aH:U ((W1.setCell ⟨w.heap.size,j+1,G⟩ (.bool AT)).heap[vb]? =Y _):=aJ ((dp _ _ _ _ No).trans ak);generalize W1.setCell _ _=W2 at HM aH |-;have hd:=HD.gr HM.gr;obtain⟨_,e6,_⟩:=hd.cells;obtain⟨gB,dO,bL,a4⟩:=hd.bkCell ax;simp only[jj,Bt]at bL;obtain⟨rfl,rfl⟩:=bL;have aM:=hd.bs j b ax;obtain⟨⟨ba,bc,bt⟩,_⟩:=bD aM.fl.1;have e1:H W2 (Q vb 1 G)=Y (O Z (j+1)):=by rw[aN aH,<-bg];rfl
    rw[bt]at a4;have ef:Z.wrap (j+1-1)=j:=Qq
    have cz:(0:A)<=j:=Q5;have TG:(j:A)<D B:=Q5;have cy:Z.wrap _=j:=Q_;have ga:=(Gr.refl W2).alloc (X #[J G 0 0] 130);have y1:=ga.cell e1 Q6;have y2:=ga.cell a4 Q6;have y3:=ga.cell e6 Q6;clear ga;have UN:=aJ (HM.mv (Gr.drew ((G0).alloc (X #[J ba (D b.fs) bc] 130))));have bo:U ((W2.alloc _).drew.heap[W2.heap.size]? =Y _):=aJ (jZ _ (X #[J ba (D b.fs) bc] 130));have hT:=HT.j;rw[b1]at hT;have ae:gK (B.map (·.fs)) (j::ms)=D b.fs+1+gK (B.map (·.fs)) ms:=by rw[CO,b1]
    have Vs:gK (B.map (·.fs)) (j::ms)<=10000:=by
     have:=lU (f:=Hl (B.map (·.fs))) hT.nd λi hi=>(hT.snd _ b5 λj hj i hi=>Uj j hj i hi).1 i hi
     have h3:=az.j;unfold gK at h3 |-;omega
    have cf:=Gz hT.nd hT.lt;rw[JY]at cf;have ca:=aJ hT;have a8:=aJ (Xz.app (cp b (dL ax)));have TQ:D b.fs<=10000:=Q5;have ej:Z.wrap _=(gK (B.map (·.fs)) ms:A)+1:=Q_;have cL:Z.wrap _=(gK (B.map (·.fs)) ms:A)+1+D b.fs:=Q_;have a':=aM.ln;clear hT hd aM;go_region
    generalize (W2.alloc _).drew=W3 at UN bo |-;have x0:H W3 (Q W2.heap.size 0 G)=Y (J ba (D b.fs) bc):=by rw[aN bo];rfl
    have aG:=(HD.gr UN.gr).bs j b ax;obtain⟨a1,c1,w1,al,ai,S9⟩:=UN.app (vx:=J _ _ _) Xz.1 a' (by rw[<-bt];exact pz aG.fl.1) Q5;have d:=aJ al;have Va:=aJ ai;clear al ai S9 aG y1 y2 y3 e1 e6 a4;go_wp2_with(at_builtin;refine CH _ rfl _ _ _ _ rfl _ _ rfl rfl _ _ d.j ?_)
    go_roundw
    case rel=>exact⟨_,_,_,_,_,by rw[fe],by rw[ae];exact congrArg _ Q5,Va,a8,ca,by rw[fe,ae];omega⟩
    case measure=>simp only[uL,intOf,fe];omega
theorem Cd{ks:I A}{vs:I PV}{d:I A}{F:I PV}(h:D ks=D vs):(fN (ks++d) (vs++F)).drop (D vs*2)=fN d F:=by
 rw[l_ h,<-kd h,List.drop_left]
def f9(f:aQ)(q:R)(i:bP):I A:=(ch f q i).map λo=>match o with
 | none=>-1
 | some t=>(t:A)
theorem uR(w:T):aY w (J G 0 0) []:=⟨G,0,rfl,SF,λi h=>by simp at h⟩
theorem oA{w:T}(h:H w (Q b 0 G)=Y (O Z y)):aY w (J (Y (Q b 0 G)) 1 1) [y]:=
 ⟨Y (Q b 0 G),1,rfl,by simp[maxLen],λi hi=>⟨b,0,rfl,by
  obtain rfl:=by simp at hi;omega
  simpa using h⟩⟩
theorem uF{w:T}(h:H w (Q b 0 G)=Y (O Z y))(k:H w (Q b 1 G)=Y (O Z z)):aY w (J (Y (Q b 0 G)) 2 2) [y,z]:=
 ⟨Y (Q b 0 G),2,rfl,by simp[maxLen],λi hi=>⟨b,0,rfl,by
  rcases(show i=0\/i=1 by simp at hi;omega) with rfl|rfl
  · simpa using h
  simpa using k⟩⟩
def JO(w:T)(l:I A)(x:Ending)(w':T):Prop:=∃v,x=.returned v/\aY w' v l/\Gr w w'/\∀b,v.ownBlock=Y b->w.heap.size<=b
theorem QV{p:Prop}(h:p:=by first|exact((Gr.refl w).alloc _).alloc _|exact(((Gr.refl w).alloc _).alloc _).alloc _):p:=h
theorem ND{p:Prop}(h:p:=by
 go_enter func107,ntmps107
 go_wp2_with fail;go_ret
 exact⟨_,rfl,by rw[HN];exact oA Ql,QV,λb hb=>by simp[Value.ownBlock]at hb<;>omega⟩):p:=h
theorem Ob{p:Prop}(h:p:=by
 subst TM;have HN:U (f9 f q ⟨14,ia,ib⟩=[]):=aJ (by simp[f9,ch]);go_enter func107,ntmps107
 go_wp2_with fail;go_ret
 exact⟨_,rfl,by rw[HN];exact uR _,QV,λb hb=>by simp[Value.ownBlock]at hb<;>omega⟩):p:=h
theorem Oh{p:Prop}(h:p:=by
 go_enter func107,ntmps107
 go_wp2_with fail;go_ret
 exact⟨_,rfl,by rw[HN];exact uF Ql Ql,QV,λb hb=>by simp[Value.ownBlock]at hb<;>omega⟩):p:=h
theorem P8{p:Prop}(h:p:=by subst TC;have HN:U (f9 f q ⟨11,ia,ib⟩=[ia]):=aJ (by simp[f9,ch];have:=ha (.inl rfl);omega);exact ND):p:=h
theorem FV(f:aQ)(q:R)(i:bP)(hi:f.code[q]? =Y i)(ha:i.op=11\/i.op=12->0<=i.a)(vp vl vc:M)(w:T)(hp:aY w vp f.aH)(hl:aY w vl f.aI)(hc:eC w vc f.code)(hn:D f.code<=100000):
 Calls prog 107 #[.agg #[vp,O Z f.result,vl,vc],O Z (q:A)] w (JO w (f9 f q i)):=by
 obtain⟨ap,cp,rfl⟩:=hp.shape;obtain⟨al,cl,rfl⟩:=hl.shape;have hq:=(dm.1 hi).1;obtain⟨ao,cc,rfl,hm,af⟩:=hc;obtain⟨b,off,rfl,k0,k1,k2⟩:=af q i hi;have ad:=Gr.alloc (Gr.refl w) (X #[J ap (D f.aH) cp,O Z f.result,J al (D f.aI) cl,J (Y (Q b off G)) (D f.code) cc] 74);have k0:=ad.cell k0 Q6;have k1:=ad.cell k1 Q6;have k2:=ad.cell k2 Q6;have ai:(q:A)<D f.code:=Q5;have hw:Z.wrap _=q+1:=Q_;obtain⟨op,ia,ib⟩:=i;simp only at k0 k1 k2 ha;by_cases hb:q+1=D f.code
 · have F:(q:A)+1=D f.code:=by omega
   have ae:((q:A)+1==D f.code)=AT:=by simpa using F
   have HB:U (¬q+1<D f.code):=aJ Q5;by_cases TC:op=11
   · exact P8
   by_cases TM:op=14
   · exact Ob
   by_cases d:op=12
   · subst d;have HN:U (f9 f q ⟨12,ia,ib⟩=[-1,ia]):=aJ (by simp[f9,ch,HB.j];have:=ha (.inr rfl);omega);exact Oh
   have HN:U (f9 f q ⟨op,ia,ib⟩=[-1]):=aJ (by simp[f9,ch,HB.j,TC,TM,d]);exact ND
 have F:¬(q:A)+1=D f.code:=by omega
 have ae:((q:A)+1==D f.code)=AS:=by rw[IL];exact F
 have HB:U (q+1<D f.code):=aJ Q5;by_cases TC:op=11
 · exact P8
 by_cases TM:op=14
 · exact Ob
 by_cases d:op=12
 · subst d;have HN:U (f9 f q ⟨12,ia,ib⟩=[((q:A)+1),ia]):=aJ (by simp[f9,ch,HB.j];have:=ha (.inr rfl);omega);exact Oh
 have HN:U (f9 f q ⟨op,ia,ib⟩=[((q:A)+1)]):=aJ (by simp[f9,ch,HB.j,TC,TM,d]);exact ND
theorem A1(v:M)(w:T):Calls prog 163 #[v] w λx w'=>x=.returned v/\w'=w:=by
 go_enter func163,ntmps163
 go_wp2;go_ret
 exact⟨rfl,rfl⟩
def AH(w:T)(x0 x1 x2 x3 x4 x5 x6 x7:M)(n a:A):T:=(w.alloc (X #[x0,x1,x2,x3,x4,x5,x6,x7] 169)).alloc (X #[O Z 10,O Z n,O Z a] 91)
theorem BA(w:T)(x0 x1 x2 x3 x4 x5 x6 x7:M)(n a:A):Gr w (AH w x0 x1 x2 x3 x4 x5 x6 x7 n a):=((Gr.refl w).alloc _).alloc _
theorem xV(sl:I A)(k:R)(x0 x1 x2 x3 x4 vs x6 x7:M)(n a:A)(w:T)(hR:aY w vs sl):
 Calls prog 164 #[.agg #[x0,x1,x2,x3,x4,vs,x6,x7],O Z (k:A),.agg #[O Z 10,O Z n,O Z a]] w λx w'=>x=Dr sl[k]? n a/\Gr w w':=by
 obtain⟨ao,cap,rfl,hm,hc⟩:=hR;unfold maxLen at hm;have HC:=aJ hc;by_cases hl:k<D sl
 · obtain⟨b,off,rfl,S6⟩:=HC k hl;have d:U (sl[k]? =Y (sl.getD k 0)):=aJ (by rw[mh,dW hl];rfl);generalize sl.getD k 0=y at S6 d;have hd:(k:A)<D sl:=by omega
   have F:∀w',Gr _ w'->H w' _=Y _/\H w' (Q w.heap.size 5 G)=Y (J (Y (Q b off G)) (D sl) cap):=λw' h=>⟨h.cell ((BA w x0 x1 x2 x3 x4 (J (Y (Q b off G)) (D sl) cap) x6 x7 n a).cell S6 Q6) Q6,h.cell (by simp[AH,go_sem]) Q6⟩
   unfold AH at F;go_enter func164,ntmps164
   go_wp2_with((go_at_call 53;refine(dP _ _ _ _).mono ?_;rintro e w' ⟨rfl,BY⟩);obtain⟨ad,TD⟩:=F w' BY)
   go_ret
   exact⟨by rw[d];rfl,Q0⟩
 have d:U (sl[k]? =G):=aJ (AK Q5);have hd:¬(k:A)<D sl:=by omega
 go_enter func164,ntmps164
 go_wp2_with((go_at_call 53;refine(dq _ _ _ _).mono ?_;rintro e w' ⟨rfl,BY⟩))
 exact⟨rfl,by rw[d];rfl,Q0⟩
def JI(o:By (I A))(n a:A)(W w:T)(x:Ending)(w':T):Prop:=Gr w w'/\match o with
 | none=>x=.panicked (oG 10 n a)
 | some l=>∃v,x=.returned v/\aY W v l
def fT(u:aK)(k:A):By (I A):=if 1<=k then u.aA[(k-1).toNat]? else G
theorem O5{p:Prop}(h:p:=by
 go_enter func167,ntmps167
 go_wp2_with((go_at_call 53;refine(dq _ _ _ _).mono ?_;rintro e w' ⟨rfl,BY⟩))
 exact⟨rfl,Q0,by rw[HS.j]⟩):p:=h
theorem oZ(u:aK)(k:A)(Vl:0<=k)(TW:k<=65535)(v1 x1 x2 x3 x4 x5 x6 x7:M)(n a:A)(W w:T)(hR:cS W v1 u.aA)(hW:Gr W w):
 Calls prog 167 #[.agg #[v1,x1,x2,x3,x4,x5,x6,x7],O Z k,.agg #[O Z 10,O Z n,O Z a]] w (JI (fT u k) n a W w):=by
 obtain⟨ao,cap,rfl,hm,hc⟩:=hR;unfold maxLen at hm;have HC:=aJ hc;by_cases h1:1<=k
 · obtain⟨j,rfl⟩:∃j:R,k=j+1:=⟨(k-1).toNat,Q5⟩;have TH:decide ((1:A)<=j+1)=AT:=by simp;omega
   by_cases hl:j<D u.aA
   · obtain⟨s,hs⟩:=aU hl;have HS:U (fT u _=Y s):=aJ (by unfold fT;rw[mI h1,<-hs];congr 1;omega);obtain⟨b,off,vx,rfl,S6,d⟩:=HC j s hs;obtain⟨ax,cx,rfl⟩:=d.shape;have ad:=aJ d;have F:decide (j+1<=(D u.aA:A))=AT:=by simp;omega
     have af:(j:A)<D u.aA:=Q5;have hw:Z.wrap (j+1-1)=j:=Qq
     have hk:∀w',Gr _ w'->H w' _=Y _/\H w' (Q w.heap.size 0 G)=Y (J (Y (Q b off G)) (D u.aA) cap):=λw' h=>⟨h.cell ((BA w (J (Y (Q b off G)) (D u.aA) cap) x1 x2 x3 x4 x5 x6 x7 n a).cell (hW.cell S6 Q6) Q6) Q6,h.cell (by simp[AH,go_sem]) Q6⟩
     unfold AH at hk;go_enter func167,ntmps167
     go_wp2_with((go_at_call 53;refine(dP _ _ _ _).mono ?_;rintro e w' ⟨rfl,BY⟩);obtain⟨ae,TD⟩:=hk w' BY)
     go_ret
     have hG:Gr w w':=Q0;exact⟨hG,by rw[HS];exact⟨_,rfl,ad⟩⟩
   have HS:U (fT u _=G):=aJ (by unfold fT;rw[mI h1,AK Q5]);have F:decide (j+1<=(D u.aA:A))=AS:=QL
   exact O5
 have HS:U (fT u k=G):=aJ (by unfold fT;rw[eP h1]);have TH:decide ((1:A)<=k)=AS:=QL
 exact O5
def Is(w:T)(x0 x1 x2 x3 x4 x5 x6 x7:M)(i:bP)(n a:A):T:=((w.alloc (X #[x0,x1,x2,x3,x4,x5,x6,x7] 169)).alloc (X #[O Z i.op,O Z i.a,O Z i.b] 87)).alloc (X #[O Z 10,O Z n,O Z a] 91)
theorem E'(w:T)(x0 x1 x2 x3 x4 x5 x6 x7:M)(i:bP)(n a:A):Gr w (Is w x0 x1 x2 x3 x4 x5 x6 x7 i n a):=(((Gr.refl w).alloc _).alloc _).alloc _
def lE(u:aK)(i:bP):By A:=(fT u i.a).bind λs=>s[i.b.toNat]?
theorem uz(u:aK)(i:bP)(WK:0<=i.a)(Tl:i.a<=65535)(TI:0<=i.b)(S9:i.b<=65535)(v1 x1 x2 x3 x4 x5 x6 x7:M)(n a:A)(W w:T)(hR:cS W v1 u.aA)(hW:Gr W w):
 Calls prog 168 #[.agg #[v1,x1,x2,x3,x4,x5,x6,x7],.agg #[O Z i.op,O Z i.a,O Z i.b],.agg #[O Z 10,O Z n,O Z a]] w λx w'=>x=Dr (lE u i) n a/\Gr w w':=by
 have HR:=aJ hR;obtain⟨ao,cap,rfl⟩:=hR.shape;have HF:=aJ (oZ u _ WK Tl _ x1 x2 x3 x4 x5 x6 x7 n a W _ HR (hW.trans (E' w (J ao (D u.aA) cap) x1 x2 x3 x4 x5 x6 x7 i n a)));have hk:∀w',Gr (Is w (J ao (D u.aA) cap) x1 x2 x3 x4 x5 x6 x7 i n a) w'->H w' ⟨w.heap.size+1,2,G⟩=Y (O Z i.b)/\H w' ⟨w.heap.size+2,0,G⟩=Y (O Z 10)/\H w' ⟨w.heap.size+2,1,G⟩=Y (O Z n)/\H w' ⟨w.heap.size+2,2,G⟩=Y (O Z a):=λw' h=>⟨h.cell (by simp[Is,go_sem]) Q6,h.cell (by simp[Is,go_sem]) Q6,h.cell (by simp[Is,go_sem]) Q6,h.cell (by simp[Is,go_sem]) Q6⟩
 have d:=aJ (E' w (J ao (D u.aA) cap) x1 x2 x3 x4 x5 x6 x7 i n a);have HQ:U (lE u i=(fT u _).bind λs=>s[i.b.toNat]?):=aJ rfl;generalize ai:fT u _=S at HF HQ;unfold Is at HF hk d;obtain⟨j,hj⟩:∃j:R,i.b=j:=⟨i.b.toNat,Q5⟩;rw[hj]at HQ HF hk d |-;simp only[A7]at HQ;generalize lE u i=RRq at HQ |-;cases S with
 | none=>
  go_enter func168,ntmps168
  go_wp2_with fail;refine HF.mono ?_;rintro x w1 ⟨hg,rfl⟩;exact⟨rfl,by rw[HQ];rfl,d.trans hg⟩
 | some s=>
  go_enter func168,ntmps168
  go_wp2_with fail;refine HF.mono ?_;rintro x w1 ⟨hg,v,rfl,ae⟩;obtain⟨c2,e0,e1,e2⟩:=hk _ hg;have ad:=d.trans hg;obtain⟨ax,cx,rfl,hm,hc⟩:=ae.gr (hW.trans ad);unfold maxLen at hm;have HC:=aJ hc;by_cases hl:j<D s
  · obtain⟨b,off,rfl,S6⟩:=HC j hl;have HS:U (RRq=Y (s.getD j 0)):=aJ (by rw[HQ,mh];simp[dW hl]);generalize s.getD j 0=y at S6 HS;have hd:(j:A)<D s:=by omega
    have TW:∀w',Gr _ w'->H w' _=Y _/\H w' _=Y _:=λw' h=>⟨h.cell S6 Q6,h.cell c2 Q6⟩
    have F:=aJ ad;go_wp2_with((go_at_call 53;refine(dP _ _ _ _).mono ?_;rintro e w' ⟨rfl,BY⟩);obtain⟨af,TD⟩:=TW w' BY)
    go_ret
    exact⟨by rw[HS];rfl,F.trans BY⟩
  have HS:U (RRq=G):=aJ (by rw[HQ];simp[AK (show D s<=j by omega)]);have hd:¬(j:A)<D s:=by omega
  have F:=aJ ad;go_wp2_with((go_at_call 53;refine(dq _ _ _ _).mono ?_;rintro e w' ⟨rfl,BY⟩))
  exact⟨rfl,by rw[HS];rfl,F.trans BY⟩
theorem uW{w w':T}(h:Gr w w')(n:R):Gr w (w'.drewN n):=⟨h.os,h.tape,h.output,h.size,h.block⟩
def q_(u:aK)(k:R):By (I A×A):=match u.aG[k]? with
 | some g=>Y (g.aH,g.result)
 | none=>u.aC[k-D u.aG]?.map λg=>(g.aH,g.result)
def JR(o:By (I A×A))(n a:A)(W w:T)(x:Ending)(w':T):Prop:=Gr w w'/\match o with
 | none=>x=.panicked (oG 10 n a)
 | some (l,r)=>∃v,x=.returned (.tuple #[v,O Z r])/\aY W v l
theorem pd(u:aK)(k:R)(TW:k<=65535)(x0 x1 v3 v4 x4 x5 x6 x7:M)(n a:A)(W w:T)(hF:eE W v3 u.aG)(hI:dS W v4 u.aC)(hW:Gr W w)(U9:D u.aG<=1000000)(Ug:D u.aC<=1000000):
 Calls prog 166 #[.agg #[x0,x1,v3,v4,x4,x5,x6,x7],O Z (k:A),.agg #[O Z 10,O Z n,O Z a]] w (JR (q_ u k) n a W w):=by
 obtain⟨a3,c3,rfl,aB,af⟩:=hF;obtain⟨a4,c4,rfl,aE,ai⟩:=hI;have T6:=aJ af;have Ux:=aJ ai;have d:=aJ (BA w x0 x1 (J a3 (D u.aG) c3) (J a4 (D u.aC) c4) x4 x5 x6 x7 n a);have hk:∀w',Gr (AH w x0 x1 (J a3 (D u.aG) c3) (J a4 (D u.aC) c4) x4 x5 x6 x7 n a) w'->H w' (Q w.heap.size 2 G)=Y (J a3 (D u.aG) c3)/\H w' (Q w.heap.size 3 G)=Y (J a4 (D u.aC) c4):=λw' h=>⟨h.cell (by simp[AH,go_sem]) Q6,h.cell (by simp[AH,go_sem]) Q6⟩
 have hw:Z.wrap _=D u.aG+D u.aC:=Q_;by_cases h1:k<D u.aG
 · obtain⟨f,hf⟩:=aU h1;have HS:U (q_ u k=Y _):=aJ (by unfold q_;rw[hf]);obtain⟨b,off,vp,vl,vc,rfl,f0,f1,_,_,F,_,_⟩:=T6 k f hf;have ae:=aJ F;obtain⟨ap,cp,rfl⟩:=F.shape;have hd:decide (k<D u.aG+(D u.aC:A))=AT:=by simp;omega
   have ak:decide (k<(D u.aG:A))=AT:=QL
   have az:(k:A)<D u.aG:=Q5;have TN:∀w',Gr _ w'->H w' _=Y _/\H w' _=Y _:=λw' h=>⟨h.cell (d.cell (hW.cell f0 Q6) Q6) Q6,h.cell (d.cell (hW.cell f1 Q6) Q6) Q6⟩
   unfold AH at hk TN d;go_enter func166,ntmps166
   go_wp2_with((go_at_call 53;refine(dP _ _ _ _).mono ?_;rintro e w' ⟨rfl,BY⟩);obtain⟨ay,TD⟩:=hk w' BY;obtain⟨af,ai⟩:=TN w' BY)
   go_quiet (fail)
   go_wp2_with fail;go_ret2
   exact⟨by first|exact d.j.trans BY|exact uW (d.j.trans BY) _,by rw[HS.j];exact⟨_,rfl,ae.j⟩⟩
 have ak:decide (k<(D u.aG:A))=AS:=QL
 have av:u.aG[k]? =G:=AK Q5;by_cases h2:k-D u.aG<D u.aC
 · obtain⟨j,rfl⟩:∃j,k=D u.aG+j:=⟨k-D u.aG,Q5⟩;have h3:j<D u.aC:=by omega
   obtain⟨f,hf⟩:=aU h3;have HS:U (q_ u _=Y (f.aH,f.result)):=aJ (by unfold q_;rw[av];simp only;rw[show D u.aG+j-D u.aG=j by omega,hf];rfl);obtain⟨b,off,vs,vp,rfl,f0,f1,f2,ax,F⟩:=Ux j f hf;have ae:=aJ F;obtain⟨ap,cp,rfl⟩:=F.shape;obtain⟨ns,rfl,_,_⟩:=ax;have ad:((D u.aG+j:R):A)=D u.aG+j:=Q5;have hd:decide (D u.aG+j<D u.aG+(D u.aC:A))=AT:=QL
   rw[ad]at ak |-;have aD:Z.wrap (D u.aG+j-D u.aG)=j:=Qq
   have az:(j:A)<D u.aC:=Q5;have TN:∀w',Gr _ w'->H w' _=Y _/\H w' _=Y _/\H w' _=Y _:=λw' h=>⟨h.cell (d.cell (hW.cell f0 Q6) Q6) Q6,h.cell (d.cell (hW.cell f1 Q6) Q6) Q6,h.cell (d.cell (hW.cell f2 Q6) Q6) Q6⟩
   unfold AH at hk TN d;go_enter func166,ntmps166
   go_wp2_with((go_at_call 53;refine(dP _ _ _ _).mono ?_;rintro e w' ⟨rfl,BY⟩);obtain⟨ay,TD⟩:=hk w' BY;obtain⟨af,ai,aA⟩:=TN w' BY)
   go_quiet (fail)
   go_wp2_with fail;go_ret2
   have al:=Gr.alloc (d.trans BY) (X #[.string ns,J ap (D f.aH) cp,O Z f.result] 89);exact⟨by first|exact al|exact uW al _,by rw[HS.j];exact⟨_,rfl,ae.j⟩⟩
 have HS:U (q_ u k=G):=aJ (by unfold q_;rw[av];simp only;rw[AK Q5];rfl);have hd:decide (k<D u.aG+(D u.aC:A))=AS:=QL
 unfold AH at d;go_enter func166,ntmps166
 go_wp2_with((go_at_call 53;refine(dq _ _ _ _).mono ?_;rintro e w' ⟨rfl,BY⟩))
 exact⟨rfl,d.trans BY,by rw[HS]⟩
def kR(o:By (I A×I A))(n a:A)(w:T)(x:Ending)(w':T):Prop:=Gr w w'/\match o with
 | none=>x=.panicked (oG 10 n a)
 | some (ts,ps)=>∃vt vp,x=.returned (.agg #[vt,vp])/\aY w' vt ts/\aY w' vp ps
structure Sc(W:T)(u:aK)(sl:I A)(v1 v2 v3 v4 vs:M):Prop where
 sh:cS W v1 u.aA
 co:∃ao cap,v2=J ao (D u.aE) cap
 fu:eE W v3 u.aG
 im:dS W v4 u.aC
 sl:aY W vs sl
 l2:D u.aE<=1000000
 l3:D u.aG<=1000000
 l4:D u.aC<=1000000
theorem cA{w:T}{v:M}(h:Gr w w1)(d:w.heap.size<=g):Gr w (w1.setCell (Q g o G) v):=
 ⟨h.os,h.tape,h.output,Rh,λi hi No=>by rw[dp _ _ _ _ (by show i≠g;omega)];exact h.block i hi No⟩
def put2(w:T)(g:R)(y0 y1:M):T:=(w.setCell (Q g 0 G) y0).setCell (Q g 1 G) y1
theorem eY(w:T)(g:R)(y0 y1:M):(w.setCell (Q g 0 G) y0).setCell (Q g 1 G) y1=put2 w g y0 y1:=rfl
theorem dN{w:T}(h:Gr w w1)(d:w.heap.size<=g):Gr w (put2 w1 g y0 y1):=cA (cA h d) d
theorem dt{w:T}(d:H w (Q g 0 G)=Y x0)(F:H w (Q g 1 G)=Y x1):H (put2 w g y0 y1) (Q g 0 G)=Y y0/\H (put2 w g y0 y1) (Q g 1 G)=Y y1:=by
 unfold put2;refine⟨?_,tO _ _ _ (u:=x1) ?_⟩
 · rw[Cn _ _ _ _ (by intro e;simp at e)];exact tO _ _ _ d
 rw[Cn _ _ _ _ (by intro e;simp at e)];exact F
theorem dQ{w:T}(h:¬b=g):H (put2 w g y0 y1) (Q b o G)=H w (Q b o G):=by
 unfold put2;rw[Cn _ _ _ _ (by intro e;simp only[Ij]at e;exact h e.1.symm),Cn _ _ _ _ (by intro e;simp only[Ij]at e;exact h e.1.symm)]
theorem aw(w:T):aY w (J G 0 0) []:=⟨G,0,rfl,SF,λi h=>by simp at h⟩
theorem br{w:T}(h:H w (Q b 0 G)=Y (O Z y)):aY w (J (Y (Q b 0 G)) 1 1) [y]:=
 ⟨Y (Q b 0 G),1,rfl,by simp[maxLen],λi hi=>⟨b,0,rfl,by
  obtain rfl:=by simp at hi;omega
  simpa using h⟩⟩
theorem i5{w:T}(h:H w (Q b 0 G)=Y (O Z y))(k:H w (Q b 1 G)=Y (O Z z)):aY w (J (Y (Q b 0 G)) 2 2) [y,z]:=
 ⟨Y (Q b 0 G),2,rfl,by simp[maxLen],λi hi=>⟨b,0,rfl,by
  rcases(show i=0\/i=1 by simp at hi;omega) with rfl|rfl
  · simpa using h
  simpa using k⟩⟩
def qD(w:T)(x0 x1 x2 x3 x4 x5 x6 x7:M)(op ia ib n a:A):T:=(((w.alloc (X #[x0,x1,x2,x3,x4,x5,x6,x7] 169)).alloc (X #[O Z op,O Z ia,O Z ib] 87)).alloc (X #[O Z 10,O Z n,O Z a] 91)).alloc (X #[J G 0 0,J G 0 0] 265)
structure qr(w w1:T)(x0 x1 x2 x3 x4 x5 x6 x7:M)(op ia ib n a:A):Prop where
 gr:Gr w w1
 sz:w.heap.size+4<=w1.heap.size
 s0:H w1 (Q w.heap.size 0 G)=Y x0
 s1:H w1 (Q w.heap.size 1 G)=Y x1
 s2:H w1 (Q w.heap.size 2 G)=Y x2
 s3:H w1 (Q w.heap.size 3 G)=Y x3
 s4:H w1 (Q w.heap.size 4 G)=Y x4
 s5:H w1 (Q w.heap.size 5 G)=Y x5
 s6:H w1 (Q w.heap.size 6 G)=Y x6
 s7:H w1 (Q w.heap.size 7 G)=Y x7
 i0:H w1 ⟨w.heap.size+1,0,G⟩=Y (O Z op)
 i1:H w1 ⟨w.heap.size+1,1,G⟩=Y (O Z ia)
 i2:H w1 ⟨w.heap.size+1,2,G⟩=Y (O Z ib)
 y0:H w1 ⟨w.heap.size+1+1,0,G⟩=Y (O Z 10)
 y1:H w1 ⟨w.heap.size+1+1,1,G⟩=Y (O Z n)
 y2:H w1 ⟨w.heap.size+1+1,2,G⟩=Y (O Z a)
 r0:H w1 ⟨w.heap.size+1+1+1,0,G⟩=Y (J G 0 0)
 r1:H w1 ⟨w.heap.size+1+1+1,1,G⟩=Y (J G 0 0)
 z0:w1.frozen? ⟨w.heap.size+1+1+1,0,G⟩=AS
 z1:w1.frozen? ⟨w.heap.size+1+1+1,1,G⟩=AS
theorem qr.new(w:T)(x0 x1 x2 x3 x4 x5 x6 x7:M)(op ia ib n a:A):qr w (qD w x0 x1 x2 x3 x4 x5 x6 x7 op ia ib n a) x0 x1 x2 x3 x4 x5 x6 x7 op ia ib n a:=by
 refine⟨((((Gr.refl w).alloc _).alloc _).alloc _).alloc _,by simp[qD],?_,?_,?_,?_,?_,?_,?_,?_,?_,?_,?_,?_,?_,?_,?_,?_,?_,?_⟩<;>simp[qD,go_sem]
theorem qr.go{w:T}{x2 x3 x4 x5 x6 x7:M}{op n a:A}(h:qr w w1 x0 x1 x2 x3 x4 x5 x6 x7 op ia ib n a)(g:Gr w1 w2):qr w w2 x0 x1 x2 x3 x4 x5 x6 x7 op ia ib n a:=by
 have d:∀{p:Addr} {x:M},H w1 p=Y x->w1.frozen? p=AS->w2.frozen? p=AS:=λ{p x} F hz=>(zc (g.block _ (wI _ p F) Q6)).trans hz
 exact⟨h.gr.trans g,wz h.sz g.size,g.cell h.s0 Q6,g.cell h.s1 Q6,g.cell h.s2 Q6,g.cell h.s3 Q6,g.cell h.s4 Q6,g.cell h.s5 Q6,g.cell h.s6 Q6,g.cell h.s7 Q6,g.cell h.i0 Q6,g.cell h.i1 Q6,g.cell h.i2 Q6,g.cell h.y0 Q6,g.cell h.y1 Q6,g.cell h.y2 Q6,g.cell h.r0 Q6,g.cell h.r1 Q6,d h.r0 h.z0,d h.r1 h.z1⟩
theorem cR(v:M)(w:T):Calls prog 163 #[v] w λx w'=>x=.returned v/\Gr w w':=
 (A1 v w).mono λx w' h=>⟨h.1,by rw[h.2];exact G0⟩
theorem dZ(w:T)(y:A)(t:TypeId):H (w.alloc (X #[O Z y] t)) (Q w.heap.size 0 G)=Y (O Z y):=by simp[go_sem]
theorem fA(w:T)(y z:A)(t:TypeId):H (w.alloc (X #[O Z y,O Z z] t)) (Q w.heap.size 0 G)=Y (O Z y)/\H (w.alloc (X #[O Z y,O Z z] t)) (Q w.heap.size 1 G)=Y (O Z z):=by
 constructor<;>simp[go_sem]
theorem yV(h:sl[k]? =Y y)(x0 x1 x2 x3 x4 vs x6 x7:M)(n a:A)(w:T)(d:aY w vs sl):
 Calls prog 164 #[.agg #[x0,x1,x2,x3,x4,vs,x6,x7],O Z (k:A),.agg #[O Z 10,O Z n,O Z a]] w λx w'=>x=.returned (O Z y)/\Gr w w':=by
 have:=xV _ k x0 x1 x2 x3 x4 _ x6 x7 n a w d
 rw[h]at this;exact this
theorem BP(h:sl[k]? =G)(x0 x1 x2 x3 x4 vs x6 x7:M)(n a:A)(w:T)(d:aY w vs sl):
 Calls prog 164 #[.agg #[x0,x1,x2,x3,x4,vs,x6,x7],O Z (k:A),.agg #[O Z 10,O Z n,O Z a]] w λx w'=>x=.panicked (oG 10 n a)/\Gr w w':=by
 have:=xV _ k x0 x1 x2 x3 x4 _ x6 x7 n a w d
 rw[h]at this;exact this
theorem Bp(h:s.getLast? =Y y)(v:M)(n a:A)(w:T)(d:aY w v s):
 Calls prog 165 #[v,.agg #[O Z 10,O Z n,O Z a]] w λx w'=>x=.returned (O Z y)/\Gr w w':=by
 have:=Bj s v n a w d
 rw[h]at this;exact this
theorem Fb(h:s.getLast? =G)(v:M)(n a:A)(w:T)(d:aY w v s):
 Calls prog 165 #[v,.agg #[O Z 10,O Z n,O Z a]] w λx w'=>x=.panicked (oG 10 n a)/\Gr w w':=by
 have:=Bj s v n a w d
 rw[h]at this;exact this
theorem Pw{p:Prop}(h:p:=by
 have:=uz u i WK Tl TI S9 _ x1 x2 x3 x4 x5 x6 x7 n a W w hR hW
 rw[h]at this;exact this):p:=h
theorem ui(h:lE u i=Y y)(WK:0<=i.a)(Tl:i.a<=65535)(TI:0<=i.b)(S9:i.b<=65535)(v1 x1 x2 x3 x4 x5 x6 x7:M)(n a:A)(W w:T)(hR:cS W v1 u.aA)(hW:Gr W w):
 Calls prog 168 #[.agg #[v1,x1,x2,x3,x4,x5,x6,x7],.agg #[O Z i.op,O Z i.a,O Z i.b],.agg #[O Z 10,O Z n,O Z a]] w λx w'=>x=.returned (O Z y)/\Gr w w':=by
 exact Pw
theorem xi(h:lE u i=G)(WK:0<=i.a)(Tl:i.a<=65535)(TI:0<=i.b)(S9:i.b<=65535)(v1 x1 x2 x3 x4 x5 x6 x7:M)(n a:A)(W w:T)(hR:cS W v1 u.aA)(hW:Gr W w):
 Calls prog 168 #[.agg #[v1,x1,x2,x3,x4,x5,x6,x7],.agg #[O Z i.op,O Z i.a,O Z i.b],.agg #[O Z 10,O Z n,O Z a]] w λx w'=>x=.panicked (oG 10 n a)/\Gr w w':=by
 exact Pw
theorem PJ{p:Prop}(h:p:=by
 have:=oZ u k Vl TW _ x1 x2 x3 x4 x5 x6 x7 n a W w hR hW
 rw[h]at this;exact this):p:=h
theorem bI{k:A}(h:fT u k=Y s)(Vl:0<=k)(TW:k<=65535)(v1 x1 x2 x3 x4 x5 x6 x7:M)(n a:A)(W w:T)(hR:cS W v1 u.aA)(hW:Gr W w):
 Calls prog 167 #[.agg #[v1,x1,x2,x3,x4,x5,x6,x7],O Z k,.agg #[O Z 10,O Z n,O Z a]] w λx w'=>Gr w w'/\∃v,x=.returned v/\aY W v s:=by
 exact PJ
theorem qQ{k:A}(h:fT u k=G)(Vl:0<=k)(TW:k<=65535)(v1 x1 x2 x3 x4 x5 x6 x7:M)(n a:A)(W w:T)(hR:cS W v1 u.aA)(hW:Gr W w):
 Calls prog 167 #[.agg #[v1,x1,x2,x3,x4,x5,x6,x7],O Z k,.agg #[O Z 10,O Z n,O Z a]] w λx w'=>Gr w w'/\x=.panicked (oG 10 n a):=by
 exact PJ
theorem PA{p:Prop}(h:p:=by
 have:=pd u k TW x0 x1 _ _ x4 x5 x6 x7 n a W w hF hI hW U9 Ug
 rw[h]at this;exact this):p:=h
theorem we{l:I A}{r:A}(h:q_ u k=Y (l,r))(TW:k<=65535)(x0 x1 v3 v4 x4 x5 x6 x7:M)(n a:A)(W w:T)(hF:eE W v3 u.aG)(hI:dS W v4 u.aC)(hW:Gr W w)(U9:D u.aG<=1000000)(Ug:D u.aC<=1000000):
 Calls prog 166 #[.agg #[x0,x1,v3,v4,x4,x5,x6,x7],O Z (k:A),.agg #[O Z 10,O Z n,O Z a]] w λx w'=>Gr w w'/\∃v,x=.returned (.tuple #[v,O Z r])/\aY W v l:=by
 exact PA
theorem yL(h:q_ u k=G)(TW:k<=65535)(x0 x1 v3 v4 x4 x5 x6 x7:M)(n a:A)(W w:T)(hF:eE W v3 u.aG)(hI:dS W v4 u.aC)(hW:Gr W w)(U9:D u.aG<=1000000)(Ug:D u.aC<=1000000):
 Calls prog 166 #[.agg #[x0,x1,v3,v4,x4,x5,x6,x7],O Z (k:A),.agg #[O Z 10,O Z n,O Z a]] w λx w'=>Gr w w'/\x=.panicked (oG 10 n a):=by
 exact PA
theorem du{w:T}(F:H w2 (Q h 0 G)=Y (O Z y))(d:¬h=g):aY (put2 w2 g y0 y1) (J (Y (Q h 0 G)) 1 1) [y]:=br (by rw[dQ d];exact F)
theorem ic{w:T}(F:H w2 (Q h 0 G)=Y (O Z y))(hd:H w2 (Q h 1 G)=Y (O Z z))(d:¬h=g):aY (put2 w2 g y0 y1) (J (Y (Q h 0 G)) 2 2) [y,z]:=i5 (by rw[dQ d];exact F) (by rw[dQ d];exact hd)
def uo(u:aK)(f:aQ)(k ia ib:A)(st:I A):Prop:=∀(v1 v2 v3 v4 v5 vs vst:M) (n a:A) (W w:T),Sc W u (f.aH++f.aI) v1 v2 v3 v4 vs->Gr W w->aY w vst st->D f.code<=1000000->
 Calls prog 157 #[.agg #[v1,v2,v3,v4,v5,vs,O Z (D f.code:A),O Z f.result],.agg #[O Z k,O Z ia,O Z ib],vst,.agg #[O Z 10,O Z n,O Z a]] w (kR (bq u f ⟨k,ia,ib⟩ st) n a w)
theorem pu{f:aQ}{k:A}{st:I A}(h:∀(sl:I A),U (f.aH++f.aI=sl)->∀(a1 a2 a3 F d at_:By Addr) (c1 c2 c3 c4 cs ct:R) (v5:M) (n a:A) (W w:T),D u.aE<=1000000->D f.code<=1000000->U (Sc W u sl (J a1 (D u.aA) c1) (J a2 (D u.aE) c2) (J a3 (D u.aG) c3) (J F (D u.aC) c4) (J d (D sl) cs))->U (aY w (J at_ (D st) ct) st)->U (Gr W w)->
 U (qr w (qD w (J a1 (D u.aA) c1) (J a2 (D u.aE) c2) (J a3 (D u.aG) c3) (J F (D u.aC) c4) v5 (J d (D sl) cs) (O Z (D f.code:A)) (O Z f.result) k ia ib n a) (J a1 (D u.aA) c1) (J a2 (D u.aE) c2) (J a3 (D u.aG) c3) (J F (D u.aC) c4) v5 (J d (D sl) cs) (O Z (D f.code:A)) (O Z f.result) k ia ib n a)->
 Calls prog 157 #[.agg #[J a1 (D u.aA) c1,J a2 (D u.aE) c2,J a3 (D u.aG) c3,J F (D u.aC) c4,v5,J d (D sl) cs,O Z (D f.code:A),O Z f.result],.agg #[O Z k,O Z ia,O Z ib],J at_ (D st) ct,.agg #[O Z 10,O Z n,O Z a]] w (kR (bq u f ⟨k,ia,ib⟩ st) n a w)):uo u f k ia ib st:=by
 intro v1 v2 v3 v4 v5 vs af n a W w hS hW Tj ad;generalize Tn:f.aH++f.aI=sl at hS;obtain⟨a2,c2,rfl⟩:=hS.co;obtain⟨a1,c1,rfl⟩:=hS.sh.shape;obtain⟨a3,c3,rfl⟩:=hS.fu.shape;obtain⟨F,c4,ae,_⟩:=hS.im;subst ae;obtain⟨d,cs,rfl⟩:=hS.sl.shape;obtain⟨at_,ct,rfl⟩:=Tj.shape;exact h sl Tn a1 a2 a3 F d at_ c1 c2 c3 c4 cs ct v5 n a W w hS.l2 ad hS Tj hW (qr.new ..)
theorem Np{p:Prop}(h:p:=by have hE:=HB.go BY;have T8:=hE;obtain⟨-,S7,s0,s1,s2,s3,s4,s5,s6,s7,i0,i1,i2,y0,y1,y2,r0,r1,z0,z1⟩:=T8;go_wp2_with fail;refine(cR _ _).mono ?_;rintro e w2 ⟨rfl,IT⟩;have TW:=IT.cell (dZ _ _ _) Q6;have hE:=hE.go ((G5).trans IT);have T8:=hE;obtain⟨-,S7,s0,s1,s2,s3,s4,s5,s6,s7,i0,i1,i2,y0,y1,y2,r0,r1,z0,z1⟩:=T8;go_wp2_with fail;rw[eY];obtain⟨q0,q1⟩:=dt (y0:=J G 0 0) (y1:=J (Y (Q w'.heap.size 0 G)) 1 1) hE.r0 hE.r1;exact qn (v:=.agg #[J G 0 0,J (Y (Q w'.heap.size 0 G)) 1 1]) (by simp[results,results157,go_sem,q0,q1]) rfl ⟨dN hE.gr Q5,by rw[HQ];exact⟨_,_,rfl,aw _,du (w:=w) (by simpa using TW) (by first|omega|(have:=BY.size;simp at this;omega)|(have:=IT.size;simp at this;omega)|(have h1:=BY.size;have h2:=IT.size;simp at h1 h2;omega))⟩⟩):p:=h
theorem NZ{p:Prop}(h:p:=by rintro e w' ⟨rfl,BY⟩;exact⟨rfl,HB.gr.trans BY,by rw[HQ]⟩):p:=h
theorem Qo{p:Prop}(h:p:=by obtain rfl:=Us.j;unfold bq bU;simp):p:=h
theorem JE(u:aK)(f:aQ)(d jb:R)(Tl:d<=65535)(S9:jb<=65535)(st:I A):uo u f 0 (d:A) (jb:A) st:=by
 refine pu ?_;intro sl Us a1 a2 a3 a4 al at_ c1 c2 c3 c4 cs ct v5 n a W w ad ae HS Tv Ud HB;unfold qD at HB;have Uo:U (bq u f ⟨0,d,jb⟩ st=if d<(D u.aE:A) then Y ([],[0]) else G):=aJ Qo;by_cases F:(d:A)<(D u.aE:A)
 · have HQ:U (bq u f _ _=Y _):=aJ (by rw[Uo,mI F]);have hd:decide (d<(D u.aE:A))=AT:=by simpa using F
   go_enter func157,ntmps157
   go_wp2_with fail;refine(dP _ _ _ _).mono ?_;rintro e w' ⟨rfl,BY⟩;exact Np
 have HQ:U (bq u f _ _=G):=aJ (by rw[Uo,eP F]);have hd:decide (d<(D u.aE:A))=AS:=by simpa using F
 go_enter func157,ntmps157
 go_wp2_with fail;refine(dq _ _ _ _).mono ?_;exact NZ
theorem Qi{p:Prop}(h:p:=by first|omega|(have:=BY.size;simp at this;omega)|(have:=IT.size;simp at this;omega)|(have h1:=BY.size;have h2:=IT.size;simp at h1 h2;omega)):p:=h
theorem QH{p:Prop}(h:p:=by simp[results,results157,go_sem,q0,q1]):p:=h
theorem JP(u:aK)(f:aQ)(ia ib:A)(st:I A):uo u f 1 ia ib st:=by
 refine pu ?_;intro sl Us a1 a2 a3 a4 al at_ c1 c2 c3 c4 cs ct v5 n a W w ad ae HS Tv Ud F;unfold qD at F;have Uo:U (bq u f ⟨1,ia,ib⟩ st=Y ([],[0])):=aJ Qo;have HQ:U (bq u f _ _=Y _):=aJ (by rw[Uo]);go_enter func157,ntmps157
 go_wp2_with fail;refine(cR _ _).mono ?_;rintro e w2 ⟨rfl,IT⟩;have TW:=IT.cell (dZ _ _ _) Q6;have d:=F.go ((G5).trans IT);have T8:=d;obtain⟨-,S7,s0,s1,s2,s3,s4,s5,s6,s7,i0,i1,i2,y0,y1,y2,r0,r1,z0,z1⟩:=T8;go_wp2_with fail;rw[eY];obtain⟨q0,q1⟩:=dt (y0:=J G 0 0) (y1:=J (Y ⟨w.heap.size+1+1+1+1,0,G⟩) 1 1) d.r0 d.r1;exact qn (v:=.agg #[J G 0 0,J (Y ⟨w.heap.size+1+1+1+1,0,G⟩) 1 1]) QH rfl ⟨dN d.gr Q5,by rw[HQ];exact⟨_,_,rfl,aw _,du (w:=w) (by simpa using TW) Qi⟩⟩
theorem QO{p:Prop}(h:p:=by rw[Uo,hx];rfl):p:=h
theorem P5{p:Prop}(h:p:=by
 have HX:=aJ hx;have HQ:U (bq u f _ _=G):=aJ QO;go_enter func157,ntmps157
 go_wp2_with fail;refine(BP HX _ _ _ _ _ _ _ _ _ _ _ (HS.sl.gr (Ud.trans HB.gr))).mono ?_;exact NZ):p:=h
theorem JD(u:aK)(f:aQ)(d F:R)(Tl:d<=65535)(S9:F<=65535)(st:I A):uo u f 2 (d:A) (F:A) st:=by
 refine pu ?_;intro sl Us a1 a2 a3 a4 al at_ c1 c2 c3 c4 cs ct v5 n a W w ad ae HS Tv Ud HB;unfold qD at HB;have Uo:U (bq u f ⟨2,d,F⟩ st=(sl[d]?).map λy=>([],[y])):=aJ Qo;cases hx:sl[d]? with
 | some y=>
  have HX:=aJ hx;have HQ:U (bq u f _ _=Y ([],[y])):=aJ QO;go_enter func157,ntmps157
  go_wp2_with fail;refine(yV HX _ _ _ _ _ _ _ _ _ _ _ (HS.sl.gr (Ud.trans HB.gr))).mono ?_;rintro e w' ⟨rfl,BY⟩;exact Np
 | none=>
  exact P5
theorem Nn{p:Prop}(h:p:=by rintro e w' ⟨rfl,BY⟩;have hE:=HB.go BY;have T8:=hE;obtain⟨-,S7,s0,s1,s2,s3,s4,s5,s6,s7,i0,i1,i2,y0,y1,y2,r0,r1,z0,z1⟩:=T8;go_wp2_with fail;refine(cR _ _).mono ?_;rintro e w2 ⟨rfl,IT⟩;have TW:=IT.cell (dZ _ _ _) Q6;have hE:=hE.go ((G5).trans IT);have T8:=hE;obtain⟨-,S7,s0,s1,s2,s3,s4,s5,s6,s7,i0,i1,i2,y0,y1,y2,r0,r1,z0,z1⟩:=T8;go_wp2_with fail;rw[eY];obtain⟨q0,q1⟩:=dt (y0:=J (Y (Q w'.heap.size 0 G)) 1 1) (y1:=J G 0 0) hE.r0 hE.r1;exact qn (v:=.agg #[J (Y (Q w'.heap.size 0 G)) 1 1,J G 0 0]) (by simp[results,results157,go_sem,q0,q1]) rfl ⟨dN hE.gr Q5,by rw[HQ];exact⟨_,_,rfl,du (w:=w) (by simpa using TW) (by first|omega|(have:=BY.size;simp at this;omega)|(have:=IT.size;simp at this;omega)|(have h1:=BY.size;have h2:=IT.size;simp at h1 h2;omega)),aw _⟩⟩):p:=h
theorem Ji(u:aK)(f:aQ)(d F:R)(Tl:d<=65535)(S9:F<=65535)(st:I A):uo u f 3 (d:A) (F:A) st:=by
 refine pu ?_;intro sl Us a1 a2 a3 a4 al at_ c1 c2 c3 c4 cs ct v5 n a W w ad ae HS Tv Ud HB;unfold qD at HB;have Uo:U (bq u f ⟨3,d,F⟩ st=(sl[d]?).map λy=>([y],[])):=aJ Qo;cases hx:sl[d]? with
 | some y=>
  have HX:=aJ hx;have HQ:U (bq u f _ _=Y ([y],[])):=aJ QO;go_enter func157,ntmps157
  go_wp2_with fail;refine(yV HX _ _ _ _ _ _ _ _ _ _ _ (HS.sl.gr (Ud.trans HB.gr))).mono ?_;exact Nn
 | none=>
  exact P5
theorem P6{p:Prop}(h:p:=by
 have HX:=aJ hx;have HQ:U (bq u f _ _=G):=aJ QO;go_enter func157,ntmps157
 go_wp2_with fail;refine(Fb HX _ _ _ _ (Tv.gr HB.gr)).mono ?_;exact NZ):p:=h
theorem Jn(u:aK)(f:aQ)(d F:R)(Tl:d<=65535)(S9:F<=65535)(st:I A):uo u f 4 (d:A) (F:A) st:=by
 refine pu ?_;intro sl Us a1 a2 a3 a4 al at_ c1 c2 c3 c4 cs ct v5 n a W w ad ae HS Tv Ud HB;unfold qD at HB;have Uo:U (bq u f ⟨4,d,F⟩ st=(st.getLast?).map λy=>([y],[])):=aJ Qo;cases hx:st.getLast? with
 | some y=>
  have HX:=aJ hx;have HQ:U (bq u f _ _=Y ([y],[])):=aJ QO;go_enter func157,ntmps157
  go_wp2_with fail;refine(Bp HX _ _ _ _ (Tv.gr HB.gr)).mono ?_;exact Nn
 | none=>
  exact P6
theorem Iy(u:aK)(f:aQ)(ja jb:R)(Tl:ja<=65535)(S9:jb<=65535)(st:I A):uo u f 5 (ja:A) (jb:A) st:=by
 refine pu ?_;intro sl Us a1 a2 a3 a4 al at_ c1 c2 c3 c4 cs ct v5 n a W w ae af HS Tv Ud HB;unfold qD at HB;have Uo:U (bq u f ⟨5,ja,jb⟩ st=(st.getLast?).map λy=>([y],[y,y])):=aJ Qo;cases hx:st.getLast? with
 | some y=>
  have HX:=aJ hx;have HQ:U (bq u f _ _=Y ([y],[y,y])):=aJ QO;go_enter func157,ntmps157
  go_wp2_with fail;refine(Bp HX _ _ _ _ (Tv.gr HB.gr)).mono ?_;rintro e w' ⟨rfl,BY⟩;have d:=HB.go BY;have F:=d;obtain⟨-,S7,s0,s1,s2,s3,s4,s5,s6,s7,i0,i1,i2,y0,y1,y2,r0,r1,z0,z1⟩:=F;go_wp2_with fail;refine(cR _ _).mono ?_;rintro e w2 ⟨rfl,IT⟩;have TW:=IT.cell (dZ _ _ _) Q6;have d:=d.go ((G5).trans IT);have F:=d;obtain⟨-,S7,s0,s1,s2,s3,s4,s5,s6,s7,i0,i1,i2,y0,y1,y2,r0,r1,z0,z1⟩:=F;go_wp2_with fail;refine(cR _ _).mono ?_;rintro e w3 ⟨rfl,Ta⟩;have UC:=Ta.cell ((zp _ _ G).cell TW Q6) Q6;have Wd:=Ta.cell (fA _ _ _ _).1 Q6;have ad:=Ta.cell (fA _ _ _ _).2 Q6;have d:=d.go ((G5).trans Ta);have F:=d;obtain⟨-,S7,s0,s1,s2,s3,s4,s5,s6,s7,i0,i1,i2,y0,y1,y2,r0,r1,z0,z1⟩:=F;go_wp2_with fail;rw[eY];obtain⟨q0,q1⟩:=dt (y0:=J (Y (Q w'.heap.size 0 G)) 1 1) (y1:=J (Y (Q w2.heap.size 0 G)) 2 2) d.r0 d.r1;exact qn (v:=.agg #[J (Y (Q w'.heap.size 0 G)) 1 1,J (Y (Q w2.heap.size 0 G)) 2 2]) QH rfl ⟨dN d.gr Q5,by rw[HQ];exact⟨_,_,rfl,du (w:=w) (by simpa using UC) Qi,ic (w:=w) (by simpa using Wd) (by simpa using ad) Qi⟩⟩
 | none=>
  exact P6
theorem Nh{p:Prop}(h:p:=by
 have HQ:U (bq u f _ _=Y _):=aJ (by rw[Uo]);go_enter func157,ntmps157
 go_wp2_with fail;refine(cR _ _).mono ?_;rintro e w2 ⟨rfl,IT⟩;have TW:=IT.cell (fA _ _ _ _).1 Q6;have TN:=IT.cell (fA _ _ _ _).2 Q6;have hE:=HB.go ((G5).trans IT);have T8:=hE;obtain⟨-,S7,s0,s1,s2,s3,s4,s5,s6,s7,i0,i1,i2,y0,y1,y2,r0,r1,z0,z1⟩:=T8;go_wp2_with fail;refine(cR _ _).mono ?_;rintro e w3 ⟨rfl,Ta⟩;have UC:=Ta.cell ((zp _ _ G).cell TW Q6) Q6;have Vq:=Ta.cell ((zp _ _ G).cell TN Q6) Q6;have Wd:=Ta.cell (dZ _ _ _) Q6;have hE:=hE.go ((G5).trans Ta);have T8:=hE;obtain⟨-,S7,s0,s1,s2,s3,s4,s5,s6,s7,i0,i1,i2,y0,y1,y2,r0,r1,z0,z1⟩:=T8;go_wp2_with fail;rw[eY];obtain⟨q0,q1⟩:=dt (y0:=J (Y ⟨w.heap.size+1+1+1+1,0,G⟩) 2 2) (y1:=J (Y (Q w2.heap.size 0 G)) 1 1) hE.r0 hE.r1;exact qn (v:=.agg #[J (Y ⟨w.heap.size+1+1+1+1,0,G⟩) 2 2,J (Y (Q w2.heap.size 0 G)) 1 1]) QH rfl ⟨dN hE.gr Q5,by rw[HQ];exact⟨_,_,rfl,ic (w:=w) (by simpa using UC) (by simpa using Vq) Qi,du (w:=w) (by simpa using Wd) Qi⟩⟩):p:=h
theorem JJ(u:aK)(f:aQ)(d F:R)(Tl:d<=65535)(S9:F<=65535)(st:I A):uo u f 6 (d:A) (F:A) st:=by
 refine pu ?_;intro sl Us a1 a2 a3 a4 al at_ c1 c2 c3 c4 cs ct v5 n a W w ad ae HS Tv Ud HB;unfold qD at HB;have Uo:U (bq u f ⟨6,d,F⟩ st=Y ([0,0],[0])):=aJ Qo;exact Nh
theorem Jo(u:aK)(f:aQ)(d F:R)(Tl:d<=65535)(S9:F<=65535)(st:I A):uo u f 7 (d:A) (F:A) st:=by
 refine pu ?_;intro sl Us a1 a2 a3 a4 al at_ c1 c2 c3 c4 cs ct v5 n a W w ad ae HS Tv Ud HB;unfold qD at HB;have Uo:U (bq u f ⟨7,d,F⟩ st=Y ([0,0],[0])):=aJ Qo;exact Nh
theorem JC(u:aK)(f:aQ)(d F:R)(Tl:d<=65535)(S9:F<=65535)(st:I A):uo u f 8 (d:A) (F:A) st:=by
 refine pu ?_;intro sl Us a1 a2 a3 a4 al at_ c1 c2 c3 c4 cs ct v5 n a W w ad ae HS Tv Ud HB;unfold qD at HB;have Uo:U (bq u f ⟨8,d,F⟩ st=Y ([0,0],[0])):=aJ Qo;exact Nh
theorem JF(u:aK)(f:aQ)(d F:R)(Tl:d<=65535)(S9:F<=65535)(st:I A):uo u f 9 (d:A) (F:A) st:=by
 refine pu ?_;intro sl Us a1 a2 a3 a4 al at_ c1 c2 c3 c4 cs ct v5 n a W w ad ae HS Tv Ud HB;unfold qD at HB;have Uo:U (bq u f ⟨9,d,F⟩ st=Y ([0,0],[0])):=aJ Qo;exact Nh
theorem IC(u:aK)(f:aQ)(d F:R)(Tl:d<=65535)(S9:F<=65535)(st:I A):uo u f 10 (d:A) (F:A) st:=by
 refine pu ?_;intro sl Us a1 a2 a3 a4 al at_ c1 c2 c3 c4 cs ct v5 n a W w ad ae HS Tv Ud HB;unfold qD at HB;have Uo:U (bq u f ⟨10,d,F⟩ st=Y ([0,0],[0])):=aJ Qo;exact Nh
theorem P4{p:Prop}(h:p:=by
 have HQ:U (bq u f _ _=G):=aJ (by rw[Uo,eP hc]);have hd:decide (ja<(D f.code:A))=AS:=by simpa using hc
 go_enter func157,ntmps157
 go_wp2_with fail;refine(dq _ _ _ _).mono ?_;exact NZ):p:=h
theorem IF(u:aK)(f:aQ)(ja F:R)(Tl:ja<=65535)(S9:F<=65535)(st:I A):uo u f 11 (ja:A) (F:A) st:=by
 refine pu ?_;intro sl Us a1 a2 a3 a4 al at_ c1 c2 c3 c4 cs ct v5 n a W w ad ae HS Tv Ud HB;unfold qD at HB;have Uo:U (bq u f ⟨11,ja,F⟩ st=if ja<(D f.code:A) then Y ([],[]) else G):=aJ Qo;by_cases hc:(ja:A)<(D f.code:A)
 · have HQ:U (bq u f _ _=Y _):=aJ (by rw[Uo,mI hc]);have hd:decide (ja<(D f.code:A))=AT:=by simpa using hc
   go_enter func157,ntmps157
   go_wp2_with fail;refine(dP _ _ _ _).mono ?_;rintro e w' ⟨rfl,BY⟩;have d:=HB.go BY;have T8:=d;obtain⟨-,S7,s0,s1,s2,s3,s4,s5,s6,s7,i0,i1,i2,y0,y1,y2,r0,r1,z0,z1⟩:=T8;go_wp2_with fail;rw[eY];obtain⟨q0,q1⟩:=dt (y0:=J G 0 0) (y1:=J G 0 0) d.r0 d.r1;exact qn (v:=.agg #[J G 0 0,J G 0 0]) QH rfl ⟨dN d.gr Q5,by rw[HQ];exact⟨_,_,rfl,aw _,aw _⟩⟩
 exact P4
theorem Ib(u:aK)(f:aQ)(ja d:R)(Tl:ja<=65535)(S9:d<=65535)(st:I A):uo u f 12 (ja:A) (d:A) st:=by
 refine pu ?_;intro sl Us a1 a2 a3 a4 al at_ c1 c2 c3 c4 cs ct v5 n a W w F ad HS Tv Ud HB;unfold qD at HB;have Uo:U (bq u f ⟨12,ja,d⟩ st=if ja<(D f.code:A) then Y ([0],[]) else G):=aJ Qo;by_cases hc:(ja:A)<(D f.code:A)
 · have HQ:U (bq u f _ _=Y _):=aJ (by rw[Uo,mI hc]);have hd:decide (ja<(D f.code:A))=AT:=by simpa using hc
   go_enter func157,ntmps157
   go_wp2_with fail;refine(dP _ _ _ _).mono ?_;exact Nn
 exact P4
theorem N8{p:Prop}(h:p:=by exact⟨rfl,HB.gr.trans BY,by rw[HQ]⟩):p:=h
theorem IE(u:aK)(f:aQ)(ja jb:R)(Tl:ja<=65535)(S9:jb<=65535)(st:I A):uo u f 13 (ja:A) (jb:A) st:=by
 refine pu ?_;intro sl Us a1 a2 a3 a4 al at_ c1 c2 c3 c4 cs ct v5 n a W w ae af F Tv Ud HB;unfold qD at HB;have Uo:U (bq u f ⟨13,ja,jb⟩ st=(q_ u _).map λp=>(p.1,[p.2])):=aJ (by obtain rfl:=Us.j;unfold bq bU;simp;unfold q_;cases u.aG[ja]? with|some g=>simp|none=>cases u.aC[ja-D u.aG]?<;>simp)
 cases hx:q_ u ja with
 | some p=>
  have HX:=aJ hx;have HQ:U (bq u f _ _=Y (p.1,[p.2])):=aJ QO;go_enter func157,ntmps157
  go_wp2_with fail;refine(we HX Tl _ _ _ _ _ _ _ _ _ _ W _ F.fu F.im (Ud.trans HB.gr) F.l3 F.l4).mono ?_;rintro e w' ⟨BY,v,rfl,ad⟩;obtain⟨av,cv,rfl⟩:=ad.shape;have Xi:=aJ ad;have d:=HB.go BY;have T8:=d;obtain⟨-,S7,s0,s1,s2,s3,s4,s5,s6,s7,i0,i1,i2,y0,y1,y2,r0,r1,z0,z1⟩:=T8;go_wp2_with fail;refine(cR _ _).mono ?_;rintro e w2 ⟨rfl,IT⟩;have TW:=IT.cell (dZ _ _ _) Q6;have d:=d.go ((G5).trans IT);have T8:=d;obtain⟨-,S7,s0,s1,s2,s3,s4,s5,s6,s7,i0,i1,i2,y0,y1,y2,r0,r1,z0,z1⟩:=T8;go_wp2_with fail;rw[eY];obtain⟨q0,q1⟩:=dt (y0:=J av (D p.1) cv) (y1:=J (Y (Q w'.heap.size 0 G)) 1 1) d.r0 d.r1;exact qn (v:=.agg #[J av (D p.1) cv,J (Y (Q w'.heap.size 0 G)) 1 1]) QH rfl ⟨dN d.gr Q5,by rw[HQ];exact⟨_,_,rfl,Xi.gr (Ud.trans (dN d.gr Q5)),du (w:=w) (by simpa using TW) Qi⟩⟩
 | none=>
  have HX:=aJ hx;have HQ:U (bq u f _ _=G):=aJ QO;go_enter func157,ntmps157
  go_wp2_with fail;refine(yL HX Tl _ _ _ _ _ _ _ _ _ _ W _ F.fu F.im (Ud.trans HB.gr) F.l3 F.l4).mono ?_;rintro e w' ⟨BY,rfl⟩;exact N8
theorem NA{p:Prop}(h:p:=by
 have HQ:U (bq u f _ _=Y _):=aJ (by rw[Uo]);go_enter func157,ntmps157
 go_wp2_with fail;refine(cR _ _).mono ?_;rintro e w2 ⟨rfl,IT⟩;have TW:=IT.cell (dZ _ _ _) Q6;have hE:=HB.go ((G5).trans IT);have T8:=hE;obtain⟨-,S7,s0,s1,s2,s3,s4,s5,s6,s7,i0,i1,i2,y0,y1,y2,r0,r1,z0,z1⟩:=T8;go_wp2_with fail;rw[eY];obtain⟨q0,q1⟩:=dt (y0:=J (Y ⟨w.heap.size+1+1+1+1,0,G⟩) 1 1) (y1:=J G 0 0) hE.r0 hE.r1;exact qn (v:=.agg #[J (Y ⟨w.heap.size+1+1+1+1,0,G⟩) 1 1,J G 0 0]) QH rfl ⟨dN hE.gr Q5,by rw[HQ];exact⟨_,_,rfl,du (w:=w) (by simpa using TW) Qi,aw _⟩⟩):p:=h
theorem IP(u:aK)(f:aQ)(d F:R)(Tl:d<=65535)(S9:F<=65535)(st:I A):uo u f 14 (d:A) (F:A) st:=by
 refine pu ?_;intro sl Us a1 a2 a3 a4 al at_ c1 c2 c3 c4 cs ct v5 n a W w ad ae HS Tv Ud HB;unfold qD at HB;have Uo:U (bq u f ⟨14,d,F⟩ st=Y ([f.result],[])):=aJ Qo;exact NA
theorem P2{p:Prop}(h:p:=by
 have HX:=aJ hx;have HQ:U (bq u f _ _=G):=aJ QO;go_enter func157,ntmps157
 go_wp2_with fail;refine(qQ HX Q5 Q5 _ _ _ _ _ _ _ _ _ _ W _ HS.sh (Ud.trans HB.gr)).mono ?_;rintro e w' ⟨BY,rfl⟩;exact N8):p:=h
theorem R8{p:Prop}(h:p:=by obtain rfl:=Us.j;unfold bq bU;simp[fT]):p:=h
theorem H6(u:aK)(f:aQ)(d jb:R)(Tl:d<=65535)(S9:jb<=65535)(st:I A):uo u f 18 (d:A) (jb:A) st:=by
 refine pu ?_;intro sl Us a1 a2 a3 a4 al at_ c1 c2 c3 c4 cs ct v5 n a W w ad ae HS Tv Ud HB;unfold qD at HB;have Uo:U (bq u f ⟨18,d,jb⟩ st=(fT u d).map λs=>([],[(d:A)])):=aJ R8;cases hx:fT u (d:A) with
 | some s=>
  have HX:=aJ hx;have HQ:U (bq u f _ _=Y ([],[(d:A)])):=aJ QO;go_enter func157,ntmps157
  go_wp2_with fail;refine(bI HX Q5 Q5 _ _ _ _ _ _ _ _ _ _ W _ HS.sh (Ud.trans HB.gr)).mono ?_;rintro e w' ⟨BY,v,rfl,F⟩;obtain⟨av,cv,rfl⟩:=F.shape;exact Np
 | none=>
  exact P2
theorem Ie(u:aK)(f:aQ)(F jb:R)(Tl:F<=65535)(S9:jb<=65535)(st:I A):uo u f 19 (F:A) (jb:A) st:=by
 refine pu ?_;intro sl Us a1 a2 a3 a4 al at_ c1 c2 c3 c4 cs ct v5 n a W w ae af HS Tv Ud HB;unfold qD at HB;have Uo:U (bq u f ⟨19,F,jb⟩ st=(fT u F).map λs=>([(F:A)],[0])):=aJ R8;cases hx:fT u (F:A) with
 | some s=>
  have HX:=aJ hx;have HQ:U (bq u f _ _=Y ([(F:A)],[0])):=aJ QO;go_enter func157,ntmps157
  go_wp2_with fail;refine(bI HX Q5 Q5 _ _ _ _ _ _ _ _ _ _ W _ HS.sh (Ud.trans HB.gr)).mono ?_;rintro e w' ⟨BY,v,rfl,ad⟩;obtain⟨av,cv,rfl⟩:=ad.shape;have d:=HB.go BY;have T8:=d;obtain⟨-,S7,s0,s1,s2,s3,s4,s5,s6,s7,i0,i1,i2,y0,y1,y2,r0,r1,z0,z1⟩:=T8;go_wp2_with fail;refine(cR _ _).mono ?_;rintro e w2 ⟨rfl,IT⟩;have TW:=IT.cell (dZ _ _ _) Q6;have d:=d.go ((G5).trans IT);have T8:=d;obtain⟨-,S7,s0,s1,s2,s3,s4,s5,s6,s7,i0,i1,i2,y0,y1,y2,r0,r1,z0,z1⟩:=T8;go_wp2_with fail;refine(cR _ _).mono ?_;rintro e w3 ⟨rfl,Ta⟩;have UC:=Ta.cell ((zp _ _ G).cell TW Q6) Q6;have Wd:=Ta.cell (dZ _ _ _) Q6;have d:=d.go ((G5).trans Ta);have T8:=d;obtain⟨-,S7,s0,s1,s2,s3,s4,s5,s6,s7,i0,i1,i2,y0,y1,y2,r0,r1,z0,z1⟩:=T8;go_wp2_with fail;rw[eY];obtain⟨q0,q1⟩:=dt (y0:=J (Y (Q w'.heap.size 0 G)) 1 1) (y1:=J (Y (Q w2.heap.size 0 G)) 1 1) d.r0 d.r1;exact qn (v:=.agg #[J (Y (Q w'.heap.size 0 G)) 1 1,J (Y (Q w2.heap.size 0 G)) 1 1]) QH rfl ⟨dN d.gr Q5,by rw[HQ];exact⟨_,_,rfl,du (w:=w) (by simpa using UC) Qi,du (w:=w) (by simpa using Wd) Qi⟩⟩
 | none=>
  exact P2
theorem IU(u:aK)(f:aQ)(d F:R)(Tl:d<=65535)(S9:F<=65535)(st:I A):uo u f 20 (d:A) (F:A) st:=by
 refine pu ?_;intro sl Us a1 a2 a3 a4 al at_ c1 c2 c3 c4 cs ct v5 n a W w ad ae HS Tv Ud HB;unfold qD at HB;have Uo:U (bq u f ⟨20,d,F⟩ st=Y ([0],[])):=aJ Qo;exact NA
end Go.Proofs.YtghjmnlapcpbiaaGreatDoor
