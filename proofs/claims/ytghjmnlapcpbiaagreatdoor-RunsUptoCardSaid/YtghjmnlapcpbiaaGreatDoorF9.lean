import Derived.Test.YtghjmnlapcpbiaaGreatDoorJ2
namespace Go.Proofs.YtghjmnlapcpbiaaGreatDoor
open _root_ renaming Option.some->Y,Option.none->G,Go.Value.int->O,Go.IntKind.i64->Z,Go.Value.slice->J,List->I,Nat->R,Int->A,Go.World.cell?->H,List.length->D,Go.Obj.cells->X,Go.Value->M,Go.World->T,Go.Addr.mk->Q,Go.RowKit.Hid->U,UInt8->AI,Bool.false->AS,Bool.true->AT,Option->By
open Go.Proofs.Tryz
set_option maxRecDepth 100000
set_option maxHeartbeats 8000000
set_option linter.unusedVariables false
set_option linter.unusedSimpArgs false
open Go.RowKit
attribute [local go_sem ↓] Go.wp_at_zero Go.wp_at_succ
theorem gd.gr{w w':T}{b:R}{x0 x1 x2 x3:M}(h:gd w b x0 x1 x2 x3)(g:Gr w w'):gd w' b x0 x1 x2 x3:=h.gc (cb:=b+1) g.toGc Q5
theorem OA{p:Prop}(h:p:=by
 go_enter func99,ntmps99
 go_wp2_with fail;go_ret
 refine⟨?_,rfl⟩;show Ending.returned (Value.bool _)=Ending.returned (Value.bool _)
 refine congrArg (λt=>Ending.returned _) ?_;rw[HE,KZ];simp;omega):p:=h
theorem uw(s:ByteArray)(w:T)(hs:s.size<=maxLen):
 Calls prog 99 #[.string s] w λx w'=>x=.returned (.bool (fC s.data.toList))/\w'=w:=by
 have d:D s.data.toList=s.size:=by rw[Aj];rfl
 unfold maxLen at hs;have HE:U (fC _=decide (1<=s.size/\s.size<=20)):=aJ (by unfold fC wB;rw[d,KZ];simp;omega);by_cases F:1<=s.size
 · exact OA
 exact OA
theorem lP(n:R)(m:A):wB (n:A) 0 m=decide ((n:A)<=m):=by unfold wB;rw[KZ];simp
theorem ud(n:A)(f:aQ):dA n f=((f.aH.all (iH n)&&decide ((D f.aH:A)<=6))&&((f.aI.all (iH n)&&decide ((D f.aI:A)<=10))&&(iH n f.result&&(wB (D f.code) 1 200&&f.code.all bl)))):=by
 unfold dA iG ir;rw[lP,lP];generalize f.aH.all _=a;generalize f.aI.all _=b;generalize f.code.all _=c;generalize decide ((D f.aH:A)<=6)=d;generalize decide ((D f.aI:A)<=10)=e;generalize iH n _=r;generalize wB _ 1 _=g;cases a<;>cases b<;>cases c<;>cases d<;>cases e<;>cases r<;>cases g<;>rfl
theorem Pf{p:Prop}(h:p:=by
 have hr:iH n f.result=AS:=by simp[iH,wB];omega
 go_wp2_with fail;go_ret
 exact⟨by rw[HF,hr];rfl,(Gr.refl w).alloc _⟩):p:=h
theorem PT{p:Prop}(h:p:=by
 go_wp2_with fail;go_ret
 exact⟨by rw[HF,HR,hr];rfl,(Gr.refl w).alloc _⟩):p:=h
theorem wk(f:aQ)(vp vl vc:M)(n:A)(w:T)(hp:aY w vp f.aH)(hl:aY w vl f.aI)(hc:eC w vc f.code)(hT:lR w):
 Calls prog 98 #[.agg #[vp,O Z f.result,vl,vc],O Z n] w λx w'=>x=.returned (.bool (dA n f))/\Gr w w':=by
 obtain⟨a1,c1,rfl⟩:=hp.shape;obtain⟨a2,c2,rfl⟩:=hl.shape;obtain⟨a3,c3,rfl⟩:=hc.shape;have hm:D f.code<=9223372036854775807:=by obtain⟨_,_,_,h,_⟩:=hc;unfold maxLen at h;omega
 have F:=Gr.alloc (Gr.refl w) (X #[J a1 (D f.aH) c1,O Z f.result,J a2 (D f.aI) c2,J a3 (D f.code) c3] 74);have HB:=aJ (gd.new w 74 (J a1 (D f.aH) c1) (O Z f.result) (J a2 (D f.aI) c2) (J a3 (D f.code) c3));have HP:=aJ (oE _ _ n 6 _ (hp.gr F));have HL:=aJ (oE _ _ n 10 _ (hl.gr F));have HC:=aJ hc;have aA:=aJ hT;have HG:=aJ F;have HF:=aJ (ud n f);generalize (f.aH.all _&&decide ((D f.aH:A)<=6))=P at HP HF;generalize (f.aI.all _&&decide ((D f.aI:A)<=10))=L at HL HF;go_enter func98,ntmps98
 go_wp2_with fail;refine HP.mono ?_;rintro x w1 ⟨rfl,e1⟩;subst e1;obtain⟨b0,b1,b2,b3,_⟩:=HB.j;go_wp2_with fail;refine HL.mono ?_;rintro x w1 ⟨rfl,e1⟩;subst e1;cases P
 · go_wp2_with fail;go_ret
   exact⟨R',(Gr.refl w).alloc _⟩
 cases L
 · go_wp2_with fail;go_ret
   exact⟨R',(Gr.refl w).alloc _⟩
 by_cases r0:f.result<0
 · exact Pf
 by_cases r1:n<f.result
 · exact Pf
 have HR:U (iH n f.result=AT):=aJ (by simp[iH,wB];omega);by_cases g0:D f.code<1
 · have hr:wB (D f.code) 1 200=AS:=by simp[wB];omega
   have al:D f.code=0:=Q5;exact PT
 by_cases g1:200<D f.code
 · have hr:wB (D f.code) 1 200=AS:=by simp[wB];omega
   have al:¬D f.code=0:=Q5;exact PT
 have UF:U (dA n f=f.code.all _):=aJ (by rw[HF,HR,show wB _ 1 _=AT by simp[wB];omega];rfl);have al:¬D f.code=0:=Q5;go_wp2_with fail;generalize w.alloc _=W at HB HG |-;go_loopw[7] (λi wr=>∃k:R,i=O Z k/\k<=D f.code/\(f.code.take k).all bl=AT/\Gr W wr) λi _=>D f.code-(intOf i).toNat
 case atStart=>exact⟨0,rfl,Lz,Q6,G0⟩
 obtain⟨k,rfl,hk,Tc,hg⟩:=hrel;have HA:=aJ Tc;have Um:=aJ hg;obtain⟨_,_,_,b3,_⟩:=HB.gr hg;by_cases IN:k<D f.code
 · obtain⟨a9,c9,ak,_,ax⟩:=HC.j;simp only[jj,Bt]at ak;have ai:=dW IN;obtain⟨aC,aD,rfl,av,Tx,az⟩:=ax k _ ai;obtain⟨rfl,rfl⟩:=ak;have d:=HG.trans hg;have ad:=d.cell av Q6;have ae:=d.cell Tx Q6;have af:=d.cell az Q6;have UP:=aJ ai;have HI:=aJ (G2 f.code[k] _ (aA.gr d));generalize f.code[k]=c at ad ae af UP HI;go_wp2_with fail;refine HI.mono ?_;rintro x w2 ⟨rfl,IT⟩;have OF:=aJ (Um.trans IT);cases hi:bl c
   · have VS:=aJ (bN UP hi);go_wp2_with fail;go_ret
     exact⟨by rw[UF,VS];rfl,HG.trans OF⟩
   have ay:U ((f.code.take _).all _=AT):=aJ (by rw[dV UP,HA,hi];rfl);go_wp2_with fail;exact⟨⟨_,Q6,IN,ay,OF⟩,Qh⟩
 have aB:k=D f.code:=by omega
 subst aB;have HE:=aJ (by have h:=HA.j;rwa [J6]at h);go_wp2_with fail;go_ret
 exact⟨by rw[UF,HE];rfl,HG.trans Um⟩
theorem sJ{w w':T}(h:Gr w w')(n:R):Gr w (w'.drewN n):=⟨h.os,h.tape,h.output,h.size,h.block⟩
theorem DA(va vb:M)(l:I A)(w:T)(ha:aY w va l)(hb:aY w vb l):
 Calls prog 9 #[va,vb] w λx w'=>x=.returned (.bool AT)/\Gr w w':=by
 have HA:=aJ ha;have ak:=aJ hb;obtain⟨a1,c1,rfl,hm,_⟩:=ha;obtain⟨a2,c2,rfl,_,_⟩:=hb;unfold maxLen at hm;go_enter func9,ntmps9
 go_wp2_with fail;go_loopw[5] (λi wr=>∃k:R,i=O Z k/\k<=D l/\Gr w wr) λi _=>D l-(intOf i).toNat
 case atStart=>exact⟨0,rfl,Lz,G0⟩
 obtain⟨k,rfl,hk,hg⟩:=hrel;by_cases IN:k<D l
 · obtain⟨av,ax,ad,_,ae⟩:=HA.j;obtain⟨az,ay,d,_,TD⟩:=ak.j;simp only[jj,Bt]at ad d;obtain⟨b1,o1,rfl,F⟩:=ae k IN;obtain⟨b2,o2,rfl,Tx⟩:=TD k IN;obtain⟨rfl,rfl⟩:=ad;obtain⟨rfl,rfl⟩:=d;have ai:=hg.cell F Q6;have al:=hg.cell Tx Q6;generalize l.getD k 0=x at ai al F Tx;have HG:=aJ hg;go_wp2_with fail;go_quiet (fail)
   go_wp2_with fail;exact⟨⟨_,Q6,IN,sJ HG _⟩,Qh⟩
 have af:k=D l:=by omega
 subst af;have HG:=aJ hg;exact Po
theorem zm{l m:I A}(hl:D l=D m)(h:∀j,j<D l->l.getD j 0=m.getD j 0):l=m:=by
 exact Pu
theorem iX(va vb:M)(l m:I A)(w:T)(ha:aY w va l)(hb:aY w vb m):
 Calls prog 105 #[va,vb] w λx w'=>x=.returned (.bool (decide (l=m)))/\Gr w w':=by
 have HA:=aJ ha;have ay:=aJ hb;obtain⟨a1,c1,rfl,hm,_⟩:=ha;obtain⟨a2,c2,rfl,ax,_⟩:=hb;unfold maxLen at hm ax;by_cases hlen:D l=D m
 · have No:((D l:A)!=D m)=AS:=by simp[hlen]
   have hM:=hlen.symm;have af:=aJ hlen;rw[hM]at No |-;clear hlen;have Vo:=aJ hM;clear hM;go_enter func105,ntmps105
   go_wp2_with fail;go_loopw[5] (λi wr=>∃k:R,i=O Z k/\k<=D l/\(∀j,j<k->l.getD j 0=m.getD j 0)/\Gr w wr) λi _=>D l-(intOf i).toNat
   case atStart=>exact Rt
   obtain⟨k,rfl,hk,Tc,hg⟩:=hrel;have ad:=aJ Tc;clear Tc;by_cases IN:k<D l
   · obtain⟨aC,aD,al,_,ak⟩:=HA.j;obtain⟨aB,aE,ae,_,TD⟩:=ay.j;rw[Vo]at ae TD;simp only[jj,Bt]at al ae;obtain⟨b1,o1,rfl,ai⟩:=ak k IN;obtain⟨b2,o2,rfl,Tx⟩:=TD k IN;obtain⟨rfl,rfl⟩:=al;obtain⟨rfl,rfl⟩:=ae;have av:=hg.cell ai Q6;have az:=hg.cell Tx Q6;have HX:∀x y,l.getD k 0=x->m.getD k 0=y->U (l.getD k 0=x/\m.getD k 0=y):=λx y h1 h2=>aJ ⟨h1,h2⟩
     obtain⟨x,hx⟩:∃x,l.getD k 0=x:=⟨_,rfl⟩;obtain⟨y,hy⟩:∃y,m.getD k 0=y:=⟨_,rfl⟩;have F:=HX x y hx hy;rw[hx]at av;rw[hy]at az;have HG:=aJ hg;clear ak TD ai Tx hg hx hy;by_cases d:x=y
     · have S9:(x !=y)=AS:=by simp[d]
       have Uv:U (∀j,j<k+1->l.getD j 0=m.getD j 0):=aJ (λj hj=>by
        by_cases e:j=k
        · subst e;rw[F.1,F.2,d]
        exact ad j Q5)
       clear d;go_wp2_with fail;go_quiet (fail)
       go_wp2_with fail;exact⟨⟨_,Q6,IN,Uv,sJ HG _⟩,Qh⟩
     have S9:(x !=y)=AT:=by simp[d]
     have HD:U (decide (l=m)=AS):=aJ (by
      rw[zG];intro e;subst e;exact d (F.1.symm.trans F.2))
     clear d;go_wp2_with fail;go_quiet (fail)
     go_wp2_with fail;go_ret
     exact⟨SZ,sJ HG _⟩
   have aA:k=D l:=by omega
   subst aA;have HD:U (decide (l=m)=AT):=aJ (by rw[xw];exact zm af ad);exact OY
 have No:((D l:A)!=D m)=AT:=Sa
 have HD:U (decide (l=m)=AS):=aJ Rz;clear hlen;go_enter func105,ntmps105
 exact O1
theorem rB(va vb:M)(l m:I (I A))(w:T)(ha:cS w va l)(hb:cS w vb m):
 Calls prog 103 #[va,vb] w λx w'=>x=.returned (.bool (decide (l=m)))/\Gr w w':=by
 have HA:=aJ ha;have aE:=aJ hb;obtain⟨a1,c1,rfl,hm,_⟩:=ha;obtain⟨a2,c2,rfl,aD,_⟩:=hb;unfold maxLen at hm aD;by_cases hlen:D l=D m
 · have No:((D l:A)!=D m)=AS:=by simp[hlen]
   have hM:=hlen.symm;have al:=aJ hlen;rw[hM]at No |-;clear hlen;have Vo:=aJ hM;clear hM;go_enter func103,ntmps103
   go_wp2_with fail;go_loopw[5] (λi wr=>∃k:R,i=O Z k/\k<=D l/\(∀j,j<k->l[j]? =m[j]?)/\Gr w wr) λi _=>D l-(intOf i).toNat
   case atStart=>exact Rt
   obtain⟨k,rfl,hk,Tc,hg⟩:=hrel;have ad:=aJ Tc;clear Tc;by_cases IN:k<D l
   · obtain⟨aL,aM,aC,_,aA⟩:=HA.j;obtain⟨aG,a0,ae,_,TD⟩:=aE.j;rw[Vo]at ae;simp only[jj,Bt]at aC ae;obtain⟨x,hx⟩:∃x,l[k]? =Y x:=⟨_,dW IN⟩;obtain⟨y,hy⟩:∃y,m[k]? =Y y:=⟨_,dW (by rw[Vo];exact IN)⟩;obtain⟨b1,o1,vx,rfl,az,aB⟩:=aA k x hx;obtain⟨b2,o2,vy,rfl,Tx,av⟩:=TD k y hy;obtain⟨rfl,rfl⟩:=aC;obtain⟨rfl,rfl⟩:=ae;have aH:=hg.cell az Q6;have aI:=hg.cell Tx Q6;have F:=aJ (And.intro hx hy);have af:=aJ (aB.gr hg);have ai:=aJ (av.gr hg);have HG:=aJ hg;clear aA TD az Tx hg hx hy aB av;obtain⟨ax,cx,rfl,_,_⟩:=af.j;obtain⟨ay,cy,rfl,_,_⟩:=ai.j;by_cases d:x=y
     · have HD:U (decide (x=y)=AT):=aJ (by simp[d]);have Uv:U (∀j,j<k+1->l[j]? =m[j]?):=aJ (λj hj=>by
        by_cases e:j=k
        · subst e;rw[F.1,F.2,d]
        exact ad j Q5)
       clear d;have ak:=aJ (λV g=>by
        have:=iX _ _ x y V (af.gr g) (ai.gr g)
        rwa [HD.j]at this)
       go_wp2_with fail;go_region_held3 (λw'=>H w' ⟨b1,o1+k,G⟩=Y (J ax (D x) cx)/\H w' ⟨b2,o2+k,G⟩=Y (J ay (D y) cy)) (first|go_keep|exact⟨BY.cell Q8 Q6,BY.cell Q8 Q6⟩) (first|(go_at_call 105;refine(ak.j _ (by first|exact Gr.drew G0|exact G0)).mono ?_;rintro e w' ⟨rfl,BY⟩))
       have OF:=aJ (HG.trans (Gr.trans Gy BY));clear BY;exact PY
     · have HE:U (decide (x=y)=AS):=aJ (by simp[d]);have HD:U (decide (l=m)=AS):=aJ (by
        rw[zG];intro e;subst e;have:=F.1.symm.trans F.2;cases this;exact d rfl)
       clear d;have ak:=aJ (λV g=>by
        have:=iX _ _ x y V (af.gr g) (ai.gr g)
        rwa [HE.j]at this)
       go_wp2_with fail;go_region_held3 (λw'=>H w' ⟨b1,o1+k,G⟩=Y (J ax (D x) cx)/\H w' ⟨b2,o2+k,G⟩=Y (J ay (D y) cy)) (first|go_keep|exact⟨BY.cell Q8 Q6,BY.cell Q8 Q6⟩) (first|(go_at_call 105;refine(ak.j _ (by first|exact Gr.drew G0|exact G0)).mono ?_;rintro e w' ⟨rfl,BY⟩))
       have OF:=aJ (HG.trans (Gr.trans Gy BY));clear BY;go_wp2_with fail;go_ret
       exact⟨SZ,OF⟩
   have aF:k=D l:=by omega
   subst aF;have HD:U (decide (l=m)=AT):=aJ (by
    rw[xw];apply Mq;intro j;by_cases hj:j<D l
    · exact ad j hj
    rw[AK Q5,AK (by have:=al.j;omega)])
   exact OY
 have No:((D l:A)!=D m)=AT:=Sa
 have HD:U (decide (l=m)=AS):=aJ Rz;clear hlen;go_enter func103,ntmps103
 exact O1
theorem gl(u:aK):bG u=((decide ((D u.aA:A)<=20)&&(decide ((D u.aE:A)<=50)&&(decide ((D u.aG:A)<=30)&&(decide ((D u.aC:A)<=20)&&decide ((D u.aD:A)<=20))))) &&
 (u.aA.all (dM (D u.aA))&&(u.aG.all (dA (D u.aA))&&(u.aC.all (gC (D u.aA))&&u.aD.all (fi (D u.aG)))))):=by
 unfold bG bh cm cO cG cH;rw[lP,lP,lP,lP,lP];generalize u.aA.all _=a;generalize u.aG.all _=b;generalize u.aC.all _=c;generalize u.aD.all _=d;generalize decide ((D u.aA:A)<=20)=e;generalize decide ((D u.aE:A)<=50)=f;generalize decide ((D u.aG:A)<=30)=g;generalize decide ((D u.aC:A)<=20)=h;generalize decide ((D u.aD:A)<=20)=i;cases a<;>cases b<;>cases c<;>cases d<;>cases e<;>cases f<;>cases g<;>cases h<;>cases i<;>rfl
theorem On{p:Prop}(h:p:=by
 go_wp2_with fail;go_ret
 exact⟨by rw[HK.j,UA.j,UO.j,VS.j];rfl,HG.j.trans WX.j⟩):p:=h
theorem Oo{p:Prop}(h:p:=by
 have VS:U (u.aD.all (fi (D u.aG))=AS):=aJ (bN UP.j (by rw[VG.j,show wB x.func 0 ((D u.aG:A)-1)=AS by simp[wB];omega];rfl));go_wp2_with fail;go_ret
 exact⟨by rw[HK.j,UA.j,UO.j,UY.j,VS.j];rfl,HG.j.trans WX.j⟩):p:=h
theorem PX{p:Prop}(h:p:=by
 go_wp2_with fail;go_ret
 exact⟨by rw[HK.j,VS.j];rfl,HG.j.trans Um.j⟩):p:=h
theorem P7{p:Prop}(h:p:=by have VS:U (u.aC.all (gC (D u.aA))=AS):=aJ (bN UP.j (by rw[VG.j,show iH (D u.aA:A) x.result=AS by simp[iH,wB];omega];rfl));exact On):p:=h
theorem P9{p:Prop}(h:p:=by
 go_enter func40,ntmps40
 exact Oc):p:=h
theorem Qb{p:Prop}(h:p:=by have VS:U (u.aC.all (gC (D u.aA))=AS):=aJ (bN UP.j (by rw[VG.j];rfl));exact On):p:=h
theorem SJ{p:Prop}(h:p:=by exact⟨0,rfl,Lz,Q6,Um.j⟩):p:=h
theorem qT(u:aK)(v:M)(w:T)(hR:bV w v u)(hT:lR w):
 Calls prog 40 #[v] w λx w'=>x=.returned (.bool (bG u))/\Gr w w':=by
 obtain⟨v1,v2,v3,v4,v5,rfl,h1,h2,h3,h4,h5⟩:=hR;obtain⟨a1,c1,rfl⟩:=h1.shape;obtain⟨a2,c2,rfl⟩:=h2.shape;obtain⟨a3,c3,rfl⟩:=h3.shape;obtain⟨a4,c4,rfl⟩:=h4.shape;obtain⟨a5,c5,rfl⟩:=h5.shape;have m1:D u.aA<=9223372036854775807:=by obtain⟨_,_,_,h,_⟩:=h1;unfold maxLen at h;omega
 have m2:D u.aE<=9223372036854775807:=by obtain⟨_,_,_,h,_⟩:=h2;unfold maxLen at h;omega
 have m3:D u.aG<=9223372036854775807:=by obtain⟨_,_,_,h,_⟩:=h3;unfold maxLen at h;omega
 have m4:D u.aC<=9223372036854775807:=by obtain⟨_,_,_,h,_⟩:=h4;unfold maxLen at h;omega
 have m5:D u.aD<=9223372036854775807:=by obtain⟨_,_,_,h,_⟩:=h5;unfold maxLen at h;omega
 have HG:=aJ (Gr.alloc (Gr.refl w) (X (yE u a1 c1 a2 c2 a3 c3 a4 c4 a5 c5) 58));have HB:=aJ (da.new w 58 (J a1 (D u.aA) c1) (J a2 (D u.aE) c2) (J a3 (D u.aG) c3) (J a4 (D u.aC) c4) (J a5 (D u.aD) c5));have H1:=aJ h1;have H3:=aJ h3;have H4:=aJ h4;have H5:=aJ h5;have bF:=aJ hT;have HU:=aJ (gl u);clear h1 h2 h3 h4 h5 hT;obtain⟨p0,p1,p2,p3,p4,_⟩:=HB.j;by_cases a7:(D u.aA:A)<=20/\(D u.aE:A)<=50/\(D u.aG:A)<=30/\(D u.aC:A)<=20/\(D u.aD:A)<=20
 rotate_left
 · have HF:U (bG u=AS):=aJ (by
    rw[HU.j];have:(decide ((D u.aA:A)<=20)&&(decide ((D u.aE:A)<=50)&&(decide ((D u.aG:A)<=30)&&(decide ((D u.aC:A)<=20)&&decide ((D u.aD:A)<=20)))))=AS:=by
     rw[Bool.eq_false_iff];intro h;simp at h;omega
    rw[this];rfl)
   by_cases q1:20<D u.aA
   · exact P9
   by_cases q2:50<D u.aE
   · exact P9
   by_cases q3:30<D u.aG
   · exact P9
   by_cases q4:20<D u.aC
   · exact P9
   have q5:20<D u.aD:=Q5;exact P9
 obtain⟨l1,l2,l3,l4,l5⟩:=a7;have HK:U (bG u=(u.aA.all (dM (D u.aA))&&(u.aG.all (dA (D u.aA))&&(u.aC.all (gC (D u.aA))&&u.aD.all (fi (D u.aG)))))):=aJ (by
  rw[HU.j,L9 l1,L9 l2,L9 l3,L9 l4,L9 l5];rfl)
 go_enter func40,ntmps40
 go_wp2_with fail;clear p0 p1 p2 p3 p4;generalize w.alloc (X (yE u a1 c1 a2 c2 a3 c3 a4 c4 a5 c5) 58)=W at HB HG |-;go_loopw[4] (λi wr=>∃k:R,i=O Z k/\k<=D u.aA/\(u.aA.take k).all (dM (D u.aA))=AT/\Gr W wr) λi _=>D u.aA-(intOf i).toNat
 case atStart=>exact⟨0,rfl,Lz,Q6,G0⟩
 obtain⟨k,rfl,hk,Tc,hg⟩:=hrel;have HA:=aJ Tc;have Um:=aJ hg;obtain⟨p0,_,p2,_⟩:=HB.j.gr hg;clear Tc;by_cases IN:k<D u.aA
 · obtain⟨a9,c9,al,_,ak⟩:=H1.j;simp only[jj,Bt]at al;have F:u.aA[k]? =Y u.aA[k]:=dW IN;obtain⟨b1,o1,vx,rfl,ai,ae⟩:=ak k _ F;obtain⟨rfl,rfl⟩:=al;have d:=HG.j.trans hg;have af:=d.cell ai Q6;have UP:=aJ F;have HI:=aJ (oE _ u.aA[k] (D u.aA) 8 wr (ae.gr d));have bt:=ae.shape;generalize u.aA[k]=x at UP HI bt;obtain⟨xa,xc,rfl⟩:=bt;have VG:U (dM (D u.aA) x=((x.all (iH (D u.aA))&&decide ((D x:A)<=8))&&decide (1<=D x))):=aJ (by
    unfold dM;generalize x.all (iH (D u.aA))=a;have hw:wB (D x) 1 8=(decide ((D x:A)<=8)&&decide (1<=D x)):=by unfold wB;rw[KZ,sQ,xw,xw,xw];omega
    rw[hw];cases a<;>cases decide ((D x:A)<=8)<;>cases decide (1<=D x)<;>rfl)
   generalize (x.all (iH (D u.aA))&&decide ((D x:A)<=8))=P at HI VG;clear ak ai d hg F ae;go_wp2_with fail;refine HI.j.mono ?_;rintro y w2 ⟨rfl,e2⟩;subst e2;cases P
   · have VS:U (u.aA.all (dM (D u.aA))=AS):=aJ (bN UP.j (by rw[VG.j];rfl));exact PX
   by_cases US:D x=0
   · have VS:U (u.aA.all (dM (D u.aA))=AS):=aJ (bN UP.j (by rw[VG.j,US];rfl));exact PX
   have ay:U ((u.aA.take (k+1)).all (dM (D u.aA))=AT):=aJ (by rw[dV UP.j,HA.j,VG.j,L9 (show 1<=x.length by omega)];rfl);have b0:((D x:A)==0)=AS:=by simpa using US
   go_wp2_with fail;exact⟨⟨k+1,Q6,IN,ay.j,Um.j⟩,Qh⟩
 · have bC:k=D u.aA:=by omega
   have UA:U (u.aA.all (dM (D u.aA))=AT):=aJ (by have h:=HA.j;rwa [bC,J6]at h);subst bC;clear hg;go_wp2_with fail;clear p0 p2;go_loopw[6] (λi wr=>∃k:R,i=O Z k/\k<=D u.aG/\(u.aG.take k).all (dA (D u.aA))=AT/\Gr W wr) λi _=>D u.aG-(intOf i).toNat
   case atStart=>exact SJ
   obtain⟨k2,rfl,TN,Tc,hg⟩:=hrel;have HA:=aJ Tc;have Um:=aJ hg;obtain⟨_,_,p2,_⟩:=HB.j.gr hg;clear Tc;by_cases a6:k2<D u.aG
   · obtain⟨a9,c9,al,_,ak⟩:=H3.j;simp only[jj,Bt]at al;have F:u.aG[k2]? =Y u.aG[k2]:=dW a6;obtain⟨b1,o1,y1,y2,y3,rfl,ai,Tx,az,bo,ae,T2,a8⟩:=ak k2 _ F;obtain⟨rfl,rfl⟩:=al;have d:=HG.j.trans hg;have af:=d.cell ai Q6;have ad:=d.cell Tx Q6;have av:=d.cell az Q6;have bk:=d.cell bo Q6;have UP:=aJ F;have HI:=aJ (wk u.aG[k2] _ _ _ (D u.aA) wr (ae.gr d) (T2.gr d) (a8.gr d) (bF.j.gr d));have s1:=ae.shape;have s2:=T2.shape;have s3:=a8.shape;generalize u.aG[k2]=f at UP HI s1 s2 s3 ad;obtain⟨b5,b7,rfl⟩:=s1;obtain⟨bj,bg,rfl⟩:=s2;obtain⟨b6,b2,rfl⟩:=s3;clear ak ai Tx az bo d hg F ae T2 a8;go_wp2_with fail;refine HI.j.mono ?_;rintro y w2 ⟨rfl,IT⟩;have OF:=aJ (Um.j.trans IT);clear IT af ad av bk p2;cases hi:dA (D u.aA) f
     · have VS:U (u.aG.all (dA (D u.aA))=AS):=aJ (bN UP.j hi);go_wp2_with fail;go_ret
       exact⟨by rw[HK.j,UA.j,VS.j];rfl,HG.j.trans OF.j⟩
     have ay:U ((u.aG.take (k2+1)).all (dA (D u.aA))=AT):=aJ (by rw[dV UP.j,HA.j,hi];rfl);go_wp2_with fail;exact⟨⟨k2+1,Q6,a6,ay.j,OF.j⟩,Qh⟩
   have aF:k2=D u.aG:=by omega
   have UO:U (u.aG.all (dA (D u.aA))=AT):=aJ (by have h:=HA.j;rwa [aF,J6]at h);subst aF;clear hg;go_wp2_with fail;clear p2;go_loopw[8] (λi wr=>∃k:R,i=O Z k/\k<=D u.aC/\(u.aC.take k).all (gC (D u.aA))=AT/\Gr W wr) λi _=>D u.aC-(intOf i).toNat
   case atStart=>exact SJ
   obtain⟨k3,rfl,Wd,Tc,hg⟩:=hrel;have HA:=aJ Tc;have Um:=aJ hg;obtain⟨_,_,_,p3,_⟩:=HB.j.gr hg;clear Tc;by_cases a0:k3<D u.aC
   · obtain⟨a9,c9,al,_,ak⟩:=H4.j;simp only[jj,Bt]at al;have F:u.aC[k3]? =Y u.aC[k3]:=dW a0;obtain⟨b1,o1,y1,y2,rfl,ai,Tx,az,ae,T2⟩:=ak k3 _ F;obtain⟨rfl,rfl⟩:=al;have d:=HG.j.trans hg;have af:=d.cell ai Q6;have ad:=d.cell Tx Q6;have av:=d.cell az Q6;have UP:=aJ F;have bB:=aJ (T2.gr d);have s2:=T2.shape;generalize u.aC[k3]=x at UP bB s2 ae av;obtain⟨bj,bg,rfl⟩:=s2;obtain⟨s,rfl,Uh,TV⟩:=ae;have ax:=Gr.alloc (Gr.refl wr) (X #[.string s,J bj (D x.aH) bg,O Z x.result] 89);have a':=aJ (eQ.new wr 89 (.string s) (J bj (D x.aH) bg) (O Z x.result));have WX:=aJ (Um.j.trans ax);have aB:=λV:T=>aJ (uw s V TV)
     have bp:=aJ (oE _ x.aH (D u.aA) 6 _ (bB.j.gr ax));have VG:U (gC (D u.aA) x=(fC s.data.toList&&((x.aH.all (iH (D u.aA))&&decide ((D x.aH:A)<=6))&&iH (D u.aA) x.result))):=aJ (by
      unfold gC iG;rw[lP,Uh];generalize fC x.name=n;generalize x.aH.all (iH (D u.aA))=a;cases n<;>cases a<;>cases decide ((D x.aH:A)<=6)<;>cases iH (D u.aA:A) x.result<;>rfl)
     generalize (x.aH.all (iH (D u.aA))&&decide ((D x.aH:A)<=6))=P at bp VG;generalize fC s.data.toList=Nm at aB VG;clear ak ai Tx az d hg F T2 ax Uh TV;go_wp2_with fail;clear af ad av p3;refine(aB _).j.mono ?_;rintro y w2 ⟨rfl,e2⟩;subst e2;obtain⟨i0,i1,i2,_⟩:=a'.j;go_wp2_with fail;refine bp.j.mono ?_;rintro y w2 ⟨rfl,e2⟩;subst e2;cases Nm
     · exact Qb
     cases P
     · exact Qb
     by_cases r0:x.result<0
     · exact P7
     by_cases r1:(D u.aA:A)<x.result
     · exact P7
     have ay:U ((u.aC.take (k3+1)).all (gC (D u.aA))=AT):=aJ (by rw[dV UP.j,HA.j,VG.j,show iH (D u.aA:A) x.result=AT by simp[iH,wB];omega];rfl);go_wp2_with fail;exact⟨⟨k3+1,Q6,a0,ay.j,WX.j⟩,Qh⟩
   have aL:k3=D u.aC:=by omega
   have UY:U (u.aC.all (gC (D u.aA))=AT):=aJ (by have h:=HA.j;rwa [aL,J6]at h);subst aL;clear hg;go_wp2_with fail;clear p3;go_loopw[12] (λi wr=>∃k:R,i=O Z k/\k<=D u.aD/\(u.aD.take k).all (fi (D u.aG))=AT/\Gr W wr) λi _=>D u.aD-(intOf i).toNat
   case atStart=>exact SJ
   obtain⟨k4,rfl,b4,Tc,hg⟩:=hrel;have HA:=aJ Tc;have Um:=aJ hg;obtain⟨_,_,_,_,p4,_⟩:=HB.j.gr hg;clear Tc;by_cases aI:k4<D u.aD
   · obtain⟨a9,c9,al,_,ak⟩:=H5.j;simp only[jj,Bt]at al;have F:u.aD[k4]? =Y u.aD[k4]:=dW aI;obtain⟨b1,o1,y1,rfl,ai,Tx,ae⟩:=ak k4 _ F;obtain⟨rfl,rfl⟩:=al;have d:=HG.j.trans hg;have af:=d.cell ai Q6;have ad:=d.cell Tx Q6;have UP:=aJ F;generalize u.aD[k4]=x at UP ae ad;obtain⟨s,rfl,Uh,TV⟩:=ae;have ax:=Gr.alloc (Gr.refl wr) (X #[.string s,O Z x.func] 71);have a':=aJ (ld.new wr 71 (.string s) (O Z x.func));have WX:=aJ (Um.j.trans ax);have aB:=λV:T=>aJ (uw s V TV)
     have VG:U (fi (D u.aG) x=(fC s.data.toList&&wB x.func 0 ((D u.aG:A)-1))):=aJ (by unfold fi;rw[Uh]);generalize fC s.data.toList=Nm at aB VG;have b3:H (wr.alloc (X #[.string s,O Z x.func] 71)) (Q w.heap.size 2 G)=Y (J a3 (D u.aG) c3):=ax.cell (HB.j.gr hg).2.2.1 Q6;clear ak ai Tx d hg F ax Uh TV;go_wp2_with fail;clear af ad p4;refine(aB _).j.mono ?_;rintro y w2 ⟨rfl,e2⟩;subst e2;obtain⟨i0,i1,_⟩:=a'.j;cases Nm
     · have VS:U (u.aD.all (fi (D u.aG))=AS):=aJ (bN UP.j (by rw[VG.j];rfl));go_wp2_with fail;go_ret
       exact⟨by rw[HK.j,UA.j,UO.j,UY.j,VS.j];rfl,HG.j.trans WX.j⟩
     by_cases r0:x.func<0
     · exact Oo
     by_cases r1:(D u.aG:A)<=x.func
     · exact Oo
     have ay:U ((u.aD.take (k4+1)).all (fi (D u.aG))=AT):=aJ (by rw[dV UP.j,HA.j,VG.j,show wB x.func 0 ((D u.aG:A)-1)=AT by simp[wB];omega];rfl);go_wp2_with fail;exact⟨⟨k4+1,Q6,aI,ay.j,WX.j⟩,Qh⟩
   have aM:k4=D u.aD:=by omega
   have bL:U (u.aD.all (fi (D u.aG))=AT):=aJ (by have h:=HA.j;rwa [aM,J6]at h);subst aM;clear hg;go_wp2_with fail;go_ret
   exact⟨by rw[HK.j,UA.j,UO.j,UY.j,bL.j];rfl,HG.j.trans Um.j⟩
theorem C4(i:bP):D (cq i)<=23:=by
 exact O7
theorem xm{j:R}{a b:A}(h:bl ⟨j,a,b⟩=AT):j<=20/\(j=1->-2147483648<=a/\a<=2147483647)/\(¬j=1->(1<=ah j->0<=a/\a<=65535)/\(2<=ah j->0<=b/\b<=65535)):=by
 unfold bl at h;simp only[sQ]at h;obtain⟨h1,d,h3⟩:=h;simp only[wB,xw]at h1;refine⟨Q5,λe=>?_,λe=>⟨λF=>?_,λF=>?_⟩⟩
 · rw[mI Q5]at d;simpa[wB]using d
 · rw[eP Q5]at d;simp only[bR,F,decide_true,KA,wB,xw]at d;exact d
 simp only[bR,F,decide_true,KA,wB,xw]at h3;exact h3
theorem FO(v:M)(l:I bP)(w:T)(hR:eC w v l)(hT:lR w)(hl:D l<=300)(Tb:∀x∈l,bl x=AT):
 Calls prog 142 #[v] w λx w'=>x=.returned (.string ⟨(fM cq l).toArray⟩)/\Gr w w':=by
 have HR:=aJ hR;obtain⟨a1,c1,rfl,_,_⟩:=hR;have HX:=aJ Tb;have HT:=aJ hT;have ax:=λV=>aJ (dr (D l) Q5 Q5 V)
 simp only[A7]at ax;have aE:=qx (λx _=>C4 x) hl Q9;clear Tb hT;go_enter func142,ntmps142
 go_wp2_with fail;refine(ax _).j.mono ?_;rintro x w1 ⟨rfl,S5⟩;have Td:=aJ S5;clear S5 ax;go_wp2_with fail;go_loopw[3,4] (λs i wr=>∃k:R,i=O Z k/\k<=D l/\s=.string ⟨(eA cq l k).toArray⟩/\Gr w wr) λ_ i _=>D l-(intOf i).toNat
 case atStart=>exact QN
 obtain⟨k,rfl,hk,rfl,hg⟩:=hrel;have HG:=aJ hg;by_cases IN:k<D l
 · obtain⟨a2,a4,aD,_,aB⟩:=HR.j;simp only[jj,Bt]at aD;have af:=dW IN;obtain⟨b1,o1,rfl,al,Tx,ay⟩:=aB k _ af;obtain⟨rfl,rfl⟩:=aD;have hb:=HX _ (dL af);have HS:=aJ (ie (f:=cq) af);generalize l[k]=c at al Tx ay hb HS;obtain⟨op,a,b⟩:=c;obtain⟨j,rfl⟩:∃j:R,op=j:=⟨op.toNat,by
    have:=by unfold bl at hb;simp only[sQ,wB,xw]at hb;exact hb.1.1
    omega⟩
   obtain⟨aI,Uz,az⟩:=xm hb;have ae:=Gr.alloc (Gr.refl wr) (X #[.int .u8 j] 5);have aC:=hg.cell al Q6;have Ty:=ae.cell aC Q6;have TO:=ae.cell (hg.cell Tx Q6) Q6;have av:=ae.cell (hg.cell ay Q6) Q6;have ht:=ae.cell ((HT.gr hg) j Q5) Q6;have aM:=lB wr j Q5;have a3:IntKind.u8.wrap j=j:=Sh
   have h1:=aE k;have ai:=aJ (HG.trans ae);generalize aF:eA _ l k=Tq at h1 HS |-;simp only at Ty TO av aC;clear aB al Tx ay hg af hb aF ae;by_cases UC:j=1
   · have Vy:((j:A)==1)=AT:=by simpa using(show(j:A)=1 by omega)
     have ad:U (eA _ l _=(Tq++[UInt8.ofNat j])++num (qC a)):=aJ (by rw[HS];unfold cq;simp only[A7];rw[mI Q5];simp);have Vr:=λV=>aJ (sY a (by have:=Uz UC;omega) (by have:=Uz UC;omega) V)
     have h2:=dJ (qC a);generalize num _=U' at ad Vr h2;clear Uz az ht UC av;go_wp2_with fail;refine(Vr _).j.mono ?_;rintro x w2 ⟨rfl,IT⟩;have OF:=aJ (ai.trans IT);clear IT Vr;go_wp2_with fail;exact⟨⟨_,Q6,IN,by rw[ad,<-dv,<-dv],OF⟩,Qh⟩
   have Vy:((j:A)==1)=AS:=Rp
   have ad:U (eA _ l _=(Tq++[UInt8.ofNat j])++((if 1<=ah j then num a.toNat else [])++(if 2<=ah j then num b.toNat else []))):=aJ (by rw[HS];unfold cq;simp only[A7];rw[eP Q5];simp);have F:=az UC;have HN:=aJ (uc j);have a0:(0:A)<=j:=Q5;have Vq:(j:A)<21:=Q5;clear Uz az UC;generalize ah _=n at ht ad HN F;rcases HN.j with rfl|rfl|rfl
   · have d:U (eA _ l _=Tq++[UInt8.ofNat j]):=aJ (by rw[ad];simp);clear F;go_wp2_with fail;exact⟨⟨_,Q6,IN,by rw[d,<-dv],ai⟩,Qh⟩
   · have d:U (eA _ l _=(Tq++[UInt8.ofNat j])++num a.toNat):=aJ (by rw[ad];simp);have ha:=F.1 Q9;have VW:=λV=>aJ (dr a ha.1 Q5 V)
     have h2:=dJ a.toNat;generalize num _=U' at d VW h2;clear F;go_wp2_with fail;refine(VW _).j.mono ?_;rintro x w2 ⟨rfl,IT⟩;have OF:=aJ (ai.trans IT);have aA:=IT.cell Ty Q6;have aH:=IT.cell ht Q6;clear IT VW;go_wp2_with fail;exact⟨⟨_,Q6,IN,by rw[d,<-dv,<-dv],OF⟩,Qh⟩
   have d:U (eA _ l _=((Tq++[UInt8.ofNat j])++num a.toNat)++num b.toNat):=aJ (by rw[ad];simp);have ha:=F.1 Q9;have hb:=F.2 Q9;have VW:=λV=>aJ (dr a ha.1 Q5 V)
   have ak:=λV=>aJ (dr b hb.1 Q5 V)
   have h2:=dJ a.toNat;have h3:=dJ b.toNat;generalize num _=U' at d VW h2;generalize num _=U2 at d ak h3;clear F;go_wp2_with fail;refine(VW _).j.mono ?_;rintro x w2 ⟨rfl,IT⟩;have OF:=aJ (ai.trans IT);have aA:=IT.cell Ty Q6;have aL:=IT.cell av Q6;have aH:=IT.cell ht Q6;clear IT VW;go_wp2_with fail;refine(ak _).j.mono ?_;rintro x w3 ⟨rfl,Ta⟩;have Te:=aJ (OF.trans Ta);clear Ta ak;go_wp2_with fail;exact⟨⟨_,Q6,IN,by rw[d,<-dv,<-dv,<-dv],Te⟩,Qh⟩
 · have aG:k=D l:=by omega
   subst aG;have HE:=aJ (kl (f:=cq) Q5);clear hg;go_wp2_with fail;go_ret
   exact⟨by rw[HE];rfl,HG⟩
theorem dH.at_all{w:T}{v:M}{l:I aK}(h:dH w v l){a:R}{u:aK}(hu:l[a]? =Y u):∃b off cap a1 c1 a2 c2 a3 c3 a4 c4 a5 c5,v=J (Y (Q b off G)) (D l) cap/\H w ⟨b,off+a*5,G⟩=Y (J a1 (D u.aA) c1)/\H w ⟨b,off+a*5+1,G⟩=Y (J a2 (D u.aE) c2)/\H w ⟨b,off+a*5+2,G⟩=Y (J a3 (D u.aG) c3)/\H w ⟨b,off+a*5+3,G⟩=Y (J a4 (D u.aC) c4)/\H w ⟨b,off+a*5+4,G⟩=Y (J a5 (D u.aD) c5)/\bV w (.agg (yE u a1 c1 a2 c2 a3 c3 a4 c4 a5 c5)) u:=by
 obtain⟨ao,cap,rfl,hm,hc⟩:=h;obtain⟨b,off,v1,v2,v3,v4,v5,rfl,c1,c2,c3,c4,c5,F⟩:=hc a u hu;have d:=F;obtain⟨y1,y2,y3,y4,y5,hv,k1,k2,k3,k4,k5⟩:=F;simp only[Ch,FL,Bk,I7]at hv;obtain⟨rfl,rfl,rfl,rfl,rfl⟩:=hv;obtain⟨x1,d1,rfl⟩:=k1.shape;obtain⟨x2,d2,rfl⟩:=k2.shape;obtain⟨x3,d3,rfl⟩:=k3.shape;obtain⟨x4,d4,rfl⟩:=k4.shape;obtain⟨x5,d5,rfl⟩:=k5.shape;exact⟨b,_,_,_,_,_,_,_,_,_,_,_,_,rfl,c1,c2,c3,c4,c5,d⟩
theorem bV.lowK{W w:T}{v:M}{u:aK}(h:bV W v u)(g:Below W.heap.size W w):bV w v u:=by
 obtain⟨v1,v2,v3,v4,v5,hv,h1,h2,h3,d,F⟩:=h;exact⟨_,_,_,_,_,hv,h1.below g,h2.below g,h3.below g,d.below g,F.below g⟩
theorem dH.low{W w:T}{v:M}{l:I aK}(h:dH W v l)(g:Below W.heap.size W w):dH w v l:=by
 obtain⟨ao,cap,hv,hm,d⟩:=h;refine⟨_,_,hv,hm,λi x hi=>?_⟩;obtain⟨b,off,v1,v2,v3,v4,v5,h1,k1,k2,k3,k4,F,hu⟩:=d i x hi;exact⟨b,_,_,_,_,_,_,h1,a_ g k1,a_ g k2,a_ g k3,a_ g k4,a_ g F,hu.lowK g⟩
theorem dH.at_both{w0 w:T}{v:M}{l:I aK}(h:dH w0 v l)(g:Below w0.heap.size w0 w){a:R}{u:aK}(hu:l[a]? =Y u):∃b off cap a1 c1 F c2 a3 c3 d c4 a5 c5,v=J (Y (Q b off G)) (D l) cap/\H w ⟨b,off+a*5,G⟩=Y (J a1 (D u.aA) c1)/\H w ⟨b,off+a*5+1,G⟩=Y (J F (D u.aE) c2)/\H w ⟨b,off+a*5+2,G⟩=Y (J a3 (D u.aG) c3)/\H w ⟨b,off+a*5+3,G⟩=Y (J d (D u.aC) c4)/\H w ⟨b,off+a*5+4,G⟩=Y (J a5 (D u.aD) c5)/\bV w0 (.agg (yE u a1 c1 F c2 a3 c3 d c4 a5 c5)) u:=by
 obtain⟨b,off,cap,a1,c1,F,c2,a3,c3,d,c4,a5,c5,hv,y1,y2,y3,y4,y5,hr⟩:=h.at_all hu;exact⟨b,_,_,_,_,_,_,_,_,_,_,_,_,hv,a_ g y1,a_ g y2,a_ g y3,a_ g y4,a_ g y5,hr⟩
def Hd(p:Bool)(w:T)(x:Ending)(w':T):Prop:=x=.returned (.bool p)/\Gr w w'
theorem DN(l:I aK)(vl:M)(k:R)(u:aK)(w:T)(hR:dH w vl l)(hu:l[k]? =Y u)(F:lR w):
 Calls prog 42 #[vl,O Z (k:A),O Z 1] w (Hd (!bG u) w):=by
 have ae:=(dm.1 hu).1;obtain⟨b,off,cap,a1,c1,a2,c2,a3,c3,a4,c4,a5,c5,rfl,x1,x2,x3,x4,x5,hr⟩:=hR.at_all hu;have ad:(0:A)<=k:=Q5;have TH:(k:A)<D l:=Q5;have HR:=aJ hr;have HT:=aJ F;go_enter func42,ntmps42
 go_wp2_with fail;have d:=aJ ((Gr.refl w).alloc (X (yE u a1 c1 a2 c2 a3 c3 a4 c4 a5 c5) 58));refine(qT u _ _ (HR.gr d) (HT.gr d)).mono ?_;rintro x w1 ⟨rfl,hg⟩;have Td:=aJ (d.trans hg);go_wp2_with fail;go_ret
 exact⟨rfl,Td⟩
theorem Tryz.callSs(vals:Array M)(w:T):(callFunc 103 vals).run Tryz.prog w=.ok (.enter 103 vals) w:=Q7
theorem py(w:T)(o:Obj):(w.alloc o).heap[w.heap.size]? =Y o:=by show(w.heap.push _)[w.heap.size]? =_;simp
section
variable {lo ob ub rb fb k m:R} {v1 v2 v3 v4 v5:M} {w00 w0:T} {V0 V:R->M} {S:R->I (R×R)} {cur:Array M} {RRq:(R->Prop)->T->Prop} {wr:T}
end
def PN(lo ob:R)(V:R->M)(N b:R):Prop:=PO lo ob V b/\N<=b
theorem lH.mono{P P':R->Prop}{w:T}{b k f:R}(h:lH P w b k f)(g:∀b,P b->b<w.heap.size->P' b):lH P' w b k f:=by
 rcases f with _|_|_|_|_|_|_|f<;>simp only[lH]at h |-
 · exact h
 · obtain⟨d,h1,h2,F⟩:=h;exact⟨d,h1,g d h2 (bM F),F⟩
 · exact h
 · exact h
 · exact h
 · exact h
 · exact h
 obtain⟨d,h0,h1,h4,h5,h6,h2,F⟩:=h;exact⟨d,h0,h1,h4,h5,h6,g d h2 (bM F),F⟩
structure LK(lo ob:R)(V:R->M)(S:R->I (R×R))(w0:T)(DDq:R->R->R->Prop)(w:T):Prop where
 box:w.heap[ob]? =Y (X #[V 0,V 1,V 2,V 3,V 4,V 5,V 6,V 7] 43 (0,0))
 low:lo<=ob
 own:∀f,f<8->w.ownsRow lo (oT f) 1 (V f) (D (S f)) ((S f).map wQ)
 shape:∀f,f<8->∀r∈S f,PO lo ob V r.1/\2<=r.2/\r.2<=10000000/\∃cs:Array M,w.heap[r.1]? =Y (X cs (eT f) (0,0))/\cs.size=r.2*sZ f
 inks:∀f,f<8->∀r∈S f,∀q,q<r.2->DDq f r.1 q->lH (PN lo ob V w0.heap.size) w r.1 q f
 size:w0.heap.size<=w.heap.size
 frame:∀b,b<w0.heap.size->(∀f,f<8->∀r∈S f,¬r.1=b)->w.heap[b]? =w0.heap[b]?
structure LM(S:R->I (R×R))(Fd:I R)(f k q:R)(DDq:R->R->R->Prop):Prop where
 old:∀g,g∈Fd->∀r∈S g,∀x,x<r.2->DDq g r.1 x
 rows:∀i r,i<k->(S f)[i]? =Y r->∀x,x<r.2->DDq f r.1 x
 here:∀r,(S f)[k]? =Y r->∀x,x<q->x<r.2->DDq f r.1 x
def kA(lo ob:R)(V:R->M)(S:R->I (R×R))(w:T)(Fd:I R)(f k q:R)(wr:T):Prop:=
 ∃DDq,LK lo ob V S w DDq wr/\LM S Fd f k q DDq/\Below lo w wr/\lo<=wr.heap.size
section
variable {lo ob:R} {V:R->M} {S:R->I (R×R)} {w:T} {Fd:I R} {f k q:R} {wr:T}
theorem kA.start(h:cg lo w ob AS V S)(hl:lo<=w.heap.size)(f:R):kA lo ob V S w [] f 0 0 w:=
 ⟨λ_ _ _=>False,⟨h.box,h.low,h.own,λf F r d=>⟨(h.rows f F r d).here,(h.rows f F r d).two,(h.rows f F r d).most,(h.rows f F r d).cells⟩,λ_ _ _ _ _ _ h=>h.elim,lj,λ_ _ _=>rfl⟩,
  ⟨λg hg=>(Mk hg).elim,λi r hi=>by omega,λr d x hx=>by omega⟩,Mt _ _,hl⟩
theorem kA.row(h:kA lo ob V S w Fd f k q wr)(d:f<8){r:R×R}{ao:By Addr}{cap:R}(hV:V f=J ao (D (S f)) cap)(hr:(S f)[k]? =Y r):
 ∃g,ao=Y (Q g 0 G)/\H wr (Q g k G)=Y (J (Y (Q r.1 0 G)) r.2 r.2)/\2<=r.2/\r.2<=10000000/\(∀j,j<r.2*sZ f->(∃x,H wr (Q r.1 j G)=Y x)/\wr.frozen? ⟨r.1,j,G⟩=AS)/\r.1<wr.heap.size/\¬r.1=ob/\¬r.1=g:=by
 obtain⟨DDq,h1,_⟩:=h;have ad:k<D (S f):=(dm.1 hr).1;obtain⟨g,k1,k2,⟨Un,F⟩,k4⟩:=iE (h1.own f d) (j:=k) Q5;obtain⟨s1,s2,s3,cs,s4,s5⟩:=h1.shape f d r (dL hr);rw[hV]at F;simp only[jj]at F;refine⟨g,F.1,?_,s2,s3,λj hj=>⟨⟨cs[j]'Q5,by rw[aN s4];simp⟩,aT s4⟩,bM s4,s1.2.1,λe=>s1.2.2 f d (e▸k1)⟩;rw[Aq]at k4;rw[k4,Ha,hr];rfl
theorem lH.cells{P:R->Prop}{w w':T}{b x f:R}(h:lH P w b x f)(d:∀j,x*sZ f<=j->j<(x+1)*sZ f->H w' (Q b j G)=H w (Q b j G))
 (hb:∀F,P F->w.heap[F]? =Y (X #[gz] 3 (0,0))->w'.heap[F]? =w.heap[F]?):lH P w' b x f:=by
 rcases f with _|_|_|_|_|_|_|f<;>simp only[lH,sZ]at h d |-
 · rw[d _ Q5 Q5];exact h
 · obtain⟨F,h1,h2,h3⟩:=h;exact⟨F,by rw[d _ Q5 Q5];exact h1,h2,(hb F h2 h3).trans h3⟩
 · rw[d _ Q5 Q5,d _ Q5 Q5,d _ Q5 Q5];exact h
 · rw[d _ Q5 Q5,d _ Q5 Q5,d _ Q5 Q5,d _ Q5 Q5];exact h
 · rw[d _ Q5 Q5,d _ Q5 Q5,d _ Q5 Q5];exact h
 · rw[d _ Q5 Q5,d _ Q5 Q5];exact h
 · rw[d _ Q5 Q5];exact h
 obtain⟨F,h0,h1,h4,h5,h6,h2,h3⟩:=h;exact⟨F,by rw[d _ Q5 Q5];exact h0,by rw[d _ Q5 Q5];exact h1,by rw[d _ Q5 Q5];exact h4,by rw[d _ Q5 Q5];exact h5,by rw[d _ Q5 Q5];exact h6,h2,(hb F h2 h3).trans h3⟩
end
theorem GY(a b:R)(F:a<4294967296)(hb:b<4294967296):bits BinOp.xor Z (a:A) (b:A)=((a^^^b:R):A):=by
 have hx:a^^^b<2 ^ 32:=M4 Q5 Q5;show Z.wrap ((BitVec.ofInt 64 (a:A)^^^BitVec.ofInt 64 (b:A)).toNat:A)=_
 have e1:(BitVec.ofInt 64 a).toNat=a:=by rw[BitVec.toNat_ofInt];omega
 have d:(BitVec.ofInt 64 b).toNat=b:=by rw[BitVec.toNat_ofInt];omega
 rw[BitVec.toNat_xor,e1,d,Q_]
theorem Gs(a b:R)(d:a<4294967296)(F:b<4294967296)(w:T):
 Calls prog 144 #[O Z (a:A),O Z (b:A)] w λx w'=>x=.returned (O Z ((a^^^b:R):A))/\w'=w:=by
 have hx:=GY a b d F;generalize a^^^b=c at hx |-;go_enter func144,ntmps144
 exact Og
theorem GQ(a b:R):(a^^^b)%2=(a+b)%2:=by
 have h:(a^^^b)%2 ^ 1=a%2 ^ 1^^^b%2 ^ 1:=Nat.xor_mod_two_pow;simp only[Nat.pow_one]at h;rw[h];rcases Nat.mod_two_eq_zero_or_one a with d|d<;>rcases Nat.mod_two_eq_zero_or_one b with F|F<;>rw[d,F]<;>simp<;>omega
theorem Fp(a b:R):(a^^^b)/2=a/2^^^b/2:=by
 have h:(a^^^b)>>>1=a>>>1^^^b>>>1:=Nat.shiftRight_xor_distrib;simpa[Nat.shiftRight_eq_div_pow]using h
theorem EF{v c x:R}(h:v^^^c=x):(if (v+c)%2=1 then v/2^^^3988292384 else v/2)^^^(c/2)=li x:=by
 unfold li;rw[<-h,GQ,Fp];split
 · rw[Nat.xor_assoc,Nat.xor_comm 3988292384,<-Nat.xor_assoc]
 rfl
theorem AC(w:T)(y0 y1 y2 y3:R)(h0:y0<256)(h1:y1<256)(h2:y2<256)(h3:y3<256):
 (convert 201 9 (J (Y (Q w.heap.size 0 G)) 4 4)).run prog (w.alloc (X #[.int .u8 (y0:A),.int .u8 (y1:A),.int .u8 (y2:A),.int .u8 (y3:A)] 5))=.ok (.string ⟨#[UInt8.ofNat y0,UInt8.ofNat y1,UInt8.ofNat y2,UInt8.ofNat y3]⟩) (w.alloc (X #[.int .u8 (y0:A),.int .u8 (y1:A),.int .u8 (y2:A),.int .u8 (y3:A)] 5)):=by
 have e:∀y,y<256->(UInt8.ofNat y).toNat=y:=λy hy=>by rw[LZ];exact Lb hy
 have h:=run_convert_bytes_back _ 201 9 5 _ 4 [UInt8.ofNat y0,UInt8.ofNat y1,UInt8.ofNat y2,UInt8.ofNat y3] underlying201 underlying5 underlying9 (by
  intro j hj;have ad:=by simpa using hj
  have ea:(⟨w.heap.size,0,G⟩:Addr).add j=⟨w.heap.size,j,G⟩:=by simp[Addr.add];try (intro h;exact h.symm)
  rw[ea];have F:=World.cell?_alloc_mark w #[.int .u8 y0,.int .u8 y1,.int .u8 y2,.int .u8 y3] 5 (0,0) j;refine F.trans ?_;have d:j=0\/j=1\/j=2\/j=3:=Q5;rcases d with rfl|rfl|rfl|rfl
  · simp[e _ h0]
  · simp[e _ h1]
  · simp[e _ h2]
  simp[e _ h3])
 exact h
theorem vh{x v c:R}(h:v^^^c=ju 8 x)(d:c<2 ^ (8-8)):v=ju 8 x:=by
 have:=by simpa using d
 rw[this]at h;simpa using h
theorem De(s:ByteArray)(w:T)(hs:s.size<=10000000):
 Calls prog 102 #[.string s] w λx w'=>x=.returned (.string ⟨(vP (ri s.data.toList) 4).toArray⟩)/\Gr w w':=by
 go_enter func102,ntmps102
 go_wp2_with fail;go_loopw[3,4] (λv i wr=>∃k:R,k<=s.size/\i=O Z k/\v=O Z (pC (s.data.toList.take k):R)/\wr=w) λ_ i _=>s.size-(intOf i).toNat
 case atStart=>exact⟨0,Lz,rfl,rfl,rfl⟩
 obtain⟨k,hk,rfl,rfl,rfl⟩:=hrel;by_cases IN:k<s.size
 · have hV:=wZ (s.data.toList.take k);have HN:U (pC (s.data.toList.take _)=n' _ _):=aJ (by rw[vE s k IN,uf]);have ay:=s[k].toNat_lt;generalize aA:pC _=V at hV HN |-;generalize al:s[k]=b at HN ay;have aD:s[k]!.toNat=b.toNat:=by rw[getElem!_pos s k IN,al]
   clear aA;have HB:=aJ al;go_wp2_with fail;go_loopw[3,5,6] (λv c j wx=>∃vn cn m:R,m<=8/\j=O Z m/\v=O Z (vn:A)/\c=O Z (cn:A)/\vn<4294967296/\cn<2 ^ (8-m)/\vn^^^cn=ju m (V^^^b.toNat)/\wx=wr) λ_ _ j _=>8-(intOf j).toNat
   case atStart=>exact⟨V,_,0,Lz,rfl,rfl,by rw[<-HB],hV,ay,rfl,rfl⟩
   obtain⟨vn,cn,m,hm,rfl,rfl,rfl,aI,ae,hx,e⟩:=hrel;subst e;have HX:=aJ hx;have ad:cn<256:=tu ae (Mp Q9 (show 8-m<=8 by omega));clear hx;by_cases a0:m<8
   · have Tr:U (cn/2<2 ^ (8-(m+1))):=aJ (by
      rw[MH Q9,<-Nat.pow_succ,show(8-(m+1)).succ=8-m by omega];exact ae)
     have Tv:=aJ (EF HX);have aC:Z.wrap _=vn+cn:=Q_;obtain⟨v2,ai⟩:∃v2,v2=vn/2:=⟨_,rfl⟩;obtain⟨c2,TD⟩:∃c2,c2=cn/2:=⟨_,rfl⟩;have aF:(vn:A).tdiv 2=v2:=R4
     have aM:(cn:A).tdiv 2=c2:=R4
     have aH:Z.wrap _=v2:=Q_;have aE:Z.wrap _=c2:=Q_;have af:v2<4294967296:=Q5;rw[<-TD]at Tr;rw[<-ai,<-TD]at Tv;by_cases F:(vn+cn)%2=1
     · have ht:((vn:A)+cn).tmod 2=1:=by rw[K3 Q5];omega
       rw[mI F]at Tv;have ax:=λW=>aJ (Gs _ 3988292384 af Q9 W)
       have av:v2^^^3988292384<4294967296:=M4 (n:=32) Q5 Q9;generalize v2^^^3988292384=v3 at Tv ax av;clear F ai TD ae ad;go_wp2_with fail;refine(ax _).j.mono ?_;rintro y w2 ⟨rfl,e2⟩;subst e2;go_wp2_with fail;exact⟨⟨_,_,_,Q5,Q6,rfl,rfl,av,Tr,Tv,trivial⟩,Qh⟩
     have ht:((vn:A)+cn).tmod 2=0:=R0
     rw[eP F]at Tv;clear F ai TD ae ad;go_wp2_with fail;exact⟨⟨_,_,_,Q5,Q6,rfl,rfl,af,Tr,Tv,trivial⟩,Qh⟩
   · have h8:m=8:=by omega
     subst h8;have HV:U (vn=n' V b):=aJ (vh HX ae);clear ae ad;go_wp2_with fail;exact⟨⟨_,IN,Q6,by rw[HN,<-HV],trivial⟩,Qh⟩
 have ak:=wZ (s.data.toList.take k);have aL:k=s.size:=by omega
 have HE:U (ri _=4294967295-pC (s.data.toList.take k)):=aJ (by unfold ri;rw[JH jB]);generalize pC _=c at ak HE;obtain⟨d,hd⟩:∃d,d=4294967295-c:=⟨_,rfl⟩;have aG:d<4294967296:=Q5;have aB:Z.wrap (4294967295-c)=d:=Qq
 rw[<-hd]at HE;obtain⟨y0,e0⟩:∃y,y=d%256:=⟨_,rfl⟩;obtain⟨z1,f1⟩:∃y,y=d/256:=⟨_,rfl⟩;obtain⟨z2,f2⟩:∃y,y=d/65536:=⟨_,rfl⟩;obtain⟨y3,e3⟩:∃y,y=d/16777216:=⟨_,rfl⟩;obtain⟨y1,e1⟩:∃y,y=z1%256:=⟨_,rfl⟩;obtain⟨y2,e2⟩:∃y,y=z2%256:=⟨_,rfl⟩;have g0:(d:A).tmod 256=y0:=R0
 have g1:(d:A).tdiv 256=z1:=R4
 have g2:(d:A).tdiv 65536=z2:=R4
 have g3:(d:A).tdiv 16777216=y3:=R4
 have g4:(z1:A).tmod 256=y1:=R0
 have g5:(z2:A).tmod 256=y2:=R0
 have k1:Z.wrap _=z1:=Q_;have k2:Z.wrap _=z2:=Q_;have k3:Z.wrap _=y3:=Q_;have j0:IntKind.u8.wrap y0=y0:=Sh
 have j1:IntKind.u8.wrap y1=y1:=Sh
 have j2:IntKind.u8.wrap y2=y2:=Sh
 have j3:IntKind.u8.wrap y3=y3:=Sh
 have hfb:=AC wr y0 y1 y2 y3 Q5 Q5 Q5 Q5;have HL:U (vP (ri _) 4=[UInt8.ofNat _,UInt8.ofNat _,UInt8.ofNat _,UInt8.ofNat _]):=aJ (by
  have az:vP d 4=[UInt8.ofNat (d/256 ^ 0%256),UInt8.ofNat (d/256 ^ 1%256),UInt8.ofNat (d/256 ^ 2%256),UInt8.ofNat (d/256 ^ 3%256)]:=rfl;rw[HE,az,show d/256 ^ 0%256=y0 by simp;omega,show d/256 ^ 1%256=y1 by simp;omega,show d/256 ^ 2%256=y2 by simp;omega,show d/256 ^ 3%256=y3 by simp;omega])
 clear e0 e1 e2 e3 f1 f2 hd;go_wp2_with fail;go_ret
 exact⟨by rw[HL];rfl,(G0).alloc _⟩
theorem OQ{p:Prop}(h:p:=by rw[gl]at Tb;simp only[sQ,xw]at Tb;omega):p:=h
theorem Cq(u:aK)(v:M)(w:T)(hR:bV w v u)(hT:lR w)(Tb:bG u=AT)(hF:tm u):
 Calls prog 100 #[v,O Z 1] w λx w'=>x=.returned (.string ⟨(tT u).toArray⟩)/\Gr w w':=by
 obtain⟨v1,v2,v3,v4,v5,rfl,h1,h2,h3,h4,h5⟩:=hR;obtain⟨a1,c1,rfl⟩:=h1.shape;obtain⟨a2,c2,rfl⟩:=h2.shape;obtain⟨a3,c3,rfl⟩:=h3.shape;obtain⟨a4,c4,rfl⟩:=h4.shape;obtain⟨a5,c5,rfl⟩:=h5.shape;have d:=jA Tb;have aH:=λk=>wz (lr _ _ k) d.b1
 have aI:=aJ d;have aM:=aJ Tb;have a7:D u.aA<=50:=by
  exact OQ
 have ak:=λV=>aJ (dr (D u.aA) Q5 Q5 V)
 simp only[A7]at ak;have a0:=Gr.alloc (Gr.refl w) (X (yE u a1 c1 a2 c2 a3 c3 a4 c4 a5 c5) 58);have ae:=aJ a0;have HB:=aJ (da.new w 58 (J a1 (D u.aA) c1) (J a2 (D u.aE) c2) (J a3 (D u.aG) c3) (J a4 (D u.aC) c4) (J a5 (D u.aD) c5));have HH:=aJ h1;obtain⟨p0,p1,p2,p3,p4,_⟩:=HB.j;go_enter func100,ntmps100
 go_wp2_with fail;refine(ak _).j.mono ?_;generalize w.alloc _=W at HB ae |-;rintro x w1 ⟨rfl,S5⟩;have Td:=aJ S5;go_wp2_with fail;go_loopw[5,6] (λs i wr=>∃k:R,i=O Z k/\k<=D u.aA/\s=.string ⟨(eA (bu) u.aA k).toArray⟩/\Gr W wr) λ_ i _=>D u.aA-(intOf i).toNat
 case atStart=>exact QN
 obtain⟨k,rfl,hk,rfl,hg⟩:=hrel;have HG:=aJ hg;obtain⟨p0,p1,p2,p3,p4,_⟩:=HB.gr hg;by_cases IN:k<D u.aA
 · obtain⟨a9,c9,al,_,aF⟩:=HH.j;simp only[jj,Bt]at al;have av:=ae.trans hg;have az:=aH k;have F:=dW IN;obtain⟨b1,o1,vx,rfl,aB,ai⟩:=aF k _ F;obtain⟨rfl,rfl⟩:=al;have a6:=av.cell aB Q6;have HS:=aJ (ie (f:=bu) F);have af:=aI.f1 _ (dL F);have hlen:u.aA[k].length<=8:=by
    have:=aM.j
    rw[gl]at this;simp only[sQ]at this;have h:=zl.1 this.2.1 _ (dL F);unfold dM at h;simp only[sQ,wB,xw]at h;omega
   have ad:=aJ (qB _ _ _ (ai.gr av) Q5 af);have ay:=fw hlen;have ax:=ai.shape;generalize a8:eA _ _ k=Tq at az HS |-;generalize u.aA[k]=x at HS ad ax ay;obtain⟨xa,xc,rfl⟩:=ax;generalize bu x=U' at HS ad ay;go_wp2_with fail;refine ad.mono ?_;rintro y w2 ⟨rfl,IT⟩;have OF:=aJ (HG.trans IT);go_wp2_with fail;exact⟨⟨_,Q6,IN,by rw[HS,dv],OF⟩,Qh⟩
 · have aL:k=D u.aA:=by omega
   subst aL;have HE:=aJ (kl (f:=bu) Q5);go_wp2_with fail;go_ret
   exact⟨by unfold tT;rw[HE];rfl,ae.trans HG⟩
theorem DR(u:aK)(v:M)(w:T)(hR:bV w v u)(hT:lR w)(Tb:bG u=AT)(hF:tm u):
 Calls prog 100 #[v,O Z 2] w λx w'=>x=.returned (.string ⟨(rq u).toArray⟩)/\Gr w w':=by
 obtain⟨v1,v2,v3,v4,v5,rfl,h1,h2,h3,h4,h5⟩:=hR;obtain⟨a1,c1,rfl⟩:=h1.shape;obtain⟨a2,c2,rfl⟩:=h2.shape;obtain⟨a3,c3,rfl⟩:=h3.shape;obtain⟨a4,c4,rfl⟩:=h4.shape;obtain⟨a5,c5,rfl⟩:=h5.shape;have F:=jA Tb;have aB:=λk=>wz (lr _ _ k) F.b2
 have aF:=aJ hF;have a0:D u.aE<=50:=by
  exact OQ
 have ak:=λV=>aJ (dr (D u.aE) Q5 Q5 V)
 simp only[A7]at ak;have aM:=Gr.alloc (Gr.refl w) (X (yE u a1 c1 a2 c2 a3 c3 a4 c4 a5 c5) 58);have ad:=aJ aM;have HB:=aJ (da.new w 58 (J a1 (D u.aA) c1) (J a2 (D u.aE) c2) (J a3 (D u.aG) c3) (J a4 (D u.aC) c4) (J a5 (D u.aD) c5));have HH:=aJ h2;obtain⟨p0,p1,p2,p3,p4,_⟩:=HB.j;go_enter func100,ntmps100
 go_wp2_with fail;refine(ak _).j.mono ?_;generalize w.alloc _=W at HB ad |-;rintro x w1 ⟨rfl,S5⟩;have Td:=aJ S5;go_wp2_with fail;go_loopw[5,7] (λs i wr=>∃k:R,i=O Z k/\k<=D u.aE/\s=.string ⟨(eA (dE) u.aE k).toArray⟩/\Gr W wr) λ_ i _=>D u.aE-(intOf i).toNat
 case atStart=>exact QN
 obtain⟨k,rfl,hk,rfl,hg⟩:=hrel;have HG:=aJ hg;obtain⟨p0,p1,p2,p3,p4,_⟩:=HB.gr hg;by_cases IN:k<D u.aE
 · obtain⟨a9,c9,al,_,az⟩:=HH.j;simp only[jj,Bt]at al;have aH:=ad.trans hg;have ax:=aB k;obtain⟨b1,o1,rfl,ay⟩:=az k IN;obtain⟨rfl,rfl⟩:=al;have af:u.aE[k]? =Y (u.aE.getD k 0):=by simp[mh,IN]
   have ae:=aH.cell ay Q6;have HS:=aJ (ie (f:=dE) af);have d:=aF _ (dL af);generalize u.aE.getD k 0=x at HS ae d;have ai:=λV=>aJ (sY x d.1 d.2 V)
   have aL:=dJ (qC x);generalize a6:eA _ _ k=Tq at ax HS |-;have av:U (eA _ _ _=Tq++num _):=HS;generalize num _=U' at av ai aL;go_wp2_with fail;refine(ai _).j.mono ?_;rintro y w2 ⟨rfl,IT⟩;have OF:=aJ (HG.trans IT);go_wp2_with fail;exact⟨⟨_,Q6,IN,by rw[av,dv],OF⟩,Qh⟩
 have aI:k=D u.aE:=by omega
 subst aI;have HE:=aJ (kl (f:=dE) Q5);go_wp2_with fail;go_ret
 exact⟨by unfold rq;rw[HE];rfl,ad.trans HG⟩
theorem Ck(u:aK)(v:M)(w:T)(hR:bV w v u)(hT:lR w)(Tb:bG u=AT)(hF:tm u):
 Calls prog 100 #[v,O Z 3] w λx w'=>x=.returned (.string ⟨(tH u).toArray⟩)/\Gr w w':=by
 obtain⟨v1,v2,v3,v4,v5,rfl,h1,h2,h3,h4,h5⟩:=hR;obtain⟨a1,c1,rfl⟩:=h1.shape;obtain⟨a2,c2,rfl⟩:=h2.shape;obtain⟨a3,c3,rfl⟩:=h3.shape;obtain⟨a4,c4,rfl⟩:=h4.shape;obtain⟨a5,c5,rfl⟩:=h5.shape;have ad:=jA Tb;have bF:=λk=>wz (lr _ _ k) ad.b3
 have bL:=aJ ad;have b0:=aJ Tb;have b5:=aJ hT;have b8:D u.aG<=50:=by
  exact OQ
 have ay:=λV=>aJ (dr (D u.aG) Q5 Q5 V)
 simp only[A7]at ay;have bj:=Gr.alloc (Gr.refl w) (X (yE u a1 c1 a2 c2 a3 c3 a4 c4 a5 c5) 58);have aF:=aJ bj;have HB:=aJ (da.new w 58 (J a1 (D u.aA) c1) (J a2 (D u.aE) c2) (J a3 (D u.aG) c3) (J a4 (D u.aC) c4) (J a5 (D u.aD) c5));have HH:=aJ h3;clear h1 h2 h3 h4 h5 ad Tb hF hT bj;obtain⟨p0,p1,p2,p3,p4,_⟩:=HB.j;go_enter func100,ntmps100
 go_wp2_with fail;clear p0 p1 p2 p3 p4;refine(ay _).j.mono ?_;generalize w.alloc _=W at HB aF |-;rintro x w1 ⟨rfl,S5⟩;have Td:=aJ S5;clear S5 ay;go_wp2_with fail;go_loopw[5,8] (λs i wr=>∃k:R,i=O Z k/\k<=D u.aG/\s=.string ⟨(eA (d_) u.aG k).toArray⟩/\Gr W wr) λ_ i _=>D u.aG-(intOf i).toNat
 case atStart=>exact QN
 obtain⟨k,rfl,hk,rfl,hg⟩:=hrel;have HG:=aJ hg;obtain⟨p0,p1,p2,p3,p4,_⟩:=HB.gr hg;by_cases IN:k<D u.aG
 · obtain⟨a9,c9,bt,_,bp⟩:=HH.j;simp only[jj,Bt]at bt;have F:=aF.trans hg;have b2:=bF k;have ak:=dW IN;obtain⟨b1,o1,y1,y2,y3,rfl,bo,Tx,bB,bk,aL,T2,ax⟩:=bp k _ ak;obtain⟨rfl,rfl⟩:=bt;have a8:=F.cell bo Q6;have av:=F.cell Tx Q6;have a':=F.cell bB Q6;have a7:=F.cell bk Q6;have HS:=aJ (ie (f:=d_) ak);have d:=bL.f3 _ (dL ak);have a6:=by
    have:=b0.j
    rw[gl]at this;simp only[sQ]at this;exact zl.1 this.2.2.1 _ (dL ak)
   have al:u.aG[k].aH.length<=6/\u.aG[k].aI.length<=10/\u.aG[k].code.length<=200:=by
    rw[ud]at a6;simp only[sQ,xw,wB]at a6;omega
   have R1:=aL.gr F;have R2:=T2.gr F;have R3:=ax.gr F;have T3:=b5.gr F;have s1:=aL.shape;have s2:=T2.shape;have s3:=ax.shape;generalize b4:eA _ _ k=Tq at b2 HS |-;generalize u.aG[k]=f at HS d al R1 R2 R3 s1 s2 s3 av;obtain⟨pa,pc,rfl⟩:=s1;obtain⟨la,lc,rfl⟩:=s2;obtain⟨ca,cc,rfl⟩:=s3;have ai:=Gr.alloc (Gr.refl wr) (X #[J pa (D f.aH) pc,O Z f.result,J la (D f.aI) lc,J ca (D f.code) cc] 74);have aM:=aJ (gd.new wr 74 (J pa (D f.aH) pc) (O Z f.result) (J la (D f.aI) lc) (J ca (D f.code) cc));have hP:=λV g=>aJ (qB _ _ V ((R1.gr ai).gr g) Q5 d.1)
   have hL:=λV g=>aJ (qB _ _ V ((R2.gr ai).gr g) Q5 d.2.2.1)
   have hC:∀V,Gr (wr.alloc (X #[J pa (D f.aH) pc,O Z f.result,J la (D f.aI) lc,J ca (D f.code) cc] 74)) V->U _:=λV _=>aJ (dr _ d.2.1.1 d.2.1.2 V)
   have hD:=λV g=>aJ (FO _ _ V ((R3.gr ai).gr g) ((T3.gr ai).gr g) Q5 d.2.2.2)
   have q1:=fw al.1;have q2:=fw al.2.1;have q3:=dJ f.result.toNat;have q4:=j8 (λy _=>sj y) al.2.2;have ae:U (eA _ _ _=(((Tq++bu f.aH)++bu f.aI)++num f.result.toNat)++fM cq f.code):=aJ (by rw[HS];unfold d_;simp);have bg:=aJ (HG.trans ai);generalize bu _=U1 at hP q1 ae;generalize bu _=U2 at hL q2 ae;generalize num _=U3 at hC q3 ae;generalize fM _ _=U4 at hD q4 ae;obtain⟨X1,a0⟩:∃Xq,Xq=Tq++U1:=⟨_,rfl⟩;obtain⟨X2,az⟩:∃Xq,Xq=X1++U2:=⟨_,rfl⟩;obtain⟨X3,aB⟩:∃Xq,Xq=X2++U3:=⟨_,rfl⟩;obtain⟨X4,bC⟩:∃Xq,Xq=X3++U4:=⟨_,rfl⟩;have t1:=dv Tq U1;have t2:=dv X1 U2;have t3:=dv X2 U3;have t4:=dv X3 U4;rw[<-a0]at t1 ae;rw[<-az]at t2 ae;rw[<-aB]at t3 ae;rw[<-bC]at t4 ae;have z1:D U1<=5000:=Q5;have z2:D U2<=5000:=Q5;have z3:D U3<=5000:=Q5;have z4:D U4<=5000:=Q5;have x1:D X1<=1010000:=by rw[a0,fe];omega
   have x2:D X2<=1020000:=by rw[az,fe];omega
   have x3:D X3<=1030000:=by rw[aB,fe];omega
   clear a0 az aB bC q1 q2 q3 q4;clear bp bo Tx bB bk hg ak d a6 al aL T2 ax b4 F p0 p1 p3 p4 ai;go_wp2_with fail;clear a8 av a' a7 p2;have TA:Gr (wr.alloc (X #[J pa (D f.aH) pc,O Z f.result,J la (D f.aI) lc,J ca (D f.code) cc] 74)) _:=Gr.drew G0;obtain⟨f0,f1,f2,f3,_⟩:=aM.j;generalize b7:wr.heap.size=fb at f0 f1 f2 f3 aM |-;generalize wr.alloc _=W2 at bg aM hP hL hC hD TA f0 f1 f2 f3 |-;go_region_held (λw'=>H w' (Q fb 0 G)=Y (J pa (D f.aH) pc)/\H w' (Q fb 1 G)=Y (O Z f.result)/\H w' (Q fb 2 G)=Y (J la (D f.aI) lc)/\H w' (Q fb 3 G)=Y (J ca (D f.code) cc)) (first|exact⟨af.cell f0 Q6,af.cell f1 Q6,af.cell f2 Q6,af.cell f3 Q6⟩|go_keep) (first|(go_at_call_of 140 (J pa (D f.aH) pc);refine(hP _ ?_).j.mono ?_;assumption;rintro y w' ⟨rfl,BY⟩;have af:=Gr.trans Q8 BY)|(go_at_call_of 140 (J la (D f.aI) lc);refine(hL _ ?_).j.mono ?_;assumption;rintro y w' ⟨rfl,BY⟩;have af:=Gr.trans Q8 BY)|(go_at_call 101;refine(hC _ ?_).j.mono ?_;assumption;rintro y w' ⟨rfl,BY⟩;have af:=Gr.trans Q8 BY)|(go_at_call 142;refine(hD _ ?_).j.mono ?_;assumption;rintro y w' ⟨rfl,BY⟩;have af:=Gr.trans Q8 BY))
   all_goals go_wp2_with fail
   all_goals exact⟨⟨k+1,Q6,IN,by rw[ae.j],bg.j.trans af⟩,Qh⟩
 · have b6:k=D u.aG:=by omega
   subst b6;have HE:=aJ (kl (f:=d_) Q5);clear hg;go_wp2_with fail;go_ret
   exact⟨by unfold tH;rw[HE];rfl,aF.trans HG⟩
end Go.Proofs.YtghjmnlapcpbiaaGreatDoor
