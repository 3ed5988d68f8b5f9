import Derived.Test.YtghjmnlapcpbiaaGreatDoorL4
namespace Go.Proofs.YtghjmnlapcpbiaaGreatDoor
open _root_ renaming Option.some->Y,Option.none->G,Go.Value.int->O,Go.IntKind.i64->Z,Go.Value.slice->J,List->I,Nat->R,Int->A,Go.World.cell?->H,List.length->D,Go.Obj.cells->X,Go.Value->M,Go.World->T,Go.Addr.mk->Q,Go.RowKit.Hid->U,UInt8->AI,Bool.false->AS,Bool.true->AT,Option->By
open Go.Proofs.Tryz
set_option maxRecDepth 100000
set_option maxHeartbeats 4000000
set_option linter.unusedVariables false
set_option linter.unusedSimpArgs false
open Go.RowKit
variable{sh:I (I A)}{b:I AI}{xs:I M}{fs:I aQ}{B base k:R}{ob:By R}{e:TypeId}{v3:M}{w3:T}
def mj{α:Type}(f:I AI->Bool->α×I AI×Bool)(r:I AI):I α×I AI×Bool:=
 dF f (iS (bm r AS).2.1 (bm r AS).2.2).2.1 (iS (bm r AS).2.1 (bm r AS).2.2).2.2
def dz{α:Type}(k:R)(f:I AI->Bool->α×I AI×Bool)(g:α->I AI)(OOq:I α->Bool)(r:I AI):By (I α×I AI):=
 if (mj f r).2.2=AS/\OOq (mj f r).1=AT/\r.take (D (iY k (fM g (mj f r).1)))=iY k (fM g (mj f r).1) then Y ((mj f r).1,r.drop (D (iY k (fM g (mj f r).1)))) else G
theorem pm:∀(k v un:R) (r:I AI) (bad:Bool),(lq k v un r bad).1<18446744073709551616
 | 0,v,un,r,bad=>by simp[lq]
 | k+1,v,un,r,bad=>by
  rw[lq];split
  · exact Nat.mod_lt _ Q9
  exact pm k _ _ _ _
theorem GX(r:I AI)(bad:Bool):(iS r bad).1<18446744073709551616:=pm _ _ _ _ _
theorem uH{n:R}(h:n<18446744073709551616):Fx (kK n):=by unfold Fx kK;split<;>omega
theorem qs(r:I AI)(bad:Bool):Fx (b_ r bad).1:=uH (GX _ _)
theorem mU{α:Type}{f:I AI->Bool->α×I AI×Bool}{F:α->Prop}(d:∀r bad,F (f r bad).1):∀(k:R) (r:I AI) (bad:Bool),∀y∈(be f k r bad).1,F y
 | 0,r,bad,y,h=>by simp[be]at h
 | k+1,r,bad,y,h=>by
  rw[be]at h;split at h
  · simp at h
  simp only[Ce]at h;rcases h with rfl|h
  · exact d _ _
  exact mU d k _ _ y h
theorem uh{α:Type}{rd:I AI->By (α×I AI)}{F:α->Prop}(hf:∀r y r',rd r=Y (y,r')->F y):∀(n:R) (r:I AI) (ys:I α) (r':I AI),jf rd n r=Y (ys,r')->∀y∈ys,F y
 | 0,r,ys,r',h,y,hy=>by
  simp only[jf,qN,H9]at h;rw[<-h.1]at hy;simp at hy
 | n+1,r,ys,r',h,y,hy=>by
  simp only[jf]at h;cases h1:rd r with
  | none=>rw[h1]at h;simp at h
  | some p=>
   obtain⟨z,r1⟩:=p;rw[h1]at h;simp only at h;cases d:jf rd n r1 with
   | none=>rw[d]at h;simp at h
   | some q=>
    obtain⟨zs,r2⟩:=q;rw[d]at h;simp only[qN,H9]at h;rw[<-h.1]at hy;rcases Ce.1 hy with rfl|hy
    · exact hf _ _ _ h1
    exact uh hf n _ _ _ d y hy
theorem AL{α:Type}{rd:I AI->By (α×I AI)}{F:α->Prop}(hf:∀r y r',rd r=Y (y,r')->F y){r r':I AI}{ys:I α}(h:bW k (aV rd) r=Y (ys,r')):∀y∈ys,F y:=by
 unfold bW at h;cases h1:eK k r with
 | none=>rw[h1]at h;simp at h
 | some p=>
  obtain⟨b,r1⟩:=p;rw[h1]at h;simp only at h;cases h2:cY (aV rd) b with
  | none=>rw[h2]at h;simp at h
  | some zs=>
   rw[h2]at h;simp only[qN,H9]at h;rw[<-h.1];unfold cY at h2;cases d:aV rd b with
   | none=>rw[d]at h2;simp at h2
   | some q=>
    obtain⟨ad,r3⟩:=q;rw[d]at h2;unfold aV at d;cases h4:cW 0 0 b with
    | none=>rw[h4]at d;simp at d
    | some q4=>
     obtain⟨n,r4⟩:=q4;rw[h4]at d;simp only at d;split at d
     · have:=uh hf n _ _ _ d
       cases r3 with
       | nil=>simp only[qN]at h2;rw[<-h2];exact this
       | cons a l=>simp at h2
     simp at d
theorem A9:∀r y r',bn r=Y (y,r')->Fx y:=by
 intro r y r' h;unfold bn at h;rw[AF]at h;obtain⟨p,F,d⟩:=h;simp only[H9]at d;rw[<-d.1];exact uH (mt r 0 0 Q6 Q9 _ _ F)
theorem B_{r r':I AI}(h:r=b++r'):r.take (D b)=b/\r.drop (D b)=r':=by rw[h];simp
theorem BS{r:I AI}(h:r.take (D b)=b):r=b++r.drop (D b):=by
 have:=KV (D b) r
 rw[h]at this;exact this.symm
def ym{α:Type}(OOq:I α->Bool):By (I α×I AI)->By (I α×I AI)
 | none=>G
 | some (y,r')=>if OOq y=AS then G else Y (y,r')
theorem nE{α:Type}{rd:I AI->By (α×I AI)}{g:α->I AI}{f:I AI->Bool->α×I AI×Bool}{d:I α->Bool}{F QQq:α->Prop}(hk:k<256)(hinv:DS rd g)
 (af:∀y,d y=AT->(∀x∈y,F x)->cY (aV rd) (fM g y)=Y y) (hl:rF f g QQq) (hQ:∀y,d y=AT->(∀x∈y,F x)->D y<=50/\∀x∈y,QQq x) (hs:∀r y r',rd r=Y (y,r')->F y) (Vf:∀r bad,F (f r bad).1) (r:I AI) (hr:D r<=20000):
 dz k f g d r=ym d (bW k (aV rd) r):=by
 have key:∀y r',d y=AT->(∀x∈y,F x)->r=iY k (fM g y)++r'->mj f r=(y,(mj f r).2.1,AS):=by
  intro y r' hO hF he;have TQ:D (fM g y)<=20000:=by
   have:=lh k (fM g y)
   have h2:D (iY k (fM g y))<=D r:=by rw[he,fe];omega
   omega
  obtain⟨q1,q2⟩:=hQ y hO hF;have ad:bm (iY k (fM g y)++r') AS=((UInt8.ofNat k).toNat,num (D (fM g y))++(fM g y++(vP (ri (fM g y)) 4++r')),AS):=by
   unfold iY;simp only[zx,List.singleton_append,Ls,Kj,bm]
  unfold mj;rw[he,ad];simp only;rw[se _ _ _ (by show _<_;omega)];simp only;rw[CJ hl y _ q1 q2]
 cases h:bW k (aV rd) r with
 | some p=>
  obtain⟨y,r'⟩:=p;obtain⟨he,_⟩:=E9 (tF hinv) h;have hF:=AL hs h;simp only[ym];cases hO:d y with
  | true=>
   have ad:=key y _ hO hF he;obtain⟨t1,t2⟩:=B_ he;unfold dz;rw[ad];simp only[hO,t1,t2,and_self,KA];simp
  | false=>
   simp only[KA];unfold dz;refine eP ?_;rintro⟨_,c2,c3⟩;have ae:∀x∈(mj f r).1,F x:=mU Vf _ _ _;have h2:=xq (r:=r.drop (D (iY k (fM g (mj f r).1)))) hk (by
    have:=lh k (fM g (mj f r).1)
    have h3:=congrArg List.length c3;rw[Bc]at h3;omega) (af _ c2 ae)
   rw[<-BS c3,h]at h2;simp only[qN,H9]at h2;rw[h2.1,c2]at hO;cases hO
 | none=>
  unfold dz;refine eP ?_;rintro⟨_,c2,c3⟩;have ae:∀x∈(mj f r).1,F x:=mU Vf _ _ _;have h2:=xq (r:=r.drop (D (iY k (fM g (mj f r).1)))) hk (by
   have:=lh k (fM g (mj f r).1)
   have h3:=congrArg List.length c3;rw[Bc]at h3;omega) (af _ c2 ae)
  rw[<-BS c3,h]at h2;cases h2
def Ab(sh:I (I A))(cs:I A)(fs:I aQ)(im:I eL)(ex:I cJ):Bool:=bG ⟨sh,cs,fs,im,ex⟩
theorem kO(n m:A):cm []=AT/\cO [] n=AT/\cG [] n=AT/\cH [] m=AT:=by
 refine⟨?_,?_,?_,?_⟩<;>simp[cm,cO,cG,cH,wB]
theorem Dl(sh:I (I A)):Ab sh [] [] [] []=bh sh:=by
 obtain⟨F,d,h3,h4⟩:=kO (D sh) 0;unfold Ab bG;simp only[F,d,h3,MZ,LW,Int.natCast_zero,h4,M0]
theorem Ez(h:bh sh=AT)(cs:I A):Ab sh cs [] [] []=cm cs:=by
 obtain⟨h1,d,F,h4⟩:=kO (D sh) 0;unfold Ab bG;simp only[h,d,F,MZ,LW,Int.natCast_zero,h4,M0]
theorem xR{cs:I A}(h:bh sh=AT)(F:cm cs=AT)(fs:I aQ):Ab sh cs fs [] []=cO fs (D sh):=by
 obtain⟨h1,h2,d,h4⟩:=kO (D sh) (D fs);unfold Ab bG;simp only[h,F,d,h4,MZ,M0]
theorem BK{cs:I A}(h:bh sh=AT)(F:cm cs=AT)(hf:cO fs (D sh)=AT)(im:I eL):Ab sh cs fs im []=cG im (D sh):=by
 obtain⟨h1,h2,h3,d⟩:=kO (D sh) (D fs);unfold Ab bG;simp only[h,F,hf,d,MZ,M0]
theorem B8{cs:I A}{im:I eL}(h:bh sh=AT)(d:cm cs=AT)(F:cO fs (D sh)=AT)(hi:cG im (D sh)=AT)(ex:I cJ):Ab sh cs fs im ex=cH ex (D fs):=by
 unfold Ab bG;simp only[h,d,F,hi,MZ]
theorem tQ{n:A}(d:n<=65535){x:A}(h:iH n x=AT):0<=x/\x<=65535:=by
 have:=fh h;omega
theorem pE{n:A}(d:n<=65535){l:I A}(h:l.all (iH n)=AT):∀y∈l,0<=y/\y<=65535:=λy hy=>tQ d (zl.1 h y hy)
theorem ph:∀x∈([]:I A),-9223372036854775808<=x/\x<=9223372036854775807:=Q6
theorem F5(r:I AI)(hr:D r<=20000):dz 1 au bu bh r=ym bh (bW 1 (aV cP) r):=
 nE (k:=1) (F:=λ_=>True) Q9 nx (λy h _=>(j6 (u:=⟨y,[],[],[],[]⟩) (by have:=Dl y;unfold Ab at this;rw[this];exact h) ph).b1) oB
  (λy h _=>by
   unfold bh at h;simp only[sQ]at h;have h1:=fh h.1;refine⟨Q5,λx hx=>?_⟩;have d:=zl.1 h.2 x hx;unfold dM at d;simp only[sQ]at d;have h3:=fh d.1;exact⟨Q5,pE Q5 d.2⟩) (λ_ _ _ _=>trivial) (λ_ _=>trivial) r hr
theorem GT(d:bh sh=AT)(r:I AI)(hr:D r<=20000):dz 2 b_ dE cm r=ym cm (bW 2 (aV bn) r):=
 nE (k:=2) (F:=Fx) Q9 tN (λy h hF=>(j6 (u:=⟨sh,y,[],[],[]⟩) (by have:=Ez d y;unfold Ab at this;rw[this];exact h) hF).b2) qj
  (λy h hF=>⟨by have:=fh h;omega,hF⟩) A9 qs r hr
theorem DO(d:bh sh=AT)(r:I AI)(hr:D r<=20000):dz 3 fL d_ (λy=>cO y (D sh)) r=ym (λy=>cO y (D sh)) (bW 3 (aV dR) r):=
 nE (k:=3) (F:=λ_=>True) Q9 Fk (λy h _=>(j6 (u:=⟨sh,[],y,[],[]⟩) (by have:=xR d (kO 0 0).1 y;unfold Ab at this;rw[this];exact h) ph).b3) Cp
  (λy h _=>by
   unfold bh at d;simp only[sQ]at d;have h0:=fh d.1;unfold cO at h;simp only[sQ]at h;have h1:=fh h.1;refine⟨Q5,λx hx=>?_⟩;have h2:=zl.1 h.2 x hx;unfold dA iG ir at h2;simp only[sQ]at h2;obtain⟨⟨k1,k2,k3⟩,k4,k5,k6,k7⟩:=h2;have q1:=fh k1;have q4:=fh k4;have q6:=fh k6;exact⟨⟨Q5,pE Q5 k2⟩,⟨Q5,pE Q5 k5⟩,tQ Q5 k3,Q5,k7⟩) (λ_ _ _ _=>trivial) (λ_ _=>trivial) r hr
theorem Dt(d:bh sh=AT)(r:I AI)(hr:D r<=20000):dz 4 jQ fQ (λy=>cG y (D sh)) r=ym (λy=>cG y (D sh)) (bW 4 (aV er) r):=
 nE (k:=4) (F:=λ_=>True) Q9 G8 (λy h _=>(j6 (u:=⟨sh,[],[],y,[]⟩) (by have:=BK d (kO 0 0).1 (kO _ 0).2.1 y;unfold Ab at this;rw[this];exact h) ph).b4) ED
  (λy h _=>by
   unfold bh at d;simp only[sQ]at d;have h0:=fh d.1;unfold cG at h;simp only[sQ]at h;have h1:=fh h.1;refine⟨Q5,λx hx=>?_⟩;have h2:=zl.1 h.2 x hx;unfold gC fC iG at h2;simp only[sQ]at h2;obtain⟨k0,k1,k2,k3⟩:=h2;have q0:=fh k0;have q1:=fh k1;exact⟨Q5,⟨Q5,pE Q5 k2⟩,tQ Q5 k3⟩) (λ_ _ _ _=>trivial) (λ_ _=>trivial) r hr
theorem Ff(ad:bh sh=AT)(d:cO fs (D sh)=AT)(r:I AI)(hr:D r<=20000):dz 5 jN fU (λy=>cH y (D fs)) r=ym (λy=>cH y (D fs)) (bW 5 (aV fH) r):=
 nE (k:=5) (F:=λ_=>True) Q9 Gd (λy h _=>(j6 (u:=⟨sh,[],fs,[],y⟩) (by have:=B8 ad (kO 0 0).1 d (kO _ 0).2.2.1 y;unfold Ab at this;rw[this];exact h) ph).b5) Ec
  (λy h _=>by
   unfold cO at d;simp only[sQ]at d;have h0:=fh d.1;unfold cH at h;simp only[sQ]at h;have h1:=fh h.1;refine⟨Q5,λx hx=>?_⟩;have h2:=zl.1 h.2 x hx;unfold fi fC at h2;simp only[sQ]at h2;have q0:=fh h2.1;have q1:=fh h2.2;exact⟨Q5,Q5,Q5⟩) (λ_ _ _ _=>trivial) (λ_ _=>trivial) r hr
attribute [local go_sem ↓] Go.wp_at_zero Go.wp_at_succ
theorem OJ{p:Prop}(h:p:=by
 go_wp2;go_ret
 rw[HE];exact⟨_,rfl,rfl,UD,(by first|exact Td.j|exact Td.j.drew)⟩):p:=h
theorem SV{p:Prop}(h:p:=by first|exact Td.j.set 2 _|exact(Td.j.set 2 _).drew):p:=h
theorem fR(most:R)(ad:most<=65535)(rb:R)(s:ByteArray)(r:I AI)(bad:Bool)(w:T)(h:lW w rb s r bad):
 Calls prog 92 #[.pointer (Y (Q rb 0 G)),O Z (most:A)] w (Ic rb s w (λ_ v (n:A)=>v=O Z n) (aZ most r bad)):=by
 have HN:=aJ (qO _ s r _ w h);have IN:=pm 10 0 1 r bad;have F:U (aZ _ r _=if most<(iS r _).1 then (0,(iS r _).2.1,AT) else (((iS r bad).1:A),(iS r _).2)):=aJ rfl;change (iS r bad).1<_ at IN
 generalize iS r _=L at HN F IN;obtain⟨n,r2,b2⟩:=L;simp only at F IN;have ae:IntKind.u64.wrap _=most:=FP _ Q5;go_enter func92,ntmps92
 go_wp2_with fail;refine HN.mono ?_;rintro x w1 ⟨v1,rfl,rfl,d,S5⟩;have UD:=aJ d;have Td:=aJ S5;obtain⟨c2,z2⟩:=d.bad;simp only at UD c2 z2;by_cases hm:most<n
 · have hi:(most:A)<n:=by omega
   have HE:U (aZ _ r _=(0,r2,AT)):=aJ (by rw[F,mI hm]);go_wp2;go_ret
   rw[HE];exact⟨_,rfl,rfl,UD.spoil,SV⟩
 have hi:¬((most:A)<n):=by omega
 have HE:U (aZ _ r _=((n:A),r2,b2)):=aJ (by rw[F,eP hm]);have af:Z.wrap _=n:=Q_;exact OJ
theorem uK(rb:R)(s:ByteArray)(r:I AI)(bad:Bool)(w:T)(h:lW w rb s r bad):
 Calls prog 94 #[.pointer (Y (Q rb 0 G))] w (Ic rb s w (λ_ v (n:A)=>v=O Z n) (b_ r bad)):=by
 have HN:=aJ (qO _ s r _ w h);have IN:=pm 10 0 1 r bad;have HS:U (b_ r bad=(kK _,(iS r _).2)):=aJ rfl;change (iS r bad).1<_ at IN
 generalize iS r _=L at HN HS IN;obtain⟨n,r2,b2⟩:=L;simp only at HS IN;obtain⟨m,hm⟩:∃m,m=n/2:=⟨_,rfl⟩;obtain⟨o,ho⟩:∃o,o=n%2:=⟨_,rfl⟩;have ht:(n:A).tmod 2=o:=R0
 have hd:(n:A).tdiv 2=m:=R4
 have ad:m<9223372036854775808:=Q5;have af:Z.wrap _=m:=Q_;have ak:Z.wrap _=-m:=Q_;have ae:Z.wrap _=-m-1:=Q_;have al:IntKind.u64.wrap _=m:=FP _ Q5;have ai:IntKind.u64.wrap _=o:=FP _ Q5;have HU:U (kK n=if o=1 then -(m:A)-1 else m):=aJ (by unfold kK;subst hm;subst ho;rfl);clear h hm ho;go_enter func94,ntmps94
 go_wp2_with fail;refine HN.mono ?_;rintro x w1 ⟨v1,rfl,rfl,d,S5⟩;have UD:=aJ d;have Td:=aJ S5;clear d S5;simp only at UD;by_cases F:o=1
 · have hi:((o:A)==1)=AT:=by simp[F]
   have HE:U (b_ r _=(-(m:A)-1,r2,b2)):=aJ (by rw[HS,HU,mI F]);clear F;exact OJ
 have hi:((o:A)==1)=AS:=QL
 have HE:U (b_ r _=((m:A),r2,b2)):=aJ (by rw[HS,HU,eP F]);clear F;exact OJ
theorem fJ(most:R)(r:I AI)(bad:Bool):0<=(aZ most r bad).1/\(aZ most r bad).1<=most:=by
 unfold aZ;split<;>simp<;>omega
theorem zB(s:ByteArray)(a b:R):s.extract a b=⟨((s.data.toList.drop a).take (b-a)).toArray⟩:=by
 have h:(s.extract a b).data.toList=(s.data.toList.drop a).take (b-a):=by simp[Mz,List.drop_take]
 rw[<-h]
theorem BG(rb:R)(s:ByteArray)(r:I AI)(bad:Bool)(w:T)(h:lW w rb s r bad):
 Calls prog 96 #[.pointer (Y (Q rb 0 G))] w (Ic rb s w (λ_ v (y:I AI)=>v=.string ⟨y.toArray⟩) (fP r bad)):=by
 have HN:=aJ (fR 20 Q9 _ s r _ w h);have ae:=fJ 20 r bad;have HS:U (fP r _=if (aZ _ r _).2.1.length<(aZ _ r _).1.toNat then ([],(aZ _ r _).2.1,AT)
  else ((aZ _ r _).2.1.take _,(aZ _ r bad).2.1.drop _,(aZ _ r _).2.2)):=aJ rfl
 generalize aZ _ r _=L at HN HS ae;obtain⟨n0,r2,b2⟩:=L;simp only at HS ae;obtain⟨n,rfl⟩:∃n:R,n0=n:=⟨n0.toNat,Q5⟩;have hn:n<=20:=Q5;simp only[A7]at HS;go_enter func96,ntmps96
 go_wp2_with fail;refine HN.mono ?_;rintro x w1 ⟨v1,rfl,rfl,F,S5⟩;simp only at F;obtain⟨q,d,T2⟩:=F;have HA:=aJ d;have Td:=aJ S5;have ad:=aJ T2;have hlen:D r2=s.size-q:=by rw[T2,J2,Aj];rfl
 obtain⟨c0,c1,c2,cz⟩:=d.cells;have z1:=cz 1;have z2:=cz 2;have hq:=d.2.1;have hs:=d.2.2;have ak:Z.wrap _=q+n:=Q_;by_cases IN:s.size<q+n
 · have hi:s.size<(q:A)+n:=by omega
   have HE:U (fP r _=([],r2,AT)):=aJ (by rw[HS,mI Q5]);go_wp2_with fail;go_region_held3 (λw'=>H w' (Q rb 0 G)=Y (.string s)/\H w' (Q rb 1 G)=Y (O Z (q:A))) (go_keep) (fail)
   go_wp2;go_ret
   rw[HE];exact⟨_,rfl,rfl,⟨q,HA.spoil,ad⟩,SV⟩
 have hi:¬(s.size<(q:A)+n):=by omega
 have HE:U (fP r _=(r2.take n,r2.drop n,b2)):=aJ (by rw[HS,eP Q5]);have hc:((q+n:R):A)=q+n:=Q5;have HN:=aJ (HA.step (q+n) Q5);rw[hc]at HN;obtain⟨e0,e1,-,-⟩:=HN.cells;rw[hc]at e1;have OF:U (Gc _ w (w1.setCell _ (O Z (q+n)))):=aJ (Td.set 1 _);have al:Z.wrap (q+n-n)=q:=Qq
 have ai:Z.wrap _=q:=Q_;have TI:(0:A)<=q:=Q5;have S9:q<=(q:A)+n:=Q5;have af:q+(n:A)<=s.size:=Q5;have ht:((q:A)+n).toNat=q+n:=Q5;go_wp2_with fail;go_region_held3 (λw'=>H w' (Q rb 0 G)=Y (.string s)/\H w' (Q rb 1 G)=Y (O Z (q:A))) (go_keep) (fail)
 go_wp2;generalize w1.setCell _ _=W at e0 e1 HN OF |-;go_region_held3 (λw'=>H w' (Q rb 0 G)=Y (.string s)/\H w' (Q rb 1 G)=Y (O Z ((q:A)+(n:A)))) (go_keep) (fail)
 go_wp2;go_ret
 rw[HE];refine⟨_,rfl,?_,⟨_,HN,by rw[ad,List.drop_drop]⟩,(by first|exact OF.j|exact OF.j.drew|exact OF.j.drew.drew)⟩;show Value.string (s.extract q (q+n))=_
 rw[zB,ad,Nat.add_sub_cancel_left]
theorem lW.grown{w w':T}{rb:R}{s:ByteArray}{r:I AI}{bad:Bool}(h:lW w rb s r bad)(g:w.grownBy w' ob)(No:∀k,ob=Y k->k≠rb):lW w' rb s r bad:=by
 obtain⟨q,d,F⟩:=h;exact⟨q,⟨(g.block _ (bM d.1) λe=>No _ e.symm rfl).trans d.1,d.2⟩,F⟩
theorem lW.lt{w:T}{rb:R}{s:ByteArray}{r:I AI}{bad:Bool}(h:lW w rb s r bad):rb<w.heap.size:=by
 obtain⟨q,d,_⟩:=h;exact bM d.1
theorem DM{mb:R}{w wr w':T}(h:Gc mb w wr)(g:wr.grownBy w' ob)(d:∀k,ob=Y k->w.heap.size<=k):Gc mb w w':=
 ⟨g.os.trans h.os,g.tape.trans h.tape,g.output.trans h.output,wz h.size g.size,λi hi No=>(g.block i (tu hi h.size) λe=>by have:=d i e.symm;omega).trans (h.block i hi No)⟩
theorem g_{w:T}{n:R}{v:M}{len:R}(h:w.ownsRow base e n v len xs):∀k,v.ownBlock=Y k->base<=k:=by
 intro k d;rcases h.2 with⟨rfl,_⟩|⟨g,cap,cur,rfl,F,_⟩
 · simp[Value.ownBlock]at d
 simp[Value.ownBlock]at d;omega
theorem cN{w:T}{n:R}{v:M}{len:R}(h:w.ownsRow base e n v len xs):∃ao co,v=J ao len co:=by
 obtain⟨F,d⟩:=h;rcases d with⟨rfl,rfl⟩|⟨g,cap,cur,rfl,_⟩
 · exact⟨G,0,by simp_all⟩
 exact⟨_,_,rfl⟩
def Df(l:I A):I M:=l.map λx=>O Z x
theorem rL(rb:R)(s:ByteArray)(r:I AI)(bad:Bool)(w:T)(h:lW w rb s r bad):
 Calls prog 93 #[.pointer (Y (Q rb 0 G))] w (Ic rb s w (λw' v (y:I A)=>w'.ownsRow w.heap.size 3 1 v (D y) (Df y)) (au r bad)):=by
 have HN:=aJ (fR 20 Q9 _ s r _ w h);have ai:=fJ 20 r bad;have hrb:=h.lt;have HS:U (au r bad=kz _ _ _ _):=aJ rfl;generalize aZ _ r _=L at HN HS ai;obtain⟨n0,r2,b2⟩:=L;simp only at HS ai;obtain⟨n,rfl⟩:∃n:R,n0=n:=⟨n0.toNat,Q5⟩;have hn:n<=20:=Q5;simp only[A7]at HS;go_enter func93,ntmps93
 go_wp2_with fail;refine HN.mono ?_;rintro x w1 ⟨v1,rfl,rfl,ad,S5⟩;simp only at ad;have UD:=aJ ad;have Td:=aJ S5;go_wp2_with fail;go_loopw[3,4] (λl i wr=>∃(k:R) (ys:I A) (F:I AI) (bk:Bool),i=O Z (k:A)/\D ys+k<=20/\wr.ownsRow w.heap.size 3 1 l (D ys) (Df ys)/\lW wr rb s F bk/\Gc rb w wr/\kz (aZ 65535) n r2 b2=(ys++(kz (aZ 65535) k F bk).1,(kz (aZ 65535) k F bk).2)) λ_ i _=>(intOf i).toNat
 case atStart=>exact⟨n,[],_,_,rfl,by simpa using hn,⟨rfl,.inl ⟨rfl,rfl⟩⟩,UD,Td,Q6⟩
 obtain⟨k,ys,F,bk,rfl,aA,Tf,az,ay,hT⟩:=hrel;have TY:=aJ Tf;have al:=aJ az;have ak:=aJ ay;have Vz:=aJ hT;obtain⟨ao,co,rfl⟩:=cN Tf;by_cases hk:0<k
 · obtain⟨j,rfl⟩:∃j,k=j+1:=⟨k-1,Q5⟩;have HP:=aJ (fR 65535 Q9 _ s _ _ _ al);have af:U (kz _ n _ _=((ys++[(aZ 65535 F bk).1])++(kz (aZ 65535) j (aZ 65535 F bk).2.1 (aZ 65535 F bk).2.2).1,(kz (aZ 65535) j (aZ 65535 F bk).2.1 (aZ 65535 F bk).2.2).2)):=aJ (by rw[Vz];simp[kz]);generalize aZ _ _ _=L at HP af;obtain⟨q,r3,b3⟩:=L;simp only at af;go_wp2_with fail;refine HP.mono ?_;rintro x w2 ⟨v2,rfl,rfl,av,IT⟩;simp only at av;have ae:=TY.kept IT (.inr (by intro e;have:=g_ TY _ e;omega));have Uj:=aJ av;have OF:=aJ (ak.trans IT);have TE:=aJ ae;have S7:=OF.size;go_wp2_with(at_builtin;refine bS _ rfl _ _ 26 3 1 8 (O Z 0) Tryz.ownInt underlying26 rfl Q9 Q9 rfl w.heap.size _ (D ys) (Df ys) rfl TE.j #[O Z q] rfl Qw _ rfl rfl Q5 S7 ?_;intro v3 w3 S4)
   have d:Ap _ 3 1 _ (J _ _ _) _ _ _ (Df _++[Value.int _ q]):=S4;have ax:=g_ TE;refine⟨⟨j,_,_,_,rfl,QL,?_,Uj.grown d.frm (λk e=>by have:=ax k e;omega),DM OF d.frm ax,af⟩,SG⟩;have:=d.own
   simpa[Df]using this
 obtain rfl:k=0:=by omega
 go_wp2_with fail;go_ret
 have hT:=Vz.j;rw[HS,hT];exact⟨_,rfl,by simpa[kz]using TY.j,al,ak⟩
def lC(i:bP):I M:=[O Z i.op,O Z i.a,O Z i.b]
structure xy(V:T)(HHq rb fb:R)(s:ByteArray)(x0 x1 x2:M)(c:I bP)(vc:M)(r:I AI)(bad:Bool)(w:T):Prop where
 lt:rb<HHq/\fb<HHq/\¬rb=fb
 bx:gd w fb x0 x1 x2 vc
 low:∀b,b<HHq->¬b=rb->¬b=fb->w.heap[b]? =V.heap[b]?
 hs:HHq<=w.heap.size
 ow:w.ownsRow HHq 87 3 vc (D c) (c.flatMap lC)
 ls:lW w rb s r bad
 env:w.os=V.os/\w.tape=V.tape/\w.output=V.output
section
variable {V w w':T} {HHq rb fb:R} {s:ByteArray} {x0 x1 x2 vc:M} {c:I bP} {r r':I AI} {bad bad':Bool}
theorem xy.call(h:xy V HHq rb fb s x0 x1 x2 c vc r bad w)(g:Gc rb w w')(hl:lW w' rb s r' bad'):xy V HHq rb fb s x0 x1 x2 c vc r' bad' w':=
 ⟨h.lt,h.bx.gc g λe=>h.lt.2.2 e.symm,λb F d h2=>(g.block b (by have:=h.hs;omega) (by intro e;exact d (tz e))).trans (h.low b F d h2),wz h.hs g.size,
  h.ow.kept g (.inr (by intro e;have:=g_ h.ow _ e;have:=h.lt.1;omega)),hl,by rw[g.os,g.tape,g.output];exact h.env⟩
theorem xy.gr(h:xy V HHq rb fb s x0 x1 x2 c vc r bad w)(g:Gr w w'):xy V HHq rb fb s x0 x1 x2 c vc r bad w':=h.call g.toGc (h.ls.gr g)
theorem xy.set(h:xy V HHq rb fb s x0 x1 x2 c vc r bad w){g o:R}{v:M}(hg:HHq<=g)(hv:¬vc.ownBlock=Y g):xy V HHq rb fb s x0 x1 x2 c vc r bad (w.setCell (Q g o G) v):=by
 have F:∀b,¬b=g->(w.setCell (Q g o G) v).heap[b]? =w.heap[b]? :=λb F=>dp _ _ _ _ F
 refine⟨h.lt,h.bx.other R6,λb S9 d h2=>(F b Q5).trans (h.low b S9 d h2),by simpa using h.hs,?_,?_,h.env⟩
 · rcases h.ow.2 with⟨e,h0⟩|⟨k,cap,cur,e,d,h2,h3⟩
   · exact⟨h.ow.1,.inl ⟨e,h0⟩⟩
   exact⟨h.ow.1,.inr ⟨k,_,_,e,d,(F k λe2=>hv (by rw[e,e2];rfl)).trans h2,h3⟩⟩
 obtain⟨q,d,h2⟩:=h.ls;exact⟨q,⟨(F _ R6).trans d.1,d.2⟩,h2⟩
end
def Kv(B:R)(w:T)(v:M)(f:aQ):Prop:=∃vp vl vc,v=.agg #[vp,O Z f.result,vl,vc]/\w.ownsRow B 3 1 vp (D f.aH) (Df f.aH)/\w.ownsRow B 3 1 vl (D f.aI) (Df f.aI)/\w.ownsRow B 87 3 vc (D f.code) (f.code.flatMap lC)
theorem kT{w w':T}{n len:R}{v:M}(h:w.ownsRow B e n v len xs)(g:∀k,v.ownBlock=Y k->w'.heap[k]? =w.heap[k]?):w'.ownsRow B e n v len xs:=by
 rcases h.2 with⟨e1,d⟩|⟨k,cap,cur,e1,h1,F,h3⟩
 · exact⟨h.1,.inl ⟨e1,d⟩⟩
 exact⟨h.1,.inr ⟨k,_,_,e1,h1,(g k (by rw[e1];rfl)).trans F,h3⟩⟩
theorem e_{w:T}{n len:R}{v:M}(h:w.ownsRow B e n v len xs):∀k,v.ownBlock=Y k->B<=k/\k<w.heap.size:=λk d=>by
 rcases h.2 with⟨e1,h0⟩|⟨j,cap,cur,e1,h1,F,h3⟩
 · rw[e1]at d;cases d
 rw[e1]at d;have:j=k:=tz d
 subst this;exact⟨h1,(eJ.1 F).1⟩
theorem lw{w:T}{B' n len:R}{v:M}(h:w.ownsRow B e n v len xs)(F:B'<=B):w.ownsRow B' e n v len xs:=by
 rcases h.2 with⟨e1,d⟩|⟨k,cap,cur,e1,h1,h2,h3⟩
 · exact⟨h.1,.inl ⟨e1,d⟩⟩
 exact⟨h.1,.inr ⟨k,_,_,e1,wz F h1,h2,h3⟩⟩
structure I4(w:T)(rb fb:R)(s:ByteArray)(vp vl:M)(p l:I A)(q:A)(V:T):Prop where
 gc:Gc rb w V
 hfb:w.heap.size<fb/\fb<V.heap.size
 hrb:rb<w.heap.size
 res:gd V w.heap.size (J G 0 0) (O Z 0) (J G 0 0) (J G 0 0)
 op:V.ownsRow (w.heap.size+1) 3 1 vp (D p) (Df p)
 ol:V.ownsRow (w.heap.size+1) 3 1 vl (D l) (Df l)
 np:¬vp.ownBlock=Y fb
 nl:¬vl.ownBlock=Y fb
section
variable {w V wr:T} {rb fb:R} {s:ByteArray} {vp vl vc:M} {p l:I A} {q:A} {c:I bP} {r:I AI} {bad:Bool}
def tB(w:T)(b:R)(x0 x1 x2 x3:M):T:=(((w.setCell (Q b 0 G) x0).setCell (Q b 1 G) x1).setCell (Q b 2 G) x2).setCell (Q b 3 G) x3
theorem mO{b:R}{x0 x1 x2 x3:M}(h:¬k=b):(tB w b x0 x1 x2 x3).heap[k]? =w.heap[k]? :=by
 unfold tB;rw[dp _ _ _ _ h,dp _ _ _ _ h,dp _ _ _ _ h,dp _ _ _ _ h]
theorem O4{p:Prop}(h:p:=by exact⟨(hc 0).trans h0,(hc 1).trans h1,(hc 2).trans h2,(hc 3).trans h3,(hz 0).trans z0,(hz 1).trans z1,(hz 2).trans z2,(hz 3).trans z3⟩):p:=h
theorem I4.res_(h:I4 w rb fb s vp vl p l q V)(f:xy V V.heap.size rb fb s vp (O Z q) vl c vc r bad wr):gd wr w.heap.size (J G 0 0) (O Z 0) (J G 0 0) (J G 0 0):=by
 have e:=f.low w.heap.size (by have:=h.hfb;omega) (by have:=h.hrb;omega) (by have:=h.hfb;omega);obtain⟨h0,h1,h2,h3,z0,z1,z2,z3⟩:=h.res;have hc:∀j,H wr _=H V (Q w.heap.size j G):=λj=>so e
 have hz:∀j,wr.frozen? _=V.frozen? ⟨w.heap.size,j,G⟩:=λj=>zc e
 exact O4
theorem I4.end_(h:I4 w rb fb s vp vl p l q V)(f:xy V V.heap.size rb fb s vp (O Z q) vl c vc r bad wr):Kv w.heap.size (tB wr w.heap.size vp (O Z q) vl vc) (.agg #[vp,O Z q,vl,vc]) ⟨p,q,l,c⟩/\lW (tB wr w.heap.size vp (O Z q) vl vc) rb s r bad/\Gc rb w (tB wr w.heap.size vp (O Z q) vl vc):=by
 have hfb:=h.hfb;have hrb:=h.hrb;have old:∀k,w.heap.size<k->k<V.heap.size->¬k=fb->(tB _ w.heap.size vp (O Z q) vl vc).heap[k]? =V.heap[k]? :=λk h1 h2 h3=>(mO Q5).trans (f.low k h2 Q5 h3)
 refine⟨⟨_,_,_,rfl,lw (kT h.op λk d=>old k (by have:=e_ h.op k d;omega) (e_ h.op k d).2 λe=>h.np (e▸d)) Q5,lw (kT h.ol λk d=>old k (by have:=e_ h.ol k d;omega) (e_ h.ol k d).2 λe=>h.nl (e▸d)) Q5,lw (kT f.ow λk d=>mO (by have:=e_ f.ow k d;omega)) Q5⟩,?_,?_⟩
 · obtain⟨j,h1,h2⟩:=f.ls;exact⟨j,⟨(mO Q5).trans h1.1,h1.2⟩,h2⟩
 refine⟨f.env.1.trans h.gc.os,f.env.2.1.trans h.gc.tape,f.env.2.2.trans h.gc.output,wz h.gc.size (wz f.hs (by simp[tB])),λi hi No=>?_⟩;have F:¬i=rb:=λe=>No (by rw[e])
 exact(mO Q5).trans ((f.low i Q5 F Q5).trans (h.gc.block i hi No))
end
theorem Tryz.infInsL:(Tryz.prog.info? 87).map (λi=>(i.zero,i.size,i.bytes))=Y (Y (.agg #[O Z 0,O Z 0,O Z 0]),3,24):=Q7
theorem RC{p:Prop}(h:p:=by show w3.os=V.os/\w3.tape=V.tape/\w3.output=V.output;rw[S4.frm.os,S4.frm.tape,S4.frm.output];exact h.env):p:=h
theorem xy.put{V w:T}{HHq rb fb:R}{s:ByteArray}{x0 x1 x2 vc:M}{c:I bP}{r:I AI}{bad:Bool}{i:bP}(h:xy V HHq rb fb s x0 x1 x2 c vc r bad w)(S4:Ap HHq 87 3 w vc w3 v3 (D c+1) (c.flatMap lC++#[O Z i.op,O Z i.a,O Z i.b].toList)):gd w3 fb x0 x1 x2 vc/\xy V HHq rb fb s x0 x1 x2 (c++[i]) v3 r bad (w3.setCell (Q fb 3 G) v3):=by
 have IN:=h.lt;have hs:=h.hs;have old:∀b,b<HHq->w3.heap[b]? =w.heap[b]? :=λb hb=>S4.frm.block b Q5 λe=>by have:=g_ h.ow _ e.symm;omega
 have F:gd w3 fb x0 x1 x2 vc:=by
  obtain⟨h0,h1,h2,h3,z0,z1,z2,z3⟩:=h.bx;have hc:∀j,H w3 _=H w (Q _ j G):=λj=>so (old _ IN.2.1)
  have hz:∀j,w3.frozen? _=w.frozen? ⟨_,j,G⟩:=λj=>zc (old _ IN.2.1)
  exact O4
 have d:∀b,¬b=fb->(w3.setCell (Q _ 3 G) v3).heap[b]? =w3.heap[b]? :=λb hb=>dp _ _ _ _ hb
 refine⟨F,IN,F.set3 _,λb hb h1 h2=>(d b h2).trans ((old b hb).trans (h.low b hb h1 h2)),by have:=S4.frm.size;simp;omega,?_,?_,RC⟩
 · rw[fe,Ka];refine kT ?_ (λk hk=>d k (by have:=g_ S4.own k hk;omega));simpa[lC]using S4.own
 obtain⟨q,h1,h2⟩:=h.ls;exact⟨q,⟨(d _ IN.2.2).trans ((old _ IN.1).trans h1.1),h1.2⟩,h2⟩
theorem Rb{p:Prop}(h:p:=by intro u hu;simp at hu;rcases hu with rfl|rfl|rfl<;>rfl):p:=h
theorem Rc{p:Prop}(h:p:=by have:=V8.hrb;have:=V8.hfb;omega):p:=h
theorem Nt{p:Prop}(h:p:=by
 rw[Ti]at ht;clear h1;go_wp2_with fail;refine WS.mono ?_;rintro x w8 ⟨v8,rfl,rfl,hl,hg⟩;simp only at hl |-;have hf:=VC.call hg hl;have VL:=aJ (hf.set (o:=1) (v:=O Z a) Wc WO);have Xh:=aJ (eQ.set1 (O Z a) (Wx.gc hg Rc));obtain⟨i0,i1,i2,y0,y1,y2⟩:=Wx.gc hg Rc;have ht:=We _ _ _ _ _ hf o Q5;clear hf hl hg;rw[Ti]at ht;obtain⟨f0,f1,f2,f3,g0,g1,g2,g3⟩:=VL.bx;obtain⟨i0,i1,i2,y0,y1,y2⟩:=Xh.j;have TY:=aJ VL.ow;have S7:=VL.hs;have ht:=We _ _ _ _ _ VL o Q5;rw[Ti]at ht;clear Ti;clear f0 f1 f2 g0 g1 g2 g3;go_wp2_with(at_builtin;refine bS _ rfl _ _ 72 87 3 24 (.agg #[O Z 0,O Z 0,O Z 0]) Tryz.infInsL underlying72 rfl Q9 Q9 rfl w5.heap.size _ (D c) (c.flatMap lC) rfl TY.j #[O Z (o:A),O Z a,O Z 0] rfl Rb _ rfl Q6 Q5 S7 ?_;intro v3 w3 S4;have Vn:=aJ (VL.j.put (i:=⟨(o:A),a,0⟩) S4);obtain⟨e3,k3,rfl⟩:=cN S4.own;obtain⟨_,_,_,d3,_,_,_,z3⟩:=Vn.j.1;clear S4)
 exact⟨⟨j,_,_,_,_,Q6,QL,Vn.2,by rw[Vz,Ue];simp⟩,SG⟩):p:=h
theorem NH{p:Prop}(h:p:=by exact⟨⟨j,_,_,_,_,Q6,by simp;omega,Vn.2,by rw[Vz,Ue];simp⟩,by simp[intOf]⟩):p:=h
theorem N9{p:Prop}(h:p:=by have VH:=aJ hB;unfold tB at HE VH;clear hB;go_wp2_with fail;obtain⟨c0,c1,c2,c3,_,_,_,_⟩:=VH.j;refine qn (v:=.agg #[J ap (D p) cp,O Z q,J al (D l) cl,J ac (D c) cc]) (by simp[results,results95,go_sem,c0,c1,c2,c3]) rfl ?_;rw[WJ];exact⟨_,rfl,HE.1,HE.2.1,HE.2.2⟩):p:=h
theorem So{p:Prop}(h:p:=by rw[Wn,eP ho];simp[oq,xC,CM,h1,Ti]):p:=h
theorem Sx{p:Prop}(h:p:=by have:=Th.size;simp at this;omega):p:=h
theorem xU(rb:R)(s:ByteArray)(r:I AI)(bad:Bool)(w:T)(h:lW w rb s r bad)(ht:lR w)(h0:¬rb=0):
 Calls prog 95 #[.pointer (Y (Q rb 0 G))] w (Ic rb s w (λw' v (f:aQ)=>Kv w.heap.size w' v f) (fL r bad)):=by
 have hrb:=h.lt;have HT:=aJ ht;have VJ:=(Gr.refl w).alloc (X #[J G 0 0,O Z 0,J G 0 0,J G 0 0] 74);have a':=aJ (gd.new w 74 (J G 0 0) (O Z 0) (J G 0 0) (J G 0 0));have HP:=aJ (rL _ s r _ _ (h.gr VJ));have HS:U (fL r bad=(⟨_,_,_,_⟩,(gJ _ _ _).2)):=aJ rfl;generalize au r _=P at HP HS;obtain⟨p,r1,b1⟩:=P;simp only at HS;generalize hL:au _ _=L at HS;obtain⟨l,r2,b2⟩:=L;simp only at HS;generalize hQ:aZ _ _ _=QQq at HS;obtain⟨q,r3,b3⟩:=QQq;simp only at HS;have aE:=fJ 200 r3 b3;generalize hN:aZ _ _ _=N at HS aE;obtain⟨n0,r4,b4⟩:=N;simp only at HS aE;obtain⟨n,rfl⟩:∃n:R,n0=n:=⟨n0.toNat,Q5⟩;have hn:n<=200:=Q5;simp only[A7]at HS;have HL:=aJ hL;have HQ:=aJ hQ;have HN:=aJ hN;clear h aE ht hL hQ hN;go_enter func95,ntmps95
 go_wp2_with fail;refine HP.mono ?_;rintro x w1 ⟨v1,rfl,hp,ay,S5⟩;obtain⟨ap,cp,rfl⟩:=cN hp;simp only at ay hp |-;have aD:=rL _ s _ _ _ ay;rw[HL]at aD;have Va:=aJ aD;have aL:=aJ hp;have Td:=aJ ((VJ.toGc).trans S5);have a4:=aJ (a'.gc S5 Q5);have Uh:w.heap.size<w1.heap.size:=by have:=S5.size;simp at this;omega
 clear aD hp ay S5 VJ;go_wp2_with fail;refine Va.mono ?_;rintro x w2 ⟨v2,rfl,hl,aC,IT⟩;obtain⟨al,cl,rfl⟩:=cN hl;simp only at aC hl |-;have T2:=fR 65535 Q9 _ s _ _ _ aC;rw[HQ]at T2;have bo:=aJ T2;have ak:=aJ (aL.kept IT (.inr (by intro e;have:=g_ aL _ e;simp at this;omega)));have af:=aJ hl;have OF:=aJ (Td.trans IT);have TT:=aJ (a4.gc IT Q5);have TV:=IT.size;clear T2 hl aC IT;go_wp2_with fail;refine bo.mono ?_;rintro x w3 ⟨v3,rfl,rfl,az,Ta⟩;simp only at az |-;have ad:=(Gr.refl w3).alloc (X #[J ap (D p) cp,O Z q,J al (D l) cl,J G 0 0] 74);have ax:=fR 200 Q9 _ s _ _ _ (az.gr ad);rw[HN]at ax;have a7:=aJ ax;have aM:=aJ ((ak.kept Ta (.inr (by intro e;have:=g_ ak _ e;simp at this;omega))).kept (ad.toGc (cb:=rb)) (.inr (by intro e;have:=g_ ak _ e;simp at this;omega)));have aG:=aJ ((af.kept Ta (.inr (by intro e;have:=g_ af _ e;omega))).kept (ad.toGc (cb:=rb)) (.inr (by intro e;have:=g_ af _ e;omega)));have Te:=aJ ((OF.trans Ta).trans (ad.toGc));have bj:=aJ ((TT.gc Ta Q5).gc (ad.toGc (cb:=rb)) Q5);have a5:=aJ (gd.new w3 74 (J ap (D p) cp) (O Z q) (J al (D l) cl) (J G 0 0));have Wr:=Ta.size;have a2:U (¬(J _ _ _).ownBlock=Y w3.heap.size/\¬(J _ _ _).ownBlock=Y w3.heap.size):=aJ ⟨λe=>by have:=(e_ ak _ e).2;omega,λe=>by have:=(e_ af _ e).2;omega⟩;clear ax az Ta ad;go_wp2_with fail;refine a7.mono ?_;rintro x w5 ⟨v5,rfl,rfl,aB,Th⟩;simp only at aB |-;have V8:U (I4 w _ _ s _ _ p l q _):=aJ ⟨Te.trans Th,⟨Q5,Sx⟩,hrb,bj.gc Th Q5,lw (aM.kept Th (.inr (by intro e;have:=g_ aM _ e;simp at this;omega))) Q6,lw (aG.kept Th (.inr (by intro e;have:=g_ aG _ e;omega))) Q5,a2.1,a2.2⟩;have aI:U (xy _ _ _ _ s _ _ _ [] _ _ _ _):=aJ ⟨⟨Sx,Sx,Q5⟩,a5.gc Th Q5,λ_ _ _ _=>rfl,lj,⟨rfl,.inl ⟨rfl,rfl⟩⟩,aB,rfl,rfl,rfl⟩;have aF:Gc _ w _:=Te.trans Th;have bg:U (lR _):=aJ λj hj=>aF.box (λe=>h0 e.symm) (HT j hj);clear aF aB Th;generalize w3.heap.size=fb at V8 aI |-;clear Uh TV Wr;have We:U (∀(W':T) (c':I _) (a3:M) (r':I _) (b':Bool),xy _ w5.heap.size _ fb s (J ap (D p) cp) (O Z q) (J al (D l) cl) c' a3 r' b' _->lR W'):=aJ (λW' c' a3 r' b' hf j hj=>(so (hf.low 0 (by have:=V8.hfb;omega) (λe=>h0 e.symm) (by have:=V8.hfb;omega))).trans (bg j hj));go_wp2_with fail;go_loopw[7] (λi wr=>∃(k:R) (c:I bP) (vc:M) (rk:I AI) (bk:Bool),i=O Z (k:A)/\D c+k<=200/\xy w5 w5.heap.size rb fb s (J ap (D p) cp) (O Z q) (J al (D l) cl) c vc rk bk wr/\gJ n r4 b4=(c++(gJ k rk bk).1,(gJ k rk bk).2)) λi _=>(intOf i).toNat
 case atStart=>exact⟨n,_,_,_,_,rfl,by simpa using hn,aI,Q6⟩
 obtain⟨k,c,vc,rk,bk,rfl,bB,av,hT⟩:=hrel;obtain⟨ac,cc,rfl⟩:=cN av.ow;have Uk:=aJ av;have Vz:=aJ hT;clear av hT;by_cases hk:0<k
 · obtain⟨j,rfl⟩:∃j,k=j+1:=⟨k-1,Q5⟩;have HP:=aJ (wK _ s _ _ _ Uk.ls);have Wn:U (gJ (j+1) rk _=if 20<(bm _ _).1 then ([],(bm _ bk).2.1,AT) else ((oq _ _ _).1::(gJ j _ _).1,(gJ j _ _).2)):=aJ rfl;generalize bm _ _=L at HP Wn;obtain⟨o,F,d⟩:=L;simp only at Wn;go_wp2_with fail;refine HP.mono ?_;rintro x w6 ⟨v6,rfl,rfl,aA,a0⟩;simp only at aA |-;have ai:=Uk.call a0 aA;have VC:=aJ (ai.gr ((G0).alloc (X #[O Z o,O Z 0,O Z 0] 87)));have Wx:=aJ (eQ.new w6 87 (O Z o) (O Z 0) (O Z 0));have Wc:=ai.hs;have WO:¬(J _ _ _).ownBlock=Y w6.heap.size:=λe=>by have:=(e_ ai.ow _ e).2;omega
   clear ai aA a0;go_upto_region 9 with fail
   generalize w6.alloc _=W7 at VC Wx |-;generalize w6.heap.size=ib at Wx Wc WO |-;obtain⟨i0,i1,i2,y0,y1,y2⟩:=Wx.j;by_cases ho:20<o
   · have a9:(o:A)>20:=by omega
     have bp:20<(o:A):=Q5;have WJ:U (fL r _=(⟨p,q,l,c⟩,F,AT)):=aJ (by rw[HS,Vz,Wn,mI ho];simp);obtain⟨z2,z3⟩:=VC.ls.bad;have VL:=aJ (VC.call ((Gc.refl _ _).set 2 _) VC.ls.spoil);obtain⟨f0,f1,f2,f3,g0,g1,g2,g3⟩:=VL.bx;obtain⟨m0,m1,m2,m3,n0,n1,n2,n3⟩:=V8.res_ VL;have HE:=aJ (V8.end_ VL);have hB:gd (tB _ _ _ (O Z q) _ (J ac (D c) cc)) _ _ _ _ _:=((((V8.res_ VL).set0 (J ap (D p) cp)).set1 _).set2 (J al (D l) cl)).set3 _;exact N9
   have a9:¬(o:A)>20:=by omega
   have bp:¬20<(o:A):=Q5;have bt:(0:A)<=o:=Q5;have Vq:(o:A)<21:=Q5;have ht:=We _ _ _ _ _ VC o Q5;by_cases h1:o=1
   · have a6:((o:A)==1)=AT:=by simpa using(show(o:A)=1 by omega)
     have Ue:U (gJ _ _ _=(⟨o,(b_ _ _).1,0⟩::(gJ j (b_ _ _).2.1 (b_ _ _).2.2).1,(gJ j (b_ _ _).2.1 (b_ _ d).2.2).2)):=aJ (by rw[Wn,eP ho];subst h1;rfl);have WS:=aJ (uK _ s _ _ _ VC.ls);generalize b_ _ _=L at WS Ue;obtain⟨a,r8,b8⟩:=L;simp only at Ue;have Ti:ah o=1:=by subst h1;rfl
     exact Nt
   have a6:((o:A)==1)=AS:=Rp
   rcases pQ o with Ti|Ti|Ti
   · have Ue:U (gJ _ _ _=(⟨o,0,0⟩::(gJ j F d).1,(gJ j F d).2)):=aJ So;rw[Ti]at ht;clear h1;obtain⟨f0,f1,f2,f3,g0,g1,g2,g3⟩:=VC.bx;obtain⟨i0,i1,i2,y0,y1,y2⟩:=Wx.j;have TY:=aJ VC.ow;have S7:=VC.hs;have ht:=We _ _ _ _ _ VC o Q5;rw[Ti]at ht;clear Ti;clear f0 f1 f2 g0 g1 g2 g3;go_wp2_with(at_builtin;refine bS _ rfl _ _ 72 87 3 24 (.agg #[O Z 0,O Z 0,O Z 0]) Tryz.infInsL underlying72 rfl Q9 Q9 rfl w5.heap.size _ (D c) (c.flatMap lC) rfl TY.j #[O Z (o:A),O Z 0,O Z 0] rfl Rb _ rfl Q6 Q5 S7 ?_;intro v3 w3 S4;have Vn:=aJ (VC.j.put (i:=⟨(o:A),0,0⟩) S4);obtain⟨e3,k3,rfl⟩:=cN S4.own;obtain⟨_,_,_,d3,_,_,_,z3⟩:=Vn.j.1;clear S4)
     exact NH
   · have Ue:U (gJ _ _ _=(⟨o,(aZ 65535 F d).1,0⟩::(gJ j (aZ 65535 F d).2.1 (aZ 65535 F d).2.2).1,(gJ j (aZ 65535 F d).2.1 (aZ 65535 F d).2.2).2)):=aJ So;have WS:=aJ (fR 65535 Q9 _ s _ _ _ VC.ls);generalize aZ _ _ _=L at WS Ue;obtain⟨a,r8,b8⟩:=L;simp only at Ue;exact Nt
   have Ue:U (gJ _ _ _=(⟨o,(aZ 65535 F d).1,(aZ 65535 (aZ 65535 F d).2.1 (aZ 65535 F d).2.2).1⟩::(gJ j (aZ 65535 (aZ 65535 F d).2.1 (aZ 65535 F d).2.2).2.1 (aZ 65535 (aZ 65535 F d).2.1 (aZ 65535 F d).2.2).2.2).1,(gJ j (aZ 65535 (aZ 65535 F d).2.1 (aZ 65535 F d).2.2).2.1 (aZ 65535 (aZ 65535 F d).2.1 (aZ 65535 F d).2.2).2.2).2)):=aJ So;have WS:=aJ (fR 65535 Q9 _ s _ _ _ VC.ls);generalize aZ _ _ _=L at WS Ue;obtain⟨a,r8,b8⟩:=L;simp only at Ue;rw[Ti]at ht;clear h1;go_wp2_with fail;refine WS.mono ?_;rintro x w8 ⟨v8,rfl,rfl,hl,hg⟩;simp only at hl |-;have hf:=VC.call hg hl;have VL:=aJ (hf.set (o:=1) (v:=O Z a) Wc WO);have Xh:=aJ (eQ.set1 (O Z a) (Wx.gc hg Rc));obtain⟨i0,i1,i2,y0,y1,y2⟩:=Wx.gc hg Rc;have ht:=We _ _ _ _ _ hf o Q5;clear hf hl hg;rw[Ti]at ht;have aH:=aJ (fR 65535 Q9 _ s _ _ _ VL.ls);generalize aZ _ _ _=L at aH Ue;obtain⟨b,r9,b9⟩:=L;simp only at Ue;obtain⟨i0,i1,i2,y0,y1,y2⟩:=Xh.j;have ht:=We _ _ _ _ _ VL o Q5;rw[Ti]at ht;go_wp2_with fail;refine aH.mono ?_;rintro x w9 ⟨v9,rfl,rfl,hl,hg⟩;simp only at hl |-;have hf:=VL.call hg hl;have ae:=aJ (hf.set (o:=2) (v:=O Z b) Wc WO);have a8:=aJ (eQ.set2 (O Z b) (Xh.gc hg Rc));obtain⟨i0,i1,i2,y0,y1,y2⟩:=Xh.gc hg Rc;have ht:=We _ _ _ _ _ hf o Q5;clear hf hl hg;rw[Ti]at ht;obtain⟨f0,f1,f2,f3,g0,g1,g2,g3⟩:=ae.bx;obtain⟨i0,i1,i2,y0,y1,y2⟩:=a8.j;have TY:=aJ ae.ow;have S7:=ae.hs;have ht:=We _ _ _ _ _ ae o Q5;rw[Ti]at ht;clear Ti;clear f0 f1 f2 g0 g1 g2 g3;go_wp2_with(at_builtin;refine bS _ rfl _ _ 72 87 3 24 (.agg #[O Z 0,O Z 0,O Z 0]) Tryz.infInsL underlying72 rfl Q9 Q9 rfl w5.heap.size _ (D c) (c.flatMap lC) rfl TY.j #[O Z (o:A),O Z a,O Z b] rfl Rb _ rfl Q6 Q5 S7 ?_;intro v3 w3 S4;have Vn:=aJ (ae.j.put (i:=⟨(o:A),a,b⟩) S4);obtain⟨e3,k3,rfl⟩:=cN S4.own;obtain⟨_,_,_,d3,_,_,_,z3⟩:=Vn.j.1;clear S4)
   exact NH
 obtain rfl:k=0:=by omega
 have WJ:U (fL r _=(⟨p,q,l,c⟩,rk,bk)):=aJ (by rw[HS,Vz];simp[gJ]);obtain⟨f0,f1,f2,f3,g0,g1,g2,g3⟩:=Uk.bx;obtain⟨m0,m1,m2,m3,n0,n1,n2,n3⟩:=V8.res_ Uk;have HE:=aJ (V8.end_ Uk);have hB:gd (tB _ _ _ _ _ _) _ _ _ _ _:=((((V8.res_ Uk).set0 (J ap (D p) cp)).set1 (O Z q)).set2 (J al (D l) cl)).set3 (J ac (D c) cc);exact N9
structure ml{α:Type}(V:T)(HHq rb ub:R)(s:ByteArray)(o n:R)(t:TypeId)(f:α->I M)(E:T->α->Prop)(es:I α)(vl:M)(r:I AI)(bad:Bool)(w:T):Prop where
 lt:rb<HHq/\ub<HHq/\¬rb=ub
 here:H w (Q ub o G)=Y vl/\w.frozen? ⟨ub,o,G⟩=AS
 rest:∀j,¬j=o->H w (Q ub j G)=H V (Q ub j G)/\w.frozen? ⟨ub,j,G⟩=V.frozen? ⟨ub,j,G⟩
 low:∀b,b<HHq->¬b=rb->¬b=ub->w.heap[b]? =V.heap[b]?
 hs:HHq<=w.heap.size
 ow:w.ownsRow HHq t n vl (D es) (es.flatMap f)
 el:∀e∈es,∀wq:T,(∀b (x:Obj),HHq<=b->Y b≠vl.ownBlock->w.heap[b]? =Y x->wq.heap[b]? =Y x)->E wq e
 ls:lW w rb s r bad
 env:w.os=V.os/\w.tape=V.tape/\w.output=V.output
section
variable {α:Type} {V w w':T} {HHq rb ub:R} {s:ByteArray} {o n:R} {t:TypeId} {f:α->I M} {E:T->α->Prop} {es:I α} {vl:M} {r r':I AI} {bad bad':Bool}
theorem SO{p:Prop}(h:p:=by have:=(e_ h.ow k hk).1;omega):p:=h
theorem ml.call(h:ml V HHq rb ub s o n t f E es vl r bad w)(g:Gc rb w w')(hl:lW w' rb s r' bad'):ml V HHq rb ub s o n t f E es vl r' bad' w':=by
 have IN:=h.lt;have hs:=h.hs;have hb:∀b,b<w.heap.size->¬b=rb->w'.heap[b]? =w.heap[b]? :=λb F d=>g.block b F (by intro e;exact d (tz e))
 have hu:=hb ub Q5 Q5;refine⟨IN,⟨(so hu).trans h.here.1,(zc hu).trans h.here.2⟩,λj hj=>⟨(so hu).trans (h.rest j hj).1,(zc hu).trans (h.rest j hj).2⟩,λb F d h3=>(hb b Q5 d).trans (h.low b F d h3),wz hs g.size,kT h.ow λk hk=>hb k (e_ h.ow k hk).2 SO,λe he wq hq=>h.el e he _ λb x F d h3=>hq b x F d ((hb b (eJ.1 h3).1 Q5).trans h3),hl,by rw[g.os,g.tape,g.output];exact h.env⟩
theorem ml.gr(h:ml V HHq rb ub s o n t f E es vl r bad w)(g:Gr w w'):ml V HHq rb ub s o n t f E es vl r bad w':=h.call g.toGc (h.ls.gr g)
theorem ml.new{V:T}(IN:rb<V.heap.size/\ub<V.heap.size/\¬rb=ub)(d:H V (Q ub o G)=Y (J G 0 0)/\V.frozen? ⟨ub,o,G⟩=AS)(F:lW V rb s r bad):ml V V.heap.size rb ub s o n t f E [] (J G 0 0) r bad V:=
 ⟨IN,d,λ_ _=>⟨rfl,rfl⟩,λ_ _ _ _=>rfl,lj,⟨Q6,.inl ⟨rfl,rfl⟩⟩,λe he=>by simp at he,F,rfl,rfl,rfl⟩
theorem ml.put{e:α}(h:ml V HHq rb ub s o n t f E es vl r bad w)(S4:Ap HHq t n w vl w3 v3 (D es+1) (es.flatMap f++f e))(he:∀wq:T,(∀b (x:Obj),HHq<=b->Y b≠vl.ownBlock->w.heap[b]? =Y x->wq.heap[b]? =Y x)->E wq e):
 (H w3 (Q ub o G)=Y vl/\w3.frozen? ⟨ub,o,G⟩=AS)/\ml V HHq rb ub s o n t f E (es++[e]) v3 r bad (w3.setCell (Q ub o G) v3):=by
 have IN:=h.lt;have hs:=h.hs;have old:=λb hb No=>S4.frm.block b hb No
 have d:∀b,b<HHq->w3.heap[b]? =w.heap[b]? :=λb hb=>old b Q5 λe=>by have:=g_ h.ow _ e.symm;omega
 have hu:=d _ IN.2.1;have c3:H w3 _=Y _/\w3.frozen? _=AS:=⟨(so hu).trans h.here.1,(zc hu).trans h.here.2⟩;have F:∀b,¬b=ub->(w3.setCell (Q _ o G) v3).heap[b]? =w3.heap[b]? :=λb hb=>dp _ _ _ _ hb
 have ad:∀(wq:T),(∀b (x:Obj),HHq<=b->Y b≠v3.ownBlock->(w3.setCell _ _).heap[b]? =Y x->wq.heap[b]? =Y x)->∀b (x:Obj),HHq<=b->Y b≠vl.ownBlock->w.heap[b]? =Y x->wq.heap[b]? =Y x:=λwq hq b x h1 h2 h3=>by
  have hb:=(eJ.1 h3).1;refine hq b x h1 (λe3=>?_) ((F b Q5).trans ((old b hb h2).trans h3));rcases S4.lies b e3.symm with e4|e4
  · exact h2 e4.symm
  omega
 refine⟨c3,IN,⟨tO _ _ _ c3.1,by rw[iI];exact c3.2⟩,λj hj=>⟨(aO Q5).trans ((so hu).trans (h.rest j hj).1),by rw[iI];exact(zc hu).trans (h.rest j hj).2⟩,λb h1 h2 h3=>(F b h3).trans ((d b h1).trans (h.low b h1 h2 h3)),by have:=S4.frm.size;simp;omega,?_,?_,?_,RC⟩
 · rw[fe,Ka];refine kT ?_ (λk hk=>F k (by have:=g_ S4.own k hk;omega));simpa using S4.own
 · intro x hx wq hq;rcases F1.1 hx with hx|hx
   · exact h.el x hx _ (ad _ hq)
   rw[Jm.1 hx];exact he _ (ad _ hq)
 obtain⟨q,h1,h2⟩:=h.ls;exact⟨q,⟨(F _ IN.2.2).trans ((d _ IN.1).trans h1.1),h1.2⟩,h2⟩
end
end Go.Proofs.YtghjmnlapcpbiaaGreatDoor
