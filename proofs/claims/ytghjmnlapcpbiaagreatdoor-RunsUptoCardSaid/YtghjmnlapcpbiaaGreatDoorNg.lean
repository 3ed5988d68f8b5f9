import Derived.Test.YtghjmnlapcpbiaaGreatDoorNd
import Derived.Deep.Cut
import Derived.Deep.CutRange
namespace Go.Proofs.YtghjmnlapcpbiaaGreatDoor
open _root_ renaming Option.some->Y,Option.none->G,Go.Value.int->O,Go.IntKind.i64->Z,Go.Value.slice->J,List->I,Nat->R,Int->A,Go.World.cell?->H,List.length->D,Go.Obj.cells->X,Go.Value->M,Go.World->T,Go.Addr.mk->Q,Go.RowKit.Hid->U,UInt8->AI,Bool.false->AS,Bool.true->AT,Option->By
open Go.Proofs.Tryz
open Go.RowKit
set_option linter.defProp false
variable{N:I AI->By (aQ×A)}{l:I aK}{b k mb n o:R}{ob:By R}{V W w w':T}{u:aK}
def Mj:=@List.any_eq_true.{0}
def MU:=@List.getElem_of_mem.{0}
set_option maxRecDepth 100000
set_option maxHeartbeats 4000000
set_option linter.unusedVariables false
set_option linter.unusedSimpArgs false
open Go.RowKit
attribute [local go_sem ↓] Go.wp_at_zero Go.wp_at_succ
def A6(w:T)(v:M)(g:aQ)(k:A):Prop:=∃ap cp al nl cl ac nc cc,v=.agg #[J ap (D g.aH) cp,O Z g.result,J al nl cl,J ac nc cc,O Z k]/\aY w (J ap (D g.aH) cp) g.aH
def mA(W w:T)(b n:R)(N:I AI->By (aQ×A)):Prop:=∃m,mY w b n m/\∀s,(N s=G/\m s=G)\/∃g k v,N s=Y (g,k)/\m s=Y v/\A6 W v g k
theorem mA.lt(h:mA W w b n N):b<w.heap.size:=by
 obtain⟨m,d,_⟩:=h;exact d.lt
theorem mA.kept(h:mA W w b n N)(g:w'.heap[b]? =w.heap[b]?):mA W w' b n N:=by
 obtain⟨m,F,d⟩:=h;exact⟨m,F.kept g,d⟩
theorem mA.gr(h:mA W w b n N)(d:Gr w w'):mA W w' b n N:=h.kept (d.block b h.lt Q6)
theorem mA.find(h:mA W w b n N)(s:ByteArray)(hs:s.size<=maxLen):
 (N s.data.toList=G/\(∀w',Gr w w'->(Instr.lookup 164 (.map (Y b)) (.string s) AT).run prog w'=.ok (.tuple #[tW,.bool AS]) w')/\∀w',Gr w w'->(Instr.lookup 164 (.map (Y b)) (.string s) AS).run prog w'=.ok tW w')\/
 ∃g k v,N s.data.toList=Y (g,k)/\A6 W v g k/\(∀w',Gr w w'->(Instr.lookup 164 (.map (Y b)) (.string s) AT).run prog w'=.ok (.tuple #[v,.bool AT]) w')/\∀w',Gr w w'->(Instr.lookup 164 (.map (Y b)) (.string s) AS).run prog w'=.ok v w':=by
 have hl:=h.lt;obtain⟨m,h1,h2⟩:=h;rcases h2 s.data.toList with⟨e1,F⟩|⟨g,k,v,e1,F,e3⟩
 · refine .inl ⟨e1,λw' d=>?_,λw' d=>?_⟩
   · have:=(h1.kept (d.block b hl Q6)).look s hs
     rw[F]at this;exact this
   have:=(h1.kept (d.block b hl Q6)).look1 s hs
   rw[F]at this;exact this
 refine .inr ⟨g,k,v,e1,e3,λw' d=>?_,λw' d=>?_⟩
 · have:=(h1.kept (d.block b hl Q6)).look s hs
   rw[F]at this;exact this
 have:=(h1.kept (d.block b hl Q6)).look1 s hs
 rw[F]at this;exact this
theorem zn{α:Type}{p:α->Bool}{l:I α}{j:R}{x:α}(d:l[j]? =Y x)(hp:p x=AT):l.any p=AT:=by
 rw[Mj];exact⟨x,dL d,hp⟩
theorem xK{α:Type}{p:α->Bool}{l:I α}(h:∀m x,m<D l->l[m]? =Y x->p x=AS):l.any p=AS:=by
 rw[Bool.eq_false_iff];intro c;rw[Mj]at c;obtain⟨x,d,hp⟩:=c;obtain⟨m,hm,rfl⟩:=MU d;rw[h m _ hm (dW hm)]at hp;cases hp
def GH(w:T)(b:R)(e k:A):Prop:=H w (Q b 0 G)=Y (O Z e)/\H w (Q b 1 G)=Y (O Z 0)/\H w (Q b 2 G)=Y (O Z k)
theorem GH.gr{e k:A}(h:GH w b e k)(g:Gr w w'):GH w' b e k:=⟨g.cell h.1 Q6,g.cell h.2.1 Q6,g.cell h.2.2 Q6⟩
theorem RJ{p:Prop}(h:p:=by rw[aP h];rfl):p:=h
theorem GH.new(w:T)(e k:A)(t:TypeId):GH (w.alloc (X #[O Z e,O Z 0,O Z k] t)) w.heap.size e k:=by
 have h:=jZ w (X #[O Z e,O Z 0,O Z k] t);exact⟨RJ,RJ,RJ⟩
theorem Pc{p:Prop}(h:p:=by
 go_wp2_with fail;go_end0
 refine .inl ⟨?_,rfl,HG.trans (Uf.trans TS)⟩;exact xK λm x hm hx=>by rw[HA m x hm hx];rfl):p:=h
theorem DG(W:T)(l:I aK)(mb n:R)(N:I AI->By (aQ×A))(W0:T)(ay:Gr W0 W)(hM:mA W0 W mb n N):
 CK W 76 #[.map (Y mb)] #[] 7 l (λ_ u=>u.aC.any λi=>!(N i.name).isSome) (λ_ V=>Gr W V) (λV=>Gr W V):=by
 intro k u V vu hu hg hR;show Calls prog 76 #[.map (Y mb),vu,.agg #[O Z 7,O Z 0,O Z (k:A)]] V _
 obtain⟨a1,a2,a3,a4,a5,c1,c2,c3,c4,c5,rfl,_,_,_,r4,_⟩:=(hR.gr hg).parts;obtain⟨ao,cap,he,az,ae⟩:=r4;simp only[jj,Bt]at he;obtain⟨rfl,rfl⟩:=he;have HC:=aJ ae;have HM:=aJ (hM.gr hg);have HG:=aJ hg;unfold maxLen at az;have HY:=aJ (GH.new (V.alloc (X (yE u a1 c1 a2 c2 a3 c3 a4 c4 a5 c5) 58)) 7 k 91);have Uf:=aJ (((Gr.refl V).alloc (X (yE u a1 c1 a2 c2 a3 c3 a4 c4 a5 c5) 58)).alloc (X #[O Z 7,O Z 0,O Z k] 91));have ai:(V.alloc (X (yE u a1 c1 a2 c2 a3 c3 a4 c4 a5 c5) 58)).heap.size=V.heap.size+1:=Q6;rw[ai]at HY;clear hM hg hR hu ae ai ay;go_enter func76,ntmps76
 go_wp2_with fail;generalize (V.alloc _).alloc _=W1 at HY Uf |-;generalize V.heap.size+1=yb at HY |-;go_loopw[13] (λi wr=>∃j:R,i=O Z (j:A)/\j<=D u.aC/\(∀m x,m<j->u.aC[m]? =Y x->(N x.name).isSome=AT)/\Gr W1 wr) λi _=>D u.aC-(intOf i).toNat
 case atStart=>exact⟨0,rfl,Lz,λm x hm=>by omega,G0⟩
 obtain⟨j,rfl,hj,Tc,af⟩:=hrel;have HA:=aJ Tc;have TS:=aJ af;clear Tc af;by_cases IN:j<D u.aC
 · obtain⟨x,hx⟩:=aU IN;obtain⟨b,off,vs,vp,rfl,k0,k1,k2,⟨s,rfl,hs,S7⟩,rp⟩:=HC j x hx;obtain⟨ap,cp,rfl⟩:=rp.shape;have g1:=Uf.trans TS;have k0:=g1.cell k0 Q6;have k1:=g1.cell k1 Q6;have k2:=g1.cell k2 Q6;have TG:(j:A)<D u.aC:=by omega
   have hw:Z.wrap _=j+1:=Q_;have HX:=aJ hx;have F:=(Gr.refl wr).alloc (X #[.string s,J ap (D x.aH) cp,O Z x.result] 89);rcases(HM.gr g1).find s S7 with⟨e1,e2,_⟩|⟨g,kk,v,e1,e2,e3,_⟩
   · have ad:=e2 _ F;have d:=F.alloc (X #[J G 0 0,O Z 0,J G 0 0,J G 0 0,O Z 0] 231);obtain⟨y0,y1,y2⟩:=(HY.gr TS).gr d;have HN:U ((N x.name).isSome=AS):=aJ (by rw[<-hs,e1];rfl);have Uw:=aJ d;unfold tW at ad;clear e1 e2 hs S7 rp hx F d g1;go_wp2_with fail;refine(bA _ _ _).mono ?_;rintro z w3 ⟨rfl,Ta⟩;refine⟨rfl,.inr ⟨?_,rfl,?_⟩⟩
     · exact zn HX (by rw[HN];rfl)
     exact HG.trans (Uf.trans (TS.trans (Uw.trans Ta)))
   obtain⟨tp,tcp,tl,av,aA,tc,al,ak,rfl,_⟩:=e2;have ad:=e3 _ F;have d:=F.alloc (X #[J tp (D g.aH) tcp,O Z g.result,J tl av aA,J tc al ak,O Z kk] 231);obtain⟨y0,y1,y2⟩:=(HY.gr TS).gr d;have HN:U ((N x.name).isSome=AT):=aJ (by rw[<-hs,e1];rfl);have Uw:=aJ d;clear e1 e3 hs S7 rp hx F d g1;go_wp2_with fail;refine(aj _ _ _).mono ?_;rintro z w3 ⟨rfl,Ta⟩;have Te:=aJ (TS.trans (Uw.trans Ta));clear Ta ad y0 y1 y2 k0 k1 k2;go_wp2_with fail;refine⟨⟨j+1,Q6,IN,?_,Te⟩,Qh⟩;intro m z hm hz;by_cases e:m=j
   · subst e;rw[HX]at hz;cases hz;exact HN
   exact HA m z Q5 hz
 have ax:j=D u.aC:=by omega
 subst ax;clear IN hj;exact Pc
theorem Tryz.tgtF(a b c d e:M)(w:T):(Instr.field 231 (.agg #[a,b,c,d,e]) 0).run Tryz.prog w=.ok (.agg #[a,b,c,d]) w:=Q7
theorem Tryz.tgtN(a b c d e:M)(w:T):(Instr.field 231 (.agg #[a,b,c,d,e]) 1).run Tryz.prog w=.ok e w:=Q7
theorem Cy(W:T)(l:I aK)(mb n:R)(N:I AI->By (aQ×A))(W0:T)(aB:Gr W0 W)(hM:mA W0 W mb n N)(hN:∀u∈l,∀i∈u.aC,(N i.name).isSome=AT):
 CK W 77 #[.map (Y mb)] #[] 8 l (λ_ u=>u.aC.any λi=>!jX N i) (λ_ V=>Gr W V) (λV=>Gr W V):=by
 intro k u V vu hu hg hR;show Calls prog 77 #[.map (Y mb),vu,.agg #[O Z 8,O Z 0,O Z (k:A)]] V _
 obtain⟨a1,a2,a3,a4,a5,c1,c2,c3,c4,c5,rfl,_,_,_,r4,_⟩:=(hR.gr hg).parts;obtain⟨ao,cap,he,aE,aA⟩:=r4;simp only[jj,Bt]at he;obtain⟨rfl,rfl⟩:=he;have HC:=aJ aA;have HM:=aJ (hM.gr hg);have HG:=aJ hg;have WV:=aJ (aB.trans hg);have ay:=aJ (hN u (dL hu));unfold maxLen at aE;have HY:=aJ (GH.new (V.alloc (X (yE u a1 c1 a2 c2 a3 c3 a4 c4 a5 c5) 58)) 8 k 91);have Uf:=aJ (((Gr.refl V).alloc (X (yE u a1 c1 a2 c2 a3 c3 a4 c4 a5 c5) 58)).alloc (X #[O Z 8,O Z 0,O Z k] 91));have ad:(V.alloc (X (yE u a1 c1 a2 c2 a3 c3 a4 c4 a5 c5) 58)).heap.size=V.heap.size+1:=Q6;rw[ad]at HY;go_enter func77,ntmps77
 go_wp2_with fail;generalize (V.alloc _).alloc _=W1 at HY Uf |-;generalize V.heap.size+1=yb at HY |-;go_loopw[12] (λi wr=>∃j:R,i=O Z (j:A)/\j<=D u.aC/\(∀m x,m<j->u.aC[m]? =Y x->jX N x=AT)/\Gr W1 wr) λi _=>D u.aC-(intOf i).toNat
 case atStart=>exact⟨0,rfl,Lz,λm x hm=>by omega,G0⟩
 obtain⟨j,rfl,hj,Tc,aD⟩:=hrel;have HA:=aJ Tc;have TS:=aJ aD;by_cases IN:j<D u.aC
 · obtain⟨x,hx⟩:=aU IN;obtain⟨b,off,vs,vp,rfl,k0,k1,k2,⟨s,rfl,hs,S7⟩,rp⟩:=HC j x hx;obtain⟨ap,cp,rfl⟩:=rp.shape;have g1:=Uf.trans TS;have k0:=g1.cell k0 Q6;have k1:=g1.cell k1 Q6;have k2:=g1.cell k2 Q6;have TG:(j:A)<D u.aC:=by omega
   have hw:Z.wrap _=j+1:=Q_;have HX:=aJ hx;have ax:=(Gr.refl wr).alloc (X #[.string s,J ap (D x.aH) cp,O Z x.result] 89);have aI:=jZ wr (X #[.string s,J ap (D x.aH) cp,O Z x.result] 89);rcases(HM.gr g1).find s S7 with⟨e1,_,_⟩|⟨g,kk,v,e1,e2,_,e3⟩
   · have:=ay x (dL hx)
     rw[<-hs,e1]at this;cases this
   obtain⟨tp,tcp,tl,ai,ak,tc,af,ae,rfl,aF⟩:=e2;have aM:=e3 _ ax;have F:=ax.alloc (X #[J tp (D g.aH) tcp,O Z g.result,J tl ai ak,J tc af ae] 74);have ad:=jZ (wr.alloc (X #[.string s,J ap (D x.aH) cp,O Z x.result] 89)) (X #[J tp (D g.aH) tcp,O Z g.result,J tl ai ak,J tc af ae] 74);have hsb:(wr.alloc (X #[.string s,J ap (D x.aH) cp,O Z x.result] 89)).heap.size=wr.heap.size+1:=by simp
   rw[hsb]at ad;have IT:Gr _ ((wr.alloc (X #[.string s,J ap (D x.aH) cp,O Z x.result] 89)).alloc (X #[J tp (D g.aH) tcp,O Z g.result,J tl ai ak,J tc af ae] 74)):=(G0).alloc _;have az:=aJ ((HY.gr TS).gr F);have HN:U (jX N x=decide _):=aJ (by unfold jX;rw[<-hs,e1]);have Uw:=aJ F;have al:=aJ ((rp.gr g1).gr F);have av:=aJ (((aF.gr WV).gr g1).gr F);have KS:U (∀w',Gr _ w'->H w' _=Y _/\H w' _=Y _/\H w' _=Y _/\H w' ⟨_,1,_⟩=Y (J _ _ _)/\H w' ⟨_,2,_⟩=Y (.int _ _)/\H w' ⟨_,0,_⟩=Y (J _ _ _)/\H w' ⟨_,1,_⟩=Y (.int _ _)):=aJ (λw' g=>by
    have e0:=((IT.trans g).block _ Q6 Q6).trans aI;have e1:=(g.block _ Q6 Q6).trans ad;obtain⟨y0,y1,y2⟩:=az.gr g;exact⟨y0,y1,y2,RR,RR,RP,RP⟩)
   have aL:=λ(a b c d e) w=>Tryz.tgtF a b c d e w
   go_upto_region 5 with fail
   generalize (wr.alloc _).alloc _=W2 at KS Uw al av |-;refine xE (S:=(λw'=>H w' _=Y _/\H w' _=Y _/\H w' _=Y _/\H w' _=Y _/\H w' _=Y _/\H w' _=Y _/\H w' _=Y _)) Q7 (KS _ Gy) λhH=>?_;refine tL 0 ?_;refine tL 1 ?_;refine tL 2 ?_;refine tL 3 ?_;refine tL 4 ?_;refine bQ (i:=5) rfl Q7 λK hK=>?_;refine am rfl _ _ _ rfl _ fZ (Tryz.callEqI _ _) ((oF _ _ _ _ _ (al.gr Gy) (av.gr Gy)).mono ?_);rintro z w2 ⟨rfl,IT⟩;have OF:=aJ ((Gy).trans IT);refine .inl ⟨_,rfl,?_⟩;refine hK _ _ (KS _ OF) λhH=>?_;try simp only[Act.put,sA,s0,s1]
   by_cases h1:x.aH=g.aH
   · have ed:decide (x.aH=g.aH)=AT:=by simpa using h1
     rw[ed];refine tL 6 ?_;refine tL 7 ?_;refine tL 8 ?_;refine tL 9 ?_;refine tL 10 ?_;by_cases h2:x.result=g.result
     · have ed:(x.result==g.result)=AT:=by simpa using h2
       refine tL 11 ?_;refine tL 12 ?_;refine bQ (i:=13) rfl Q7 λK hK=>?_;refine am rfl _ _ _ rfl #[.agg #[.int _ 8,.int _ 0,.int _ k],.bool _] (by simp[Act.eval,ed]) (Tryz.callUnl _ _) ((aj _ _ _).mono ?_);rintro z w3 ⟨rfl,Ta⟩;have Tg:=aJ (OF.trans Ta);refine .inl ⟨_,rfl,?_⟩;refine hK _ _ (KS _ Tg) λhH=>?_;try simp only[Act.put,sA,s0,s1]
       refine Ev Q7 ?_ _;have Te:=aJ (TS.trans (Uw.trans Tg));go_wp2_with fail;refine⟨⟨j+1,Q6,IN,?_,Te⟩,Qh⟩;intro m z hm hz;by_cases e:m=j
       · subst e;rw[HX]at hz;cases hz;rw[HN];simp[h1,h2]
       exact HA m z Q5 hz
     have ed:(x.result==g.result)=AS:=RG
     refine tL 11 ?_;refine tL 12 ?_;refine bQ (i:=13) rfl Q7 λK hK=>?_;refine am rfl _ _ _ rfl #[.agg #[.int _ 8,.int _ 0,.int _ k],.bool _] (by simp[Act.eval,ed]) (Tryz.callUnl _ _) ((bA _ _ _).mono ?_);rintro z w3 ⟨rfl,Ta⟩;refine .inr ⟨_,rfl,?_⟩;exact⟨rfl,.inr ⟨zn HX (by rw[HN];simp[h1,h2]),rfl,HG.trans (Uf.trans (TS.trans (Uw.trans (OF.trans Ta))))⟩⟩
   have ed:decide (x.aH=g.aH)=AS:=RE
   rw[ed];refine tL 6 ?_;refine eH (i:=7) rfl Q7 Q7 Q7 (λ_ _ _ h=>h) bZ hH ?_;simp only[Act.put,sA,s0,s1];refine eH (i:=8) rfl Q7 Q7 Q7 (λ_ _ _ h=>h) bZ hH ?_;simp only[Act.put,sA,s0,s1];refine eH (i:=9) rfl Q7 Q7 Q7 (λ_ _ _ h=>h) bZ hH ?_;simp only[Act.put,sA,s0,s1];refine eH (i:=10) rfl Q7 Q7 Q7 (λ_ _ _ h=>h) bZ hH ?_;simp only[Act.put,sA,s0,s1];refine eH (i:=11) rfl Q7 Q7 Q7 (λ_ _ _ h=>h) bZ hH ?_;simp only[Act.put,sA,s0,s1];refine tL 12 ?_;refine bQ (i:=13) rfl Q7 λK hK=>?_;refine am rfl _ _ _ rfl #[.agg #[.int _ 8,.int _ 0,.int _ k],.bool _] fZ (Tryz.callUnl _ _) ((bA _ _ _).mono ?_);rintro z w3 ⟨rfl,Ta⟩;refine .inr ⟨_,rfl,?_⟩;exact⟨rfl,.inr ⟨zn HX (by rw[HN];simp[h1]),rfl,HG.trans (Uf.trans (TS.trans (Uw.trans (OF.trans Ta))))⟩⟩
 have aG:j=D u.aC:=by omega
 subst aG;exact Pc
def ig(l:I aK):R->I (I AI)
 | 0=> []
 | k+1=>((l[k]?).bind λu=>eM (ig l k) u.aD).getD []
theorem qb(l:I aK):∀(n k:R),n+k=D l->jF (λk u=>(eM (ig l k) u.aD).isNone) k (l.drop k)=g9 (ig l k) k (l.drop k)
 | 0,k,h=>by rw[List.drop_eq_nil_of_le Q5];rfl
 | n+1,k,h=>by
  have d:k<D l:=Q5;rw[Be d,jF,g9];cases e:eM (ig l k) l[k].aD with
  | none=>simp
  | some s=>
   have hs:ig l (k+1)=s:=by rw[ig,dW d];simp[e]
   rw[<-hs,qb l n _ Q5];simp
theorem uy(u:aK):∀(l:I aK) (f:R) (N:I AI->By (aQ×A)),iA f (l++[u]) N=qz u (f+(l.map λu=>D u.aG).sum) u.aD (iA f l N)
 | [],f,N=>by simp[iA]
 | v::l,f,N=>by rw[Ls,iA,uy u l,iA,Lq,Mg,MX]
theorem DQ(h:l[k]? =Y u):iA 0 (l.take (k+1)) (λ_=>G)=qz u (cw l k) u.aD (iA 0 (l.take k) λ_=>G):=by
 obtain⟨d,rfl⟩:=dm.1 h;rw[AB d,uy];unfold cw;rw[Aq]
theorem qE(h:∀u∈l,D u.aG<=30):∀k,cw l k<=30*k
 | 0=>by simp[cw]
 | k+1=>by
  by_cases d:k<D l
  · rw[i8 (dW d)];have:=qE h k
    have:=h _ (L2 d)
    omega
  have e:cw l (k+1)=cw l k:=by unfold cw;rw[JH Q5,JH Q5]
  have:=qE h k
  omega
theorem PH{p:Prop}(h:p:=by simp only[wB,sQ,xw]at this;omega):p:=h
theorem jo(h:bG u=AT):D u.aG<=30/\D u.aE<=50/\D u.aC<=20/\D u.aD<=20/\D u.aA<=20/\(∀e∈u.aD,0<=e.func/\e.func<(D u.aG:A))/\(∀f∈u.aG,D f.aH<=6/\D f.aI<=10/\D f.code<=200/\f.code.all bl=AT)/\∀s∈u.aA,D s<=8:=by
 unfold bG cm cO cG cH bh at h;simp only[wB,sQ,xw]at h;obtain⟨⟨s1,s2⟩,h2,⟨h3,d⟩,⟨h5,h6⟩,h7,h8⟩:=h;refine⟨Q5,Q5,Q5,Q5,Q5,λe he=>?_,λf F=>?_,λs hs=>?_⟩
 · have:=zl.1 h8 e he
   unfold fi at this;exact PH
 · have:=zl.1 d f F
   unfold dA iG ir at this;simp only[wB,sQ,xw]at this;obtain⟨⟨p1,p2,p3⟩,p4,p5,p6,p7⟩:=this;exact⟨Q5,Q5,Q5,p7⟩
 have:=zl.1 s2 s hs
 unfold dM at this;exact PH
theorem aq{arr:Array M}{t:TypeId}(h:w.heap[b]? =Y (X arr t (0,0))):w.frozen? ⟨b,o,G⟩=AS:=by
 simp[World.frozen?,h]
theorem D1(h:Gr W V)(g:V.grownBy w (Y mb))(hm:W.heap.size<=mb):Gr W w:=
 ⟨g.os.trans h.os,g.tape.trans h.tape,g.output.trans h.output,wz h.size g.size,λi hi No=>(g.block i (tu hi h.size) jB).trans (h.block i hi No)⟩
theorem Bb(h:Gr w w'):w.grownBy w' ob:=⟨h.os,h.tape,h.output,h.size,λi hi _=>h.block i hi Q6⟩
theorem rz{a b c:T}(h:a.grownBy b ob)(k:b.grownBy c ob):a.grownBy c ob:=
 ⟨k.os.trans h.os,k.tape.trans h.tape,k.output.trans h.output,wz h.size k.size,λi hi No=>(k.block i (tu hi h.size) No).trans (h.block i hi No)⟩
theorem p_{v:M}(h:Gr W V)(d:W.heap.size<=b):Gr W (V.setCell (Q b o G) v):=
 ⟨h.os,h.tape,h.output,Rh,λi hi No=>by rw[dp _ _ _ _ (by show i≠b;omega)];exact h.block i hi No⟩
structure JK(W:T)(nb fb mb:R)(l:I aK)(k:R)(V:T):Prop where
 gr:Gr W V
 nb0:W.heap.size<=nb
 fb0:W.heap.size<=fb
 mb0:W.heap.size<=mb
 nf:¬nb=fb
 nm:¬nb=mb
 fm:¬fb=mb
 cn:H V (Q nb 0 G)=Y (.map (Y mb))
 cf:H V (Q fb 0 G)=Y (O Z (cw l k:A))
 zf:V.frozen? ⟨fb,0,G⟩=AS
 mp:∃n,n<=20*k/\mA W V mb n (iA 0 (l.take k) λ_=>G)
 sn:∀s,s∈ig l k↔(iA 0 (l.take k) (λ_=>G) s).isSome=AT
theorem JK.step{F fb:R}{d:T}(h:JK W F fb mb l k V)(g:Gr V d):JK W F fb mb l k d:=by
 obtain⟨n,hn,hm⟩:=h.mp;exact⟨h.gr.trans g,h.nb0,h.fb0,h.mb0,h.nf,h.nm,h.fm,g.cell h.cn Q6,g.cell h.cf Q6,(zc (g.block _ (wI V _ h.cf) Q6)).trans h.zf,⟨n,hn,hm.gr g⟩,h.sn⟩
theorem mA.put(h:mA W w b n N)(s:ByteArray)(hs:s.size<=maxLen)(hn:n<1000000){v:M}{g:aQ}{k:A}(hv:A6 W v g k):
 ∃w',(Instr.mapUpdate 164 (.map (Y b)) (.string s) v).run prog w=.ok () w'/\mA W w' b (n+1) (λj=>if j=s.data.toList then Y (g,k) else N j)/\w.grownBy w' (Y b):=by
 obtain⟨m,h1,h2⟩:=h;obtain⟨w',hr,hm,d⟩:=h1.store s hs hn v;refine⟨_,hr,⟨_,hm,λj=>?_⟩,d⟩;by_cases e:j=s.data.toList
 · exact .inr ⟨g,k,v,by simp[e],by simp[e],hv⟩
 rcases h2 j with h|⟨g',k',v',e1,e2,F⟩
 · exact .inl ⟨by simp[e,h.1],by simp[e,h.2]⟩
 exact .inr ⟨_,_,_,by simp[e,e1],by simp[e,e2],F⟩
theorem SI{p:Prop}(h:p:=by rw[dW IN]at hx;exact tz hx):p:=h
theorem Dd(W:T)(l:I aK)(nb fb mb:R)(dw:D l<=6)(Tb:∀u∈l,bG u=AT):
 CK W 125 #[] #[.pointer (Y (Q nb 0 G)),.pointer (Y (Q fb 0 G))] 6 l (λk u=>(eM (ig l k) u.aD).isNone) (JK W nb fb mb l) (λV=>Gr W V):=by
 intro k u V vu hu hI hR;show Calls prog 125 #[vu,.agg #[O Z 6,O Z 0,O Z (k:A)],.pointer (Y (Q nb 0 G)),.pointer (Y (Q fb 0 G))] V _
 obtain⟨a1,a2,a3,a4,a5,c1,c2,c3,c4,c5,rfl,_,_,r3,_,r5⟩:=hR.parts;obtain⟨ao,cap,he,cz,a8⟩:=r5;simp only[jj,Bt]at he;obtain⟨rfl,rfl⟩:=he;obtain⟨dT,c6,he,b',bt⟩:=r3;simp only[jj,Bt]at he;obtain⟨rfl,rfl⟩:=he;have dO:=(dm.1 hu).1;have ds:k<6:=Q5;have a6:=jo (Tb u (dL hu));obtain⟨U9,_,_,ec,_,bj,_⟩:=a6;have b6:=qE (λu hu=>(jo (Tb u hu)).1) k;have bg:=aJ (i8 hu);have av:=aJ (DQ hu);have bp:U (∀s,eM (ig l k) u.aD=Y s->ig l (k+1)=s):=aJ (λs e=>by rw[ig,hu];simp[e]);obtain⟨n0,WR,hM⟩:=hI.mp;have dd:=hM.lt;have b8:=wI V _ hI.cf;have HC:=aJ a8;have T6:=aJ bt;have b5:=aJ bj;have F:=aJ hI;have HM:=aJ hM;unfold maxLen at cz b';have HY:=aJ (GH.new (V.alloc (X (yE u a1 c1 a2 c2 a3 c3 a4 c4 a5 c5) 58)) 6 k 91);have Uf:=aJ (((Gr.refl V).alloc (X (yE u a1 c1 a2 c2 a3 c3 a4 c4 a5 c5) 58)).alloc (X #[O Z 6,O Z 0,O Z k] 91));have TI:=jZ V (X (yE u a1 c1 a2 c2 a3 c3 a4 c4 a5 c5) 58);have aL:U (H ((V.alloc _).alloc (X #[O Z 6,O Z 0,O Z k] 91)) ⟨_,2,_⟩=Y (J _ _ _)):=aJ (((G0).alloc _:Gr _ _).cell (by rw[aP TI];rfl) Q6);have bB:(V.alloc (X (yE u a1 c1 a2 c2 a3 c3 a4 c4 a5 c5) 58)).heap.size=V.heap.size+1:=Q6;rw[bB]at HY;have af:((V.alloc (X (yE u a1 c1 a2 c2 a3 c3 a4 c4 a5 c5) 58)).alloc (X #[O Z 6,O Z 0,O Z k] 91)).heap.size=V.heap.size+2:=Q6;clear hI hR hu a8 bB hM bt TI Tb bj;go_enter func125,ntmps125
 go_wp2_with fail;generalize (V.alloc _).alloc _=W1 at HY Uf aL af |-;have ay:¬V.heap.size+1=mb:=Q5;have T1:¬V.heap.size=mb:=Q5;obtain⟨yb,ai⟩:∃yb,V.heap.size+1=yb:=⟨_,rfl⟩;rw[ai]at HY ay |-;generalize a0:V.heap.size=ub at T1 aL |-;clear ai a0 af;generalize aF:iA 0 _ _=N0 at HM av;generalize aE:ig l k=S0 at bp |-;have Wg:U (∀s,s∈S0↔(N0 s).isSome=AT):=aJ (by rw[<-aF,<-aE];exact F.sn);generalize bF:cw l k=F0 at b6 bg av;have aC:=aJ (And.intro aF (And.intro aE bF));clear aF aE bF;go_loopw[13] (λi wr=>∃(j:R) (S':I (I AI)) (N':I AI->By (aQ×A)),i=O Z (j:A)/\j<=D u.aD/\eM S0 u.aD=eM S' (u.aD.drop j)/\qz u F0 u.aD N0=qz u F0 (u.aD.drop j) N'/\(∀s,s∈S'↔(N' s).isSome=AT)/\mA W wr mb (n0+j) N'/\W1.grownBy wr (Y mb)) λi _=>D u.aD-(intOf i).toNat
 case atStart=>exact⟨0,_,_,rfl,Lz,rfl,rfl,Wg,HM.gr Uf,Bb G0⟩
 obtain⟨j,S',N',rfl,hj,hS,hN,a',bo,d⟩:=hrel;have HS:=aJ hS;have HN:=aJ hN;have az:=aJ a';have ax:=aJ bo;have TS:=aJ d;have Ua:=aJ (D1 (F.gr.trans Uf) d F.mb0);have cn:=d.cell (Uf.cell F.cn Q6) (by simp;exact F.nm);have cu:=d.cell aL (by simp;exact T1);have cf:=d.cell (Uf.cell F.cf Q6) (by simp;exact F.fm);rw[aC.2.2]at cf;have bC:U (GH _ _ 6 k):=aJ ⟨d.cell HY.1 (by simp;exact ay),d.cell HY.2.1 (by simp;exact ay),d.cell HY.2.2 (by simp;exact ay)⟩;clear hS hN a' bo;by_cases IN:j<D u.aD
 · obtain⟨x,hx⟩:=aU IN;obtain⟨b,off,vs,rfl,k0,k1,⟨s,rfl,hs,S7⟩⟩:=HC j x hx;have cx:=b5 x (dL hx);obtain⟨q,hq⟩:∃q:R,x.func=q:=⟨x.func.toNat,Q5⟩;rw[hq]at k1 cx;have b1:q<D u.aG:=by omega
   obtain⟨g,ak⟩:=aU b1;obtain⟨cp,c',vp,vl,vc,rfl,f0,f1,f2,f3,rp,rl,rc⟩:=T6 q g ak;obtain⟨pp,pc,rfl⟩:=rp.shape;obtain⟨lp,lc,rfl⟩:=rl.shape;obtain⟨xp,xc,rfl⟩:=rc.shape;have cv:=aJ (wI W _ f0);have b3:U (A6 W (.agg #[J _ _ _,.int _ _,J lp (D g.aI) lc,J xp (D g.code) xc,.int _ _]) g (F0+q)):=aJ ⟨_,_,_,_,_,_,_,_,rfl,rp⟩;have k0:=Ua.cell k0 Q6;have k1:=Ua.cell k1 Q6;have HF:=aJ (And.intro (Ua.cell f0 Q6) (And.intro (Ua.cell f1 Q6) (And.intro (Ua.cell f2 Q6) (Ua.cell f3 Q6))));have TG:(j:A)<D u.aD:=Q5;have hw:Z.wrap _=j+1:=Q_;have UQ:Z.wrap _=F0+q:=Q_;have ae:=(Gr.refl wr).alloc (X #[.string s,O Z q] 71);have b7:=aJ (jZ wr (X #[.string s,O Z q] 71));have di:=ae.cell cn Q6;have HD:U (u.aD.drop j=x::u.aD.drop (j+1)):=aJ (by
    rw[Be IN];have:=SI
    rw[this])
   clear rp rl rc f0 f1 f2 f3 hx;rcases ax.find s S7 with⟨e1,e2,_⟩|⟨g',kk,v,e1,e2,e3,_⟩
   · have aM:=e2 _ ae;have ad:=ae.alloc (X #[J G 0 0,O Z 0,J G 0 0,J G 0 0,O Z 0] 231);obtain⟨y0,y1,y2⟩:=bC.gr ad;have aA:U (¬x.name∈S'):=aJ (λc=>by rw[az,<-hs,e1]at c;cases c);have Uw:=aJ ad;have aB:=aJ hs;have b0:=aJ S7;have HQ:=aJ hq;have b2:=aJ ak;have a7:U (Gr _ ((wr.alloc (X #[.string s,O Z q] 71)).alloc (X #[J G 0 0,O Z 0,J G 0 0,J G 0 0,O Z 0] 231))):=aJ G5;have bL:=aJ (And.intro cn (And.intro cu cf));unfold tW at aM;clear e1 e2 hs S7 ae ad hq ak d cn cu cf;go_wp2_with fail;refine(aj _ _ _).mono ?_;rintro z w3 ⟨rfl,Ta⟩;have KS:U (∀w',Gr _ w'->H w' _=Y _/\H w' _=Y _/\H w' _=Y _/\H w' ⟨_,0,_⟩=Y (.string s)/\H w' ⟨_,1,_⟩=Y (.int _ q)/\H w' _=Y _/\H w' _=Y _/\H w' _=Y _/\H w' _=Y _):=aJ (λw' g=>by
      have g0:=Ta.trans g;have g1:=Uw.trans g0;have e0:=((a7.trans g0).block _ Q6 Q6).trans b7;obtain⟨p1,p2,p3⟩:=bL.j;obtain⟨f0,f1,f2,f3⟩:=HF.j;exact⟨g1.cell p1 Q6,g1.cell p2 Q6,g1.cell p3 Q6,RR,RR,g1.cell f0 Q6,g1.cell f1 Q6,g1.cell f2 Q6,g1.cell f3 Q6⟩)
     obtain⟨w5,Tj,a9,Th⟩:=((ax.gr (Uw.trans Ta)).gr Gy).put s b0 Q5 b3;have cB:=aJ a9;have Tu:=aJ (rz TS (rz (Bb ((Uw.trans Ta).trans Gy)) Th));have b4:U (H w5 _=Y _/\H w5 _=Y _/\H w5 _=Y _/\H w5 _=Y _/\H w5 _=Y _/\H w5 _=Y _/\H w5 _=Y _/\H w5 _=Y _/\H w5 _=Y _):=aJ (by
      obtain⟨q1,q2,q3,q4,q5,q6,q7,q8,q9⟩:=KS _ Gy;have al:¬cp=mb:=by have:=cv.j;have:=F.mb0;omega
      have bk:¬wr.heap.size=mb:=by have:=ax.lt;omega
      exact⟨Th.cell q1 (by simp;exact F.nm),Th.cell q2 (by simp;exact T1),Th.cell q3 (by simp;exact F.fm),Th.cell q4 (by simp;exact bk),Th.cell q5 (by simp;exact bk),Th.cell q6 (by simp;exact al),Th.cell q7 (by simp;exact al),Th.cell q8 (by simp;exact al),Th.cell q9 (by simp;exact al)⟩)
     clear Ta aM y0 y1 y2 k0 k1 a9;go_upto_region 6 with fail
     refine xE (S:=(λw'=>H w' _=Y _/\H w' _=Y _/\H w' _=Y _/\H w' _=Y _/\H w' _=Y _/\H w' _=Y _/\H w' _=Y _/\H w' _=Y _/\H w' _=Y _)) Q7 (KS _ Gy) λhH=>?_;refine tL 0 ?_;refine tL 1 ?_;refine tL 2 ?_;refine tL 3 ?_;refine tL 4 ?_;refine tL 5 ?_;refine tL 6 ?_;refine tL 7 ?_;refine tL 8 ?_;refine tL 9 ?_;refine tL 10 ?_;refine tL 11 ?_;refine tL 12 ?_;refine tL 13 ?_;refine bQ (i:=14) rfl Q7 λK hK=>?_;refine aW bZ ?_;go_simp
     refine hK _ _ (b4) λhH=>?_;clear hK;try simp only[Act.put,sA,s0,s1]
     refine Ev Q7 ?_ _;clear Tj hH Th;go_wp2_with fail;refine⟨⟨j+1,x.name::S',_,Q6,IN,?_,?_,?_,cB,Tu⟩,Qh⟩
     · rw[HS,HD,eM,eP aA]
     · rw[HN,HD,qz];congr 1
       funext y
       rw[HQ,A7,b2,aB];rfl
     intro y;rw[Ce,az];by_cases e:y=x.name
     · simp[e,aB.j]
     simp[e,aB.j]
   obtain⟨tp,tcp,tl,ck,cL,tc,cc,ca,rfl,_⟩:=e2;have aM:=e3 _ ae;have ad:=ae.alloc (X #[J tp (D g'.aH) tcp,O Z g'.result,J tl ck cL,J tc cc ca,O Z kk] 231);obtain⟨y0,y1,y2⟩:=bC.gr ad;have aA:U (x.name∈S'):=aJ (by rw[az,<-hs,e1];rfl);have Uw:=aJ ad;clear e1 e3 hs S7 ae ad hq ak d cf cu;go_wp2_with fail;refine(bA _ _ _).mono ?_;rintro z w3 ⟨rfl,Ta⟩;refine⟨rfl,.inr ⟨?_,rfl,?_⟩⟩
   · show(eM (ig l k) u.aD).isNone=AT
     rw[aC.2.1,HS,HD,eM,mI aA.j];rfl
   exact Ua.trans (Uw.trans Ta)
 have cl:j=D u.aD:=by omega
 subst cl;have UA:U (eM _ _=Y _):=aJ (by rw[HS,Ln];rfl);have UO:U (qz u _ _ _=N'):=aJ (by rw[HN,Ln];rfl);have cM:=(zc ((d.block fb (by have:=Uf.size;omega) (by simp;exact F.fm)).trans (Uf.block _ b8 Q6))).trans F.zf;have UQ:Z.wrap _=F0+D u.aG:=Q_;have b9:=aJ cf;have cj:=aJ cn;have cy:=aJ cM;clear IN hj d cn;go_wp2_with fail;go_end0
 refine .inl ⟨by rw[aC.2.1,UA];rfl,rfl,?_⟩;refine⟨p_ Ua F.fb0,F.nb0,F.fb0,F.mb0,F.nf,F.nm,F.fm,?_,?_,?_,?_,?_⟩
 · rw[Cn _ _ _ _ (by intro e;simp only[Ij]at e;exact F.nf e.1.symm)];exact cj
 · rw[tO _ _ _ b9,bg];simp
 · rw[iI];exact cy
 · refine⟨n0+D u.aD,Q5,?_⟩;rw[av,UO];exact ax.kept (dp _ _ _ _ (by show mb≠fb;exact λe=>F.fm e.symm))
 rw[av,UO,bp _ UA];exact az
def Kn(W:T)(l:I aK)(x:Ending)(w':T):Prop:=Gr W w'/\match g9 [] 0 l with
 | none=>∃mb n,x=.returned (.map (Y mb))/\mA W w' mb n (iA 0 l λ_=>G)
 | some k=>x=.panicked (iT 6 (k:A))
theorem Tryz.callExp1(d F v1 v2:M)(w:T):(callFunc 125 (#[]++(#[d,F]++#[v1,v2]))).run Tryz.prog w=.ok (.enter 125 (#[]++(#[d,F]++#[v1,v2]))) w:=Q7
theorem Tryz.mkMapT(w:T):(Instr.makeMap 164 G).run Tryz.prog w=.ok (.map (Y w.heap.size)) (w.alloc (.map #[] 0)):=Q7
theorem wo(W:T)(l:I aK)(vl:M)(hR:dH W vl l)(ad:D l<=6)(Tb:∀u∈l,bG u=AT):
 Calls prog 75 #[vl] W (Kn W l):=by
 obtain⟨al,cl,rfl⟩:=hR.shape;have HR:=aJ hR;have UF:=aJ Tb;have af:=λw=>Tryz.mkMapT w
 go_enter func75,ntmps75
 go_wp2_with fail;have g1:=(((Gr.refl W).alloc (.map #[] 0)).alloc (X #[.map (Y W.heap.size)] 164)).alloc (X #[O Z 0] 3);have ae:JK W (W.heap.size+1) (W.heap.size+1+1) W.heap.size l 0 (((W.alloc (.map #[] 0)).alloc (X #[.map (Y W.heap.size)] 164)).alloc (X #[O Z 0] 3)):=by
  have h1:=jZ (W.alloc (.map #[] 0)) (X #[.map (Y W.heap.size)] 164);have h2:=jZ ((W.alloc (.map #[] 0)).alloc (X #[.map (Y W.heap.size)] 164)) (X #[O Z 0] 3);have s1:(W.alloc (.map #[] 0)).heap.size=W.heap.size+1:=Q6;have s2:((W.alloc (.map #[] 0)).alloc (X #[.map (Y W.heap.size)] 164)).heap.size=W.heap.size+1+1:=Q6;rw[s1]at h1;rw[s2]at h2;have ga:=(Gr.refl ((W.alloc (.map #[] 0)).alloc (X #[.map (Y W.heap.size)] 164))).alloc (X #[O Z 0] 3);have gb:=(Gr.refl (W.alloc (.map #[] 0))).alloc (X #[.map (Y W.heap.size)] 164);refine⟨g1,Q5,Q5,Q5,Q5,Q5,Q5,ga.cell (by rw[aP h1];rfl) Q6,?_,?_,⟨0,Q5,⟨_,(mY.made W).kept ?_,λs=>.inl ⟨rfl,rfl⟩⟩⟩,λs=>by simp[ig,iA]⟩
  · rw[aP h2];simp[cw]
  · exact aq h2
  exact(gb.trans ga).block _ (by rw[s1];omega) Q6
 have F:=aJ (qb l (D l) 0 Q5);refine(nD _ _ _ (λvu vr w=>Tryz.callExp1 _ _ _ _ w) 6 l _ _ _ _ W _ HR (λk V h=>h.gr) (λk V V' h g=>h.step g) ae (Dd W l _ _ _ ad UF) Q5 ⟨_,_,rfl⟩).mono ?_;intro x w2 d;rw[List.drop_zero]at F;rw[F]at d;have e0:ig l 0=[]:=rfl;rw[e0]at d;cases hp:g9 [] 0 l with
 | none=>
  rw[hp]at d;obtain⟨rfl,hI⟩:=d;obtain⟨n,_,hm⟩:=hI.mp;rw[J6]at hm;have HM:=aJ hm;have HG:=aJ hI.gr;have cn:=hI.cn;have HP:=aJ hp;go_wp2_with fail;go_ret
  refine⟨HG,?_⟩;rw[HP];exact⟨_,n,rfl,HM⟩
 | some k=>
  rw[hp]at d;obtain⟨rfl,hb⟩:=d;refine⟨rfl,hb,?_⟩;rw[hp]
end Go.Proofs.YtghjmnlapcpbiaaGreatDoor
