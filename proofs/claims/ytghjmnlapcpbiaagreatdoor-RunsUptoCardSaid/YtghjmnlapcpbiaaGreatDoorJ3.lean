import Derived.Test.YtghjmnlapcpbiaaGreatDoorKh
namespace Go.Proofs.YtghjmnlapcpbiaaGreatDoor
open _root_ renaming Option.some->Y,Option.none->G,Go.Value.int->O,Go.IntKind.i64->Z,Go.Value.slice->J,List->I,Nat->R,Int->A,Go.World.cell?->H,List.length->D,Go.Obj.cells->X,Go.Value->M,Go.World->T,Go.Addr.mk->Q,Go.RowKit.Hid->U,UInt8->AI,Bool.false->AS,Bool.true->AT,Option->By
open Go.Proofs.Tryz
set_option maxRecDepth 100000
set_option maxHeartbeats 4000000
set_option linter.unusedVariables false
set_option linter.unusedSimpArgs false
open Go.RowKit
attribute [local go_sem ↓] Go.wp_at_zero Go.wp_at_succ
variable{ss ts:I A}{b k:R}{y0 y1 y2 y3 y4:M}{w:T}
def K0(w0 w:T):aK ⊕ (A×R)->Ending->T->Prop
 | .inl u,x,w'=>∃v,x=.returned (.tuple #[v,O Z 0,O Z 0])/\(∀w2:T,(∀b,b<w0.heap.size->w2.heap[b]? =w0.heap[b]?)->(∀b,w.heap.size<=b->b<w'.heap.size->w2.heap[b]? =w'.heap[b]?)->bV w2 v u)/\Gr w w'
 | .inr (e,p),x,w'=>x=.returned (.tuple #[.agg yF,O Z e,O Z (p:A)])/\Gr w w'
theorem RS{p:Prop}(h:p:=by simp[results,results20,go_sem,r0,r1,r2,r3,r4]):p:=h
theorem NV{p:Prop}(h:p:=by
 go_enter func20,ntmps20
 go_upto_region 2 with fail
 generalize w.alloc _=W at HG HB |-;obtain⟨r0,r1,r2,r3,r4,s0,s1,s2,s3,s4⟩:=HB.j;go_wp2_with fail;rw[fd];obtain⟨r0,r1,r2,r3,r4,s0,s1,s2,s3,s4⟩:=eI (J G 0 0) (J G 0 0) (J G 0 0) (J G 0 0) (J G 0 0) HB;exact qn RS rfl ⟨rfl,fY HG.j lj⟩):p:=h
theorem CN(l:I aK)(vl:M)(w0 w:T)(hR:dH w vl l)(d:D l<1\/6<D l):
 Calls prog 20 #[vl] w (K0 w0 w (dK l)):=by
 have F:U (dK l=.inr _):=aJ (by
  cases l with
  | nil=>rfl
  | cons h t=>unfold dK;simp only;rw[mI (d.resolve_left Q6)])
 obtain⟨al,cl,rfl⟩:=hR.shape;rw[F];have HG:=aJ ((Gr.refl w).alloc (X yF 58));have HB:=aJ (da.new w 58 (J G 0 0) (J G 0 0) (J G 0 0) (J G 0 0) (J G 0 0));rcases d with d|d
 · have h1:(D l:A)<1:=by omega
   exact NV
 have h1:(1:A)<=D l:=by omega
 have h2:(6:A)<D l:=Q5;exact NV
theorem OX{p:Prop}(h:p:=by
 have hc:∀(V:T) (q:R) (v:M),(V.setCell (Q b q G) v).heap[g]? =V.heap[g]? :=λV q v=>dp _ _ _ _ h
 unfold put5;rw[hc,hc,hc,hc,hc]):p:=h
theorem G'{g:R}(h:g≠b):(put5 w b y0 y1 y2 y3 y4).heap[g]? =w.heap[g]? :=by
 exact OX
theorem Gq:(put5 w b y0 y1 y2 y3 y4).heap.size=w.heap.size:=by unfold put5;simp
theorem EV(w:T)(e:R)(he:e<5):H (w.alloc (X #[O Z 1,O Z 5,O Z 6,O Z 7,O Z 8] 3)) (Q w.heap.size e G)=Y (O Z (th e)):=by
 rw[aN (jZ w _)];have d:e=0\/e=1\/e=2\/e=3\/e=4:=Q5;rcases d with rfl|rfl|rfl|rfl|rfl<;>rfl
theorem NM{p:Prop}(h:p:=by clear Wu;go_wp2_with fail;rw[fd];obtain⟨r0,r1,r2,r3,r4,s0,s1,s2,s3,s4⟩:=eI (J G 0 0) (J G 0 0) (J G 0 0) (J G 0 0) (J G 0 0) Xf;exact qn (by simp[results,results20,go_sem,r0,r1,r2,r3,r4]) rfl ⟨rfl,fY Xb.j lj⟩):p:=h
theorem D3(l:I aK)(vl:M)(w0 w:T)(cx:dH w0 vl l)(ed:Below w0.heap.size w0 w)(hT:lR w):
 Calls prog 20 #[vl] w (K0 w0 w (dK l)):=by
 have hR:=cx.low ed;by_cases hl:D l<1\/6<D l
 · exact CN l _ _ w hR hl
 have fr:1<=D l:=Q5;have b8:D l<=6:=Q5;clear hl;obtain⟨al,cl,rfl⟩:=hR.shape;have HR:=aJ hR;have e2:=aJ cx;have ai:=aJ ed;have HT:=aJ hT;generalize hD:dK l=RRq;have HD:=aJ hD;clear hR hT hD cx ed;have h1:(1:A)<=D l:=Q5;have h2:(D l:A)<=6:=Q5;have gy:=aJ ((Gr.refl w).alloc (X yF 58));have Td:=aJ ((Gr.refl (w.alloc (X yF 58))).alloc (X #[O Z 1,O Z 5,O Z 6,O Z 7,O Z 8] 3));have cB:U (((w.alloc _).alloc (X #[O Z 1,O Z 5,O Z 6,O Z 7,O Z 8] 3)).heap[w.heap.size]? =Y _):=aJ ((Na _ _ Q6).trans (jZ w (X yF 58)));have HO:=aJ (λe he=>by have:=EV (w.alloc (X yF 58)) e he;rw[show(w.alloc _).heap.size=w.heap.size+1 by simp]at this;exact this);have HG:=aJ (gy.trans Td);have UX:U (((w.alloc (X yF 58)).alloc (X #[O Z 1,O Z 5,O Z 6,O Z 7,O Z 8] 3)).heap.size=w.heap.size+2):=aJ Q6;go_enter func20,ntmps20
 go_upto_region 4 with fail
 generalize (w.alloc _).alloc _=W at cB HO HG UX |-;go_wp2_with fail;go_loopw[6] (λev wr=>∃e:R,e<=5/\ev=O Z (e:A)/\U (my l e)/\U (Gr W wr)) λev _=>5-(intOf ev).toNat
 case atStart=>exact⟨0,SF,rfl,aJ (λe' h=>by omega),aJ (Gr.refl W)⟩
 obtain⟨e,he,rfl,HC,Um⟩:=hrel;by_cases bk:e<5
 · have h5:(0:A)<=e:=by omega
   have T0:(e:A)<5:=Q5;go_wp2_with fail;go_loopw[7] (λkv w2=>∃k:R,k<=D l/\kv=O Z (k:A)/\U (∀k',k'<k->¬rA l e k')/\U (Gr W w2)) λkv _=>D l-(intOf kv).toNat
   case atStart=>exact⟨0,Lz,rfl,aJ (λk' h=>by omega),Um⟩
   obtain⟨k,hk,rfl,HN,bp⟩:=hrel;by_cases IN:k<D l
   · obtain⟨u,hu⟩:∃u,l[k]? =Y u:=⟨_,dW IN⟩;have TW:(k:A)<D l:=by omega
     have ho:=bp.cell (HO e bk) Q6;have b4:=aJ (zE l _ e k u _ bk (HR.gr (HG.trans bp)) hu b8 (HT.gr (HG.trans bp)) HC);clear hu;go_wp2_with fail;refine b4.mono ?_;rintro x w1 ⟨p,rfl,hp,hg⟩;have bg:=aJ (bp.trans hg);have HP:=aJ hp;clear ho hp hg;cases p with
     | true=>
      have HE:U (RRq=.inr _):=aJ (by
       rw[<-HD];cases l with
       | nil=>simp at fr
       | cons h t=>exact An b8 bk HC (HP.1 rfl) HN)
      have hE:=HE.j;subst hE;have KS:U (∀w',Gr W w'->(λw':T=>H w' _=Y _) _):=aJ λw' g=>g.cell (HO e bk) Q6;have gf:U (w1.drew.heap[w.heap.size]? =Y _):=aJ ((bg.block _ Sk Q6).trans cB);have gV:U ((λw':T=>H w' _=Y _) (w1.drew.setRow _ yF)):=aJ ((so (Kk _ w.heap.size (w.heap.size+1) _ Q5)).trans (KS _ (bg.trans Gy)));go_wp2_with fail;refine xE (S:=(λw'=>H w' _=Y _)) Q7 (KS _ (bg.trans Gy)) λhH=>?_;refine tL 0 ?_;refine tL 1 ?_;refine tL 2 ?_;refine tL 3 ?_;refine tL 4 ?_;refine tL 5 ?_;refine bQ (i:=6) rfl Q7 λK hK=>?_;refine aW bZ (Lc (P:=prog) 58 _ _ rfl w.heap.size yF bZ fZ 58 _ gf.j Tryz.infUn rfl Qr ?_);refine hK _ _ gV λhH=>?_;clear hK;try simp only[Act.put,sA,s0,s1]
      refine tL 7 ?_;refine tL 8 ?_;refine Ev Q7 ?_ _;clear hH;have VI:=Kg _ _ _ yF _ _ gf;obtain⟨r0,r1,r2,r3,r4⟩:=jc VI;have gw:Gr w (w1.drew.setRow _ yF):=rQ (HG.trans (bg.trans Gy)) lj;clear VI;go_wp2_with fail;exact qn RS rfl ⟨rfl,gw⟩
     | false=>
      have Vt:U (∀k',k'<k+1->¬rA l e k'):=aJ (λk' fa=>by
       by_cases e0:k'=k
       · subst e0;exact λh=>by have:=HP.2 h;cases this
       exact HN _ Q5)
      go_wp2_with fail;go_roundw
      case rel=>exact⟨_,Q5,QZ,Vt,bg⟩
      case measure=>exact Qh
   have dw:k=D l:=by omega
   subst dw;have Tr:U (my l (e+1)):=aJ (λe' hV k'=>by
    by_cases e0:e'=e
    · subst e0;by_cases fa:k'<D l
      · exact HN _ fa
      rintro⟨u,hu,_⟩;rw[AK Q5]at hu;cases hu
    exact HC _ Q5 _)
   go_wp2_with fail;go_roundw
   case rel=>exact⟨_,Q5,QZ,Tr,bp⟩
   case measure=>exact Qh
 have gB:e=5:=by omega
 subst gB;clear he bk;have ax:U (∀u∈l,D u.aD<=20/\D u.aE<=50/\D u.aG<=30/\D u.aC<=20):=aJ (λu hu=>by have:=kS (HC.ok Q9 u hu);omega);obtain⟨u0,ds⟩:∃u0,l[0]? =Y u0:=⟨_,dW Q5⟩;have a7:=aJ (HG.trans Um);obtain⟨b,off,cap,z1,z2,_,_,_,_,_,_,_,_,hv,y1,_,_,_,_,e4⟩:=e2.at_both ai ds;simp only[jj,Bt]at hv;obtain⟨rfl,rfl⟩:=hv;have gg:=aJ (by
  obtain⟨_,_,_,_,_,bj,k1,_⟩:=e4;simp only[Ch,FL,Bk,I7]at bj;obtain⟨rfl,_⟩:=bj;exact k1)
 have y1:H wr ⟨b,off,_⟩=Y _:=a7.cell (y1) Q6;have h':(0:A)<D l:=Q5;have hM:0<D l:=Q5;have ht:=aJ ds;clear e4 ds;go_upto_region 14 with fail
 have F:=aJ (mF.start w0 wr (J z1 (D u0.aA) z2));have T7:=aJ ((Um.block _ Sk Q6).trans cB);have cn:w.heap.size<wr.heap.size:=by have h1:=UX.j;have h2:=Um.size;omega
 clear y1;generalize wr.alloc _=W6 at F |-;generalize T1:wr.heap.size=ub at F cn |-;generalize wr=W5 at *;clear T1;go_wp2_with fail;go_loopw[10] (λkv wr=>∃(k:R) (v2 v3 v5:M) (ρ:R->BR) (cs:I A) (fs:I LF) (xs:I LX),k<=D l/\kv=O Z (k:A)/\D cs<=k*50/\D fs<=k*30/\D xs<=k*20/\U (mF w0 W5 ub (J z1 (D u0.aA) z2) wr ρ v2 v3 v5 cs fs xs)/\U (Di l k cs (fs.map (·.f)) (xs.map (·.p)))/\U (∀e∈xs,e.s.size<=maxLen)) λkv _=>D l-(intOf kv).toNat
 case atStart=>exact⟨0,_,_,_,_,_,_,_,Lz,rfl,Lz,Lz,Lz,F,aJ (Di.start l),aJ λe he=>by simp at he⟩
 obtain⟨k,v2,v3,v5,ρ,cs,fs,xs,hk,rfl,h8,h7,hP,F,HJ,HX⟩:=hrel;by_cases IN:k<D l
 · obtain⟨u,hu⟩:∃u,l[k]? =Y u:=⟨_,dW IN⟩;have h6:(0:A)<=k:=by omega
   have TH:(k:A)<D l:=Q5;have Xb:=aJ (a7.trans F.gr);have HA:=aJ (qI l _ k _ (HR.gr Xb) Q5 Q5 λv hv=>by have:=ax v hv;omega);obtain⟨m1,m2,m3,m4⟩:=ax u (dL hu);have HU:=aJ hu;clear hu;have hG:=oV (λv hv=>(ax v hv).2.2.1) k Q5;generalize e8:gG l k=ac at HA;generalize e5:cw l k=af at HA hG;have e3:=aJ e8;have fy:=aJ e5;clear e8 e5;go_wp2_with fail;refine HA.mono ?_;rintro x w1 ⟨rfl,gp⟩;obtain rfl:=gp.symm;obtain⟨b',hL,Un,a1,c1,a2,c2,a3,c3,a4,c4,a5,c5,hv,y1,y2,y3,y4,y5,aM⟩:=e2.at_both ai HU;simp only[jj,qN,Ij,I7,Bt]at hv;obtain⟨⟨rfl,rfl⟩,rfl⟩:=hv;have X2:=aJ y2;have X3:=aJ y3;have X5:=aJ y5;have Vh:=aJ aM;have x2:=Xb.cell y2 Q6;have c':=(aM.lowK ai).gr Xb;clear y1 y2 y3 y4 y5 aM;obtain⟨⟨p2,q2,rfl⟩,_⟩:=bD F.o2.1;obtain⟨⟨p3,q3,rfl⟩,_⟩:=bD F.o3.1;obtain⟨⟨p5,q5,rfl⟩,_⟩:=bD F.o5.1;have e1:H wr (Q ub 1 G)=Y (J p2 (D cs) q2):=by rw[aN F.box];rfl
   have KS:U (∀w',Gr _ w'->(λw':T=>H w' _=Y _/\H w' _=Y _) _):=aJ λw' g=>⟨g.cell e1 Q6,g.cell x2 Q6⟩;have aF:=aJ (F.grow Gy);have hU:=aJ c';obtain⟨_,_,_,_,_,bj,_,fv,_⟩:=c'.gr Gy;simp only[Ch,FL,Bk,I7]at bj;obtain⟨rfl,rfl,rfl,rfl,rfl⟩:=bj;obtain⟨va,wa,eu,ef,b3,e7⟩:=fG (ty:=26) _ 3 _ Tryz.infI Tryz.uI rfl Q9 Q9 aF.o2.1 fv.row (by rw[mH];omega) (wJ _) Q5 (by have:=aF.lt;omega);have S4:Ap _ 3 1 _ _ _ _ _ _:=⟨ef,b3,λq hq=>by
    rcases e7 with e|e
    · exact .inl (e▸hq)
    rw[hq]at e;have:=tz e;right;omega⟩
   have gW:=aJ S4;have ep:=aJ eu;obtain⟨⟨pv,qv,rfl⟩,_⟩:=bD ef;have cL:=mS aF.o2.1;have gX:b<ub:=by have h1:=wI w _ X2;have h2:=cn;simp only at h1;omega
   have fm:∀(bb oo:R) (vv:M),bb<ub->H wr _=Y vv->H wa (Q _ oo G)=Y _:=λbb oo vv hb hc=>b3.cell (hc) λe=>by have:=(aF.o2.1.lt bb e.symm).1;omega
   have cp:U ((λw':T=>H w' _=Y _/\H w' _=Y _) _):=aJ ⟨b3.cell (e1) λe=>cL e.symm,fm _ _ _ gX x2⟩;have Ty:wa.frozen? ⟨_,1,_⟩=AS:=(zc (b3.block _ aF.lt λe=>cL e.symm)).trans (aT aF.box);have en:=cp.1;clear eu ef b3 e7 S4 fv c';go_wp2_with fail;refine eg [9] (S:=(λw'=>H w' _=Y _/\H w' _=Y _)) Q7 (KS _ Gy) λhH=>?_;refine tS 0 ?_;refine tS 1 ?_;refine tS 2 ?_;refine tS 3 ?_;refine tS 4 ?_;refine tS 5 ?_;refine tS 6 ?_;refine dy (i:=7) rfl Q7 λK hK=>?_;refine aW bZ (KO _ _ _ _ _ rfl _ _ fZ fZ _ _ ep ?_);refine hK _ _ (λ_=>cp) ?_;clear hK;try simp only[Act.put,sA,s0,s1]
   refine iO (i:=8) (v:=?dv8) rfl Q7 Q7 Q7 Q7 (λ_ _ _ h=>h) bZ ?dhy8 cp.j ?drest8
   case dhy8=>exact Qj
   simp only[Act.put,sA,s0,s1];refine dy (i:=9) rfl Q7 λK hK=>?_;refine aW bZ ?_;go_simp
   refine hK _ _ (λh=>absurd h Q9) ?_;clear hK;try simp only[Act.put,sA,s0,s1]
   refine mo Q7 ?_ _;have ck:=aJ (aF.app2 gW);clear Ty en cL fm e1 x2;generalize wa.setCell _ _=W7 at ck |-;generalize nH _ _ _ _=ρ7 at ck;go_wp2_with fail;go_loopw[13] (λiv wr=>∃(i:R) (v3:M) (ρ:R->BR) (gs:I LF),i<=D u.aG/\iv=O Z (i:A)/\D gs<=k*30+i/\U (mF w0 W5 ub (J z1 (D u0.aA) z2) wr ρ (J pv (D cs+D u.aE) qv) v3 (J p5 (D xs) q5) (cs++u.aE) gs xs)/\U (gs.map (·.f)=fs.map (·.f)++(u.aG.take i).map (nY (tgtN l) u ac af))) λiv _=>D u.aG-(intOf iv).toNat
   case atStart=>exact⟨0,_,_,_,Lz,rfl,Q5,ck,aJ Q6⟩
   obtain⟨i,v3,ρ4,gs,hi,rfl,hZ,a8,di⟩:=hrel;obtain⟨⟨p4,q4,rfl⟩,_⟩:=bD a8.o3.1;have Tg:=aJ (a7.trans a8.gr);have x3:=Tg.cell X3 Q6;by_cases Ug:i<D u.aG
   · obtain⟨g,hg⟩:∃g,u.aG[i]? =Y g:=⟨_,dW Ug⟩;obtain⟨fb,fo,pa,pc,la,lc,ka,kc,hd,f0,f1,f2,f3,e9,gb,eV⟩:=Vh.funcAll hg;subst hd;have hY:(0:A)<=i:=by omega
     have h4:(i:A)<D u.aG:=Q5;have t0:=Tg.cell (a_ ai f0) Q6;have t1:=Tg.cell (a_ ai f1) Q6;have t2:=Tg.cell (a_ ai f2) Q6;have t3:=Tg.cell (a_ ai f3) Q6;have h3:=((kS (HC.ok Q9 u (dL HU))).2.2.2.2.1 g (dL hg)).2.2;have g6:=aJ e9;have hh:=aJ gb;have gF:=aJ eV;have fg:=aJ hg;clear f0 f1 f2 f3 e9 gb eV hg;go_upto_region 23 with fail
     have ak:=aJ (jZ wr (X #[J pa (D g.aH) pc,O Z g.result,J la (D g.aI) lc,J ka (D g.code) kc] 74));have bo:=aJ (a8.grow ((G0).alloc (X #[J pa (D g.aH) pc,O Z g.result,J la (D g.aI) lc,J ka (D g.code) kc] 74)));have bC:=a8.lt;have bB:ρ4 wr.heap.size=.no:=by
      by_cases e0:ρ4 wr.heap.size=.no
      · exact e0
      have:=(a8.pl _ e0).2;omega
     clear t0 t1 t2 t3 x3;generalize wr.alloc _=W8 at ak bo |-;generalize cM:wr.heap.size=d at ak bC bB |-;clear cM;go_wp2_with fail;go_loopw[15,16] (λcv jv wr=>∃(j:R) (ρ:R->BR),j<=D g.code/\jv=O Z (j:A)/\U (jC ρ (.ls 8 0) wr (ub+1) 87 3 cv j (((g.code.take j).map (em (tgtN l) u ac af)).flatMap cC))/\U (mF w0 W5 ub (J z1 (D u0.aA) z2) wr ρ (J pv (D cs+D u.aE) qv) (J p4 (D gs) q4) (J p5 (D xs) q5) (cs++u.aE) gs xs)/\U (wr.heap[d]? =Y (X #[J pa (D g.aH) pc,O Z g.result,J la (D g.aI) lc,J ka (D g.code) kc] 74 (0,0))/\ρ d=.no)) λ_ jv _=>D g.code-(intOf jv).toNat
     case atStart=>exact⟨0,_,Lz,rfl,aJ ⟨B5 _ _ _ _,λq hq=>by simp[Value.ownBlock]at hq⟩,bo,aJ ⟨ak,bB⟩⟩
     obtain⟨j,ρ5,hj,rfl,dO,b7,az⟩:=hrel;obtain⟨⟨ca,cc,rfl⟩,_⟩:=bD dO.1;have g3:H wr (Q d 3 G)=Y (J ka (D g.code) kc):=by rw[aN az.1];rfl
     by_cases e6:j<D g.code
     · obtain⟨x,hx⟩:∃x,g.code[j]? =Y x:=⟨_,dW e6⟩;have Tu:=aJ (a7.trans b7.gr);obtain⟨kb,ko,hf,n0,n1,n2⟩:=gF.at_ hx;subst hf;have hQ:(0:A)<=j:=by omega
       have UC:(j:A)<D g.code:=Q5;have s9:=Tu.cell (a_ ai n0) Q6;have s8:=Tu.cell (a_ ai n1) Q6;have s2:=Tu.cell (a_ ai n2) Q6;have b9:=aJ (C5 l _ k u x _ (HR.gr Tu) HU b8 ax (D4 HC HU) (Fg (HC.ok Q9 u (dL HU)) (dL fg) (dL hx)));have hr:=aJ hx;rw[vq (DU HC HU),e3,fy]at b9;generalize hy:em _ u _ _ x=y at b9;have HY:=aJ hy;clear n0 n1 n2 hx hy;unfold Ja at b9;go_wp2_with fail;refine b9.mono ?_;rintro xx w1 ⟨rfl,S5⟩;clear s9 s8 s2;have av:=aJ (b7.grow S5);have ha:=aJ (dO.mv (b7.mvg S5) id);have dT:=aJ (And.intro ((S5.block _ (eJ.1 az.1).1 Q6).trans az.1) az.2);clear g3 S5;go_upto_region 28 with fail
       have b5:=aJ ((Gr.refl w1).alloc (X #[O Z y.op,O Z y.a,O Z y.b] 87));have Vk:=jZ w1 (X #[O Z y.op,O Z y.a,O Z y.b] 87);have cy:=aJ (av.grow b5);have b6:=aJ (ha.mv (av.mvg b5) id);have a':=aJ (And.intro ((b5.block _ (eJ.1 dT.1).1 Q6).trans dT.1) dT.2);have b0:H (w1.alloc (X #[O Z y.op,O Z y.a,O Z y.b] 87)) (Q w1.heap.size 0 G)=Y (O Z y.op):=by rw[aN Vk];rfl
       have b1:H (w1.alloc (X #[O Z y.op,O Z y.a,O Z y.b] 87)) (Q w1.heap.size 1 G)=Y (O Z y.a):=by rw[aN Vk];rfl
       have b2:H (w1.alloc (X #[O Z y.op,O Z y.a,O Z y.b] 87)) (Q w1.heap.size 2 G)=Y (O Z y.b):=by rw[aN Vk];rfl
       clear Vk;generalize w1.alloc _=W9 at b5 cy b6 a' b0 b1 b2 |-;have ad:=b6.1;have hlen:j<=10000000:=Q5;have bt:=cy.lt;go_wp2_with(at_builtin;refine bS _ rfl _ _ 72 87 3 24 (Value.agg #[O Z 0,O Z 0,O Z 0]) Tryz.infC underlying72 rfl Q9 Q9 rfl (ub+1) (J ca j cc) j (((g.code.take j).map (em (tgtN l) u ac af)).flatMap cC) rfl ad #[O Z y.op,O Z y.a,O Z y.b] rfl (by intro u hu;simp at hu;first|(rcases hu with rfl|rfl|rfl<;>rfl)) _ rfl Q6 hlen Q5 ?_;intro v4 w4 S4;have bL:=aJ S4;obtain⟨⟨a9,c9,hA⟩,_⟩:=bD S4.own;subst hA;clear S4)
       go_roundw
       case rel=>
        have S4:=bL.j;have cf:=oR S4 b6.2;have g5:((g.code.take (j+1)).map (em (tgtN l) u ac af)).flatMap cC=((g.code.take j).map (em (tgtN l) u ac af)).flatMap cC++[O Z y.op,O Z y.a,O Z y.b]:=by
         obtain⟨hI,eo⟩:=dm.1 hr;rw[AB hI,eo,Ju,Ka];simp only[Lq,List.map_nil,HY.j,I',List.flatMap_nil,Ir];rfl
        refine⟨j+1,_,Q5,QZ,aJ ?_,aJ (cy.mv cf ⟨nofun,nofun,nofun,nofun,nofun⟩ (S4.frm.block _ bt λe=>mS ad e.symm)),aJ ⟨?_,?_⟩⟩
        · rw[g5];exact sC b6 S4
        · exact(cf.blk _ (eJ.1 a'.1).1 Q5 (by rw[a'.2];nofun)).trans a'.1
        exact(cf.old _ (eJ.1 a'.1).1).trans a'.2
       case measure=>exact Qh
     have hB:j=D g.code:=by omega
     subst hB;have hJ:U (jC _ _ _ _ _ 3 _ (D (g.code.map (em (tgtN l) u ac af))) _):=aJ (by have h:=dO.j;rw[J6]at h;rw[JY];exact h);have fz:wr.frozen? ⟨_,3,_⟩=AS:=aT az.1;clear e6 hj;go_upto_region 30 with fail
     have No:∀bb,bb≠d->(wr.setCell (Q _ 3 G) (J ca (D g.code) cc)).heap[bb]? =wr.heap[bb]? :=λbb hb=>dp _ _ _ _ hb
     have ae:=aJ ((b7.free bC az.2 Q6 No ⟨rfl,rfl,rfl⟩).fin_);have cu:=aJ (GA (hJ.free nofun az.2 No));have TJ:=bK (o:=3) (v:=J ca (D g.code) cc) az.1;have d0:H (wr.setCell (Q d 3 G) (J ca (D g.code) cc)) (Q d 0 G)=Y (J pa (D g.aH) pc):=RT
     have d1:H (wr.setCell (Q d 3 G) (J ca (D g.code) cc)) (Q d 1 G)=Y (O Z g.result):=RT
     have d2:H (wr.setCell (Q d 3 G) (J ca (D g.code) cc)) (Q d 2 G)=Y (J la (D g.aI) lc):=RT
     have d3:H (wr.setCell (Q d 3 G) (J ca (D g.code) cc)) (Q d 3 G)=Y (J ca (D g.code) cc):=RT
     clear TJ No fz g3;generalize wr.setCell _ _=WA at ae cu d0 d1 d2 d3 |-;generalize fin _ _=ρ6 at ae cu;have u2:H WA (Q ub 2 G)=Y (J p4 (D gs) q4):=by rw[aN ae.box];rfl
     have ad:=ae.o3.1;have hlen:D gs<=10000000:=Q5;have bt:=ae.lt;have bF:=mS ad;have cz:=aJ ae.box;go_wp2_with(at_builtin;refine bS _ rfl _ _ 54 74 4 80 (Value.agg #[J G 0 0,O Z 0,J G 0 0,J G 0 0]) Tryz.ownFunc underlying54 rfl Q9 Q9 rfl (ub+1) (J p4 (D gs) q4) (D gs) (gs.flatMap cF) rfl ad #[J pa (D g.aH) pc,O Z g.result,J la (D g.aI) lc,J ca (D g.code) cc] rfl (by intro u hu;simp at hu;first|(rcases hu with rfl|rfl|rfl|rfl<;>rfl)) _ rfl Q6 hlen Q5 ?_;intro v6 w6 S4;have bL:=aJ S4;obtain⟨⟨a6,c6,cj⟩,_⟩:=bD S4.own;subst cj;have ek:=S4.frm.cell u2 λe=>bF e.symm;have hC:w6.frozen? ⟨ub,2,G⟩=AS:=(zc (S4.frm.block ub bt λe=>bF e.symm)).trans (aT cz.j);clear S4)
     go_roundw
     case rel=>
      refine⟨i+1,_,_,_,Q5,QZ,QL,aJ (ae.app3 (e:=⟨_,_,_,nY _ u _ _ g⟩) bL ⟨g6,hh,cu⟩),aJ ?_⟩;obtain⟨dd,aL⟩:=dm.1 fg;rw[AB dd,aL,Ju,Ju,di,zx];simp
     case measure=>exact Qh
   have hz:i=D u.aG:=by omega
   subst hz;rw[J6]at di;clear Ug hi;go_wp2_with fail;go_loopw[18] (λsv wr=>∃(q:R) (v5:M) (ρ:R->BR) (ys:I LX),q<=D u.aD/\sv=O Z (q:A)/\D ys<=k*20+q/\U (mF w0 W5 ub (J z1 (D u0.aA) z2) wr ρ (J pv (D cs+D u.aE) qv) (J p4 (D gs) q4) v5 (cs++u.aE) gs ys)/\U (ys.map (·.p)=xs.map (·.p)++(u.aD.take q).map (mq af))/\U (∀e∈ys,e.s.size<=maxLen)) λsv _=>D u.aD-(intOf sv).toNat
   case atStart=>exact⟨0,_,_,_,Lz,rfl,Q5,a8,aJ Q6,HX⟩
   clear x3;obtain⟨q,v5,ρ6,ys,hq,rfl,hW,av,ej,ga⟩:=hrel;obtain⟨⟨p6,q6,rfl⟩,_⟩:=bD av.o5.1;have ec:=aJ (a7.trans av.gr);have x5:=ec.cell X5 Q6;by_cases f':q<D u.aD
   · obtain⟨e,he⟩:∃e,u.aD[q]? =Y e:=⟨_,dW f'⟩;obtain⟨xb,xo,s,g',n0,hs,S7,n1⟩:=Vh.expAll he;subst g';obtain⟨hN,hO⟩:=FW (HC.ok Q9 u (dL HU)) (dL he);have h9:(0:A)<=q:=by omega
     have hX:(q:A)<D u.aD:=Q5;have t0:=ec.cell (a_ ai n0) Q6;have t1:=ec.cell (a_ ai n1) Q6;have hn:=aJ he;have gA:=aJ hs;have Vg:=aJ S7;clear n0 n1 he hs S7;go_upto_region 35 with fail
     have ak:=aJ (jZ wr (X #[.string s,O Z e.func] 71));have bo:=aJ (av.grow ((G0).alloc (X #[.string s,O Z e.func] 71)));have bC:=av.lt;have bB:ρ6 wr.heap.size=.no:=by
      by_cases e0:ρ6 wr.heap.size=.no
      · exact e0
      have:=(av.pl _ e0).2;omega
     clear t0 t1 x5;generalize wr.alloc _=W8 at ak bo |-;generalize cM:wr.heap.size=d at ak bC bB |-;clear cM;have g1:H W8 (Q d 1 G)=Y (O Z e.func):=by rw[aN ak];rfl
     have fz:W8.frozen? ⟨_,1,_⟩=AS:=aT ak;go_upto_region 36 with fail
     have No:∀bb,bb≠d->(W8.setCell (Q _ 1 G) (O Z (e.func+af))).heap[bb]? =W8.heap[bb]? :=λbb hb=>dp _ _ _ _ hb
     have ae:=aJ (bo.free bC bB Q6 No ⟨rfl,rfl,rfl⟩);have TJ:=bK (o:=1) (v:=O Z (e.func+af)) ak;have d0:H (W8.setCell (Q d 1 G) (O Z (e.func+af))) (Q d 0 G)=Y (.string s):=RT
     have d1:H (W8.setCell (Q d 1 G) (O Z (e.func+af))) (Q d 1 G)=Y (O Z (e.func+af)):=RT
     clear TJ No fz g1;generalize W8.setCell _ _=WA at ae d0 d1 |-;have u4:H WA (Q ub 4 G)=Y (J p6 (D ys) q6):=by rw[aN ae.box];rfl
     have ad:=ae.o5.1;have hlen:D ys<=10000000:=Q5;have bt:=ae.lt;have bF:=mS ad;have cz:=aJ ae.box;go_wp2_with(at_builtin;refine bS _ rfl _ _ 56 71 2 24 (Value.agg #[.string ⟨#[]⟩,O Z 0]) Tryz.ownExp underlying56 rfl Q9 Q9 rfl (ub+1) (J p6 (D ys) q6) (D ys) (ys.flatMap cX) rfl ad #[.string s,O Z (e.func+(af:A))] rfl (by intro u hu;simp at hu;first|(rcases hu with rfl|rfl<;>rfl)) _ rfl Q6 hlen Q5 ?_;intro v6 w6 S4;have bL:=aJ S4;obtain⟨⟨a6,c6,cj⟩,_⟩:=bD S4.own;subst cj;have ek:=S4.frm.cell u4 λe=>bF e.symm;have hC:w6.frozen? ⟨ub,4,G⟩=AS:=(zc (S4.frm.block ub bt λe=>bF e.symm)).trans (aT cz.j);clear S4)
     go_roundw
     case rel=>
      refine⟨q+1,_,_,_,Q5,QZ,QL,aJ (ae.app5 (e:=⟨s,_⟩) bL),aJ ?_,aJ λx hx=>?_⟩
      · obtain⟨dd,aL⟩:=dm.1 hn;rw[AB dd,aL,Ju,Ju,ej,zx];simp[LX.p,mq,gA.j,Int.add_comm]
      rcases F1.1 hx with hx|hx
      · exact ga x hx
      rw[Jm.1 hx];exact Vg
     case measure=>exact Qh
   have gU:q=D u.aD:=by omega
   subst gU;rw[J6]at ej;have gm:=aJ (by
    have h:=HJ.step HU;rw[e3,fy,<-di,<-ej]at h;exact h)
   clear f' hq;go_wp2_with fail;go_roundw
   case rel=>
    refine⟨_,_,_,_,_,_,_,_,_,_,_,_,_,_,_,_,_,_,_,_,_,_,_,_,_,_,_,_,_,_,_,_,_,_,_,_,_,_,_,_,_,_,_,_,_,_,_,_,_,_,_,_,_,_,_,_,_,_,_,_,_,_,_,_,_,_,_,_,_,_,_,_,_,_,_,_,_,_,_,_,_,_,_,_,_,_,_,_,_,_,_,_,_,_,_,_,_,_,_,_,_,_,_,_,_,?_,rfl⟩;exact⟨_,_,_,_,_,_,_,_,Q5,QZ,by rw[fe];omega,Q5,Q5,av,gm,ga⟩
   case measure=>exact Qh
 have dw:k=D l:=by omega
 subst dw;obtain⟨tl,ay⟩:∃tl,l=u0::tl:=by
  cases l with
  | nil=>simp at fr
  | cons h tl=>have h0:=ht.j;simp at h0;subst h0;exact⟨_,rfl⟩
 have aB:U (RRq=if 30<D fs\/50<D cs\/20<D xs then .inr (9,0) else .inl ⟨u0.aA,cs,fs.map (·.f),[],xs.map (·.p)⟩):=aJ (by
  have hj:=HJ.last;have ez:=CG (by rw[<-ay];exact b8) (by rw[<-ay];exact HC);rw[<-ay]at ez;rw[<-HD,ez,hj];simp only[JY])
 clear ay IN hk;obtain⟨⟨p2,q2,rfl⟩,_⟩:=bD F.o2.1;obtain⟨⟨p3,q3,rfl⟩,_⟩:=bD F.o3.1;obtain⟨⟨p5,q5,rfl⟩,_⟩:=bD F.o5.1;obtain⟨g0,g1,g2,g3,g4⟩:=jc F.box;have a0:=aJ ((F.low _ cn).trans T7);obtain⟨r0,r1,r2,r3,r4⟩:=jc a0;have s9:wr.frozen? ⟨_,0,_⟩=AS:=aT a0;have s8:wr.frozen? ⟨_,1,_⟩=AS:=aT a0;have s2:wr.frozen? ⟨_,2,_⟩=AS:=aT a0;have s3:wr.frozen? ⟨_,3,_⟩=AS:=aT a0;have s4:wr.frozen? ⟨_,4,_⟩=AS:=aT a0;have Xf:U (da _ _ _ _ _ _ _):=aJ ⟨r0,r1,r2,r3,r4,s9,s8,s2,s3,s4⟩;have Xb:=aJ (a7.trans F.gr);by_cases Wu:30<D fs\/50<D cs\/20<D xs
 · have hE:=aB.j;rw[mI Wu]at hE;subst hE;by_cases b1:30<D fs
   · have i1:(30:A)<D fs:=by omega
     exact NM
   have i1:(D fs:A)<=30:=by omega
   by_cases b2:50<D cs
   · have i2:(50:A)<D cs:=by omega
     exact NM
   have i2:(D cs:A)<=50:=by omega
   have i3:(20:A)<D xs:=Q5;exact NM
 have hE:=aB.j;rw[eP Wu]at hE;subst hE;have i1:(D fs:A)<=30:=by omega
 have i2:(D cs:A)<=50:=Q5;have i3:(D xs:A)<=20:=Q5;clear Wu;go_wp2_with fail;rw[fd];have VP:U (∀w2,(∀b,b<w0.heap.size->w2.heap[b]? =w0.heap[b]?)->(∀b,w.heap.size<=b->b<(put5 _ w.heap.size (J z1 (D u0.aA) z2) (J p2 (D cs) q2) (J p3 (D fs) q3) (J G 0 0) (J p5 (D xs) q5)).heap.size->w2.heap[b]? =(put5 _ w.heap.size (J z1 (D u0.aA) z2) (J p2 (D cs) q2) (J p3 (D fs) q3) (J G 0 0) (J p5 (D xs) q5)).heap[b]?)->bV w2 _ _):=aJ (λw2 k1 k2=>F.unit k1 (λbb hb hl=>(k2 _ Q5 (by rw[Gq];exact hl)).trans (G' Q5)) gg HX);obtain⟨r0,r1,r2,r3,r4,_⟩:=eI (J z1 (D u0.aA) z2) (J p2 (D cs) q2) (J p3 (D fs) q3) (J G 0 0) (J p5 (D xs) q5) Xf;exact qn RS rfl ⟨_,rfl,VP,fY Xb lj⟩
def oH:I A->I A->A->A
 | t::ts,s::ss,a=>oH ts ss (if t<0 then s else a)
 | _,_,a=>a
theorem B6:∀(ts ss:I A) (a:A),(∀t∈ts,0<=t)->oH ts ss a=a
 | [],_,_,_=>by simp[oH]
 | _::_,[],_,_=>by simp[oH]
 | t::ts,s::ss,a,h=>by
  have F:¬t<0:=by have:=h t Q6;omega
  rw[oH,eP F,B6 _ _ a λx d=>h x (by simp[d])]
theorem Bq:∀(ts ss:I A),(∀t∈ts,0<=t)->rE ts ss=0
 | [],_,_=>by simp[rE]
 | _::_,[],_=>by simp[rE]
 | t::ts,s::ss,h=>by
  have F:¬t<0:=by have:=h t Q6;omega
  rw[rE,eP F,Bq _ _ λx d=>h x (by simp[d])]
theorem GK(h:ts=[-1]\/∀t∈ts,0<=t):oH ts ss 0=rE ts ss:=by
 rcases h with rfl|h
 · cases ss with
   | nil=>rfl
   | cons s ss=>cases ss<;>simp[oH,rE]
 rw[B6 _ _ 0 h,Bq _ _ h]
theorem AA(d:k<D ts)(F:k<D ss):iL (ts.drop k) (ss.drop k)=((decide (ts[k]<0)||decide (ts[k]=ss[k]))&&iL (ts.drop (k+1)) (ss.drop (k+1))):=by
 rw[Be d,Be F,iL]
theorem DY{a:A}(F:k<D ts)(d:k<D ss):oH (ts.drop k) (ss.drop k) a=oH (ts.drop (k+1)) (ss.drop (k+1)) (if ts[k]<0 then ss[k] else a):=by
 rw[Be F,Be d,oH]
def Ke(u:aK)(f:aQ)(i:bP)(s:I A)(w:T)(x:Ending)(w':T):Prop:=Gr w w'/\∃v out,x=.returned (.tuple #[v,.bool (et u f i s).isSome])/\dY (λb=>w.heap.size<=b) w' v out/\(∀o,et u f i s=Y o->o=out)
theorem wO{l:I A}(h:k<D l):l.getD k 0=l[k]:=by rw[mh,dW h];rfl
theorem Pk{p:Prop}(h:p:=by
 go_wp2_with fail;go_ret2
 exact⟨Ua.j,_,l,by rw[HD.j];rfl,WD.j,λo h=>by rw[HD.j]at h;exact(tz h).symm⟩):p:=h
theorem Pq{p:Prop}(h:p:=by
 go_wp2_with fail;go_ret2
 exact⟨Tt.j,_,[],by rw[HD.j];rfl,ji _ _,λo h=>by rw[HD.j]at h;cases h⟩):p:=h
theorem Pr{p:Prop}(h:p:=by
 go_wp2_with fail;go_ret2
 exact⟨Ua.j,_,l,by rw[HD.j];rfl,WD.j,λo h=>by rw[HD.j]at h;cases h⟩):p:=h
theorem FT(u:aK)(f:aQ)(i:bP)(s:I A)(hi:bl i=AT)(ay:∀ts ps,bU u f i=Y (ts,ps)->ts=[-1]\/∀t∈ts,0<=t)(v1 v2 v3 v4 v5 vp vl vc bo:M)(w:T)(hU:bV w (.agg #[v1,v2,v3,v4,v5]) u)(hp:aY w vp f.aH)(hl:aY w vl f.aI)(hc:∃a c,vc=J a (D f.code) c)(hs:aY w bo s)(ak:∃a c,bo=J a (D s) c/\D s<=c)(Tn:D s<=20)
 (hE:∀V,Gr w V->Calls prog 46 #[.agg #[v1,v2,v3,v4,v5],.agg #[vp,O Z f.result,vl,vc],.agg #[O Z i.op,O Z i.a,O Z i.b]] V (r_ (bU u f i) V)):
 Calls prog 106 #[.agg #[v1,v2,v3,v4,v5],.agg #[vp,O Z f.result,vl,vc],.agg #[O Z i.op,O Z i.a,O Z i.b],bo] w (Ke u f i s w):=by
 obtain⟨x1,x2,x3,x4,x5,he,h1,h2,h3,h4,h5⟩:=hU;simp only[Ch,FL,Bk,I7]at he;obtain⟨rfl,rfl,rfl,rfl,rfl⟩:=he;obtain⟨a1,c1,rfl⟩:=h1.shape;obtain⟨a2,c2,rfl⟩:=h2.shape;obtain⟨a3,c3,rfl⟩:=h3.shape;obtain⟨a4,c4,rfl⟩:=h4.shape;obtain⟨a5,c5,rfl⟩:=h5.shape;obtain⟨ap,cp,rfl⟩:=hp.shape;obtain⟨al,cl,rfl⟩:=hl.shape;obtain⟨ac,cc,rfl⟩:=hc;obtain⟨e9,cf,rfl,ak⟩:=ak;have HS:=aJ hs;have HE:=aJ hE;have ec:=aJ ay;have Ta:Gr w (((w.alloc (X (yE u a1 c1 a2 c2 a3 c3 a4 c4 a5 c5) 58)).alloc (X #[J ap (D f.aH) cp,O Z f.result,J al (D f.aI) cl,J ac (D f.code) cc] 74)).alloc (X #[O Z i.op,O Z i.a,O Z i.b] 87)):=(((Gr.refl w).alloc _).alloc _).alloc _;have Te:=aJ Ta;have k9:H (((w.alloc (X (yE u a1 c1 a2 c2 a3 c3 a4 c4 a5 c5) 58)).alloc (X #[J ap (D f.aH) cp,O Z f.result,J al (D f.aI) cl,J ac (D f.code) cc] 74)).alloc (X #[O Z i.op,O Z i.a,O Z i.b] 87)) ⟨w.heap.size+1+1,0,G⟩=Y (O Z i.op):=Ql
 have K9:=aJ k9;clear h1 h2 h3 h4 h5 hp hl hs hE ay Ta k9;go_enter func106,ntmps106
 go_wp2_with fail;refine(HE.j _ Te.j).mono ?_;rintro x w1 ⟨S5,vt,vp,ts,ps,rfl,b0,bB,IN,e8,ax⟩;obtain⟨xt,ct,rfl⟩:=b0.shape;obtain⟨xp,ai,rfl⟩:=bB.shape;have Td:=aJ (Te.j.trans S5);have k9:=S5.cell K9.j Q6;have Tt:=aJ (Td.j.alloc (X #[J xt (D ts) ct,J xp (D ps) ai] 125));have cB:=aJ (b0.gr ((Gr.refl w1).alloc (X #[J xt (D ts) ct,J xp (D ps) ai] 125)));have cL:=aJ (bB.gr ((Gr.refl w1).alloc (X #[J xt (D ts) ct,J xp (D ps) ai] 125)));have k9:=((Gr.refl w1).alloc (X #[J xt (D ts) ct,J xp (D ps) ai] 125)).cell k9 Q6;have e0:H (w1.alloc (X #[J xt (D ts) ct,J xp (D ps) ai] 125)) (Q w1.heap.size 0 G)=Y (J xt (D ts) ct):=Ql
 have e1:H (w1.alloc (X #[J xt (D ts) ct,J xp (D ps) ai] 125)) (Q w1.heap.size 1 G)=Y (J xp (D ps) ai):=Ql
 have E0:=aJ e0;have E1:=aJ e1;have K9:=aJ k9;have ds:=aJ ax;have a8:Z.wrap ((D s:A)-(D ts:A))=(D s:A)-(D ts:A):=Q_;clear S5 b0 bB ax e0 e1 k9;cases ay:bU u f i with
 | none=>
  have HD:U (et u f i s=G):=aJ (by unfold et;rw[ay]);simp only[L6];clear ay;exact Pq
 | some tp=>
  have hq:=ds.j (by rw[ay];rfl);have HQ:=aJ hq;have a0:=ec.j ts ps hq;have ca:=aJ λss=>GK (ss:=ss) a0;simp only[Lu];clear ay hq a0;by_cases hle:D ts<=D s
  · obtain⟨d,hd⟩:∃d:R,d=D s-D ts:=⟨_,rfl⟩;have c':(D s:A)-(D ts:A)=(d:A):=by omega
    have ej:=a8.trans c';have c6:=aJ hd;have fr:d+D ts=D s:=Q5;have e7:¬(d:A)<0:=Q5;have Us:U (D (s.drop d)=D ts):=aJ (by rw[J2];omega);clear c' hd a8;go_wp2_with fail;generalize hA:w1.alloc (X #[J xt (D ts) ct,J xp (D ps) ai] 125)=AAq at Tt cB cL E0 E1 K9 |-;clear hA;generalize w1.heap.size=eb at E0 E1 |-;go_loopw[13,14] (λva vk wr=>∃(k:R) (y:A),vk=O Z (k:A)/\k<=D ts/\va=O Z y/\iL ts (s.drop d)=iL (ts.drop k) ((s.drop d).drop k)/\oH ts (s.drop d) 0=oH (ts.drop k) ((s.drop d).drop k) y/\∃n,wr=AAq.drewN n) λ_ vk _=>D ts-(intOf vk).toNat
    case atStart=>exact⟨0,0,rfl,Lz,rfl,rfl,rfl,0,rfl⟩
    obtain⟨k,y,rfl,hk,rfl,ae,a6,nd,rfl⟩:=hrel;have HF:=aJ ae;have HA:=aJ a6;have e0:=E0.j;clear ae a6;by_cases F:k<D ts
    · obtain⟨fm,fv,aG,_,aL⟩:=cB.j;obtain⟨bt,ot,rfl,a'⟩:=aL k F;simp only[jj,Bt]at aG;obtain⟨rfl,rfl⟩:=aG;obtain⟨e4,fa,Wh,_,cM⟩:=HS.j;obtain⟨bs,cz,rfl,aC⟩:=cM (d+k) Q5;simp only[jj,Bt]at Wh;obtain⟨rfl,rfl⟩:=Wh;have aC:=Tt.j.cell aC Q6;have ck:d+k<D s:=by omega
      have bC:k<D (s.drop d):=by rw[J2];omega
      have aM:(s.drop d)[k]=s[d+k]:=List.getElem_drop;rw[wO F]at a';rw[wO ck]at aC;have hF:=AA F bC;have hA:=DY (a:=y) F bC;rw[aM]at hF hA;generalize ts[k]=tk at a' hF hA;generalize s[d+k]=sk at aC hF hA;have b4:=aJ (HF.j.trans hF);have Uv:=aJ (HA.j.trans hA);have UB:(k:A)<(D ts:A):=Q5;have e3:(d:A)+(k:A)<(D s:A):=Q5;have fz:Z.wrap ((d:A)+(k:A))=(d:A)+(k:A):=Q_;have eV:(0:A)<=(d:A)+(k:A):=Q5;have fy:((d:A)+(k:A)).toNat=d+k:=Q5;have b9:Z.wrap ((k:A)+1)=(k:A)+1:=Q_;clear aL cM hF hA aM ck bC;by_cases aA:tk<0
      · have dT:decide (tk<0)=AT:=by simpa using aA
        have b1:U (iL ts (s.drop d)=iL (ts.drop (k+1)) ((s.drop d).drop (k+1))):=aJ (by rw[b4.j];simp[aA]);have bF:U (oH ts (s.drop d) 0=oH (ts.drop (k+1)) ((s.drop d).drop (k+1)) sk):=aJ (by rw[Uv.j,mI aA]);go_wp2_with fail;exact⟨⟨k+1,sk,Q6,F,rfl,b1.j,bF.j,nd,rfl⟩,Qh⟩
      have dT:decide (tk<0)=AS:=by simpa using aA
      have bF:U (oH ts (s.drop d) 0=oH (ts.drop (k+1)) ((s.drop d).drop (k+1)) y):=aJ (by rw[Uv.j,eP aA]);go_upto_region 11 with fail
      by_cases aB:tk=sk
      · have hb:(tk !=sk)=AS:=by simp[aB]
        have b1:U (iL ts (s.drop d)=iL (ts.drop (k+1)) ((s.drop d).drop (k+1))):=aJ (by rw[b4.j];simp[aB]);clear aB;refine xE (S:=(λw'=>H w' (Q eb 0 G)=Y (J (Y (Q bt ot G)) (D ts) ct)/\H w' ⟨bt,ot+k,G⟩=Y (O Z tk)/\H w' ⟨bs,cz+(d+k),G⟩=Y (O Z sk))) Q7 (⟨e0,a',aC⟩) λhH=>?_;refine tL 0 ?_;refine tL 1 ?_;refine tL 2 ?_;refine tL 3 ?_;refine tL 4 ?_;refine tL 5 ?_;refine tL 6 ?_;refine tL 7 ?_;refine tL 8 ?_;refine tL 9 ?_;refine tL 10 ?_;refine tL 11 ?_;refine Ev Q7 ?_ _;go_wp2_with fail;exact⟨⟨k+1,y,Q6,F,rfl,b1.j,bF.j,nd+1,rfl⟩,Qh⟩
      have hb:(tk !=sk)=AT:=by simp[aB]
      have HD:U (et u f i s=G):=aJ (by
       have ep:iL ts (s.drop d)=AS:=by rw[b4.j];simp[aB,aA]
       unfold et;rw[HQ.j];simp only[];rw[eP Q5,<-c6.j,mI ep])
      clear aB;refine xE (S:=(λw'=>H w' (Q eb 0 G)=Y (J (Y (Q bt ot G)) (D ts) ct)/\H w' ⟨bt,ot+k,G⟩=Y (O Z tk)/\H w' ⟨bs,cz+(d+k),G⟩=Y (O Z sk))) Q7 (⟨e0,a',aC⟩) λhH=>?_;refine tL 0 ?_;refine tL 1 ?_;refine tL 2 ?_;refine tL 3 ?_;refine tL 4 ?_;refine tL 5 ?_;refine tL 6 ?_;refine tL 7 ?_;refine tL 8 ?_;refine tL 9 ?_;refine tL 10 ?_;refine tL 11 ?_;refine Ev Q7 ?_ _;go_wp2_with fail;go_ret2
      exact⟨gS Tt.j _,_,[],by rw[HD.j];rfl,ji _ _,λo h=>by rw[HD.j]at h;cases h⟩
    have b8:k=D ts:=by omega
    subst b8;have ae:iL ts (s.drop d)=AT:=by
     rw[HF.j,Ln,List.drop_of_length_le (by have:=Us.j;omega)];rfl
    have cn:y=rE ts (s.drop d):=by
     rw[<-ca.j (s.drop d),HA.j,Ln,List.drop_of_length_le (by have:=Us.j;omega)];rfl
    have ev:U (et u f i s=if D (s.take d++ps.map λp=>if p<0 then y else p)<=20/\(i.op≠14\/D s=D ts) then Y (s.take d++ps.map λp=>if p<0 then y else p) else G):=aJ (by
     unfold et;rw[HQ.j];simp only[];rw[eP Q5,<-c6.j,ae,<-cn];simp)
    have e1:=E1.j;clear ae cn F e1 e0;have Uw:=aJ (gS Tt.j nd);have cu:=aJ ((HS.j.gr Tt.j).gr (gS (Gr.refl AAq) nd));have Ws:=aJ (cL.j.gr (gS (Gr.refl AAq) nd));have e0:=(gS (Gr.refl AAq) nd).cell E0.j Q6;have e1:=(gS (Gr.refl AAq) nd).cell E1.j Q6;have k9:=(gS (Gr.refl AAq) nd).cell K9.j Q6;generalize AAq.drewN nd=B at Uw cu Ws e0 e1 k9 |-;have fo:d<=cf:=Q5;have e2:(d:A)<=(cf:A):=Q5;obtain⟨v6,w6,cx,b2,dd⟩:=dI (B5 B B.heap.size 3 1) (tE cu.j (show d<=s.length by omega)) Sj lj 26;have af:D (s.take d)=d:=Sj
    rw[Kj,Aq,af]at b2;have dO:=aJ cx;have ef:=aJ b2;have eu:U (Gr B w6):=aJ dd;have dw:=aJ e1;have eo:=aJ k9;clear cx b2 dd af e1 k9;go_upto_region 15 with(at_builtin;refine CH _ rfl _ _ _ _ rfl _ _ rfl rfl _ _ dO.j ?_)
    go_wp2_with fail;go_loopw[15,16] (λv vk wr=>∃(k:R) (l:I A),vk=O Z (k:A)/\k<=D ps/\l=s.take d++(ps.take k).map (λp=>if p<0 then y else p)/\wr.ownsRow B.heap.size 3 1 v (D l) (fK l)/\Gr B wr) λ_ vk _=>D ps-(intOf vk).toNat
    case atStart=>
     have af:D (s.take d)=d:=Sj
     exact⟨0,s.take d,rfl,Lz,Q6,by rw[af];exact ef.j,eu.j⟩
    case round=>
     obtain⟨k,l,rfl,hk,hl,ho,hg⟩:=hrel;have e5:D l<=1000:=by rw[hl,fe,JY,Bc,Bc];omega
     obtain⟨av,cv,rfl⟩:=aR ho;have HO:=aJ ho;have HL:=aJ hl;have HG:=aJ hg;have e1:=hg.cell dw.j Q6;have k9:=hg.cell eo.j Q6;clear ho hl hg;by_cases ad:k<D ps
     · obtain⟨e6,e',aG,_,aL⟩:=Ws.j;obtain⟨bp,fg,rfl,bj⟩:=aL k ad;simp only[jj,Bt]at aG;obtain⟨rfl,rfl⟩:=aG;have bj:=HG.j.cell bj Q6;rw[wO ad]at bj;have UB:(k:A)<(D ps:A):=by omega
       have b9:Z.wrap ((k:A)+1)=(k:A)+1:=Q_;have b7:U (∀z,(if ps[k]<0 then y else ps[k])=z->l++[z]=s.take d++(ps.take (k+1)).map λp=>if p<0 then y else p):=aJ (λz hz=>by
        rw[HL.j,AB ad,Ju,zx];simp[hz])
       generalize ps[k]=pk at bj b7;have cj:U (∀z:A,∃v' w',(Builtin.append_ #[26,26] 26 #[J av (D l) cv,J (Y (Q wr.heap.size 0 G)) 1 1]).run prog (wr.alloc (X #[O Z z] 3))=.ok v' w'/\w'.ownsRow B.heap.size 3 1 v' (D (l++[z])) (fK (l++[z]))/\Gr B w'):=aJ (λz=>by
        have di:=Gr.alloc (Gr.refl wr) (X #[O Z z] 3);have cy:(wr.alloc (X #[O Z z] 3)).ownsRow B.heap.size 3 1 (J av (D l) cv) (D l) (fK l):=fF.keep HO.j λb hb=>di.block b (Lm HO.j b hb).2 Q6;obtain⟨v',w',hr,how,en⟩:=dI (w:=wr.alloc (X #[O Z z] 3)) cy (br (b:=wr.heap.size) (y:=z) Ql) jB (by have:=HG.j.size;simp;omega) 26;refine⟨v',w',hr,?_,nB (HG.j.trans di) cy en⟩;have e:fK (l++[z])=fK l++fK [z]:=by simp[fK]
        rw[e,fe];exact how)
       clear aL;by_cases a9:pk<0
       · have ek:decide (pk<0)=AT:=by simpa using a9
         obtain⟨v7,w7,aD,aE,aF⟩:=cj.j y;have b5:=aJ aD;have Vc:=aJ aE;have bL:=aJ aF;have b3:=aJ (b7.j y (by rw[mI a9]));clear aD aE aF;go_wp2_with(at_builtin;refine CH _ rfl _ _ _ _ rfl _ _ rfl rfl _ _ b5.j ?_)
         exact⟨⟨k+1,l++[y],Q6,ad,b3.j,Vc.j,bL.j⟩,Qh⟩
       have ek:decide (pk<0)=AS:=by simpa using a9
       obtain⟨v7,w7,aD,aE,aF⟩:=cj.j pk;have b5:=aJ aD;have Vc:=aJ aE;have bL:=aJ aF;have b3:=aJ (b7.j pk (by rw[eP a9]));clear aD aE aF;go_wp2_with(at_builtin;refine CH _ rfl _ _ _ _ rfl _ _ rfl rfl _ _ b5.j ?_)
       exact⟨⟨k+1,l++[pk],Q6,ad,b3.j,Vc.j,bL.j⟩,Qh⟩
     have b8:k=D ps:=by omega
     subst b8;have a7:l=s.take d++ps.map (λp=>if p<0 then y else p):=by rw[HL.j,J6]
     have bk:U (et u f i s=if D l<=20/\(i.op≠14\/D s=D ts) then Y l else G):=aJ (by rw[ev.j,a7]);have WD:U (dY (λb=>w.heap.size<=b) wr (J av (D l) cv) l):=aJ ((i_ HO.j).mono λb hb hl=>⟨rfl,wz Uw.j.size hb.1⟩);have Ua:=aJ (Uw.j.trans HG.j);clear a7 ad;by_cases b6:D l<=20
     · have az:(D l:A)<=20:=by omega
       have b':decide ((D l:A)<=20)=AT:=by simpa using az
       by_cases TM:i.op=14
       · have hb:(i.op !=14)=AS:=by simp[TM]
         by_cases bg:d=0
         · have ed:((d:A)==0)=AT:=by simpa using bg
           have HD:U (et u f i s=Y l):=aJ (by rw[bk.j,mI ⟨b6,.inr Q5⟩]);clear bg TM;exact Pk
         have ed:((d:A)==0)=AS:=by simpa using bg
         have HD:U (et u f i s=G):=aJ (by rw[bk.j,eP (by rintro⟨_,h|h⟩;exact h TM;omega)]);clear bg TM;exact Pr
       have hb:(i.op !=14)=AT:=by simp[TM]
       have HD:U (et u f i s=Y l):=aJ (by rw[bk.j,mI ⟨b6,.inl TM⟩]);clear TM;exact Pk
     have az:¬(D l:A)<=20:=by omega
     have b':decide ((D l:A)<=20)=AS:=by simpa using az
     have HD:U (et u f i s=G):=aJ (by rw[bk.j,eP λh=>b6 h.1]);exact Pr
  have HD:U (et u f i s=G):=aJ (by unfold et;rw[HQ.j];simp only[];rw[mI Q5]);obtain⟨DDq,hD⟩:∃DDq:A,DDq=(D s:A)-(D ts:A):=⟨_,rfl⟩;have ej:=a8.trans hD.symm;have ez:DDq<0:=by omega
  clear hD a8 hle;exact Pq
end Go.Proofs.YtghjmnlapcpbiaaGreatDoor
