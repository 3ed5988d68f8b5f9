import Derived.Test.YtghjmnlapcpbiaaGreatDoorMn
import Derived.Deep.WholeRow
namespace Go.Proofs.YtghjmnlapcpbiaaGreatDoor
open _root_ renaming Option.some->Y,Option.none->G,Go.Value.int->O,Go.IntKind.i64->Z,Go.Value.slice->J,List->I,Nat->R,Int->A,Go.World.cell?->H,List.length->D,Go.Obj.cells->X,Go.Value->M,Go.World->T,Go.Addr.mk->Q,Go.RowKit.Hid->U,UInt8->AI,Bool.false->AS,Bool.true->AT,Option->By
open Go.Proofs.Tryz
open Go.RowKit
set_option linter.defProp false
variable{listed:Array Bool}{fs r s vs:I PV}{a b g i n z:R}{ρ0:R->cV}{oi:Oper}{v':PV}{vf:M}{x:eZ}
def Mf:=@List.getElem?_set_self.{0}
def Mr:=@List.getElem?_set_ne.{0}
set_option maxRecDepth 100000
set_option maxHeartbeats 2000000
set_option linter.unusedVariables false
set_option linter.unusedSimpArgs false
open Go.RowKit
section
variable {C:MC} {w w':T} {ρ:R->cV} {nm fbn:R->R} {cs:R->A} {ct:A} {L:I eZ} {bs:I (I PV)} {tk:R} {told:I A}
theorem yH{w0:T}{g:aQ}{q:R}{ps:I PV}{vp:M}(h:MW C w ρ nm fbn cs ct L bs tk told)(h0:bJ w0 w ρ0 ρ)(hV:C.V.heap.size<=w0.heap.size)(hR:eE C.V C.v3 C.u.aG)(hg:C.u.aG[q]? =Y g)(U9:D C.u.aG<=30)(hp:w.ownsRow w0.heap.size 184 2 vp (D ps) (gT nm ps))(hρ:∀k,vp.ownBlock=Y k->ρ k=.no)(hL:D L<=1000)(hn:D ps+D g.aI<=1000):
 Calls prog 35 #[.pointer (Y (Q C.mb 0 G)),O Z (q:A),vp] w λe w'=>∃ρ' fbn',e=.returned (.pointer (Y ⟨fbn' (D L),0,G⟩))/\MW C w' ρ' nm fbn' cs ct (⟨q,0,ps++dG (D g.aI),[]⟩::L) bs tk told/\bJ w0 w' ρ0 ρ':=by
 obtain⟨vf,vt,hm⟩:=h.mb;obtain⟨ao,a6,aA,a4,hc⟩:=hR;obtain⟨b,off,a3,vl,vc,aH,k0,k1,k2,k3,r1,r2,r3⟩:=hc q g hg;subst aH;have aF:=(dm.1 hg).1;obtain⟨fa,fc,rfl,_⟩:=r1;obtain⟨la,lc,rfl,_⟩:=r2;have aL:=r3;obtain⟨ca,cc,rfl,_⟩:=r3;obtain⟨pa,pc,rfl⟩:=aR hp;have hM:=hm.box;rw[aA]at hM;refine(CV w _ _ _ _ _ _ _ _ _ _ _ _ b _ _ _ q _ _ _ _ _ _ _ _ _ _ _ _ _ _ hM aF Q5 (h.gr.cell k0 Q6) (h.gr.cell k1 Q6) (h.gr.cell k2 Q6) (h.gr.cell k3 Q6) hm.fr (λe=>by have:=hm.rf _ e;rw[hm.rm]at this;cases this) hL ⟨hp.1,hp.2.imp id λ⟨g,c,_,e1,F,e3⟩=>⟨g,c,_,e1,Lz,e3⟩⟩ (λe=>by have:=hρ _ e;rw[hm.rm]at this;cases this) (λb e1 F=>by have:=hρ b e1;rw[hm.rf b F]at this;cases this) Q5).mono ?_;rintro e w' ⟨nb,vs,ai,rfl,hF,hs,a2,VO,aE,aM,ay,av,az,aC,aB,S7,af⟩;have ax:=(eJ.1 hF).1;have UR:=h.gr.size;have a5:=h0.size;have ad:∀b,vs.ownBlock=Y b->b<w.heap.size->ρ b=.no/\w0.heap.size<=b:=λb d hl=>by
  rcases a2 with e|⟨k,e,hk⟩
  · exact⟨hρ b (e▸d),(hp.lt b (e▸d)).1⟩
  rw[d]at e;cases e;omega
 have ae:∀b,ai.ownBlock=Y b->b<w.heap.size->ρ b=.frs:=λb d hl=>by
  rcases av with e|⟨k,e,hk,_⟩
  · exact hm.rf b (e▸d)
  rw[d]at e;cases e;omega
 let ρ':R->cV:=λb=>if b=nb then .fb (D L) else if vs.ownBlock=Y b then .fsl (D L) else if ai.ownBlock=Y b then .frs else ρ b
 have a0:ρ' _=.fb _:=mI rfl;have T2:∀b,vs.ownBlock=Y b->ρ' b=.fsl _:=λb d=>by
  have e1:¬b=nb:=λe=>aE (e▸d)
  show(if b=nb then _ else _)=_
  rw[eP e1,mI d]
 have aD:∀b,ai.ownBlock=Y b->ρ' b=.frs:=λb d=>by
  have e1:¬b=nb:=λe=>by
   rcases av with F|⟨k,F,hk,TN,_⟩
   · have:=(hm.fr.lt b (F▸d)).2;omega
   rw[d]at F;cases F;exact TN e
  have F:¬vs.ownBlock=Y b:=λe=>by
   rcases av with F|⟨k,F,hk,TN,Wd⟩
   · have hl:=(hm.fr.lt b (F▸d)).2;have:=(ad b e hl).1
     rw[hm.rf b (F▸d)]at this;cases this
   rw[d]at F;cases F;exact Wd e
  show(if b=nb then _ else _)=_
  rw[eP e1,eP F,mI d]
 have al:∀b,b<w.heap.size->(ρ b≠.no\/b<w0.heap.size)->ρ' b=ρ b:=λb d hn=>by
  show(if b=nb then _ else _)=_
  have e1:¬b=nb:=Q5;have F:¬vs.ownBlock=Y b:=λe=>by
   have:=ad b e d
   rcases hn with hn|hn
   · exact hn this.1
   omega
  rw[eP e1,eP F];split
  · rename_i e;exact(ae b e d).symm
  rfl
 have ak:∀b,(J _ _ _).ownBlock=Y b->ρ b=.no/\w0.heap.size<=b:=λb d=>⟨hρ b d,(hp.lt b d).1⟩
 have s:ku (λr=>r≠.no/\r≠.mach/\r≠.frs) w _ _ _:=λb d hS=>⟨af b d (λe=>hS.2.1 (e▸hm.rm)) (λe=>hS.1 (ak b e).1) λe=>hS.2.2 (hm.rf b e),al b d (.inl hS.1)⟩
 have K:bJ _ _ _ _:=⟨az.trans h0.os,aC.trans h0.tape,aB.trans h0.output,Q5,λb d=>(al b Q5 (.inr d)).trans (h0.role b d),λb d e=>by
  have eb:=(h0.role b d).trans e;exact(af b Q5 (λe=>by rw[e,hm.rm]at eb;cases eb) (λe=>by have:=(ak b e).2;omega) λe=>by have:=hm.rf b e;rw[eb]at this;cases this).trans (h0.keep b d e)⟩
 have K2:Gr _ _:=⟨az.trans h.gr.os,aC.trans h.gr.tape,aB.trans h.gr.output,Q5,λb d No=>by
  have eb:=MT λe=>by have:=(h.lo b e).1;omega
  exact(af b Q5 (λe=>by rw[e,hm.rm]at eb;cases eb) (λe=>by have:=(ak b e).2;omega) λe=>by have:=hm.rf b e;rw[eb]at this;cases this).trans (h.gr.block b d No)⟩
 obtain⟨t1,t2⟩:=gn hm.tl hm.rt s ⟨nofun,nofun,nofun⟩;have hfb:∀i,i<D L->(λi=>if i=D L then nb else fbn i) i=fbn i:=λi hi=>eP Q5
 refine⟨_,λi=>if i=D L then nb else fbn i,Q6,⟨K2,λb d=>?_,⟨_,_,⟨by rw[aA];exact aM,?_,t1,?_,aD,t2⟩⟩,⟨⟨_,_,_,g,⟨hg,aL,?_,?_,B5 _ _ _ _,?_,T2,λb d=>by cases d⟩⟩,h.frs.mv s λi hi=>⟨⟨nofun,nofun,nofun⟩,⟨nofun,nofun,nofun⟩,⟨nofun,nofun,nofun⟩,hfb i hi⟩⟩,λj fs hj=>?_⟩,K⟩
 · by_cases e1:b=nb
   · subst e1;exact⟨Q5,ax⟩
   by_cases F:vs.ownBlock=Y b
   · refine⟨?_,(hs.lt b F).2⟩;by_cases hl:b<w.heap.size
     · have:=(ad b F hl).2;omega
     omega
   by_cases e3:ai.ownBlock=Y b
   · refine⟨?_,(ay.lt b e3).2⟩;by_cases hl:b<w.heap.size
     · exact(h.lo b (by rw[ae b e3 hl];nofun)).1
     omega
   have e4:ρ' b=ρ b:=by
    show(if b=nb then _ else _)=_
    rw[eP e1,eP F,eP e3]
   rw[e4]at d;have:=h.lo b d
   exact⟨this.1,Q5⟩
 · show w'.ownsRow 0 _ 1 ai (D L+1) _
   rw[Jk,vD,A3 hfb];simpa using ay
 · rw[al _ hm.lt (.inl (by rw[hm.rm];nofun))];exact hm.rm
 · simpa using hF
 · rw[fe,nQ,<-Fj];simpa[dG]using hs
 · simpa using a0
 exact Ph
theorem Pn{p:Prop}(h:p:=by obtain⟨⟨v,hB⟩,hc⟩:=h.blks j _ hj;exact⟨⟨v,hB.mv s ⟨nofun,nofun⟩ ⟨nofun,nofun⟩⟩,hc⟩):p:=h
theorem ye(h:MW C w ρ nm fbn cs ct (x::L) bs tk told)(hL:D L<=1000):
 Calls prog 85 #[.pointer (Y (Q C.mb 0 G))] w λe w'=>e=.returned (if D L=0 then .pointer G else .pointer (Y ⟨fbn (D L-1),0,G⟩))/\MW C w' ρ nm fbn cs ct L bs tk told/\bJ w w' ρ ρ:=by
 obtain⟨vf,vt,hm⟩:=h.mb;have ho:=hm.fr;have hM:=hm.box;have ad:=hm.rf;obtain⟨g,cap,rfl⟩:∃g cap,vf=J _ (D L+1) cap:=by
  exact PS
 rw[Jk,vD]at ho;refine(DX w _ _ _ _ _ _ _ _ _ _ g _ _ _ _ hM ho (λe=>by have:=ad g rfl;rw[e,hm.rm]at this;cases this) hL λu hu=>?_).mono ?_
 · simp only[qA,MB]at hu;obtain⟨i,_,rfl⟩:=hu;exact⟨_,rfl⟩
 rintro e w' ⟨rfl,af,ae,F⟩;have s:ku (λr=>r≠.mach/\r≠.frs) w _ _ _:=λb d hS=>⟨F.blk b d (λe=>hS.1 (e▸hm.rm)) nofun,rfl⟩
 have K:bJ w _ ρ _:=⟨F.os,F.tape,F.output,F.size,λ_ _=>rfl,λb d e=>F.blk b d (λe2=>by rw[e2,hm.rm]at e;cases e) nofun⟩;obtain⟨t1,t2⟩:=gn hm.tl hm.rt s ⟨nofun,nofun⟩;refine⟨?_,⟨K.gr h.gr h.lo,λb d=>⟨(h.lo b d).1,tu (h.lo b d).2 F.size⟩,⟨_,_,⟨af,ae,t1,hm.rm,λb d=>ad b d,t2⟩⟩,h.frs.2.mv s λi hi=>⟨⟨nofun,nofun⟩,⟨nofun,nofun⟩,⟨nofun,nofun⟩,rfl⟩,λj fs hj=>?_⟩,K⟩
 · by_cases e:D L=0
   · rw[mI e,mI e]
   rw[eP e,eP e,mh,Bi _ Q5];rfl
 exact Pn
theorem GB(x:A)(h:MW C w ρ nm fbn cs ct L bs tk told)(hl:D told<=1000):
 Calls prog 90 #[.pointer (Y (Q C.mb 0 G)),O Z x] w λe w'=>e=.returned (.tuple #[])/\zS C w ρ nm fbn cs ct L bs tk (oO told x) w':=by
 obtain⟨vf,vt,hm⟩:=h.mb;refine(Ea w _ _ _ _ _ _ _ _ _ _ _ _ x hm.box hm.tl (λe=>by have:=hm.rt _ e;rw[hm.rm]at this;cases this) hl).mono ?_;rintro e w' ⟨ai,rfl,af,ae,ad,Tq⟩;have hr:∀b,b<w.heap.size->pL _ _ _ b=ρ b:=λb d=>by
  unfold pL;split
  · rename_i e
    rcases ad with F|⟨k,F,h2⟩
    · exact(hm.rt b (F▸e)).symm
    rw[F]at e;cases e;omega
  rfl
 have s:ku (λr=>r≠.mach/\r≠.tol) w _ _ _:=λb d hS=>⟨Tq.blk b d (λe=>hS.1 (e▸hm.rm)) λe=>hS.2 (hm.rt b e),hr b d⟩
 have K:bJ w _ _ _:=⟨Tq.os,Tq.tape,Tq.output,Tq.size,hr,λb d e=>Tq.blk b d (λe2=>by rw[e2,hm.rm]at e;cases e) λe2=>by rw[hm.rt b e2]at e;cases e⟩;obtain⟨t1,t2⟩:=gn hm.fr hm.rf s ⟨nofun,nofun⟩;refine⟨rfl,_,⟨K.gr h.gr h.lo,λb d=>?_,⟨_,_,⟨af,t1,ae,by rw[hr _ hm.lt];exact hm.rm,t2,λb d=>Ef d⟩⟩,h.frs.mv s λi hi=>⟨⟨nofun,nofun⟩,⟨nofun,nofun⟩,⟨nofun,nofun⟩,rfl⟩,λj fs hj=>?_⟩,K⟩
 · by_cases e:ai.ownBlock=Y b
   · refine⟨?_,(ae.lt b e).2⟩;rcases ad with F|⟨k,F,h2⟩
     · exact(h.lo b (by rw[hm.rt b (F▸e)];nofun)).1
     rw[F]at e;cases e;have:=h.gr.size;omega
   rw[EN e]at d;have:=h.lo b d
   exact⟨this.1,tu this.2 Tq.size⟩
 exact Pn
theorem MW.setSlot{vc vs vk:M}{f:aQ}{cap:R}(v:PV)(h:MW C w ρ nm fbn cs ct (x::L) bs tk told)(F:pn C w ρ nm (D L) (fbn (D L)) x vc vs vk f)(ad:vs=J (Y (Q g 0 G)) n cap):
 MW C ((w.setCell ⟨g,a*2,G⟩ (O Z v.num)).setCell ⟨g,a*2+1,G⟩ (.pointer (gi nm v.blk))) ρ nm fbn cs ct (⟨x.fn,x.pos,x.slots.set a v,x.stack⟩::L) bs tk told/\bJ w ((w.setCell ⟨g,a*2,G⟩ (O Z v.num)).setCell ⟨g,a*2+1,G⟩ (.pointer (gi nm v.blk))) ρ ρ:=by
 subst ad;have Tn:=F.sl;have hn:n=D x.slots:=by
  obtain⟨ao,cp,e⟩:=aR Tn;cases e;rfl
 subst hn;have d:∀b,¬b=g->((w.setCell ⟨g,a*2,G⟩ (O Z v.num)).setCell ⟨g,a*2+1,G⟩ (.pointer (gi nm v.blk))).heap[b]? =w.heap[b]? :=λb hb=>(dp _ _ _ _ hb).trans (dp _ _ _ _ hb)
 have hg:=F.rsl g rfl;have hu:=h.top_upd (x':=⟨x.fn,x.pos,x.slots.set a v,x.stack⟩) F rfl ((d _ λe=>by have:=F.rb;rw[e,hg]at this;cases this).trans F.box) (by
  have:=xY Tn a (O Z v.num) (.pointer (gi nm v.blk))
  rw[sN]at this;simpa using this) (c_ F.st λk hk=>d k λe=>by have:=F.rst k hk;rw[e,hg]at this;cases this) (.inl rfl) rfl rfl rfl Q6 λb hb _ h2 _=>d b λe=>h2 (e▸hg)
 rw[tR F.rst]at hu;exact hu
theorem MW.bk_upd{j:R}{fs':I PV}{c':A}(h:MW C w ρ nm fbn cs ct L bs tk told)(hj:bs[j]? =Y fs)(hB:t9 w ρ nm j (cs j) fs vf)(ae:t9 w' ρ nm j c' fs' vf)(hc:0<=c'/\c'<=ct)(ai:w'.os=w.os)(af:w'.tape=w.tape)(ad:w'.output=w.output)(S7:w.heap.size<=w'.heap.size)(d:∀b,b<w.heap.size->ρ b≠.bb j->ρ b≠.bf j->w'.heap[b]? =w.heap[b]?):
 MW C w' ρ nm fbn (λk=>if k=j then c' else cs k) ct L (bs.set j fs') tk told/\bJ w w' ρ ρ:=by
 have s:ku (λr=>r≠.bb j/\r≠.bf j) w _ _ _:=λb F hS=>⟨d b F hS.1 hS.2,rfl⟩
 have K:bJ w _ ρ _:=⟨ai,af,ad,S7,λ_ _=>rfl,λb F e=>d b F Sd Sd⟩;obtain⟨ak,vt,hm⟩:=h.mb;refine⟨⟨K.gr h.gr h.lo,λb F=>⟨(h.lo b F).1,tu (h.lo b F).2 S7⟩,⟨_,_,hm.mv s ⟨nofun,nofun⟩ ⟨nofun,nofun⟩ ⟨nofun,nofun⟩⟩,h.frs.mv s λi hi=>⟨⟨nofun,nofun⟩,⟨nofun,nofun⟩,⟨nofun,nofun⟩,rfl⟩,λk gs hk=>?_⟩,K⟩;by_cases e:k=j
 · subst e;have hl:=(dm.1 hj).1;rw[Mf hl]at hk;cases hk
   simp only[KA];exact⟨⟨_,ae⟩,hc⟩
 rw[Mr λe2=>e e2.symm]at hk;simp only[e,L3];obtain⟨⟨v,hK⟩,TD⟩:=h.blks k _ hk;exact⟨⟨v,hK.mv s ⟨QL,nofun⟩ ⟨nofun,QL⟩⟩,TD⟩
theorem MW.setField{j cap:R}(v:PV)(h:MW C w ρ nm fbn cs ct L bs tk told)(hj:bs[j]? =Y fs)(F:t9 w ρ nm j (cs j) fs (J (Y (Q g 0 G)) n cap)):
 MW C ((w.setCell ⟨g,a*2,G⟩ (O Z v.num)).setCell ⟨g,a*2+1,G⟩ (.pointer (gi nm v.blk))) ρ nm fbn cs ct L (bs.set j (fs.set a v)) tk told/\bJ w ((w.setCell ⟨g,a*2,G⟩ (O Z v.num)).setCell ⟨g,a*2+1,G⟩ (.pointer (gi nm v.blk))) ρ ρ:=by
 have U9:=F.fl;have hn:n=D fs:=by
  obtain⟨ao,cp,e⟩:=aR U9;cases e;rfl
 subst hn;have d:∀b,¬b=g->((w.setCell ⟨g,a*2,G⟩ (O Z v.num)).setCell ⟨g,a*2+1,G⟩ (.pointer (gi nm v.blk))).heap[b]? =w.heap[b]? :=λb hb=>(dp _ _ _ _ hb).trans (dp _ _ _ _ hb)
 have hg:=F.rf g rfl;have hc:=(h.blks j _ hj).2;have e:(λk=>if k=j then cs j else cs k)=cs:=by
  funext k
  split
  · rename_i e;rw[e]
  rfl
 have hu:=h.bk_upd (fs':=fs.set a v) hj F ⟨(d _ λe=>by have:=F.rb;rw[e,hg]at this;cases this).trans F.box,by
  have:=xY U9 a (O Z v.num) (.pointer (gi nm v.blk))
  rw[sN]at this;simpa using this,F.rb,F.rf⟩ hc rfl rfl rfl Q6 λb hb _ h2=>d b λe=>h2 (e▸hg)
 rw[e]at hu;exact hu
theorem MW.mark{j:R}(c:A)(h:MW C w ρ nm fbn cs ct L bs tk told)(hj:bs[j]? =Y fs)(F:t9 w ρ nm j (cs j) fs vf)(hc:0<=c/\c<=ct):
 MW C (w.setCell ⟨nm j,1,G⟩ (O Z c)) ρ nm fbn (λk=>if k=j then c else cs k) ct L bs tk told/\bJ w (w.setCell ⟨nm j,1,G⟩ (O Z c)) ρ ρ:=by
 have d:∀b,¬b=nm j->(w.setCell (Q _ 1 G) (O Z c)).heap[b]? =w.heap[b]? :=λb hb=>dp _ _ _ _ hb
 have hu:=h.bk_upd hj F ⟨(wS w _ 1 _ _ _ F.box).trans Q6,c_ F.fl λk hk=>d k (λe=>by have:=F.rf k hk;rw[e,F.rb]at this;cases this),F.rb,F.rf⟩ hc rfl rfl rfl Q6 λb hb h1 _=>d b λe=>h1 (e▸F.rb);have e:bs.set j fs=bs:=by
  apply Mq
  intro k;by_cases e:j=k
  · subst e;rw[Mf (dm.1 hj).1,hj]
  rw[Mr e]
 rw[e]at hu;exact hu
end
section
variable {P:Program} {ops:Array Oper} {QQq:Exit->Act->T->Prop} {md:Region.Mode} {S:T->Prop}
inductive mu(md:Region.Mode)(ops:Array Oper)(listed:Array Bool)(i:R):R->Prop
 | one {z:R} {oz:Oper} (hz:ops[z]? =Y oz) (hi:∃e∈oz.after,Region.binds md e=AT/\e.on=i) (hl:listed.getD i AT=AS):mu md ops listed i z
 | more {z d:R} {oz:Oper} (hz:ops[z]? =Y oz) (hi:∃e∈oz.after,Region.binds md e=AT/\e.on=d) (hl:listed.getD d AT=AS) (h:mu md ops listed i d):mu md ops listed i z
theorem not_ready{d:R}{oz:Oper}(hz:ops[z]? =Y oz)(hi:∃e∈oz.after,Region.binds md e=AT/\e.on=d)(hl:listed.getD d AT=AS):¬z∈Region.ready md ops listed:=λhr=>by
 obtain⟨_,o,ho,Tc⟩:=M7.1 hr;rw[hz]at ho;cases ho
 obtain⟨e,he,hb,rfl⟩:=hi;have F:=Tc e he hb;rcases Nat.lt_or_ge e.on listed.size with h'|h'
 · simp[h']at hl F;rw[hl]at F;cases F
 simp[Lx h']at F
theorem mu.not_ready(h:mu md ops listed i z):¬z∈Region.ready md ops listed:=by
 cases h with
 | one F hi d=>exact Go.Proofs.YtghjmnlapcpbiaaGreatDoor.not_ready F hi d
 | more F hi d _=>exact Go.Proofs.YtghjmnlapcpbiaaGreatDoor.not_ready F hi d
theorem mu.list{j:R}(hj:j∈Region.ready md ops listed)(TG:j≠i)(h:mu md ops listed i z):mu md ops (listed.setIfInBounds j AT) i z:=by
 induction h with
 | one hz hi F=>exact .one hz hi (by rw[Nd _ TG];exact F)
 | @more z d oz hz hi F h ih=>
  have ad:j≠d:=λe=>h.not_ready (e▸hj)
  exact .more hz hi (by rw[Nd _ ad];exact F) ih
theorem wT{v:M}(hi:ops[i]? =Y oi)(F:∀(j:R) (o:Oper) cs b,ops[j]? =Y o->o.op≠.select cs b)
 (hQ:∀c a w,QQq (.panic c) (a.put oi.dst v) w->QQq (.panic c) a w):
 ∀(fuel:R) (listed:Array Bool) (a:Act) (w:T),mu md ops listed i z->
  (∀j oj,ops[j]? =Y oj->j≠i->listed.getD j AT=AS->(∀e∈oj.after,Region.binds md e=AT->e.on≠i)->oi.apart ops oj=AT)->
  i∈Region.ready md ops listed->YieldsIf P ops S oi v a->S w->
  gx P md ops QQq S z fuel (listed.setIfInBounds i AT) (a.put oi.dst v) w->gx P md ops QQq S z (fuel+1) listed a w:=by
 intro fuel
 induction fuel with
 | zero=>
  intro listed a w hw _ hr hy hS HHq;exact N5
 | succ fuel ih=>
  intro listed a w hw UL hr hy hS HHq;refine⟨λh=>RL,λj hj=>?_⟩;by_cases TG:j=i
  · exact Oz
  have h1:=HHq.2 j (Ml hj TG);obtain⟨Vw,oj,ad,Tc⟩:=M7.1 hj;have ae:∀e∈oj.after,Region.binds _ e=AT->e.on≠i:=λe he hb heq=>by
   exact NO
  have af:j≠z:=λe=>hw.not_ready (e▸hj)
  have h2:=wpOp_putIf ad (UL j _ ad TG Vw ae) (λcs b=>F i _ _ b hi) (λcs b=>F j _ _ b ad) hQ hy h1;have d:∀k ok,ops[k]? =Y _->k≠i->(listed.setIfInBounds j _).getD k _=AS->
   (∀e∈ok.after,Region.binds _ e=AT->e.on≠i)->oi.apart _ ok=AT:=λk ok hk UB Wy UZ=>by
   exact Oe
  refine wpOp_mono (λa' w' h3=>⟨h3.2.1,ih _ _ _ (hw.list hj TG) d (Ml hr (Nc TG)) h3.1 (h3.2.1 af) ?_⟩) h2;rw[Jb _ _ TG];exact h3.2.2
end
section
variable {P:Program} {l:I Oper} {md:Region.Mode} {QQq:Exit->Act->T->Prop} {S:T->Prop}
def oc(md:Region.Mode)(l:I Oper)(listed:Array Bool)(i:R):R->R->Bool
 | 0,_=>AS
 | n+1,z=>match l[z]? with
  | some oz=>oz.after.toList.any λe=>Region.binds md e&&(!listed.getD e.on AT&&(Nat.beq e.on i||oc md l listed i n e.on))
  | none=>AS
theorem nF:∀{n z:R},oc md l listed i n z=AT->mu md l.toArray listed i z
 | 0,z,h=>by cases h
 | n+1,z,h=>by
  unfold oc at h;cases hz:l[z]? with
  | none=>rw[hz]at h;cases h
  | some oz=>
   rw[hz]at h;simp only[Mj,sQ,M1,Ms,Nat.beq_eq]at h;obtain⟨e,he,h1,h2,d⟩:=h;have F:=by simpa using he
   rcases d with d|d
   · exact .one SD ⟨e,F,h1,d⟩ (d▸h2)
   exact .more SD ⟨e,F,h1,rfl⟩ h2 (nF d)
theorem Jc{v:M}{fuel:R}{a:Act}{w:T}(hi:l[i]? =Y oi)(d:oc md l listed i 20 z=AT)
 (hs:Region.noSelect l.toArray=AT) (F:Region.free md l.toArray listed i=AT) (hr:(Region.ready md l.toArray listed).contains i=AT)
 (hQ:∀c a w,QQq (.panic c) (a.put oi.dst v) w->QQq (.panic c) a w) (hw:Region.wanted oi (yielded l.toArray a.tmps)=AT) (hy:∀w,S w->(execOp a.eval oi).run P w=.ok (.value v) w) (hS:S w)
 (h:gx P md l.toArray QQq S z fuel (listed.setIfInBounds i AT) (a.put oi.dst v) w):gx P md l.toArray QQq S z (fuel+1) listed a w:=
 wT Q' (Lg hs) hQ fuel listed a w (nF d) (Region.free_spec Q' F) (by simpa using hr) (.inl ⟨hw,hy⟩) hS h
theorem tY{P:Program}{l:I Oper}{md:Region.Mode}{QQq:Exit->Act->T->Prop}{S:T->Prop}(i:R){oi:Oper}{v:M}{fuel:R}{listed F:Array Bool}{a a':Act}{w:T}(h:gx P md l.toArray QQq S z fuel F a' w)(hi:l[i]? =Y oi:=by rfl)(hy:∀w,S w->(execOp a.eval oi).run P w=.ok (.value v) w:=by intro w hS;go_simp<;>rfl)(hS:S w:=by assumption)(d:oc md l listed i 20 z=AT:=by kernel_rfl)(hs:Region.noSelect l.toArray=AT:=by kernel_rfl)(hf:Region.free md l.toArray listed i=AT:=by kernel_rfl)(hr:(Region.ready md l.toArray listed).contains i=AT:=by kernel_rfl)(hQ:∀c a w,QQq (.panic c) (a.put oi.dst v) w->QQq (.panic c) a w:=by intro c a w h;exact h)(hw:Region.wanted oi (yielded l.toArray a.tmps)=AT:=by rfl)(ha:a.put oi.dst v=a':=by first|(simp only[Act.put,sA,s0,s1];rfl)|rfl)(hl:listed.setIfInBounds i AT=F:=by first|(simp only[sA,s0,s1];rfl)|rfl):gx P md l.toArray QQq S z (fuel+1) listed a w:=Jc hi d hs hf hr hQ hw hy hS (ha▸hl▸h)
end
attribute [local go_sem ↓] Go.wp_at_zero Go.wp_at_succ
theorem Tryz.callPush(vals:Array M)(w:T):(callFunc 86 vals).run Tryz.prog w=.ok (.enter 86 vals) w:=Q7
def GV(C:MC)(w:T)(ρ:R->cV)(nm fbn:R->R)(cs:R->A)(ct:A)(L:I eZ)(bs:I (I PV))(tk:R)(told:I A)(e:Ending)(w':T):Prop:=e=.returned (.tuple #[])/\zS C w ρ nm fbn cs ct L bs tk told w'
section
variable {C:MC} {w w':T} {ρ:R->cV} {nm fbn:R->R} {cs:R->A} {ct:A} {L:I eZ} {bs:I (I PV)} {tk:R} {told:I A}
theorem NW{p:Prop}(h:p:=by
 go_enter func91,ntmps91
 go_wp2_with fail;refine HC.mono ?_;rintro e w2 ⟨rfl,ρ',hM,hK⟩;have HR:=aJ (And.intro hM ((bJ.of_gr HG).trans hK));go_wp2_with fail;go_end0
 exact⟨rfl,_,HR.1,HR.2⟩):p:=h
theorem EW(a:A)(b:A)(h:MW C w ρ nm fbn cs ct (x::L) bs tk told)(hn:D x.stack<=1000):
 Calls prog 91 #[.pointer (Y ⟨fbn (D L),0,G⟩),.agg #[O Z 1,O Z a,O Z b]] w (GV C w ρ nm fbn cs ct (x.st (x.stack++[⟨a,G⟩])::L) bs tk told):=by
 have d:=(Gr.refl w).alloc (X #[O Z 1,O Z a,O Z b] 87);have F:=h.of_gr d;have HG:=aJ d;have HC:=aJ (js ⟨a,G⟩ F hn);generalize fbn _=fb at HC |-;exact NW
theorem IK(a:A)(b:A)(h:MW C w ρ nm fbn cs ct (x::L) bs tk told)(hn:D x.stack<=1000):
 Calls prog 91 #[.pointer (Y ⟨fbn (D L),0,G⟩),.agg #[O Z 18,O Z a,O Z b]] w (GV C w ρ nm fbn cs ct (x.st (x.stack++[lX])::L) bs tk told):=by
 have d:=(Gr.refl w).alloc (X #[O Z 18,O Z a,O Z b] 87);have F:=h.of_gr d;have HG:=aJ d;have HC:=aJ (js lX F hn);generalize fbn _=fb at HC |-;exact NW
theorem IV{v:PV}(hx:x.stack=s++[v])(a:A)(b:A)(h:MW C w ρ nm fbn cs ct (x::L) bs tk told)(F:D x.stack<=1000):
 Calls prog 91 #[.pointer (Y ⟨fbn (D L),0,G⟩),.agg #[O Z 4,O Z a,O Z b]] w (GV C w ρ nm fbn cs ct (x.st s::L) bs tk told):=by
 have d:=(Gr.refl w).alloc (X #[O Z 4,O Z a,O Z b] 87);have h1:=h.of_gr d;have HG:=aJ d;have HC:=aJ (jM h1 hx F);generalize fbn _=fb at HC |-;generalize gi _ _=p at HC;exact NW
theorem Tryz.sizVal:(Tryz.prog.info? 184).map (λx=>x.size)=Y 2:=Q7
theorem Tryz.fld1(n:A)(p:By Addr)(w:T):(Instr.field 184 (.agg #[O Z n,.pointer p]) 1).run Tryz.prog w=.ok (.pointer p) w:=Q7
theorem Tryz.fld0(n:A)(p:By Addr)(w:T):(Instr.field 184 (.agg #[O Z n,.pointer p]) 0).run Tryz.prog w=.ok (O Z n) w:=Q7
theorem Tryz.blkNil(w:T):(binOp .eql 182 (.pointer G) (.pointer G)).run Tryz.prog w=.ok (.bool AT) w:=Q7
theorem Tryz.blkNe(a:Addr)(w:T):(binOp .eql 182 (.pointer (Y a)) (.pointer G)).run Tryz.prog w=.ok (.bool AS) w:=Q7
theorem Tryz.blkIs(o:By R)(nm:R->R)(w:T):(binOp .eql 182 (.pointer (gi nm o)) (.pointer G)).run Tryz.prog w=.ok (.bool o.isNone) w:=by
 cases o with
 | none=>exact Tryz.blkNil w
 | some j=>exact Tryz.blkNe _ w
theorem SH{p:Prop}(h:p:=by rw[hx]at hn;simp at hn;omega):p:=h
theorem Ep{v:PV}(hx:x.stack=s++[v])(a:A)(b:A)(h:MW C w ρ nm fbn cs ct (x::L) bs tk told)(hn:D x.stack<=1000):
 Calls prog 91 #[.pointer (Y ⟨fbn (D L),0,G⟩),.agg #[O Z 19,O Z a,O Z b]] w (GV C w ρ nm fbn cs ct (x.st (s++[⟨fk v.blk.isNone,G⟩])::L) bs tk told):=by
 have g1:=(Gr.refl w).alloc (X #[O Z 19,O Z a,O Z b] 87);have h1:=h.of_gr g1;have HG:=aJ g1;have HC:=aJ (jM h1 hx hn);have hs:D s<=1000:=SH
 have ae:=Tryz.fld1;have ad:=λw=>Tryz.blkIs v.blk nm w
 have HP:U (∀(w2:T) (ρ':R->cV),MW C _ ρ' _ fbn _ _ (x.st s::L) _ tk told->Calls _ _ #[.pointer _,.agg #[.int _ (fk _),.pointer G]] _ λe w'=>e=.returned _/\zS C w2 _ nm _ cs ct (x.st (s++[⟨fk v.blk.isNone,G⟩])::L) bs _ _ _):=aJ λw2 ρ' F=>js _ F hs;generalize fbn _=fb at HC HP |-;go_enter func91,ntmps91
 go_wp2_with fail;refine HC.mono ?_;rintro e w2 ⟨rfl,ρ',F,hK⟩;have HR:=aJ (And.intro F ((bJ.of_gr HG).trans hK));go_wp2_with fail;refine(qU _ _).mono ?_;rintro e w3 ⟨rfl,Ta⟩;have Te:=aJ Ta;go_wp2_with fail;refine(HP _ _ (HR.1.of_gr Te)).mono ?_;rintro e w4 ⟨rfl,ρ2,F,hK⟩;have d:=aJ (And.intro F (HR.2.trans ((bJ.of_gr Te).trans hK)));go_wp2_with fail;go_end0
 exact⟨rfl,_,d.1,d.2⟩
theorem Rm{p:Prop}(h:p:=by rw[aP Ul];rfl):p:=h
theorem Gl{v:PV}(a:R)(ha:x.slots[a]? =Y v)(b:A)(h:MW C w ρ nm fbn cs ct (x::L) bs tk told)(hn:D x.stack<=1000):
 Calls prog 91 #[.pointer (Y ⟨fbn (D L),0,G⟩),.agg #[O Z 2,O Z (a:A),O Z b]] w (GV C w ρ nm fbn cs ct (x.st (x.stack++[v])::L) bs tk told):=by
 have g1:=(Gr.refl w).alloc (X #[O Z 2,O Z a,O Z b] 87);have S9:=jZ w (X #[O Z 2,O Z a,O Z b] 87);have h1:=h.of_gr g1;have HG:=aJ g1;have H1:=aJ h1;obtain⟨vc,vs,vk,f,ht⟩:=h1.frs.1;have ad:=(dm.1 ha).1;have Tn:=ht.sl;have Ul:=ht.box;obtain⟨g,cap,rfl⟩:∃g cap,vs=J _ _ cap:=by
  rcases Tn.2 with⟨_,e⟩|⟨g,cap,cur,e,_⟩
  · omega
  exact⟨g,_,e⟩
 have hr:=pR nm _ a v ha;have d0:=(Tn.cellAt _ Q5).trans hr.1;have d1:=(Tn.cellAt _ Q5).trans hr.2;have d:U (∀w',Gr _ w'->H w' ⟨_,2,_⟩=Y (J _ _ _)/\H w' ⟨_,1,_⟩=Y (.int _ a)/\H w' _=Y _/\H w' _=Y _):=aJ (λw' g=>⟨g.cell Rm Q6,g.cell (by rw[aP S9];rfl) Q6,g.cell d0 Q6,g.cell d1 Q6⟩);have F:U (∀w',Gr _ w'->Calls _ _ _ _ λe w2=>e=.returned (.tuple #[])/\zS C w' ρ nm fbn cs ct (x.st (x.stack++[v])::L) bs tk told w2):=aJ λw' g=>js v (H1.of_gr g) hn;have ae:(a:A)<D x.slots:=Q5;generalize fbn _=fb at F d |-;generalize (D x.slots)=n at d ae ad;generalize gi _ _=p at F d;generalize v.num=num at F d;go_enter func91,ntmps91
 go_wp2_with fail;generalize w.alloc _=W1 at F d HG |-;generalize w.heap.size=bi at d |-;refine eD 9 (S:=(λw'=>H w' _=Y _/\H w' _=Y _/\H w' _=Y _/\H w' _=Y _)) Q7 (d _ Gy) λhH=>?_;refine tY 0 ?_;refine tY 1 ?_;refine tY 2 ?_;refine tY 3 ?_;refine tY 4 ?_;refine tY 5 ?_;refine tY 6 ?_;refine tY 7 ?_;refine tY 8 ?_;refine eh (i:=9) rfl Q7 λK hK=>?_;refine am rfl _ _ _ rfl _ fZ (Tryz.callPush _ _) ((F _ Gy).mono ?_);rintro e w2 ⟨rfl,ρ',hM,af⟩;have HR:=aJ (And.intro hM ((bJ.of_gr HG).trans ((bJ.of_gr Gy).trans af)));refine .inl ⟨_,rfl,?_⟩;refine hK _ _ (λh=>absurd rfl h) λ_=>?_;try simp only[Act.put,sA,s0,s1]
 refine mf Q7 ?_ _;go_wp2_with fail;go_end0
 exact⟨rfl,_,HR.1,HR.2⟩
theorem Er{v:PV}(hx:x.stack=s++[v])(a:R)(ha:a<D x.slots)(b:A)(h:MW C w ρ nm fbn cs ct (x::L) bs tk told)(hn:D x.stack<=1000):
 Calls prog 91 #[.pointer (Y ⟨fbn (D L),0,G⟩),.agg #[O Z 3,O Z (a:A),O Z b]] w (GV C w ρ nm fbn cs ct (⟨x.fn,x.pos,x.slots.set a v,s⟩::L) bs tk told):=by
 have g1:=(Gr.refl w).alloc (X #[O Z 3,O Z a,O Z b] 87);have S9:=jZ w (X #[O Z 3,O Z a,O Z b] 87);have h1:=h.of_gr g1;have HG:=aJ g1;have HC:=aJ (jM h1 hx hn);have ai:=aJ S9;have ak:=h.new_no lj;have al:=aJ ak;have av:(a:A)<D x.slots:=Q5;have HL:U (w.heap.size<(w.alloc (X #[O Z 3,O Z a,O Z b] 87)).heap.size):=aJ Q6;go_enter func91,ntmps91
 go_wp2_with fail;refine HC.mono ?_;rintro e w2 ⟨rfl,ρ',hM,hK⟩;have HR:=aJ (And.intro hM ((bJ.of_gr HG).trans hK));have F:=aJ ((hK.keep _ HL al).trans ai);generalize w.alloc _=W1;generalize w.heap.size=bi at F |-;go_wp2_with fail;have g3:=(Gr.refl w2).alloc (X #[O Z v.num,.pointer (gi nm v.blk)] 184);have af:=jZ w2 (X #[O Z v.num,.pointer (gi nm v.blk)] 184);have TR:=HR.1.of_gr g3;obtain⟨vc,vs,vk,f,ht⟩:=TR.frs.1;have Tn:=ht.sl;have Ul:=ht.box;have ay:=ht.rsl;obtain⟨g,cap,rfl⟩:∃g cap,vs=J _ (D x.slots) cap:=by
  rcases Tn.2 with⟨_,e⟩|⟨g,cap,cur,e,_⟩
  · have e:D x.slots=0:=e;omega
  exact⟨g,_,e⟩
 obtain⟨cur,ad,az⟩:∃cur,(w2.alloc _).heap[g]? =Y (X cur _ _)/\a*2+1<cur.size:=by
  rcases Tn.2 with⟨e,_⟩|⟨g',Un,cur,e,_,e2,e3,_,e5,_⟩
  · cases e
  cases e
  have e3:D x.slots<=cap:=e3;exact⟨_,e2,Q5⟩
 have d:U (∀w',Gr _ w'->H w' ⟨_,2,_⟩=Y (J _ _ _)/\H w' ⟨_,1,_⟩=Y (.int _ a)/\H w' ⟨_,0,_⟩=Y (.int _ _)/\H w' ⟨_,1,_⟩=Y (.pointer _)):=aJ (λw' g=>⟨g.cell Rm Q6,(g3.trans g).cell (by rw[aP F];rfl) Q6,g.cell (by rw[aP af];rfl) Q6,g.cell (by rw[aP af];rfl) Q6⟩);have HZ:U (∀w',Gr _ w'->MW C _ _ _ _ _ _ (⟨x.fn,x.pos,x.slots.set a v,s⟩::L) _ _ _/\bJ w _ _ _):=aJ (λw' gg=>by
  have ax:=TR.of_gr gg;have Tj:ku (λr=>r≠.no) _ _ _ ρ':=λb hb _=>⟨gg.block b hb Q6,rfl⟩
  have hz:=ax.setSlot (a:=a) v (ht.mv Tj nofun nofun nofun) rfl;exact⟨hz.1,HR.2.trans ((bJ.of_gr (g3.trans gg)).trans hz.2)⟩)
 have Ta:∀w',Gr _ w'->w'.heap[g]? =Y _:=λw' gg=>(gg.block g (eJ.1 ad).1 Q6).trans ad
 have HH:=aJ Ta;generalize fbn _=fb at d |-;generalize (D x.slots)=n at d av ha;generalize gi _ _=p at d HZ HH |-;generalize v.num=num at d HZ HH |-;generalize w2.alloc _=W2 at d HZ HH |-;generalize w2.heap.size=bv at d |-;refine eD 8 (S:=(λw'=>H w' _=Y _/\H w' _=Y _/\H w' _=Y _/\H w' _=Y _)) Q7 (d _ Gy) λhH=>?_;refine tY 0 ?_;refine tY 1 ?_;refine tY 2 ?_;refine tY 3 ?_;refine tY 4 ?_;refine tY 5 ?_;refine tY 6 ?_;refine tY 7 ?_;refine eh (i:=8) rfl Q7 λK hK=>?_;have f0:=HH _ G0;have m0:=aP (o:=a*2) f0;have m1:=aP (o:=a*2+1) f0;have z0:=aq (o:=a*2) f0;have z1:=aq (o:=a*2+1) f0;rw[Ly Q5]at m0 m1;have HK:=aJ hK;refine aW bZ ?_;go_simp
 have hK:=HK.j;refine hK _ _ (λh=>absurd rfl h) λ_=>?_;try simp only[Act.put,sA,s0,s1]
 refine mf Q7 ?_ _;have ae:=aJ (And.intro ((HZ _ G0).1.of_gr Gy) ((HZ _ G0).2.trans (bJ.of_gr Gy)));go_wp2_with fail;go_end0
 exact⟨rfl,_,ae.1,ae.2⟩
theorem Hz{v:PV}(hx:x.stack=s++[v])(a:A)(b:A)(h:MW C w ρ nm fbn cs ct (x::L) bs tk told)(hn:D x.stack<=1000):
 Calls prog 91 #[.pointer (Y ⟨fbn (D L),0,G⟩),.agg #[O Z 5,O Z a,O Z b]] w (GV C w ρ nm fbn cs ct (x.st (x.stack++[v])::L) bs tk told):=by
 have g1:=(Gr.refl w).alloc (X #[O Z 5,O Z a,O Z b] 87);have h1:=h.of_gr g1;have HG:=aJ g1;have H1:=aJ h1;obtain⟨vc,vs,vk,f,ht⟩:=h1.frs.1;have Tn:=ht.st;have Ul:=ht.box;rw[hx,fe]at Tn;obtain⟨g,cap,rfl⟩:∃g cap,vk=J _ (D s+1) cap:=by
  rcases Tn.2 with⟨_,e⟩|⟨g,cap,cur,e,_⟩
  · simp at e
  exact⟨g,_,e⟩
 have hr:=pR nm (s++[v]) (D s) v Q6;have d0:=(Tn.cellAt _ (by show D s*2<(D s+1)*2;omega)).trans hr.1;have d1:=(Tn.cellAt _ (by show D s*2+1<(D s+1)*2;omega)).trans hr.2;have d:U (∀w',Gr _ w'->H w' ⟨_,3,_⟩=Y (J _ _ _)/\H w' _=Y _/\H w' _=Y _):=aJ λw' g=>⟨g.cell Rm Q6,g.cell d0 Q6,g.cell d1 Q6⟩;have HC:U (∀w',Gr _ _->Calls _ _ _ w' λe w2=>e=.returned (.tuple #[])/\zS C w' ρ nm fbn cs ct (x.st (x.stack++[v])::L) bs tk told w2):=aJ λw' g=>js v (H1.of_gr g) hn;have hl:D s<=1000:=SH
 have ai:Z.wrap (((D s+1:R):A)-1)=D s:=Qq
 have ak:Z.wrap (D s+1-1)=D s:=Qq
 have af:Z.wrap _=D s:=Q_;generalize fbn _=fb at HC d |-;generalize (D s)=n at d hl ai ak af;have av:(n:A)<n+1:=Q5;generalize gi _ _=p at HC d;generalize v.num=num at HC d;go_enter func91,ntmps91
 go_wp2_with fail;generalize w.alloc _=F at HC d HG |-;refine xE (S:=(λw'=>H w' _=Y _/\H w' _=Y _/\H w' _=Y _)) Q7 (d _ Gy) λhH=>?_;refine tL 0 ?_;refine tL 1 ?_;refine tL 2 ?_;refine tL 3 ?_;refine tL 4 ?_;refine tL 5 ?_;refine tL 6 ?_;refine tL 7 ?_;refine tL 8 ?_;refine tL 9 ?_;refine tL 10 ?_;refine tL 11 ?_;refine bQ (i:=12) rfl Q7 λK hK=>?_;have HK:=aJ hK;refine aW bZ ?_;go_simp
 have hK:=HK.j;refine hK _ _ (d _ (Gr.drew G5)) λhH=>?_;try simp only[Act.put,sA,s0,s1]
 refine bQ (i:=13) rfl Q7 λK hK=>?_;have ad:(F.alloc (X #[O Z 0,.pointer G] 184)).drew.setRow F.drew.heap.size #[O Z num,.pointer p]=(F.alloc (X #[O Z num,.pointer p] 184)).drew:=by
  show((F.alloc (X #[O Z 0,.pointer G] 184)).setRow F.heap.size #[O Z num,.pointer p]).drew=_
  rw[World.setRow_alloc_new]
 refine aW bZ (Lc (P:=prog) 184 _ _ rfl F.drew.heap.size #[O Z num,.pointer p] bZ fZ 184 _ (jZ F _) Tryz.sizVal rfl Qr ?_);rw[ad];refine hK _ _ (d _ (Gr.drew G5)) λhH=>?_;try simp only[Act.put,sA,s0,s1]
 refine Ev Q7 ?_ _;have g3:Gr _ ((F.alloc (X #[O Z num,.pointer p] 184)).drew):=Gr.drew G5;have ae:((F.alloc (X #[O Z num,.pointer p] 184)).drew).heap[F.heap.size]? =Y _:=jZ _ _;have Te:=aJ g3;have c0:H ((F.alloc (X #[O Z num,.pointer p] 184)).drew) (Q F.heap.size 0 G)=Y (O Z num):=by rw[aP ae];rfl
 have c1:H ((F.alloc (X #[O Z num,.pointer p] 184)).drew) (Q F.heap.size 1 G)=Y (.pointer p):=by rw[aP ae];rfl
 generalize (F.alloc _).drew=W3 at Te c0 c1 |-;go_wp2_with fail;refine(HC _ Te).mono ?_;rintro e w2 ⟨rfl,ρ',hM,al⟩;have HR:=aJ (And.intro hM ((bJ.of_gr (HG.trans Te)).trans al));go_wp2_with fail;go_end0
 exact⟨rfl,_,HR.1,HR.2⟩
theorem Sl{p:Prop}(h:p:=by show D (s++[v])<=1000;simp;omega):p:=h
theorem SN{p:Prop}(h:p:=by rw[hx]at hn;simpa using hn):p:=h
theorem Gf{v:PV}(hx:x.stack=s++[v,v'])(op a b:A)(hop:6<=op/\op<=10)(h:MW C w ρ nm fbn cs ct (x::L) bs tk told)(hn:D x.stack<=1000):
 Calls prog 91 #[.pointer (Y ⟨fbn (D L),0,G⟩),.agg #[O Z op,O Z a,O Z b]] w (GV C w ρ nm fbn cs ct (x.st (s++[⟨jT op v.num v'.num,G⟩])::L) bs tk told):=by
 have g1:=(Gr.refl w).alloc (X #[O Z op,O Z a,O Z b] 87);have S9:=jZ w (X #[O Z op,O Z a,O Z b] 87);have h1:=h.of_gr g1;have HG:=aJ g1;have ae:=aJ (h.new_no lj);have af:=aJ S9;have HL:U (w.heap.size<(w.alloc (X #[O Z op,O Z a,O Z b] 87)).heap.size):=aJ Q6;have hl:D s+2<=1000:=SN
 have HC:=aJ (jM (s:=s++[v]) (v:=v') h1 (by rw[hx];simp) hn);have Tr:U (∀(w2:T) (ρ':R->cV),MW C w2 _ _ _ cs _ _ bs _ told->Calls _ _ _ _ λe w'=>e=.returned _/\zS C _ ρ' nm fbn _ ct (x.st s::L) _ tk _ _):=aJ λw2 ρ' d=>jM (x:=x.st (s++[v])) d rfl Sl;have HP:U (∀(w2:T) (ρ':R->cV),MW C _ _ nm _ cs _ (x.st s::L) bs tk _->Calls _ _ #[.pointer _,.agg #[.int _ (jT _ _ _),.pointer G]] _ λe w'=>e=.returned _/\zS C w2 ρ' _ fbn _ ct (x.st (s++[⟨jT op v.num v'.num,G⟩])::L) _ _ told _):=aJ (λw2 ρ' d=>js _ d (by show D s<=1000;omega));have ax:=Tryz.fld0;have n1:¬op=1:=Q5;have n2:¬op=2:=Q5;have n3:¬op=3:=Q5;have n4:¬op=4:=Q5;have n5:¬op=5:=Q5;have al:¬op=18:=Q5;have av:¬op=19:=Q5;generalize fbn _=fb at HC Tr HP |-;generalize gi _ _=p at Tr;generalize gi _ _=p' at HC;go_enter func91,ntmps91
 go_wp2_with fail;refine HC.mono ?_;rintro e w2 ⟨rfl,ρ',d,hK⟩;have HR:=aJ (And.intro d ((bJ.of_gr HG).trans hK));have UO:=aJ ((hK.keep _ HL ae).trans af);have Vt:=aJ ((hK.role _ HL).trans ae);have ak:=aJ (tu HL hK.size);go_wp2_with fail;refine(Tr _ _ HR.1).mono ?_;rintro e w3 ⟨rfl,ρ3,d,hK⟩;have ad:=aJ (And.intro d (HR.2.trans hK));have UY:=aJ ((hK.keep _ ak Vt).trans UO);have k0:H w3 (Q w.heap.size 0 G)=Y (O Z op):=by rw[aP UY];rfl
 generalize w.heap.size=bi at k0 |-;go_wp2_with fail;refine(xA _ _ _ _).mono ?_;rintro e w4 ⟨rfl,ai⟩;have Tg:=aJ ai;go_wp2_with fail;refine(HP _ _ (ad.1.of_gr Tg)).mono ?_;rintro e w5 ⟨rfl,ρ5,d,hK⟩;have F:=aJ (And.intro d (ad.2.trans ((bJ.of_gr Tg).trans hK)));go_wp2_with fail;go_end0
 exact⟨rfl,_,F.1,F.2⟩
end
def JZ(C:MC)(w:T)(ρ:R->cV)(nm fbn:R->R)(cs:R->A)(ct:A)(L:I eZ)(bs:I (I PV))(tk:R)(told:I A)(r:Bool)(e:Ending)(w':T):Prop:=e=.returned (.bool r)/\zS C w ρ nm fbn cs ct L bs tk told w'
section
variable {C:MC} {w w':T} {ρ:R->cV} {nm fbn:R->R} {cs:R->A} {ct:A} {L:I eZ} {bs:I (I PV)} {tk:R} {told:I A}
theorem Rr{p:Prop}(h:p:=by rw[hv];rfl):p:=h
theorem wv{v:PV}(b:A)(hx:x.stack=s++[v])(hv:v.blk=G)(a:A)(h:MW C w ρ nm fbn cs ct (x::L) bs tk told)(hn:D x.stack<=1000):
 Calls prog 89 #[.pointer (Y ⟨fbn (D L),0,G⟩),.agg #[O Z 16,O Z a,O Z b]] w (JZ C w ρ nm fbn cs ct (x.st s::L) bs tk told AS):=by
 have g1:=((Gr.refl w).alloc (X #[O Z 16,O Z a,O Z b] 87)).alloc (X #[O Z 0,.pointer G] 184);have Uh:(w.alloc (X #[O Z 16,O Z a,O Z b] 87)).heap.size=w.heap.size+1:=Q6;have TI:=(((G0).alloc (X #[O Z 0,.pointer G] 184)).block _ Q6 Q6).trans (jZ w (X #[O Z 16,O Z a,O Z b] 87));have S9:=jZ (w.alloc (X #[O Z 16,O Z a,O Z b] 87)) (X #[O Z 0,.pointer G] 184);rw[Uh]at S9;have h1:=h.of_gr g1;have HG:=aJ g1;have F:=jM h1 hx hn;have e0:gi nm v.blk=G:=Rr
 rw[e0]at F;have HC:=aJ F;have ad:=Tryz.blkNil;have ae:=Tryz.fld1;generalize fbn _=fb at HC |-;go_enter func89,ntmps89
 go_wp2_with fail;refine HC.mono ?_;rintro e w2 ⟨rfl,ρ',hM,hK⟩;have d:=aJ (And.intro hM ((bJ.of_gr HG).trans hK));go_wp2_with fail;go_ret
 exact⟨rfl,_,d.1,d.2⟩
theorem PZ{p:Prop}(h:p:=by
 rcases U9.2 with⟨_,e⟩|⟨g,cap,cur,e,_⟩
 · omega
 exact⟨g,_,e⟩):p:=h
theorem Ek{v fv:PV}{j:R}(hx:x.stack=s++[v])(hv:v.blk=Y j)(hj:bs[j]? =Y fs)(hb:fs[b]? =Y fv)(a:A)(h:MW C w ρ nm fbn cs ct (x::L) bs tk told)(hn:D x.stack<=1000):
 Calls prog 89 #[.pointer (Y ⟨fbn (D L),0,G⟩),.agg #[O Z 16,O Z a,O Z (b:A)]] w (JZ C w ρ nm fbn cs ct (x.st (s++[fv])::L) bs tk told AT):=by
 have g1:=((Gr.refl w).alloc (X #[O Z 16,O Z a,O Z b] 87)).alloc (X #[O Z 0,.pointer G] 184);have Uh:(w.alloc (X #[O Z 16,O Z a,O Z b] 87)).heap.size=w.heap.size+1:=Q6;have TI:=(((G0).alloc (X #[O Z 0,.pointer G] 184)).block _ Q6 Q6).trans (jZ w (X #[O Z 16,O Z a,O Z b] 87));have S9:=jZ (w.alloc (X #[O Z 16,O Z a,O Z b] 87)) (X #[O Z 0,.pointer G] 184);rw[Uh]at S9;have h1:=h.of_gr g1;have HG:=aJ g1;have ai:=aJ TI;have af:=aJ (h.new_no lj);have ad:U (w.heap.size<((w.alloc (X #[O Z 16,O Z a,O Z b] 87)).alloc (X #[O Z 0,.pointer G] 184)).heap.size):=aJ jB;have hc:=jM h1 hx hn;have e0:gi nm v.blk=Y ⟨nm j,0,G⟩:=Rr
 rw[e0]at hc;have HC:=aJ hc;have TQ:=(dm.1 hb).1;have ae:(b:A)<D fs:=Q5;have av:=Tryz.fld1;have No:=λw=>Tryz.blkNe ⟨nm j,0,G⟩ w
 have hl:D s<=1000:=SH
 go_enter func89,ntmps89
 go_wp2_with fail;refine HC.mono ?_;rintro e w2 ⟨rfl,ρ',hM,hK⟩;have HR:=aJ (And.intro hM ((bJ.of_gr HG).trans hK));have HE:=aJ ((hK.keep _ ad af).trans ai);obtain⟨⟨vf,hB⟩,_⟩:=HR.1.blks j _ hj;have U9:=hB.fl;have Ul:=hB.box;have al:=hB.rf;obtain⟨g,cap,rfl⟩:∃g cap,vf=J _ _ cap:=by
  exact PZ
 have hr:=pR nm _ b _ hb;have d0:=(U9.cellAt _ Q5).trans hr.1;have d1:=(U9.cellAt _ Q5).trans hr.2;have k0:H w2 (Q w.heap.size 0 G)=Y (O Z 16):=by rw[aP HE];rfl
 have d:U (∀w',Gr _ w'->H w' ⟨_,0,_⟩=Y (J _ _ _)/\H w' ⟨_,2,_⟩=Y (.int _ _)/\H w' _=Y _/\H w' _=Y _):=aJ (λw' gg=>⟨gg.cell Rm Q6,gg.cell (by rw[aP HE];rfl) Q6,gg.cell d0 Q6,gg.cell d1 Q6⟩);have HP:U (∀w',Gr _ w'->Calls _ _ _ _ λe w3=>e=.returned _/\zS C _ _ _ _ _ _ (x.st (s++[fv])::L) _ _ _ _):=aJ λw' g=>js _ (HR.1.of_gr g) hl;generalize ((w.alloc _).alloc _)=W1;generalize fbn _=fb at HP |-;generalize (D fs)=n at d ae TQ;generalize gi _ _=p at HP d;generalize fv.num=num at HP d;generalize nm j=bj at d No |-;generalize w.heap.size=bi at d k0 |-;go_wp2_with fail;refine eD 9 (S:=(λw'=>H w' _=Y _/\H w' _=Y _/\H w' _=Y _/\H w' _=Y _)) Q7 (d _ Gy) λhH=>?_;refine tY 0 ?_;refine tY 1 ?_;refine tY 2 ?_;refine tY 3 ?_;refine tY 4 ?_;refine tY 5 ?_;refine tY 6 ?_;refine tY 7 ?_;refine tY 8 ?_;refine eh (i:=9) rfl Q7 λK hK=>?_;refine am rfl _ _ _ rfl _ fZ (Tryz.callPush _ _) ((HP _ Gy).mono ?_);rintro e w3 ⟨rfl,ρ3,hM,ak⟩;have F:=aJ (And.intro hM (HR.2.trans ((bJ.of_gr Gy).trans ak)));refine .inl ⟨_,rfl,?_⟩;refine hK _ _ (λh=>absurd rfl h) λ_=>?_;try simp only[Act.put,sA,s0,s1]
 refine mf Q7 ?_ _;go_wp2_with fail;go_ret
 exact⟨rfl,_,F.1,F.2⟩
theorem wP{v:PV}(b:A)(hx:x.stack=s++[v,v'])(hv:v.blk=G)(a:A)(h:MW C w ρ nm fbn cs ct (x::L) bs tk told)(hn:D x.stack<=1000):
 Calls prog 89 #[.pointer (Y ⟨fbn (D L),0,G⟩),.agg #[O Z 17,O Z a,O Z b]] w (JZ C w ρ nm fbn cs ct (x.st s::L) bs tk told AS):=by
 have g1:=((Gr.refl w).alloc (X #[O Z 17,O Z a,O Z b] 87)).alloc (X #[O Z 0,.pointer G] 184);have Uh:(w.alloc (X #[O Z 17,O Z a,O Z b] 87)).heap.size=w.heap.size+1:=Q6;have TI:=(((G0).alloc (X #[O Z 0,.pointer G] 184)).block _ Q6 Q6).trans (jZ w (X #[O Z 17,O Z a,O Z b] 87));have S9:=jZ (w.alloc (X #[O Z 17,O Z a,O Z b] 87)) (X #[O Z 0,.pointer G] 184);rw[Uh]at S9;have h1:=h.of_gr g1;have HG:=aJ g1;have az:=aJ TI;have ak:=aJ S9;have ai:=aJ (h.new_no lj);have ae:=aJ (h.new_no (Ll _));have ad:U (w.heap.size<((w.alloc (X #[O Z 17,O Z a,O Z b] 87)).alloc (X #[O Z 0,.pointer G] 184)).heap.size):=aJ jB;have UD:U (w.heap.size+1<((w.alloc (X #[O Z 17,O Z a,O Z b] 87)).alloc (X #[O Z 0,.pointer G] 184)).heap.size):=aJ Q6;have hl:D s+2<=1000:=SN
 have HC:=aJ (jM (s:=s++[v]) (v:=v') h1 (by rw[hx];simp) hn);have HV:=aJ h.gr.size;have Tr:U (∀(w2:T) (ρ':R->cV),MW C _ ρ' _ _ _ ct (x.st _::L) _ _ _->Calls _ _ _ w2 λe w'=>e=.returned _/\zS C _ _ _ fbn cs _ (x.st s::L) bs tk told _):=aJ (λw2 ρ' hM=>by
  have hc:=jM hM rfl Sl;have e0:gi nm v.blk=G:=Rr
  rw[e0]at hc;exact hc)
 have aA:=Tryz.blkNil;have aC:=Tryz.fld1;generalize fbn _=fb at HC Tr |-;go_enter func89,ntmps89
 go_wp2_with fail;refine HC.mono ?_;rintro e w2 ⟨rfl,ρ',hM,hK⟩;have HR:=aJ (And.intro hM ((bJ.of_gr HG).trans hK));have ay:=aJ ((hK.keep _ ad ai).trans az);have UA:=aJ ((hK.keep _ UD ae).trans ak);have aB:=aJ ((hK.role _ ad).trans ai);have ax:=aJ ((hK.role _ UD).trans ae);have UK:=aJ (tu UD hK.size);generalize (w.alloc _).alloc _=W1;have q0:H w2 ⟨w.heap.size+1,0,G⟩=Y (O Z 0):=by rw[aP UA];rfl
 have q1:H w2 ⟨w.heap.size+1,1,G⟩=Y (.pointer G):=by rw[aP UA];rfl
 have y0:w2.frozen? ⟨_,0,_⟩=AS:=aq UA;have y1:w2.frozen? ⟨_,1,_⟩=AS:=aq UA;go_upto_region 4 with fail
 have d:∀b,¬b=w.heap.size+1->((w2.setCell (Q _ 0 G) (O Z v'.num)).setCell (Q _ 1 G) (.pointer (gi nm v'.blk))).heap[b]? =w2.heap[b]? :=λb hb=>(dp _ _ _ _ hb).trans (dp _ _ _ _ hb)
 have TR:MW C ((w2.setCell _ _).setCell _ _) _ _ _ _ _ _ _ _ _:=HR.1.other rfl rfl rfl Q6 (λb hb hr=>d b (λe=>by
  subst e;rcases hr with hr|hr
  · exact hr ax
  have:=HV.j;omega))
 have TX:bJ w ((w2.setCell _ _).setCell _ _) _ _:=⟨HR.2.os,HR.2.tape,HR.2.output,by have:=HR.2.size;simpa using this,HR.2.role,λb hb e=>(d b Q5).trans (HR.2.keep b hb e)⟩;have F:=aJ (And.intro TR TX);have UY:=aJ ((d _ Q5).trans ay);have al:=aJ ((wS _ _ 1 _ _ (.pointer (gi nm v'.blk)) (wS _ _ 0 _ _ (O Z v'.num) UA)).trans (by simp:_=Y (X #[O Z v'.num,.pointer (gi nm v'.blk)] 184 (0,0))));have av:U (w.heap.size+1<((w2.setCell ⟨w.heap.size+1,0,G⟩ (O Z v'.num)).setCell ⟨w.heap.size+1,1,G⟩ (.pointer (gi nm v'.blk))).heap.size):=aJ (by have:=UK.j;simpa using this);generalize ((w2.setCell _ _).setCell _ _)=W3 at F UY al av |-;go_wp2_with fail;refine(Tr _ _ F.1).mono ?_;rintro e w4 ⟨rfl,ρ4,hM,hK⟩;have af:=aJ (And.intro hM (F.2.trans hK));go_wp2_with fail;go_ret
 exact⟨rfl,_,af.1,af.2⟩
theorem Dp{v:PV}{j:R}(hx:x.stack=s++[v,v'])(hv:v.blk=Y j)(hj:bs[j]? =Y fs)(hb:b<D fs)(a:A)(h:MW C w ρ nm fbn cs ct (x::L) bs tk told)(hn:D x.stack<=1000):
 Calls prog 89 #[.pointer (Y ⟨fbn (D L),0,G⟩),.agg #[O Z 17,O Z a,O Z (b:A)]] w (JZ C w ρ nm fbn cs ct (x.st s::L) (bs.set j (fs.set b v')) tk told AT):=by
 have g1:=((Gr.refl w).alloc (X #[O Z 17,O Z a,O Z b] 87)).alloc (X #[O Z 0,.pointer G] 184);have Uh:(w.alloc (X #[O Z 17,O Z a,O Z b] 87)).heap.size=w.heap.size+1:=Q6;have TI:=(((G0).alloc (X #[O Z 0,.pointer G] 184)).block _ Q6 Q6).trans (jZ w (X #[O Z 17,O Z a,O Z b] 87));have S9:=jZ (w.alloc (X #[O Z 17,O Z a,O Z b] 87)) (X #[O Z 0,.pointer G] 184);rw[Uh]at S9;have h1:=h.of_gr g1;have HG:=aJ g1;have aG:=aJ TI;have aC:=aJ S9;have al:=aJ (h.new_no lj);have ai:=aJ (h.new_no (Ll _));have av:U (w.heap.size<((w.alloc (X #[O Z 17,O Z a,O Z b] 87)).alloc (X #[O Z 0,.pointer G] 184)).heap.size):=aJ jB;have UD:U (w.heap.size+1<((w.alloc (X #[O Z 17,O Z a,O Z b] 87)).alloc (X #[O Z 0,.pointer G] 184)).heap.size):=aJ Q6;have hl:D s+2<=1000:=SN
 have HC:=aJ (jM (s:=s++[v]) (v:=v') h1 (by rw[hx];simp) hn);have HV:=aJ h.gr.size;have Tr:U (∀(w2:T) (ρ':R->cV),MW C w2 _ _ _ _ ct (x.st _::L) bs tk _->Calls _ _ _ _ λe w'=>e=.returned _/\zS C _ ρ' _ fbn cs _ (x.st s::L) _ _ told _):=aJ (λw2 ρ' hM=>by
  have hc:=jM hM rfl Sl;have e0:gi nm v.blk=Y ⟨nm j,0,G⟩:=Rr
  rw[e0]at hc;exact hc)
 have aE:(b:A)<D fs:=Q5;have aM:=Tryz.fld1;have No:=λw=>Tryz.blkNe ⟨nm j,0,G⟩ w
 generalize aI:fbn _=fb at HC Tr |-;go_enter func89,ntmps89
 go_wp2_with fail;refine HC.mono ?_;rintro e w2 ⟨rfl,ρ',hM,hK⟩;have HR:=aJ (And.intro hM ((bJ.of_gr HG).trans hK));have aF:=aJ ((hK.keep _ av al).trans aG);have UA:=aJ ((hK.keep _ UD ai).trans aC);have aD:=aJ ((hK.role _ av).trans al);have aA:=aJ ((hK.role _ UD).trans ai);have UK:=aJ (tu UD hK.size);generalize (w.alloc _).alloc _=W1;have q0:H w2 ⟨w.heap.size+1,0,G⟩=Y (O Z 0):=by rw[aP UA];rfl
 have q1:H w2 ⟨w.heap.size+1,1,G⟩=Y (.pointer G):=by rw[aP UA];rfl
 have y0:w2.frozen? ⟨_,0,_⟩=AS:=aq UA;have y1:w2.frozen? ⟨_,1,_⟩=AS:=aq UA;go_upto_region 4 with fail
 have F:∀b,¬b=w.heap.size+1->((w2.setCell (Q _ 0 G) (O Z v'.num)).setCell (Q _ 1 G) (.pointer (gi nm v'.blk))).heap[b]? =w2.heap[b]? :=λb hb=>(dp _ _ _ _ hb).trans (dp _ _ _ _ hb)
 have TR:MW C ((w2.setCell _ _).setCell _ _) _ _ _ _ _ _ _ _ _:=HR.1.other rfl rfl rfl Q6 (λb hb hr=>F b (λe=>by
  subst e;rcases hr with hr|hr
  · exact hr aA
  have:=HV.j;omega))
 have TX:bJ w ((w2.setCell _ _).setCell _ _) _ _:=⟨HR.2.os,HR.2.tape,HR.2.output,by have:=HR.2.size;simpa using this,HR.2.role,λb hb e=>(F b Q5).trans (HR.2.keep b hb e)⟩;have ad:=aJ (And.intro TR TX);have UY:=aJ ((F _ Q5).trans aF);have ak:=aJ ((wS _ _ 1 _ _ (.pointer (gi nm v'.blk)) (wS _ _ 0 _ _ (O Z v'.num) UA)).trans (by simp:_=Y (X #[O Z v'.num,.pointer (gi nm v'.blk)] 184 (0,0))));have af:U (w.heap.size+1<((w2.setCell ⟨w.heap.size+1,0,G⟩ (O Z v'.num)).setCell ⟨w.heap.size+1,1,G⟩ (.pointer (gi nm v'.blk))).heap.size):=aJ (by have:=UK.j;simpa using this);generalize ((w2.setCell _ _).setCell _ _)=W3 at ad UY ak af |-;go_wp2_with fail;refine(Tr _ _ ad.1).mono ?_;rintro e w4 ⟨rfl,ρ4,hM,hK⟩;have ae:=aJ (And.intro hM (ad.2.trans hK));have aB:=aJ ((hK.keep _ (Nat.lt_of_succ_lt af) aD).trans UY);have az:=aJ ((hK.keep _ af aA).trans ak);obtain⟨⟨vf,hB⟩,_⟩:=ae.1.blks j _ hj;have U9:=hB.fl;have Ul:=hB.box;have aH:=hB.rf;obtain⟨g,cap,rfl⟩:∃g cap,vf=J _ _ cap:=by
  exact PZ
 obtain⟨cur,ax,aL⟩:∃cur,w4.heap[g]? =Y (X cur _ _)/\b*2+1<cur.size:=by
  rcases U9.2 with⟨e,_⟩|⟨g',Un,cur,e,_,e2,e3,_,e5,_⟩
  · cases e
  cases e
  exact⟨_,e2,Q5⟩
 have k0:H w4 (Q w.heap.size 0 G)=Y (O Z 17):=by rw[aP aB];rfl
 have d:U (∀w',Gr _ w'->H w' ⟨_,0,_⟩=Y (J _ _ _)/\H w' ⟨_,2,_⟩=Y (.int _ b)/\H w' ⟨_,0,_⟩=Y (.int _ _)/\H w' ⟨_,1,_⟩=Y (.pointer _)):=aJ (λw' gg=>⟨gg.cell Rm Q6,gg.cell (by rw[aP aB];rfl) Q6,gg.cell (by rw[aP az];rfl) Q6,gg.cell (by rw[aP az];rfl) Q6⟩);have HZ:U (∀w',Gr _ w'->MW C _ _ _ _ _ _ _ _ _ _/\bJ w _ _ _):=aJ (λw' gg=>by
  have Tj:ku (λr=>r≠.no) _ _ ρ4 _:=λb hb _=>⟨gg.block b hb Q6,rfl⟩
  have hz:=(ae.1.of_gr gg).setField (a:=b) v' hj (hB.mv Tj nofun nofun);exact⟨hz.1,ae.2.trans ((bJ.of_gr gg).trans hz.2)⟩)
 have HH:U (∀w',Gr _ w'->w'.heap[g]? =Y _):=aJ λw' gg=>(gg.block g (eJ.1 ax).1 Q6).trans ax;generalize (D fs)=n at d aE hb;generalize gi _ _=p at d HZ HH |-;generalize v'.num=num at d HZ HH |-;generalize nm j=bj at d No |-;generalize w.heap.size+1=bv at d |-;generalize w.heap.size=bi at d k0 |-;go_wp2_with fail;refine eD 8 (S:=(λw'=>H w' _=Y _/\H w' _=Y _/\H w' _=Y _/\H w' _=Y _)) Q7 (d _ Gy) λhH=>?_;refine tY 0 ?_;refine tY 1 ?_;refine tY 2 ?_;refine tY 3 ?_;refine tY 4 ?_;refine tY 5 ?_;refine tY 6 ?_;refine tY 7 ?_;refine eh (i:=8) rfl Q7 λK hK=>?_;have f0:=HH _ G0;have m0:=aP (o:=b*2) f0;have m1:=aP (o:=b*2+1) f0;have z0:=aq (o:=b*2) f0;have z1:=aq (o:=b*2+1) f0;rw[Ly Q5]at m0 m1;have HK:=aJ hK;refine aW bZ ?_;go_simp
 have hK:=HK.j;refine hK _ _ (λh=>absurd rfl h) λ_=>?_;try simp only[Act.put,sA,s0,s1]
 refine mf Q7 ?_ _;have ay:=aJ (And.intro ((HZ _ G0).1.of_gr Gy) ((HZ _ G0).2.trans (bJ.of_gr Gy)));go_wp2_with fail;go_ret
 exact⟨rfl,_,ay.1,ay.2⟩
end
theorem Tryz.callWords(vals:Array M)(w:T):(callFunc 135 vals).run Tryz.prog w=.ok (.enter 135 vals) w:=Q7
section
variable {C:MC} {w w':T} {ρ:R->cV} {nm fbn:R->R} {cs:R->A} {ct:A} {L:I eZ} {bs:I (I PV)} {tk:R} {told:I A}
theorem qL.names{F:R->R}(e:∀j,j<n->F j=nm j):∀{L:I eZ},qL C w ρ nm fbn L->(∀x∈L,Bd n x.slots/\Bd n x.stack)->qL C w ρ F fbn L
 | [],_,_=>trivial
 | x::l,h,hb=>by
  obtain⟨vc,vs,vk,f,d⟩:=h.1;have hx:=hb x J9;refine⟨⟨_,_,_,f,⟨d.func,d.code,d.box,?_,?_,d.rb,d.rsl,d.rst⟩⟩,qL.names e h.2 λy hy=>hb y (Jw _ hy)⟩
  · rw[lG e _ hx.1];exact d.sl
  rw[lG e _ hx.2];exact d.st
theorem MW.addBlk{w0:T}{v:M}(h:MW C w ρ nm fbn cs ct L bs tk told)(h0:bJ w0 w ρ0 ρ)(hV:C.V.heap.size<=w0.heap.size)(hv:w.ownsRow w0.heap.size 184 2 v (D fs) (gT nm fs))(hρ:∀k,v.ownBlock=Y k->ρ k=.no)(al:0<=ct)(bL:∀x∈L,Bd (D bs) x.slots/\Bd (D bs) x.stack)(bB:∀r∈bs,Bd (D bs) r)(bF:Bd (D bs) fs):
 ∃ρ' ad F,ad (D bs)=w.heap.size/\MW C (w.alloc (X #[v,O Z 0] 247)) ρ' ad fbn F ct L (bs++[fs]) tk told/\bJ w0 (w.alloc (X #[v,O Z 0] 247)) ρ0 ρ':=by
 let ρ':R->cV:=λb=>if b=w.heap.size then .bb (D bs) else if v.ownBlock=Y b then .bf (D bs) else ρ b
 let ad:R->R:=λj=>if j=D bs then w.heap.size else nm j
 let F:R->A:=λj=>if j=D bs then 0 else cs j
 have af:=λb d=>hv.lt b d
 have g:=(Gr.refl w).alloc (X #[v,O Z 0] 247);have S7:(w.alloc (X #[v,O Z 0] 247)).heap.size=w.heap.size+1:=Q6;have ax:=h0.size;have ak:ρ' _=.bb _:=mI rfl;have T2:∀b,v.ownBlock=Y b->ρ' b=.bf _:=λb d=>by
  have e1:¬b=w.heap.size:=by have:=(af b d).2;omega
  show(if b=w.heap.size then _ else _)=_
  rw[eP e1,mI d]
 have ai:∀b,b<w.heap.size->(ρ b≠.no\/b<w0.heap.size)->ρ' b=ρ b:=λb d hn=>by
  have e1:¬b=w.heap.size:=Q5;have e2:¬v.ownBlock=Y b:=λe=>by
   rcases hn with hn|hn
   · exact hn (hρ b e)
   have:=(af b e).1;omega
  show(if b=w.heap.size then _ else _)=_
  rw[eP e1,eP e2]
 have Ti:∀j,j<D bs->ad j=nm j:=λj hj=>eP Q5
 have T9:ad _=w.heap.size:=mI rfl;have s:ku (λr=>r≠.no) w _ _ _:=λb d hS=>⟨g.block b d Q6,ai b d (.inl hS)⟩
 have K:bJ _ _ _ _:=⟨g.os.trans h0.os,g.tape.trans h0.tape,g.output.trans h0.output,Q5,λb d=>(ai b Q5 (.inr d)).trans (h0.role b d),λb d e=>(g.block b Q5 Q6).trans (h0.keep b d e)⟩;obtain⟨vf,vt,hm⟩:=h.mb;refine⟨_,_,F,T9,⟨h.gr.trans g,λb d=>?_,⟨_,_,hm.mv s nofun nofun nofun⟩,(h.frs.mv s λi _=>⟨nofun,nofun,nofun,rfl⟩).names Ti bL,λj r hj=>?_⟩,K⟩
 · have av:=h.gr.size;by_cases e1:b=w.heap.size
   · subst e1;exact⟨av,Q5⟩
   by_cases e2:v.ownBlock=Y b
   · have:=af b e2;exact⟨Q5,Q5⟩
   have e3:ρ' b=ρ b:=by
    show(if b=w.heap.size then _ else _)=_
    rw[eP e1,eP e2]
   rw[e3]at d;have:=h.lo b d
   exact⟨this.1,Q5⟩
 by_cases e:j<D bs
 · rw[ze e]at hj;obtain⟨⟨v1,hB⟩,hc⟩:=h.blks j r hj;have ae:=hB.mv s nofun nofun;have ec:F j=cs j:=eP Q5;rw[ec];refine⟨⟨_,⟨?_,?_,?_,ae.rf⟩⟩,hc⟩
   · rw[Ti j e];exact ae.box
   · rw[lG Ti _ (bB r (dL hj))];exact ae.fl
   rw[Ti j e];exact ae.rb
 rw[Ag Q5]at hj;have e0:=by
  have:=(dm.1 hj).1
  simp at this;omega
 rw[e0]at hj;have ej:j=D bs:=Q5;subst ej;simp at hj
 subst hj;have ec:F _=0:=mI rfl;rw[ec];refine⟨⟨v,⟨?_,?_,?_,T2⟩⟩,Q5,al⟩
 · rw[T9];exact jZ w _
 · rw[lG Ti _ bF];have:=eO hv g
   exact⟨this.1,this.2.imp id λ⟨g,c,_,e1,e2,e3⟩=>⟨g,c,_,e1,Lz,e3⟩⟩
 rw[T9];exact ak
theorem MW.setMb{ad:R}{F:A}{vt:M}(h:MW C w ρ nm fbn cs ct L bs tk told)(hm:Fv C w ρ fbn (D L) (tk:A) ct told vf vt)(hF:wN w' C.mb C.v1 C.v2 C.v3 C.v4 C.v5 vf (C.heap:A) (ad:A) F vt)(ak:ct<=F)(ai:w'.os=w.os)(af:w'.tape=w.tape)(ae:w'.output=w.output)(S7:w.heap.size<=w'.heap.size)(d:∀b,b<w.heap.size->¬b=C.mb->w'.heap[b]? =w.heap[b]?):
 MW C w' ρ nm fbn cs F L bs ad told/\bJ w w' ρ ρ:=by
 have s:ku (λr=>r≠.mach) w _ _ _:=λb hb hS=>⟨d b hb λe=>hS (e▸hm.rm),rfl⟩
 have K:bJ w _ ρ _:=⟨ai,af,ae,S7,λ_ _=>rfl,λb hb e=>d b hb λe2=>by rw[e2,hm.rm]at e;cases e⟩;obtain⟨a1,a2⟩:=gn hm.fr hm.rf s nofun;obtain⟨b1,b2⟩:=gn hm.tl hm.rt s nofun;refine⟨⟨K.gr h.gr h.lo,λb hb=>⟨(h.lo b hb).1,tu (h.lo b hb).2 S7⟩,⟨_,_,⟨hF,a1,b1,hm.rm,a2,b2⟩⟩,h.frs.mv s λi _=>⟨nofun,nofun,nofun,rfl⟩,λj r hj=>?_⟩,K⟩;obtain⟨⟨v,hB⟩,hc⟩:=h.blks j r hj;exact⟨⟨v,hB.mv s nofun nofun⟩,hc.1,Q5⟩
theorem GL{w0:T}{v:M}(h:MW C w ρ nm fbn cs ct L bs tk told)(h0:bJ w0 w ρ0 ρ)(hV:C.V.heap.size<=w0.heap.size)(hv:w.ownsRow w0.heap.size 184 2 v (D fs) (gT nm fs))(hρ:∀k,v.ownBlock=Y k->ρ k=.no)(ai:0<=ct)(bL:∀x∈L,Bd (D bs) x.slots/\Bd (D bs) x.stack)(bB:∀r∈bs,Bd (D bs) r)(bF:Bd (D bs) fs)(ax:tk<=10000000)(hf:D fs<=1000):
 Calls prog 88 #[.pointer (Y (Q C.mb 6 G)),v] w λe w'=>∃ρ' d ad,e=.returned (.pointer (Y ⟨d (D bs),0,G⟩))/\MW C w' ρ' d fbn ad ct L (bs++[fs]) (tk+(D fs+1)) told/\bJ w0 w' ρ0 ρ':=by
 obtain⟨va,av,rfl⟩:=aR hv;obtain⟨vf,vt,hm⟩:=h.mb;have Ul:=hm.box;have ak:=(wS w _ 7 _ _ (O Z ((tk+(D fs+1):R):A)) Ul).trans (by simp:_=Y (X #[C.v1,C.v2,C.v3,C.v4,C.v5,vf,O Z C.heap,O Z ((tk+(D fs+1):R):A),O Z ct,vt] 102 (0,0)));have h2:=h.setMb hm ak (MM _) rfl rfl rfl Q6 (λb hb No=>dp _ _ _ _ (by show b≠C.mb;exact No));have al:(w.setCell (Q C.mb 7 G) (O Z ((tk+(D fs+1):R):A))).ownsRow _ _ 2 _ _ _:=c_ hv λk hk=>dp _ _ _ _ (by show k≠C.mb;exact λe=>by have:=hρ k hk;rw[e,hm.rm]at this;cases this)
 have HZ:U (∀w2,Gr _ w2->∃ρ' d ad,d (D bs)=w2.heap.size/\MW C _ _ d _ _ _ L _ _ _/\bJ _ _ _ _):=aJ λw2 gg=>(h2.1.of_gr gg).addBlk (h0.trans (h2.2.trans (bJ.of_gr gg))) hV (eO al gg) hρ ai bL bB bF;have c7:H w (Q C.mb 7 G)=Y (O Z tk):=Rm
 have F:U (∀w',Gr w w'->H w' _=Y _):=aJ λw' g=>g.cell c7 Q6;have z7:w.frozen? ⟨_,7,_⟩=AS:=aq Ul;have ae:Z.wrap (tk+(D fs+1))=((tk+(D fs+1):R):A):=Qq
 generalize C.mb=mb at F c7 z7 HZ |-;generalize ((tk+(D fs+1):R):A)=TK at HZ ae |-;go_enter func88,ntmps88
 go_wp2_with fail;refine eD 10 (S:=(λw'=>H w' _=Y _)) Q7 (F _ Gy) λhH=>?_;refine tY 0 ?_;refine tY 1 ?_;refine tY 2 ?_;refine tY 3 ?_;refine tY 4 ?_;refine tY 5 ?_;refine eh (i:=6) rfl Q7 λK hK=>?_;refine am rfl _ _ _ rfl _ fZ (Tryz.callWords _ _) ((kZ (D fs) _ Q5).mono ?_);rintro e w2 ⟨rfl,af⟩;subst af;refine .inl ⟨_,rfl,?_⟩;refine hK _ _ (λ_=>F _ Gy) λhH=>?_;replace hH:=hH Q9;try simp only[Act.put,sA,s0,s1]
 refine tY 7 ?_;refine tY 8 ?_;refine tY 9 ?_;refine eh (i:=10) rfl Q7 λK hK=>?_;have HK:=aJ hK;refine aW bZ ?_;go_simp
 have hK:=HK.j;refine hK _ _ (λh=>absurd rfl h) λ_=>?_;try simp only[Act.put,sA,s0,s1]
 refine mf Q7 ?_ _;obtain⟨ρ',d,ad,hn,hM,hK⟩:=HZ _ Gy;have HR:=aJ (And.intro hn (And.intro hM hK));go_wp2_with fail;go_ret
 exact⟨_,_,_,by rw[HR.1];simp,HR.2.1,HR.2.2⟩
end
def fE(L:I eZ)(bs:I (I PV)):R:=(jY bs (D bs+D (dk L)+1) ⟨λ_=>AS,0,dk L⟩).all
def uJ(mark:R->Bool)(n:R):R:=D ((List.range n).filter λk=>!mark k)
theorem yN{mark mark':R->Bool}:∀{n:R},(∀k,k<n->mark' k=mark k)->uJ mark' n=uJ mark n:=λ{n} h=>by
 unfold uJ;congr 1
 exact List.filter_congr λk d=>by rw[h k (MN.1 d)]
theorem sF(mark:R->Bool)(n:R):uJ mark (n+1)=uJ mark n+(if mark n then 0 else 1):=by
 unfold uJ;rw[List.range_succ,List.filter_append,fe];cases h:mark n<;>simp[h]
theorem yA{mark:R->Bool}{j:R}(hm:mark j=AS):∀{n:R},j<n->uJ (λk=>decide (k=j)||mark k) n+1=uJ mark n
 | 0,h=>by omega
 | n+1,h=>by
  rw[sF,sF];by_cases e:j=n
  · subst e;have:=yN (n:=j) (mark:=mark) (mark':=λk=>decide (k=j)||mark k) (λk d=>by simp;omega)
    rw[this,hm];simp
  have F:=yA hm (n:=n) Q5;have:decide (n=j)=AS:=QL
  simp only[this,Bool.false_or];omega
theorem rU:∀(n:R),uJ (λ_=>AS) n=n
 | 0=>rfl
 | n+1=>by rw[sF,rU n];rfl
theorem sq{bs:I (I PV)}{st:vU}(h:st.wt=[]):∀n,jY bs n st=st
 | 0=>rfl
 | n+1=>by simp[jY,h]
theorem qh{bs:I (I PV)}{st:vU}{wt:I (I PV)}(h:st.wt=wt++[r])(n:R):jY bs (n+1) st=jY bs n (ei bs r ⟨st.mark,st.all,wt⟩):=by
 simp[jY,h]
theorem uY{bs:I (I PV)}{v:PV}{st:vU}(h:v.blk=G):ei bs (v::vs) st=ei bs vs st:=by
 rw[ei,h]
theorem yC{bs:I (I PV)}{v:PV}{st:vU}{j:R}(h:v.blk=Y j)(hm:st.mark j=AT):ei bs (v::vs) st=ei bs vs st:=by
 rw[ei,h];simp[hm]
theorem Eo{bs:I (I PV)}{v:PV}{st:vU}{j:R}(h:v.blk=Y j)(hm:st.mark j=AS)(d:bs[j]? =Y fs):ei bs (v::vs) st=ei bs vs ⟨λk=>decide (k=j)||st.mark k,st.all+(D fs+1),st.wt++[fs]⟩:=by
 rw[ei,h];simp[hm,mh,d]
def Il:M->R
 | J _ n _=>n
 | _=>0
def Fz(w:T)(a:Addr):A:=match w.cell? a with
 | some v=>intOf v
 | none=>0
def J8(nm:R->R)(n:R)(c:A)(w:T):R:=uJ (λk=>decide (Fz w ⟨nm k,1,G⟩=c)) n
def xD(r:cV):Prop:=∃i,r=.fsl i\/r=.fst i\/r=.bf i
structure WE(w:T)(ρ:R->cV)(nm:R->R)(n:R)(v:M)(r:I PV):Prop where
 own:w.ownsRow 0 184 2 v (D r) (gT nm r)
 role:∀b,v.ownBlock=Y b->xD (ρ b)
 bd:Bd n r
 short:D r<=1000
theorem WE.mv{w w':T}{ρ:R->cV}{nm:R->R}{v:M}(h:WE w ρ nm n v r)(s:∀b,b<w.heap.size->xD (ρ b)->w'.heap[b]? =w.heap[b]?):WE w' ρ nm n v r:=
 ⟨c_ h.own λk d=>s k (h.own.lt k d).2 (h.role k d),h.role,h.bd,h.short⟩
structure RW(C:MC)(w0:T)(ρ:R->cV)(nm fbn:R->R)(c:A)(L:I eZ)(bs:I (I PV))(tk:R)(told:I A)(wr:T)(vw:M)(st:vU):Prop where
 mw:∃cs,MW C wr ρ nm fbn cs c L bs tk told/\∀j,j<D bs->st.mark j=decide (cs j=c)
 kp:bJ w0 wr ρ ρ
 wt:∃es:I (M×I PV),es.map (·.2)=st.wt/\wr.ownsRow w0.heap.size 178 1 vw (D es) (es.map (·.1))/\∀e∈es,WE wr ρ nm (D bs) e.1 e.2
section
variable {C:MC} {w0 wr w':T} {ρ:R->cV} {nm fbn:R->R} {c:A} {L:I eZ} {bs:I (I PV)} {tk:R} {told:I A} {vw:M} {st:vU}
theorem RW.of_gr(h:RW C w0 ρ nm fbn c L bs tk told wr vw st)(g:Gr wr w'):RW C w0 ρ nm fbn c L bs tk told w' vw st:=by
 obtain⟨cs,F,d⟩:=h.mw;obtain⟨es,h1,h2,h3⟩:=h.wt;exact⟨⟨_,F.of_gr g,d⟩,h.kp.trans (bJ.of_gr g),⟨_,h1,eO h2 g,λe he=>(h3 e he).mv λb hb _=>g.block b hb Q6⟩⟩
theorem RW.un(h:RW C w0 ρ nm fbn c L bs tk told wr vw st):J8 nm (D bs) c wr=uJ st.mark (D bs):=by
 obtain⟨cs,hM,F⟩:=h.mw;unfold J8;refine yN λk d=>?_
 obtain⟨⟨v,hB⟩,_⟩:=hM.blks k _ (dW d);have:H wr ⟨nm k,1,G⟩=Y (O Z (cs k)):=by rw[aP hB.box];rfl
 rw[F k d];unfold Fz;rw[this];rfl
theorem RW.len(h:RW C w0 ρ nm fbn c L bs tk told wr vw st):Il vw=D st.wt:=by
 obtain⟨es,F,d,_⟩:=h.wt;obtain⟨ao,cp,rfl⟩:=aR d;rw[<-F];simp[Il]
theorem RW.mark{j:R}(h:RW C w0 ρ nm fbn c L bs tk told wr vw st)(UZ:∀b,w0.heap.size<=b->ρ b=.no)(hj:bs[j]? =Y fs)(ad:0<=c):RW C w0 ρ nm fbn c L bs tk told (wr.setCell ⟨nm j,1,G⟩ (O Z c)) vw ⟨λk=>decide (k=j)||st.mark k,st.all,st.wt⟩:=by
 obtain⟨cs,hM,hc⟩:=h.mw;obtain⟨es,h1,h2,h3⟩:=h.wt;obtain⟨⟨v,hB⟩,_⟩:=hM.blks j _ hj;have hm:=hM.mark c hj hB ⟨ad,MM _⟩;have d:∀b,¬b=nm j->(wr.setCell (Q _ 1 G) (O Z c)).heap[b]? =wr.heap[b]? :=λb hb=>dp _ _ _ _ hb
 refine⟨⟨_,hm.1,λk F=>?_⟩,h.kp.trans hm.2,⟨_,h1,c_ h2 λk F=>d k λe=>?_,λe he=>(h3 e he).mv λb hb hr=>d b λe2=>?_⟩⟩
 · show(decide (k=j)||st.mark k)=decide ((if k=j then c else cs k)=c)
   by_cases e:k=j
   · simp[e]
   simp[e,hc k F]
 · have:=UZ k (h2.lt k F).1
   rw[e,hB.rb]at this;cases this
 rw[e2,hB.rb]at hr;obtain⟨i,hi⟩:=hr;rcases hi with hi|hi|hi<;>cases hi
theorem RW.grow{wa:T}{vw':M}{es new:I (M×I PV)}{all:R}(h:RW C w0 ρ nm fbn c L bs tk told wr vw st)(UZ:∀b,w0.heap.size<=b->ρ b=.no)(hV:C.V.heap.size<=w0.heap.size)(hg:Gr wr wa)(d:wa.grownBy w' vw.ownBlock)(ho:w'.ownsRow w0.heap.size 178 1 vw' (D (es++new)) ((es++new).map (·.1)))(ai:es.map (·.2)=st.wt)(he:∀e∈es,WE wr ρ nm (D bs) e.1 e.2)(hn:∀e∈new,WE wr ρ nm (D bs) e.1 e.2):
 RW C w0 ρ nm fbn c L bs tk told w' vw' ⟨st.mark,all,st.wt++new.map (·.2)⟩:=by
 obtain⟨cs,hM,hc⟩:=h.mw;obtain⟨ak,_,h2,_⟩:=h.wt;have ae:∀b,vw.ownBlock=Y b->w0.heap.size<=b/\ρ b=.no:=λb hb=>⟨(h2.lt b hb).1,UZ b (h2.lt b hb).1⟩
 have F:∀b,b<wr.heap.size->¬vw.ownBlock=Y b->w'.heap[b]? =wr.heap[b]? :=λb hb No=>(d.block b (tu hb hg.size) λe=>No e.symm).trans (hg.block b hb Q6)
 have af:=hM.other (d.os.trans hg.os) (d.tape.trans hg.tape) (d.output.trans hg.output) (wz hg.size d.size) λb hb hr=>F b hb λe=>by
  rcases hr with hr|hr
  · exact hr (ae b e).2
  have:=(ae b e).1;omega
 have ad:∀b,b<wr.heap.size->xD (ρ b)->w'.heap[b]? =wr.heap[b]? :=λb hb hr=>F b hb λe=>by
  obtain⟨i,hi⟩:=hr;rw[(ae b e).2]at hi;rcases hi with hi|hi|hi<;>cases hi
 refine⟨⟨_,af,hc⟩,⟨d.os.trans (hg.os.trans h.kp.os),d.tape.trans (hg.tape.trans h.kp.tape),d.output.trans (hg.output.trans h.kp.output),wz h.kp.size (wz hg.size d.size),λ_ _=>rfl,λb hb e=>(F b (tu hb h.kp.size) λe2=>by have:=(ae b e2).1;omega).trans (h.kp.keep b hb e)⟩,⟨_,by simp[ai],ho,λe hx=>?_⟩⟩;rcases F1.1 hx with hx|hx
 · exact(he e hx).mv ad
 exact(hn e hx).mv ad
end
theorem qL.at{C:MC}{w:T}{ρ:R->cV}{nm fbn:R->R}:∀{L:I eZ} {i:R},qL C w ρ nm fbn L->i<D L->∃x∈L,L.drop (D L-(i+1))=x::L.drop (D L-i)/\Kz C w ρ nm fbn i x
 | [],i,_,hi=>by simp at hi
 | x::l,i,h,hi=>by
  by_cases e:i=D l
  · subst e;exact⟨x,J9,Q6,h.1⟩
  have d:i<D l:=by simp at hi;omega
  obtain⟨y,hy,e1,F⟩:=qL.at h.2 d;refine⟨y,Jw _ hy,?_,F⟩;rw[show D (x::l)-(i+1)=(D l-(i+1))+1 by simp;omega,show D (x::l)-i=(D l-i)+1 by simp;omega,List.drop_succ_cons,List.drop_succ_cons];exact e1
theorem qJ:∀L:I eZ,D (dk L)=2*D L
 | []=>rfl
 | x::l=>by simp[dk,qJ l];omega
end Go.Proofs.YtghjmnlapcpbiaaGreatDoor
