import Derived.WalkMore
import Derived.Test.YtghjmnlapcpbiaaGreatDoorMu
namespace Go.Proofs.YtghjmnlapcpbiaaGreatDoor
open _root_ renaming Option.some->Y,Option.none->G,Go.Value.int->O,Go.IntKind.i64->Z,Go.Value.slice->J,List->I,Nat->R,Int->A,Go.World.cell?->H,List.length->D,Go.Obj.cells->X,Go.Value->M,Go.World->T,Go.Addr.mk->Q,Go.RowKit.Hid->U,UInt8->AI,Bool.false->AS,Bool.true->AT,Option->By
open Go.Proofs.Tryz
open Go.RowKit
set_option linter.defProp false
variable{σ:I A}{b ob:R}{Ts:R->R->By (I A)}{ρ0:R->cV}{m:PM}{w0:T}{u:aK}
def L0:=@results_cell_row
def L1:=@List.mem_append_left.{0}
def Mh:=@wpList_store_row
def Mm:=@wpList_load_row
def ME:=@Exit.noGoto_ret
def MG:=@wp_region_lit
set_option linter.unusedVariables false
set_option linter.unusedSimpArgs false
open Go.RowKit
attribute [local go_sem ↓] Go.wp_at_zero Go.wp_at_succ
theorem Tryz.frmNil(w:T):(binOp .eql 103 (.pointer G) (.pointer G)).run Tryz.prog w=.ok (.bool AT) w:=Q7
theorem Tryz.frmNe(a:Addr)(w:T):(binOp .eql 103 (.pointer (Y a)) (.pointer G)).run Tryz.prog w=.ok (.bool AS) w:=Q7
theorem Tryz.sizIns:(Tryz.prog.info? 87).map (λx=>x.size)=Y 3:=Q7
theorem Tryz.callTake(vals:Array M)(w:T):(callFunc 84 vals).run Tryz.prog w=.ok (.enter 84 vals) w:=Q7
theorem Tryz.callMade(vals:Array M)(w:T):(callFunc 88 vals).run Tryz.prog w=.ok (.enter 88 vals) w:=Q7
theorem Tryz.callRoom(vals:Array M)(w:T):(callFunc 87 vals).run Tryz.prog w=.ok (.enter 87 vals) w:=Q7
theorem mM{w:T}{v0 v1 v2 v3 v4 v5 v6:M}{t:TypeId}(h:w.heap[b]? =Y (X #[v0,v1,v2,v3,v4,v5,v6] t (0,0))):(H w (Q b 0 G)=Y v0/\H w (Q b 1 G)=Y v1/\H w (Q b 2 G)=Y v2/\H w (Q b 3 G)=Y v3/\H w (Q b 4 G)=Y v4/\H w (Q b 5 G)=Y v5/\H w (Q b 6 G)=Y v6)/\(w.frozen? ⟨b,0,G⟩=AS/\w.frozen? ⟨b,1,G⟩=AS/\w.frozen? ⟨b,2,G⟩=AS/\w.frozen? ⟨b,3,G⟩=AS/\w.frozen? ⟨b,4,G⟩=AS/\w.frozen? ⟨b,5,G⟩=AS/\w.frozen? ⟨b,6,G⟩=AS):=
 ⟨⟨RJ,RJ,RJ,RJ,RJ,RJ,RJ⟩,⟨aq h,aq h,aq h,aq h,aq h,aq h,aq h⟩⟩
theorem Tryz.sizOut:(Tryz.prog.info? 47).map (λx=>x.size)=Y 7:=Q7
theorem Tryz.anyOut:(Tryz.prog.underlying 47).any (λd=>match d with| .struct _=>AT|_=>AS)=AT:=Q7
theorem Tryz.undOut:∃fs,Tryz.prog.underlying 47=Y (.struct fs):=by
 have h:=Tryz.anyOut;cases F:prog.underlying 47 with
 | none=>rw[F]at h;cases h
 | some d=>
  rw[F]at h;cases d<;>first|exact⟨_,rfl⟩|cases h
theorem iP.mk{w:T}{why res st:A}(h:iP w ob why res st):Fz w ⟨ob,6,G⟩=st:=by
 unfold Fz;rw[aP h];rfl
theorem bJ.keepAt{w w':T}{ρ ρ':R->cV}{o:Obj}(k:bJ w w' ρ ρ')(d:w.heap[b]? =Y o)(F:ρ b=.no):w'.heap[b]? =Y o/\ρ' b=.no:=
 ⟨(k.keep b (eJ.1 d).1 F).trans d,(k.role b (eJ.1 d).1).trans F⟩
theorem mN.step{f:aQ}{i:bP}{base ts ps:I A}{a b:I PV}(heap:R)(hh:mN u Ts σ m.top f i base ts ps a b):cQ u heap m=eW u heap m i:=by
 have d:lT u m.top=Y i:=RH
 unfold cQ;rw[d]
theorem qg.facts(hu:rD u)(h:qg u Ts σ m):(∀x∈m.top::m.low,Bd (D m.blks) x.slots/\Bd (D m.blks) x.stack)/\(∀x∈m.top::m.low,D x.slots<=1000/\D x.stack<=1000)/\(∀r∈m.blks,Bd (D m.blks) r)/\(∀r∈m.blks,D r<=1000):=by
 have hl:=h.aA;have Tn:∀(f:aQ) (n:R) (vs:I _),u.aG[n]? =Y f->gN σ (f.aH++f.aI) vs->D vs<=1000:=λf n vs hf hk=>by
  have h1:=hu.func f (dL hf);have h2:=hk.1;rw[fe]at h2;omega
 have ae:∀(l:I _) (c:R),nA u Ts σ c l->∀x∈l,(Bd (D m.blks) x.slots/\Bd (D m.blks) x.stack)/\(D x.slots<=1000/\D x.stack<=1000):=by
  intro l
  induction l with
  | nil=>intro c _ x d;cases d
  | cons y l ih=>
   intro c hc x d;rcases Ce.1 d with rfl|d
   · obtain⟨f,i,g,s,k1,k2,k3,k4,k5,k6,k7,k8,k9⟩:=hc.1;refine⟨⟨hl▸k7.bd,hl▸k8.bd⟩,Tn f _ _ k1 k7,?_⟩;have:=k8.1
     rw[Bc]at this;omega
   exact ih _ hc.2 x d
 have F:∀r∈m.blks,Bd _ r/\D r<=1000:=λr hr=>by
  obtain⟨j,hj,rfl⟩:=MU hr;obtain⟨s,_,hs,hk⟩:=h.blks j _ _ (dW (hl▸hj)) (dW hj);have:=(hu.shape s (dL hs)).2.1
  exact⟨hl▸hk.bd,by rw[<-hk.1];omega⟩
 have ad:(Bd (D m.blks) m.top.slots/\Bd (D m.blks) m.top.stack)/\(D m.top.slots<=1000/\D m.top.stack<=1000):=by
  obtain⟨f,s,k1,k2,k3,k4,k5⟩:=h.top.fn;exact⟨⟨hl▸k3.bd,hl▸k4.bd⟩,Tn f _ _ k1 k3,by rw[<-k4.1];omega⟩
 have Tc:∀x∈m.top::m.low,(Bd _ _/\Bd _ _)/\(D x.slots<=1000/\D x.stack<=1000):=λx d=>by
  rcases Ce.1 d with rfl|d
  · exact ad
  exact ae _ _ h.low x d
 exact⟨λx d=>(Tc x d).1,λx d=>(Tc x d).2,λr hr=>(F r hr).1,λr hr=>(F r hr).2⟩
section
variable {C:MC} {w w':T} {ρ:R->cV} {nm fbn:R->R} {cs:R->A} {ct:A} {L:I eZ} {bs:I (I PV)} {tk:R} {told:I A}
theorem MW.at1{x:eZ}(h:MW C w ρ nm fbn cs ct (x::L) bs tk told):H w ⟨fbn (D L),1,G⟩=Y (O Z (x.pos:A))/\w.frozen? ⟨fbn (D L),1,G⟩=AS:=by
 obtain⟨vc,vs,vk,f,d⟩:=h.frs.1;exact⟨by rw[aP d.box];rfl,aq d.box⟩
theorem MW.outSet{o:R}{v:M}(h:MW C w ρ nm fbn cs ct L bs tk told)(ad:ρ ob=.no)(IN:w0.heap.size<=ob)(hV:C.V.heap.size<=w0.heap.size)(F:bJ w0 w ρ0 ρ):MW C (w.setCell (Q ob o G) v) ρ nm fbn cs ct L bs tk told/\bJ w0 (w.setCell (Q ob o G) v) ρ0 ρ:=by
 have d:∀b,¬b=ob->(w.setCell (Q _ o G) v).heap[b]? =w.heap[b]? :=λb hb=>dp _ _ _ _ hb
 refine⟨h.other rfl rfl rfl Q6 λb hb hr=>d b λe=>?_,⟨F.os,F.tape,F.output,by simpa using F.size,F.role,λb hb e=>(d b Q5).trans (F.keep b hb e)⟩⟩;subst e;rcases hr with hr|hr
 · exact hr ad
 omega
theorem uB.of{w1:T}{rb:R}{FIN:kB}(h:MW C w ρ nm fbn cs ct L bs tk FIN.told)(hk:bJ w0 w ρ0 ρ)(hrb:w0.heap[rb]? =Y (X yI 47 (0,0)))(ae:ρ0 rb=.no)(ad:w0=w1.alloc (X yI 47))(ai:rb=w1.heap.size)(hV:C.V.heap.size<=w1.heap.size)(row:Array M):uB C w1 ρ0 FIN (w.setRow rb row):=by
 have af:=hk.keepAt hrb ae;have F:∀b,¬b=rb->(w.setRow _ row).heap[b]? =w.heap[b]? :=λb hb=>Kk _ _ _ _ hb
 have S7:(w.setRow rb row).heap.size=w.heap.size:=Q6;have Vd:w0.heap.size=w1.heap.size+1:=by rw[ad];simp
 have d:Gr w1 w0:=by rw[ad];exact(G0).alloc _
 refine⟨_,_,_,_,_,L,_,_,h.other rfl rfl rfl Q5 λb hb hr=>F b λe=>?_,⟨hk.os.trans d.os,hk.tape.trans d.tape,hk.output.trans d.output,by have:=hk.size;omega,λb hb=>hk.role b Q5,λb hb e=>(F b Q5).trans ((hk.keep b Q5 e).trans (d.block b hb Q6))⟩⟩;subst e;rcases hr with hr|hr
 · exact hr af.2
 omega
end
theorem Qy{p:Prop}(h:p:=by rw[aP V4.j.1];rfl):p:=h
theorem Qz{p:Prop}(h:p:=by have:=TB.j.run;rw[show fuel-s=(fuel-(s+1))+1 by omega,jl HP.j]at this;rw[<-this];rfl):p:=h
theorem Nj{p:Prop}(h:p:=by
 have k1:H W2 (Q W1.heap.size 1 G)=Y (O Z i.a):=Qy
 have k2:H W2 (Q W1.heap.size 2 G)=Y (O Z i.b):=Qy
 obtain⟨r,st,U8,hP,hc⟩:=yJ C.heap HH.j Q5 Uj.j TB.j.ok.aA TB.j.ok.blks;have Xl:=hP L tk told;rw[<-HH.j.step (m:=⟨x,L,bs,tk,told⟩) C.heap]at Xl;rw[e]at hc;clear hP;cases r with
 | true=>
  have HP:U (cQ C.u C.heap ⟨x,L,bs,tk,told⟩=.go ⟨⟨x.fn,x.pos+1,x.slots,st⟩,L,U8,tk,told⟩):=aJ Xl;have HC:=aJ hc;clear hc Xl;go_wp2_with fail;refine HC.j.mono ?_;rintro e w3 ⟨rfl,ρ3,TR,TX⟩;have UM:=TX.keepAt TE.j.1 TE.j.2;have hA:=(TR).at1;obtain⟨Ww,Wz⟩:=hA;have hZ:MW C (w3.setCell ⟨fbn (D L),1,G⟩ (O Z (((x.st st).pos:A)+1))) ρ3 nm fbn cs ct ((x.st st).go ((x.st st).pos+1)::L) U8 tk told/\bJ w3 (w3.setCell ⟨fbn (D L),1,G⟩ (O Z (((x.st st).pos:A)+1))) ρ3 ρ3:=(TR).setPos ((x.st st).pos+1);have Tm:iP (w3.setCell ⟨fbn (D L),1,G⟩ (O Z (((x.st st).pos:A)+1))) ob 7 0 ((s:A)+1):=(hZ.2.keepAt (UM).1 (UM).2).1;have T5:=aJ (And.intro (o_.go TB.j HU.j HT.j IN (m':=⟨⟨x.fn,x.pos+1,x.slots,st⟩,L,U8,tk,told⟩) HP.j hZ.1 ((UJ.j.trans TX).trans hZ.2) Tm (UM).2 Wf Wp TB.j.tak) Tm.mk);have Vj:Z.wrap (((x.st st).pos:A)+1)=((x.st st).pos:A)+1:=Ld _ (by have h9:(x.st st).pos<200:=Ws.j;omega);clear hZ Tm;clear TR TX UM;go_wp2_with fail;go_roundw
  case rel=>exact T5.j.1
  case measure=>(rw[T5.j.2,Xv.j];omega)
 | false=>
  have HP:U (cQ C.u C.heap ⟨x,L,bs,tk,told⟩=.stop 10 0 ⟨x,L,bs,tk,told⟩):=aJ Xl;have Ur:U (FIN=⟨10,0,0,0,0,told,(s:A)+1⟩):=aJ Qz;have HC:=aJ hc;clear hc Xl;go_wp2_with fail;refine HC.j.mono ?_;rintro e w3 ⟨rfl,ρ3,TR,TX⟩;have UM:=TX.keepAt TE.j.1 TE.j.2;have Vm:=mM (UM).1;have WN:H w3 (Q ob 0 G)=Y (O Z 7):=Vm.1.1;have WL:w3.frozen? ⟨ob,0,G⟩=AS:=Vm.2.1;have WC:=(TR).outSet (o:=0) (v:=O Z 10) (UM).2 TB.j.olt WY.j (UJ.j.trans TX);have WH:iP (w3.setCell (Q ob 0 G) (O Z 10)) ob 10 0 ((s:A)+1):=(wS w3 ob 0 _ _ _ (UM).1).trans Q6;have VK:=aJ WC;have TY:=aJ WH;clear Vm WC WH TR TX UM;go_upto_region 38 with fail
  clear WN WL;generalize w3.setCell (Q ob 0 G) (O Z 10)=W9 at VK TY |-;have Wq:MW C W9 ρ3 nm fbn cs ct (x.st st::L) U8 tk FIN.told:=by rw[Ur.j];exact VK.j.1
  have Wo:=aJ TY.j;have Vh:=aJ ((VK.j.2).keepAt T7.j VA.j).1;have UU:=aJ (Kg _ rb _ #[O Z 10,O Z 0,O Z 0,O Z 0,O Z 0,J G 0 0,O Z ((s:A)+1)] _ _ Vh.j);have VM:=aJ (uB.of (FIN:=FIN) Wq (VK.j.2) T7.j VA.j WV.j Va.j WQ.j #[O Z 10,O Z 0,O Z 0,O Z 0,O Z 0,J G 0 0,O Z ((s:A)+1)]);go_upto_region 38 with fail
  obtain⟨dO,UI⟩:=Tryz.undOut;refine MG ?_;refine Mm rfl 47 _ rfl ob rfl _ _ _ (.struct dO) Wo.j UI rfl Tryz.sizOut ?_;refine Mh rfl 47 _ _ rfl rb #[O Z 10,O Z 0,O Z 0,O Z 0,O Z 0,J G 0 0,O Z ((s:A)+1)] rfl rfl _ _ Vh.j Tryz.sizOut rfl Qr ?_;have V6:=aJ UI;clear UI;generalize Wm:W9.setRow rb #[O Z 10,O Z 0,O Z 0,O Z 0,O Z 0,J G 0 0,O Z ((s:A)+1)]=WE at UU VM |-;clear Wm;go_wp2_with fail;try rw[ME]
  refine qn (v:=.agg #[O Z 10,O Z 0,O Z 0,O Z 0,O Z 0,J G 0 0,O Z ((s:A)+1)]) (L0 rfl _ _ rb _ _ _ (.struct dO) rfl UU.j V6.j rfl Tryz.sizOut) rfl ?_;exact⟨by rw[Ur.j],VM.j⟩):p:=h
theorem Nx{p:Prop}(h:p:=by
 go_wp2_with fail;go_roundw
 case rel=>exact T5.j.1
 case measure=>(rw[T5.j.2,Xv.j];omega)):p:=h
theorem QU{p:Prop}(h:p:=by rw[aP V4.j.1];simp[e]):p:=h
theorem Rv{p:Prop}(h:p:=by show D x.stack<=1000;omega):p:=h
theorem RV{p:Prop}(h:p:=by rw[HH.j.step (m:=⟨x,L,bs,tk,told⟩) C.heap];unfold eW;simp only[e,Up,cD,dD];rfl):p:=h
theorem Se{p:Prop}(h:p:=by rw[HH.j.step (m:=⟨x,L,bs,tk,told⟩) C.heap];unfold eW;simp only[e];rfl):p:=h
set_option maxRecDepth 100000 in
set_option maxHeartbeats 1000000 in
theorem EL(C:MC)(Ts:R->R->By (I A))(w:T)(ρ0:R->cV)(gB ay:R->R)(fg:R->A)(m0:PM)(σ0:I A)(fuel:R)(la:fuel<=200000)(h8:C.heap<=10000000)(hu:UW C)(hT:∀n f,C.u.aG[n]? =Y f->lf C.u f (Ts n))(hM:MW C w ρ0 gB ay fg 0 (m0.top::m0.low) m0.blks m0.taken m0.told)(Tb:qg C.u Ts σ0 m0)(TI:m0.blks=[])(g6:m0.taken=0)(FIN:kB)(hF:kF C.u C.heap fuel 0 m0=FIN):
 Calls prog 36 #[.pointer (Y (Q C.mb 0 G)),.pointer (Y ⟨ay (D m0.low),0,G⟩),O Z (fuel:A)] w λe w'=>e=.returned (.agg #[O Z FIN.why,O Z 0,O Z 0,O Z 0,O Z FIN.result,J G 0 0,O Z FIN.steps])/\uB C w ρ0 FIN w':=by
 have g0:=(Gr.refl w).alloc (X yI 47);have av:=jZ w (X yI 47);obtain⟨w0,bo⟩:∃w0,w0=w.alloc (X yI 47):=⟨_,rfl⟩;rw[<-bo]at g0 av;have Vd:w0.heap.size=w.heap.size+1:=by rw[bo];simp
 obtain⟨rb,hrb⟩:∃rb,rb=w.heap.size:=⟨_,rfl⟩;obtain⟨ob,di⟩:∃ob,ob=w.heap.size+1:=⟨_,rfl⟩;rw[<-hrb]at av;have g1:=(Gr.refl w0).alloc (X #[O Z 7,O Z 0,O Z 0,O Z 0,O Z 0,J G 0 0,O Z 0] 47);have S9:=jZ w0 (X #[O Z 7,O Z 0,O Z 0,O Z 0,O Z 0,J G 0 0,O Z 0] 47);rw[Vd,<-di]at S9;have b3:U (o_ C Ts w0 ρ0 ob rb fuel FIN (w0.alloc (X #[O Z 7,O Z 0,O Z 0,O Z 0,O Z 0,J G 0 0,O Z 0] 47)) (.pointer (Y ⟨ay (D m0.low),0,G⟩))):=aJ ⟨m0,0,ρ0,gB,ay,fg,0,σ0,rfl,⟨S9,(g1.block rb Q5 Q6),Q5,hM.new_no Q5,Q5,hM.new_no Q5,Lz,hF,Tb,MM _,MM _,by rw[TI];exact lj,by rw[g6];exact Lz,(hM.of_gr g0).of_gr g1,bJ.of_gr g1⟩⟩;have T7:=aJ av;have VA:U (ρ0 rb=.no):=aJ (hM.new_no Q5);have WV:=aJ bo;have Va:=aJ hrb;have WQ:=aJ hM.gr.size;have WY:U (C.V.heap.size<=w0.heap.size):=aJ (by have:=hM.gr.size;omega);have HU:=aJ hu;have HT:=aJ hT;clear hM Tb TI g6 hF g0 g1 S9 hu hT av;go_enter func36,ntmps36
 go_wp2_with fail;go_step3;go_wp2_with fail;go_step3;rw[<-bo,<-di,<-hrb];clear Vd di hrb bo;generalize w0.alloc (X #[O Z 7,O Z 0,O Z 0,O Z 0,O Z 0,J G 0 0,O Z 0] 47)=WI at b3 |-;go_wp2_with fail;go_loopw[1] (λvf wr=>o_ C Ts w0 ρ0 ob rb fuel FIN wr vf) λ_ wr=>fuel-(Fz wr ⟨ob,6,G⟩).toNat
 case atStart=>exact b3.j
 obtain⟨⟨x,L,bs,tk,told⟩,s,ρ,nm,fbn,cs,ct,σ,dw,hS⟩:=hrel;replace dw:_=Value.pointer (Y ⟨fbn (D L),0,G⟩):=dw;subst dw;have TB:=aJ hS;have hOut:=hS.j;have Xv:=aJ hOut.mk;have c7:=mM hOut;by_cases IN:s<fuel
 · have c6:H wr (Q ob 6 G)=Y (O Z (s:A)):=c7.1.2.2.2.2.2.2;have z6:wr.frozen? ⟨ob,6,G⟩=AS:=c7.2.2.2.2.2.2.2;have e3:(s:A)<(fuel:A):=by omega
   have UR:Z.wrap ((s:A)+1)=((s:A)+1):=Q_;have hl:MW C wr ρ nm fbn cs ct (x::L) bs tk told:=hS.mw;have a5:=hl.outSet (o:=6) (v:=O Z ((s:A)+1)) hS.oro hS.olt WY.j hS.kp;have fa:iP (wr.setCell (Q ob 6 G) (O Z ((s:A)+1))) ob 7 0 ((s:A)+1):=(wS wr ob 6 _ _ _ hOut).trans Q6;obtain⟨f,i,base,ts,ps,a,b,hh⟩:=rM HU.j.ok HU.j.imp HT.j hS.ok.top;have hh:mN C.u Ts σ x f i base ts ps a b:=hh;have HH:=aJ hh;obtain⟨vc,vs,vk,f',ht⟩:=a5.1.frs.1;have ef:f'=f:=by have:=ht.func;rw[hh.func]at this;cases this;rfl
   subst ef;obtain⟨ca,cc,rfl,_,fo⟩:=ht.code;obtain⟨cb,off,rfl,q0,q1,q2⟩:=fo x.pos i hh.code;have ep:x.pos<D f'.code:=(dm.1 hh.code).1;have cB:D f'.code<=200:=(HU.j.ok.func f' (dL hh.func)).2.2.2.1;have Ul:=ht.box;have d:U (∀w',Gr (wr.setCell (Q ob 6 G) (O Z ((s:A)+1))) w'->H w' ⟨fbn (D L),0,G⟩=Y (J (Y (Q cb off G)) (D f'.code) cc)/\H w' ⟨fbn (D L),1,G⟩=Y (O Z (x.pos:A))/\H w' ⟨cb,off+x.pos*3,G⟩=Y (O Z i.op)/\H w' ⟨cb,off+x.pos*3+1,G⟩=Y (O Z i.a)/\H w' ⟨cb,off+x.pos*3+2,G⟩=Y (O Z i.b)):=aJ λw' gg=>⟨gg.cell Rm Q6,gg.cell Rm Q6,(a5.1.gr.trans gg).cell q0 Q6,(a5.1.gr.trans gg).cell q1 Q6,(a5.1.gr.trans gg).cell q2 Q6⟩;have eu:=aJ a5.1;have g':=aJ a5.2;have cl:=aJ fa;have e6:=aJ hS.oro;have en:(x.pos:A)<(D f'.code:A):=Q5;have Ws:U (x.pos<200):=aJ Q5;clear c7 hOut hS hl a5 fa ht fo q0 q1 q2 Ul hh;go_upto_region 4 with fail
   clear c6 z6 UR e3;generalize hL:wr.setCell (Q ob 6 G) (O Z ((s:A)+1))=W1 at d eu g' cl |-;clear hL;generalize gp:D f'.code=nc at d en ep cB;generalize jb:fbn (D L)=fb at d |-;generalize fz:x.pos=px at d en ep;refine xE (S:=(λw'=>H w' (Q fb 0 G)=Y (J (Y (Q cb off G)) nc cc)/\H w' (Q fb 1 G)=Y (O Z (px:A))/\H w' ⟨cb,off+px*3,G⟩=Y (O Z i.op)/\H w' ⟨cb,off+px*3+1,G⟩=Y (O Z i.a)/\H w' ⟨cb,off+px*3+2,G⟩=Y (O Z i.b))) Q7 (d.j _ Gy) λhH=>?_;refine tL 0 ?_;refine tL 1 ?_;refine tL 2 ?_;refine tL 3 ?_;refine tL 4 ?_;refine tL 5 ?_;refine tL 6 ?_;refine tL 7 ?_;refine tL 8 ?_;refine tL 9 ?_;refine bQ (i:=10) rfl Q7 λK hK=>?_;have HK:=aJ hK;clear hK;refine aW bZ ?_;go_simp
   have hK:=HK.j;refine hK.out _ _ (d.j _ (Gr.drew G5)) λhH=>?_;clear hK;try simp only[Act.put,sA,s0,s1]
   refine bQ (i:=11) rfl Q7 λK hK=>?_;have b1:(W1.alloc (X #[O Z 0,O Z 0,O Z 0] 87)).drew.setRow W1.drew.heap.size #[O Z i.op,O Z i.a,O Z i.b]=(W1.alloc (X #[O Z i.op,O Z i.a,O Z i.b] 87)).drew:=by
    show((W1.alloc (X #[O Z 0,O Z 0,O Z 0] 87)).setRow W1.heap.size #[O Z i.op,O Z i.a,O Z i.b]).drew=_
    rw[World.setRow_alloc_new]
   refine aW bZ (Lc (P:=prog) 87 _ _ rfl W1.drew.heap.size #[O Z i.op,O Z i.a,O Z i.b] bZ fZ 87 _ (jZ W1 (X #[O Z 0,O Z 0,O Z 0] 87)) Tryz.sizIns rfl Qr ?_);rw[b1];clear b1;refine hK.out _ _ (d.j _ (Gr.drew G5)) λhH=>?_;clear hK;try simp only[Act.put,sA,s0,s1]
   refine Ev Q7 ?_ _;clear hH en ep;have g2:Gr W1 (W1.alloc (X #[O Z i.op,O Z i.a,O Z i.b] 87)).drew:=Gr.drew G5;have Xg:(W1.alloc (X #[O Z i.op,O Z i.a,O Z i.b] 87)).drew.heap[W1.heap.size]? =Y (X #[O Z i.op,O Z i.a,O Z i.b] 87 (0,0)):=jZ W1 _;have Uj:=aJ (eu.j.of_gr g2);have UJ:=aJ (g'.j.trans (bJ.of_gr g2));have TE:=aJ ((bJ.of_gr (ρ:=ρ) g2).keepAt cl.j e6.j);have V4:=aJ (And.intro Xg (eu.j.new_no lj));have Wc:¬W1.heap.size=ob:=λe=>by have:=(eJ.1 cl.j).1;omega
   have b7:=aJ Wc;clear g2 Xg Wc;generalize (W1.alloc (X #[O Z i.op,O Z i.a,O Z i.b] 87)).drew=W2 at Uj UJ TE V4 |-;have Wf:0<=ct:=TB.j.ct0;have Wp:ct<=ct+1:=Q5;have hn:=HH.j.len;have kt:=aJ (And.intro cB (And.intro gp fz));subst jb fz;clear gp cB;by_cases al:(1<=i.op/\i.op<=10)\/i.op=18\/i.op=19
   · clear b7;have k0:H W2 (Q W1.heap.size 0 G)=Y (O Z i.op):=by rw[aP V4.j.1];rfl
     have k1:H W2 (Q W1.heap.size 1 G)=Y (O Z i.a):=Qy
     have k2:H W2 (Q W1.heap.size 2 G)=Y (O Z i.b):=Qy
     obtain⟨sl,st,hP,hc⟩:=II C.heap HH.j al Uj.j;have hp:cQ C.u C.heap ⟨x,L,bs,tk,told⟩=.go ⟨⟨x.fn,x.pos+1,sl,st⟩,L,bs,tk,told⟩:=by rw[HH.j.step (m:=⟨x,L,bs,tk,told⟩) C.heap];exact hP _ _ _ _
     have HC:=aJ hc;have n0:¬i.op=0:=Q5;have kn:¬i.op=11:=Q5;have ki:¬i.op=12:=Q5;have k3:¬i.op=13:=Q5;have k7:¬i.op=14:=Q5;have ln:¬i.op=15:=Q5;have ky:¬i.op=16:=Q5;have k':¬i.op=17:=Q5;have k5:¬i.op=20:=Q5;clear hc hP al;go_wp2_with fail;refine HC.j.mono ?_;rintro e w3 ⟨rfl,ρ3,TR,TX⟩;have b6:=TX.keepAt TE.j.1 TE.j.2;have hA:=(TR).at1;obtain⟨Ww,Wz⟩:=hA;have hZ:MW C (w3.setCell ⟨fbn (D L),1,G⟩ (O Z (((⟨x.fn,x.pos,sl,st⟩:eZ).pos:A)+1))) ρ3 nm fbn cs ct ((⟨x.fn,x.pos,sl,st⟩:eZ).go ((⟨x.fn,x.pos,sl,st⟩:eZ).pos+1)::L) bs tk told/\bJ w3 (w3.setCell ⟨fbn (D L),1,G⟩ (O Z (((⟨x.fn,x.pos,sl,st⟩:eZ).pos:A)+1))) ρ3 ρ3:=(TR).setPos ((⟨x.fn,x.pos,sl,st⟩:eZ).pos+1);have Tm:iP (w3.setCell ⟨fbn (D L),1,G⟩ (O Z (((⟨x.fn,x.pos,sl,st⟩:eZ).pos:A)+1))) ob 7 0 ((s:A)+1):=(hZ.2.keepAt (b6).1 (b6).2).1;have T5:=aJ (And.intro (o_.go TB.j HU.j HT.j IN (m':=⟨⟨x.fn,x.pos+1,sl,st⟩,L,bs,tk,told⟩) hp hZ.1 ((UJ.j.trans TX).trans hZ.2) Tm (b6).2 Wf Wp TB.j.tak) Tm.mk);have Vj:Z.wrap (((⟨x.fn,x.pos,sl,st⟩:eZ).pos:A)+1)=((⟨x.fn,x.pos,sl,st⟩:eZ).pos:A)+1:=Ld _ (by have h9:(⟨x.fn,x.pos,sl,st⟩:eZ).pos<200:=Ws.j;omega);clear hZ Tm;clear TR TX b6 hp;exact Nx
   have hI:=HH.j.ins;cases hI with
   | const e h0 hc=>
    have k0:H W2 (Q W1.heap.size 0 G)=Y (O Z 0):=QU
    have k1:H W2 (Q W1.heap.size 1 G)=Y (O Z i.a):=Qy
    have k2:H W2 (Q W1.heap.size 2 G)=Y (O Z i.b):=Qy
    obtain⟨k8,e',hJ,j4,b2⟩:=HU.j.co;obtain⟨b8,az,rfl,q2⟩:=b2 i.a.toNat hc;obtain⟨vf,vt,hm⟩:=Uj.j.mb;have TJ:=hm.box;have hp:cQ C.u C.heap ⟨x,L,bs,tk,told⟩=.go ⟨⟨x.fn,x.pos+1,x.slots,x.stack++[⟨C.u.aE.getD i.a.toNat 0,G⟩]⟩,L,bs,tk,told⟩:=Se
    have HP:=aJ hp;have bL:=lQ h0;have d:U (∀w',Gr W2 w'->H w' (Q C.mb 1 G)=Y (J (Y (Q b8 az G)) (D C.u.aE) e')/\H w' (Q W1.heap.size 1 G)=Y (O Z (i.a.toNat:A))/\H w' ⟨b8,az+i.a.toNat,G⟩=Y (O Z (C.u.aE.getD i.a.toNat 0))):=aJ (λw' gg=>⟨gg.cell (by rw[aP TJ,<-hJ];rfl) Q6,gg.cell (by rw[k1,<-bL]) Q6,(Uj.j.gr.trans gg).cell q2 Q6⟩);have fv:U (∀w',Gr W2 w'->Calls prog 86 #[.pointer (Y ⟨fbn (D L),0,G⟩),.agg #[O Z (C.u.aE.getD i.a.toNat 0),.pointer G]] w' λe w3=>e=.returned (.tuple #[])/\zS C w' ρ nm fbn cs ct (x.st (x.stack++[⟨C.u.aE.getD i.a.toNat 0,G⟩])::L) bs tk told w3):=aJ λw' g=>js ⟨C.u.aE.getD i.a.toNat 0,G⟩ (Uj.j.of_gr g) Q5;have aD:(i.a.toNat:A)<(D C.u.aE:A):=Q5;clear b2 q2 hm TJ hp bL k1 k2;generalize C.u.aE.getD i.a.toNat 0=cv at d fv HP;generalize i.a.toNat=q at d aD hc;generalize (D C.u.aE)=jv at d aD hc;generalize W1.heap.size=ib at d k0 V4 b7 |-;go_wp2_with fail;refine eD 11 (S:=(λw'=>H w' (Q C.mb 1 G)=Y (J (Y (Q b8 az G)) jv e')/\H w' (Q ib 1 G)=Y (O Z (q:A))/\H w' ⟨b8,az+q,G⟩=Y (O Z cv))) Q7 (d.j _ Gy) λhH=>?_;refine tY 0 ?_;refine tY 1 ?_;refine tY 2 ?_;refine tY 3 ?_;refine tY 4 ?_;refine tY 5 ?_;refine tY 6 ?_;refine tY 7 ?_;refine tY 8 ?_;refine tY 9 ?_;refine tY 10 ?_;refine eh (i:=11) rfl Q7 λK hK=>?_;refine am rfl 86 _ _ rfl #[.pointer (Y ⟨fbn (D L),0,G⟩),.agg #[O Z cv,.pointer G]] fZ (Tryz.callPush _ _) ((fv.j _ Gy).mono ?_);rintro e w3 ⟨rfl,ρ3,TR,TX⟩;have UN:=aJ TR;have cj:=aJ ((bJ.of_gr (Gr.drew (Gr.refl W2))).trans TX);clear TR TX;refine .inl ⟨_,rfl,?_⟩;refine hK.out _ _ (λh=>absurd rfl h) λ_=>?_;clear hK;try simp only[Act.put,sA,s0,s1]
    refine mf Q7 ?_ _;clear hH;have UM:=cj.j.keepAt TE.j.1 TE.j.2;have hA:=(UN.j).at1;obtain⟨Ww,Wz⟩:=hA;have hZ:MW C (w3.setCell ⟨fbn (D L),1,G⟩ (O Z (((x.st (x.stack++[⟨cv,G⟩])).pos:A)+1))) ρ3 nm fbn cs ct ((x.st (x.stack++[⟨cv,G⟩])).go ((x.st (x.stack++[⟨cv,G⟩])).pos+1)::L) bs tk told/\bJ w3 (w3.setCell ⟨fbn (D L),1,G⟩ (O Z (((x.st (x.stack++[⟨cv,G⟩])).pos:A)+1))) ρ3 ρ3:=(UN.j).setPos ((x.st (x.stack++[⟨cv,G⟩])).pos+1);have Tm:iP (w3.setCell ⟨fbn (D L),1,G⟩ (O Z (((x.st (x.stack++[⟨cv,G⟩])).pos:A)+1))) ob 7 0 ((s:A)+1):=(hZ.2.keepAt (UM).1 (UM).2).1;have T5:=aJ (And.intro (o_.go TB.j HU.j HT.j IN (m':=⟨⟨x.fn,x.pos+1,x.slots,x.stack++[⟨cv,G⟩]⟩,L,bs,tk,told⟩) HP.j hZ.1 ((UJ.j.trans cj.j).trans hZ.2) Tm (UM).2 Wf Wp TB.j.tak) Tm.mk);have Vj:Z.wrap (((x.st (x.stack++[⟨cv,G⟩])).pos:A)+1)=((x.st (x.stack++[⟨cv,G⟩])).pos:A)+1:=Ld _ (by have h9:(x.st (x.stack++[⟨cv,G⟩])).pos<200:=Ws.j;omega);clear hZ Tm;clear UM;exact Nx
   | jump e h0 h1=>
    have k0:H W2 (Q W1.heap.size 0 G)=Y (O Z 11):=QU
    have k1:H W2 (Q W1.heap.size 1 G)=Y (O Z i.a):=Qy
    have k2:H W2 (Q W1.heap.size 2 G)=Y (O Z i.b):=Qy
    have hp:cQ C.u C.heap ⟨x,L,bs,tk,told⟩=.go ⟨⟨x.fn,i.a.toNat,x.slots,x.stack⟩,L,bs,tk,told⟩:=Se
    have hZ:=Uj.j.setPos i.a.toNat;rw[<-lQ h0]at hZ;replace hZ:MW C (W2.setCell ⟨fbn (D L),1,G⟩ (O Z i.a)) ρ nm fbn cs ct (x.go i.a.toNat::L) bs tk told/\bJ W2 (W2.setCell ⟨fbn (D L),1,G⟩ (O Z i.a)) ρ ρ:=hZ;obtain⟨Ww,Wz⟩:=Uj.j.at1;have Tm:=hZ.2.keepAt TE.j.1 TE.j.2;have T5:=aJ (And.intro (o_.go TB.j HU.j HT.j IN hp hZ.1 (UJ.j.trans hZ.2) Tm.1 Tm.2 Wf Wp TB.j.tak) (iP.mk Tm.1));clear hZ Tm hp;exact Nx
   | zero e h0 h1=>
    obtain⟨v,rfl,hv⟩:=HH.j.upon.of_one;have k0:H W2 (Q W1.heap.size 0 G)=Y (O Z 12):=QU
    have k1:H W2 (Q W1.heap.size 1 G)=Y (O Z i.a):=Qy
    have k2:H W2 (Q W1.heap.size 2 G)=Y (O Z i.b):=Qy
    have Up:=HH.j.stack;have HC:=aJ (jM Uj.j Up Rv);have il:=Tryz.fld0;have hj:U (cQ C.u C.heap ⟨x,L,bs,tk,told⟩=if v.num=0 then .go ⟨⟨x.fn,i.a.toNat,x.slots,a⟩,L,bs,tk,told⟩ else .go ⟨⟨x.fn,x.pos+1,x.slots,a⟩,L,bs,tk,told⟩):=aJ RV;clear Up;generalize dd:gi nm v.blk=aL at HC;clear dd;by_cases hz:v.num=0
    · have hp:=hj.j;rw[mI hz]at hp;rw[hz]at HC;have HP:=aJ hp;clear hp hz;go_wp2_with fail;refine HC.j.mono ?_;rintro e w3 ⟨rfl,ρ3,TR,TX⟩;have UM:=TX.keepAt TE.j.1 TE.j.2;have bt:=TX.keepAt V4.j.1 V4.j.2;have hZ:=TR.setPos i.a.toNat;rw[<-lQ h0]at hZ;replace hZ:MW C (w3.setCell ⟨fbn (D L),1,G⟩ (O Z i.a)) ρ3 nm fbn cs ct ((x.st a).go i.a.toNat::L) bs tk told/\bJ w3 (w3.setCell ⟨fbn (D L),1,G⟩ (O Z i.a)) ρ3 ρ3:=hZ;obtain⟨Ww,Wz⟩:=TR.at1;have Tm:=hZ.2.keepAt UM.1 UM.2;have T5:=aJ (And.intro (o_.go TB.j HU.j HT.j IN HP.j hZ.1 (UJ.j.trans (TX.trans hZ.2)) Tm.1 Tm.2 Wf Wp TB.j.tak) (iP.mk Tm.1));have k1:H w3 (Q W1.heap.size 1 G)=Y (O Z i.a):=by rw[aP bt.1];rfl
      clear hZ Tm TR TX UM bt;exact Nx
    have hp:=hj.j;rw[eP hz]at hp;have HP:=aJ hp;clear hp;go_wp2_with fail;refine HC.j.mono ?_;rintro e w3 ⟨rfl,ρ3,TR,TX⟩;have UM:=TX.keepAt TE.j.1 TE.j.2;have hA:=(TR).at1;obtain⟨Ww,Wz⟩:=hA;have hZ:MW C (w3.setCell ⟨fbn (D L),1,G⟩ (O Z (((x.st a).pos:A)+1))) ρ3 nm fbn cs ct ((x.st a).go ((x.st a).pos+1)::L) bs tk told/\bJ w3 (w3.setCell ⟨fbn (D L),1,G⟩ (O Z (((x.st a).pos:A)+1))) ρ3 ρ3:=(TR).setPos ((x.st a).pos+1);have Tm:iP (w3.setCell ⟨fbn (D L),1,G⟩ (O Z (((x.st a).pos:A)+1))) ob 7 0 ((s:A)+1):=(hZ.2.keepAt (UM).1 (UM).2).1;have T5:=aJ (And.intro (o_.go TB.j HU.j HT.j IN (m':=⟨⟨x.fn,x.pos+1,x.slots,a⟩,L,bs,tk,told⟩) HP.j hZ.1 ((UJ.j.trans TX).trans hZ.2) Tm (UM).2 Wf Wp TB.j.tak) Tm.mk);have Vj:Z.wrap (((x.st a).pos:A)+1)=((x.st a).pos:A)+1:=Ld _ (by have h9:(x.st a).pos<200:=Ws.j;omega);clear hZ Tm;clear TR TX UM;exact Nx
   | call g e h0 hg=>
    have k0:H W2 (Q W1.heap.size 0 G)=Y (O Z 13):=QU
    have k1:H W2 (Q W1.heap.size 1 G)=Y (O Z i.a):=Qy
    have k2:H W2 (Q W1.heap.size 2 G)=Y (O Z i.b):=Qy
    obtain⟨vf,vt,hm⟩:=Uj.j.mb;have TJ:=hm.box;obtain⟨hY,hD,rfl⟩:=aR hm.fr;have c5:H W2 (Q C.mb 5 G)=Y (J hY (D L+1) hD):=by rw[aP TJ];rfl
    have Up:=HH.j.stack;have TQ:=HH.j.upon.1;have b9:D L<=99:=TB.j.ok.deep;by_cases hd:D L=99
    · have HP:U (cQ C.u C.heap ⟨x,L,bs,tk,told⟩=.stop 9 0 ⟨x,L,bs,tk,told⟩):=aJ (by rw[HH.j.step (m:=⟨x,L,bs,tk,told⟩) C.heap];unfold eW;simp only[e,hd];rfl);have Ur:U (FIN=⟨9,0,0,0,0,told,(s:A)+1⟩):=aJ Qz;have b4:(D L:A)+1=100:=by omega
      clear hd b9 Up hm TJ TQ;have Vm:=mM (TE.j).1;have WN:H W2 (Q ob 0 G)=Y (O Z 7):=Vm.1.1;have WL:W2.frozen? ⟨ob,0,G⟩=AS:=Vm.2.1;have WC:=(Uj.j).outSet (o:=0) (v:=O Z 9) (TE.j).2 TB.j.olt WY.j (UJ.j);have WH:iP (W2.setCell (Q ob 0 G) (O Z 9)) ob 9 0 ((s:A)+1):=(wS W2 ob 0 _ _ _ (TE.j).1).trans Q6;have VK:=aJ WC;have TY:=aJ WH;clear Vm WC WH;go_upto_region 38 with fail
      clear WN WL;generalize W2.setCell (Q ob 0 G) (O Z 9)=W9 at VK TY |-;have Wq:MW C W9 ρ nm fbn cs ct (x::L) bs tk FIN.told:=by rw[Ur.j];exact VK.j.1
      have Wo:=aJ TY.j;have Vh:=aJ ((VK.j.2).keepAt T7.j VA.j).1;have UU:=aJ (Kg _ rb _ #[O Z 9,O Z 0,O Z 0,O Z 0,O Z 0,J G 0 0,O Z ((s:A)+1)] _ _ Vh.j);have VM:=aJ (uB.of (FIN:=FIN) Wq (VK.j.2) T7.j VA.j WV.j Va.j WQ.j #[O Z 9,O Z 0,O Z 0,O Z 0,O Z 0,J G 0 0,O Z ((s:A)+1)]);go_upto_region 38 with fail
      obtain⟨dO,UI⟩:=Tryz.undOut;refine MG ?_;refine Mm rfl 47 _ rfl ob rfl _ _ _ (.struct dO) Wo.j UI rfl Tryz.sizOut ?_;refine Mh rfl 47 _ _ rfl rb #[O Z 9,O Z 0,O Z 0,O Z 0,O Z 0,J G 0 0,O Z ((s:A)+1)] rfl rfl _ _ Vh.j Tryz.sizOut rfl Qr ?_;have V6:=aJ UI;clear UI;generalize Wm:W9.setRow rb #[O Z 9,O Z 0,O Z 0,O Z 0,O Z 0,J G 0 0,O Z ((s:A)+1)]=WE at UU VM |-;clear Wm;go_wp2_with fail;try rw[ME]
      refine qn (v:=.agg #[O Z 9,O Z 0,O Z 0,O Z 0,O Z 0,J G 0 0,O Z ((s:A)+1)]) (L0 rfl _ _ rb _ _ _ (.struct dO) rfl UU.j V6.j rfl Tryz.sizOut) rfl ?_;exact⟨by rw[Ur.j],VM.j⟩
    have b4:¬(D L:A)+1=100:=by omega
    have HP:U (cQ C.u C.heap ⟨x,L,bs,tk,told⟩=.go ⟨⟨i.a.toNat,0,b++dG (D g.aI),[]⟩,⟨x.fn,x.pos,x.slots,a⟩::L,bs,tk,told⟩):=aJ (by
     rw[HH.j.step (m:=⟨x,L,bs,tk,told⟩) C.heap];unfold eW;simp only[e,hg];rw[eP Q9,eP Q9,eP Q9,eP Q9,eP Q9,eP Q9,eP Q9,eP Q9,mI trivial,eP hd];show jP.go ⟨⟨i.a.toNat,0,x.stack.drop (D x.stack-D g.aH)++_,[]⟩,⟨x.fn,x.pos,x.slots,x.stack.take (D x.stack-D g.aH)⟩::L,_,_,_⟩=_
     have Up:x.stack=a++b:=Up;rw[Up,kX a b _ TQ.symm,kW a b _ TQ.symm])
    have UT:=HU.j.ok.func g (dL hg);obtain⟨k6,hq,hV,j',Vb⟩:=HU.j.fu;obtain⟨gb,ax,k9,kq,k4,rfl,q0,_,_,_,r1,_,_⟩:=Vb i.a.toNat g hg;obtain⟨pa,pc,rfl,_⟩:=r1;have bL:=lQ h0;have e9:=(dm.1 hg).1;have aD:(i.a.toNat:A)<(D C.u.aG:A):=Q5;have d:U (∀w',Gr W2 w'->H w' (Q C.mb 2 G)=Y (J (Y (Q gb ax G)) (D C.u.aG) hq)/\H w' (Q W1.heap.size 1 G)=Y (O Z (i.a.toNat:A))/\H w' ⟨gb,ax+i.a.toNat*4,G⟩=Y (J pa (D g.aH) pc)):=aJ (λw' gg=>⟨gg.cell (by rw[aP TJ,<-hV];rfl) Q6,gg.cell (by rw[k1,<-bL]) Q6,(Uj.j.gr.trans gg).cell q0 Q6⟩);have bB:U (∀w',Gr W2 w'->Calls prog 84 #[.pointer (Y ⟨fbn (D L),0,G⟩),O Z (D g.aH:A)] w' λe w3=>∃v,e=.returned v/\w3.ownsRow w'.heap.size 184 2 v (D b) (gT nm b)/\MW C w3 ρ nm fbn cs ct (x.st a::L) bs tk told/\bJ w' w3 ρ ρ):=aJ (λw' gg=>by
     rw[TQ];exact zF (Uj.j.of_gr gg) Up Rv)
    have g3:U (∀(w3:T) (v:M),MW C w3 ρ nm fbn cs ct (x.st a::L) bs tk told->bJ W2.drew w3 ρ ρ->w3.ownsRow W2.drew.heap.size 184 2 v (D b) (gT nm b)->Calls prog 35 #[.pointer (Y (Q C.mb 0 G)),O Z (i.a.toNat:A),v] w3 λe w'=>∃ρ' fbn',e=.returned (.pointer (Y ⟨fbn' (D L+1),0,G⟩))/\MW C w' ρ' nm fbn' cs ct (⟨i.a.toNat,0,b++dG (D g.aI),[]⟩::x.st a::L) bs tk told/\bJ W2.drew w' ρ ρ'):=aJ (λw3 v TR TX hv=>yH TR TX Uj.j.gr.size HU.j.fu hg HU.j.ok.few.2.2 hv (λk hk=>Uj.j.new_no (hv.lt k hk).1) (by show D L+1<=1000;omega) Q5);clear Vb q0 hm TJ bL k1 k2 Up TQ hd b9 UT hg;generalize (D g.aH)=np at d bB;generalize hQ:i.a.toNat=q at d aD e9 g3 HP;have hU:U ((q:A)=i.a):=aJ Q5;clear hQ;generalize (D C.u.aG)=nf at d aD e9;generalize W1.heap.size=ib at d k0 V4 b7 |-;go_wp2_with fail;refine eg [12,13] (S:=(λw'=>H w' (Q C.mb 2 G)=Y (J (Y (Q gb ax G)) nf hq)/\H w' (Q ib 1 G)=Y (O Z (q:A))/\H w' ⟨gb,ax+q*4,G⟩=Y (J pa np pc))) Q7 (d.j _ Gy) λhH=>?_;refine tS 0 ?_;refine tS 1 ?_;refine tS 2 ?_;refine tS 3 ?_;refine tS 4 ?_;refine tS 5 ?_;refine tS 6 ?_;refine tS 7 ?_;refine tS 8 ?_;refine tS 9 ?_;refine tS 10 ?_;refine tS 11 ?_;refine dy (i:=12) rfl Q7 λK hK=>?_;refine am rfl 84 _ _ rfl #[.pointer (Y ⟨fbn (D L),0,G⟩),O Z (np:A)] fZ (Tryz.callTake _ _) ((bB.j _ Gy).mono ?_);rintro e w3 ⟨v,rfl,a8,TR,TX⟩;have bt:=TX.keepAt (w:=W2.drew) V4.j.1 V4.j.2;have UY:=aJ (g3.j _ _ TR TX a8);obtain⟨va,fm,rfl⟩:=aR a8;have hE:=aJ bt;clear a8 TR TX bt;refine .inl ⟨_,rfl,?_⟩;refine hK.out _ _ (λh=>absurd h Q9) ?_;clear hK;try simp only[Act.put,sA,s0,s1]
    refine dy (i:=13) rfl Q7 λK hK=>?_;have HK:=aJ hK;clear hK;refine aW bZ ?_;go_simp
    have hK:=HK.j;refine hK.out _ _ (λh=>absurd h Q9) ?_;clear hK;try simp only[Act.put,sA,s0,s1]
    refine mo Q7 ?_ _;clear hH;have k1:H w3 (Q ib 1 G)=Y (O Z i.a):=by rw[aP hE.j.1];rfl
    have cM:=UY;rw[show(q:A)=i.a from hU.j]at cM;generalize (D b)=nb at cM |-;go_wp2_with fail;refine cM.j.mono ?_;rintro e w4 ⟨ρ4,j3,rfl,af,ae⟩;have bg:=(bJ.of_gr (ρ:=ρ) (Gr.drew (Gr.refl W2))).trans ae;have F:=bg.keepAt TE.j.1 TE.j.2;have T5:=aJ (And.intro (o_.go TB.j HU.j HT.j IN HP.j af (UJ.j.trans bg) F.1 F.2 Wf Wp TB.j.tak) (iP.mk F.1));clear af ae bg F;exact Nx
   | ret e=>
    obtain⟨v,rfl,hv⟩:=HH.j.upon.of_one;have k0:H W2 (Q W1.heap.size 0 G)=Y (O Z 14):=QU
    have k1:H W2 (Q W1.heap.size 1 G)=Y (O Z i.a):=Qy
    have k2:H W2 (Q W1.heap.size 2 G)=Y (O Z i.b):=Qy
    have Up:=HH.j.stack;have HC:=aJ (jM Uj.j Up Rv);cases L with
    | nil=>
     have HP:U (cQ C.u C.heap ⟨x,[],bs,tk,told⟩=.stop 6 v.num ⟨x,[],bs,tk,told⟩):=aJ (by rw[HH.j.step (m:=⟨x,[],bs,tk,told⟩) C.heap];unfold eW;simp only[e,Up,cD];rfl);have Ur:U (FIN=⟨6,0,0,0,v.num,told,(s:A)+1⟩):=aJ Qz;have ka:=Tryz.frmNil;clear Up hv;generalize gi nm v.blk=aL at HC;generalize v.num=num at HC Ur;go_wp2_with fail;refine HC.j.mono ?_;rintro e w3 ⟨rfl,ρ3,TR,TX⟩;have g4:=(Gr.refl w3).alloc (X #[O Z num,.pointer aL] 184);have bk:=jZ w3 (X #[O Z num,.pointer aL] 184);have a0:=ye (TR.of_gr g4) Q6;rw[mI (show D ([]:I eZ)=0 from rfl)]at a0;have dT:=aJ a0;have bF:=aJ ((TX.trans (bJ.of_gr g4)).keepAt TE.j.1 TE.j.2);have VH:=aJ (And.intro bk (TR.new_no lj));have aC:=aJ (UJ.j.trans (TX.trans (bJ.of_gr g4)));have ej:U (¬w3.heap.size=ob):=aJ (λe=>by have:=(TX.keepAt TE.j.1 TE.j.2).1;have:=(eJ.1 this).1;omega);clear TR TX g4 bk a0;go_wp2_with fail;refine dT.j.mono ?_;rintro e w5 ⟨rfl,aF,ad⟩;have hX:=aJ aF;have eo:=aJ (aC.j.trans ad);have a6:=aJ (ad.keepAt bF.j.1 bF.j.2);have hf:=aJ (ad.keepAt VH.j.1 VH.j.2).1;have cy:¬w3.heap.size=ob:=ej.j;have h':¬ob=w3.heap.size:=λe=>ej.j e.symm
     clear aF ad;have b5:U (∀w':T,w'.heap[w3.heap.size]? =w5.heap[w3.heap.size]? ->H w' (Q w3.heap.size 0 G)=Y (O Z num)):=aJ (λw' hh=>by rw[aP (hh.trans hf.j)];rfl);go_wp2_with fail;generalize w3.heap.size=vb at b5 cy h' hf ej |-;refine xE (S:=(λw'=>H w' (Q vb 0 G)=Y (O Z num))) Q7 (b5.j _ rfl) λhH=>?_;refine tL 0 ?_;refine tL 1 ?_;refine tL 2 ?_;refine bQ (i:=3) rfl Q7 λK hK=>?_;have Vm:=mM a6.j.1;have WN:H w5 (Q ob 0 G)=Y (O Z 7):=Vm.1.1;have WL:w5.frozen? ⟨ob,0,G⟩=AS:=Vm.2.1;have a4:iP (w5.setCell (Q ob 0 G) (O Z 6)).drew ob 6 0 ((s:A)+1):=(wS w5 ob 0 _ _ _ a6.j.1).trans Q6;have ak:=hX.j.outSet (o:=0) (v:=O Z 6) a6.j.2 TB.j.olt WY.j eo.j;have ez:=aJ (And.intro (ak.1.of_gr Gy) (ak.2.trans (bJ.of_gr Gy)));have ga:(w5.setCell (Q ob 0 G) (O Z 6)).drew.cell? (Q vb 0 G)=Y (O Z num):=b5.j _ (dp _ _ _ _ cy);have c':=aJ a4;have cu:=aJ ga;have HK:=aJ hK;clear hK Vm a4 ak ga;refine aW bZ ?_;go_simp
     have hK:=HK.j;clear WN WL;generalize (w5.setCell (Q ob 0 G) (O Z 6)).drew=W6 at ez c' cu |-;refine hK.out _ _ (cu.j) λhH=>?_;clear hK;try simp only[Act.put,sA,s0,s1]
     refine tL 4 ?_;refine bQ (i:=5) rfl Q7 λK hK=>?_;have Vm:=mM c'.j;have j1:H W6 (Q ob 4 G)=Y (O Z 0):=Vm.1.2.2.2.2.1;have h5:W6.frozen? ⟨ob,4,G⟩=AS:=Vm.2.2.2.2.2.1;have a2:iP (W6.setCell (Q ob 4 G) (O Z num)) ob 6 num ((s:A)+1):=(wS W6 ob 4 _ _ _ c'.j).trans Q6;have aM:=ez.j.1.outSet (o:=4) (v:=O Z num) a6.j.2 TB.j.olt WY.j ez.j.2;have g5:H (W6.setCell (Q ob 4 G) (O Z num)) (Q vb 0 G)=Y (O Z num):=by
      have:=cu.j
      rw[<-this];unfold World.cell?;rw[show(W6.setCell (Q ob 4 G) (O Z num)).heap[(⟨vb,0,G⟩:Addr).block]? =W6.heap[(⟨vb,0,G⟩:Addr).block]? from dp _ _ _ _ cy]
     have b':=aJ aM;have Vc:=aJ a2;have ho:=aJ g5;have HK:=aJ hK;clear hK Vm a2 aM g5;refine aW bZ ?_;go_simp
     have hK:=HK.j;clear j1 h5;generalize W6.setCell (Q ob 4 G) (O Z num)=W7 at b' Vc ho |-;refine hK.out _ _ (ho.j) λhH=>?_;clear hK;try simp only[Act.put,sA,s0,s1]
     refine Ev Q7 ?_ _;clear hH;have Wq:MW C W7 ρ3 nm fbn cs ct [] bs tk FIN.told:=by rw[Ur.j];exact b'.j.1
     have Wo:=aJ Vc.j;have Vh:=aJ ((b'.j.2).keepAt T7.j VA.j).1;have UU:=aJ (Kg _ rb _ #[O Z 6,O Z 0,O Z 0,O Z 0,O Z num,J G 0 0,O Z ((s:A)+1)] _ _ Vh.j);have VM:=aJ (uB.of (FIN:=FIN) Wq (b'.j.2) T7.j VA.j WV.j Va.j WQ.j #[O Z 6,O Z 0,O Z 0,O Z 0,O Z num,J G 0 0,O Z ((s:A)+1)]);go_upto_region 38 with fail
     obtain⟨dO,UI⟩:=Tryz.undOut;refine MG ?_;refine Mm rfl 47 _ rfl ob rfl _ _ _ (.struct dO) Wo.j UI rfl Tryz.sizOut ?_;refine Mh rfl 47 _ _ rfl rb #[O Z 6,O Z 0,O Z 0,O Z 0,O Z num,J G 0 0,O Z ((s:A)+1)] rfl rfl _ _ Vh.j Tryz.sizOut rfl Qr ?_;have V6:=aJ UI;clear UI;generalize Wm:W7.setRow rb #[O Z 6,O Z 0,O Z 0,O Z 0,O Z num,J G 0 0,O Z ((s:A)+1)]=WE at UU VM |-;clear Wm;go_wp2_with fail;try rw[ME]
     refine qn (v:=.agg #[O Z 6,O Z 0,O Z 0,O Z 0,O Z num,J G 0 0,O Z ((s:A)+1)]) (L0 rfl _ _ rb _ _ _ (.struct dO) rfl UU.j V6.j rfl Tryz.sizOut) rfl ?_;exact⟨by rw[Ur.j],VM.j⟩
    | cons y l=>
     have HP:U (cQ C.u C.heap ⟨x,y::l,bs,tk,told⟩=.go ⟨y.behind (y.stack++[v]),l,bs,tk,told⟩):=aJ (by rw[HH.j.step (m:=⟨x,y::l,bs,tk,told⟩) C.heap];unfold eW;simp only[e,Up,cD];rfl);have cp:=TB.j.ok.low;have cp:nA C.u Ts σ x.fn (y::l):=cp;obtain⟨⟨fy,iy,gy,sy,y1,y2,y3,y4,y5,y6,y7,y8,y9⟩,_⟩:=cp;have jn:U (y.pos<200):=aJ (by have h1:=(dm.1 y2).1;have h2:=(HU.j.ok.func fy (dL y1)).2.2.2.1;omega);have Tz:D y.stack<=1000:=by have:=y8.1;rw[Bc]at this;omega
     have ih:=aJ Tz;have gf:D (y::l)<=99:=TB.j.ok.deep;have ja:=aJ gf;have No:=Tryz.frmNe;clear Up hv y1 y2 y3 y4 y5 y6 y7 y8 y9 Tz gf;have bC:U (∀(w5:T) (ρ5:R->cV),MW C w5 ρ5 nm fbn cs ct (y::l) bs tk told->Calls prog 86 #[.pointer (Y ⟨fbn (D l),0,G⟩),.agg #[O Z v.num,.pointer (gi nm v.blk)]] w5 λe w'=>e=.returned (.tuple #[])/\zS C w5 ρ5 nm fbn cs ct (y.st (y.stack++[v])::l) bs tk told w'):=aJ λw5 ρ5 h=>js v h ih.j;generalize gi nm v.blk=aL at HC bC;generalize hR:v.num=num at HC bC;clear hR;go_wp2_with fail;refine HC.j.mono ?_;rintro e w3 ⟨rfl,ρ3,TR,TX⟩;have g4:=(Gr.refl w3).alloc (X #[O Z num,.pointer aL] 184);have bk:=jZ w3 (X #[O Z num,.pointer aL] 184);have a0:=ye (TR.of_gr g4) (by have:=ja.j;omega);rw[eP Q6,show D (y::l)-1=l.length from rfl]at a0;have dT:=aJ a0;have bF:=aJ ((TX.trans (bJ.of_gr g4)).keepAt TE.j.1 TE.j.2);have VH:=aJ (And.intro bk (TR.new_no lj));have aC:=aJ (UJ.j.trans (TX.trans (bJ.of_gr g4)));clear TR TX g4 bk a0;go_wp2_with fail;refine dT.j.mono ?_;rintro e w5 ⟨rfl,aF,ad⟩;have eo:=aJ (aC.j.trans ad);have a6:=aJ (ad.keepAt bF.j.1 bF.j.2);have cL:=(ad.keepAt VH.j.1 VH.j.2).1;have v0:H w5 (Q w3.heap.size 0 G)=Y (O Z num):=by rw[aP cL];rfl
     have v1:H w5 (Q w3.heap.size 1 G)=Y (.pointer aL):=by rw[aP cL];rfl
     have e5:=aJ (bC.j _ _ aF);clear aF ad cL;go_wp2_with fail;refine e5.j.mono ?_;rintro e w6 ⟨rfl,ρ6,ak,a3⟩;have a4:=a3.keepAt a6.j.1 a6.j.2;have hA:=(ak).at1;obtain⟨Ww,Wz⟩:=hA;have hZ:MW C (w6.setCell ⟨fbn (D l),1,G⟩ (O Z (((y.st (y.stack++[v])).pos:A)+1))) ρ6 nm fbn cs ct ((y.st (y.stack++[v])).go ((y.st (y.stack++[v])).pos+1)::l) bs tk told/\bJ w6 (w6.setCell ⟨fbn (D l),1,G⟩ (O Z (((y.st (y.stack++[v])).pos:A)+1))) ρ6 ρ6:=(ak).setPos ((y.st (y.stack++[v])).pos+1);have Tm:iP (w6.setCell ⟨fbn (D l),1,G⟩ (O Z (((y.st (y.stack++[v])).pos:A)+1))) ob 7 0 ((s:A)+1):=(hZ.2.keepAt (a4).1 (a4).2).1;have T5:=aJ (And.intro (o_.go TB.j HU.j HT.j IN (m':=⟨y.behind (y.stack++[v]),l,bs,tk,told⟩) HP.j hZ.1 ((eo.j.trans a3).trans hZ.2) Tm (a4).2 Wf Wp TB.j.tak) Tm.mk);have Vj:Z.wrap (((y.st (y.stack++[v])).pos:A)+1)=((y.st (y.stack++[v])).pos:A)+1:=Ld _ (by have h9:(y.st (y.stack++[v])).pos<200:=jn.j;omega);clear hZ Tm;clear ak a3 a4 v0 v1;exact Nx
   | new _ e h1 hs=>
    have k0:H W2 (Q W1.heap.size 0 G)=Y (O Z 15):=QU
    have k1:H W2 (Q W1.heap.size 1 G)=Y (O Z i.a):=Qy
    have k2:H W2 (Q W1.heap.size 2 G)=Y (O Z i.b):=Qy
    obtain⟨vf,vt,hm⟩:=Uj.j.mb;have TJ:=hm.box;have Up:=HH.j.stack;have TQ:=HH.j.upon.1;obtain⟨ke,ha,j0,kb,gA⟩:=HU.j.sh;obtain⟨gs,aB,vx,rfl,q0,r1⟩:=gA (i.a-1).toNat _ hs;obtain⟨ta,tc,rfl,_⟩:=r1;have h3:=(HU.j.ok.shape _ (dL hs)).2.1;have gU:=(dm.1 hs).1;have e8:=HU.j.ok.few.1;have aD:((i.a-1).toNat:A)<(D C.u.aA:A):=Q5;have h6:Z.wrap (i.a-1)=((i.a-1).toNat:A):=Qq
    have hG:=TB.j.ok.facts HU.j.ok;obtain⟨f1,f2,f3,f4⟩:=hG;have TA:C.u.aA.getD (i.a-1).toNat []=ts:=by rw[mh,hs];rfl
    have b9:D L<=99:=TB.j.ok.deep;have gw:tk<=C.heap:=TB.j.tak;have e0:=TB.j.cts;have e7:D bs<=s:=TB.j.bls;have cn:U (∀w',Gr W2 w'->Calls prog 87 #[.pointer (Y (Q C.mb 6 G)),O Z (D ts:A),vf] w' λe w4=>∃hW ed,ct<=ed/\ed<=ct+1/\e=.returned (.bool (decide (kr C.heap (D ts) (x::L) bs tk+(D ts+1)<=C.heap)))/\MW C w4 ρ nm fbn hW ed (x::L) bs (kr C.heap (D ts) (x::L) bs tk) told/\bJ w' w4 ρ ρ):=aJ (λw' gg=>GP (D ts) Q5 Q5 h8 (Uj.j.of_gr gg) (hm.mv (S:=λ_=>True) (λb hb _=>⟨gg.block b hb Q6,rfl⟩) trivial trivial trivial) Q6 (by show D L+1<=1000;omega) ⟨Wf,Q5⟩ Q5 f4 f1 f2 f3);have cx:U (cQ C.u C.heap ⟨x,L,bs,tk,told⟩=if kr C.heap (D ts) (x::L) bs tk+(D ts+1)<=C.heap then .go ⟨x.behind (a++[⟨0,Y (D bs)⟩]),L,bs++[b],kr C.heap (D ts) (x::L) bs tk+(D ts+1),told⟩ else .stop 8 0 ⟨x,L,bs,tk,told⟩):=aJ (by
     rw[HH.j.step (m:=⟨x,L,bs,tk,told⟩) C.heap];unfold eW;simp only[e,TA];rw[eP Q9,eP Q9,eP Q9,eP Q9,eP Q9,eP Q9,eP Q9,eP Q9,eP Q9,eP Q9,mI trivial];have Up:x.stack=a++b:=Up;rw[Up,kX a b _ TQ.symm,kW a b _ TQ.symm];rfl)
    have bB:U (∀(w4:T) (bj:R->A) (ai:A) (eV:R),MW C w4 ρ nm fbn bj ai (x::L) bs eV told->Calls prog 84 #[.pointer (Y ⟨fbn (D L),0,G⟩),O Z (D ts:A)] w4 λe w5=>∃v,e=.returned v/\w5.ownsRow w4.heap.size 184 2 v (D b) (gT nm b)/\MW C w5 ρ nm fbn bj ai (x.st a::L) bs eV told/\bJ w4 w5 ρ ρ):=aJ (λw4 bj ai eV h4=>by
     rw[TQ];exact zF h4 Up Rv)
    have ev:U (Bd (D bs) b/\(∀z∈x.st a::L,Bd (D bs) z.slots/\Bd (D bs) z.stack)/\∀r∈bs,Bd (D bs) r):=aJ (by
     have US:=f1 x J9;have Up:x.stack=a++b:=Up;have ek:Bd (D bs) x.stack:=US.2;rw[Up]at ek;refine⟨λv hv=>ek v (List.mem_append_right _ hv),λz hz=>?_,f3⟩;rcases Ce.1 hz with rfl|hz
     · exact⟨US.1,λv hv=>ek v (L1 _ hv)⟩
     exact f1 z (Jw _ hz))
    have bp:U (D a<=1000/\D b=D ts/\tk<=C.heap):=aJ (by
     have Up:x.stack=a++b:=Up;rw[Up]at hn;simp at hn;exact⟨Q5,TQ.symm,gw⟩)
    have d:U (∀w',Gr W2 w'->H w' (Q C.mb 0 G)=Y (J (Y (Q gs aB G)) (D C.u.aA) ha)/\H w' (Q W1.heap.size 1 G)=Y (O Z i.a)/\H w' ⟨gs,aB+(i.a-1).toNat,G⟩=Y (J ta (D ts) tc)):=aJ (λw' gg=>⟨gg.cell (by rw[aP TJ,<-j0];rfl) Q6,gg.cell k1 Q6,(Uj.j.gr.trans gg).cell q0 Q6⟩);have gV:U (∀w',Gr W2 w'->H w' (Q C.mb 5 G)=Y vf):=aJ (λw' gg=>gg.cell (by rw[aP TJ];rfl) Q6);clear gA q0 hm TJ k1 k2 Up TQ b9 gw e0 e7 f1 f2 f3 f4 TA e8 hs;generalize iv:D ts=kk at d cn cx bB h3 bp;generalize (i.a-1).toNat=q at d aD gU h6;generalize (D C.u.aA)=h7 at d aD gU;generalize W1.heap.size=ib at d k0 V4 b7 |-;clear iv;go_wp2_with fail;refine xE (S:=(λw'=>H w' (Q C.mb 0 G)=Y (J (Y (Q gs aB G)) h7 ha)/\H w' (Q ib 1 G)=Y (O Z i.a)/\H w' ⟨gs,aB+q,G⟩=Y (J ta kk tc))) Q7 (d.j _ Gy) λhH=>?_;refine tL 0 ?_;refine tL 1 ?_;refine tL 2 ?_;refine tL 3 ?_;refine tL 4 ?_;refine tL 5 ?_;refine tL 6 ?_;refine tL 7 ?_;refine tL 8 ?_;refine tL 9 ?_;refine tL 10 ?_;refine tL 11 ?_;refine Ev Q7 ?_ _;clear hH;have a7:=aJ (Gr.drew (Gr.refl W2));go_upto_region 25 with fail
    generalize W2.drew=W3 at a7 |-;by_cases hr:kr C.heap kk (x::L) bs tk+(kk+1)<=C.heap
    · have hP:=cx.j;rw[mI hr]at hP;have HP:=aJ hP;have hC:=cn.j W3.drew (a7.j.trans Gy);rw[show decide (kr C.heap kk (x::L) bs tk+(kk+1)<=C.heap)=AT by simpa using hr]at hC;have HC:=aJ hC;have ec:=aJ hr;clear hP hC hr;generalize kr C.heap kk (x::L) bs tk=TK at HP HC ec;refine eg [8,9] (S:=(λw'=>H w' (Q C.mb 5 G)=Y vf)) Q7 (gV.j _ (a7.j.trans Gy)) λhH=>?_;refine tS 0 ?_;refine tS 1 ?_;refine tS 2 ?_;refine tS 3 ?_;refine tS 4 ?_;refine tS 5 ?_;refine tS 6 ?_;refine tS 7 ?_;refine dy (i:=8) rfl Q7 λK hK=>?_;refine am rfl 87 _ _ rfl #[.pointer (Y (Q C.mb 6 G)),O Z (kk:A),vf] fZ (Tryz.callRoom _ _) (HC.j.mono ?_);rintro e w4 ⟨bj,ai,ck,TD,rfl,af,ae⟩;have ds:=aJ af;have aC:=aJ ((bJ.of_gr (ρ:=ρ) (a7.j.trans Gy)).trans ae);have Ux:=aJ (And.intro ck TD);clear af ae ck TD;refine .inl ⟨_,rfl,?_⟩;refine hK.out _ _ (λh=>absurd h Q9) ?_;clear hK;try simp only[Act.put,sA,s0,s1]
      refine dy (i:=9) rfl Q7 λK hK=>?_;have HK:=aJ hK;clear hK;refine aW bZ ?_;go_simp
      have hK:=HK.j;refine hK.out _ _ (λh=>absurd h Q9) ?_;clear hK;try simp only[Act.put,sA,s0,s1]
      refine mo Q7 ?_ _;clear hH;have a9:=aJ (ds.j.of_gr (Gr.drew (Gr.refl w4)));have a':=aJ (aC.j.trans (bJ.of_gr (Gr.drew (Gr.refl w4))));have i':=aJ (bB.j _ _ _ _ a9.j);go_wp2_with fail;refine xE (S:=(λ_=>True)) Q7 (trivial) λhH=>?_;refine tL 0 ?_;refine tL 1 ?_;refine tL 2 ?_;refine tL 3 ?_;refine tL 4 ?_;refine bQ (i:=5) rfl Q7 λK hK=>?_;refine am rfl 84 _ _ rfl #[.pointer (Y ⟨fbn (D L),0,G⟩),O Z (kk:A)] fZ (Tryz.callTake _ _) (i'.j.mono ?_);rintro e w5 ⟨v,rfl,cf,aF,ad⟩;have gF:C.V.heap.size<=w4.drew.heap.size:=a9.j.gr.size;have b0:0<=ai:=by have:=Ux.j.1;omega
      have hB:=aJ (GL aF ad gF cf (λk hk=>a9.j.new_no (cf.lt k hk).1) b0 ev.j.2.1 ev.j.2.2 ev.j.1 (by have:=ec.j;omega) (by rw[bp.j.2.1];omega));obtain⟨va,fm,rfl⟩:=aR cf;clear cf aF ad gF b0;refine .inl ⟨_,rfl,?_⟩;refine hK.out _ _ (trivial) λhH=>?_;clear hK;try simp only[Act.put,sA,s0,s1]
      refine bQ (i:=6) rfl Q7 λK hK=>?_;refine am rfl 88 _ _ rfl #[.pointer (Y (Q C.mb 6 G)),J va (D b) fm] fZ (Tryz.callMade _ _) (hB.j.mono ?_);rintro e w6 ⟨ρ6,gX,gW,rfl,ak,a3⟩;have j2:=aJ (a'.j.trans a3);have bC:=aJ (js (⟨0,Y (D bs)⟩:PV) ak (show(x.st a).stack.length<=1000 from bp.j.1));have gm:=aJ (a3.keepAt (a'.j.keepAt TE.j.1 TE.j.2).1 (a'.j.keepAt TE.j.1 TE.j.2).2);clear ak a3;refine .inl ⟨_,rfl,?_⟩;refine hK.out _ _ (trivial) λhH=>?_;clear hK;try simp only[Act.put,sA,s0,s1]
      refine tL 7 ?_;refine Ev Q7 ?_ _;clear hH;go_wp2_with fail;refine bC.j.mono ?_;rintro e w7 ⟨rfl,ρ7,aM,cz⟩;replace aM:MW C w7 ρ7 gX fbn gW ai (x.st (a++[⟨0,Y (D bs)⟩])::L) (bs++[b]) (TK+(D b+1)) told:=aM;have a2:=cz.keepAt gm.j.1 gm.j.2;have e4:0<=ai:=by have:=Ux.j.1;omega
      have hN:U (cQ C.u C.heap ⟨x,L,bs,tk,told⟩=.go ⟨⟨x.fn,x.pos+1,x.slots,a++[⟨0,Y (D bs)⟩]⟩,L,bs++[b],TK+(D b+1),told⟩):=aJ (by rw[bp.j.2.1];exact HP.j);have hA:=(aM).at1;obtain⟨Ww,Wz⟩:=hA;have hZ:MW C (w7.setCell ⟨fbn (D L),1,G⟩ (O Z (((x.st (a++[⟨0,Y (D bs)⟩])).pos:A)+1))) ρ7 gX fbn gW ai ((x.st (a++[⟨0,Y (D bs)⟩])).go ((x.st (a++[⟨0,Y (D bs)⟩])).pos+1)::L) (bs++[b]) (TK+(D b+1)) told/\bJ w7 (w7.setCell ⟨fbn (D L),1,G⟩ (O Z (((x.st (a++[⟨0,Y (D bs)⟩])).pos:A)+1))) ρ7 ρ7:=(aM).setPos ((x.st (a++[⟨0,Y (D bs)⟩])).pos+1);have Tm:iP (w7.setCell ⟨fbn (D L),1,G⟩ (O Z (((x.st (a++[⟨0,Y (D bs)⟩])).pos:A)+1))) ob 7 0 ((s:A)+1):=(hZ.2.keepAt (a2).1 (a2).2).1;have T5:=aJ (And.intro (o_.go TB.j HU.j HT.j IN (m':=⟨⟨x.fn,x.pos+1,x.slots,a++[⟨0,Y (D bs)⟩]⟩,L,bs++[b],TK+(D b+1),told⟩) hN.j hZ.1 ((UJ.j.trans (j2.j.trans cz)).trans hZ.2) Tm (a2).2 e4 Ux.j.2 (by show TK+(D b+1)<=C.heap;rw[bp.j.2.1];exact ec.j)) Tm.mk);have Vj:Z.wrap (((x.st (a++[⟨0,Y (D bs)⟩])).pos:A)+1)=((x.st (a++[⟨0,Y (D bs)⟩])).pos:A)+1:=Ld _ (by have h9:(x.st (a++[⟨0,Y (D bs)⟩])).pos<200:=Ws.j;omega);clear hZ Tm;clear aM cz a2;exact Nx
    have hP:=cx.j;rw[eP hr]at hP;have HP:=aJ hP;have Ur:U (FIN=⟨8,0,0,0,0,told,(s:A)+1⟩):=aJ Qz;have hC:=cn.j W3.drew (a7.j.trans Gy);rw[show decide (kr C.heap kk (x::L) bs tk+(kk+1)<=C.heap)=AS by simpa using hr]at hC;have HC:=aJ hC;clear hP hC hr;generalize kr C.heap kk (x::L) bs tk=TK at HC;refine eg [8,9] (S:=(λw'=>H w' (Q C.mb 5 G)=Y vf)) Q7 (gV.j _ (a7.j.trans Gy)) λhH=>?_;refine tS 0 ?_;refine tS 1 ?_;refine tS 2 ?_;refine tS 3 ?_;refine tS 4 ?_;refine tS 5 ?_;refine tS 6 ?_;refine tS 7 ?_;refine dy (i:=8) rfl Q7 λK hK=>?_;refine am rfl 87 _ _ rfl #[.pointer (Y (Q C.mb 6 G)),O Z (kk:A),vf] fZ (Tryz.callRoom _ _) (HC.j.mono ?_);rintro e w4 ⟨bj,ai,ck,TD,rfl,af,ae⟩;have ds:=aJ af;have aC:=aJ ((bJ.of_gr (ρ:=ρ) (a7.j.trans Gy)).trans ae);clear af ae ck TD;refine .inl ⟨_,rfl,?_⟩;refine hK.out _ _ (λh=>absurd h Q9) ?_;clear hK;try simp only[Act.put,sA,s0,s1]
    refine dy (i:=9) rfl Q7 λK hK=>?_;have HK:=aJ hK;clear hK;refine aW bZ ?_;go_simp
    have hK:=HK.j;refine hK.out _ _ (λh=>absurd h Q9) ?_;clear hK;try simp only[Act.put,sA,s0,s1]
    refine mo Q7 ?_ _;clear hH;have F:=aC.j.keepAt TE.j.1 TE.j.2;have Vm:=mM (F).1;have WN:H w4 (Q ob 0 G)=Y (O Z 7):=Vm.1.1;have WL:w4.frozen? ⟨ob,0,G⟩=AS:=Vm.2.1;have WC:=(ds.j).outSet (o:=0) (v:=O Z 8) (F).2 TB.j.olt WY.j (UJ.j.trans aC.j);have WH:iP (w4.setCell (Q ob 0 G) (O Z 8)) ob 8 0 ((s:A)+1):=(wS w4 ob 0 _ _ _ (F).1).trans Q6;have VK:=aJ WC;have TY:=aJ WH;clear Vm WC WH F;go_upto_region 38 with fail
    clear WN WL;generalize w4.setCell (Q ob 0 G) (O Z 8)=W9 at VK TY |-;have Wq:MW C W9 ρ nm fbn bj ai (x::L) bs TK FIN.told:=by rw[Ur.j];exact VK.j.1
    have Wo:=aJ TY.j;have Vh:=aJ ((VK.j.2).keepAt T7.j VA.j).1;have UU:=aJ (Kg _ rb _ #[O Z 8,O Z 0,O Z 0,O Z 0,O Z 0,J G 0 0,O Z ((s:A)+1)] _ _ Vh.j);have VM:=aJ (uB.of (FIN:=FIN) Wq (VK.j.2) T7.j VA.j WV.j Va.j WQ.j #[O Z 8,O Z 0,O Z 0,O Z 0,O Z 0,J G 0 0,O Z ((s:A)+1)]);go_upto_region 38 with fail
    obtain⟨dO,UI⟩:=Tryz.undOut;refine MG ?_;refine Mm rfl 47 _ rfl ob rfl _ _ _ (.struct dO) Wo.j UI rfl Tryz.sizOut ?_;refine Mh rfl 47 _ _ rfl rb #[O Z 8,O Z 0,O Z 0,O Z 0,O Z 0,J G 0 0,O Z ((s:A)+1)] rfl rfl _ _ Vh.j Tryz.sizOut rfl Qr ?_;have V6:=aJ UI;clear UI;generalize Wm:W9.setRow rb #[O Z 8,O Z 0,O Z 0,O Z 0,O Z 0,J G 0 0,O Z ((s:A)+1)]=WE at UU VM |-;clear Wm;go_wp2_with fail;try rw[ME]
    refine qn (v:=.agg #[O Z 8,O Z 0,O Z 0,O Z 0,O Z 0,J G 0 0,O Z ((s:A)+1)]) (L0 rfl _ _ rb _ _ _ (.struct dO) rfl UU.j V6.j rfl Tryz.sizOut) rfl ?_;exact⟨by rw[Ur.j],VM.j⟩
   | get s2 k e h1 h0 hs hk=>
    have k0:H W2 (Q W1.heap.size 0 G)=Y (O Z 16):=QU
    exact Nj
   | set s2 k e h1 h0 hs hk=>
    have k0:H W2 (Q W1.heap.size 0 G)=Y (O Z 17):=QU
    exact Nj
   | out e=>
    obtain⟨v,rfl,hv⟩:=HH.j.upon.of_one;have k0:H W2 (Q W1.heap.size 0 G)=Y (O Z 20):=QU
    have k1:H W2 (Q W1.heap.size 1 G)=Y (O Z i.a):=Qy
    have k2:H W2 (Q W1.heap.size 2 G)=Y (O Z i.b):=Qy
    have Up:=HH.j.stack;have HC:=aJ (jM Uj.j Up Rv);have il:=Tryz.fld0;have HP:U (cQ C.u C.heap ⟨x,L,bs,tk,told⟩=.go ⟨⟨x.fn,x.pos+1,x.slots,a⟩,L,bs,tk,oO told v.num⟩):=aJ RV;have hO:U (∀(w3:T) (ρ3:R->cV),MW C w3 ρ3 nm fbn cs ct (x.st a::L) bs tk told->Calls prog 90 #[.pointer (Y (Q C.mb 0 G)),O Z v.num] w3 λe w'=>e=.returned (.tuple #[])/\zS C w3 ρ3 nm fbn cs ct (x.st a::L) bs tk (oO told v.num) w'):=aJ λw3 ρ3 h=>GB v.num h TB.j.ok.told;clear Up;generalize dd:gi nm v.blk=aL at HC;clear dd;go_wp2_with fail;refine HC.j.mono ?_;rintro e w3 ⟨rfl,ρ3,TR,TX⟩;have UM:=TX.keepAt TE.j.1 TE.j.2;have ix:=aJ (hO.j _ _ TR);have cj:=aJ TX;have hx:=aJ UM;clear TR TX UM;go_wp2_with fail;refine ix.j.mono ?_;rintro e w4 ⟨rfl,ρ4,af,ae⟩;have F:=ae.keepAt hx.j.1 hx.j.2;have hA:=(af).at1;obtain⟨Ww,Wz⟩:=hA;have hZ:MW C (w4.setCell ⟨fbn (D L),1,G⟩ (O Z (((x.st a).pos:A)+1))) ρ4 nm fbn cs ct ((x.st a).go ((x.st a).pos+1)::L) bs tk (oO told v.num)/\bJ w4 (w4.setCell ⟨fbn (D L),1,G⟩ (O Z (((x.st a).pos:A)+1))) ρ4 ρ4:=(af).setPos ((x.st a).pos+1);have Tm:iP (w4.setCell ⟨fbn (D L),1,G⟩ (O Z (((x.st a).pos:A)+1))) ob 7 0 ((s:A)+1):=(hZ.2.keepAt (F).1 (F).2).1;have T5:=aJ (And.intro (o_.go TB.j HU.j HT.j IN (m':=⟨⟨x.fn,x.pos+1,x.slots,a⟩,L,bs,tk,oO told v.num⟩) HP.j hZ.1 ((UJ.j.trans (cj.j.trans ae)).trans hZ.2) Tm (F).2 Wf Wp TB.j.tak) Tm.mk);have Vj:Z.wrap (((x.st a).pos:A)+1)=((x.st a).pos:A)+1:=Ld _ (by have h9:(x.st a).pos<200:=Ws.j;omega);clear hZ Tm;clear af ae F;exact Nx
   | small e=>exact absurd Q5 al
   | load k e h0 hk=>exact absurd Q5 al
   | store k e h0 hk=>exact absurd Q5 al
   | pop k e=>exact absurd Q5 al
   | dup k e=>exact absurd Q5 al
   | reck e1 e2=>exact absurd Q5 al
   | nil e h1=>exact absurd Q5 al
   | isnil e h1=>exact absurd Q5 al
 have Wh:s=fuel:=by have:=TB.j.le;omega
 have Ur:U (FIN=⟨7,0,0,0,0,told,(s:A)⟩):=aJ (by have:=TB.j.run;rw[Wh,Lf,CF]at this;rw[<-this,Wh]);have Wq:MW C wr ρ nm fbn cs ct (x::L) bs tk FIN.told:=by rw[Ur.j];exact TB.j.mw
 have kx:¬(s:A)<(fuel:A):=Q5;clear Wh;have c6:H wr (Q ob 6 G)=Y (O Z (s:A)):=c7.1.2.2.2.2.2.2;clear c7;have Wo:=aJ hOut;have Vh:=aJ ((TB.j.kp).keepAt T7.j VA.j).1;have UU:=aJ (Kg _ rb _ #[O Z 7,O Z 0,O Z 0,O Z 0,O Z 0,J G 0 0,O Z (s:A)] _ _ Vh.j);have VM:=aJ (uB.of (FIN:=FIN) Wq (TB.j.kp) T7.j VA.j WV.j Va.j WQ.j #[O Z 7,O Z 0,O Z 0,O Z 0,O Z 0,J G 0 0,O Z (s:A)]);go_upto_region 38 with fail
 obtain⟨dO,UI⟩:=Tryz.undOut;refine MG ?_;refine Mm rfl 47 _ rfl ob rfl _ _ _ (.struct dO) Wo.j UI rfl Tryz.sizOut ?_;refine Mh rfl 47 _ _ rfl rb #[O Z 7,O Z 0,O Z 0,O Z 0,O Z 0,J G 0 0,O Z (s:A)] rfl rfl _ _ Vh.j Tryz.sizOut rfl Qr ?_;have V6:=aJ UI;clear UI;generalize Wm:wr.setRow rb #[O Z 7,O Z 0,O Z 0,O Z 0,O Z 0,J G 0 0,O Z (s:A)]=WE at UU VM |-;clear Wm;go_wp2_with fail;try rw[ME]
 refine qn (v:=.agg #[O Z 7,O Z 0,O Z 0,O Z 0,O Z 0,J G 0 0,O Z (s:A)]) (L0 rfl _ _ rb _ _ _ (.struct dO) rfl UU.j V6.j rfl Tryz.sizOut) rfl ?_;exact⟨by rw[Ur.j],VM.j⟩
end Go.Proofs.YtghjmnlapcpbiaaGreatDoor
