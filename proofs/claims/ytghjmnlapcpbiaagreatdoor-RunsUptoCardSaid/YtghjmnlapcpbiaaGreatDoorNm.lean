import Derived.Test.YtghjmnlapcpbiaaGreatDoorNj
namespace Go.Proofs.YtghjmnlapcpbiaaGreatDoor
open _root_ renaming Option.some->Y,Option.none->G,Go.Value.int->O,Go.IntKind.i64->Z,Go.Value.slice->J,List->I,Nat->R,Int->A,Go.World.cell?->H,List.length->D,Go.Obj.cells->X,Go.Value->M,Go.World->T,Go.Addr.mk->Q,Go.RowKit.Hid->U,UInt8->AI,Bool.false->AS,Bool.true->AT,Option->By
open Go.Proofs.Tryz
open Go.RowKit
set_option linter.defProp false
variable{a:Act}{listed:Array Bool}{N:I AI->By (aQ×A)}{xs:I M}{b c fuel i k n o z:R}{oi:Oper}{e t:TypeId}{v' y0 y1 y2 y3 y4:M}{V w':T}{u:aK}
def wS:=@heap_setCell_same
def KO:=@Lib.wp_append_run
def Lx:=@Array.getElem?_eq_none.{0}
def Ml:=@ready_mono
def Mu:=@World.ownsRow.alloc
def M7:=@mem_ready
def Nd:=@getD_set_ne
set_option maxRecDepth 100000
set_option maxHeartbeats 8000000
set_option linter.unusedVariables false
set_option linter.unusedSimpArgs false
open Go.RowKit
attribute [local go_sem ↓] Go.wp_at_zero Go.wp_at_succ
theorem Po{p:Prop}(h:p:=by
 go_wp2_with fail;go_ret
 exact⟨rfl,HG⟩):p:=h
theorem Av(s:ByteArray)(w:T)(hs:s.size<=1000000):
 Calls prog 151 #[.string s] w λx w'=>x=.returned (.string s)/\Gr w w':=by
 have d:=aJ (uE s w hs);go_enter func151,ntmps151
 go_wp2_with fail;refine d.mono ?_;rintro x w' ⟨rfl,F⟩;have HG:=aJ F;exact Po
theorem zU(u:aK)(mb c f:R)(a1 F a3 d a5:By Addr)(c1 c2 c3 c4 c5:R)(s:ByteArray)(q:A)(w:T)(hf:f<=1000)(hs:s.size<=1000000)(hq:0<=q/\q<=1000):
 Calls prog 128 #[.agg #[J a1 (D u.aA) c1,J F (D u.aE) c2,J a3 (D u.aG) c3,J d (D u.aC) c4,J a5 (D u.aD) c5,.map (Y mb),O Z (c:A),O Z (f:A)],.agg #[.string s,O Z q]] w λx w'=>x=.returned (.agg #[.string s,O Z ((f:A)+q)])/\Gr w w':=by
 have hw:Z.wrap _=f+q:=Q_;have TI:=jZ w (X #[J a1 (D u.aA) c1,J F (D u.aE) c2,J a3 (D u.aG) c3,J d (D u.aC) c4,J a5 (D u.aD) c5,.map (Y mb),O Z c,O Z f] 235);have S9:=jZ (w.alloc (X #[J a1 (D u.aA) c1,J F (D u.aE) c2,J a3 (D u.aG) c3,J d (D u.aC) c4,J a5 (D u.aD) c5,.map (Y mb),O Z c,O Z f] 235)) (X #[.string s,O Z q] 71);have ad:=jZ ((w.alloc (X #[J a1 (D u.aA) c1,J F (D u.aE) c2,J a3 (D u.aG) c3,J d (D u.aC) c4,J a5 (D u.aD) c5,.map (Y mb),O Z c,O Z f] 235)).alloc (X #[.string s,O Z q] 71)) (X #[.string ⟨#[]⟩,O Z 0] 71);have s1:(w.alloc (X #[J a1 (D u.aA) c1,J F (D u.aE) c2,J a3 (D u.aG) c3,J d (D u.aC) c4,J a5 (D u.aD) c5,.map (Y mb),O Z c,O Z f] 235)).heap.size=w.heap.size+1:=Q6;have s2:((w.alloc (X #[J a1 (D u.aA) c1,J F (D u.aE) c2,J a3 (D u.aG) c3,J d (D u.aC) c4,J a5 (D u.aD) c5,.map (Y mb),O Z c,O Z f] 235)).alloc (X #[.string s,O Z q] 71)).heap.size=w.heap.size+2:=Q6;have s3:(((w.alloc (X #[J a1 (D u.aA) c1,J F (D u.aE) c2,J a3 (D u.aG) c3,J d (D u.aC) c4,J a5 (D u.aD) c5,.map (Y mb),O Z c,O Z f] 235)).alloc (X #[.string s,O Z q] 71)).alloc (X #[.string ⟨#[]⟩,O Z 0] 71)).heap.size=w.heap.size+3:=Q6;rw[s1]at S9;rw[s2]at ad;have Ta:Gr w (((w.alloc (X #[J a1 (D u.aA) c1,J F (D u.aE) c2,J a3 (D u.aG) c3,J d (D u.aC) c4,J a5 (D u.aD) c5,.map (Y mb),O Z c,O Z f] 235)).alloc (X #[.string s,O Z q] 71)).alloc (X #[.string ⟨#[]⟩,O Z 0] 71)):=(((Gr.refl w).alloc _).alloc _).alloc _;have g2:Gr _ (((w.alloc (X #[J a1 (D u.aA) c1,J F (D u.aE) c2,J a3 (D u.aG) c3,J d (D u.aC) c4,J a5 (D u.aD) c5,.map (Y mb),O Z c,O Z f] 235)).alloc (X #[.string s,O Z q] 71)).alloc (X #[.string ⟨#[]⟩,O Z 0] 71)):=(G0).alloc _;have g1:Gr _ (((w.alloc (X #[J a1 (D u.aA) c1,J F (D u.aE) c2,J a3 (D u.aG) c3,J d (D u.aC) c4,J a5 (D u.aD) c5,.map (Y mb),O Z c,O Z f] 235)).alloc (X #[.string s,O Z q] 71)).alloc (X #[.string ⟨#[]⟩,O Z 0] 71)):=(G5).alloc _;have KH:U (∀w',Gr _ w'->w'.heap[w.heap.size]? =Y _/\w'.heap[w.heap.size+1]? =Y _/\w'.heap[w.heap.size+2]? =Y _):=aJ (λw' g=>
  ⟨((g1.trans g).block _ (by rw[s1];omega) Q6).trans TI,((g2.trans g).block _ (by rw[s2];omega) Q6).trans S9,(g.block _ (by rw[s3];omega) Q6).trans ad⟩)
 have KS:U (∀w',Gr _ w'->H w' ⟨_,7,_⟩=Y (.int _ f)/\H w' ⟨_,0,_⟩=Y (.string s)/\H w' ⟨_,1,_⟩=Y (.int _ q)):=aJ (λw' g=>by
  obtain⟨e0,e1,_⟩:=KH _ g;exact⟨RR,RP,RP⟩)
 have ae:U (∀w',Gr _ w'->H (w'.setRow _ _) ⟨_,7,_⟩=Y (.int _ _)/\H (w'.setRow _ _) ⟨_,0,_⟩=Y (.string s)/\H (w'.setRow _ _) ⟨_,1,_⟩=Y (.int _ q)):=aJ (λw' g=>by
  obtain⟨e0,e1,_⟩:=KH _ g;have d0:(w'.setRow (w.heap.size+2) #[.string s,O Z (f+q)]).heap[w.heap.size]? =_:=(Kk _ _ _ _ Q5).trans e0;have d1:(w'.setRow (w.heap.size+2) #[.string s,O Z (f+q)]).heap[w.heap.size+1]? =_:=(Kk _ _ _ _ Q5).trans e1;exact⟨by rw[aP d0];rfl,by rw[aP d1];rfl,by rw[aP d1];rfl⟩)
 have Te:=aJ Ta;go_enter func128,ntmps128
 go_upto_region 1 with fail
 generalize (((w.alloc _).alloc _).alloc _)=V3 at KH KS ae Te |-;refine xE (S:=(λw'=>H w' _=Y _/\H w' _=Y _/\H w' _=Y _)) Q7 (KS _ Gy) λhH=>?_;refine tL 0 ?_;refine tL 1 ?_;refine tL 3 ?_;refine tL 4 ?_;refine tL 5 ?_;refine tL 6 ?_;refine tL 7 ?_;refine bQ (i:=2) rfl Q7 λK hK=>?_;refine am rfl _ _ _ rfl _ fZ (Tryz.callClo _ _) ((Av s _ hs).mono ?_);rintro x w2 ⟨rfl,IT⟩;have OF:=aJ ((Gy).trans IT);refine .inl ⟨_,rfl,?_⟩;refine hK _ _ (KS _ OF) λhH=>?_;try simp only[Act.put,sA,s0,s1]
 refine tL 8 ?_;refine bQ (i:=9) rfl Q7 λK hK=>?_;refine aW bZ (Lc _ _ _ rfl _ #[.string s,O Z (f+q)] bZ fZ _ _ (KH _ OF).2.2 Tryz.infEx rfl Qr ?_);refine hK _ _ (ae _ OF) λhH=>?_;try simp only[Act.put,sA,s0,s1]
 refine Ev Q7 ?_ _;have VI:=Kg _ _ _ #[.string s,O Z (f+q)] _ _ (KH _ OF).2.2;have e0:H (w2.setRow (w.heap.size+2) #[.string s,O Z (f+q)]) ⟨w.heap.size+2,0,G⟩=Y (.string s):=Rq
 have e1:H (w2.setRow (w.heap.size+2) #[.string s,O Z (f+q)]) ⟨w.heap.size+2,1,G⟩=Y (O Z (f+q)):=Rq
 go_wp2_with fail;refine qn (by simp[results,results128,go_sem,e0,e1]) rfl ⟨rfl,?_⟩;exact rQ (Te.trans OF) Q5
def oW(l:I aK)(k:R):R:=((l.take k).map λu=>D u.aD).sum
theorem xX{l:I aK}(h:l[k]? =Y u):oW l (k+1)=oW l k+D u.aD:=by
 obtain⟨hk,rfl⟩:=dm.1 h;unfold oW;exact OR
def uA(l:I aK):Bool:=decide (cw l (D l)<=30)&&(decide (gG l (D l)<=50)&&decide (oW l (D l)<=20))
theorem OZ{p:Prop}(h:p:=by
 go_wp2_with fail;go_ret
 exact⟨by rw[TT];rfl,HG⟩):p:=h
theorem GR(W:T)(l:I aK)(vl:M)(hR:dH W vl l)(ax:D l<=6)(Tb:∀u∈l,bG u=AT):
 Calls prog 78 #[vl] W λx w'=>x=.returned (.bool (uA l))/\Gr W w':=by
 obtain⟨ao,cap,rfl,hm,hc⟩:=hR;have HC:=aJ hc;have UF:=aJ Tb;unfold maxLen at hm;go_enter func78,ntmps78
 go_wp2_with fail;go_loopw[3,4,5,10] (λvf vc ve i wr=>∃(k nf F ne:R),vf=O Z (nf:A)/\vc=O Z (F:A)/\ve=O Z (ne:A)/\i=O Z (k:A)/\k<=D l/\cw l k=nf/\gG l k=F/\oW l k=ne/\nf<=30*k/\F<=50*k/\ne<=20*k/\Gr W wr) λ_ _ _ i _=>D l-(intOf i).toNat
 case atStart=>exact⟨0,0,0,0,rfl,rfl,rfl,rfl,Lz,by simp[cw],by simp[gG],by simp[oW],Q5,Q5,Q5,G0⟩
 obtain⟨k,nf,F,ne,rfl,rfl,rfl,rfl,hk,hF,ad,hE,b1,b2,b3,ae⟩:=hrel;have HG:=aJ ae;have HA:=aJ (And.intro hF (And.intro ad hE));by_cases IN:k<D l
 · obtain⟨u,hu⟩:=aU IN;obtain⟨b,off,v1,v2,v3,v4,v5,rfl,k1,k2,k3,k4,k5,ai⟩:=HC k u hu;obtain⟨a1,a2,a3,a4,a5,c1,c2,c3,c4,c5,he,_⟩:=ai.parts;simp only[Ch,FL,Bk,I7]at he;obtain⟨rfl,rfl,rfl,rfl,rfl⟩:=he;have k1:=HG.cell k1 Q6;have k2:=HG.cell k2 Q6;have k3:=HG.cell k3 Q6;have k4:=HG.cell k4 Q6;have k5:=HG.cell k5 Q6;have d:=jo (UF u (dL hu));have q1:=d.1;have q2:=d.2.1;have q3:=d.2.2.2.1;have UB:(k:A)<D l:=by omega
   have hw:Z.wrap _=k+1:=Q_;have al:Z.wrap _=nf+D u.aG:=Q_;have av:Z.wrap _=F+D u.aE:=Q_;have ak:Z.wrap _=ne+D u.aD:=Q_;have HS:=aJ (And.intro (i8 hu) (And.intro (lK hu) (xX hu)));go_wp2_with fail;refine⟨⟨k+1,nf+D u.aG,F+D u.aE,ne+D u.aD,Q6,Q6,Q6,Q6,IN,?_,?_,?_,Q5,Q5,Q5,HG.alloc _⟩,Qh⟩
   · rw[HS.1,HA.1]
   · rw[HS.2.1,HA.2.1]
   rw[HS.2.2,HA.2.2]
 have af:k=D l:=by omega
 subst af;have HB:U (uA l=(decide _&&(decide _&&decide _))):=aJ (by unfold uA;rw[HA.1,HA.2.1,HA.2.2]);by_cases h1:nf<=30
 · by_cases h2:F<=50
   · have i1:(nf:A)<=30:=by omega
     have i2:(F:A)<=50:=Q5;by_cases h3:ne<=20
     · have i3:(ne:A)<=20:=by omega
       have TT:U (uA l=AT):=aJ (by rw[HB];simp[h1,h2,h3]);exact OZ
     have i3:¬(ne:A)<=20:=by omega
     have TT:U (uA l=AS):=aJ (by rw[HB];simp[h1,h2,h3]);exact OZ
   have i1:(nf:A)<=30:=by omega
   have i2:¬(F:A)<=50:=Q5;have TT:U (uA l=AS):=aJ (by rw[HB];simp[h1,h2]);exact OZ
 have i1:¬(nf:A)<=30:=by omega
 have TT:U (uA l=AS):=aJ (by rw[HB];simp[h1]);exact OZ
section
variable {P:Program} {ops:Array Oper} {QQq:Exit->Act->T->Prop} {md:Region.Mode} {S:T->Prop}
def gx(P:Program)(md:Region.Mode)(ops:Array Oper)(QQq:Exit->Act->T->Prop)(S:T->Prop)(z:R):R->Array Bool->Act->T->Prop
 | 0,listed,a,w=>Region.ready md ops listed=[]/\QQq .normal a w
 | fuel+1,listed,a,w=>
  (Region.ready md ops listed=[]->QQq .normal a w)/\
  ∀i∈Region.ready md ops listed,wpOp P ops QQq i (λa' w'=>(i≠z->S w')/\gx P md ops QQq S z fuel (listed.setIfInBounds i AT) a' w') a w
theorem rr:∀(fuel:R) (listed:Array Bool) (a:Act) (w:T),gx P md ops QQq S z fuel listed a w->wpAny P md ops QQq fuel listed a w
 | 0,_,_,_,h=>h
 | fuel+1,_,_,_,h=>⟨h.1,λi hi=>wpOp_mono (λd w' h'=>rr fuel _ d w' h'.2) (h.2 i hi)⟩
theorem NO{p:Prop}(h:p:=by
 have h1:=Tc e he hb;have h0:=(M7.1 hr).1;rw[heq]at h1;rcases Nat.lt_or_ge i listed.size with h'|h'
 · simp[h']at h0 h1;rw[h0]at h1;cases h1
 simp[Lx h']at h1):p:=h
theorem RL{p:Prop}(h:p:=by rw[h]at hr;cases hr):p:=h
theorem N5{p:Prop}(h:p:=by
 refine⟨λh=>RL,λj hj=>?_⟩;by_cases TG:j=i
 · subst TG;exact hy.wpOp hi hS ⟨λ_=>hS,HHq⟩
 have:=Ml hj TG
 rw[HHq.1]at this;cases this):p:=h
theorem Oe{p:Prop}(h:p:=by
 refine UL k _ hk UB ?_ UZ;by_cases Xo:j=k
 · subst Xo;exact Vw
 rw[Nd _ Xo]at Wy;exact Wy):p:=h
theorem Oz{p:Prop}(h:p:=by subst TG;exact hy.wpOp hi hS ⟨λ_=>hS,HHq⟩):p:=h
theorem wY{oz:Oper}{v:M}(hi:ops[i]? =Y oi)(hz:ops[z]? =Y oz)(ak:i≠z)(af:∃e∈oz.after,Region.binds md e=AT/\e.on=i)(ad:∀(j:R) (o:Oper) cs b,ops[j]? =Y o->o.op≠.select cs b)
 (hQ:∀c a w,QQq (.panic c) (a.put oi.dst v) w->QQq (.panic c) a w):
 ∀(fuel:R) (listed:Array Bool) (a:Act) (w:T),
  (∀j oj,ops[j]? =Y oj->j≠i->listed.getD j AT=AS->(∀e∈oj.after,Region.binds md e=AT->e.on≠i)->oi.apart ops oj=AT)->
  i∈Region.ready md ops listed->YieldsIf P ops S oi v a->S w->
  gx P md ops QQq S z fuel (listed.setIfInBounds i AT) (a.put oi.dst v) w->gx P md ops QQq S z (fuel+1) listed a w:=by
 intro fuel
 induction fuel with
 | zero=>
  intro listed a w _ hr hy hS HHq;exact N5
 | succ fuel ih=>
  intro listed a w UL hr hy hS HHq;refine⟨λh=>RL,λj hj=>?_⟩;by_cases TG:j=i
  · exact Oz
  have h1:=HHq.2 j (Ml hj TG);obtain⟨Vw,oj,d,Tc⟩:=M7.1 hj;have ae:∀e∈oj.after,Region.binds _ e=AT->e.on≠i:=λe he hb heq=>by
   exact NO
  have ai:j≠z:=λe=>by
   subst e;rw[hz]at d;cases d
   obtain⟨e,he,hb,heq⟩:=af;exact ae e he hb heq
  have h2:=wpOp_putIf d (UL j _ d TG Vw ae) (λcs b=>ad i _ _ b hi) (λcs b=>ad j _ _ b d) hQ hy h1;have F:∀k ok,ops[k]? =Y _->k≠i->(listed.setIfInBounds j _).getD k _=AS->
   (∀e∈ok.after,Region.binds _ e=AT->e.on≠i)->oi.apart _ ok=AT:=λk ok hk UB Wy UZ=>by
   exact Oe
  refine wpOp_mono (λa' w' h3=>⟨h3.2.1,ih _ _ _ F (Ml hr (Nc TG)) h3.1 (h3.2.1 ai) ?_⟩) h2;rw[Jb _ _ TG];exact h3.2.2
end
section
variable {P:Program} {l:I Oper} {md:Region.Mode} {QQq:Exit->Act->T->Prop} {S:T->Prop}
def xB(md:Region.Mode)(l:I Oper)(z i:R):Bool:=match l[z]? with
 | some oz=>oz.after.toList.any λe=>Region.binds md e&&decide (e.on=i)
 | none=>AS
theorem yu(h:xB md l z i=AT):∃d,l[z]? =Y d/\∃e∈d.after,Region.binds md e=AT/\e.on=i:=by
 unfold xB at h;cases F:l[z]? with
 | none=>rw[F]at h;cases h
 | some d=>
  rw[F]at h;simp only[Mj,sQ,xw]at h;obtain⟨e,he,h1,h2⟩:=h;exact⟨_,rfl,e,by simpa using he,h1,h2⟩
theorem me{v:M}{w:T}(hi:l[i]? =Y oi)(F:xB md l z i=AT)(ad:i≠z)
 (hs:Region.noSelect l.toArray=AT) (hf:Region.free md l.toArray listed i=AT) (hr:(Region.ready md l.toArray listed).contains i=AT)
 (hQ:∀c a w,QQq (.panic c) (a.put oi.dst v) w->QQq (.panic c) a w) (hw:Region.wanted oi (yielded l.toArray a.tmps)=AT) (hy:∀w,S w->(execOp a.eval oi).run P w=.ok (.value v) w) (hS:S w)
 (h:gx P md l.toArray QQq S z fuel (listed.setIfInBounds i AT) (a.put oi.dst v) w):gx P md l.toArray QQq S z (fuel+1) listed a w:=by
 obtain⟨oz,hz,d⟩:=yu F;exact wY Q' SD ad d (Lg hs) hQ _ _ a w (Region.free_spec Q' hf) (by simpa using hr) (.inl ⟨hw,hy⟩) hS h
theorem tZ{P:Program}{l:I Oper}{md:Region.Mode}{QQq:Exit->Act->T->Prop}{S:T->Prop}(i:R){oi:Oper}{v:M}{fuel:R}{listed L':Array Bool}{a a':Act}{w:T}(h:gx P md l.toArray QQq S z fuel L' a' w)(hi:l[i]? =Y oi:=by rfl)(hy:∀w,S w->(execOp a.eval oi).run P w=.ok (.value v) w:=by intro w hS;go_simp<;>rfl)(hS:S w:=by assumption)(d:xB md l z i=AT:=by kernel_rfl)(F:i≠z:=by decide)(hs:Region.noSelect l.toArray=AT:=by kernel_rfl)(hf:Region.free md l.toArray listed i=AT:=by kernel_rfl)(hr:(Region.ready md l.toArray listed).contains i=AT:=by kernel_rfl)(hQ:∀c a w,QQq (.panic c) (a.put oi.dst v) w->QQq (.panic c) a w:=by intro c a w h;exact h)(hw:Region.wanted oi (yielded l.toArray a.tmps)=AT:=by rfl)(ha:a.put oi.dst v=a':=by first|(simp only[Act.put,sA,s0,s1];rfl)|rfl)(hl:listed.setIfInBounds i AT=L':=by first|(simp only[sA,s0,s1];rfl)|rfl):gx P md l.toArray QQq S z (fuel+1) listed a w:=me hi d F hs hf hr hQ hw hy hS (ha▸hl▸h)
theorem eh{o:Oper}{w:T}(ho:l[i]? =Y o)(F:Region.ready md l.toArray listed=[i])
 (h:∀d:Act->T->Prop,Shut (∀a w,(i≠z->S w)->((i≠z->S w)->gx P md l.toArray QQq S z fuel (listed.setIfInBounds i AT) a w)->d a w)->if Region.wanted o (yielded l.toArray a.tmps)=AT then Oper.wp P o a w d QQq else d (a.put o.dst undef) w):gx P md l.toArray QQq S z (fuel+1) listed a w:=by
 refine⟨λh0=>absurd (F▸h0) Q6,F▸λj hj=>?_⟩;obtain rfl:=by simpa using hj
 exact wpOp_step (by simpa using ho) λd hK=>h _ λa w hS hW=>hK a w ⟨hS,hW hS⟩
theorem mf{w:T}(d:Region.ready md l.toArray listed=[])(h:QQq .normal a w):∀fuel,gx P md l.toArray QQq S z fuel listed a w
 | 0=>⟨d,h⟩
 | _+1=>⟨λ_=>h,by rw[d];simp⟩
theorem eD(z:R){id:R}{a:Act}{w:T}(hm:P.follows .mixedOrders=AT)(hS:S w.drew)
 (h:S w.drew->gx P .any l.toArray QQq S z l.toArray.size (Array.replicate l.toArray.size AS) a w.drew):(Code.region id l.toArray AT).wp P QQq a w:=
 wp_region_any hm (rr _ _ _ _ (h hS))
end
inductive Rl where
 | bx|sh|co|fu|ex
 | sI (i:R)|fp (i:R)|fl (i:R)|fc (i:R)
structure LF where
 vp:M
 vl:M
 vc:M
 f:aQ
structure LX where
 s:ByteArray
 q:A
def cF(e:LF):I M:=[e.vp,O Z e.f.result,e.vl,e.vc]
def cX(e:LX):I M:=[.string e.s,O Z e.q]
theorem FJ(e:LF):D (cF e)=4:=rfl
theorem ER(e:LX):D (cX e)=2:=rfl
def LX.p(e:LX):cJ:=⟨e.s.data.toList,e.q⟩
def Ow(ρ:R->Rl)(r:Rl)(w:T)(B:R)(e:TypeId)(n:R)(v:M)(len:R)(xs:I M):Prop:=w.ownsRow B e n v len xs/\∀k,v.ownBlock=Y k->ρ k=r
def Mv(B:R)(r0:Rl)(w w':T)(ρ ρ':R->Rl):Prop:=w.heap.size<=w'.heap.size/\∀k,k<w.heap.size->B<=k->ρ' k=ρ k/\(ρ k≠r0->w'.heap[k]? =w.heap[k]?)
theorem c_{w:T}{B:R}{len:R}{v:M}(h:w.ownsRow B e n v len xs)(g:∀k,v.ownBlock=Y k->w'.heap[k]? =w.heap[k]?):w'.ownsRow B e n v len xs:=by
 refine⟨h.1,?_⟩;rcases h.2 with h|⟨b,cap,cur,e1,F,d,r⟩
 · exact .inl h
 exact .inr ⟨b,_,_,e1,F,(g b (by rw[e1];rfl)).trans d,r⟩
theorem Ow.mv{ρ ρ':R->Rl}{r r0:Rl}{w:T}{B:R}{len:R}{v:M}(h:Ow ρ r w B e n v len xs)(m:Mv B r0 w w' ρ ρ')(hr:r≠r0):Ow ρ' r w' B e n v len xs:=by
 refine⟨c_ h.1 λk d=>?_,λk d=>?_⟩
 · obtain⟨h1,F⟩:=h.1.lt k d;exact(m.2 k F h1).2 (by rw[h.2 k d];exact hr)
 obtain⟨h1,F⟩:=h.1.lt k d;rw[(m.2 k F h1).1];exact h.2 k d
theorem Mv.gr{B:R}{r0:Rl}{w:T}{ρ:R->Rl}(g:Gr w w'):Mv B r0 w w' ρ ρ:=⟨g.size,λk d _=>⟨rfl,λ_=>g.block k d Q6⟩⟩
structure JA(B ab:R)(w:T)(v1 v2 v3 v5:M)(es1:I (M×I A))(cs:I A)(es3:I LF)(es5:I LX)(ρ:R->Rl):Prop where
 box:w.heap[ab]? =Y (X #[v1,v2,v3,J G 0 0,v5] 58 (0,0))
 ab:ab<B
 bs:B<=w.heap.size
 o1:Ow ρ .sh w B 26 1 v1 (D es1) (es1.map (·.1))
 o1i:∀i e,es1[i]? =Y e->Ow ρ (.sI i) w B 3 1 e.1 (D e.2) (fK e.2)
 o2:Ow ρ .co w B 3 1 v2 (D cs) (fK cs)
 o3:Ow ρ .fu w B 74 4 v3 (D es3) (es3.flatMap cF)
 o3i:∀i e,es3[i]? =Y e->Ow ρ (.fp i) w B 3 1 e.vp (D e.f.aH) (fK e.f.aH)/\Ow ρ (.fl i) w B 3 1 e.vl (D e.f.aI) (fK e.f.aI)/\Ow ρ (.fc i) w B 87 3 e.vc (D e.f.code) (e.f.code.flatMap cC)
 o5:Ow ρ .ex w B 71 2 v5 (D es5) (es5.flatMap cX)
theorem JA.step{B ab:R}{w:T}{v1 v2 v3 v5:M}{es1:I (M×I A)}{cs:I A}{es3:I LF}{es5:I LX}{ρ ρ':R->Rl}(h:JA B ab w v1 v2 v3 v5 es1 cs es3 es5 ρ)(g:Gr w w')(hρ:∀k,k<w.heap.size->ρ' k=ρ k):JA B ab w' v1 v2 v3 v5 es1 cs es3 es5 ρ':=by
 have m:∀r0,Mv B r0 w _ _ _:=λr0=>⟨g.size,λk F _=>⟨hρ k F,λ_=>g.block k F Q6⟩⟩
 have d:ab<w.heap.size:=by have:=h.ab;have:=h.bs;omega
 exact⟨(g.block _ d Q6).trans h.box,h.ab,wz h.bs g.size,h.o1.mv (m .bx) nofun,λi e he=>(h.o1i i e he).mv (m .bx) nofun,h.o2.mv (m .bx) nofun,h.o3.mv (m .bx) nofun,λi e he=>⟨(h.o3i i e he).1.mv (m .bx) nofun,(h.o3i i e he).2.1.mv (m .bx) nofun,(h.o3i i e he).2.2.mv (m .bx) nofun⟩,h.o5.mv (m .bx) nofun⟩
theorem wM{B ab:R}{r0:Rl}{w w2 w3:T}{v:M}{ρ ν:R->Rl}(g:Gr w w2)(F:w2.grownBy w3 v.ownBlock)(hv:∀k,v.ownBlock=Y k->ρ k=r0)(ad:ab<B):Mv B r0 w (w3.setCell (Q ab o G) v') ρ (λk=>if k<w.heap.size then ρ k else ν k):=by
 refine⟨by have:=g.size;have:=F.size;simp;omega,λk d hB=>⟨mI d,λhr=>?_⟩⟩;rw[dp _ _ _ _ (by show k≠ab;omega),F.block k (tu d g.size) λe=>hr (hv k e.symm),g.block k d Q6]
theorem wj{B ab:R}{r0:Rl}{w w2 w3:T}{v:M}{ρ ν:R->Rl}{len:R}(g:Gr w w2)(F:w3.ownsRow B e n v' len xs)(hl:v'.ownBlock=v.ownBlock\/v'.ownBlock=Y w2.heap.size)(hv:∀k,v.ownBlock=Y k->ρ k=r0/\k<w.heap.size)(hν:∀k,w.heap.size<=k->v'.ownBlock=Y k->ν k=r0)(ad:ab<B):Ow (λk=>if k<w.heap.size then ρ k else ν k) r0 (w3.setCell (Q ab o G) v') B e n v' len xs:=by
 refine⟨c_ F λk d=>dp _ _ _ _ (by show k≠ab;have:=(F.lt k d).1;omega),λk d=>?_⟩;rcases hl with e|e
 · rw[d]at e;obtain⟨h1,h2⟩:=hv k e.symm;show(if k<w.heap.size then ρ k else ν k)=r0
   rw[mI h2];exact h1
 rw[d]at e;obtain rfl:=tz e;have:¬w2.heap.size<w.heap.size:=by have:=g.size;omega
 show(if w2.heap.size<w.heap.size then ρ w2.heap.size else ν w2.heap.size)=r0
 rw[eP this];exact hν _ Q5 d
theorem wV{B ab:R}{r:Rl}{w w2 w3:T}{v x:M}{ρ ν:R->Rl}{len:R}(g3:w2.grownBy w3 v.ownBlock)(F:w2.ownsRow b e n x len xs)(hb:w.heap.size<=b)(ad:B<=b)(hv:∀k,v.ownBlock=Y k->k<w.heap.size)(hν:∀k,x.ownBlock=Y k->ν k=r)(ae:ab<B):Ow (λk=>if k<w.heap.size then ρ k else ν k) r (w3.setCell (Q ab o G) v') B e n x len xs:=by
 refine⟨?_,λk d=>?_⟩
 · refine c_ (rH F ad) λk d=>?_
   obtain⟨h1,h2⟩:=F.lt k d;rw[dp _ _ _ _ (by show k≠ab;omega),g3.block k h2 λe=>by have:=hv k e.symm;omega]
 have:=(F.lt k d).1
 show(if k<w.heap.size then ρ k else ν k)=r
 rw[eP Q5];exact hν k d
theorem rR{w2 w3:T}{ab:R}{ob:By R}{cur:Array M}{u:M}(d:w2.heap[ab]? =Y (X cur t (0,0)))(F:w2.grownBy w3 ob)(No:ob≠Y ab):(w3.setCell (Q ab o G) u).heap[ab]? =Y (X (cur.setIfInBounds o u) t (0,0)):=
 wS w3 ab o cur t u ((F.block ab (eJ.1 d).1 λe=>No e.symm).trans d)
section
variable {B ab:R} {w w2 w3:T} {v1 v2 v3 v5:M} {es1:I (M×I A)} {cs:I A} {es3:I LF} {es5:I LX} {ρ:R->Rl}
theorem nG{B ab:R}{w:T}{len:R}{v:M}(h:w.ownsRow B e n v len xs)(d:ab<B):v.ownBlock≠Y ab:=λe=>by have:=(h.lt _ e).1;omega
theorem Pj{p:Prop}(h:p:=by
 obtain⟨q1,q2⟩:=hx.lt k hk;rcases hl with e2|e2
 · have:=U6 k (e2.symm.trans e);omega
 rw[e]at e2;have:=tz e2;omega):p:=h
theorem JA.put1(h:JA B ab w v1 v2 v3 v5 es1 cs es3 es5 ρ)(g:Gr w w2){vx:M}{l:I A}{b:R}(hx:w2.ownsRow b 3 1 vx (D l) (fK l))(hb:w.heap.size<=b){v':M}(ho:w3.ownsRow B 26 1 v' (D es1+1) (es1.map (·.1)++[vx]))(g3:w2.grownBy w3 v1.ownBlock)(hl:v'.ownBlock=v1.ownBlock\/v'.ownBlock=Y w2.heap.size):
 ∃ρ',JA B ab (w3.setCell (Q ab 0 G) v') v' v2 v3 v5 (es1++[(vx,l)]) cs es3 es5 ρ'/\Mv B .sh w (w3.setCell (Q ab 0 G) v') ρ ρ':=by
 have U6:=λk hk=>(h.o1.1.lt k hk).2
 have d:=h.ab;have m:Mv B _ w (w3.setCell ⟨_,0,_⟩ v') _ (λk=>if k<w.heap.size then ρ k else if v'.ownBlock=Y k then .sh else .sI (D es1)):=wM g g3 h.o1.2 d;have TJ:=(g.block _ (by have:=h.bs;omega) Q6).trans h.box;refine⟨_,⟨?_,d,wz h.bs m.1,?_,?_,h.o2.mv m nofun,h.o3.mv m nofun,λi e he=>⟨(h.o3i i e he).1.mv m nofun,(h.o3i i e he).2.1.mv m nofun,(h.o3i i e he).2.2.mv m nofun⟩,h.o5.mv m nofun⟩,m⟩
 · exact(rR TJ g3 (nG h.o1.1 d)).trans Q6
 · have:=wj (o:=0) (ν:=λk=>if v'.ownBlock=Y k then .sh else .sI (D es1)) g ho hl (λk hk=>⟨h.o1.2 k hk,U6 k hk⟩) (λk _ hk=>mI hk) d
   simpa using this
 intro i e he;by_cases hi:i<D es1
 · rw[ze hi]at he;exact(h.o1i i e he).mv m nofun
 rw[Ag Q5]at he;by_cases h0:i-D es1=0
 · rw[h0]at he;simp only[JQ,qN]at he;subst he;have F:i=D es1:=by omega
   subst F;refine wV g3 hx hb (wz h.bs hb) U6 (λk hk=>?_) d;refine eP λe=>?_
   exact Pj
 rw[AK jB]at he;cases he
theorem JA.put2(h:JA B ab w v1 v2 v3 v5 es1 cs es3 es5 ρ)(g:Gr w w2){l:I A}{v':M}(ho:w3.ownsRow B 3 1 v' (D cs+D l) (fK cs++fK l))(g3:w2.grownBy w3 v2.ownBlock)(hl:v'.ownBlock=v2.ownBlock\/v'.ownBlock=Y w2.heap.size):
 ∃ρ',JA B ab (w3.setCell (Q ab 1 G) v') v1 v' v3 v5 es1 (cs++l) es3 es5 ρ'/\Mv B .co w (w3.setCell (Q ab 1 G) v') ρ ρ':=by
 have U6:=λk F=>(h.o2.1.lt k F).2
 have d:=h.ab;have m:Mv B _ w (w3.setCell ⟨_,1,_⟩ v') _ _:=wM (ν:=λ_=>.co) g g3 h.o2.2 d;have TJ:=(g.block _ (by have:=h.bs;omega) Q6).trans h.box;refine⟨_,⟨?_,d,wz h.bs m.1,h.o1.mv m nofun,λi e he=>(h.o1i i e he).mv m nofun,?_,h.o3.mv m nofun,λi e he=>⟨(h.o3i i e he).1.mv m nofun,(h.o3i i e he).2.1.mv m nofun,(h.o3i i e he).2.2.mv m nofun⟩,h.o5.mv m nofun⟩,m⟩
 · exact(rR TJ g3 (nG h.o2.1 d)).trans Q6
 have:=wj (o:=1) g ho hl (λk F=>⟨h.o2.2 k F,U6 k F⟩) (λk _ F=>rfl) d
 simpa[fK]using this
theorem JA.put3(h:JA B ab w v1 v2 v3 v5 es1 cs es3 es5 ρ)(g:Gr w w2){e:LF}{b:R}(hp:w2.ownsRow b 3 1 e.vp (D e.f.aH) (fK e.f.aH))(ad:w2.ownsRow b 3 1 e.vl (D e.f.aI) (fK e.f.aI))(hc:w2.ownsRow b 87 3 e.vc (D e.f.code) (e.f.code.flatMap cC))(a1:Fw e.vp e.vl)(a2:Fw e.vp e.vc)(a3:Fw e.vl e.vc)(hb:w.heap.size<=b){v':M}(ho:w3.ownsRow B 74 4 v' (D es3+1) (es3.flatMap cF++cF e))(g3:w2.grownBy w3 v3.ownBlock)(hl:v'.ownBlock=v3.ownBlock\/v'.ownBlock=Y w2.heap.size):
 ∃ρ',JA B ab (w3.setCell (Q ab 2 G) v') v1 v2 v' v5 es1 cs (es3++[e]) es5 ρ'/\Mv B .fu w (w3.setCell (Q ab 2 G) v') ρ ρ':=by
 have U6:=λk hk=>(h.o3.1.lt k hk).2
 have d:=h.ab;obtain⟨ν,hν⟩:∃ν:R->Rl,ν=λk=>if v'.ownBlock=Y k then .fu else if e.vp.ownBlock=Y k then .fp (D es3) else if e.vl.ownBlock=Y k then .fl (D es3) else .fc (D es3):=⟨_,rfl⟩
 have m:Mv B _ w (w3.setCell ⟨_,2,_⟩ v') _ (λk=>if k<w.heap.size then ρ k else ν k):=wM g g3 h.o3.2 d;have TJ:=(g.block _ (by have:=h.bs;omega) Q6).trans h.box;have UZ:∀(x:M) (t:TypeId) (n len:R) (xs:I _),w2.ownsRow b t n x len xs->∀k,x.ownBlock=Y k->¬v'.ownBlock=Y k:=λx t n len xs hx k hk e=>by
  exact Pj
 refine⟨_,⟨?_,d,wz h.bs m.1,h.o1.mv m nofun,λi e he=>(h.o1i i e he).mv m nofun,h.o2.mv m nofun,?_,?_,h.o5.mv m nofun⟩,m⟩
 · exact(rR TJ g3 (nG h.o3.1 d)).trans Q6
 · have:=wj (o:=2) (ν:=ν) g ho hl (λk hk=>⟨h.o3.2 k hk,U6 k hk⟩) (λk _ hk=>by rw[hν];exact mI hk) d
   simpa using this
 intro i x hx;by_cases hi:i<D es3
 · rw[ze hi]at hx;exact⟨(h.o3i i x hx).1.mv m nofun,(h.o3i i x hx).2.1.mv m nofun,(h.o3i i x hx).2.2.mv m nofun⟩
 rw[Ag Q5]at hx;by_cases h0:i-D es3=0
 · rw[h0]at hx;simp only[JQ,qN]at hx;subst hx;have ae:i=D es3:=by omega
   subst ae;have F:=wz h.bs hb;refine⟨wV g3 hp hb F U6 (λk hk=>?_) d,wV g3 ad hb F U6 (λk hk=>?_) d,wV g3 hc hb F U6 (λk hk=>?_) d⟩
   · rw[hν];simp only[eP (UZ _ _ _ _ _ hp k hk),mI hk]
   · rw[hν];simp only[eP (UZ _ _ _ _ _ ad k hk),eP (a1.symm k hk),mI hk]
   rw[hν];simp only[eP (UZ _ _ _ _ _ hc k hk),eP (a2.symm k hk),eP (a3.symm k hk)]
 rw[AK jB]at hx;cases hx
theorem JA.put5(h:JA B ab w v1 v2 v3 v5 es1 cs es3 es5 ρ)(g:Gr w w2){e:LX}{v':M}(ho:w3.ownsRow B 71 2 v' (D es5+1) (es5.flatMap cX++cX e))(g3:w2.grownBy w3 v5.ownBlock)(hl:v'.ownBlock=v5.ownBlock\/v'.ownBlock=Y w2.heap.size):
 ∃ρ',JA B ab (w3.setCell (Q ab 4 G) v') v1 v2 v3 v' es1 cs es3 (es5++[e]) ρ'/\Mv B .ex w (w3.setCell (Q ab 4 G) v') ρ ρ':=by
 have U6:=λk F=>(h.o5.1.lt k F).2
 have d:=h.ab;have m:Mv B _ w (w3.setCell ⟨_,4,_⟩ v') _ _:=wM (ν:=λ_=>.ex) g g3 h.o5.2 d;have TJ:=(g.block _ (by have:=h.bs;omega) Q6).trans h.box;refine⟨_,⟨?_,d,wz h.bs m.1,h.o1.mv m nofun,λi e he=>(h.o1i i e he).mv m nofun,h.o2.mv m nofun,h.o3.mv m nofun,λi e he=>⟨(h.o3i i e he).1.mv m nofun,(h.o3i i e he).2.1.mv m nofun,(h.o3i i e he).2.2.mv m nofun⟩,?_⟩,m⟩
 · exact(rR TJ g3 (nG h.o5.1 d)).trans Q6
 have:=wj (o:=4) g ho hl (λk F=>⟨h.o5.2 k F,U6 k F⟩) (λk _ F=>rfl) d
 simpa using this
end
structure Lo(B ab:R)(V w:T):Prop where
 os:w.os=V.os
 tape:w.tape=V.tape
 output:w.output=V.output
 size:V.heap.size<=w.heap.size
 blk:∀k,k<B->¬k=ab->w.heap[k]? =V.heap[k]?
theorem Lo.gr{B ab:R}{w:T}(h:Lo B ab V w)(g:Gr w w')(hB:B<=V.heap.size):Lo B ab V w':=
 ⟨g.os.trans h.os,g.tape.trans h.tape,g.output.trans h.output,wz h.size g.size,λk d F=>(g.block k (by have:=h.size;omega) Q6).trans (h.blk k d F)⟩
theorem Lo.put{B ab:R}{w w2 w3:T}{v u:M}(h:Lo B ab V w)(g:Gr w w2)(F:w2.grownBy w3 v.ownBlock)(hB:B<=V.heap.size)(hv:∀k,v.ownBlock=Y k->B<=k):Lo B ab V (w3.setCell (Q ab o G) u):=by
 have d:=h.gr g hB;refine⟨F.os.trans d.os,F.tape.trans d.tape,F.output.trans d.output,by have:=d.size;have:=F.size;simp;omega,λk hk hn=>?_⟩;rw[dp _ _ _ _ (by show k≠ab;exact hn),F.block k (by have:=d.size;omega) λe=>by have:=hv k e.symm;omega];exact d.blk k hk hn
theorem Lo.to{B ab:R}{W w:T}(h:Lo B ab V w)(g:Gr W V)(F:W.heap.size<=ab)(d:ab<B):Gr W w:=
 ⟨h.os.trans g.os,h.tape.trans g.tape,h.output.trans g.output,wz g.size h.size,λi hi No=>(h.blk i Q5 Q5).trans (g.block i hi No)⟩
def Bx(B:R)(ρ:R->Rl)(w:T)(b:R)(cells:Array M)(t:TypeId):Prop:=ρ b=.bx/\B<=b/\w.heap[b]? =Y (X cells t (0,0))
theorem Bx.mv{B:R}{ρ ρ':R->Rl}{r0:Rl}{w:T}{cells:Array M}(h:Bx B ρ w b cells t)(m:Mv B r0 w w' ρ ρ')(hr:Rl.bx≠r0):Bx B ρ' w' b cells t:=by
 obtain⟨F,d,h3⟩:=h;obtain⟨m1,m2⟩:=m.2 b (eJ.1 h3).1 d;exact⟨m1.trans F,d,(m2 (by rw[F];exact hr)).trans h3⟩
theorem jE(w:T)(d:Array M)(t:TypeId)(n:R):oK (w.alloc (X d t)) (J (Y (Q w.heap.size 0 G)) n n) n d.toList:=by
 refine⟨_,_,rfl,λj u F=>⟨_,0,rfl,?_⟩⟩;rw[aP (jZ w _),Aq,<-Lk];exact F
theorem Tryz.infS:(Tryz.prog.info? 26).map (λi=>(i.zero,i.size,i.bytes))=Y (Y (J G 0 0),1,24):=Q7
theorem Tryz.infU:(Tryz.prog.info? 74).map (λi=>(i.zero,i.size,i.bytes))=Y (Y (.agg #[J G 0 0,O Z 0,J G 0 0,J G 0 0]),4,80):=Q7
theorem Tryz.infX:(Tryz.prog.info? 71).map (λi=>(i.zero,i.size,i.bytes))=Y (Y (.agg #[.string ⟨#[]⟩,O Z 0]),2,24):=Q7
theorem Tryz.uS:Tryz.prog.underlying 25=Y (.slice 26):=Q7
theorem Tryz.uU:Tryz.prog.underlying 54=Y (.slice 74):=Q7
theorem Tryz.uX:Tryz.prog.underlying 56=Y (.slice 71):=Q7
theorem Tryz.callFun(vals:Array M)(w:T):(callFunc 127 vals).run Tryz.prog w=.ok (.enter 127 vals) w:=Q7
theorem Tryz.callExpo(vals:Array M)(w:T):(callFunc 128 vals).run Tryz.prog w=.ok (.enter 128 vals) w:=Q7
theorem Sv{p:Prop}(h:p:=by rw[aP e];rfl):p:=h
theorem JA.cells{B ab:R}{w:T}{v1 v2 v3 v5:M}{es1:I (M×I A)}{cs:I A}{es3:I LF}{es5:I LX}{ρ:R->Rl}(h:JA B ab w v1 v2 v3 v5 es1 cs es3 es5 ρ):(H w (Q ab 0 G)=Y v1/\H w (Q ab 1 G)=Y v2/\H w (Q ab 2 G)=Y v3/\H w (Q ab 3 G)=Y (J G 0 0)/\H w (Q ab 4 G)=Y v5)/\∀o,w.frozen? ⟨ab,o,G⟩=AS:=by
 have e:=h.box;exact⟨⟨Sv,Sv,Sv,Sv,Sv⟩,λo=>aq e⟩
theorem JA.empty(w:T)(B ab:R)(h:w.heap[ab]? =Y (X yF 58 (0,0)))(F:ab<B)(d:B<=w.heap.size):JA B ab w (J G 0 0) (J G 0 0) (J G 0 0) (J G 0 0) [] [] [] [] (λ_=>.bx):=
 ⟨h,F,d,⟨B5 w _ _ _,nofun⟩,nofun,⟨B5 w _ _ _,nofun⟩,⟨B5 w _ _ _,nofun⟩,nofun,⟨B5 w _ _ _,nofun⟩⟩
theorem JA.keep{B ab rb:R}{w:T}{v1 v2 v3 v5:M}{es1:I (M×I A)}{cs:I A}{es3:I LF}{es5:I LX}{ρ:R->Rl}(h:JA B ab w v1 v2 v3 v5 es1 cs es3 es5 ρ)(hs:w.heap.size<=w'.heap.size)(g:∀k,¬k=rb->w'.heap[k]? =w.heap[k]?)(h1:rb<B)(d:¬rb=ab):JA B ab w' v1 v2 v3 v5 es1 cs es3 es5 ρ:=by
 have m:Mv B .bx w _ ρ _:=⟨hs,λk F hB=>⟨rfl,λ_=>g k Q5⟩⟩;exact⟨(g _ λe=>d e.symm).trans h.box,h.ab,wz h.bs hs,h.o1.mv m nofun,λi e he=>(h.o1i i e he).mv m nofun,h.o2.mv m nofun,h.o3.mv m nofun,λi e he=>⟨(h.o3i i e he).1.mv m nofun,(h.o3i i e he).2.1.mv m nofun,(h.o3i i e he).2.2.mv m nofun⟩,h.o5.mv m nofun⟩
def jJ(w:T)(b:R)(y0 y1 y2 y3 y4:M):T:=((((w.setCell (Q b 0 G) y0).setCell (Q b 1 G) y1).setCell (Q b 2 G) y2).setCell (Q b 3 G) y3).setCell (Q b 4 G) y4
theorem xI(w:T)(b:R)(y0 y1 y2 y3 y4:M):((((w.setCell (Q b 0 G) y0).setCell (Q b 1 G) y1).setCell (Q b 2 G) y2).setCell (Q b 3 G) y3).setCell (Q b 4 G) y4=jJ w b y0 y1 y2 y3 y4:=rfl
theorem i9{w:T}(h:¬k=b):(jJ w b y0 y1 y2 y3 y4).heap[k]? =w.heap[k]? :=by
 unfold jJ;rw[dp _ _ _ _ h,dp _ _ _ _ h,dp _ _ _ _ h,dp _ _ _ _ h,dp _ _ _ _ h]
theorem od{w:T}{z0 z1 z2 z3 z4:M}(h:w.heap[b]? =Y (X #[z0,z1,z2,z3,z4] t (0,0))):(jJ w b y0 y1 y2 y3 y4).heap[b]? =Y (X #[y0,y1,y2,y3,y4] t (0,0)):=by
 unfold jJ;have d:=wS w b 0 _ t y0 h;have h1:=wS _ b 1 _ t y1 d;have F:=wS _ b 2 _ t y2 h1;have h3:=wS _ b 3 _ t y3 F;have h4:=wS _ b 4 _ t y4 h3;exact h4.trans Q6
def Ix(W:T)(l:I aK)(h0:aK)(N:I AI->By (aQ×A))(x:Ending)(w':T):Prop:=∃v1 v2 v3 v5 es1 cs es3 es5 ρ B ab,x=.returned (.agg #[v1,v2,v3,J G 0 0,v5])/\W.heap.size<=ab/\JA B ab w' v1 v2 v3 v5 es1 cs es3 es5 ρ/\es1.map (·.2)=h0.aA/\(cs,es3.map (·.f),es5.map (·.p))=de (oU N) 0 0 l/\Gr W w'
theorem yB{e:cJ}(h:bG u=AT)(he:e∈u.aD):D e.name<=20:=by
 unfold bG cH at h;simp only[sQ]at h;obtain⟨-,-,-,-,-,d⟩:=h;have:=zl.1 d e he
 unfold fi fC at this;exact PH
theorem Iq{f:R}{i:bP}(h:bl i=AT):Bl N u c f i=em (oU N) u c f i:=by
 obtain⟨op,a,b⟩:=i;unfold Bl em;by_cases F:op=0
 · subst F;have ha:0<=a:=by
    simp only[bl,bR,ah,wB]at h;simp at h;omega
   obtain⟨k,rfl⟩:∃k:R,a=k:=⟨a.toNat,Q5⟩;simp
 · by_cases d:op=13
   · subst d;have ha:0<=a:=by
      simp only[bl,bR,ah,wB]at h;simp at h;omega
     obtain⟨k,rfl⟩:∃k:R,a=k:=⟨a.toNat,Q5⟩;simp only[oP,F,L3,KA,A7];congr 1
     by_cases hk:k<D u.aG
     · rw[mI hk,mI Q5]
     rw[eP hk,eP Q5,show((k:A)-D u.aG).toNat=k-(D u.aG) by omega];rfl
   · simp[F,d]
theorem IY{f:R}{g:aQ}(h:g.code.all bl=AT):He N u c f g=nY (oU N) u c f g:=by
 unfold He nY;congr 1
 apply Mc
 intro i hi;exact Iq (zl.1 h i hi)
theorem Qp{p:Prop}(h:p:=by rw[aP TZ];rfl):p:=h
theorem Qw{p:Prop}(h:p:=by intro u hu;simp at hu;subst hu;rfl):p:=h
theorem QP{p:Prop}(h:p:=by intro u hu;simp at hu;rcases hu with rfl|rfl<;>rfl):p:=h
theorem QW{p:Prop}(h:p:=by intro u hu;simp at hu;rcases hu with rfl|rfl|rfl|rfl<;>rfl):p:=h
theorem Ra{p:Prop}(h:p:=by have:=Xe.j;omega):p:=h
theorem Ry{p:Prop}(h:p:=by rw[aP hrb];rfl):p:=h
theorem AE(W0 W:T)(l:I aK)(h0:aK)(vl:M)(mb nn:R)(N:I AI->By (aQ×A))(c6:l[0]? =Y h0)(hR:dH W0 vl l)(hW:Gr W0 W)(hM:mA W0 W mb nn N)(l6:D l<=6)(Tb:∀u∈l,bG u=AT):
 Calls prog 79 #[vl,.map (Y mb)] W (Ix W l h0 N):=by
 obtain⟨k8,kq,rfl,hm,hc⟩:=hR;have HC:=aJ hc;have HW:=aJ hW;have HM:=aJ hM;have UF:=aJ Tb;obtain⟨b0,j',x1,x2,x3,x4,x5,rfl,q1,q2,q3,q4,q5,cn⟩:=hc 0 _ c6;obtain⟨sa,_,_,_,_,sc,_,_,_,_,he,rs,_⟩:=cn.parts;simp only[Ch,FL,Bk,I7]at he;obtain⟨rfl,-,-,-,-⟩:=he;have q1:=hW.cell q1 Q6;simp only[MS,Mo]at q1;have hl:=(dm.1 c6).1;obtain⟨k6,kt,he,hP,hz⟩:=rs;simp only[jj,Bt]at he;obtain⟨rfl,rfl⟩:=he;unfold maxLen at hP hm;have VT:=aJ hz;have a7:=jo (Tb _ (dL c6));have ka:=a7.2.2.2.2.1;have h6:=aJ a7.2.2.2.2.2.2.2;have S9:=jZ (W.alloc (X yF 58)) (X yF 58);have s1:(W.alloc (X yF 58)).heap.size=W.heap.size+1:=Q6;have s2:((W.alloc (X yF 58)).alloc (X yF 58)).heap.size=W.heap.size+2:=Q6;rw[s1]at S9;have T7:=aJ ((((G0).alloc _:Gr _ ((W.alloc _).alloc (X yF 58))).block _ (by rw[s1];omega) Q6).trans (jZ W _));have cM:=aJ (JA.empty _ (W.heap.size+2) _ S9 Q5 (by rw[s2];omega));have OF:U (Gr W ((W.alloc (X yF 58)).alloc (X yF 58))):=aJ (((Gr.refl W).alloc _).alloc _);have ek:=aJ s2;have q1:=OF.cell q1 Q6;clear hc hW hM Tb cn hz a7 S9 s1 s2 q2 q3 q4 q5 c6;go_enter func79,ntmps79
 go_wp2_with fail;generalize ((W.alloc _).alloc _)=V2 at T7 cM OF ek q1 |-;generalize hn:W.heap.size+1=ab at cM |-;generalize hB:W.heap.size+2=B at cM ek;have Xe:=aJ (And.intro hn hB);have bB:B<=V2.heap.size:=by have:=ek.j;omega
 have bC:ab<B:=Q5;have aM:W.heap.size<=ab:=Q5;clear hn hB q1;go_loopw[20] (λi wr=>∃(k:R) (v1:M) (es1:I (M×I A)) (ρ:R->Rl),i=O Z (k:A)/\k<=D h0.aA/\JA B ab wr v1 (J G 0 0) (J G 0 0) (J G 0 0) es1 [] [] [] ρ/\es1.map (·.2)=h0.aA.take k/\Lo B ab V2 wr) λi _=>D h0.aA-(intOf i).toNat
 case atStart=>exact⟨0,_,_,_,rfl,Lz,cM,rfl,⟨rfl,rfl,rfl,lj,λ_ _ _=>rfl⟩⟩
 obtain⟨k,v1,es1,ρ,rfl,hk,hJ,T0,b2⟩:=hrel;have Ua:=aJ (b2.to OF aM bC);have HJ:=aJ hJ;have UA:=aJ T0;have hv:=aJ b2;obtain⟨bg,bj,rfl⟩:=aR hJ.o1.1;clear hJ T0 b2;by_cases IN:k<D h0.aA
 · obtain⟨x,hx⟩:=aU IN;obtain⟨sb,ke,vx,rfl,y1,ry⟩:=VT k x hx;obtain⟨ax,cx,rfl⟩:=ry.shape;have eV:=HW.trans Ua;have y1:=eV.cell y1 Q6;have mm:=h6 x (dL hx);have iv:=aJ (nh _ x _ (ry.gr eV.drew) Q5);have UB:(k:A)<D h0.aA:=by omega
   have hw:Z.wrap _=k+1:=Q_;have jn:U (h0.aA.take _=h0.aA.take k++[x]):=aJ (by
    obtain⟨cu,rfl⟩:=dm.1 hx;exact AB cu)
   have l7:D es1<=20:=by have:=congrArg List.length UA;simp at this;omega
   clear ry hx eV;go_upto_region 5 with fail
   refine eD 7 (S:=(λw'=>H w' _=Y _)) Q7 (HJ.cells.1.1) λhH=>?_;refine tZ 0 ?_;refine tZ 1 ?_;refine tZ 2 ?_;refine eh (i:=3) rfl Q7 λK hK=>?_;refine am rfl _ _ _ rfl _ fZ (Tryz.callCpI _ _) (iv.mono ?_);rintro z w2 ⟨v,rfl,dd,IT⟩;obtain⟨hU,h3,rfl⟩:=aR dd;have d:=aJ IT;have h7:=aJ dd;clear IT dd;refine .inl ⟨_,rfl,?_⟩;refine hK _ _ (λ_=>d.cell HJ.cells.1.1 Q6) λhH=>?_;replace hH:=hH Q9;clear hK;try simp only[Act.put,sA,s0,s1]
   refine eh (i:=4) rfl Q7 λK hK=>?_;refine aW bZ ?_;have HK:=aJ hK;clear hK;go_simp
   refine HK _ _ (λ_=>(d.alloc _).cell HJ.cells.1.1 Q6) λhH=>?_;replace hH:=hH Q9;try simp only[Act.put,sA,s0,s1]
   obtain⟨v5,w5,aB,ak,F,az⟩:=fG (ty:=25) _ _ _ Tryz.infS Tryz.uS rfl Q9 Q9 (eO (L7 HJ.o1.1) (d.alloc _)) (jE _ #[J hU (D x) h3] 26 1) rfl Qw Q5 (by have:=HJ.bs;have:=d.size;simp at this |-;omega);obtain⟨aL,aF,rfl⟩:=aR ak;have ad:Y _≠(J _ _ _).ownBlock:=λe=>nG HJ.o1.1 bC e.symm
   have a8:=F.cell ((d.alloc _).cell HJ.cells.1.1 Q6) ad;have b3:w5.frozen? ⟨_,0,_⟩=AS:=aq ((F.block _ (by have:=HJ.bs;have:=d.size;simp at this |-;omega) ad).trans (((d.alloc _).block _ (by have:=HJ.bs;show ab<wr.heap.size;omega) Q6).trans HJ.box));refine eh (i:=5) rfl Q7 λK hK=>?_;refine aW bZ (KO _ _ _ _ _ rfl _ _ fZ fZ _ _ aB ?_);refine hK _ _ (λ_=>a8) λhH=>?_;replace hH:=hH Q9;clear hK;try simp only[Act.put,sA,s0,s1]
   refine tZ 6 ?_;refine eh (i:=7) rfl Q7 λK hK=>?_;refine aW bZ ?_;have HK:=aJ hK;clear hK;go_simp
   refine HK _ _ (λh=>absurd rfl h) λ_=>?_;try simp only[Act.put,sA,s0,s1]
   refine mf Q7 ?_ _;obtain⟨ρ',ht,_⟩:=(HJ.step Gy λ_ _=>rfl).put1 (d.alloc _) (Mu h7 _) lj ak F az;have h1:=aJ ht;have e9:=aJ ((hv.gr Gy bB).put (o:=0) (u:=J aL (D es1+1) aF) (d.alloc _) F bB λk hk=>(HJ.o1.1.lt k hk).1);clear ht aB ak F az a8 b3;go_wp2_with fail;refine⟨⟨k+1,_,_,_,Q6,IN,h1,?_,e9⟩,Qh⟩;rw[Ju,UA,jn];rfl
 have e2:k=D h0.aA:=by omega
 subst e2;have fr:U (es1.map _=h0.aA):=aJ (by rw[UA,J6]);clear IN hk;go_wp2_with fail;go_loopw[34] (λi wr=>∃(k:R) (v2 v3 v5:M) (cs:I A) (es3:I LF) (es5:I LX) (ρ:R->Rl),i=O Z (k:A)/\k<=D l/\JA B ab wr (J bg (D es1) bj) v2 v3 v5 es1 cs es3 es5 ρ/\de (oU N) 0 0 l=(cs++(de (oU N) (D cs) (D es3) (l.drop k)).1,es3.map (·.f)++(de (oU N) (D cs) (D es3) (l.drop k)).2.1,es5.map (·.p)++(de (oU N) (D cs) (D es3) (l.drop k)).2.2)/\D cs<=50*k/\D es3<=30*k/\D es5<=20*k/\Lo B ab V2 wr) λi _=>D l-(intOf i).toNat
 case atStart=>exact⟨0,_,_,_,_,_,_,_,rfl,Lz,HJ,rfl,Q6,Q6,Q6,hv⟩
 obtain⟨k,v2,v3,v5,cs,es3,es5,ρ,rfl,hk,hJ,fz,k0,l5,lv,b2⟩:=hrel;obtain⟨wU,hY⟩:∃x,x=wr:=⟨_,rfl⟩;subst hY;have cj:=aJ (b2.to OF aM bC);have bL:=aJ hJ;have g4:=aJ fz;have hf:=aJ b2;obtain⟨ca,cf,rfl⟩:=aR hJ.o2.1;obtain⟨bo,a9,rfl⟩:=aR hJ.o3.1;obtain⟨aL,aF,rfl⟩:=aR hJ.o5.1;clear hJ fz b2;by_cases IN:k<D l
 · obtain⟨u,hu⟩:=aU IN;obtain⟨b',kn,y1,y2,y3,y4,y5,he,k1,k2,k3,k4,k5,cn⟩:=HC k u hu;simp only[qN,Ij,I7]at he;obtain⟨rfl,rfl⟩:=he;obtain⟨a1,a2,a3,a4,a5,c1,c2,c3,c4,c5,he,r1,r2,r3,r4,r5⟩:=cn.parts;simp only[Ch,FL,Bk,I7]at he;obtain⟨rfl,rfl,rfl,rfl,rfl⟩:=he;have gU:=HW.trans cj;have k1:=gU.cell k1 Q6;have k2:=gU.cell k2 Q6;have k3:=gU.cell k3 Q6;have k4:=gU.cell k4 Q6;have k5:=gU.cell k5 Q6;have dT:=UF u (dL hu);have e7:=jo dT;obtain⟨l1,k7,l2,k9,l4,g3,hD,-⟩:=e7;have iy:=aJ g3;have Xu:=aJ hD;have gb:=aJ dT;have UB:(k:A)<D l:=by omega
   have hw:Z.wrap _=k+1:=Q_;have h9:U (l.drop k=u::l.drop (k+1)):=aJ (by
    rw[Be IN];have:=by rw[dW IN]at hu;exact tz hu
    rw[this])
   have gA:=(Gr.refl wU).alloc (X (yE u a1 c1 a2 c2 a3 c3 a4 c4 a5 c5) 58);have dw:Gr _ ((wU.alloc (X (yE u a1 c1 a2 c2 a3 c3 a4 c4 a5 c5) 58)).alloc (X #[J a1 (D u.aA) c1,J a2 (D u.aE) c2,J a3 (D u.aG) c3,J a4 (D u.aC) c4,J a5 (D u.aD) c5,.map (Y mb),O Z (D cs),O Z (D es3)] 235)):=(G0).alloc _;have gm:=gA.trans dw;have hI:=jZ wU (X (yE u a1 c1 a2 c2 a3 c3 a4 c4 a5 c5) 58);have e4:=jZ (wU.alloc (X (yE u a1 c1 a2 c2 a3 c3 a4 c4 a5 c5) 58)) (X #[J a1 (D u.aA) c1,J a2 (D u.aE) c2,J a3 (D u.aG) c3,J a4 (D u.aC) c4,J a5 (D u.aD) c5,.map (Y mb),O Z (D cs),O Z (D es3)] 235);have sA:(wU.alloc (X (yE u a1 c1 a2 c2 a3 c3 a4 c4 a5 c5) 58)).heap.size=wU.heap.size+1:=Q6;have sM:((wU.alloc (X (yE u a1 c1 a2 c2 a3 c3 a4 c4 a5 c5) 58)).alloc (X #[J a1 (D u.aA) c1,J a2 (D u.aE) c2,J a3 (D u.aG) c3,J a4 (D u.aC) c4,J a5 (D u.aD) c5,.map (Y mb),O Z (D cs),O Z (D es3)] 235)).heap.size=wU.heap.size+2:=Q6;rw[sA]at e4;have b4:=(dw.block _ (by rw[sA];omega) Q6).trans hI;have bk:=bL.step (ρ':=λq=>if q<wU.heap.size then ρ q else .bx) gm λq hq=>mI hq;have hh:=bL.bs;have hr:Bx B (λq=>if q<wU.heap.size then ρ q else .bx) _ _ _ _:=⟨eP Q5,hh,b4⟩;have hC:Bx B (λq=>if q<wU.heap.size then ρ q else .bx) _ _ _ _:=⟨eP Q5,Q5,e4⟩;obtain⟨ln,w5,aB,ak,F,az⟩:=fG (ty:=26) _ 3 _ Tryz.infI Tryz.uI rfl Q9 Q9 bk.o2.1 (r2.gr (gU.trans gm)).row (by rw[mH];omega) (wJ _) Q5 bk.bs;obtain⟨a0,a6,rfl⟩:=aR ak;have ad:Y _≠(J _ _ _).ownBlock:=λe=>nG bk.o2.1 bC e.symm
   have a8:=F.cell bk.cells.1.2.1 ad;have b3:w5.frozen? ⟨_,1,_⟩=AS:=aq ((F.block _ (by have:=bk.bs;omega) ad).trans bk.box);obtain⟨ρ2,gW,ef⟩:=bk.put2 G0 ak F az;have cz:=(hf.gr gm bB).put (o:=1) (u:=J a0 (D cs+D u.aE) a6) G0 F bB λq hq=>(bk.o2.1.lt q hq).1;have b9:=hr.mv ef nofun;have cy:=hC.mv ef nofun;have h5:=gA.cell bL.cells.1.2.1 Q6;have h4:=gA.cell bL.cells.1.2.2.1 Q6;have ih:=gm.cell bL.cells.1.2.1 Q6;have jb:H ((wU.alloc (X (yE u a1 c1 a2 c2 a3 c3 a4 c4 a5 c5) 58)).alloc (X #[J a1 (D u.aA) c1,J a2 (D u.aE) c2,J a3 (D u.aG) c3,J a4 (D u.aC) c4,J a5 (D u.aD) c5,.map (Y mb),O Z (D cs),O Z (D es3)] 235)) (Q wU.heap.size 1 G)=Y (J a2 (D u.aE) c2):=by rw[aP b4];rfl
   have c62:H (w5.setCell (Q ab 1 G) (J a0 (D cs+D u.aE) a6)) (Q wU.heap.size 2 G)=Y (J a3 (D u.aG) c3):=by rw[aP b9.2.2];rfl
   have hX:=aJ aB;have f':=aJ gW;have cB:=aJ cz;have b7:=aJ b9;have b8:=aJ cy;have H3:=aJ r3;have H4:=aJ r4;have H5:=aJ r5;clear r1 r2 r3 r4 r5 cn hu g3 hD dT gU gA dw gm hI e4 sA sM b4 bk hr hC aB ak F az gW ef cz b9 cy ad;go_wp2_with(at_builtin;refine CH _ rfl _ _ _ _ rfl _ _ rfl rfl _ _ hX.j ?_)
   generalize w5.setCell _ _=w6 at f' cB b7 b8 c62 |-;generalize e5:wU.heap.size+1=gB at b8 |-;generalize kx:wU.heap.size=ub at b7 c62 hh e5 |-;clear c62 a8 b3 h5 h4 ih jb k1 k2 k3 k4 k5;go_loopw[56] (λi wr=>∃(j:R) (v3:M) (ae:I LF) (ρ3:R->Rl),i=O Z (j:A)/\j<=D u.aG/\JA B ab wr (J bg (D es1) bj) (J a0 (D cs+D u.aE) a6) v3 (J aL (D es5) aF) es1 (cs++u.aE) ae es5 ρ3/\ae.map (·.f)=es3.map (·.f)++(u.aG.take j).map (He N u (D cs) (D es3))/\Bx B ρ3 wr ub (yE u a1 c1 a2 c2 a3 c3 a4 c4 a5 c5) 58/\Bx B ρ3 wr gB #[J a1 (D u.aA) c1,J a2 (D u.aE) c2,J a3 (D u.aG) c3,J a4 (D u.aC) c4,J a5 (D u.aD) c5,.map (Y mb),O Z (D cs:A),O Z (D es3:A)] 235/\Lo B ab V2 wr) λi _=>D u.aG-(intOf i).toNat
   case atStart=>exact⟨0,_,_,_,rfl,Lz,f',Q6,b7,b8,cB⟩
   obtain⟨j,v3,ae,ρ3,rfl,hj,di,ds,fy,ck,b5⟩:=hrel;have Te:=aJ (b5.to OF aM bC);have av:=aJ di;have UY:=aJ ds;have g1:=aJ fy;have cv:=aJ ck;have ga:=aJ b5;obtain⟨bo,a9,rfl⟩:=aR di.o3.1;have dO:U (D ae=D es3+j):=aJ (by have:=congrArg List.length ds;simp at this;omega);have kb:D ae<=1000:=by have:=dO.j;omega
   clear di ds fy ck b5;by_cases bF:j<D u.aG
   · obtain⟨g,hg⟩:=aU bF;obtain⟨l3,j2,he,_,hG⟩:=H3.j;simp only[jj,Bt]at he;obtain⟨rfl,rfl⟩:=he;obtain⟨fb,kk,vp,vl,vc,rfl,f0,f1,f2,f3,rp,rl,rc⟩:=hG j g hg;obtain⟨ap,cp,rfl⟩:=rp.shape;obtain⟨al,cl,rfl⟩:=rl.shape;obtain⟨ac,cc,rfl⟩:=rc.shape;have g0:=HW.trans Te;have f0:=g0.cell f0 Q6;have f1:=g0.cell f1 Q6;have f2:=g0.cell f2 Q6;have f3:=g0.cell f3 Q6;obtain⟨z1,z2,z3,z4⟩:=Xu g (dL hg);have gF:Gr _ (wr.alloc (X #[J ap (D g.aH) cp,O Z g.result,J al (D g.aI) cl,J ac (D g.code) cc] 74)):=(G0).alloc _;have g5:=jZ wr (X #[J ap (D g.aH) cp,O Z g.result,J al (D g.aI) cl,J ac (D g.code) cc] 74);have TG:(j:A)<D u.aG:=by omega
     have il:Z.wrap _=j+1:=Q_;have ez:U (u.aG.take _=u.aG.take j++[g]):=aJ (by
      obtain⟨cu,rfl⟩:=dm.1 hg;exact AB cu)
     have Ur:=aJ (DZ _ u _ (D cs) (D es3) N a1 a2 _ _ a5 c1 c2 _ _ c5 g _ _ _ _ _ _ _ ⟨(g0.trans gF).drew,⟨_,HM.gr (Te.trans gF).drew⟩,H3,H4,gb⟩ Q5 Q5 (rp.gr (g0.trans gF).drew) (rl.gr (g0.trans gF).drew) (rc.gr (g0.trans gF).drew) Q5 Q5 Q5 z4);obtain⟨g',BY⟩:∃g',He N u (D cs) (D es3) g=g':=⟨_,rfl⟩;rw[BY]at Ur;have Xr:=aJ BY;clear BY;have KS:U (∀w',Gr _ w'->H w' _=Y _/\H w' ⟨_,0,_⟩=Y (J _ _ _)/\H w' ⟨_,1,_⟩=Y (J _ _ _)/\H w' ⟨_,2,_⟩=Y (J _ _ _)/\H w' ⟨_,3,_⟩=Y (J _ _ _)/\H w' ⟨_,4,_⟩=Y (J _ _ _)/\H w' ⟨_,5,_⟩=Y (.map _)/\H w' ⟨_,6,_⟩=Y (.int _ _)/\H w' ⟨_,7,_⟩=Y (.int _ _)/\H w' ⟨_,0,_⟩=Y (J _ _ _)/\H w' ⟨_,1,_⟩=Y (.int _ _)/\H w' ⟨_,2,_⟩=Y (J _ _ _)/\H w' ⟨_,3,_⟩=Y (J _ _ _)):=aJ (λw' g=>by
      have d0:=((gF.trans g).block _ (eJ.1 cv.2.2).1 Q6).trans cv.2.2;have d1:=(g.block _ Q6 Q6).trans g5;refine⟨(gF.trans g).cell av.cells.1.2.2.1 Q6,?_,?_,?_,?_,?_,?_,?_,?_,?_,?_,?_,?_⟩
      · rw[aP d0];rfl
      · rw[aP d0];rfl
      · rw[aP d0];rfl
      · rw[aP d0];rfl
      · rw[aP d0];rfl
      · rw[aP d0];rfl
      · rw[aP d0];rfl
      · rw[aP d0];rfl
      · rw[aP d1];rfl
      · rw[aP d1];rfl
      · rw[aP d1];rfl
      rw[aP d1];rfl)
     have a':=aJ gF;clear rp rl rc hg hG g0 gF g5;go_upto_region 15 with fail
     refine eD 8 (S:=(λw'=>H w' _=Y _/\H w' _=Y _/\H w' _=Y _/\H w' _=Y _/\H w' _=Y _/\H w' _=Y _/\H w' _=Y _/\H w' _=Y _/\H w' _=Y _/\H w' _=Y _/\H w' _=Y _/\H w' _=Y _/\H w' _=Y _)) Q7 (KS _ Gy) λhH=>?_;refine tZ 0 ?_;refine tZ 1 ?_;refine tZ 2 ?_;refine tZ 3 ?_;refine eh (i:=4) rfl Q7 λK hK=>?_;refine am rfl _ _ _ rfl _ fZ (Tryz.callFun _ _) (Ur.mono ?_);rintro z w2 ⟨ky,lp,l0,rfl,hop,Wl,en,Uz,hd,hA,IT⟩;obtain⟨hO,g6,rfl⟩:=aR hop;obtain⟨gp,ha,rfl⟩:=aR Wl;obtain⟨fv,g2,rfl⟩:=aR en;have d:=aJ IT;have ja:=aJ hop;have j0:=aJ Wl;have jv:=aJ en;have e3:=aJ (And.intro Uz (And.intro hd hA));clear IT hop Wl en Uz hd hA;refine .inl ⟨_,rfl,?_⟩;refine hK _ _ (λ_=>KS _ (Gr.trans Gy d)) λhH=>?_;replace hH:=hH Q9;clear hK;try simp only[Act.put,sA,s0,s1]
     refine eh (i:=5) rfl Q7 λK hK=>?_;refine aW bZ ?_;have HK:=aJ hK;clear hK;go_simp
     refine HK _ _ (λ_=>KS _ ((Gr.trans Gy d).alloc _)) λhH=>?_;replace hH:=hH Q9;try simp only[Act.put,sA,s0,s1]
     obtain⟨v6,w5,aB,ak,F,az⟩:=fG (ty:=54) 54 74 _ Tryz.infU Tryz.uU rfl Q9 Q9 (eO av.o3.1 (a'.drew.trans (d.alloc _))) (jE w2 #[J hO (D g'.aH) g6,O Z g'.result,J gp (D g'.aI) ha,J fv (D g'.code) g2] 74 1) rfl QW Q5 (by have:=av.j.bs;have:=d.j.size;have:=a'.j.size;simp at *;omega)
     obtain⟨c',eu,rfl⟩:=aR ak;have ad:Y _≠(J _ _ _).ownBlock:=λe=>nG av.o3.1 bC e.symm
     have a8:=F.cell ((a'.drew.trans (d.alloc _)).cell av.cells.1.2.2.1 Q6) ad;have b3:w5.frozen? ⟨ab,2,G⟩=AS:=aq ((F.block ab (by have:=av.bs;have:=d.size;have:=a'.size;simp at *;omega) ad).trans (((a'.drew.trans (d.alloc _)).block ab (by have:=av.bs;omega) Q6).trans av.box));have ev:U (H w5 _=Y _/\H w5 _=Y _/\H w5 _=Y _/\H w5 _=Y _/\H w5 _=Y _/\H w5 _=Y _/\H w5 _=Y _/\H w5 _=Y _/\H w5 _=Y _/\H w5 _=Y _/\H w5 _=Y _/\H w5 _=Y _/\H w5 _=Y _):=aJ (by
      have hq:=KS _ ((Gr.trans Gy d).alloc (X #[J hO (D g'.aH) g6,O Z g'.result,J gp (D g'.aI) ha,J fv (D g'.code) g2] 74));have ai:Y _≠(J _ _ _).ownBlock:=λe=>by have:=av.o3.2 _ e.symm;rw[cv.1]at this;cases this
      have b1:Y wr.heap.size≠(J _ _ _).ownBlock:=λe=>by have:=(av.o3.1.lt _ e.symm).2;omega
      obtain⟨s0,s1,s2,s3,s4,s5,s6,s7,s8,s9,ej,i',j1⟩:=hq;exact⟨a8,F.cell s1 ai,F.cell s2 ai,F.cell s3 ai,F.cell s4 ai,F.cell s5 ai,F.cell s6 ai,F.cell s7 ai,F.cell s8 ai,F.cell s9 b1,F.cell ej b1,F.cell i' b1,F.cell j1 b1⟩)
     refine eh (i:=6) rfl Q7 λK hK=>?_;refine aW bZ (KO _ _ _ _ _ rfl _ _ fZ fZ _ _ aB ?_);refine hK _ _ (λ_=>ev) λhH=>?_;replace hH:=hH Q9;clear hK;try simp only[Act.put,sA,s0,s1]
     refine tZ 7 ?_;refine eh (i:=8) rfl Q7 λK hK=>?_;refine aW bZ ?_;have HK:=aJ hK;clear hK;go_simp
     refine HK _ _ (λh=>absurd rfl h) λ_=>?_;try simp only[Act.put,sA,s0,s1]
     refine mf Q7 ?_ _;obtain⟨ρ4,hL,ep⟩:=(av.step a'.drew λ_ _=>rfl).put3 (e:=⟨_,_,_,_⟩) (d.alloc _) (Mu ja _) (Mu j0 _) (Mu jv _) e3.1 e3.2.1 e3.2.2 lj ak F az;have h':=aJ hL;have fg:=aJ (((g1.mv (Mv.gr a'.drew) (r0:=.fu) nofun)).mv ep nofun);have e':=aJ (((cv.mv (Mv.gr a'.drew) (r0:=.fu) nofun)).mv ep nofun);have hZ:=aJ ((ga.gr a'.drew bB).put (o:=2) (u:=J c' (D ae+1) eu) (d.alloc _) F bB λq hq=>(av.o3.1.lt q hq).1);clear hL ep aB ak F az a8 b3 f0 f1 f2 f3;go_wp2_with fail;refine⟨⟨j+1,_,_,_,Q6,bF,h',?_,fg,e',hZ⟩,Qh⟩;rw[Ju,UY,ez,Ju,zx,<-Xr];rfl
   have ed:j=D u.aG:=by omega
   subst ed;have fm:U (ae.map _=es3.map _++u.aG.map _):=aJ (by rw[UY,J6]);have hQ:H wr (Q ub 4 G)=Y (J a5 (D u.aD) c5):=by rw[aP g1.2.2];rfl
   clear bF hj;go_wp2_with fail;clear hQ;obtain⟨wE,h2⟩:∃x,x=wr:=⟨_,rfl⟩;subst h2;go_loopw[72] (λi wr=>∃(j:R) (v5:M) (af:I LX) (ρ5:R->Rl),i=O Z (j:A)/\j<=D u.aD/\JA B ab wr (J bg (D es1) bj) (J a0 (D cs+D u.aE) a6) (J bo (D ae) a9) v5 es1 (cs++u.aE) ae af ρ5/\af.map (·.p)=es5.map (·.p)++(u.aD.take j).map (mq (D es3))/\Bx B ρ5 wr gB #[J a1 (D u.aA) c1,J a2 (D u.aE) c2,J a3 (D u.aG) c3,J a4 (D u.aC) c4,J a5 (D u.aD) c5,.map (Y mb),O Z (D cs:A),O Z (D es3:A)] 235/\Lo B ab V2 wr) λi _=>D u.aD-(intOf i).toNat
   case atStart=>exact⟨0,_,_,_,rfl,Lz,av,Q6,cv,ga⟩
   obtain⟨j,v5,af,ρ5,rfl,hj,ec,eo,ck,b6⟩:=hrel;have Tu:=aJ (b6.to OF aM bC);have ay:=aJ ec;have gy:=aJ eo;have bp:=aJ ck;have gV:=aJ b6;obtain⟨aL,aF,rfl⟩:=aR ec.o5.1;have hE:U (D af=D es5+j):=aJ (by have:=congrArg List.length eo;simp at this;omega);have ki:D af<=1000:=by have:=hE.j;omega
   clear ec eo ck b6;by_cases bF:j<D u.aD
   · obtain⟨x,hx⟩:=aU bF;obtain⟨k',j4,he,_,hb⟩:=H5.j;simp only[jj,Bt]at he;obtain⟨rfl,rfl⟩:=he;obtain⟨xb,fo,vs,rfl,e0,e1,⟨s,rfl,hs,S7⟩⟩:=hb j x hx;have g0:=HW.trans Tu;have e0:=g0.cell e0 Q6;have e1:=g0.cell e1 Q6;have la:=iy x (dL hx);have cL:s.size<=1000000:=by
      have:=yB gb (dL hx)
      rw[<-hs]at this;have e:D s.data.toList=s.size:=by rw[Aj];rfl
      omega
     have gX:Gr _ (wr.alloc (X #[.string s,O Z x.func] 71)):=(G0).alloc _;have gf:=jZ wr (X #[.string s,O Z x.func] 71);have TG:(j:A)<D u.aD:=Q5;have il:Z.wrap _=j+1:=Q_;have ez:U (u.aD.take _=u.aD.take j++[x]):=aJ (by
      obtain⟨cu,rfl⟩:=dm.1 hx;exact AB cu)
     have hT:=aJ (zU u mb (D cs) (D es3) a1 a2 a3 a4 (Y (Q xb fo G)) c1 c2 c3 c4 c5 s x.func (wr.alloc (X #[.string s,O Z x.func] 71)).drew Q5 cL Q5);have KS:U (∀w',Gr _ w'->H w' _=Y _/\H w' ⟨_,0,_⟩=Y (J _ _ _)/\H w' ⟨_,1,_⟩=Y (J _ _ _)/\H w' ⟨_,2,_⟩=Y (J _ _ _)/\H w' ⟨_,3,_⟩=Y (J _ _ _)/\H w' ⟨_,4,_⟩=Y (J _ _ _)/\H w' ⟨_,5,_⟩=Y (.map _)/\H w' ⟨_,6,_⟩=Y (.int _ _)/\H w' ⟨_,7,_⟩=Y (.int _ _)/\H w' ⟨_,0,_⟩=Y (.string s)/\H w' ⟨_,1,_⟩=Y (.int _ _)):=aJ (λw' g=>by
      have d0:=((gX.trans g).block _ (eJ.1 bp.2.2).1 Q6).trans bp.2.2;have d1:=(g.block _ Q6 Q6).trans gf;refine⟨(gX.trans g).cell ay.cells.1.2.2.2.2 Q6,?_,?_,?_,?_,?_,?_,?_,?_,?_,?_⟩
      · rw[aP d0];rfl
      · rw[aP d0];rfl
      · rw[aP d0];rfl
      · rw[aP d0];rfl
      · rw[aP d0];rfl
      · rw[aP d0];rfl
      · rw[aP d0];rfl
      · rw[aP d0];rfl
      · rw[aP d1];rfl
      rw[aP d1];rfl)
     have bt:=aJ gX;have h8:U (LX.p ⟨s,_⟩=mq (D es3) x):=aJ (by unfold LX.p mq;rw[hs]);clear hx hb g0 gX gf hs S7;go_upto_region 20 with fail
     refine eD 8 (S:=(λw'=>H w' _=Y _/\H w' _=Y _/\H w' _=Y _/\H w' _=Y _/\H w' _=Y _/\H w' _=Y _/\H w' _=Y _/\H w' _=Y _/\H w' _=Y _/\H w' _=Y _/\H w' _=Y _)) Q7 (KS _ Gy) λhH=>?_;refine tZ 0 ?_;refine tZ 1 ?_;refine tZ 2 ?_;refine tZ 3 ?_;refine eh (i:=4) rfl Q7 λK hK=>?_;refine am rfl _ _ _ rfl _ fZ (Tryz.callExpo _ _) (hT.mono ?_);rintro z w2 ⟨rfl,IT⟩;have d:=aJ IT;clear IT;refine .inl ⟨_,rfl,?_⟩;refine hK _ _ (λ_=>KS _ (Gr.trans Gy d)) λhH=>?_;replace hH:=hH Q9;clear hK;try simp only[Act.put,sA,s0,s1]
     refine eh (i:=5) rfl Q7 λK hK=>?_;refine aW bZ ?_;have HK:=aJ hK;clear hK;go_simp
     refine HK _ _ (λ_=>KS _ ((Gr.trans Gy d).alloc _)) λhH=>?_;replace hH:=hH Q9;try simp only[Act.put,sA,s0,s1]
     obtain⟨v6,w5,aB,ak,F,az⟩:=fG (ty:=56) 56 71 _ Tryz.infX Tryz.uX rfl Q9 Q9 (eO ay.o5.1 (bt.drew.trans (d.alloc _))) (jE w2 #[.string s,O Z ((D es3:A)+x.func)] 71 1) rfl QP Q5 (by have:=ay.j.bs;have:=d.j.size;have:=bt.j.size;simp at *;omega)
     obtain⟨c',eu,rfl⟩:=aR ak;have ad:Y _≠(J _ _ _).ownBlock:=λe=>nG ay.o5.1 bC e.symm
     have a8:=F.cell ((bt.drew.trans (d.alloc _)).cell ay.cells.1.2.2.2.2 Q6) ad;have b3:w5.frozen? ⟨ab,4,G⟩=AS:=aq ((F.block ab (by have:=ay.bs;have:=d.size;have:=bt.size;simp at *;omega) ad).trans (((bt.drew.trans (d.alloc _)).block ab (by have:=ay.bs;omega) Q6).trans ay.box));have ev:U (H w5 _=Y _/\H w5 _=Y _/\H w5 _=Y _/\H w5 _=Y _/\H w5 _=Y _/\H w5 _=Y _/\H w5 _=Y _/\H w5 _=Y _/\H w5 _=Y _/\H w5 _=Y _/\H w5 _=Y _):=aJ (by
      have hq:=KS _ ((Gr.trans Gy d).alloc (X #[.string s,O Z (D es3+x.func)] 71));have ai:Y _≠(J _ _ _).ownBlock:=λe=>by have:=ay.o5.2 _ e.symm;rw[bp.1]at this;cases this
      have b1:Y wr.heap.size≠(J _ _ _).ownBlock:=λe=>by have:=(ay.o5.1.lt _ e.symm).2;omega
      obtain⟨s0,s1,s2,s3,s4,s5,s6,s7,s8,s9,ej⟩:=hq;exact⟨a8,F.cell s1 ai,F.cell s2 ai,F.cell s3 ai,F.cell s4 ai,F.cell s5 ai,F.cell s6 ai,F.cell s7 ai,F.cell s8 ai,F.cell s9 b1,F.cell ej b1⟩)
     refine eh (i:=6) rfl Q7 λK hK=>?_;refine aW bZ (KO _ _ _ _ _ rfl _ _ fZ fZ _ _ aB ?_);refine hK _ _ (λ_=>ev) λhH=>?_;replace hH:=hH Q9;clear hK;try simp only[Act.put,sA,s0,s1]
     refine tZ 7 ?_;refine eh (i:=8) rfl Q7 λK hK=>?_;refine aW bZ ?_;have HK:=aJ hK;clear hK;go_simp
     refine HK _ _ (λh=>absurd rfl h) λ_=>?_;try simp only[Act.put,sA,s0,s1]
     refine mf Q7 ?_ _;obtain⟨ρ6,hN,gg⟩:=(ay.step bt.drew λ_ _=>rfl).put5 (e:=⟨s,_⟩) (d.alloc _) ak F az;have hV:=aJ hN;have fa:=aJ (((bp.mv (Mv.gr bt.drew) (r0:=.ex) nofun)).mv gg nofun);have ix:=aJ ((gV.gr bt.drew bB).put (o:=4) (u:=J c' (D af+1) eu) (d.alloc _) F bB λq hq=>(ay.o5.1.lt q hq).1);clear hN gg aB ak F az a8 b3 e0 e1;go_wp2_with fail;refine⟨⟨j+1,_,_,_,Q6,bF,hV,?_,fa,ix⟩,Qh⟩;rw[Ju,gy,ez,Ju,zx];show _++(_++[LX.p ⟨s,(D es3:A)+x.func⟩])=_
     rw[h8];rfl
   · have ed:j=D u.aD:=by omega
     subst ed;have e8:U (af.map _=es5.map _++u.aD.map _):=aJ (by rw[gy,J6]);have ho:U (D (cs++u.aE)=D cs+D u.aE):=aJ (fe);clear bF hj;go_wp2_with fail;refine⟨⟨k+1,J a0 (D cs+D u.aE) a6,J bo (D ae) a9,J aL (D af) aF,_,ae,af,ρ5,Q6,IN,?_,?_,by rw[ho];omega,by have:=dO.j;omega,by have:=hE.j;omega,gV⟩,Qh⟩
     · exact ay
     rw[g4,h9,de,fm,e8,ho,dO];have e:u.aG.map (He N u (D cs) (D es3))=u.aG.map _:=Mc λg hg=>IY (Xu g hg).2.2.2
     rw[e];simp only[zx]
 have e2:k=D l:=by omega
 subst e2;have e6:U ((cs,es3.map (·.f),es5.map (·.p))=de _ 0 0 l):=aJ (by rw[g4,Ln];simp[de]);have hrb:=(hf.blk _ Ra Ra).trans T7;obtain⟨⟨d0,d1,d2,d3,d4⟩,_⟩:=bL.cells;have p0:H wU (Q W.heap.size 0 G)=Y (J G 0 0):=Ry
 have p1:H wU (Q W.heap.size 1 G)=Y (J G 0 0):=Ry
 have p2:H wU (Q W.heap.size 2 G)=Y (J G 0 0):=Ry
 have p3:H wU (Q W.heap.size 3 G)=Y (J G 0 0):=Ry
 have p4:H wU (Q W.heap.size 4 G)=Y (J G 0 0):=Ry
 have z0:wU.frozen? ⟨_,0,_⟩=AS:=aq hrb;have z1:wU.frozen? ⟨_,1,_⟩=AS:=aq hrb;have z2:wU.frozen? ⟨_,2,_⟩=AS:=aq hrb;have z3:wU.frozen? ⟨_,3,_⟩=AS:=aq hrb;have z4:wU.frozen? ⟨_,4,_⟩=AS:=aq hrb;have UH:=aJ hrb;clear IN hk hrb;go_wp2_with fail;have UQ:∀q,¬q=W.heap.size->(jJ _ _ (J bg (D es1) bj) (J ca (D cs) cf) (J bo (D es3) a9) (J G 0 0) (J aL (D es5) aF)).heap[q]? =wU.heap[q]? :=λq hq=>i9 hq
 have TZ:=od (y0:=J bg (D es1) bj) (y1:=J ca (D cs) cf) (y2:=J bo (D es3) a9) (y3:=J G 0 0) (y4:=J aL (D es5) aF) UH;rw[xI];have UR:(jJ wU W.heap.size (J bg (D es1) bj) (J ca (D cs) cf) (J bo (D es3) a9) (J G 0 0) (J aL (D es5) aF)).heap.size=wU.heap.size:=by unfold jJ;simp
 have gw:Gr W (jJ wU W.heap.size (J bg (D es1) bj) (J ca (D cs) cf) (J bo (D es3) a9) (J G 0 0) (J aL (D es5) aF)):=⟨cj.j.os,cj.j.tape,cj.j.output,by rw[UR];exact cj.size,λi hi No=>(UQ i Q5).trans (cj.j.block i hi No)⟩;generalize jJ _ _ _ _ _ _ _=WE at UQ TZ UR gw |-;have t0:H WE (Q W.heap.size 0 G)=Y (J bg (D es1) bj):=Qp
 have t1:H WE (Q W.heap.size 1 G)=Y (J ca (D cs) cf):=Qp
 have t2:H WE (Q W.heap.size 2 G)=Y (J bo (D es3) a9):=Qp
 have t3:H WE (Q W.heap.size 3 G)=Y (J G 0 0):=Qp
 have t4:H WE (Q W.heap.size 4 G)=Y (J aL (D es5) aF):=Qp
 refine qn (v:=.agg #[J bg (D es1) bj,J ca (D cs) cf,J bo (D es3) a9,J G 0 0,J aL (D es5) aF]) (by simp[results,results79,go_sem,t0,t1,t2,t3,t4]) rfl ?_;have j3:=Xe.j;exact⟨_,_,_,_,_,_,_,_,_,B,_,rfl,aM,bL.keep Q5 UQ Q5 Q5,fr,e6,gw⟩
end Go.Proofs.YtghjmnlapcpbiaaGreatDoor
