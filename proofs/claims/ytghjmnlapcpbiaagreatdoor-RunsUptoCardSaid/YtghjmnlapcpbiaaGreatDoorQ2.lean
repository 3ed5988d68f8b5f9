import Derived.Test.YtghjmnlapcpbiaaGreatDoorV1
import Derived.ArgAppend
import Derived.Deep.Onto
namespace Go.Proofs.YtghjmnlapcpbiaaGreatDoor
open _root_ renaming Option.some->Y,Option.none->G,Go.Value.int->O,Go.IntKind.i64->Z,Go.Value.slice->J,List->I,Nat->R,Int->A,Go.World.cell?->H,List.length->D,Go.Obj.cells->X,Go.Value->M,Go.World->T,Go.Addr.mk->Q,Go.RowKit.Hid->U,UInt8->AI,Bool.false->AS,Bool.true->AT,Option->By
open Go.Proofs.Tryz
open Go.RowKit
set_option linter.defProp false
variable{l:I A}{r r' y:I AI}{B N b cb g n sb:R}{x x0 x1 x2 x3:M}{w w':T}
def qn:=@bodyPost_ret
def sQ:=@Bool.and_eq_true
def xw:=@decide_eq_true_eq
def Bc:=@List.length_take.{0}
def Lq:=@List.map_cons.{0,0}
def Ls:=@List.cons_append.{0}
def Mb:=@Option.map_some.{0,0}
def Mc:=@List.map_congr_left.{0,0}
def MX:=@Nat.add_assoc
def M':=@UInt8.ofNat_toNat
set_option maxRecDepth 100000
set_option maxHeartbeats 4000000
set_option linter.unusedVariables false
set_option linter.unusedSimpArgs false
open Go.RowKit
attribute [local go_sem ↓] Go.wp_at_zero Go.wp_at_succ
theorem Tryz.rinfo_rlist_shape:(Tryz.prog.info? 26).map (λi=>(i.zero,i.size,i.bytes))=Y (Y (J G 0 0),1,24):=Q7
theorem NI{p:Prop}(h:p:=by refine⟨0,_,_,Lz,rfl,rfl,Tr.gr G5,OF.trans (G5).toGc,by rw[kf];rfl,Q6,λj hj=>?_,λj y hy=>by simp at hy⟩;exact mJ _ S8 _ j (by rw[HM];exact hj)):p:=h
theorem yk(cb B:R)(r:I AI)(e a:A)(w:T)(hc:mE w cb r e a)(hb:cb<B)(hB:B<=w.heap.size):
 Calls prog 110 #[.pointer (Y (Q cb 0 G)),.func (.func 56) #[] #[]] w (tX cb e a w (λw' v (y:I (I A))=>gH B w' v y) (aV cP r)):=by
 have HC:=aJ hc;clear hc;go_enter func110,ntmps110
 go_wp2_with fail;refine(fS _ r e a _ HC).mono ?_;intro x w1 h;cases hn:cW 0 0 r with
 | none=>
  exact NP
 | some p=>
  obtain⟨n,r1⟩:=p;obtain⟨v,rfl,rfl,IS,hg⟩:=h.some_ hn;have Td:=aJ hg;have al:=aJ IS;obtain⟨⟨s,h0,hs⟩,hl,h1,h2,hz,hj⟩:=IS;have S7:s.size=D r1:=RB
  have ak:IntKind.u64.wrap _=s.size:=FP _ Q5;by_cases hle:n<=D r1
  · have HE:U (aV cP r=jf cP n r1):=aJ QI;have hd:(n:A)<=s.size:=by omega
    have ay:n<=1000000:=Q5;clear h hg hn hs hl hz S7 hle;go_wp2;go_region_held3 (λw'=>H w' (Q cb 0 G)=Y (.string s)/\H w' (Q cb 1 G)=Y (O Z e)/\H w' (Q cb 3 G)=Y (O Z a)/\H w' (Q cb 2 G)=Y (O Z 0)) (first|go_keep|(refine⟨?_,?_,?_,?_⟩<;>exact BY.cell Q8 Q6)) (first|(go_at_call 53;refine(aj _ _ _).mono ?_;rintro e w' ⟨rfl,BY⟩))
    have Tr:=aJ (al.gr (Gr.trans Gy BY));have OF:=aJ (Td.trans (Gr.trans Gy BY).toGc);clear BY h0 h1 h2 hj ak hd;obtain⟨i0,hi,TU,Ty,TO⟩:=Lt Tryz.rinfo_rlist_shape;obtain⟨S8,hM⟩:∃S8,S8=madeCells (J G 0 0).cells ((n:A).toNat*i0.size):=⟨_,rfl⟩;have ai:S8.size=n*1:=Ru
    have ax:∀V,(Instr.makeSlice 25 (.int .u64 n) (.int .u64 n)).run prog V=.ok (J (Y (Q V.heap.size 0 G)) n n) (V.alloc (X S8 26)):=by
     intro V;have h:=Ng V 25 26 _ _ underlying25 hi TU .u64 .u64 n n Q5 Q5 RM Q5;rw[<-hM]at h;simpa using h
    have HM:=aJ ai;clear hM ai hi TU Ty TO;go_wp2;have VU:=wz hB OF.size;have Uu:=OF.size;go_loopw[27] (λi wr=>∃(k:R) (ys:I (I A)) (rk:I AI),k<=n/\i=O Z k/\D ys=k/\mE wr cb rk e a/\Gc cb w wr/\jf cP n r1=lZ ys (jf cP (n-k) rk)/\w'.heap.size<wr.heap.size/\(∀j,j<n*1->(∃x,H wr (Q w'.heap.size j G)=Y x)/\wr.frozen? ⟨w'.heap.size,j,G⟩=AS)/\∀j y,ys[j]? =Y y->∃vx,H wr (Q w'.heap.size j G)=Y vx/\gO (w'.heap.size+1) wr vx y) λi _=>n-(intOf i).toNat
    case atStart=>
     exact NI
    case round=>
     obtain⟨k,ys,rk,hk,rfl,F,IS,ad,ae,S7,d,af⟩:=hrel;have HN:=aJ ae;have U5:=aJ af;have Uy:=aJ d;have Te:=aJ ad;have T6:=aJ IS;have Vp:=aJ F;clear ae af d ad IS F ax;by_cases IN:k<n
     · obtain⟨m,hm⟩:∃m,n-k=m+1:=⟨n-k-1,Q5⟩;have Vo:=aJ hm;clear hm;go_wp2_with fail;refine(mG _ (w'.heap.size+1) _ e a _ T6 Q5 Q5).mono ?_;intro x w4 h;cases hf:cP rk with
       | none=>
        exact NK
       | some p=>
        obtain⟨y,r4⟩:=p;obtain⟨v,rfl,hy,IS,hg⟩:=h.some_ hf;have Vt:U (jf _ n _=lZ _ (jf _ (n-(k+1)) _)):=aJ QA;have Ui:Kp (w'.heap.size) _ _:=hg.kp Q5;have Ve:=tu S7 hg.size;have Tk:=aJ (lA Uy Ui S7);have Ux:=aJ IS;have Tg:=aJ (Te.trans hg);have Uq:=aJ Ui;have HY:=aJ hy;clear h hf IS Ui;obtain⟨av,cv,hv⟩:=HY.shape;subst hv;obtain⟨⟨x0,US⟩,TU⟩:=Tk k Q5;have Wa:(0:A)<=k:=Q5;have VD:(k:A)<n:=Q5;clear hg hy;go_wp2;go_roundw
        case rel=>
         have F:=Vp.j;refine⟨_,_,_,Q5,QZ,by simp[F],bX Ux Q5,bw Tg Uu,Vt,Sp,gR Tk,λj z hj=>?_⟩;rcases mP hj with⟨h1,h2⟩|⟨h1,h2⟩
         · obtain⟨vx,q1,q2⟩:=U5 j z h1;exact⟨_,by rw[aO Q5];exact Uq.cell lj q1,(q2.kp (Uq.mono Q5)).kp (Kp.set _ Q5)⟩
         subst h1;subst h2;rw[F];exact⟨_,tO _ _ _ US,HY.kp (Kp.set _ Q5)⟩
        case measure=>exact Qh
     have TN:k=n:=by omega
     subst TN;have UE:U (aV _ r=Y _):=aJ Sq;go_wp2;go_ret
     rw[UE];refine⟨_,rfl,?_,T6,Te⟩;have F:=Vp.j;show gH B wr (J (Y (Q w'.heap.size 0 G)) k k) ys
     refine⟨_,k,by rw[F],QB,λi y hi=>?_⟩;have hq:=U5 i y hi;obtain⟨vx,q1,q2⟩:=hq;exact⟨_,0,_,rfl,VU,by rw[Aq];exact q1,q2.mono Q5⟩
  have HE:U (aV cP r=G):=aJ QJ;exact Nl
theorem kI(op:A):ah op=0\/ah op=1\/ah op=2:=by
 exact OL
theorem Gv{op:A}(d:0<=op)(F:op<=20):op=(UInt8.ofNat op.toNat).toNat:=by simp[LZ];omega
theorem Gc.box{o:R}(h:Gc cb w w')(d:¬b=cb)(F:H w (Q b o G)=Y x):H w' (Q b o G)=Y x:=
 h.cell F (by intro e;simp only[qN]at e;exact d e)
theorem Gc.boxz{o:R}(h:Gc cb w w')(F:¬b=cb)(hx:H w (Q b o G)=Y x)(d:w.frozen? ⟨b,o,G⟩=AS):w'.frozen? ⟨b,o,G⟩=AS:=
 (zc (a:=⟨b,o,G⟩) (h.block b (wI w _ hx) (by intro e;simp only[qN]at e;exact F e))).trans d
def eQ(w:T)(b:R)(x0 x1 x2:M):Prop:=
 w.cell? (Q b 0 G)=Y x0/\H w (Q b 1 G)=Y x1/\H w (Q b 2 G)=Y x2/\w.frozen? ⟨b,0,G⟩=AS/\w.frozen? ⟨b,1,G⟩=AS/\w.frozen? ⟨b,2,G⟩=AS
theorem eQ.gc(h:eQ w b x0 x1 x2)(g:Gc cb w w')(d:¬b=cb):eQ w' b x0 x1 x2:=by
 obtain⟨F,h1,h2,z0,z1,z2⟩:=h;exact⟨g.box d F,g.box d h1,g.box d h2,g.boxz d F z0,g.boxz d h1 z1,g.boxz d h2 z2⟩
theorem eQ.gr(h:eQ w b x0 x1 x2)(g:Gr w w'):eQ w' b x0 x1 x2:=h.gc (cb:=b+1) g.toGc Q5
theorem eQ.new(w:T)(t:TypeId)(x0 x1 x2:M):eQ (w.alloc (X #[x0,x1,x2] t)) w.heap.size x0 x1 x2:=by
 refine⟨?_,?_,?_,?_,?_,?_⟩<;>simp[go_sem]
theorem QD{p:Prop}(h:p:=by rw[iI];exact z1):p:=h
theorem QF{p:Prop}(h:p:=by rw[iI];exact z0):p:=h
theorem QS{p:Prop}(h:p:=by rw[iI];exact z2):p:=h
theorem Rw{p:Prop}(h:p:=by intro e;simp only[Ij]at e;exact hb e.1):p:=h
theorem eQ.other{o:R}{v:M}(h:eQ w b x0 x1 x2)(hb:¬g=b):eQ (w.setCell (Q g o G) v) b x0 x1 x2:=by
 obtain⟨F,h1,h2,z0,z1,z2⟩:=h;have d:∀q,H (w.setCell (Q g o G) v) (Q b q G)=H w _:=λq=>Cn w _ _ _ Rw
 exact⟨(d 0).trans F,(d 1).trans h1,(d 2).trans h2,QF,QD,QS⟩
def ey(r:I AI):By (bP×I AI):=match fI r with
 | none=>G
 | some (b,r1)=>
  if wB (b.toNat:A) 0 20=AT then
   if (b.toNat:A)=1 then (match bn r1 with
    | none=>G
    | some (v,r2)=>Y (⟨b.toNat,v,0⟩,r2))
   else if ah b.toNat=0 then Y (⟨b.toNat,0,0⟩,r1)
   else match cI r1 with
    | none=>G
    | some (v,r2)=>if ah b.toNat=1 then Y (⟨b.toNat,v,0⟩,r2) else (match cI r2 with
     | none=>G
     | some (u,r3)=>Y (⟨b.toNat,v,u⟩,r3))
  else G
theorem NS{p:Prop}(h:p:=by obtain⟨j0,j1,j2,k0,k1,k2⟩:=WT.gc hg Q5;obtain⟨m0,m1,m2,n0,n1,n2⟩:=UH.gc hg Q5;have T6:=aJ IS;have Tg:=aJ (Te.trans hg);have No:¬w.heap.size=w1.heap.size:=Q5;clear h IS hg hf i0 i1 i2 y0 y1 y2 Ub;go_wp2;exact qn (v:=.agg #[O Z b.toNat,O Z v,O Z 0]) (by simp[results,results118,go_sem,m0,m1,m2]) rfl (by rw[HE];exact⟨_,rfl,rfl,bX (bX (bX (bX (T6) Q5) Q5) Q5) Q5,bw (bw (bw (bw (Tg) Q5) Q5) Q5) Q5⟩)):p:=h
theorem O9{p:Prop}(h:p:=by obtain⟨rfl,hg⟩:=h.none_ hf;exact⟨rfl,by unfold ey;rw[HN];simp only[hop,KA,eP Ub,hN,hf];exact⟨rfl,Te.trans hg⟩⟩):p:=h
theorem FZ(cb:R)(r:I AI)(e a:A)(w:T)(hc:mE w cb r e a):
 Calls prog 118 #[.pointer (Y (Q cb 0 G))] w (tX cb e a w (λ_ v (y:bP)=>v=.agg #[O Z y.op,O Z y.a,O Z y.b]) (ey r)):=by
 have aA:cb<w.heap.size:=wI w _ hc.2.2.1;have HC:=aJ hc;clear hc;have ak:=aJ (eQ.new w 87 (O Z 0) (O Z 0) (O Z 0));have ae:=aJ ((Gr.alloc (Gr.refl w) (X #[O Z 0,O Z 0,O Z 0] 87)).toGc (cb:=cb));go_enter func118,ntmps118
 go_wp2_with fail;refine(m_ _ r e a _ (HC.gr ((Gr.refl w).alloc _))).mono ?_;intro x w1 h;cases hn:fI r with
 | none=>
  obtain⟨rfl,hg⟩:=h.none_ hn;exact⟨rfl,by unfold ey;rw[hn];exact⟨rfl,ae.trans hg⟩⟩
 | some p=>
  obtain⟨b,r1⟩:=p;obtain⟨v,rfl,rfl,IS,hg⟩:=h.some_ hn;have Uh:w.heap.size<w1.heap.size:=by have:=hg.size;simp at this;omega
  have hrb:=ak.gc hg Q5;have Td:=aJ (ae.trans hg);have TQ:b.toNat<256:=b.toNat_lt;have ad:=aJ IS;have HN:=aJ hn;clear h IS hg hn;obtain⟨⟨s,h0,hs⟩,hl,h1,h2,hz,hj⟩:=ad.j;clear h0 hs hl hz;have ai:=(zp _ (X #[O Z b.toNat,O Z 0,O Z 0] 87) G).cell h1 Q6;have az:=(zp _ (X #[O Z b.toNat,O Z 0,O Z 0] 87) G).cell h2 Q6;have U7:=(zp _ (X #[O Z b.toNat,O Z 0,O Z 0] 87) G).cell hj Q6;have Wc:=eQ.new w1 87 (O Z b.toNat) (O Z 0) (O Z 0);have ay:=Wc.1;have ax:=aJ Wc;have T7:=aJ (hrb.gc ((Gr.alloc G0 (X #[O Z b.toNat,O Z 0,O Z 0] 87)).toGc (cb:=cb)) Q5);have OF:=aJ (Td.trans ((Gr.alloc G0 (X #[O Z b.toNat,O Z 0,O Z 0] 87)).toGc));clear Wc h1 h2 hj hrb;cases hop:wB (b.toNat:A) 0 20
  · have HE:U (ey r=G):=aJ (by unfold ey;rw[HN];simp[hop]);go_wp2;go_region_with (first|(go_at_call 148;refine(wh _ _).mono ?_;rintro e w' ⟨rfl,rfl⟩)|(go_at_call 53;refine(bA _ _ _).mono ?_;rintro e w' ⟨rfl,BY⟩;refine an ?_))
    all_goals exact⟨rfl,by rw[HE.j];exact⟨rfl,OF.j.trans (Gr.trans Gy BY).toGc⟩⟩
  go_wp2;go_region_held3 (λw'=>H w' (Q cb 1 G)=Y (O Z e)/\H w' (Q cb 3 G)=Y (O Z a)/\H w' (Q cb 2 G)=Y (O Z 0)/\H w' (Q w1.heap.size 0 G)=Y (O Z (b.toNat:A))) (first|go_keep|(refine⟨?_,?_,?_,?_⟩<;>exact BY.cell Q8 Q6)) (first|(go_at_call 148;refine(wh _ _).mono ?_;rintro e w' ⟨rfl,rfl⟩)|(go_at_call 53;refine(aj _ _ _).mono ?_;rintro e w' ⟨rfl,BY⟩))
  have F:=(Gr.trans Gy BY).toGc (cb:=cb);have WT:=aJ (ax.gc F Q5);have UH:=aJ (T7.gc F Q5);have Te:=aJ (OF.trans F);have Tr:=aJ ((ad.gr (Gr.alloc G0 _)).gr (Gr.trans Gy BY));have TV:w1.heap.size<w'.heap.size:=by have:=BY.size;simp at this;omega
  obtain⟨i0,i1,i2,y0,y1,y2⟩:=WT.j;clear BY F ai az U7 ay;by_cases Ub:(b.toNat:A)=1
  · have S9:((b.toNat:A)==1)=AT:=by simpa using Ub
    go_wp2_with fail;refine(qd _ _ e a _ Tr).mono ?_;intro x w3 h;cases hf:bn r1 with
    | none=>
     obtain⟨rfl,hg⟩:=h.none_ hf;exact⟨rfl,by unfold ey;rw[HN];simp only[hop,KA,Ub,hf];exact⟨rfl,Te.trans hg⟩⟩
    | some q=>
     obtain⟨v,r2⟩:=q;obtain⟨_,rfl,rfl,IS,hg⟩:=h.some_ hf;have HE:U (ey r=Y (⟨b.toNat,v,0⟩,r2)):=aJ (by unfold ey;rw[HN];simp only[hop,KA,mI Ub,hf]);exact NS
  have S9:((b.toNat:A)==1)=AS:=by simpa using Ub
  rcases kI b.toNat with hN|hN|hN
  · have HE:U (ey r=Y (⟨b.toNat,0,0⟩,r1)):=aJ (by unfold ey;rw[HN];simp only[hop,KA,eP Ub,hN]);obtain⟨m0,m1,m2,n0,n1,n2⟩:=UH.j;have No:¬w.heap.size=w1.heap.size:=by omega
    clear Ub;go_wp2_with(go_at_call 149;refine(eX _ _).mono ?_;rintro e w' ⟨rfl,rfl⟩)
    exact qn (v:=.agg #[O Z (b.toNat:A),O Z 0,O Z 0]) (by simp[results,results118,go_sem,m0,m1,m2]) rfl (by rw[HE];exact⟨_,rfl,rfl,bX (bX (bX (Tr) Q5) Q5) Q5,bw (bw (bw (Te) Q5) Q5) Q5⟩)
  · go_wp2_with(first|(go_at_call 149;refine(eX _ _).mono ?_;rintro e w' ⟨rfl,rfl⟩))
    refine(ij _ _ e a _ Tr).mono ?_;intro x w3 h;cases hf:cI r1 with
    | none=>
     exact O9
    | some q=>
     obtain⟨v,r2⟩:=q;obtain⟨_,rfl,rfl,IS,hg⟩:=h.some_ hf;have HE:U (ey r=Y _):=aJ (by unfold ey;rw[HN];simp only[hop,KA,eP Ub,hN,hf];rfl);exact NS
  go_wp2_with(first|(go_at_call 149;refine(eX _ _).mono ?_;rintro e w' ⟨rfl,rfl⟩))
  refine(ij _ _ e a _ Tr).mono ?_;intro x w3 h;cases hf:cI r1 with
  | none=>
   exact O9
  | some q=>
   obtain⟨v,r2⟩:=q;obtain⟨_,rfl,rfl,IS,hg⟩:=h.some_ hf;have Vy:=WT.gc hg Q5;have af:=UH.gc hg Q5;have No:¬w.heap.size=w1.heap.size:=Q5;have T6:=aJ (bX (g:=w1.heap.size) (o:=1) (v:=O Z v) IS Q5);have Tg:=aJ (bw (g:=w1.heap.size) (o:=1) (v:=O Z v) (Te.trans hg) Q5);have av:=aJ (af.other (g:=w1.heap.size) (o:=1) (v:=O Z v) Q5);obtain⟨j0,j1,j2,k0,k1,k2⟩:=Vy;have HF:=aJ hf;clear h IS hg hf i0 i1 i2 y0 y1 y2 af;go_wp2_with fail;refine(ij _ _ e a _ T6).mono ?_;intro x w5 h;cases d:cI r2 with
   | none=>
    obtain⟨rfl,hg⟩:=h.none_ d;exact⟨rfl,by unfold ey;rw[HN];simp only[hop,KA,eP Ub,hN,HF.j,d];exact⟨rfl,Tg.trans hg⟩⟩
   | some q2=>
    obtain⟨u,r3⟩:=q2;obtain⟨_,rfl,rfl,IS,hg⟩:=h.some_ d;have HE:U (ey r=Y _):=aJ (by unfold ey;rw[HN];simp only[hop,KA,eP Ub,hN,HF.j,d];rfl);obtain⟨m0,m1,m2,n0,n1,n2⟩:=av.gc hg Q5;have l0:=hg.box Q5 ((aO Q5).trans j0);have l1:=hg.box Q5 (tO _ _ _ j1);have l2:=hg.box Q5 ((aO Q5).trans j2);have p2:=hg.boxz Q5 ((aO Q5).trans j2) (by rw[iI];exact k2);have al:=aJ IS;have Tu:=aJ (Tg.trans hg);clear h IS hg d Ub j0 j1 j2 k0 k1 k2;go_wp2;exact qn (v:=.agg #[O Z b.toNat,O Z v,O Z u]) (by simp[results,results118,go_sem,m0,m1,m2]) rfl (by rw[HE];exact⟨_,rfl,rfl,bX (bX (bX (bX (al) Q5) Q5) Q5) Q5,bw (bw (bw (bw (Tu) Q5) Q5) Q5) Q5⟩)
theorem Tryz.rinfo_rlist_ins:(Tryz.prog.info? 87).map (λi=>(i.zero,i.size,i.bytes))=Y (Y (Value.agg #[O Z 0,O Z 0,O Z 0]),3,24):=Q7
theorem SR{p:Prop}(h:p:=by exact tO _ _ _ ((aO Q5).trans ((aO Q5).trans (Tx)))):p:=h
theorem Cz(cb B:R)(r:I AI)(e a:A)(w:T)(hc:mE w cb r e a)(hb:cb<B)(hB:B<=w.heap.size):
 Calls prog 117 #[.pointer (Y (Q cb 0 G)),.func (.func 118) #[] #[]] w (tX cb e a w (λw' v (y:I bP)=>jd B w' v y) (aV ey r)):=by
 have HC:=aJ hc;clear hc;go_enter func117,ntmps117
 go_wp2_with fail;refine(fS _ r e a _ HC).mono ?_;intro x w1 h;cases hn:cW 0 0 r with
 | none=>
  exact NP
 | some p=>
  obtain⟨n,r1⟩:=p;obtain⟨v,rfl,rfl,IS,hg⟩:=h.some_ hn;have Td:=aJ hg;have al:=aJ IS;obtain⟨⟨s,h0,hs⟩,hl,h1,h2,hz,hj⟩:=IS;have S7:s.size=D r1:=RB
  have ak:IntKind.u64.wrap _=s.size:=FP _ Q5;by_cases hle:n<=D r1
  · have HE:U (aV ey r=jf ey n r1):=aJ QI;have hd:(n:A)<=s.size:=by omega
    have ay:n<=1000000:=Q5;clear h hg hn hs hl hz S7 hle;go_wp2;go_region_held3 (λw'=>H w' (Q cb 0 G)=Y (.string s)/\H w' (Q cb 1 G)=Y (O Z e)/\H w' (Q cb 3 G)=Y (O Z a)/\H w' (Q cb 2 G)=Y (O Z 0)) (first|go_keep|(refine⟨?_,?_,?_,?_⟩<;>exact BY.cell Q8 Q6)) (first|(go_at_call 53;refine(aj _ _ _).mono ?_;rintro e w' ⟨rfl,BY⟩))
    have Tr:=aJ (al.gr (Gr.trans Gy BY));have OF:=aJ (Td.trans (Gr.trans Gy BY).toGc);clear BY h0 h1 h2 hj ak hd;obtain⟨i0,hi,TU,Ty,TO⟩:=Lt Tryz.rinfo_rlist_ins;obtain⟨S8,hM⟩:∃S8,S8=madeCells (Value.agg #[O Z 0,O Z 0,O Z 0]).cells ((n:A).toNat*i0.size):=⟨_,rfl⟩;have ai:S8.size=n*3:=Ru
    have ax:∀V,(Instr.makeSlice 72 (.int .u64 n) (.int .u64 n)).run prog V=.ok (J (Y (Q V.heap.size 0 G)) n n) (V.alloc (X S8 87)):=by
     intro V;have h:=Ng V 72 87 _ _ underlying72 hi TU .u64 .u64 n n Q5 Q5 RM Q5;rw[<-hM]at h;simpa using h
    have HM:=aJ ai;clear hM ai hi TU Ty TO;go_wp2;have VU:=wz hB OF.size;have Uu:=OF.size;go_loopw[27] (λi wr=>∃(k:R) (ys:I bP) (rk:I AI),k<=n/\i=O Z k/\D ys=k/\mE wr cb rk e a/\Gc cb w wr/\jf ey n r1=lZ ys (jf ey (n-k) rk)/\w'.heap.size<wr.heap.size/\(∀j,j<n*3->(∃x,H wr (Q w'.heap.size j G)=Y x)/\wr.frozen? ⟨w'.heap.size,j,G⟩=AS)/\∀j y,ys[j]? =Y y->(H wr ⟨w'.heap.size,j*3,G⟩=Y (O Z y.op)/\H wr ⟨w'.heap.size,j*3+1,G⟩=Y (O Z y.a)/\H wr ⟨w'.heap.size,j*3+2,G⟩=Y (O Z y.b))) λi _=>n-(intOf i).toNat
    case atStart=>
     exact NI
    case round=>
     obtain⟨k,ys,rk,hk,rfl,F,IS,ad,ae,S7,d,af⟩:=hrel;have HN:=aJ ae;have U5:=aJ af;have Uy:=aJ d;have Te:=aJ ad;have T6:=aJ IS;have Vp:=aJ F;clear ae af d ad IS F ax;by_cases IN:k<n
     · obtain⟨m,hm⟩:∃m,n-k=m+1:=⟨n-k-1,Q5⟩;have Vo:=aJ hm;clear hm;go_wp2_with fail;refine(FZ _ _ e a _ T6).mono ?_;intro x w4 h;cases hf:ey rk with
       | none=>
        exact NK
       | some p=>
        obtain⟨y,r4⟩:=p;obtain⟨v,rfl,hy,IS,hg⟩:=h.some_ hf;have Vt:U (jf _ n _=lZ _ (jf _ (n-(k+1)) _)):=aJ QA;have Ui:Kp (w'.heap.size) _ _:=hg.kp Q5;have Ve:=tu S7 hg.size;have Tk:=aJ (lA Uy Ui S7);have Ux:=aJ IS;have Tg:=aJ (Te.trans hg);have Uq:=aJ Ui;have HY:=aJ hy;clear h hf IS Ui;have hv:=HY.j;subst hv;obtain⟨⟨x0,US⟩,TU⟩:=Tk (k*3) Q5;obtain⟨⟨x1,av⟩,Ty⟩:=Tk (k*3+1) Q5;obtain⟨⟨x2,Tx⟩,TO⟩:=Tk (k*3+2) Q5;have Wa:(0:A)<=k:=Q5;have VD:(k:A)<n:=Q5;clear hg hy;go_wp2;go_roundw
        case rel=>
         have F:=Vp.j;refine⟨_,_,_,Q5,QZ,by simp[F],bX (bX (bX (Ux) Q5) Q5) Q5,bw (bw (bw (Tg) Uu) Uu) Uu,Vt,Sp,gR (gR (gR (Tk))),λj z hj=>?_⟩;rcases mP hj with⟨h1,h2⟩|⟨h1,h2⟩
         · obtain⟨q0,q1,q2⟩:=U5 j z h1;exact⟨by rw[aO Q5,aO Q5,aO Q5];exact Uq.cell lj q0,by rw[aO Q5,aO Q5,aO Q5];exact Uq.cell lj q1,by rw[aO Q5,aO Q5,aO Q5];exact Uq.cell lj q2⟩
         subst h1;subst h2;rw[F];exact⟨by rw[aO Q5,aO Q5];exact tO _ _ _ (US),by rw[aO Q5];exact tO _ _ _ ((aO Q5).trans (av)),SR⟩
        case measure=>exact Qh
     have TN:k=n:=by omega
     subst TN;have UE:U (aV _ r=Y _):=aJ Sq;go_wp2;go_ret
     rw[UE];refine⟨_,rfl,?_,T6,Te⟩;have F:=Vp.j;show jd B wr (J (Y (Q w'.heap.size 0 G)) k k) ys
     refine⟨_,k,by rw[F],QB,λi y hi=>?_⟩;have hq:=U5 i y hi;exact⟨_,0,rfl,VU,by rw[Aq];exact hq.1,by rw[Aq];exact hq.2.1,by rw[Aq];exact hq.2.2⟩
  have HE:U (aV ey r=G):=aJ QJ;exact Nl
def gd(w:T)(b:R)(x0 x1 x2 x3:M):Prop:=
 w.cell? (Q b 0 G)=Y x0/\H w (Q b 1 G)=Y x1/\H w (Q b 2 G)=Y x2/\H w (Q b 3 G)=Y x3/\w.frozen? ⟨b,0,G⟩=AS/\w.frozen? ⟨b,1,G⟩=AS/\w.frozen? ⟨b,2,G⟩=AS/\w.frozen? ⟨b,3,G⟩=AS
theorem gd.gc(h:gd w b x0 x1 x2 x3)(g:Gc cb w w')(d:¬b=cb):gd w' b x0 x1 x2 x3:=by
 obtain⟨F,h1,h2,h3,z0,z1,z2,z3⟩:=h;exact⟨g.box d F,g.box d h1,g.box d h2,g.box d h3,g.boxz d F z0,g.boxz d h1 z1,g.boxz d h2 z2,g.boxz d h3 z3⟩
theorem gd.new(w:T)(t:TypeId)(x0 x1 x2 x3:M):gd (w.alloc (X #[x0,x1,x2,x3] t)) w.heap.size x0 x1 x2 x3:=by
 refine⟨?_,?_,?_,?_,?_,?_,?_,?_⟩<;>simp[go_sem]
theorem Rk{p:Prop}(h:p:=by rw[iI];exact z3):p:=h
theorem gd.other{o:R}{v:M}(h:gd w b x0 x1 x2 x3)(hb:¬g=b):gd (w.setCell (Q g o G) v) b x0 x1 x2 x3:=by
 obtain⟨h0,h1,h2,F,z0,z1,z2,z3⟩:=h;have d:∀q,H (w.setCell (Q g o G) v) (Q b q G)=H w _:=λq=>Cn w _ _ _ Rw
 exact⟨(d 0).trans h0,(d 1).trans h1,(d 2).trans h2,(d 3).trans F,QF,QD,QS,Rk⟩
theorem gd.set0(v:M)(h:gd w b x0 x1 x2 x3):gd (w.setCell (Q b 0 G) v) b v x1 x2 x3:=by
 obtain⟨d,h1,F,h3,z0,z1,z2,z3⟩:=h;exact⟨tO _ _ _ d,(aO Q5).trans h1,(aO Q5).trans F,(aO Q5).trans h3,QF,QD,QS,Rk⟩
theorem gd.set1(v:M)(h:gd w b x0 x1 x2 x3):gd (w.setCell (Q b 1 G) v) b x0 v x2 x3:=by
 obtain⟨d,h1,F,h3,z0,z1,z2,z3⟩:=h;exact⟨(aO Q5).trans d,tO _ _ _ h1,(aO Q5).trans F,(aO Q5).trans h3,QF,QD,QS,Rk⟩
theorem gd.set2(v:M)(h:gd w b x0 x1 x2 x3):gd (w.setCell (Q b 2 G) v) b x0 x1 v x3:=by
 obtain⟨d,h1,F,h3,z0,z1,z2,z3⟩:=h;exact⟨(aO Q5).trans d,(aO Q5).trans h1,tO _ _ _ F,(aO Q5).trans h3,QF,QD,QS,Rk⟩
theorem gd.set3(v:M)(h:gd w b x0 x1 x2 x3):gd (w.setCell (Q b 3 G) v) b x0 x1 x2 v:=by
 obtain⟨d,h1,F,h3,z0,z1,z2,z3⟩:=h;exact⟨(aO Q5).trans d,(aO Q5).trans h1,(aO Q5).trans F,tO _ _ _ h3,QF,QD,QS,Rk⟩
theorem eQ.set0(v:M)(h:eQ w b x0 x1 x2):eQ (w.setCell (Q b 0 G) v) b v x1 x2:=by
 obtain⟨d,h1,F,z0,z1,z2⟩:=h;exact⟨tO _ _ _ d,(aO Q5).trans h1,(aO Q5).trans F,QF,QD,QS⟩
theorem eQ.set1(v:M)(h:eQ w b x0 x1 x2):eQ (w.setCell (Q b 1 G) v) b x0 v x2:=by
 obtain⟨d,h1,F,z0,z1,z2⟩:=h;exact⟨(aO Q5).trans d,tO _ _ _ h1,(aO Q5).trans F,QF,QD,QS⟩
theorem eQ.set2(v:M)(h:eQ w b x0 x1 x2):eQ (w.setCell (Q b 2 G) v) b x0 x1 v:=by
 obtain⟨d,h1,F,z0,z1,z2⟩:=h;exact⟨(aO Q5).trans d,(aO Q5).trans h1,tO _ _ _ F,QF,QD,QS⟩
def ld(w:T)(b:R)(x0 x1:M):Prop:=
 w.cell? (Q b 0 G)=Y x0/\H w (Q b 1 G)=Y x1/\w.frozen? ⟨b,0,G⟩=AS/\w.frozen? ⟨b,1,G⟩=AS
theorem ld.gc(h:ld w b x0 x1)(g:Gc cb w w')(d:¬b=cb):ld w' b x0 x1:=by
 obtain⟨F,h1,z0,z1⟩:=h;exact⟨g.box d F,g.box d h1,g.boxz d F z0,g.boxz d h1 z1⟩
theorem ld.new(w:T)(t:TypeId)(x0 x1:M):ld (w.alloc (X #[x0,x1] t)) w.heap.size x0 x1:=by
 refine⟨?_,?_,?_,?_⟩<;>simp[go_sem]
theorem ld.other{o:R}{v:M}(h:ld w b x0 x1)(hb:¬g=b):ld (w.setCell (Q g o G) v) b x0 x1:=by
 obtain⟨F,h1,z0,z1⟩:=h;have d:∀q,H (w.setCell (Q g o G) v) (Q b q G)=H w _:=λq=>Cn w _ _ _ Rw
 exact⟨(d 0).trans F,(d 1).trans h1,QF,QD⟩
theorem ld.set0(v:M)(h:ld w b x0 x1):ld (w.setCell (Q b 0 G) v) b v x1:=by
 obtain⟨d,F,z0,z1⟩:=h;exact⟨tO _ _ _ d,(aO Q5).trans F,QF,QD⟩
theorem ld.set1(v:M)(h:ld w b x0 x1):ld (w.setCell (Q b 1 G) v) b x0 v:=by
 obtain⟨d,F,z0,z1⟩:=h;exact⟨(aO Q5).trans d,tO _ _ _ F,QF,QD⟩
def dR(r:I AI):By (aQ×I AI):=match cP r with
 | none=>G
 | some (p,r1)=>match cP r1 with
  | none=>G
  | some (l,r2)=>match cI r2 with
   | none=>G
   | some (res,r3)=>match aV ey r3 with
    | none=>G
    | some (c,r4)=>Y (⟨p,res,l,c⟩,r4)
def er(r:I AI):By (eL×I AI):=match iB r with
 | none=>G
 | some (s,r1)=>match cP r1 with
  | none=>G
  | some (p,r2)=>match cI r2 with
   | none=>G
   | some (res,r3)=>Y (⟨s,p,res⟩,r3)
def fH(r:I AI):By (cJ×I AI):=match iB r with
 | none=>G
 | some (s,r1)=>match cI r1 with
  | none=>G
  | some (f,r2)=>Y (⟨s,f⟩,r2)
theorem aX{o:R}{v:M}(h:g<B):Kp B w (w.setCell (Q g o G) v):=Kp.set v h
theorem RD{p:Prop}(h:p:=by have h1:=Wg.j;have h2:=hg.size;simp at h1 h2 |-;omega):p:=h
theorem SK{p:Prop}(h:p:=by have h1:=UK.j;have h2:=hg.size;simp at h1 h2 |-;omega):p:=h
theorem CS(cb B:R)(r:I AI)(e a:A)(w:T)(hc:mE w cb r e a)(hb:cb<B)(hB:B<=w.heap.size):
 Calls prog 62 #[.pointer (Y (Q cb 0 G))] w (tX cb e a w (λw' v (y:aQ)=>∃vp vl vc,v=.agg #[vp,O Z y.result,vl,vc]/\gO B w' vp y.aH/\gO B w' vl y.aI/\jd B w' vc y.code) (dR r)):=by
 have a':cb<w.heap.size:=Q5;have WU:=aJ ((hc.gr ((Gr.refl w).alloc (X #[J G 0 0,O Z 0,J G 0 0,J G 0 0] 74))).gr ((G0).alloc (X #[J G 0 0,O Z 0,J G 0 0,J G 0 0] 74)));have aE:=aJ (((gd.new w 74 (J G 0 0) (O Z 0) (J G 0 0) (J G 0 0)).gc ((Gr.alloc G0 (X #[J G 0 0,O Z 0,J G 0 0,J G 0 0] 74)).toGc (cb:=cb)) Q5));have hfb:=gd.new (w.alloc (X #[J G 0 0,O Z 0,J G 0 0,J G 0 0] 74)) 74 (J G 0 0) (O Z 0) (J G 0 0) (J G 0 0);rw[show(w.alloc _).heap.size=w.heap.size+1 by simp]at hfb;have af:=aJ hfb;have aM:=aJ ((((Gr.refl w).alloc (X #[J G 0 0,O Z 0,J G 0 0,J G 0 0] 74)).alloc (X #[J G 0 0,O Z 0,J G 0 0,J G 0 0] 74)).toGc (cb:=cb));have a7:w.heap.size+2<=((w.alloc (X #[J G 0 0,O Z 0,J G 0 0,J G 0 0] 74)).alloc (X #[J G 0 0,O Z 0,J G 0 0,J G 0 0] 74)).heap.size:=Q6;have Wg:=aJ a7;obtain⟨f0,f1,f2,f3,g0,g1,g2,g3⟩:=hfb;go_enter func62,ntmps62
 go_wp2_with fail;refine(mG _ _ r e a _ WU Q5 Wg).mono ?_;intro x w1 h1;cases Ti:cP r with
 | none=>
  obtain⟨rfl,hg⟩:=h1.none_ Ti;exact⟨rfl,by unfold dR;simp only[Ti];exact⟨rfl,aM.trans hg⟩⟩
 | some q1=>
  obtain⟨y1,r1⟩:=q1;obtain⟨v1,rfl,a4,IS,hg⟩:=h1.some_ Ti;obtain⟨p1,c1,hv⟩:=a4.shape;subst hv;have H1:=aJ Ti;have ae:=aJ ((af.gc hg Q5).set0 (J p1 (D y1) c1));have ai:=aJ ((aE.gc hg Q5).other (g:=w.heap.size+1) (o:=0) (v:=J p1 (D y1) c1) Q5);have a6:=aJ (bX (g:=w.heap.size+1) (o:=0) (v:=J p1 (D y1) c1) IS Q5);have Td:=aJ (bw (g:=w.heap.size+1) (o:=0) (v:=J p1 (D y1) c1) (aM.trans hg) Q5);have UK:U (w.heap.size+2<=(w1.setCell ⟨w.heap.size+1,0,G⟩ (J p1 (D y1) c1)).heap.size):=aJ RD;have az:=aJ (a4.kp (aX (g:=w.heap.size+1) (o:=0) (v:=J p1 (D y1) c1) Q5));obtain⟨a0,a1,a2,a3,b0,b1,b2,b3⟩:=af.gc hg Q5;go_wp2_with fail;refine(mG _ _ _ e a _ a6 Q5 UK).mono ?_;intro x w2 h2;cases T9:cP r1 with
  | none=>
   obtain⟨rfl,hg⟩:=h2.none_ T9;exact⟨rfl,by unfold dR;simp only[H1.j,T9];exact⟨rfl,Td.trans hg⟩⟩
  | some q2=>
   obtain⟨y2,r2⟩:=q2;obtain⟨v2,rfl,aG,IS,hg⟩:=h2.some_ T9;obtain⟨p2,c2,hv⟩:=aG.shape;subst hv;have H2:=aJ T9;have ad:=aJ ((ae.gc hg Q5).set2 (J p2 (D y2) c2));have UH:=aJ ((ai.gc hg Q5).other (g:=w.heap.size+1) (o:=2) (v:=J p2 (D y2) c2) Q5);have Tr:=aJ (bX (g:=w.heap.size+1) (o:=2) (v:=J p2 (D y2) c2) IS Q5);have OF:=aJ (bw (g:=w.heap.size+1) (o:=2) (v:=J p2 (D y2) c2) (Td.trans hg) Q5);have a9:U (w.heap.size+2<=(w2.setCell ⟨w.heap.size+1,2,G⟩ (J p2 (D y2) c2)).heap.size):=aJ SK;have aD:=aJ ((az.kp (hg.kp Q5)).kp (aX (g:=w.heap.size+1) (o:=2) (v:=J p2 (D y2) c2) Q5));have aB:=aJ (aG.kp (aX (g:=w.heap.size+1) (o:=2) (v:=J p2 (D y2) c2) Q5));obtain⟨a0,a1,a2,a3,b0,b1,b2,b3⟩:=ae.gc hg Q5;go_wp2_with fail;refine(ij _ _ e a _ Tr).mono ?_;intro x w3 h3;cases d:cI r2 with
   | none=>
    obtain⟨rfl,hg⟩:=h3.none_ d;exact⟨rfl,by unfold dR;simp only[H1.j,H2.j,d];exact⟨rfl,OF.trans hg⟩⟩
   | some q3=>
    obtain⟨y3,r3⟩:=q3;obtain⟨v3,rfl,a8,IS,hg⟩:=h3.some_ d;subst a8;have H3:=aJ d;have aF:=aJ ((ad.gc hg Q5).set1 (O Z y3));have al:=aJ ((UH.gc hg Q5).other (g:=w.heap.size+1) (o:=1) (v:=O Z y3) Q5);have T6:=aJ (bX (g:=w.heap.size+1) (o:=1) (v:=O Z y3) IS Q5);have Te:=aJ (bw (g:=w.heap.size+1) (o:=1) (v:=O Z y3) (OF.trans hg) Q5);have a5:U (w.heap.size+2<=(w3.setCell ⟨w.heap.size+1,1,G⟩ (O Z y3)).heap.size):=aJ (by have h1:=a9.j;have h2:=hg.size;simp at h1 h2 |-;omega);have ak:=aJ ((aD.kp (hg.kp Q5)).kp (aX (g:=w.heap.size+1) (o:=1) (v:=O Z y3) Q5));have aA:=aJ ((aB.kp (hg.kp Q5)).kp (aX (g:=w.heap.size+1) (o:=1) (v:=O Z y3) Q5));obtain⟨a0,a1,a2,a3,b0,b1,b2,b3⟩:=ad.gc hg Q5;go_wp2_with fail;refine(Cz _ _ _ e a _ T6 Q5 a5).mono ?_;intro x w4 h4;cases F:aV ey r3 with
    | none=>
     obtain⟨rfl,hg⟩:=h4.none_ F;exact⟨rfl,by unfold dR;simp only[H1.j,H2.j,H3.j,F];exact⟨rfl,Te.trans hg⟩⟩
    | some q4=>
     obtain⟨y4,r4⟩:=q4;obtain⟨v4,rfl,aL,IS,hg⟩:=h4.some_ F;obtain⟨p4,c4,hv⟩:=aL.shape;subst hv;have H4:=aJ F;have av:=aJ ((al.gc hg Q5).other (g:=w.heap.size+1) (o:=3) (v:=J p4 (D y4) c4) Q5);have Ux:=aJ (bX (g:=w.heap.size+1) (o:=3) (v:=J p4 (D y4) c4) IS Q5);have Tg:=aJ (bw (g:=w.heap.size+1) (o:=3) (v:=J p4 (D y4) c4) (Te.trans hg) Q5);have aC:=aJ ((ak.kp (hg.kp Q5)).kp (aX (g:=w.heap.size+1) (o:=3) (v:=J p4 (D y4) c4) Q5));have ax:=aJ ((aA.kp (hg.kp Q5)).kp (aX (g:=w.heap.size+1) (o:=3) (v:=J p4 (D y4) c4) Q5));have ay:=aJ (aL.kp (aX (g:=w.heap.size+1) (o:=3) (v:=J p4 (D y4) c4) Q5));obtain⟨a0,a1,a2,a3,b0,b1,b2,b3⟩:=aF.gc hg Q5;obtain⟨m0,m1,m2,m3,n0,n1,n2,n3⟩:=av.j;go_wp2;exact qn (v:=.agg #[J p1 (D y1) c1,O Z y3,J p2 (D y2) c2,J p4 (D y4) c4]) (by simp[results,results62,go_sem,m0,m1,m2,m3]) rfl (by
      have hE:dR r=Y (⟨y1,y3,y2,y4⟩,r4):=by unfold dR;simp only[H1.j,H2.j,H3.j,H4.j]
      rw[hE];exact⟨_,rfl,⟨_,_,_,rfl,(((((aC).kp (aX Q5)).kp (aX Q5)).kp (aX Q5)).kp (aX Q5)).mono Q5,(((((ax).kp (aX Q5)).kp (aX Q5)).kp (aX Q5)).kp (aX Q5)).mono Q5,(((((ay).kp (aX Q5)).kp (aX Q5)).kp (aX Q5)).kp (aX Q5)).mono Q5⟩,bX (bX (bX (bX (Ux) Q5) Q5) Q5) Q5,bw (bw (bw (bw (Tg) Q5) Q5) Q5) Q5⟩)
theorem tC:∀(r:I AI) (k v:R) (n:R) (r':I AI),cW k v r=Y (n,r')->D r'<D r
 | [],_,_,_,_,h=>by simp[cW]at h
 | b::r,k,v,n,r',h=>by
  unfold cW at h;split at h
  · split at h
    · split at h
      · simp only[qN,H9]at h;rw[<-h.2];simp
      cases h
    have:=tC r _ _ n _ h;simp;omega
  cases h
theorem xh{r1:I AI}(h:iB r=Y (y,r1))(hr:D r<=1000000):(⟨y.toArray⟩:ByteArray).size<=maxLen:=by
 unfold iB at h;cases d:cW 0 0 r with
 | none=>rw[d]at h;cases h
 | some p=>
  obtain⟨n,r2⟩:=p;have F:=tC r 0 0 n _ d;rw[d]at h;simp only[fV]at h;split at h
  · simp only[qN,H9]at h;rw[<-h.1];show(List.toArray _).size<=_
    unfold maxLen;simp;omega
  cases h
theorem EJ(cb B:R)(r:I AI)(e a:A)(w:T)(hc:mE w cb r e a)(hb:cb<B)(hB:B<=w.heap.size):
 Calls prog 65 #[.pointer (Y (Q cb 0 G))] w (tX cb e a w (λw' v (y:eL)=>∃vs vp,v=.agg #[vs,vp,O Z y.result]/\iU vs y.name/\gO B w' vp y.aH) (er r)):=by
 have aE:cb<w.heap.size:=Q5;have aB:=hc.2.1;have WU:=aJ ((hc.gr ((Gr.refl w).alloc (X #[.string ⟨#[]⟩,J G 0 0,O Z 0] 89))).gr ((G0).alloc (X #[.string ⟨#[]⟩,J G 0 0,O Z 0] 89)));have ak:=aJ (((eQ.new w 89 (.string ⟨#[]⟩) (J G 0 0) (O Z 0)).gc ((Gr.alloc G0 (X #[.string ⟨#[]⟩,J G 0 0,O Z 0] 89)).toGc (cb:=cb)) Q5));have hfb:=eQ.new (w.alloc (X #[.string ⟨#[]⟩,J G 0 0,O Z 0] 89)) 89 (.string ⟨#[]⟩) (J G 0 0) (O Z 0);rw[show(w.alloc _).heap.size=w.heap.size+1 by simp]at hfb;have ad:=aJ hfb;have ay:=aJ ((((Gr.refl w).alloc (X #[.string ⟨#[]⟩,J G 0 0,O Z 0] 89)).alloc (X #[.string ⟨#[]⟩,J G 0 0,O Z 0] 89)).toGc (cb:=cb));have aD:w.heap.size+2<=((w.alloc (X #[.string ⟨#[]⟩,J G 0 0,O Z 0] 89)).alloc (X #[.string ⟨#[]⟩,J G 0 0,O Z 0] 89)).heap.size:=Q6;have Wg:=aJ aD;obtain⟨f0,f1,f2,g0,g1,g2⟩:=hfb;go_enter func65,ntmps65
 go_wp2_with fail;refine(vA _ r e a _ WU).mono ?_;intro x w1 h1;cases Ti:iB r with
 | none=>
  obtain⟨rfl,hg⟩:=h1.none_ Ti;exact⟨rfl,by unfold er;simp only[Ti];exact⟨rfl,ay.trans hg⟩⟩
 | some q1=>
  obtain⟨y1,r1⟩:=q1;obtain⟨v1,rfl,az,IS,hg⟩:=h1.some_ Ti;subst az;have H1:=aJ Ti;have F:=aJ ((ad.gc hg Q5).set0 (.string ⟨y1.toArray⟩));have av:=aJ ((ak.gc hg Q5).other (g:=w.heap.size+1) (o:=0) (v:=.string ⟨y1.toArray⟩) Q5);have aA:=aJ (bX (g:=w.heap.size+1) (o:=0) (v:=.string ⟨y1.toArray⟩) IS Q5);have Td:=aJ (bw (g:=w.heap.size+1) (o:=0) (v:=.string ⟨y1.toArray⟩) (ay.trans hg) Q5);have UK:U (w.heap.size+2<=(w1.setCell ⟨w.heap.size+1,0,G⟩ (.string ⟨y1.toArray⟩)).heap.size):=aJ RD;obtain⟨a0,a1,a2,b0,b1,b2⟩:=ad.gc hg Q5;go_wp2_with fail;refine(mG _ _ _ e a _ aA Q5 UK).mono ?_;intro x w2 h2;cases T9:cP r1 with
  | none=>
   obtain⟨rfl,hg⟩:=h2.none_ T9;exact⟨rfl,by unfold er;simp only[H1.j,T9];exact⟨rfl,Td.trans hg⟩⟩
  | some q2=>
   obtain⟨y2,r2⟩:=q2;obtain⟨v2,rfl,ax,IS,hg⟩:=h2.some_ T9;obtain⟨p2,c2,hv⟩:=ax.shape;subst hv;have H2:=aJ T9;have al:=aJ ((F.gc hg Q5).set1 (J p2 (D y2) c2));have UH:=aJ ((av.gc hg Q5).other (g:=w.heap.size+1) (o:=1) (v:=J p2 (D y2) c2) Q5);have Tr:=aJ (bX (g:=w.heap.size+1) (o:=1) (v:=J p2 (D y2) c2) IS Q5);have OF:=aJ (bw (g:=w.heap.size+1) (o:=1) (v:=J p2 (D y2) c2) (Td.trans hg) Q5);have aF:U (w.heap.size+2<=(w2.setCell ⟨w.heap.size+1,1,G⟩ (J p2 (D y2) c2)).heap.size):=aJ SK;have af:=aJ (ax.kp (aX (g:=w.heap.size+1) (o:=1) (v:=J p2 (D y2) c2) Q5));obtain⟨a0,a1,a2,b0,b1,b2⟩:=F.gc hg Q5;go_wp2_with fail;refine(ij _ _ e a _ Tr).mono ?_;intro x w3 h3;cases d:cI r2 with
   | none=>
    obtain⟨rfl,hg⟩:=h3.none_ d;exact⟨rfl,by unfold er;simp only[H1.j,H2.j,d];exact⟨rfl,OF.trans hg⟩⟩
   | some q3=>
    obtain⟨y3,r3⟩:=q3;obtain⟨v3,rfl,aC,IS,hg⟩:=h3.some_ d;subst aC;have H3:=aJ d;have ai:=aJ ((UH.gc hg Q5).other (g:=w.heap.size+1) (o:=2) (v:=O Z y3) Q5);have T6:=aJ (bX (g:=w.heap.size+1) (o:=2) (v:=O Z y3) IS Q5);have Te:=aJ (bw (g:=w.heap.size+1) (o:=2) (v:=O Z y3) (OF.trans hg) Q5);have ae:=aJ ((af.kp (hg.kp Q5)).kp (aX (g:=w.heap.size+1) (o:=2) (v:=O Z y3) Q5));obtain⟨a0,a1,a2,b0,b1,b2⟩:=al.gc hg Q5;obtain⟨m0,m1,m2,n0,n1,n2⟩:=ai.j;go_wp2;exact qn (v:=.agg #[.string ⟨y1.toArray⟩,J p2 (D y2) c2,O Z y3]) (by simp[results,results65,go_sem,m0,m1,m2]) rfl (by
     have hE:er r=Y (⟨y1,y2,y3⟩,r3):=by unfold er;simp only[H1.j,H2.j,H3.j]
     rw[hE];exact⟨_,rfl,⟨_,_,rfl,⟨_,rfl,rfl,xh H1 aB⟩,((((ae).kp (aX Q5)).kp (aX Q5)).kp (aX Q5)).mono Q5⟩,bX (bX (bX (T6) Q5) Q5) Q5,bw (bw (bw (Te) Q5) Q5) Q5⟩)
theorem Dx(cb B:R)(r:I AI)(e a:A)(w:T)(hc:mE w cb r e a)(hb:cb<B)(hB:B<=w.heap.size):
 Calls prog 68 #[.pointer (Y (Q cb 0 G))] w (tX cb e a w (λw' v (y:cJ)=>∃vs,v=.agg #[vs,O Z y.func]/\iU vs y.name) (fH r)):=by
 have ay:cb<w.heap.size:=Q5;have av:=hc.2.1;have WU:=aJ ((hc.gr ((Gr.refl w).alloc (X #[.string ⟨#[]⟩,O Z 0] 71))).gr ((G0).alloc (X #[.string ⟨#[]⟩,O Z 0] 71)));have ad:=aJ (((ld.new w 71 (.string ⟨#[]⟩) (O Z 0)).gc ((Gr.alloc G0 (X #[.string ⟨#[]⟩,O Z 0] 71)).toGc (cb:=cb)) Q5));have hfb:=ld.new (w.alloc (X #[.string ⟨#[]⟩,O Z 0] 71)) 71 (.string ⟨#[]⟩) (O Z 0);rw[show(w.alloc _).heap.size=w.heap.size+1 by simp]at hfb;have d:=aJ hfb;have af:=aJ ((((Gr.refl w).alloc (X #[.string ⟨#[]⟩,O Z 0] 71)).alloc (X #[.string ⟨#[]⟩,O Z 0] 71)).toGc (cb:=cb));have ax:w.heap.size+2<=((w.alloc (X #[.string ⟨#[]⟩,O Z 0] 71)).alloc (X #[.string ⟨#[]⟩,O Z 0] 71)).heap.size:=Q6;have Wg:=aJ ax;obtain⟨f0,f1,g0,g1⟩:=hfb;go_enter func68,ntmps68
 go_wp2_with fail;refine(vA _ r e a _ WU).mono ?_;intro x w1 h1;cases Ti:iB r with
 | none=>
  obtain⟨rfl,hg⟩:=h1.none_ Ti;exact⟨rfl,by unfold fH;simp only[Ti];exact⟨rfl,af.trans hg⟩⟩
 | some q1=>
  obtain⟨y1,r1⟩:=q1;obtain⟨v1,rfl,ai,IS,hg⟩:=h1.some_ Ti;subst ai;have H1:=aJ Ti;have F:=aJ ((d.gc hg Q5).set0 (.string ⟨y1.toArray⟩));have ae:=aJ ((ad.gc hg Q5).other (g:=w.heap.size+1) (o:=0) (v:=.string ⟨y1.toArray⟩) Q5);have al:=aJ (bX (g:=w.heap.size+1) (o:=0) (v:=.string ⟨y1.toArray⟩) IS Q5);have Td:=aJ (bw (g:=w.heap.size+1) (o:=0) (v:=.string ⟨y1.toArray⟩) (af.trans hg) Q5);have UK:U (w.heap.size+2<=(w1.setCell ⟨w.heap.size+1,0,G⟩ (.string ⟨y1.toArray⟩)).heap.size):=aJ RD;obtain⟨a0,a1,b0,b1⟩:=d.gc hg Q5;go_wp2_with fail;refine(ij _ _ e a _ al).mono ?_;intro x w2 h2;cases T9:cI r1 with
  | none=>
   obtain⟨rfl,hg⟩:=h2.none_ T9;exact⟨rfl,by unfold fH;simp only[H1.j,T9];exact⟨rfl,Td.trans hg⟩⟩
  | some q2=>
   obtain⟨y2,r2⟩:=q2;obtain⟨v2,rfl,ak,IS,hg⟩:=h2.some_ T9;subst ak;have H2:=aJ T9;have UH:=aJ ((ae.gc hg Q5).other (g:=w.heap.size+1) (o:=1) (v:=O Z y2) Q5);have Tr:=aJ (bX (g:=w.heap.size+1) (o:=1) (v:=O Z y2) IS Q5);have OF:=aJ (bw (g:=w.heap.size+1) (o:=1) (v:=O Z y2) (Td.trans hg) Q5);obtain⟨a0,a1,b0,b1⟩:=F.gc hg Q5;obtain⟨m0,m1,n0,n1⟩:=UH.j;go_wp2;exact qn (v:=.agg #[.string ⟨y1.toArray⟩,O Z y2]) (by simp[results,results68,go_sem,m0,m1]) rfl (by
    have hE:fH r=Y (⟨y1,y2⟩,r2):=by unfold fH;simp only[H1.j,H2.j]
    rw[hE];exact⟨_,rfl,⟨_,rfl,⟨_,rfl,rfl,xh H1 av⟩⟩,bX (bX (Tr) Q5) Q5,bw (bw (OF) Q5) Q5⟩)
theorem pG(cb:R)(b:AI)(r:I AI)(e a:A)(w:T)(d:mE w cb (b::r) e a):
 Calls prog 145 #[.pointer (Y (Q cb 0 G))] w λx w'=>x=.returned (.int .u8 (b.toNat:A))/\mE w' cb r e a/\Gc cb w w':=by
 refine(m_ _ _ e a w d).mono ?_;intro x w' h;obtain⟨v,rfl,rfl,h1,F⟩:=h.some_ rfl;exact⟨rfl,h1,F⟩
theorem BI(cb:R)(e a:A)(w:T)(d:mE w cb [] e a):
 Calls prog 145 #[.pointer (Y (Q cb 0 G))] w λx w'=>x=.panicked (iT e a)/\Gc cb w w':=by
 refine(m_ _ _ e a w d).mono ?_;intro x w' h;exact h.none_ rfl
def qe(w:T)(sb:R)(t:I AI)(p:R):Prop:=
 (∃s:ByteArray,H w (Q sb 0 G)=Y (.string s)/\s.data.toList=t)/\D t<=1000000/\p<=D t/\H w (Q sb 1 G)=Y (O Z (p:A))/\w.frozen? ⟨sb,1,G⟩=AS
theorem Gc.over{w1 w2:T}(h:Gc sb w w1)(k:Gc cb w1 w2)(d:w.heap.size<=cb):Gc sb w w2:=
 ⟨k.os.trans h.os,k.tape.trans h.tape,k.output.trans h.output,wz h.size k.size,λi hi No=>(k.block i (tu hi h.size) Su).trans (h.block i hi No)⟩
theorem Gc.trans_{a b c:T}(h:Gc cb a b)(k:Gc cb b c):Gc cb a c:=World.grownBy.trans h k
theorem qe.gc{t:I AI}{p:R}(h:qe w sb t p)(g:Gc cb w w')(No:¬sb=cb):qe w' sb t p:=by
 obtain⟨⟨s,d,hs⟩,hl,hp,h1,z1⟩:=h;exact⟨⟨s,g.box No d,hs⟩,hl,hp,g.box No h1,g.boxz No h1 z1⟩
def iJ:R->R->I AI->By (I AI)
 | 0,_,r=>Y r
 | j+1,c,r=>match fI r with
  | none=>G
  | some (b,r1)=>if b.toNat=c%256 then iJ j (c/256) r1 else G
def eK(n:R)(r:I AI):By (I AI×I AI):=match fI r with
 | none=>G
 | some (b,r1)=>if b.toNat=n then (match cW 0 0 r1 with
  | none=>G
  | some (k,r2)=>match fV k r2 with
   | none=>G
   | some (body,r3)=>match iJ 4 (ri body) r3 with
    | none=>G
    | some r4=>Y (body,r4))
  else G
theorem yy:∀(j c:R) (r r':I AI),iJ j c r=Y r'->D r'<=D r
 | 0,_,r,r',h=>by simp only[iJ,qN]at h;rw[h];exact lj
 | j+1,c,[],r',h=>by simp[iJ,fI]at h
 | j+1,c,b::r,r',h=>by
  simp only[iJ,fI]at h;split at h
  · have:=yy j _ r _ h;simp;omega
  cases h
theorem Cf(h:fV n r=Y (y,r')):D r'<=D r:=by
 unfold fV at h;split at h
 · simp only[qN,H9]at h;rw[<-h.2,J2];omega
 cases h
theorem CC{b:I AI}(h:eK n r=Y (b,r')):D r'<=D r:=by
 cases r with
 | nil=>simp[eK,fI]at h
 | cons x r1=>
  simp only[eK,fI]at h;split at h
  · cases d:cW 0 0 r1 with
    | none=>rw[d]at h;cases h
    | some p=>
     obtain⟨k,r2⟩:=p;have l1:=tC _ 0 0 k _ d;rw[d]at h;simp only at h;cases F:fV k r2 with
     | none=>rw[F]at h;cases h
     | some q=>
      obtain⟨y,r3⟩:=q;have l2:=Cf F;rw[F]at h;simp only at h;cases hs:iJ 4 (ri y) r3 with
      | none=>rw[hs]at h;cases h
      | some r4=>
       have l3:=yy 4 _ _ _ hs;rw[hs]at h;simp only[qN,H9]at h;rw[<-h.2];simp;omega
  cases h
def H'(sb:R)(t:I AI)(p:R)(w:T):By (I AI×I AI)->Ending->T->Prop
 | some (body,r),x,w'=>∃nb,x=.returned (.pointer (Y (Q nb 0 G)))/\w.heap.size<=nb/\nb<w'.heap.size/\mE w' nb body 2 p/\qe w' sb t (D t-D r)/\Gc sb w w'
 | none,x,w'=>x=.panicked (iT 2 p)/\Gc sb w w'
theorem BO(w:T)(s:ByteArray)(r:I AI)(e a:A)(hs:s.data.toList=r)(d:D r<=1000000):mE (w.alloc (X #[.string s,O Z e,O Z 0,O Z a] 215)) w.heap.size r e a:=by
 refine⟨⟨s,Ql,hs⟩,d,Ql,Ql,Ql,Ql⟩
theorem SS{p:Prop}(h:p:=by have h1:=Ta.size;have h2:=BY.size;simp at h1;omega):p:=h
theorem nX(sb:R)(t:I AI)(p n:R)(hn:n<256)(w:T)(hS:qe w sb t p):
 Calls prog 109 #[.pointer (Y (Q sb 0 G)),.int .u8 (n:A)] w (H' sb t p w (eK n (t.drop p))):=by
 have Wg:=aJ hS;obtain⟨⟨s,h0,hs⟩,hl,hp,h1,z1⟩:=hS;have S7:s.size=D t:=RB
 have Tn:sb<w.heap.size:=wI w _ h1;have Vx:(0:A)<=p:=Q5;go_enter func109,ntmps109
 go_wp2;clear z1;go_region_held3 (λw'=>H w' (Q sb 0 G)=Y (.string s)/\H w' (Q sb 1 G)=Y (O Z (p:A))) (go_keep) (fail)
 have IS:mE (w.alloc (X #[.string (s.extract p (D t)),O Z 2,O Z 0,O Z p] 215)).drew w.heap.size (t.drop p) 2 p:=by
  have h:=BO w _ (t.drop p) 2 p (by have h:=sD s p;rw[S7,hs]at h;exact h) (by rw[J2];omega);exact h
 have TL:qe (w.alloc (X #[.string (s.extract p (D t)),O Z 2,O Z 0,O Z p] 215)).drew sb t p:=by
  exact Wg.gc (cb:=w.heap.size) ((Gr.drew (Gr.alloc (Gr.refl w) _)).toGc) Q5
 have ae:Gc sb w (w.alloc (X #[.string (s.extract p (D t)),O Z 2,O Z 0,O Z p] 215)).drew:=(Gr.drew (Gr.alloc (Gr.refl w) _)).toGc;have aB:w.heap.size<(w.alloc (X #[.string (s.extract p (D t)),O Z 2,O Z 0,O Z p] 215)).drew.heap.size:=Q6;generalize (w.alloc _).drew=W2 at IS TL ae aB |-;generalize hR:t.drop p=RRq at IS |-;have HR:=aJ hR;have HC:=aJ IS;have HS:=aJ TL;have HG:=aJ ae;have TC:=IS.2.2.1;have ai:=IS.2.2.2.1;have ak:=IS.2.2.2.2.2;clear hR IS TL ae h0 h1 Vx hs S7;cases RRq with
 | nil=>
  go_wp2;go_region_with (first|(go_at_call 145;refine(BI w.heap.size 2 p _ (by exact HC.j)).mono ?_;rintro x w3 ⟨rfl,Ta⟩;refine an ?_))
  all_goals exact⟨rfl,by rw[HR.j];exact⟨rfl,HG.j.over (Gc.trans_ (Gy).toGc Ta) Q5⟩⟩
 | cons b r1=>
  by_cases az:b.toNat=n
  · subst az;have ad:((b.toNat:A)==b.toNat)=AT:=by simp
    go_wp2;go_region_held3 (λw'=>H w' (Q w.heap.size 1 G)=Y (O Z 2)/\H w' (Q w.heap.size 3 G)=Y (O Z (p:A))/\H w' (Q w.heap.size 2 G)=Y (O Z 0)) (first|go_keep|exact⟨d.2.2.1,d.2.2.2.1,d.2.2.2.2.2⟩|(refine⟨?_,?_,?_⟩<;>exact BY.cell Q8 Q6)) (first|(go_at_call 145;refine(pG w.heap.size b r1 2 p _ (by exact HC.j)).mono ?_;rintro x w3 ⟨rfl,d,Ta⟩;have q1:=d.2.2.1;have q2:=d.2.2.2.1;have q3:=d.2.2.2.2.2)|(go_at_call 53;refine(aj _ _ _).mono ?_;rintro e w' ⟨rfl,BY⟩))
    have Ux:=aJ (d.gr BY);have Tg:=aJ (HG.over (Gc.trans_ (Gc.trans_ (Gy).toGc Ta) BY.toGc) Q5);have aA:=aJ (HS.gc (Gc.trans_ (Gc.trans_ (Gy).toGc Ta) BY.toGc) Q5);have Ve:w.heap.size<w'.heap.size:=SS
    clear d Ta BY q1 q2 q3 TC ai ak ad;go_wp2_with fail;refine(fS _ _ 2 p _ Ux).mono ?_;intro x w5 h;cases af:cW 0 0 r1 with
    | none=>
     obtain⟨rfl,hg⟩:=h.none_ af;exact⟨rfl,by rw[HR];simp only[eK,fI,KA,af];exact⟨rfl,Tg.over hg Q5⟩⟩
    | some q5=>
     obtain⟨k5,r2⟩:=q5;obtain⟨_,rfl,rfl,IS,hg⟩:=h.some_ af;have aC:=mt _ 0 0 Q6 Q9 _ _ af;have a4:=aJ IS;have Tu:=aJ (Tg.over hg Q5);have a9:=aJ (aA.gc hg Q5);have av:=tu Ve hg.size;have a0:=aJ af;clear h IS hg af Ve;go_wp2_with fail;refine(pS _ _ 2 p _ aC _ a4).mono ?_;intro x w6 h;cases F:fV k5 r2 with
     | none=>
      obtain⟨rfl,hg⟩:=h.none_ F;exact⟨rfl,by rw[HR];simp only[eK,fI,KA,a0.j,F];exact⟨rfl,Tu.over hg Q5⟩⟩
     | some q6=>
      obtain⟨body,r3⟩:=q6;obtain⟨_,rfl,rfl,IS,hg⟩:=h.some_ F;have TQ:D body<=1000000:=by
       have h6:=a4.2.1;unfold fV at F;split at F
       · simp only[qN,H9]at F;rw[<-F.1,Bc];omega
       cases F
      have HE:U (eK b.toNat (b::r1)=match iJ 4 (ri body) r3 with
       | none=>G
       | some r4=>Y (body,r4)):=aJ (by simp only[eK,fI,KA,a0.j,F])
      have a7:=aJ IS;have bg:=aJ (Tu.over hg Q5);have a':=aJ (a9.gc hg Q5);have aH:=tu av hg.size;clear h IS hg F av;go_wp2_with(go_at_call 147;refine(DC _ _ (by unfold maxLen;show(List.toArray body).size<=_;simp;omega)).mono ?_;rintro e w7 ⟨rfl,e7⟩;subst e7)
      go_loopw[7,39] (λc i wr=>∃(k q:R) (rk:I AI),k<=4/\i=O Z k/\c=.int .u32 (q:A)/\q<4294967296/\iJ (4-k) q rk=iJ 4 (ri body) r3/\mE wr w.heap.size rk 2 p/\qe wr sb t p/\Gc sb w wr/\w.heap.size<wr.heap.size) λ_ i _=>4-(intOf i).toNat
      case atStart=>exact⟨0,_,_,Lz,rfl,rfl,IG _,rfl,a7,a',bg,aH⟩
      obtain⟨k,q,rk,hk,rfl,rfl,hq,a3,IS,TL,ae,aF⟩:=hrel;have ay:=aJ a3;have HC:=aJ IS;have HS:=aJ TL;have HG:=aJ ae;have TC:=IS.2.2.1;have ai:=IS.2.2.2.1;have ak:=IS.2.2.2.2.2;clear a3 IS TL ae;by_cases bo:k<4
      · obtain⟨m,hm⟩:∃m,4-k=m+1:=⟨3-k,Q5⟩;have HM:=aJ hm;clear hm;cases rk with
        | nil=>
         have HN:U (eK _ _=G):=aJ (by rw[HE,<-ay,HM];rfl);go_wp2;go_region_with (first|(go_at_call 145;refine(BI w.heap.size 2 p _ (by exact HC.j)).mono ?_;rintro x w3 ⟨rfl,Ta⟩;refine an ?_))
         all_goals exact⟨rfl,by rw[HR.j,HN.j];exact⟨rfl,HG.j.over (Gc.trans_ (Gy).toGc Ta) Q5⟩⟩
        | cons b2 r5=>
         have bp:IntKind.u8.wrap _=q%256:=LY _;by_cases ax:b2.toNat=q%256
         · have ad:((b2.toNat:A)==q%256)=AT:=by rw[beq_iff_eq];omega
           have HN:U (iJ (4-(k+1)) (q/256) r5=iJ 4 _ _):=aJ (by rw[<-ay,HM,show 4-(k+1)=m by have:=HM.j;omega];simp only[iJ,fI,mI ax]);clear ax;go_wp2;go_region_held3 (λw'=>H w' (Q w.heap.size 1 G)=Y (O Z 2)/\H w' (Q w.heap.size 3 G)=Y (O Z (p:A))/\H w' (Q w.heap.size 2 G)=Y (O Z 0)) (first|go_keep|exact⟨d.2.2.1,d.2.2.2.1,d.2.2.2.2.2⟩|(refine⟨?_,?_,?_⟩<;>exact BY.cell Q8 Q6)) (first|(go_at_call 145;refine(pG w.heap.size b2 r5 2 p _ (by exact HC.j)).mono ?_;rintro x w3 ⟨rfl,d,Ta⟩;have q1:=d.2.2.1;have q2:=d.2.2.2.1;have q3:=d.2.2.2.2.2)|(go_at_call 53;refine(aj _ _ _).mono ?_;rintro e w' ⟨rfl,BY⟩))
           have Ux:=aJ (d.gr BY);have Tg:=aJ (HG.over (Gc.trans_ (Gc.trans_ (Gy).toGc Ta) BY.toGc) Q5);have aA:=aJ (HS.gc (Gc.trans_ (Gc.trans_ (Gy).toGc Ta) BY.toGc) Q5);have aE:w.heap.size<w'.heap.size:=SS
           clear d Ta BY q1 q2 q3 TC ai ak ad;go_wp2;go_roundw
           case rel=>exact⟨_,_,_,Q5,QZ,QZ,Q5,HN,Ux,aA,Tg,aE⟩
           case measure=>exact Qh
         have ad:((b2.toNat:A)==q%256)=AS:=Rp
         have HN:U (eK _ _=G):=aJ (by rw[HE,<-ay,HM];simp only[iJ,fI,eP ax]);clear ax;go_wp2;go_region_with (first|(go_at_call 145;refine(pG w.heap.size b2 r5 2 p _ (by exact HC.j)).mono ?_;rintro x w3 ⟨rfl,d,Ta⟩;have q1:=d.2.2.1;have q2:=d.2.2.2.1;have q3:=d.2.2.2.2.2)|(go_at_call 53;refine(bA _ _ _).mono ?_;rintro e w' ⟨rfl,BY⟩;refine an ?_))
         all_goals exact⟨rfl,by rw[HR.j,HN.j];exact⟨rfl,HG.j.over (Gc.trans_ (Gc.trans_ (Gy).toGc Ta) BY.toGc) Q5⟩⟩
      have aD:k=4:=by omega
      subst aD;have HN:U (eK _ _=Y _):=aJ (by rw[HE,<-ay];rfl);obtain⟨⟨s5,aI,a5⟩,e2',_⟩:=HC.j;obtain⟨⟨s6,f0,f1⟩,f2,f3,f4,g1⟩:=HS.j;have aL:s5.size=D rk:=by rw[<-a5,Aj];rfl
      have F:s6.size=D t:=by rw[<-f1,Aj];rfl
      have hle:D rk<=D t:=by
       have h1:=CC HN;rw[<-HR,J2]at h1;omega
      have bk:Z.wrap _=s6.size-s5.size:=Q_;have HT:=aJ aL;have a8:=aJ f1;have a6:=aJ F;have bj:s5.size<=s6.size:=Q5;have al:∀q,H (wr.setCell (Q sb 1 G) (O Z (s6.size-s5.size))) _=H wr _:=λq=>Cn _ _ ⟨w.heap.size,q,G⟩ _ (by intro h;simp only[Ij]at h;omega)
      have Vd:H (wr.setCell ⟨_,1,_⟩ (O Z (s6.size-s5.size))) _=Y _:=(aO Q5).trans f0;have SX:U ((wr.setCell _ _).drew.cell? _=Y _/\(wr.setCell _ _).drew.cell? _=Y _):=aJ ⟨Vd,(al 0).trans aI⟩;have SY:U ((wr.setCell _ _).drew.cell? _=Y _/\(wr.setCell _ _).drew.cell? _=Y _/\(wr.setCell _ _).drew.cell? _=Y _):=aJ ⟨(al 1).trans TC,(al 3).trans ai,(al 2).trans ak⟩;clear Vd al;clear aL F a5 f1 TC ai ak;go_wp2;go_region_held3 (λw'=>H w' (Q sb 0 G)=Y (.string s6)/\H w' (Q w.heap.size 0 G)=Y (.string s5)) (first|exact SX.j|go_keep) (fail)
      have HF:U (qe _ _ t (D t-D rk)):=aJ (by
       refine⟨⟨_,SX.1,a8⟩,f2,Q5,?_,(iI _ _ _ _).trans g1⟩;have e:((D t-D rk:R):A)=s6.size-s5.size:=by have h1:=HT.j;have h2:=a6.j;omega
       rw[e];exact tO _ _ _ f4)
      have aM:=aJ ((HG.set 1 (O Z (s6.size-s5.size))).drew);have aG:w.heap.size<(wr.setCell (Q sb 1 G) (O Z (s6.size-s5.size))).drew.heap.size:=by simp;exact aF
      obtain⟨y1,y2,y3⟩:=SY.j;clear f0 f4 g1 aI;generalize (wr.setCell _ _).drew=WF at HF aM aG y1 y2 y3 |-;go_wp2;go_ret
      rw[HR,HN];have a2:=Gr.alloc (Gr.refl WF) (X #[.string ⟨body.toArray⟩,O Z 2,O Z 0,O Z p] 215);exact⟨_,rfl,Q5,Q6,BO _ _ _ 2 p rfl TQ,HF.gc (cb:=WF.heap.size) a2.toGc Q5,aM.trans a2.toGc⟩
  have ad:((b.toNat:A)==n)=AS:=Rp
  have HE:U (eK n (b::r1)=G):=aJ (by simp only[eK,fI];rw[eP az]);clear az;go_wp2;go_region_with (first|(go_at_call 145;refine(pG w.heap.size b r1 2 p _ (by exact HC.j)).mono ?_;rintro x w3 ⟨rfl,d,Ta⟩;have q1:=d.2.2.1;have q2:=d.2.2.2.1;have q3:=d.2.2.2.2.2)|(go_at_call 53;refine(bA _ _ _).mono ?_;rintro e w' ⟨rfl,BY⟩;refine an ?_))
  all_goals exact⟨rfl,by rw[HR.j,HE.j];exact⟨rfl,HG.j.over (Gc.trans_ (Gc.trans_ (Gy).toGc Ta) BY.toGc) Q5⟩⟩
section
variable {ops:Array Oper} {rest:I Oper} {o:Oper} {a:Act} {QQq:Exit->Act->T->Prop}
end
section
variable {ops:Array Oper} {rest:I Oper} {o:Oper} {a:Act} {QQq:Exit->Act->T->Prop}
end
def vP(c k:R):I AI:=(List.range k).map λj=>UInt8.ofNat (c/256 ^ j%256)
theorem B9(c k:R):D (vP c k)=k:=by simp[vP]
def iY(n:R)(b:I AI):I AI:=[UInt8.ofNat n]++num (D b)++b++vP (ri b) 4
def wW(f:aQ):Prop:=(∀x∈f.aH,0<=x/\x<=9223372036854775807)/\(0<=f.result/\f.result<=9223372036854775807)/\(∀x∈f.aI,0<=x/\x<=9223372036854775807)/\∀i∈f.code,bl i=AT
def AG(f:eL):Prop:=D f.name<=1000000/\(∀x∈f.aH,0<=x/\x<=9223372036854775807)/\(0<=f.result/\f.result<=9223372036854775807)
def AD(f:cJ):Prop:=D f.name<=1000000/\(0<=f.func/\f.func<=9223372036854775807)
def jS:I AI:=[75,73,76,78,1]
def tT(u:aK):I AI:=fM bu u.aA
def rq(u:aK):I AI:=fM dE u.aE
def tH(u:aK):I AI:=fM d_ u.aG
def rh(u:aK):I AI:=fM fQ u.aC
def sH(u:aK):I AI:=fM fU u.aD
def KN(u:aK):I AI:=jS++iY 1 (tT u)
def Kd(u:aK):I AI:=KN u++iY 2 (rq u)
def J'(u:aK):I AI:=Kd u++iY 3 (tH u)
def KK(u:aK):I AI:=J' u++iY 4 (rh u)
def enc(u:aK):I AI:=KK u++iY 5 (sH u)
def tm(u:aK):Prop:=∀x∈u.aE,-9223372036854775808<=x/\x<=9223372036854775807
theorem yg{α:Type}{f:α->I AI}:∀{xs:I α},(∀x∈xs,D (f x)<=B)->D (xs.flatMap f)<=D xs*B
 | [],_=>by simp
 | x::xs,h=>by
  have F:=h x Q6;have d:=yg (xs:=xs) λy hy=>h y (by simp[hy])
  simp only[I',fe,Jk,LV];omega
theorem j8{α:Type}{f:α->I AI}{xs:I α}(h:∀x∈xs,D (f x)<=B)(d:D xs<=N):D (fM f xs)<=11+N*B:=by
 have h1:=dJ (D xs);have F:=yg h;have h3:=Jl B d;unfold fM;rw[fe];omega
theorem xS{α:Type}{f:α->I AI}{xs:I α}:1<=D (fM f xs):=by
 have:=(nO 10 (D xs)).2
 unfold fM num;rw[fe];omega
theorem fw(h:D l<=N):D (bu l)<=11+N*11:=j8 (λx _=>dJ _) h
theorem O7{p:Prop}(h:p:=by
 have h1:=dJ (qC i.a);have h2:=dJ i.a.toNat;have h3:=dJ i.b.toNat;unfold cq;rw[Jk];split
 · omega
 rw[fe];split<;>split<;>simp<;>omega):p:=h
theorem sj(i:bP):D (cq i)<=23:=by
 exact O7
theorem si{v l m:A}:wB v l m=AT↔l<=v/\v<=m:=by simp[wB]
theorem rI{n:A}(h:l.all (iH n)=AT)(F:n<=1000):∀x∈l,0<=x/\x<=9223372036854775807:=by
 intro x d;have:=zl.1 h x d
 simp only[iH,wB,xw]at this;omega
structure KG(u:aK):Prop where
 b1:D (tT u)<=1000000
 b2:D (rq u)<=1000000
 b3:D (tH u)<=1000000
 b4:D (rh u)<=1000000
 b5:D (sH u)<=1000000
 f1:∀x∈u.aA,∀y∈x,0<=y/\y<=9223372036854775807
 f3:∀x∈u.aG,wW x
 f4:∀x∈u.aC,AG x
 f5:∀x∈u.aD,AD x
theorem yq{n:A}{f:aQ}(d:n<=1000)(h:dA n f=AT):wW f/\D (d_ f)<=5000:=by
 simp only[dA,iG,ir,sQ]at h;obtain⟨⟨h1,h2,F⟩,h4,h5,h6,h7⟩:=h;simp only[si,iH]at h1 F h4 h6;refine⟨⟨rI h2 d,⟨F.1,Q5⟩,rI h5 d,λi hi=>zl.1 h7 i hi⟩,?_⟩;have a1:=fw (l:=f.aH) (N:=6) Q5;have a2:=fw (l:=f.aI) (N:=10) Q5;have a3:=dJ f.result.toNat;have a4:=j8 (N:=200) (xs:=f.code) (λx _=>sj x) Q5;unfold d_;simp only[fe];omega
theorem zj{n:A}{f:eL}(F:n<=1000)(h:gC n f=AT):AG f/\D (fQ f)<=5000:=by
 simp only[gC,iG,fC,sQ]at h;obtain⟨h0,h1,h2,d⟩:=h;simp only[si,iH]at h0 h1 d;refine⟨⟨Q5,rI h2 F,⟨d.1,Q5⟩⟩,?_⟩;have a1:=fw (l:=f.aH) (N:=6) Q5;have a3:=dJ f.result.toNat;have a4:=dJ (D f.name);unfold fQ h_;simp only[fe];omega
theorem zk{n:A}{f:cJ}(hn:n<=1000)(h:fi n f=AT):AD f/\D (fU f)<=5000:=by
 simp only[fi,fC,sQ]at h;obtain⟨F,d⟩:=h;simp only[si]at F d;refine⟨⟨Q5,⟨d.1,Q5⟩⟩,?_⟩;have a3:=dJ f.func.toNat;have a4:=dJ (D f.name);unfold fU h_;simp only[fe];omega
theorem jA{u:aK}(h:bG u=AT):KG u:=by
 simp only[bG,bh,cm,cO,cG,cH,sQ]at h;obtain⟨⟨s1,s2⟩,c1,⟨f1,f2⟩,⟨i1,i2⟩,e1,e2⟩:=h;simp only[si]at s1 c1 f1 i1 e1;have S:=λx d=>zl.1 s2 x d
 have F:=λx d=>yq Q5 (zl.1 f2 x d)
 have ad:=λx d=>zj Q5 (zl.1 i2 x d)
 have E:=λx d=>zk Q5 (zl.1 e2 x d)
 have S1:∀x∈u.aA,D x<=8/\∀y∈x,0<=y/\y<=9223372036854775807:=by
  intro x d;have:=S x d
  simp only[dM,sQ,si]at this;exact⟨Q5,rI this.2 Q5⟩
 refine⟨?_,?_,?_,?_,?_,λx d=>(S1 x d).2,λx d=>(F x d).1,λx d=>(ad x d).1,λx d=>(E x d).1⟩
 · have:=j8 (B:=99) (N:=20) (λx d=>fw (S1 x d).1) Q5
   unfold tT;omega
 · have:=j8 (f:=dE) (N:=50) (xs:=u.aE) (λx d=>dJ _) Q5
   unfold rq;omega
 · have:=j8 (N:=30) (λx d=>(F x d).2) Q5
   unfold tH;omega
 · have:=j8 (N:=20) (λx d=>(ad x d).2) Q5
   unfold rh;omega
 have:=j8 (N:=20) (λx d=>(E x d).2) Q5
 unfold sH;omega
theorem vH:∀(r:I AI) (k v:R),10<=k->cW k v r=G
 | [],_,_,_=>rfl
 | b::r,k,v,hk=>by
  unfold cW;by_cases F:b.toNat%128*2 ^ (7*k)<18446744073709551616
  · rw[mI F];have hz:b.toNat%128=0:=by
     rcases M6 (b.toNat%128) with h|h
     · exact h
     have h1:2 ^ 64<=2 ^ (7*k):=Mp Q9 Q5;have h2:1*2 ^ (7*k)<=b.toNat%128*2 ^ (7*k):=Jl _ h;omega
    by_cases d:b.toNat<128
    · rw[mI d,eP];intro h;rcases h with h|h
      · omega
      omega
    rw[eP d];exact vH r _ _ Q5
  · rw[eP F]
theorem vI:∀(r:I AI) (k v n:R) (r':I AI),k<=9->cW k v r=Y (n,r')->∃m,n=v+m*2 ^ (7*k)/\r=jL (10-k) m++r'/\(k≠0->m≠0)
 | [],_,_,_,_,_,h=>by simp[cW]at h
 | b::r,k,v,n,r',hk,h=>by
  unfold cW at h;have ad:=b.toNat_lt;by_cases hf:b.toNat%128*2 ^ (7*k)<18446744073709551616
  · rw[mI hf]at h;by_cases F:b.toNat<128
    · rw[mI F]at h;by_cases hc:b.toNat≠0\/k=0
      · rw[mI hc]at h;simp only[qN,H9]at h;refine⟨b.toNat,?_,?_,?_⟩
        · rw[<-h.1,Lb F]
        · rw[mT F,<-h.2,M'];rfl
        intro h0;rcases hc with d|d
        · exact d
        exact absurd d h0
      rw[eP hc]at h;cases h
    rw[eP F]at h;by_cases ae:k+1<=9
    · obtain⟨m,e1,e2,e3⟩:=vI r _ _ n _ ae h;have hm:=e3 Q5;refine⟨b.toNat%128+128*m,?_,?_,λ_=>by omega⟩
      · rw[e1,show 7*(k+1)=7*k+7 by omega,Nat.pow_add,LV];rw[show m*(2 ^ (7*k)*2 ^ 7)=128*m*2 ^ (7*k) by rw[show(2:R) ^ 7=128 by rfl,MA _ 128,<-Nat.mul_assoc,MA m _]];omega
      rw[show 10-k=(10-(k+1))+1 by omega,sU Q5,e2];have d:(b.toNat%128+128*m)%128=b.toNat%128:=by omega
      have h2:(b.toNat%128+128*m)/128=m:=Q5;rw[d,h2,show b.toNat%128+128=b.toNat by omega,M'];rfl
    rw[vH r _ _ Q5]at h;cases h
  rw[eP hf]at h;cases h
theorem RE{p:Prop}(h:p:=by simpa using h1):p:=h
theorem pj(h:cW 0 0 r=Y (n,r')):r=num n++r':=by
 obtain⟨m,h1,d,_⟩:=vI r 0 0 n _ Q9 h;have:=RE
 subst this;exact d
def DS{α:Type}(f:I AI->By (α×I AI))(g:α->I AI):Prop:=∀r y r',f r=Y (y,r')->r=g y++r'
theorem Da{v:R}:qC (kK v)=v:=by
 unfold kK qC;split
 · rw[mI Q5];omega
 rw[eP Q5];omega
theorem tN:DS bn dE:=by
 intro r y r' h;unfold bn at h;cases d:cW 0 0 r with
 | none=>rw[d]at h;cases h
 | some p=>
  obtain⟨n,r1⟩:=p;rw[d]at h;simp only[Mb,qN,H9]at h;rw[pj d,<-h.1,<-h.2];unfold dE;rw[Da]
theorem jp:DS cI cK:=by
 intro r y r' h;unfold cI at h;cases d:cW 0 0 r with
 | none=>rw[d]at h;cases h
 | some p=>
  obtain⟨n,r1⟩:=p;rw[d]at h;simp only at h;split at h
  · simp only[qN,H9]at h;rw[pj d,<-h.1,<-h.2];unfold cK;simp
  cases h
theorem Sj{p:Prop}(h:p:=by rw[Bc];omega):p:=h
theorem yU(h:fV n r=Y (y,r')):r=y++r'/\D y=n:=by
 unfold fV at h;split at h
 · simp only[qN,H9]at h;rw[<-h.1,<-h.2];exact⟨(KV _ _).symm,Sj⟩
 cases h
theorem zN:DS iB h_:=by
 intro r y r' h;unfold iB at h;cases d:cW 0 0 r with
 | none=>rw[d]at h;cases h
 | some p=>
  obtain⟨n,r1⟩:=p;rw[d]at h;simp only at h;obtain⟨h1,F⟩:=yU h;rw[pj d,h1];unfold h_;rw[F,zx]
theorem BD{α:Type}{f:I AI->By (α×I AI)}{g:α->I AI}(hf:DS f g):∀(n:R) (r:I AI) (ys:I α) (r':I AI),jf f n r=Y (ys,r')->D ys=n/\r=ys.flatMap g++r'
 | 0,r,ys,r',h=>by
  simp only[jf,qN,H9]at h;rw[<-h.1,<-h.2];simp
 | n+1,r,ys,r',h=>by
  simp only[jf]at h;cases F:f r with
  | none=>rw[F]at h;cases h
  | some p=>
   obtain⟨y,r1⟩:=p;rw[F]at h;simp only at h;cases d:jf f n r1 with
   | none=>rw[d]at h;cases h
   | some q=>
    obtain⟨zs,r2⟩:=q;rw[d]at h;simp only[qN,H9]at h;obtain⟨e1,e2⟩:=BD hf n _ _ _ d;rw[<-h.1,<-h.2,hf r y _ F,e2];simp[e1]
theorem tF{α:Type}{f:I AI->By (α×I AI)}{g:α->I AI}(F:DS f g):DS (aV f) (fM g):=by
 intro r ys r' h;unfold aV at h;cases d:cW 0 0 r with
 | none=>rw[d]at h;cases h
 | some p=>
  obtain⟨n,r1⟩:=p;rw[d]at h;simp only at h;split at h
  · obtain⟨e1,e2⟩:=BD F n _ _ _ h;rw[pj d,e2];unfold fM;rw[e1,zx]
  cases h
theorem nx:DS cP bu:=tF jp
theorem F7:DS ey cq:=by
 intro r y r' h;cases r with
 | nil=>simp[ey,fI]at h
 | cons b r1=>
  simp only[ey,fI]at h;have hb:UInt8.ofNat ((b.toNat:A)).toNat=b:=Q6;by_cases h1:wB (b.toNat:A) 0 20=AT
  · rw[mI h1]at h;by_cases F:(b.toNat:A)=1
    · rw[mI F]at h;cases hs:bn r1 with
      | none=>rw[hs]at h;cases h
      | some p=>
       obtain⟨v,r2⟩:=p;rw[hs]at h;simp only[qN,H9]at h;rw[tN _ v _ hs,<-h.1,<-h.2];unfold cq;simp only[mI F,hb];rfl
    rw[eP F]at h;rcases kI b.toNat with d|d|d
    · rw[mI d]at h;simp only[qN,H9]at h;rw[<-h.1,<-h.2];unfold cq;simp[eP F,d]
    · rw[eP Q5]at h;cases hs:cI r1 with
      | none=>rw[hs]at h;cases h
      | some p=>
       obtain⟨v,r2⟩:=p;rw[hs]at h;simp only[mI d,qN,H9]at h;rw[jp _ v _ hs,<-h.1,<-h.2];unfold cq cK;simp[eP F,d]
    rw[eP Q5]at h;cases hs:cI r1 with
    | none=>rw[hs]at h;cases h
    | some p=>
     obtain⟨v,r2⟩:=p;rw[hs]at h;simp only[eP (show ¬ah b.toNat=1 by omega)]at h;cases TV:cI r2 with
     | none=>rw[TV]at h;cases h
     | some q=>
      obtain⟨u,r3⟩:=q;rw[TV]at h;simp only[qN,H9]at h;rw[jp _ v _ hs,jp _ u _ TV,<-h.1,<-h.2];unfold cq cK;simp[eP F,d]
  rw[eP h1]at h;cases h
theorem Fk:DS dR d_:=by
 intro r y r' h;unfold dR at h;cases h1:cP r with
 | none=>rw[h1]at h;cases h
 | some p1=>
  obtain⟨ps,r1⟩:=p1;rw[h1]at h;simp only at h;cases F:cP r1 with
  | none=>rw[F]at h;cases h
  | some p2=>
   obtain⟨ls,r2⟩:=p2;rw[F]at h;simp only at h;cases h3:cI r2 with
   | none=>rw[h3]at h;cases h
   | some p3=>
    obtain⟨res,r3⟩:=p3;rw[h3]at h;simp only at h;cases d:aV ey r3 with
    | none=>rw[d]at h;cases h
    | some p4=>
     obtain⟨c,r4⟩:=p4;rw[d]at h;simp only[qN,H9]at h;rw[nx r _ _ h1,nx _ _ _ F,jp _ _ _ h3,tF F7 _ c _ d,<-h.1,<-h.2];unfold d_ cK;simp only[zx]
theorem G8:DS er fQ:=by
 intro r y r' h;unfold er at h;cases F:iB r with
 | none=>rw[F]at h;cases h
 | some p1=>
  obtain⟨s,r1⟩:=p1;rw[F]at h;simp only at h;cases d:cP r1 with
  | none=>rw[d]at h;cases h
  | some p2=>
   obtain⟨ls,r2⟩:=p2;rw[d]at h;simp only at h;cases h3:cI r2 with
   | none=>rw[h3]at h;cases h
   | some p3=>
    obtain⟨res,r3⟩:=p3;rw[h3]at h;simp only[qN,H9]at h;rw[zN r s _ F,nx _ _ _ d,jp _ _ _ h3,<-h.1,<-h.2];unfold fQ cK;simp only[zx]
theorem Gd:DS fH fU:=by
 intro r y r' h;unfold fH at h;cases d:iB r with
 | none=>rw[d]at h;cases h
 | some p1=>
  obtain⟨s,r1⟩:=p1;rw[d]at h;simp only at h;cases F:cI r1 with
  | none=>rw[F]at h;cases h
  | some p3=>
   obtain⟨res,r3⟩:=p3;rw[F]at h;simp only[qN,H9]at h;rw[zN r s _ d,jp _ _ _ F,<-h.1,<-h.2];unfold fU cK;simp only[zx]
theorem zH:∀(j k v m:R) (r:I AI),j+k=10->v<2 ^ (7*k)->v+m*2 ^ (7*k)<18446744073709551616->(k≠0->m≠0)->cW k v (jL j m++r)=Y (v+m*2 ^ (7*k),r)
 | 0,k,v,m,r,Xo,hv,IN,hm=>by
  have hk:k=10:=Q5;subst hk;have h1:=hm Q9;have h2:1*2 ^ (7*10)<=m*2 ^ (7*10):=Jl _ Q5;omega
 | j+1,k,v,m,r,Xo,hv,IN,hm=>by
  by_cases hs:m<128
  · rw[mT hs];have d:(UInt8.ofNat m).toNat=m:=by rw[LZ];omega
    show cW k v (UInt8.ofNat m::r)=_
    unfold cW;rw[d,Lb hs,mI Q5,mI hs,mI];by_cases F:k=0
    · exact .inr F
    exact .inl (hm F)
  rw[sU hs];have d:(UInt8.ofNat (m%128+128)).toNat=m%128+128:=by rw[LZ];omega
  show cW k v (UInt8.ofNat (m%128+128)::(jL j (m/128)++r))=_
  unfold cW;have hl:(m%128+128)%128=m%128:=Q5;have hle:m%128*2 ^ (7*k)<=m*2 ^ (7*k):=Jl _ Q5;rw[d,hl,mI Q5,eP Q5];have hp:2 ^ (7*(k+1))=2 ^ (7*k)*128:=by rw[show 7*(k+1)=7*k+7 by omega,Nat.pow_add]
  have h2:m%128*2 ^ (7*k)<=127*2 ^ (7*k):=Jl _ Q5;have e:v+m%128*2 ^ (7*k)+m/128*2 ^ (7*(k+1))=v+m*2 ^ (7*k):=by
   rw[hp,show m/128*(2 ^ (7*k)*128)=(128*(m/128))*2 ^ (7*k) by rw[MA _ 128,<-Nat.mul_assoc,MA _ 128],MX,<-LV,show m%128+128*(m/128)=m by omega]
  rw[zH j _ _ _ r Q5 (by rw[hp];omega) (by rw[e];exact IN) (by intro;omega),e]
theorem pO(r:I AI)(h:n<18446744073709551616):cW 0 0 (num n++r)=Y (n,r):=by
 have:=zH _ 0 0 n r rfl Q9 RY Q6
 unfold num;simpa using this
theorem xv(b r:I AI):fV (D b) (b++r)=Y (b,r):=by simp[fV]
theorem xT(c j:R):vP c (j+1)=UInt8.ofNat (c%256)::vP (c/256) j:=by
 unfold vP;rw[List.range_succ_eq_map,Lq,List.map_map];congr 1
 · simp
 apply Mc
 intro i _;simp only[Function.comp,Nat.succ_eq_add_one];rw[Nat.pow_succ,MA,Nat.div_div_eq_div_mul]
theorem BM:∀(j c:R) (r:I AI),iJ j c (vP c j++r)=Y r
 | 0,c,r=>by simp[iJ,vP]
 | j+1,c,r=>by
  rw[xT];show iJ (j+1) c (UInt8.ofNat (c%256)::(vP (c/256) j++r))=_
  simp only[iJ,fI];rw[mI (by rw[LZ];omega)];exact BM j _ r
theorem BZ:∀(j c:R) (r r':I AI),iJ j c r=Y r'->r=vP c j++r'
 | 0,c,r,r',h=>by simp only[iJ,qN]at h;rw[h];simp[vP]
 | j+1,c,[],r',h=>by simp[iJ,fI]at h
 | j+1,c,b::r,r',h=>by
  simp only[iJ,fI]at h;split at h
  · rename_i hb
    rw[xT,<-hb,M',BZ j _ r _ h];rfl
  cases h
theorem zM{b:I AI}(h:eK n r=Y (b,r')):r=iY n b++r':=by
 cases r with
 | nil=>simp[eK,fI]at h
 | cons x r1=>
  simp only[eK,fI]at h;by_cases F:x.toNat=n
  · rw[mI F]at h;cases d:cW 0 0 r1 with
    | none=>rw[d]at h;cases h
    | some p=>
     obtain⟨k,r2⟩:=p;rw[d]at h;simp only at h;cases ht:fV k r2 with
     | none=>rw[ht]at h;cases h
     | some q=>
      obtain⟨y,r3⟩:=q;rw[ht]at h;simp only at h;cases hs:iJ 4 (ri y) r3 with
      | none=>rw[hs]at h;cases h
      | some r4=>
       rw[hs]at h;simp only[qN,H9]at h;obtain⟨t1,t2⟩:=yU ht;rw[pj d,t1,BZ 4 _ _ _ hs,<-h.1,<-h.2,<-t2,<-F];unfold iY;rw[M'];simp only[zx,Ls,Kj]
  rw[eP F]at h;cases h
theorem Ey(b r:I AI)(F:n<256)(d:D b<18446744073709551616):eK n (iY n b++r)=Y (b,r):=by
 have e:iY n b++r=UInt8.ofNat n::(num (D b)++(b++(vP (ri b) 4++r))):=by unfold iY;simp only[zx,Ls,Kj]
 rw[e];simp only[eK,fI];rw[mI (by rw[LZ];omega),pO _ d];simp only[xv,BM]
def cY{α:Type}(f:I AI->By (I α×I AI))(b:I AI):By (I α):=match f b with
 | some (y,[])=>Y y
 | _=>G
def bW{α:Type}(n:R)(f:I AI->By (I α×I AI))(r:I AI):By (I α×I AI):=match eK n r with
 | none=>G
 | some (b,r')=>match cY f b with
  | none=>G
  | some y=>Y (y,r')
theorem E9{α:Type}{f:I AI->By (I α×I AI)}{g:I α->I AI}(hf:DS f g){r r':I AI}{y:I α}(h:bW n f r=Y (y,r')):r=iY n (g y)++r'/\cY f (g y)=Y y:=by
 unfold bW at h;cases F:eK n r with
 | none=>rw[F]at h;cases h
 | some p=>
  obtain⟨b,r1⟩:=p;rw[F]at h;simp only at h;cases d:cY f b with
  | none=>rw[d]at h;cases h
  | some z=>
   rw[d]at h;simp only[qN,H9]at h;obtain⟨rfl,rfl⟩:=h;have hfb:f b=Y (z,[]):=by
    unfold cY at d;split at d
    · rename_i y' heq;simp only[qN]at d;rw[heq,d]
    cases d
   have e:=hf b z _ hfb;rw[Ir]at e;rw[<-e];exact⟨zM F,d⟩
theorem xq{α:Type}{f:I AI->By (I α×I AI)}{b:I AI}{y:I α}(F:n<256)(hb:D b<18446744073709551616)(d:cY f b=Y y):bW n f (iY n b++r)=Y (y,r):=by
 unfold bW;rw[Ey b r F hb];simp only[d]
def pl(t r:I AI):R:=D t-D r
def lk(t:I AI):aK ⊕ (A×R):=
 if 20000<D t then .inr (3,0)
 else if t.take 5≠jS then .inr (2,0)
 else match bW 1 (aV cP) (t.drop 5) with
  | none=>.inr (2,5)
  | some (sh,r1)=>if bh sh=AS then .inr (2,5) else match bW 2 (aV bn) r1 with
   | none=>.inr (2,pl t r1)
   | some (cs,r2)=>if cm cs=AS then .inr (2,pl t r1) else match bW 3 (aV dR) r2 with
    | none=>.inr (2,pl t r2)
    | some (fs,r3)=>if cO fs (D sh)=AS then .inr (2,pl t r2) else match bW 4 (aV er) r3 with
     | none=>.inr (2,pl t r3)
     | some (im,r4)=>if cG im (D sh)=AS then .inr (2,pl t r3) else match bW 5 (aV fH) r4 with
      | none=>.inr (2,pl t r4)
      | some (ex,r5)=>if cH ex (D fs)=AS then .inr (2,pl t r4) else if r5=[] then .inl ⟨sh,cs,fs,im,ex⟩ else .inr (2,pl t r5)
end Go.Proofs.YtghjmnlapcpbiaaGreatDoor
