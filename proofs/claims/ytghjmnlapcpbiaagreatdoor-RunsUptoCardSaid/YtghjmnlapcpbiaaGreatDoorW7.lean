import Derived.Test.YtghjmnlapcpbiaaGreatDoorQ2
namespace Go.Proofs.YtghjmnlapcpbiaaGreatDoor
open _root_ renaming Option.some->Y,Option.none->G,Go.Value.int->O,Go.IntKind.i64->Z,Go.Value.slice->J,List->I,Nat->R,Int->A,Go.World.cell?->H,List.length->D,Go.Obj.cells->X,Go.Value->M,Go.World->T,Go.Addr.mk->Q,Go.RowKit.Hid->U,UInt8->AI,Bool.false->AS,Bool.true->AT,Option->By
open Go.Proofs.Tryz
set_option maxRecDepth 100000
set_option maxHeartbeats 2000000
set_option linter.unusedVariables false
set_option linter.unusedSimpArgs false
open Go.RowKit
attribute [local go_sem ↓] Go.wp_at_zero Go.wp_at_succ
theorem Tryz.rinfo_rlist_func:(Tryz.prog.info? 74).map (λi=>(i.zero,i.size,i.bytes))=Y (Y (Value.agg #[J G 0 0,O Z 0,J G 0 0,J G 0 0]),4,80):=Q7
theorem Al(cb B:R)(r:I AI)(e a:A)(w:T)(hc:mE w cb r e a)(hb:cb<B)(hB:B<=w.heap.size):
 Calls prog 116 #[.pointer (Y (Q cb 0 G)),.func (.func 62) #[] #[]] w (tX cb e a w (λw' v (y:I aQ)=>iM B w' v y) (aV dR r)):=by
 have HC:=aJ hc;clear hc;go_enter func116,ntmps116
 go_wp2_with fail;refine(fS _ r e a _ HC).mono ?_;intro x w1 h;cases hn:cW 0 0 r with
 | none=>
  exact NP
 | some p=>
  obtain⟨n,r1⟩:=p;obtain⟨v,rfl,rfl,IS,hg⟩:=h.some_ hn;have Td:=aJ hg;have ay:=aJ IS;obtain⟨⟨s,h0,hs⟩,hl,h1,h2,hz,hj⟩:=IS;have S7:s.size=D r1:=RB
  have av:IntKind.u64.wrap _=s.size:=FP _ Q5;by_cases hle:n<=D r1
  · have HE:U (aV dR r=jf dR n r1):=aJ QI;have hd:(n:A)<=s.size:=by omega
    have aE:n<=1000000:=Q5;clear h hg hn hs hl hz S7 hle;go_wp2;go_region_held3 (λw'=>H w' (Q cb 0 G)=Y (.string s)/\H w' (Q cb 1 G)=Y (O Z e)/\H w' (Q cb 3 G)=Y (O Z a)/\H w' (Q cb 2 G)=Y (O Z 0)) (first|go_keep|(refine⟨?_,?_,?_,?_⟩<;>exact BY.cell Q8 Q6)) (first|(go_at_call 53;refine(aj _ _ _).mono ?_;rintro e w' ⟨rfl,BY⟩))
    have Tr:=aJ (ay.gr (Gr.trans Gy BY));have OF:=aJ (Td.trans (Gr.trans Gy BY).toGc);clear BY h0 h1 h2 hj av hd;obtain⟨i0,hi,TU,Ty,TO⟩:=Lt Tryz.rinfo_rlist_func;obtain⟨S8,hM⟩:∃S8,S8=madeCells (Value.agg #[J G 0 0,O Z 0,J G 0 0,J G 0 0]).cells ((n:A).toNat*i0.size):=⟨_,rfl⟩;have ak:S8.size=n*4:=Ru
    have aC:∀V,(Instr.makeSlice 54 (.int .u64 n) (.int .u64 n)).run prog V=.ok (J (Y (Q V.heap.size 0 G)) n n) (V.alloc (X S8 74)):=by
     intro V;have h:=Ng V 54 74 _ _ underlying54 hi TU .u64 .u64 n n Q5 Q5 RM Q5;rw[<-hM]at h;simpa using h
    have HM:=aJ ak;clear hM ak hi TU Ty TO;go_wp2;have VU:=wz hB OF.size;have Uu:=OF.size;go_loopw[27] (λi wr=>∃(k:R) (ys:I aQ) (rk:I AI),k<=n/\i=O Z k/\D ys=k/\mE wr cb rk e a/\Gc cb w wr/\jf dR n r1=lZ ys (jf dR (n-k) rk)/\w'.heap.size<wr.heap.size/\(∀j,j<n*4->(∃x,H wr (Q w'.heap.size j G)=Y x)/\wr.frozen? ⟨w'.heap.size,j,G⟩=AS)/\∀j y,ys[j]? =Y y->(∃vp vl vc,H wr ⟨w'.heap.size,j*4,G⟩=Y vp/\H wr ⟨w'.heap.size,j*4+1,G⟩=Y (O Z y.result)/\H wr ⟨w'.heap.size,j*4+2,G⟩=Y vl/\H wr ⟨w'.heap.size,j*4+3,G⟩=Y vc/\gO (w'.heap.size+1) wr vp y.aH/\gO (w'.heap.size+1) wr vl y.aI/\jd (w'.heap.size+1) wr vc y.code)) λi _=>n-(intOf i).toNat
    case atStart=>
     exact NI
    case round=>
     obtain⟨k,ys,rk,hk,rfl,Tz,IS,ae,af,S7,d,ai⟩:=hrel;have HN:=aJ af;have U5:=aJ ai;have Uy:=aJ d;have Te:=aJ ae;have T6:=aJ IS;have Vp:=aJ Tz;clear af ai d ae IS Tz aC;by_cases IN:k<n
     · obtain⟨m,hm⟩:∃m,n-k=m+1:=⟨n-k-1,Q5⟩;have Vo:=aJ hm;clear hm;go_wp2_with fail;refine(CS _ (w'.heap.size+1) _ e a _ T6 Q5 Q5).mono ?_;intro x w4 h;cases hf:dR rk with
       | none=>
        exact NK
       | some p=>
        obtain⟨y,r4⟩:=p;obtain⟨v,rfl,hy,IS,hg⟩:=h.some_ hf;have Vt:U (jf _ n _=lZ _ (jf _ (n-(k+1)) _)):=aJ QA;have Ui:Kp (w'.heap.size) _ _:=hg.kp Q5;have Ve:=tu S7 hg.size;have Tk:=aJ (lA Uy Ui S7);have Ux:=aJ IS;have Tg:=aJ (Te.trans hg);have F:=aJ Ui;have HY:=aJ hy;clear h hf IS Ui;obtain⟨vp,vl,vc,hv,hp,hl,ad⟩:=HY.j;obtain⟨pp,cp,al⟩:=hp.shape;obtain⟨pl,cl,aA⟩:=hl.shape;obtain⟨pc,cc,ax⟩:=ad.shape;subst al;subst aA;subst ax;subst hv;have HP:=aJ hp;have HL:=aJ hl;have aD:=aJ ad;clear hp hl ad;obtain⟨⟨x0,US⟩,TU⟩:=Tk (k*4) Q5;obtain⟨⟨x1,az⟩,Ty⟩:=Tk (k*4+1) Q5;obtain⟨⟨x2,Tx⟩,TO⟩:=Tk (k*4+2) Q5;obtain⟨⟨x3,aB⟩,hz3⟩:=Tk (k*4+3) Q5;have Wa:(0:A)<=k:=Q5;have VD:(k:A)<n:=Q5;clear hg hy;go_wp2;go_roundw
        case rel=>
         have Tz:=Vp.j;refine⟨_,_,_,Q5,QZ,by simp[Tz],bX (bX (bX (bX (Ux) Q5) Q5) Q5) Q5,bw (bw (bw (bw (Tg) Uu) Uu) Uu) Uu,Vt,Sp,gR (gR (gR (gR (Tk)))),λj z hj=>?_⟩;rcases mP hj with⟨h1,h2⟩|⟨h1,h2⟩
         · obtain⟨vp,vl,vc,q0,q1,q2,q3,s1,s2,s3⟩:=U5 j z h1;exact⟨_,_,_,by rw[aO Q5,aO Q5,aO Q5,aO Q5];exact F.cell lj q0,by rw[aO Q5,aO Q5,aO Q5,aO Q5];exact F.cell lj q1,by rw[aO Q5,aO Q5,aO Q5,aO Q5];exact F.cell lj q2,by rw[aO Q5,aO Q5,aO Q5,aO Q5];exact F.cell lj q3,((((s1.kp (F.mono Q5)).kp (Kp.set _ Q5)).kp (Kp.set _ Q5)).kp (Kp.set _ Q5)).kp (Kp.set _ Q5),((((s2.kp (F.mono Q5)).kp (Kp.set _ Q5)).kp (Kp.set _ Q5)).kp (Kp.set _ Q5)).kp (Kp.set _ Q5),((((s3.kp (F.mono Q5)).kp (Kp.set _ Q5)).kp (Kp.set _ Q5)).kp (Kp.set _ Q5)).kp (Kp.set _ Q5)⟩
         subst h1;subst h2;rw[Tz];exact⟨_,_,_,by rw[aO Q5,aO Q5,aO Q5];exact tO _ _ _ (US),by rw[aO Q5,aO Q5];exact tO _ _ _ ((aO Q5).trans (az)),by rw[aO Q5];exact tO _ _ _ ((aO Q5).trans ((aO Q5).trans (Tx))),by exact tO _ _ _ ((aO Q5).trans ((aO Q5).trans ((aO Q5).trans (aB)))),((((HP).kp (Kp.set _ Q5)).kp (Kp.set _ Q5)).kp (Kp.set _ Q5)).kp (Kp.set _ Q5),((((HL).kp (Kp.set _ Q5)).kp (Kp.set _ Q5)).kp (Kp.set _ Q5)).kp (Kp.set _ Q5),((((aD).kp (Kp.set _ Q5)).kp (Kp.set _ Q5)).kp (Kp.set _ Q5)).kp (Kp.set _ Q5)⟩
        case measure=>exact Qh
     have TN:k=n:=by omega
     subst TN;have UE:U (aV _ r=Y _):=aJ Sq;go_wp2;go_ret
     rw[UE];refine⟨_,rfl,?_,T6,Te⟩;have Tz:=Vp.j;show iM B wr (J (Y (Q w'.heap.size 0 G)) k k) ys
     refine⟨_,k,by rw[Tz],QB,λi y hi=>?_⟩;have hq:=U5 i y hi;obtain⟨vp,vl,vc,q0,q1,q2,q3,s1,s2,s3⟩:=hq;exact⟨_,0,_,_,_,rfl,VU,by rw[Aq];exact q0,by rw[Aq];exact q1,by rw[Aq];exact q2,by rw[Aq];exact q3,s1.mono Q5,s2.mono Q5,s3.mono Q5⟩
  have HE:U (aV dR r=G):=aJ QJ;exact Nl
theorem Tryz.rinfo_rlist_imp:(Tryz.prog.info? 89).map (λi=>(i.zero,i.size,i.bytes))=Y (Y (Value.agg #[.string ⟨#[]⟩,J G 0 0,O Z 0]),3,48):=Q7
theorem C_(cb B:R)(r:I AI)(e a:A)(w:T)(hc:mE w cb r e a)(hb:cb<B)(hB:B<=w.heap.size):
 Calls prog 121 #[.pointer (Y (Q cb 0 G)),.func (.func 65) #[] #[]] w (tX cb e a w (λw' v (y:I eL)=>fO B w' v y) (aV er r)):=by
 have HC:=aJ hc;clear hc;go_enter func121,ntmps121
 go_wp2_with fail;refine(fS _ r e a _ HC).mono ?_;intro x w1 h;cases hn:cW 0 0 r with
 | none=>
  exact NP
 | some p=>
  obtain⟨n,r1⟩:=p;obtain⟨v,rfl,rfl,IS,hg⟩:=h.some_ hn;have Td:=aJ hg;have ay:=aJ IS;obtain⟨⟨s,h0,hs⟩,hl,h1,h2,hz,hj⟩:=IS;have S7:s.size=D r1:=RB
  have ax:IntKind.u64.wrap _=s.size:=FP _ Q5;by_cases hle:n<=D r1
  · have HE:U (aV er r=jf er n r1):=aJ QI;have hd:(n:A)<=s.size:=by omega
    have aB:n<=1000000:=Q5;clear h hg hn hs hl hz S7 hle;go_wp2;go_region_held3 (λw'=>H w' (Q cb 0 G)=Y (.string s)/\H w' (Q cb 1 G)=Y (O Z e)/\H w' (Q cb 3 G)=Y (O Z a)/\H w' (Q cb 2 G)=Y (O Z 0)) (first|go_keep|(refine⟨?_,?_,?_,?_⟩<;>exact BY.cell Q8 Q6)) (first|(go_at_call 53;refine(aj _ _ _).mono ?_;rintro e w' ⟨rfl,BY⟩))
    have Tr:=aJ (ay.gr (Gr.trans Gy BY));have OF:=aJ (Td.trans (Gr.trans Gy BY).toGc);clear BY h0 h1 h2 hj ax hd;obtain⟨i0,hi,TU,Ty,TO⟩:=Lt Tryz.rinfo_rlist_imp;obtain⟨S8,hM⟩:∃S8,S8=madeCells (Value.agg #[.string ⟨#[]⟩,J G 0 0,O Z 0]).cells ((n:A).toNat*i0.size):=⟨_,rfl⟩;have al:S8.size=n*3:=Ru
    have aA:∀V,(Instr.makeSlice 55 (.int .u64 n) (.int .u64 n)).run prog V=.ok (J (Y (Q V.heap.size 0 G)) n n) (V.alloc (X S8 89)):=by
     intro V;have h:=Ng V 55 89 _ _ underlying55 hi TU .u64 .u64 n n Q5 Q5 RM Q5;rw[<-hM]at h;simpa using h
    have HM:=aJ al;clear hM al hi TU Ty TO;go_wp2;have VU:=wz hB OF.size;have Uu:=OF.size;go_loopw[27] (λi wr=>∃(k:R) (ys:I eL) (rk:I AI),k<=n/\i=O Z k/\D ys=k/\mE wr cb rk e a/\Gc cb w wr/\jf er n r1=lZ ys (jf er (n-k) rk)/\w'.heap.size<wr.heap.size/\(∀j,j<n*3->(∃x,H wr (Q w'.heap.size j G)=Y x)/\wr.frozen? ⟨w'.heap.size,j,G⟩=AS)/\∀j y,ys[j]? =Y y->(∃vs vp,H wr ⟨w'.heap.size,j*3,G⟩=Y vs/\H wr ⟨w'.heap.size,j*3+1,G⟩=Y vp/\H wr ⟨w'.heap.size,j*3+2,G⟩=Y (O Z y.result)/\iU vs y.name/\gO (w'.heap.size+1) wr vp y.aH)) λi _=>n-(intOf i).toNat
    case atStart=>
     exact NI
    case round=>
     obtain⟨k,ys,rk,hk,rfl,F,IS,af,ai,S7,d,ak⟩:=hrel;have HN:=aJ ai;have U5:=aJ ak;have Uy:=aJ d;have Te:=aJ af;have T6:=aJ IS;have Vp:=aJ F;clear ai ak d af IS F aA;by_cases IN:k<n
     · obtain⟨m,hm⟩:∃m,n-k=m+1:=⟨n-k-1,Q5⟩;have Vo:=aJ hm;clear hm;go_wp2_with fail;refine(EJ _ (w'.heap.size+1) _ e a _ T6 Q5 Q5).mono ?_;intro x w4 h;cases hf:er rk with
       | none=>
        exact NK
       | some p=>
        obtain⟨y,r4⟩:=p;obtain⟨v,rfl,hy,IS,hg⟩:=h.some_ hf;have Vt:U (jf _ n _=lZ _ (jf _ (n-(k+1)) _)):=aJ QA;have Ui:Kp (w'.heap.size) _ _:=hg.kp Q5;have Ve:=tu S7 hg.size;have Tk:=aJ (lA Uy Ui S7);have Ux:=aJ IS;have Tg:=aJ (Te.trans hg);have Uq:=aJ Ui;have HY:=aJ hy;clear h hf IS Ui;obtain⟨vs,vp,hv,ht,hp⟩:=HY.j;obtain⟨pp,cp,av⟩:=hp.shape;have HT:=aJ ht;obtain⟨st,Tj,ad,ae⟩:=ht;subst av;subst Tj;subst hv;have HP:=aJ hp;clear hp ad ae;obtain⟨⟨x0,US⟩,TU⟩:=Tk (k*3) Q5;obtain⟨⟨x1,az⟩,Ty⟩:=Tk (k*3+1) Q5;obtain⟨⟨x2,Tx⟩,TO⟩:=Tk (k*3+2) Q5;have Wa:(0:A)<=k:=Q5;have VD:(k:A)<n:=Q5;clear hg hy;go_wp2;go_roundw
        case rel=>
         have F:=Vp.j;refine⟨_,_,_,Q5,QZ,by simp[F],bX (bX (bX (Ux) Q5) Q5) Q5,bw (bw (bw (Tg) Uu) Uu) Uu,Vt,Sp,gR (gR (gR (Tk))),λj z hj=>?_⟩;rcases mP hj with⟨h1,h2⟩|⟨h1,h2⟩
         · obtain⟨vs,vp,q0,q1,q2,s0,s1⟩:=U5 j z h1;exact⟨_,_,by rw[aO Q5,aO Q5,aO Q5];exact Uq.cell lj q0,by rw[aO Q5,aO Q5,aO Q5];exact Uq.cell lj q1,by rw[aO Q5,aO Q5,aO Q5];exact Uq.cell lj q2,s0,(((s1.kp (Uq.mono Q5)).kp (Kp.set _ Q5)).kp (Kp.set _ Q5)).kp (Kp.set _ Q5)⟩
         subst h1;subst h2;rw[F];exact⟨_,_,by rw[aO Q5,aO Q5];exact tO _ _ _ (US),by rw[aO Q5];exact tO _ _ _ ((aO Q5).trans (az)),SR,HT,(((HP).kp (Kp.set _ Q5)).kp (Kp.set _ Q5)).kp (Kp.set _ Q5)⟩
        case measure=>exact Qh
     have TN:k=n:=by omega
     subst TN;have UE:U (aV _ r=Y _):=aJ Sq;go_wp2;go_ret
     rw[UE];refine⟨_,rfl,?_,T6,Te⟩;have F:=Vp.j;show fO B wr (J (Y (Q w'.heap.size 0 G)) k k) ys
     refine⟨_,k,by rw[F],QB,λi y hi=>?_⟩;have hq:=U5 i y hi;obtain⟨vs,vp,q0,q1,q2,s0,s1⟩:=hq;exact⟨_,0,_,_,rfl,VU,by rw[Aq];exact q0,by rw[Aq];exact q1,by rw[Aq];exact q2,s0,s1.mono Q5⟩
  have HE:U (aV er r=G):=aJ QJ;exact Nl
theorem Tryz.rinfo_rlist_exp:(Tryz.prog.info? 71).map (λi=>(i.zero,i.size,i.bytes))=Y (Y (Value.agg #[.string ⟨#[]⟩,O Z 0]),2,24):=Q7
theorem Cc(cb B:R)(r:I AI)(e a:A)(w:T)(hc:mE w cb r e a)(hb:cb<B)(hB:B<=w.heap.size):
 Calls prog 124 #[.pointer (Y (Q cb 0 G)),.func (.func 68) #[] #[]] w (tX cb e a w (λw' v (y:I cJ)=>fB B w' v y) (aV fH r)):=by
 have HC:=aJ hc;clear hc;go_enter func124,ntmps124
 go_wp2_with fail;refine(fS _ r e a _ HC).mono ?_;intro x w1 h;cases hn:cW 0 0 r with
 | none=>
  exact NP
 | some p=>
  obtain⟨n,r1⟩:=p;obtain⟨v,rfl,rfl,IS,hg⟩:=h.some_ hn;have Td:=aJ hg;have ax:=aJ IS;obtain⟨⟨s,h0,hs⟩,hl,h1,h2,hz,hj⟩:=IS;have S7:s.size=D r1:=RB
  have av:IntKind.u64.wrap _=s.size:=FP _ Q5;by_cases hle:n<=D r1
  · have HE:U (aV fH r=jf fH n r1):=aJ QI;have hd:(n:A)<=s.size:=by omega
    have aA:n<=1000000:=Q5;clear h hg hn hs hl hz S7 hle;go_wp2;go_region_held3 (λw'=>H w' (Q cb 0 G)=Y (.string s)/\H w' (Q cb 1 G)=Y (O Z e)/\H w' (Q cb 3 G)=Y (O Z a)/\H w' (Q cb 2 G)=Y (O Z 0)) (first|go_keep|(refine⟨?_,?_,?_,?_⟩<;>exact BY.cell Q8 Q6)) (first|(go_at_call 53;refine(aj _ _ _).mono ?_;rintro e w' ⟨rfl,BY⟩))
    have Tr:=aJ (ax.gr (Gr.trans Gy BY));have OF:=aJ (Td.trans (Gr.trans Gy BY).toGc);clear BY h0 h1 h2 hj av hd;obtain⟨i0,hi,TU,Ty,TO⟩:=Lt Tryz.rinfo_rlist_exp;obtain⟨S8,hM⟩:∃S8,S8=madeCells (Value.agg #[.string ⟨#[]⟩,O Z 0]).cells ((n:A).toNat*i0.size):=⟨_,rfl⟩;have al:S8.size=n*2:=Ru
    have az:∀V,(Instr.makeSlice 56 (.int .u64 n) (.int .u64 n)).run prog V=.ok (J (Y (Q V.heap.size 0 G)) n n) (V.alloc (X S8 71)):=by
     intro V;have h:=Ng V 56 71 _ _ underlying56 hi TU .u64 .u64 n n Q5 Q5 RM Q5;rw[<-hM]at h;simpa using h
    have HM:=aJ al;clear hM al hi TU Ty TO;go_wp2;have VU:=wz hB OF.size;have Uu:=OF.size;go_loopw[27] (λi wr=>∃(k:R) (ys:I cJ) (rk:I AI),k<=n/\i=O Z k/\D ys=k/\mE wr cb rk e a/\Gc cb w wr/\jf fH n r1=lZ ys (jf fH (n-k) rk)/\w'.heap.size<wr.heap.size/\(∀j,j<n*2->(∃x,H wr (Q w'.heap.size j G)=Y x)/\wr.frozen? ⟨w'.heap.size,j,G⟩=AS)/\∀j y,ys[j]? =Y y->(∃vs,H wr ⟨w'.heap.size,j*2,G⟩=Y vs/\H wr ⟨w'.heap.size,j*2+1,G⟩=Y (O Z y.func)/\iU vs y.name)) λi _=>n-(intOf i).toNat
    case atStart=>
     exact NI
    case round=>
     obtain⟨k,ys,rk,hk,rfl,F,IS,af,ai,S7,d,ak⟩:=hrel;have HN:=aJ ai;have U5:=aJ ak;have Uy:=aJ d;have Te:=aJ af;have T6:=aJ IS;have Vp:=aJ F;clear ai ak d af IS F az;by_cases IN:k<n
     · obtain⟨m,hm⟩:∃m,n-k=m+1:=⟨n-k-1,Q5⟩;have Vo:=aJ hm;clear hm;go_wp2_with fail;refine(Dx _ _ _ e a _ T6 Q5 Q5).mono ?_;intro x w4 h;cases hf:fH rk with
       | none=>
        exact NK
       | some p=>
        obtain⟨y,r4⟩:=p;obtain⟨v,rfl,hy,IS,hg⟩:=h.some_ hf;have Vt:U (jf _ n _=lZ _ (jf _ (n-(k+1)) _)):=aJ QA;have Ui:Kp (w'.heap.size) _ _:=hg.kp Q5;have Ve:=tu S7 hg.size;have Tk:=aJ (lA Uy Ui S7);have Ux:=aJ IS;have Tg:=aJ (Te.trans hg);have Uq:=aJ Ui;have HY:=aJ hy;clear h hf IS Ui;obtain⟨vs,hv,ht⟩:=HY.j;have HT:=aJ ht;obtain⟨st,Tj,ad,ae⟩:=ht;subst Tj;subst hv;clear ad ae;obtain⟨⟨x0,US⟩,TU⟩:=Tk (k*2) Q5;obtain⟨⟨x1,ay⟩,Ty⟩:=Tk (k*2+1) Q5;have Wa:(0:A)<=k:=Q5;have VD:(k:A)<n:=Q5;clear hg hy;go_wp2;go_roundw
        case rel=>
         have F:=Vp.j;refine⟨_,_,_,Q5,QZ,by simp[F],bX (bX (Ux) Q5) Q5,bw (bw (Tg) Uu) Uu,Vt,Sp,gR (gR (Tk)),λj z hj=>?_⟩;rcases mP hj with⟨h1,h2⟩|⟨h1,h2⟩
         · obtain⟨vs,q0,q1,s0⟩:=U5 j z h1;exact⟨_,by rw[aO Q5,aO Q5];exact Uq.cell lj q0,by rw[aO Q5,aO Q5];exact Uq.cell lj q1,s0⟩
         subst h1;subst h2;rw[F];exact⟨_,by rw[aO Q5];exact tO _ _ _ (US),by exact tO _ _ _ ((aO Q5).trans (ay)),HT⟩
        case measure=>exact Qh
     have TN:k=n:=by omega
     subst TN;have UE:U (aV _ r=Y _):=aJ Sq;go_wp2;go_ret
     rw[UE];refine⟨_,rfl,?_,T6,Te⟩;have F:=Vp.j;show fB B wr (J (Y (Q w'.heap.size 0 G)) k k) ys
     refine⟨_,k,by rw[F],QB,λi y hi=>?_⟩;have hq:=U5 i y hi;obtain⟨vs,q0,q1,s0⟩:=hq;exact⟨_,0,_,rfl,VU,by rw[Aq];exact q0,by rw[Aq];exact q1,s0⟩
  have HE:U (aV fH r=G):=aJ QJ;exact Nl
theorem O6{p:Prop}(h:p:=by
 go_wp2;go_end0
 exact⟨by rw[pF HA IN];rfl,hg⟩):p:=h
theorem O8{p:Prop}(h:p:=by
 go_roundw
 case rel=>exact⟨_,Q5,QZ,HT,IT.cell T0 Q6,IT.cell Ti Q6,IT.cell Tl Q6,Q0⟩
 case measure=>simp[intOf];omega):p:=h
theorem iD(l:I (I A))(v:M)(e a:A)(w:T)(hR:cS w v l):
 Calls prog 57 #[v,.agg #[O Z e,O Z 0,O Z a]] w λx w'=>
  x=oJ (bh l) e a/\Gr w w':=by
 obtain⟨ao,cap,rfl,hm,hc⟩:=hR;unfold maxLen at hm;have HC:=aJ hc;obtain⟨he,hn,ha⟩:=kU w e a;unfold bh;cases hb:wB (D l) 0 20
 · go_enter func57,ntmps57
   exact Nu
 go_enter func57,ntmps57
 go_wp2;go_region_held3 (λw'=>H w' (Q w.heap.size 0 G)=Y (O Z e)/\H w' (Q w.heap.size 1 G)=Y (O Z 0)/\H w' (Q w.heap.size 2 G)=Y (O Z a)) (first|go_keep|exact⟨BY.cell Q8 Q6,BY.cell Q8 Q6,BY.cell Q8 Q6⟩) (first|(go_at_call 113;refine(bO _ _ _ _).mono ?_;rintro e w' ⟨rfl,rfl⟩)|(go_at_call 53;refine(aj _ _ _).mono ?_;rintro e w' ⟨rfl,BY⟩))
 have T0:=BY.cell he Q6;have Ti:=BY.cell hn Q6;have Tl:=BY.cell ha Q6;have VJ:Gr w w':=Q0;go_wp2;go_loopw[13] (λi wr=>∃k:R,k<=D l/\i=O Z k/\(l.take k).all (dM (D l))=AT/\H wr (Q w.heap.size 0 G)=Y (O Z e)/\H wr (Q w.heap.size 1 G)=Y (O Z 0)/\H wr (Q w.heap.size 2 G)=Y (O Z a)/\Gr w wr) λi _=>D l-(intOf i).toNat
 case atStart=>exact Rf
 obtain⟨k,hk,rfl,Tc,he,hn,ha,hg⟩:=hrel;have HA:=aJ Tc;by_cases IN:k<D l
 · obtain⟨x,hx⟩:=aU IN;obtain⟨b,off,vx,af,S6,F⟩:=HC k x hx;subst af;have ad:=hg.cell S6 Q6;have ai:=F.choose_spec.choose_spec.2.1;unfold maxLen at ai;obtain⟨ax,cx,rfl⟩:=F.shape;have ae:=aJ (F.gr hg);have HX:=aJ hx;cases TJ:wB (D x) 1 8
   · have HF:U (l.all (dM (D l))=AS):=aJ (bN HX (by simp[dM,TJ]));go_wp2;exact NF
   cases d:x.all (iH (D l))
   · have HF:U (l.all (dM (D l))=AS):=aJ (bN HX (by simp[dM,d]));have HK:=aJ d;go_wp2;go_region_held3 (λw'=>H w' (Q w.heap.size 0 G)=Y (O Z e)/\H w' (Q w.heap.size 1 G)=Y (O Z 0)/\H w' (Q w.heap.size 2 G)=Y (O Z a)) (first|go_keep|exact⟨BY.cell Q8 Q6,BY.cell Q8 Q6,BY.cell Q8 Q6⟩) (first|(go_at_call 113;refine(bO _ _ _ _).mono ?_;rintro e w' ⟨rfl,rfl⟩)|(go_at_call 53;refine(aj _ _ _).mono ?_;rintro e w' ⟨rfl,BY⟩))
     have T0:=BY.cell he Q6;have Ti:=BY.cell hn Q6;have Tl:=BY.cell ha Q6;go_wp2_with(first|(go_at_call 114;refine(iW (jm x _ (D l) e a _ (by exact ae.j.gr Q0)) HK.j).mono ?_;rintro e w2 ⟨rfl,IT⟩))
     exact⟨rfl,R',Q0⟩
   have HT:U ((l.take _).all _=AT):=aJ (by rw[dV HX,HA];simp[dM,TJ,d]);have HK:=aJ d;go_wp2;go_region_held3 (λw'=>H w' (Q w.heap.size 0 G)=Y (O Z e)/\H w' (Q w.heap.size 1 G)=Y (O Z 0)/\H w' (Q w.heap.size 2 G)=Y (O Z a)) (first|go_keep|exact⟨BY.cell Q8 Q6,BY.cell Q8 Q6,BY.cell Q8 Q6⟩) (first|(go_at_call 113;refine(bO _ _ _ _).mono ?_;rintro e w' ⟨rfl,rfl⟩)|(go_at_call 53;refine(aj _ _ _).mono ?_;rintro e w' ⟨rfl,BY⟩))
   have T0:=BY.cell he Q6;have Ti:=BY.cell hn Q6;have Tl:=BY.cell ha Q6;go_wp2_with(first|(go_at_call 114;refine(dX (jm x _ (D l) e a _ (by exact ae.j.gr Q0)) HK.j).mono ?_;rintro e w2 ⟨rfl,IT⟩))
   exact O8
 exact O6
theorem kY(l:I aQ)(v:M)(n e a:A)(w:T)(hR:eE w v l):
 Calls prog 63 #[v,O Z n,.agg #[O Z e,O Z 0,O Z a]] w λx w'=>
  x=oJ (cO l n) e a/\Gr w w':=by
 obtain⟨ao,cap,rfl,hm,hc⟩:=hR;unfold maxLen at hm;have HC:=aJ hc;obtain⟨he,hn,ha⟩:=kU w e a;unfold cO;cases hb:wB (D l) 0 30
 · go_enter func63,ntmps63
   exact Nu
 go_enter func63,ntmps63
 go_wp2;go_region_held3 (λw'=>H w' (Q w.heap.size 0 G)=Y (O Z e)/\H w' (Q w.heap.size 1 G)=Y (O Z 0)/\H w' (Q w.heap.size 2 G)=Y (O Z a)) (first|go_keep|exact⟨BY.cell Q8 Q6,BY.cell Q8 Q6,BY.cell Q8 Q6⟩) (first|(go_at_call 113;refine(bO _ _ _ _).mono ?_;rintro e w' ⟨rfl,rfl⟩)|(go_at_call 53;refine(aj _ _ _).mono ?_;rintro e w' ⟨rfl,BY⟩))
 have T0:=BY.cell he Q6;have Ti:=BY.cell hn Q6;have Tl:=BY.cell ha Q6;have VJ:Gr w w':=Q0;go_wp2;go_loopw[15] (λi wr=>∃k:R,k<=D l/\i=O Z k/\(l.take k).all (dA n)=AT/\H wr (Q w.heap.size 0 G)=Y (O Z e)/\H wr (Q w.heap.size 1 G)=Y (O Z 0)/\H wr (Q w.heap.size 2 G)=Y (O Z a)/\Gr w wr) λi _=>D l-(intOf i).toNat
 case atStart=>exact Rf
 obtain⟨k,hk,rfl,Tc,he,hn,ha,hg⟩:=hrel;have HA:=aJ Tc;by_cases IN:k<D l
 · obtain⟨x,hx⟩:=aU IN;obtain⟨b,off,vp,vl,vc,aL,aD,aB,TD,aE,ai,F,ak⟩:=HC k x hx;subst aL;have a9:=hg.cell aD Q6;have a4:=hg.cell aB Q6;have a7:=hg.cell TD Q6;have a6:=hg.cell aE Q6;have aF:=F.choose_spec.choose_spec.2.1;unfold maxLen at aF;obtain⟨al,cl,rfl⟩:=F.shape;obtain⟨ap,cp,rfl⟩:=ai.shape;obtain⟨ac,cc,rfl⟩:=ak.shape;have ax:=aJ (ai.gr hg);have ay:=aJ (F.gr hg);have av:=aJ (ak.gr hg);have HX:=aJ hx;have az:H (wr.alloc (X #[J ap (D x.aH) cp,O Z x.result,J al (D x.aI) cl,J ac (D x.code) cc] 74)) (Q wr.heap.size 2 G)=Y (J al (D x.aI) cl):=by simp[go_sem]
   have aA:H (wr.alloc (X #[J ap (D x.aH) cp,O Z x.result,J al (D x.aI) cl,J ac (D x.code) cc] 74)) (Q wr.heap.size 3 G)=Y (J ac (D x.code) cc):=Ql
   have a3:=(zp _ (X #[J ap (D x.aH) cp,O Z x.result,J al (D x.aI) cl,J ac (D x.code) cc] 74) G).cell he Q6;have aM:=(zp _ (X #[J ap (D x.aH) cp,O Z x.result,J al (D x.aI) cl,J ac (D x.code) cc] 74) G).cell hn Q6;have a2:=(zp _ (X #[J ap (D x.aH) cp,O Z x.result,J al (D x.aI) cl,J ac (D x.code) cc] 74) G).cell ha Q6;cases Vr:iG x.aH x.result n
   · have HF:U (l.all (dA n)=AS):=aJ (bN HX (by simp[dA,Vr]));have HS:=aJ Vr;go_wp2_with(go_at_call 119;refine(iW (jw x.aH _ x.result n e a _ (by exact ax.j.gr Q0)) HS.j).mono ?_;rintro e w1 ⟨rfl,S5⟩)
     exact⟨rfl,R',Q0⟩
   have HS:=aJ Vr;go_wp2_with(go_at_call 119;refine(dX (jw x.aH _ x.result n e a _ (by exact ax.j.gr Q0)) HS.j).mono ?_;rintro e w1 ⟨rfl,S5⟩)
   have T0:=S5.cell a3 Q6;have Ti:=S5.cell aM Q6;have Tl:=S5.cell a2 Q6;have VZ:=S5.cell az Q6;have ae:=S5.cell aA Q6;have a':Gr wr w1:=Q0;cases TQ:wB (D x.aI) 0 10
   · have HF:U (l.all (dA n)=AS):=aJ (bN HX (by simp[dA,TQ]));exact NF
   go_region_held3 (λw'=>H w' (Q w.heap.size 0 G)=Y (O Z e)/\H w' (Q w.heap.size 1 G)=Y (O Z 0)/\H w' (Q w.heap.size 2 G)=Y (O Z a)/\H w' (Q wr.heap.size 2 G)=Y (J al (D x.aI) cl)) (first|go_keep|(refine⟨?_,?_,?_,?_⟩<;>exact BY.cell Q8 Q6)) (first|(go_at_call 113;refine(bO _ _ _ _).mono ?_;rintro e w' ⟨rfl,rfl⟩)|(go_at_call 53;refine(aj _ _ _).mono ?_;rintro e w' ⟨rfl,BY⟩))
   have Ut:=BY.cell T0 Q6;have T9:=BY.cell Ti Q6;have VX:=BY.cell Tl Q6;have af:=BY.cell ae Q6;have a8:Gr wr w':=Q0;cases ad:x.aI.all (iH n)
   · have HF:U (l.all (dA n)=AS):=aJ (bN HX (by simp[dA,ad]));have HK:=aJ ad;go_wp2_with(go_at_call 114;refine(iW (jm x.aI _ n e a _ (by exact ay.j.gr Q0)) HK.j).mono ?_;rintro e w2 ⟨rfl,IT⟩)
     exact⟨rfl,R',Q0⟩
   have HK:=aJ ad;go_wp2_with(go_at_call 114;refine(dX (jm x.aI _ n e a _ (by exact ay.j.gr Q0)) HK.j).mono ?_;rintro e w2 ⟨rfl,IT⟩;have aG:=IT.cell Ut Q6;have aC:=IT.cell T9 Q6;have a0:=IT.cell VX Q6;have a5:=IT.cell af Q6)
   cases d:ir x.code
   · have HF:U (l.all (dA n)=AS):=aJ (bN HX (by simp[dA,d]));have UJ:=aJ d;go_wp2_with(go_at_call 120;refine(iW (xd x.code _ e a _ (by exact av.j.gr Q0)) UJ.j).mono ?_;rintro e w3 ⟨rfl,Ta⟩)
     exact⟨rfl,R',Q0⟩
   have HT:U ((l.take _).all _=AT):=aJ (by rw[dV HX,HA];simp[dA,Vr,TQ,HK.j,d]);have UJ:=aJ d;go_wp2_with(go_at_call 120;refine(dX (xd x.code _ e a _ (by exact av.j.gr Q0)) UJ.j).mono ?_;rintro e w3 ⟨rfl,Ta⟩)
   go_roundw
   case rel=>exact⟨_,Q5,QZ,HT,Ta.cell aG Q6,Ta.cell aC Q6,Ta.cell a0 Q6,Q0⟩
   case measure=>exact Qh
 exact O6
theorem ly(l:I AI)(v:M)(e a:A)(w:T)(h:iU v l):
 Calls prog 123 #[v,.agg #[O Z e,O Z 0,O Z a]] w λx w'=>x=oJ (fC l) e a/\Gr w w':=by
 obtain⟨s,rfl,rfl,hs⟩:=h;exact FB s e a w hs
theorem OO{p:Prop}(h:p:=by
 have HS:=aJ Vr;go_wp2_with(go_at_call 123;refine(iW (ly x.name _ e a _ UU.j) HS.j).mono ?_;rintro e w1 ⟨rfl,S5⟩)
 exact⟨rfl,R',Q0⟩):p:=h
theorem jx(l:I eL)(v:M)(n e a:A)(w:T)(hR:dS w v l):
 Calls prog 66 #[v,O Z n,.agg #[O Z e,O Z 0,O Z a]] w λx w'=>
  x=oJ (cG l n) e a/\Gr w w':=by
 obtain⟨ao,cap,rfl,hm,hc⟩:=hR;unfold maxLen at hm;have HC:=aJ hc;obtain⟨he,hn,ha⟩:=kU w e a;unfold cG;cases hb:wB (D l) 0 20
 · go_enter func66,ntmps66
   exact Nu
 go_enter func66,ntmps66
 go_wp2;go_region_held3 (λw'=>H w' (Q w.heap.size 0 G)=Y (O Z e)/\H w' (Q w.heap.size 1 G)=Y (O Z 0)/\H w' (Q w.heap.size 2 G)=Y (O Z a)) (first|go_keep|exact⟨BY.cell Q8 Q6,BY.cell Q8 Q6,BY.cell Q8 Q6⟩) (first|(go_at_call 113;refine(bO _ _ _ _).mono ?_;rintro e w' ⟨rfl,rfl⟩)|(go_at_call 53;refine(aj _ _ _).mono ?_;rintro e w' ⟨rfl,BY⟩))
 have T0:=BY.cell he Q6;have Ti:=BY.cell hn Q6;have Tl:=BY.cell ha Q6;have VJ:Gr w w':=Q0;go_wp2;go_loopw[15] (λi wr=>∃k:R,k<=D l/\i=O Z k/\(l.take k).all (gC n)=AT/\H wr (Q w.heap.size 0 G)=Y (O Z e)/\H wr (Q w.heap.size 1 G)=Y (O Z 0)/\H wr (Q w.heap.size 2 G)=Y (O Z a)/\Gr w wr) λi _=>D l-(intOf i).toNat
 case atStart=>exact Rf
 obtain⟨k,hk,rfl,Tc,he,hn,ha,hg⟩:=hrel;have HA:=aJ Tc;by_cases IN:k<D l
 · obtain⟨x,hx⟩:=aU IN;obtain⟨b,off,vs,vp,aA,az,ay,TD,ae,ai⟩:=HC k x hx;subst aA;have aD:=hg.cell az Q6;have aB:=hg.cell ay Q6;have aC:=hg.cell TD Q6;obtain⟨ap,F,rfl⟩:=ai.shape;have ak:=aJ (ai.gr hg);have UU:=aJ ae;obtain⟨s,rfl,Tn,aE⟩:=ae;have HX:=aJ hx;have af:H (wr.alloc (X #[.string s,J ap (D x.aH) F,O Z x.result] 89)) (Q wr.heap.size 1 G)=Y (J ap (D x.aH) F):=by simp[go_sem]
   have ad:H (wr.alloc (X #[.string s,J ap (D x.aH) F,O Z x.result] 89)) (Q wr.heap.size 2 G)=Y (O Z x.result):=Ql
   have ax:=(zp _ (X #[.string s,J ap (D x.aH) F,O Z x.result] 89) G).cell he Q6;have al:=(zp _ (X #[.string s,J ap (D x.aH) F,O Z x.result] 89) G).cell hn Q6;have av:=(zp _ (X #[.string s,J ap (D x.aH) F,O Z x.result] 89) G).cell ha Q6;cases Vr:fC x.name
   · have HF:U (l.all (gC n)=AS):=aJ (bN HX (by simp[gC,Vr]));exact OO
   have HS:=aJ Vr;cases d:iG x.aH x.result n
   · have HF:U (l.all (gC n)=AS):=aJ (bN HX (by simp[gC,d]));have HK:=aJ d;go_wp2_with(first|(go_at_call 123;refine(dX (ly x.name _ e a _ UU.j) HS.j).mono ?_;rintro e w1 ⟨rfl,S5⟩;have T0:=S5.cell ax Q6;have Ti:=S5.cell al Q6;have Tl:=S5.cell av Q6;have V5:=S5.cell af Q6;have VZ:=S5.cell ad Q6)|(go_at_call 119;refine(iW (jw x.aH _ x.result n e a _ (by exact ak.j.gr Q0)) HK.j).mono ?_;rintro e w2 ⟨rfl,IT⟩))
     exact⟨rfl,R',Q0⟩
   have HT:U ((l.take _).all _=AT):=aJ (by rw[dV HX,HA];simp[gC,Vr,d]);have HK:=aJ d;go_wp2_with(first|(go_at_call 123;refine(dX (ly x.name _ e a _ UU.j) HS.j).mono ?_;rintro e w1 ⟨rfl,S5⟩;have T0:=S5.cell ax Q6;have Ti:=S5.cell al Q6;have Tl:=S5.cell av Q6;have V5:=S5.cell af Q6;have VZ:=S5.cell ad Q6)|(go_at_call 119;refine(dX (jw x.aH _ x.result n e a _ (by exact ak.j.gr Q0)) HK.j).mono ?_;rintro e w2 ⟨rfl,IT⟩))
   exact O8
 exact O6
theorem lM(l:I cJ)(v:M)(n e a:A)(w:T)(hn:0<=n)(Xt:n<=1000000)(hR:ee w v l):
 Calls prog 69 #[v,O Z n,.agg #[O Z e,O Z 0,O Z a]] w λx w'=>
  x=oJ (cH l n) e a/\Gr w w':=by
 obtain⟨ao,cap,rfl,hm,hc⟩:=hR;unfold maxLen at hm;have az:Z.wrap _=n-1:=Q_;have HC:=aJ hc;obtain⟨he,hn,ha⟩:=kU w e a;unfold cH;cases hb:wB (D l) 0 20
 · go_enter func69,ntmps69
   exact Nu
 go_enter func69,ntmps69
 go_wp2;go_region_held3 (λw'=>H w' (Q w.heap.size 0 G)=Y (O Z e)/\H w' (Q w.heap.size 1 G)=Y (O Z 0)/\H w' (Q w.heap.size 2 G)=Y (O Z a)) (first|go_keep|exact⟨BY.cell Q8 Q6,BY.cell Q8 Q6,BY.cell Q8 Q6⟩) (first|(go_at_call 113;refine(bO _ _ _ _).mono ?_;rintro e w' ⟨rfl,rfl⟩)|(go_at_call 53;refine(aj _ _ _).mono ?_;rintro e w' ⟨rfl,BY⟩))
 have T0:=BY.cell he Q6;have Ti:=BY.cell hn Q6;have Tl:=BY.cell ha Q6;have VJ:Gr w w':=Q0;go_wp2;go_loopw[15] (λi wr=>∃k:R,k<=D l/\i=O Z k/\(l.take k).all (fi n)=AT/\H wr (Q w.heap.size 0 G)=Y (O Z e)/\H wr (Q w.heap.size 1 G)=Y (O Z 0)/\H wr (Q w.heap.size 2 G)=Y (O Z a)/\Gr w wr) λi _=>D l-(intOf i).toNat
 case atStart=>exact Rf
 obtain⟨k,hk,rfl,Tc,he,hn,ha,hg⟩:=hrel;have HA:=aJ Tc;by_cases IN:k<D l
 · obtain⟨x,hx⟩:=aU IN;obtain⟨b,off,vs,ai,af,ad,d⟩:=HC k x hx;subst ai;have ay:=hg.cell af Q6;have ax:=hg.cell ad Q6;have UU:=aJ d;obtain⟨s,rfl,Tn,aA⟩:=d;have HX:=aJ hx;have ae:H (wr.alloc (X #[.string s,O Z x.func] 71)) (Q wr.heap.size 1 G)=Y (O Z x.func):=by simp[go_sem]
   have av:=(zp _ (X #[.string s,O Z x.func] 71) G).cell he Q6;have ak:=(zp _ (X #[.string s,O Z x.func] 71) G).cell hn Q6;have al:=(zp _ (X #[.string s,O Z x.func] 71) G).cell ha Q6;cases Vr:fC x.name
   · have HF:U (l.all (fi n)=AS):=aJ (bN HX (by simp[fi,Vr]));exact OO
   have HS:=aJ Vr;go_wp2_with(first|(go_at_call 123;refine(dX (ly x.name _ e a _ UU.j) HS.j).mono ?_;rintro e w1 ⟨rfl,S5⟩;have T0:=S5.cell av Q6;have Ti:=S5.cell ak Q6;have Tl:=S5.cell al Q6;have V5:=S5.cell ae Q6))
   have aB:Gr w w1:=Q0;cases F:wB x.func 0 (n-1)
   · have HF:U (l.all (fi n)=AS):=aJ (bN HX (by simp[fi,F]));exact NF
   have HT:U ((l.take _).all _=AT):=aJ (by rw[dV HX,HA];simp[fi,Vr,F]);go_region_held3 (λw'=>H w' (Q w.heap.size 0 G)=Y (O Z e)/\H w' (Q w.heap.size 1 G)=Y (O Z 0)/\H w' (Q w.heap.size 2 G)=Y (O Z a)/\H w' (Q wr.heap.size 1 G)=Y (O Z x.func)) (first|go_keep|(refine⟨?_,?_,?_,?_⟩<;>exact BY.cell Q8 Q6)) (first|(go_at_call 113;refine(bO _ _ _ _).mono ?_;rintro e w' ⟨rfl,rfl⟩)|(go_at_call 53;refine(aj _ _ _).mono ?_;rintro e w' ⟨rfl,BY⟩))
   go_wp2;go_roundw
   case rel=>exact⟨_,Q5,QZ,HT,BY.cell T0 Q6,BY.cell Ti Q6,BY.cell Tl Q6,Q0⟩
   case measure=>exact Qh
 exact O6
theorem iu{w w':T}(g:Gr w w'){p q:R}{v0 v1 v2 v3 v4 v5 v6 d:M}
 (h:H w (Q p 0 G)=Y v0/\H w (Q p 1 G)=Y v1/\H w (Q p 2 G)=Y v2/\H w (Q p 3 G)=Y v3/\H w (Q p 4 G)=Y v4/\H w (Q q 0 G)=Y v5/\H w (Q q 1 G)=Y v6/\H w (Q q 2 G)=Y d):
 w'.cell? (Q p 0 G)=Y v0/\H w' (Q p 1 G)=Y v1/\H w' (Q p 2 G)=Y v2/\H w' (Q p 3 G)=Y v3/\H w' (Q p 4 G)=Y v4/\H w' (Q q 0 G)=Y v5/\H w' (Q q 1 G)=Y v6/\H w' (Q q 2 G)=Y d:=by
 obtain⟨F,h1,h2,h3,h4,h5,h6,h7⟩:=h;exact⟨g.cell F Q6,g.cell h1 Q6,g.cell h2 Q6,g.cell h3 Q6,g.cell h4 Q6,g.cell h5 Q6,g.cell h6 Q6,g.cell h7 Q6⟩
theorem dS.shape{w:T}{v:M}{l:I eL}(h:dS w v l):∃ao cap,v=J ao (D l) cap:=by
 exact NR
theorem ee.shape{w:T}{v:M}{l:I cJ}(h:ee w v l):∃ao cap,v=J ao (D l) cap:=by
 exact NR
theorem Sr{p:Prop}(h:p:=by exact H1.j.gr Q0):p:=h
theorem zD(u:aK)(v:M)(e a:A)(w:T)(hR:bV w v u):
 Calls prog 71 #[v,.agg #[O Z e,O Z 0,O Z a]] w λx w'=>
  x=oJ (bG u) e a/\Gr w w':=by
 obtain⟨v1,v2,v3,v4,v5,rfl,h1,h2,h3,h4,h5⟩:=hR;have m1:=h1.choose_spec.choose_spec.2.1;have m2:=h2.choose_spec.choose_spec.2.1;have m3:=h3.choose_spec.choose_spec.2.1;obtain⟨a1,c1,rfl⟩:=h1.shape;obtain⟨a2,c2,rfl⟩:=h2.shape;obtain⟨a3,c3,rfl⟩:=h3.shape;obtain⟨a4,c4,rfl⟩:=h4.shape;obtain⟨a5,c5,rfl⟩:=h5.shape;have H1:=aJ h1;have H3:=aJ h3;have H4:=aJ h4;have H5:=aJ h5;have bg:=aJ m2;unfold maxLen at m1 m3;obtain⟨k0,k1,k2,k3,k4,ke,kn,ka⟩:H ((w.alloc (X (yE u a1 c1 a2 c2 a3 c3 a4 c4 a5 c5) 58)).alloc (X #[O Z e,O Z 0,O Z a] 91)) (Q w.heap.size 0 G)=Y (J a1 (D u.aA) c1)/\H ((w.alloc (X (yE u a1 c1 a2 c2 a3 c3 a4 c4 a5 c5) 58)).alloc (X #[O Z e,O Z 0,O Z a] 91)) (Q w.heap.size 1 G)=Y (J a2 (D u.aE) c2)/\H ((w.alloc (X (yE u a1 c1 a2 c2 a3 c3 a4 c4 a5 c5) 58)).alloc (X #[O Z e,O Z 0,O Z a] 91)) (Q w.heap.size 2 G)=Y (J a3 (D u.aG) c3)/\H ((w.alloc (X (yE u a1 c1 a2 c2 a3 c3 a4 c4 a5 c5) 58)).alloc (X #[O Z e,O Z 0,O Z a] 91)) (Q w.heap.size 3 G)=Y (J a4 (D u.aC) c4)/\H ((w.alloc (X (yE u a1 c1 a2 c2 a3 c3 a4 c4 a5 c5) 58)).alloc (X #[O Z e,O Z 0,O Z a] 91)) (Q w.heap.size 4 G)=Y (J a5 (D u.aD) c5)/\H ((w.alloc (X (yE u a1 c1 a2 c2 a3 c3 a4 c4 a5 c5) 58)).alloc (X #[O Z e,O Z 0,O Z a] 91)) ⟨w.heap.size+1,0,G⟩=Y (O Z e)/\H ((w.alloc (X (yE u a1 c1 a2 c2 a3 c3 a4 c4 a5 c5) 58)).alloc (X #[O Z e,O Z 0,O Z a] 91)) ⟨w.heap.size+1,1,G⟩=Y (O Z 0)/\H ((w.alloc (X (yE u a1 c1 a2 c2 a3 c3 a4 c4 a5 c5) 58)).alloc (X #[O Z e,O Z 0,O Z a] 91)) ⟨w.heap.size+1,2,G⟩=Y (O Z a):=by
  refine⟨?_,?_,?_,?_,?_,?_,?_,?_⟩<;>simp[go_sem]
 unfold bG;cases b0:bh u.aA
 · have B0:=aJ b0;go_enter func71,ntmps71
   go_wp2_with(first|(go_at_call 57;refine(iW (iD u.aA _ e a _ Sr) B0.j).mono ?_;rintro e w1 ⟨rfl,S5⟩))
   exact⟨rfl,rfl,Q0⟩
 have B0:=aJ b0;cases b1:cm u.aE
 · have B1:=aJ b1;go_enter func71,ntmps71
   go_wp2_with(first|(go_at_call 57;refine(dX (iD u.aA _ e a _ Sr) B0.j).mono ?_;rintro e w1 ⟨rfl,S5⟩;obtain⟨F,d,af,al,ae,ai,ak,ad⟩:=iu S5 ⟨k0,k1,k2,k3,k4,ke,kn,ka⟩)|(go_at_call 60;refine(iW (iq _ u.aE e a _ ⟨a2,c2,rfl⟩ (by exact bg.j)) B1.j).mono ?_;rintro e w2 ⟨rfl,IT⟩))
   exact⟨rfl,rfl,Q0⟩
 have B1:=aJ b1;cases b2:cO u.aG (D u.aA)
 · have B2:=aJ b2;go_enter func71,ntmps71
   go_wp2_with(first|(go_at_call 57;refine(dX (iD u.aA _ e a _ Sr) B0.j).mono ?_;rintro e w1 ⟨rfl,S5⟩;obtain⟨F,d,af,al,ae,ai,ak,ad⟩:=iu S5 ⟨k0,k1,k2,k3,k4,ke,kn,ka⟩)|(go_at_call 60;refine(dX (iq _ u.aE e a _ ⟨a2,c2,rfl⟩ (by exact bg.j)) B1.j).mono ?_;rintro e w2 ⟨rfl,IT⟩;obtain⟨ax,av,ay,aB,az,aI,aH,aF⟩:=iu IT ⟨F,d,af,al,ae,ai,ak,ad⟩)|(go_at_call 63;refine(iW (kY u.aG _ (D u.aA) e a _ (by exact H3.j.gr Q0)) B2.j).mono ?_;rintro e w3 ⟨rfl,Ta⟩))
   exact⟨rfl,rfl,Q0⟩
 have B2:=aJ b2;cases b3:cG u.aC (D u.aA)
 · have B3:=aJ b3;go_enter func71,ntmps71
   go_wp2_with(first|(go_at_call 57;refine(dX (iD u.aA _ e a _ Sr) B0.j).mono ?_;rintro e w1 ⟨rfl,S5⟩;obtain⟨F,d,af,al,ae,ai,ak,ad⟩:=iu S5 ⟨k0,k1,k2,k3,k4,ke,kn,ka⟩)|(go_at_call 60;refine(dX (iq _ u.aE e a _ ⟨a2,c2,rfl⟩ (by exact bg.j)) B1.j).mono ?_;rintro e w2 ⟨rfl,IT⟩;obtain⟨ax,av,ay,aB,az,aI,aH,aF⟩:=iu IT ⟨F,d,af,al,ae,ai,ak,ad⟩)|(go_at_call 63;refine(dX (kY u.aG _ (D u.aA) e a _ (by exact H3.j.gr Q0)) B2.j).mono ?_;rintro e w3 ⟨rfl,Ta⟩;obtain⟨a8,aM,a0,aL,a7,a6,a',a9⟩:=iu Ta ⟨ax,av,ay,aB,az,aI,aH,aF⟩)|(go_at_call 66;refine(iW (jx u.aC _ (D u.aA) e a _ (by exact H4.j.gr Q0)) B3.j).mono ?_;rintro e w4 ⟨rfl,bL⟩))
   exact⟨rfl,rfl,Q0⟩
 have B3:=aJ b3;cases b4:cH u.aD (D u.aG)
 · have B4:=aJ b4;have HL:U ((D u.aG:A)<=1000000):=aJ (by have:=B2.j;simp[cO,wB]at this;omega);go_enter func71,ntmps71
   go_wp2_with(first|(go_at_call 57;refine(dX (iD u.aA _ e a _ Sr) B0.j).mono ?_;rintro e w1 ⟨rfl,S5⟩;obtain⟨F,d,af,al,ae,ai,ak,ad⟩:=iu S5 ⟨k0,k1,k2,k3,k4,ke,kn,ka⟩)|(go_at_call 60;refine(dX (iq _ u.aE e a _ ⟨a2,c2,rfl⟩ (by exact bg.j)) B1.j).mono ?_;rintro e w2 ⟨rfl,IT⟩;obtain⟨ax,av,ay,aB,az,aI,aH,aF⟩:=iu IT ⟨F,d,af,al,ae,ai,ak,ad⟩)|(go_at_call 63;refine(dX (kY u.aG _ (D u.aA) e a _ (by exact H3.j.gr Q0)) B2.j).mono ?_;rintro e w3 ⟨rfl,Ta⟩;obtain⟨a8,aM,a0,aL,a7,a6,a',a9⟩:=iu Ta ⟨ax,av,ay,aB,az,aI,aH,aF⟩)|(go_at_call 66;refine(dX (jx u.aC _ (D u.aA) e a _ (by exact H4.j.gr Q0)) B3.j).mono ?_;rintro e w4 ⟨rfl,bL⟩;obtain⟨bp,bF,bo,bC,bt,bj,bB,bk⟩:=iu bL ⟨a8,aM,a0,aL,a7,a6,a',a9⟩)|(go_at_call 69;refine(iW (lM u.aD _ (D u.aG) e a _ Q5 (by exact HL.j) (by exact H5.j.gr Q0)) B4.j).mono ?_;rintro e w5 ⟨rfl,Th⟩))
   exact⟨rfl,rfl,Q0⟩
 have B4:=aJ b4;have HL:U ((D u.aG:A)<=1000000):=aJ (by have:=B2.j;simp[cO,wB]at this;omega);go_enter func71,ntmps71
 go_wp2_with(first|(go_at_call 57;refine(dX (iD u.aA _ e a _ Sr) B0.j).mono ?_;rintro e w1 ⟨rfl,S5⟩;obtain⟨F,d,af,al,ae,ai,ak,ad⟩:=iu S5 ⟨k0,k1,k2,k3,k4,ke,kn,ka⟩)|(go_at_call 60;refine(dX (iq _ u.aE e a _ ⟨a2,c2,rfl⟩ (by exact bg.j)) B1.j).mono ?_;rintro e w2 ⟨rfl,IT⟩;obtain⟨ax,av,ay,aB,az,aI,aH,aF⟩:=iu IT ⟨F,d,af,al,ae,ai,ak,ad⟩)|(go_at_call 63;refine(dX (kY u.aG _ (D u.aA) e a _ (by exact H3.j.gr Q0)) B2.j).mono ?_;rintro e w3 ⟨rfl,Ta⟩;obtain⟨a8,aM,a0,aL,a7,a6,a',a9⟩:=iu Ta ⟨ax,av,ay,aB,az,aI,aH,aF⟩)|(go_at_call 66;refine(dX (jx u.aC _ (D u.aA) e a _ (by exact H4.j.gr Q0)) B3.j).mono ?_;rintro e w4 ⟨rfl,bL⟩;obtain⟨bp,bF,bo,bC,bt,bj,bB,bk⟩:=iu bL ⟨a8,aM,a0,aL,a7,a6,a',a9⟩)|(go_at_call 69;refine(dX (lM u.aD _ (D u.aG) e a _ Q5 (by exact HL.j) (by exact H5.j.gr Q0)) B4.j).mono ?_;rintro e w5 ⟨rfl,Th⟩;obtain⟨b9,b5,b6,b8,b7,ca,cc,b'⟩:=iu Th ⟨bp,bF,bo,bC,bt,bj,bB,bk⟩))
 go_end0
 exact⟨rfl,Q0⟩
end Go.Proofs.YtghjmnlapcpbiaaGreatDoor
