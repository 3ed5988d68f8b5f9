import Derived.Test.YtghjmnlapcpbiaaGreatDoorLb
namespace Go.Proofs.YtghjmnlapcpbiaaGreatDoor
open _root_ renaming Option.some->Y,Option.none->G,Go.Value.int->O,Go.IntKind.i64->Z,Go.Value.slice->J,List->I,Nat->R,Int->A,Go.World.cell?->H,List.length->D,Go.Obj.cells->X,Go.Value->M,Go.World->T,Go.Addr.mk->Q,Go.RowKit.Hid->U,UInt8->AI,Bool.false->AS,Bool.true->AT,Option->By
open Go.Proofs.Tryz
set_option maxRecDepth 100000
set_option maxHeartbeats 4000000
set_option linter.unusedVariables false
set_option linter.unusedSimpArgs false
open Go.RowKit
attribute [local go_sem ↓] Go.wp_at_zero Go.wp_at_succ
variable{ko:I A}{ms:I R}{op:I PV}{xs:I M}{B HHq N k n sb:R}{e t:TypeId}{vl vo:M}{w w' w0 w2 wr:T}
theorem zo{b i:R}{cur:Array M}(h:w.heap[b]? =Y (X cur t (0,0))):H w (Q b i G)=cur[i]? :=by simp[World.cell?,h]
theorem rj(r:I AI)(bad:Bool):iU (.string ⟨(fP r bad).1.toArray⟩) (fP r bad).1:=by
 refine⟨_,rfl,Q6,?_⟩;have F:=fJ 20 r bad;have d:(fP r bad).1.length<=20:=by
  unfold fP;split
  · simp
  simp only[Bc];omega
 show(fP r bad).1.toArray.size<=maxLen
 unfold maxLen;simp only[M9];omega
theorem rO{d:T}{len:R}{v:M}(h:w.ownsRow B e n v len xs)(g:∀k (x:Obj),v.ownBlock=Y k->w.heap[k]? =Y x->d.heap[k]? =Y x):d.ownsRow B e n v len xs:=by
 rcases h.2 with⟨e1,F⟩|⟨k,cap,cur,e1,h1,h2,h3⟩
 · exact⟨h.1,.inl ⟨e1,F⟩⟩
 exact⟨h.1,.inr ⟨k,_,_,e1,h1,g k _ (by rw[e1];rfl) h2,h3⟩⟩
theorem CD{v:M}{l:I A}(h:w.ownsRow B e 1 v (D l) (Df l)):aY w v l:=by
 rcases h.2 with⟨rfl,d⟩|⟨k,cap,cur,rfl,h1,h2,h3,h4,h5,F⟩
 · exact⟨_,0,by rw[d],by rw[d];exact Lz,λi hi=>by omega⟩
 refine⟨_,_,rfl,Q5,λi hi=>⟨k,0,rfl,?_⟩⟩;have e1:(cur.toList.take (D l*1))[i]? =cur.toList[i]? :=by rw[Lh,mI Q5]
 have e2:H w ⟨k,0+i,G⟩=cur.toList[i]? :=by rw[Aq,zo h2,<-Lk]
 rw[e2,<-e1,F,Df,Ha,dW hi,mh,dW hi];rfl
theorem nR{v:M}{q:I A}{len:R}(ho:wr.ownsRow HHq t n vl len xs)(hs:HHq<=wr.heap.size)(hv:w2.ownsRow wr.heap.size 3 1 v (D q) (Df q)):∀d:T,(∀b (x:Obj),HHq<=b->Y b≠vl.ownBlock->w2.heap[b]? =Y x->d.heap[b]? =Y x)->aY d v q:=λd hq=>CD (rO hv λk x F hx=>hq k x (by have:=(e_ hv k F).1;omega) (λe=>by have:=(e_ ho k e.symm).2;have:=(e_ hv k F).1;omega) hx)
theorem Tryz.infFill2:(Tryz.prog.info? 3).map (λi=>(i.zero,i.size,i.bytes))=Y (Y (O Z 0),1,8):=Q7
theorem NQ{p:Prop}(h:p:=by
 go_wp2_with fail;go_end0
 rw[WJ];exact⟨rfl,_,_,Uk,rfl⟩):p:=h
theorem QR{p:Prop}(h:p:=by exact⟨n,_,_,_,_,rfl,by simpa using hn,H1,Q6⟩):p:=h
theorem FE(rb ub:R)(s:ByteArray)(r:I AI)(bad:Bool)(w:T)(h:lW w rb s r bad)(T1:ub<w.heap.size)(No:¬rb=ub)(hc:H w (Q ub 1 G)=Y (J G 0 0)/\w.frozen? ⟨ub,1,G⟩=AS):
 Calls prog 39 #[.pointer (Y (Q rb 0 G)),.pointer (Y (Q ub 0 G)),O Z 2] w λx w'=>x=.returned (.tuple #[])/\∃(es:I A) (vl:M),ml w w.heap.size rb ub s 1 1 3 (λx:A=> [O Z x]) (λ_ _=>True) es vl (dF b_ r bad).2.1 (dF b_ r bad).2.2 w'/\(dF b_ r bad).1=es:=by
 have hrb:=h.lt;have HN:=aJ (fR 50 Q9 _ s r _ w h);have ad:=fJ 50 r bad;have HS:U (dF _ r bad=be b_ _ _ _):=aJ rfl;have H0:U (ml w _ _ _ s 1 1 3 (λx=> [O Z x]) (λ_ _=>True) _ _ r _ w):=aJ (ml.new ⟨hrb,T1,No⟩ hc h);generalize aZ _ r _=L at HN HS ad;obtain⟨n0,r2,b2⟩:=L;simp only at HS ad;obtain⟨n,rfl⟩:∃n:R,n0=n:=⟨n0.toNat,Q5⟩;have hn:n<=50:=Q5;simp only[A7]at HS;go_enter func39,ntmps39
 go_wp2_with fail;refine HN.mono ?_;rintro x w1 ⟨v1,rfl,rfl,ae,S5⟩;simp only at ae |-;have H1:=aJ (H0.call S5 ae);go_wp2_with fail;go_loopw[6] (λi wr=>∃(k:R) (es:I A) (vl:M) (rk:I AI) (bk:Bool),i=O Z (k:A)/\D es+k<=50/\ml w w.heap.size rb ub s 1 1 3 (λx:A=> [O Z x]) (λ_ _=>True) es vl rk bk wr/\be b_ n r2 b2=(es++(be b_ k rk bk).1,(be b_ k rk bk).2)) λi _=>(intOf i).toNat
 case atStart=>exact QR
 obtain⟨k,es,vl,rk,bk,rfl,af,F,hT⟩:=hrel;obtain⟨ac,cc,rfl⟩:=cN F.ow;obtain⟨z2,z3⟩:=F.ls.bad;have Uk:=aJ F;have Vz:=aJ hT;by_cases hk:0<k
 · obtain⟨j,rfl⟩:∃j,k=j+1:=⟨k-1,Q5⟩;cases bk with
   | true=>
    have WJ:U (dF _ r _=(es,rk,AT)):=aJ (by rw[HS,Vz,be,mI rfl];simp);exact NQ
   | false=>
    have Ue:U (be _ (j+1) _ AS=((b_ rk _).1::(be _ j _ _).1,(be _ j _ _).2)):=aJ (by rw[be,eP Q9]);have Tr:=aJ (uK _ s _ _ _ Uk.ls);generalize b_ _ _=L at Tr Ue;obtain⟨q,r8,b8⟩:=L;simp only at Ue;go_wp2_with fail;refine Tr.mono ?_;rintro x w2 ⟨v2,rfl,rfl,hl,hg⟩;simp only at hl |-;have d:=aJ (Uk.call hg hl);have TY:=aJ d.ow;have S7:=d.hs;obtain⟨c0,c1⟩:=d.here;go_wp2_with(at_builtin;refine bS _ rfl _ _ 26 3 1 8 (O Z 0) Tryz.infFill2 underlying26 rfl Q9 Q9 rfl w.heap.size _ (D es) (es.flatMap λx:A=> [O Z x]) rfl TY.j #[O Z q] rfl Qw _ rfl rfl Q5 S7 ?_;intro v3 w3 S4;have Vn:=aJ (d.j.put (e:=q) S4 λ_ _=>trivial);obtain⟨e3,k3,rfl⟩:=cN S4.own;obtain⟨d0,d1⟩:=Vn.j.1;clear S4)
    exact NH
 obtain rfl:k=0:=by omega
 have WJ:U (dF _ r _=(es,rk,bk)):=aJ (by rw[HS,Vz];simp[be]);exact NQ
theorem Tryz.infFill1:(Tryz.prog.info? 26).map (λi=>(i.zero,i.size,i.bytes))=Y (Y (J G 0 0),1,24):=Q7
theorem P0{p:Prop}(h:p:=by
 obtain rfl:k=0:=by omega
 have WJ:U (dF _ r _=(es.map (·.2),rk,bk)):=aJ (by rw[HS,Vz];simp[be]);exact NQ):p:=h
theorem P1{p:Prop}(h:p:=by have WJ:U (dF _ r _=(es.map (·.2),rk,AT)):=aJ (by rw[HS,Vz,be,mI rfl];simp);exact NQ):p:=h
theorem Dw(rb ub:R)(s:ByteArray)(r:I AI)(bad:Bool)(w:T)(h:lW w rb s r bad)(T1:ub<w.heap.size)(No:¬rb=ub)(hc:H w (Q ub 0 G)=Y (J G 0 0)/\w.frozen? ⟨ub,0,G⟩=AS):
 Calls prog 39 #[.pointer (Y (Q rb 0 G)),.pointer (Y (Q ub 0 G)),O Z 1] w λx w'=>x=.returned (.tuple #[])/\∃(es:I (M×I A)) (vl:M),ml w w.heap.size rb ub s 0 1 26 (λe:M×I A=> [e.1]) (λw e=>aY w e.1 e.2) es vl (dF au r bad).2.1 (dF au r bad).2.2 w'/\(dF au r bad).1=es.map (·.2):=by
 have hrb:=h.lt;have HN:=aJ (fR 50 Q9 _ s r _ w h);have ad:=fJ 50 r bad;have HS:U (dF _ r bad=be au _ _ _):=aJ rfl;have H0:U (ml w _ _ _ s 0 1 26 (λe:M×I _=> [e.1]) (λw e=>aY w e.1 e.2) _ _ r _ w):=aJ (ml.new ⟨hrb,T1,No⟩ hc h);generalize aZ _ r _=L at HN HS ad;obtain⟨n0,r2,b2⟩:=L;simp only at HS ad;obtain⟨n,rfl⟩:∃n:R,n0=n:=⟨n0.toNat,Q5⟩;have hn:n<=50:=Q5;simp only[A7]at HS;go_enter func39,ntmps39
 go_wp2_with fail;refine HN.mono ?_;rintro x w1 ⟨v1,rfl,rfl,ae,S5⟩;simp only at ae |-;have H1:=aJ (H0.call S5 ae);go_wp2_with fail;go_loopw[6] (λi wr=>∃(k:R) (es:I (M×I A)) (vl:M) (rk:I AI) (bk:Bool),i=O Z (k:A)/\D es+k<=50/\ml w w.heap.size rb ub s 0 1 26 (λe:M×I A=> [e.1]) (λw e=>aY w e.1 e.2) es vl rk bk wr/\be au n r2 b2=(es.map (·.2)++(be au k rk bk).1,(be au k rk bk).2)) λi _=>(intOf i).toNat
 case atStart=>exact QR
 obtain⟨k,es,vl,rk,bk,rfl,af,F,hT⟩:=hrel;obtain⟨ac,cc,rfl⟩:=cN F.ow;obtain⟨z2,z3⟩:=F.ls.bad;have Uk:=aJ F;have Vz:=aJ hT;by_cases hk:0<k
 · obtain⟨j,rfl⟩:∃j,k=j+1:=⟨k-1,Q5⟩;cases bk with
   | true=>
    exact P1
   | false=>
    have Ue:U (be _ (j+1) rk AS=((au _ _).1::(be _ j _ _).1,(be _ j _ _).2)):=aJ (by rw[be,eP Q9]);have Tr:=aJ (rL _ s _ _ _ Uk.ls);generalize au _ _=L at Tr Ue;obtain⟨q,r8,b8⟩:=L;simp only at Ue;go_wp2_with fail;refine Tr.mono ?_;rintro x w2 ⟨v2,rfl,hv,hl,hg⟩;simp only at hl hv |-;obtain⟨xa,xc,rfl⟩:=cN hv;have UO:=aJ (nR Uk.ow Uk.hs hv);have d:=aJ (Uk.call hg hl);have TY:=aJ d.ow;have S7:=d.hs;obtain⟨c0,c1⟩:=d.here;go_wp2_with(at_builtin;refine bS _ rfl _ _ 25 26 1 24 (J G 0 0) Tryz.infFill1 underlying25 rfl Q9 Q9 rfl w.heap.size _ (D es) (es.flatMap λe:M×I A=> [e.1]) rfl TY.j #[J xa (D q) xc] rfl Qw _ rfl rfl Q5 S7 ?_;intro v3 w3 S4;have Vn:=aJ (d.j.put (e:=((J xa (D q) xc,q):M×I A)) S4 UO.j);obtain⟨e3,k3,rfl⟩:=cN S4.own;obtain⟨d0,d1⟩:=Vn.j.1;clear S4)
    exact NH
 exact P0
theorem Tryz.infFill5:(Tryz.prog.info? 71).map (λi=>(i.zero,i.size,i.bytes))=Y (Y (.agg #[.string ⟨#[]⟩,O Z 0]),2,24):=Q7
theorem Eu(rb ub:R)(s:ByteArray)(r:I AI)(bad:Bool)(w:T)(h:lW w rb s r bad)(T1:ub<w.heap.size)(No:¬rb=ub)(hc:H w (Q ub 4 G)=Y (J G 0 0)/\w.frozen? ⟨ub,4,G⟩=AS):
 Calls prog 39 #[.pointer (Y (Q rb 0 G)),.pointer (Y (Q ub 0 G)),O Z 5] w λx w'=>x=.returned (.tuple #[])/\∃(es:I (M×cJ)) (vl:M),ml w w.heap.size rb ub s 4 2 71 (λe:M×cJ=> [e.1,O Z e.2.func]) (λ_ e=>iU e.1 e.2.name) es vl (dF jN r bad).2.1 (dF jN r bad).2.2 w'/\(dF jN r bad).1=es.map (·.2):=by
 have hrb:=h.lt;have HN:=aJ (fR 50 Q9 _ s r _ w h);have ae:=fJ 50 r bad;have HS:U (dF _ r bad=be jN _ _ _):=aJ rfl;have H0:U (ml w _ _ _ s 4 2 71 (λe:M×cJ=> [e.1,O Z e.2.func]) (λ_ e=>iU e.1 e.2.name) _ _ r _ w):=aJ (ml.new ⟨hrb,T1,No⟩ hc h);generalize aZ _ r _=L at HN HS ae;obtain⟨n0,r2,b2⟩:=L;simp only at HS ae;obtain⟨n,rfl⟩:∃n:R,n0=n:=⟨n0.toNat,Q5⟩;have hn:n<=50:=Q5;simp only[A7]at HS;go_enter func39,ntmps39
 go_wp2_with fail;refine HN.mono ?_;rintro x w1 ⟨v1,rfl,rfl,af,S5⟩;simp only at af |-;have H1:=aJ (H0.call S5 af);go_wp2_with fail;go_loopw[6] (λi wr=>∃(k:R) (es:I (M×cJ)) (vl:M) (rk:I AI) (bk:Bool),i=O Z (k:A)/\D es+k<=50/\ml w w.heap.size rb ub s 4 2 71 (λe:M×cJ=> [e.1,O Z e.2.func]) (λ_ e=>iU e.1 e.2.name) es vl rk bk wr/\be jN n r2 b2=(es.map (·.2)++(be jN k rk bk).1,(be jN k rk bk).2)) λi _=>(intOf i).toNat
 case atStart=>exact QR
 obtain⟨k,es,vl,rk,bk,rfl,ai,F,hT⟩:=hrel;obtain⟨ac,cc,rfl⟩:=cN F.ow;obtain⟨z2,z3⟩:=F.ls.bad;have Uk:=aJ F;have Vz:=aJ hT;by_cases hk:0<k
 · obtain⟨j,rfl⟩:∃j,k=j+1:=⟨k-1,Q5⟩;cases bk with
   | true=>
    exact P1
   | false=>
    have Ue:U (be _ (j+1) rk AS=((jN _ _).1::(be _ j _ _).1,(be _ j _ _).2)):=aJ (by rw[be,eP Q9]);have e0:jN rk AS=(⟨_,_⟩,(aZ _ _ _).2):=rfl;rw[e0]at Ue;have Tr:=aJ (BG _ s _ _ _ Uk.ls);have HV:=aJ (rj rk AS);generalize fP _ _=L at Tr Ue HV;obtain⟨nm,r7,b7⟩:=L;simp only at Ue HV;go_wp2_with fail;refine Tr.mono ?_;rintro x w2 ⟨v2,rfl,rfl,hl,hg⟩;simp only at hl |-;have ad:=aJ (Uk.call hg hl);generalize (⟨_⟩:ByteArray)=tx at HV |-;have T6:=aJ (fR 65535 Q9 _ s _ _ _ ad.ls);generalize aZ _ _ _=L at T6 Ue;obtain⟨q,r8,b8⟩:=L;simp only at Ue;go_wp2_with fail;refine T6.mono ?_;rintro x w3 ⟨v3,rfl,rfl,hl,hg⟩;simp only at hl |-;have d:=aJ (ad.call hg hl);have TY:=aJ d.ow;have S7:=d.hs;obtain⟨c0,c1⟩:=d.here;go_wp2_with(at_builtin;refine bS _ rfl _ _ 56 71 2 24 (.agg #[.string ⟨#[]⟩,O Z 0]) Tryz.infFill5 underlying56 rfl Q9 Q9 rfl w.heap.size _ (D es) (es.flatMap λe:M×cJ=> [e.1,O Z e.2.func]) rfl TY.j #[.string tx,O Z q] rfl QP _ rfl rfl Q5 S7 ?_;intro v3 w3 S4;have Vn:=aJ (d.j.put (e:=((Value.string tx,cJ.mk nm q):M×cJ)) S4 λ_ _=>HV.j);obtain⟨e3,k3,rfl⟩:=cN S4.own;obtain⟨d0,d1⟩:=Vn.j.1;clear S4)
    exact NH
 exact P0
theorem Tryz.infFill4:(Tryz.prog.info? 89).map (λi=>(i.zero,i.size,i.bytes))=Y (Y (.agg #[.string ⟨#[]⟩,J G 0 0,O Z 0]),3,48):=Q7
theorem EC(rb ub:R)(s:ByteArray)(r:I AI)(bad:Bool)(w:T)(h:lW w rb s r bad)(T1:ub<w.heap.size)(No:¬rb=ub)(hc:H w (Q ub 3 G)=Y (J G 0 0)/\w.frozen? ⟨ub,3,G⟩=AS):
 Calls prog 39 #[.pointer (Y (Q rb 0 G)),.pointer (Y (Q ub 0 G)),O Z 4] w λx w'=>x=.returned (.tuple #[])/\∃(es:I ((M×M)×eL)) (vl:M),ml w w.heap.size rb ub s 3 3 89 (λe:(M×M)×eL=> [e.1.1,e.1.2,O Z e.2.result]) (λw e=>iU e.1.1 e.2.name/\aY w e.1.2 e.2.aH) es vl (dF jQ r bad).2.1 (dF jQ r bad).2.2 w'/\(dF jQ r bad).1=es.map (·.2):=by
 have hrb:=h.lt;have HN:=aJ (fR 50 Q9 _ s r _ w h);have ae:=fJ 50 r bad;have HS:U (dF _ r bad=be jQ _ _ _):=aJ rfl;have H0:U (ml w _ _ _ s 3 3 89 (λe:(M×M)×eL=> [e.1.1,e.1.2,O Z e.2.result]) (λw e=>iU e.1.1 e.2.name/\aY w e.1.2 e.2.aH) _ _ r _ w):=aJ (ml.new ⟨hrb,T1,No⟩ hc h);generalize aZ _ r _=L at HN HS ae;obtain⟨n0,r2,b2⟩:=L;simp only at HS ae;obtain⟨n,rfl⟩:∃n:R,n0=n:=⟨n0.toNat,Q5⟩;have hn:n<=50:=Q5;simp only[A7]at HS;go_enter func39,ntmps39
 go_wp2_with fail;refine HN.mono ?_;rintro x w1 ⟨v1,rfl,rfl,ai,S5⟩;simp only at ai |-;have H1:=aJ (H0.call S5 ai);go_wp2_with fail;go_loopw[6] (λi wr=>∃(k:R) (es:I ((M×M)×eL)) (vl:M) (rk:I AI) (bk:Bool),i=O Z (k:A)/\D es+k<=50/\ml w w.heap.size rb ub s 3 3 89 (λe:(M×M)×eL=> [e.1.1,e.1.2,O Z e.2.result]) (λw e=>iU e.1.1 e.2.name/\aY w e.1.2 e.2.aH) es vl rk bk wr/\be jQ n r2 b2=(es.map (·.2)++(be jQ k rk bk).1,(be jQ k rk bk).2)) λi _=>(intOf i).toNat
 case atStart=>exact QR
 obtain⟨k,es,vl,rk,bk,rfl,ax,ad,hT⟩:=hrel;obtain⟨ac,cc,rfl⟩:=cN ad.ow;obtain⟨z2,z3⟩:=ad.ls.bad;have Uk:=aJ ad;have Vz:=aJ hT;by_cases hk:0<k
 · obtain⟨j,rfl⟩:∃j,k=j+1:=⟨k-1,Q5⟩;cases bk with
   | true=>
    exact P1
   | false=>
    have Ue:U (be _ (j+1) rk AS=((jQ _ _).1::(be _ j _ _).1,(be _ j _ _).2)):=aJ (by rw[be,eP Q9]);have e0:jQ rk AS=(⟨_,_,_⟩,(aZ _ _ _).2):=rfl;rw[e0]at Ue;have Tr:=aJ (BG _ s _ _ _ Uk.ls);have HV:=aJ (rj rk AS);generalize fP _ _=L at Tr Ue HV;obtain⟨nm,r7,b7⟩:=L;simp only at Ue HV;go_wp2_with fail;refine Tr.mono ?_;rintro x w2 ⟨v2,rfl,rfl,hl,hg⟩;simp only at hl |-;have d:=aJ (Uk.call hg hl);generalize (⟨_⟩:ByteArray)=tx at HV |-;have Ux:=aJ (rL _ s _ _ _ d.ls);generalize au _ _=L at Ux Ue;obtain⟨ps,r9,b9⟩:=L;simp only at Ue;go_wp2_with fail;refine Ux.mono ?_;rintro x w4 ⟨v4,rfl,hv,hl,hg⟩;simp only at hl hv |-;obtain⟨xa,xc,rfl⟩:=cN hv;have av:=d.call hg hl;have af:=aJ av;have ak:=aJ hv;have al:=aJ d.ow;have hH:=d.hs;have T6:=aJ (fR 65535 Q9 _ s _ _ _ af.ls);generalize aZ _ _ _=L at T6 Ue;obtain⟨q,r8,b8⟩:=L;simp only at Ue;go_wp2_with fail;refine T6.mono ?_;rintro x w3 ⟨v3,rfl,rfl,hl,hg⟩;simp only at hl |-;have UY:=aJ (nR al hH (rO ak λk x hk hx=>(hg.block k (eJ.1 hx).1 (by intro e;have:=tz e;have:=(e_ ak k hk).1;omega)).trans hx));have F:=aJ (af.call hg hl);have TY:=aJ F.ow;have S7:=F.hs;obtain⟨c0,c1⟩:=F.here;go_wp2_with(at_builtin;refine bS _ rfl _ _ 55 89 3 48 (.agg #[.string ⟨#[]⟩,J G 0 0,O Z 0]) Tryz.infFill4 underlying55 rfl Q9 Q9 rfl w.heap.size _ (D es) (es.flatMap λe:(M×M)×eL=> [e.1.1,e.1.2,O Z e.2.result]) rfl TY.j #[.string tx,J xa (D ps) xc,O Z q] rfl Rb _ rfl rfl Q5 S7 ?_;intro v3 w3 S4;have Vn:=aJ (F.j.put (e:=(((Value.string tx,J xa (D ps) xc),eL.mk nm ps q):(M×M)×eL)) S4 λwq hq=>⟨HV.j,UY.j wq hq⟩);obtain⟨e3,k3,rfl⟩:=cN S4.own;obtain⟨d0,d1⟩:=Vn.j.1;clear S4)
    exact NH
 exact P0
theorem lS{base len bytes:R}{v zero:M}(t e:TypeId)(inf:(prog.info? e).map (λi=>(i.zero,i.size,i.bytes))=Y (Y zero,n,bytes))(ht:prog.underlying t=Y (.slice e))(VR:zero.cells.size=n)(hn:0<n)(Vk:bytes<=1000)(Tf:w.ownsRow base e n v len xs)(ys:Array M)(F:ys.size=n)(h1:∀u∈ys.toList,u.oneCell'=AT)(hlen:len<=900000)(d:base<=w.heap.size):∃v' w',(Builtin.append_ #[t,t] t #[v,J (Y (Q w.heap.size 0 G)) 1 1]).run prog (w.alloc (X ys e))=.ok v' w'/\Ap base e n w v w' v' (len+1) (xs++ys.toList):=by
 obtain⟨i0,hi,TU,Ty,TO⟩:=Lt inf;obtain⟨v',w',hr,h2,h3,_,h5⟩:=MK (w.alloc (X _ e)) _ t t e _ _ n _ ht hi TU Ty TO VR hn v _ _ (Tf.alloc _) _ 1 1 _ (by rw[Aj,F,Nf]) (lx _ _ _) h1 QB (wz (MP (show len+1<=1000000 by omega) Vk) Q9) jB;refine⟨_,_,hr,h2,(zp w _ _).trans h3,λk hk=>?_⟩;rcases h5 with e1|e1
 · exact .inl (e1▸hk)
 rw[hk]at e1;simp at e1;right;omega
theorem Hf:∀(l:I bP) (i r:R) (x:bP),l[i]? =Y x->r<3->(l.flatMap lC)[i*3+r]? =(lC x)[r]?
 | [],i,r,x,h,hr=>by simp at h
 | y::l,0,r,x,h,hr=>by
  simp at h
  subst h;rw[I',ze (by show 0*3+r<3;omega),MS,Aq]
 | y::l,i+1,r,x,h,hr=>by
  rw[I',Ag (by show 3<=(i+1)*3+r;omega),show(i+1)*3+r-D (lC y)=i*3+r by show(i+1)*3+r-3=_;omega];exact Hf l i r x RY hr
theorem PF{p:Prop}(h:p:=by exact⟨_,0,by rw[h0],by rw[h0];exact Lz,λi x hx=>by have:=(dm.1 hx).1;omega⟩):p:=h
theorem DH{v:M}{l:I bP}(h:w.ownsRow B e 3 v (D l) (l.flatMap lC)):eC w v l:=by
 rcases h.2 with⟨rfl,h0⟩|⟨k,cap,cur,rfl,h1,h2,h3,h4,h5,F⟩
 · exact PF
 refine⟨_,_,rfl,Q5,λi x hx=>?_⟩;have hi:=(dm.1 hx).1;have key:∀r,r<3->H w ⟨k,0+i*3+r,_⟩=(lC x)[r]? :=λr d=>by
  have e1:(cur.toList.take (D l*3))[i*3+r]? =cur.toList[i*3+r]? :=by rw[Lh,mI Q5]
  rw[Aq,zo h2,<-Lk,<-e1,F];exact Hf l i r x hx d
 exact⟨k,0,rfl,key 0 Q5,key 1 Q5,key 2 Q5⟩
theorem Fh{v:M}{q:I bP}{len:R}(ho:wr.ownsRow HHq t n vl len xs)(hs:HHq<=wr.heap.size)(hv:w2.ownsRow wr.heap.size 87 3 v (D q) (q.flatMap lC)):∀d:T,(∀b (x:Obj),HHq<=b->Y b≠vl.ownBlock->w2.heap[b]? =Y x->d.heap[b]? =Y x)->eC d v q:=λd hq=>DH (rO hv λk x F hx=>hq k x (by have:=(e_ hv k F).1;omega) (λe=>by have:=(e_ ho k e.symm).2;have:=(e_ hv k F).1;omega) hx)
theorem Tryz.infFill3:(Tryz.prog.info? 74).map (λi=>(i.zero,i.size,i.bytes))=Y (Y (.agg #[J G 0 0,O Z 0,J G 0 0,J G 0 0]),4,80):=Q7
theorem E7(rb ub:R)(s:ByteArray)(r:I AI)(bad:Bool)(w:T)(h:lW w rb s r bad)(T1:ub<w.heap.size)(No:¬rb=ub)(ht:lR w)(h0:¬rb=0)(aB:¬ub=0)(hc:H w (Q ub 2 G)=Y (J G 0 0)/\w.frozen? ⟨ub,2,G⟩=AS):
 Calls prog 39 #[.pointer (Y (Q rb 0 G)),.pointer (Y (Q ub 0 G)),O Z 3] w λx w'=>x=.returned (.tuple #[])/\∃(es:I ((M×M×M)×aQ)) (vl:M),ml w w.heap.size rb ub s 2 4 74 (λe:(M×M×M)×aQ=> [e.1.1,O Z e.2.result,e.1.2.1,e.1.2.2]) (λw e=>aY w e.1.1 e.2.aH/\aY w e.1.2.1 e.2.aI/\eC w e.1.2.2 e.2.code) es vl (dF fL r bad).2.1 (dF fL r bad).2.2 w'/\(dF fL r bad).1=es.map (·.2):=by
 have hrb:=h.lt;have HN:=aJ (fR 50 Q9 _ s r _ w h);have ay:=fJ 50 r bad;have HS:U (dF _ r bad=be fL _ _ _):=aJ rfl;have H0:U (ml w _ _ _ s 2 4 74 (λe:(M×M×M)×aQ=> [e.1.1,O Z e.2.result,e.1.2.1,e.1.2.2]) (λw e=>aY w e.1.1 e.2.aH/\aY w e.1.2.1 e.2.aI/\eC w e.1.2.2 e.2.code) _ _ r _ w):=aJ (ml.new ⟨hrb,T1,No⟩ hc h);have We:U (∀(es:I ((M×M×M)×aQ)) (vl:M) (r':I _) (b':Bool) (W':T),ml w w.heap.size _ _ s 2 4 74 (λe=> [e.1.1,O Z e.2.result,e.1.2.1,e.1.2.2]) (λw e=>aY w e.1.1 e.2.aH/\aY w e.1.2.1 e.2.aI/\eC w e.1.2.2 e.2.code) es vl r' b' W'->lR _):=aJ λes vl r' b' W' hf j hj=>(so (hf.low 0 Q5 (λe=>h0 e.symm) λe=>aB e.symm)).trans (ht j hj);generalize aZ _ r _=L at HN HS ay;obtain⟨n0,r2,b2⟩:=L;simp only at HS ay;obtain⟨n,rfl⟩:∃n:R,n0=n:=⟨n0.toNat,Q5⟩;have hn:n<=50:=Q5;simp only[A7]at HS;go_enter func39,ntmps39
 go_wp2_with fail;refine HN.mono ?_;rintro x w1 ⟨v1,rfl,rfl,ax,S5⟩;simp only at ax |-;have H1:=aJ (H0.call S5 ax);go_wp2_with fail;go_loopw[6] (λi wr=>∃(k:R) (es:I ((M×M×M)×aQ)) (vl:M) (rk:I AI) (bk:Bool),i=O Z (k:A)/\D es+k<=50/\ml w w.heap.size rb ub s 2 4 74 (λe:(M×M×M)×aQ=> [e.1.1,O Z e.2.result,e.1.2.1,e.1.2.2]) (λw e=>aY w e.1.1 e.2.aH/\aY w e.1.2.1 e.2.aI/\eC w e.1.2.2 e.2.code) es vl rk bk wr/\be fL n r2 b2=(es.map (·.2)++(be fL k rk bk).1,(be fL k rk bk).2)) λi _=>(intOf i).toNat
 case atStart=>exact QR
 obtain⟨k,es,vl,rk,bk,rfl,aD,ae,hT⟩:=hrel;obtain⟨ac,cc,rfl⟩:=cN ae.ow;obtain⟨z2,z3⟩:=ae.ls.bad;have Uk:=aJ ae;have Vz:=aJ hT;by_cases hk:0<k
 · obtain⟨j,rfl⟩:∃j,k=j+1:=⟨k-1,Q5⟩;cases bk with
   | true=>
    exact P1
   | false=>
    have Ue:U (be _ (j+1) rk AS=((fL _ _).1::(be _ j _ _).1,(be _ j _ _).2)):=aJ (by rw[be,eP Q9]);have Tr:=aJ (xU _ s _ _ _ Uk.ls (We _ _ _ _ _ Uk) h0);generalize fL _ _=L at Tr Ue;obtain⟨q,r8,b8⟩:=L;simp only at Ue;go_wp2_with fail;refine Tr.mono ?_;rintro x w2 ⟨v2,rfl,hv,hl,hg⟩;simp only at hl hv |-;obtain⟨vp,vl,vk,rfl,hp,Vf,Wd⟩:=hv;obtain⟨ap,cp,rfl⟩:=cN hp;obtain⟨al,cl,rfl⟩:=cN Vf;obtain⟨ak,ck,rfl⟩:=cN Wd;have gA:=(Gr.refl w2).alloc (X #[J ap (D q.aH) cp,O Z q.result,J al (D q.aI) cl,J ak (D q.code) ck] 74);have UO:U (∀wq,(∀b (x:Obj),w.heap.size<=b->Y b≠(J _ _ _).ownBlock->(w2.alloc _).heap[b]? =Y x->wq.heap[b]? =Y x)->aY _ _ _/\aY _ _ _/\eC wq _ _):=aJ (λwq hq=>by
     have af:=λb x h1 h2 h3=>hq b x h1 h2 ((gA.block b (eJ.1 h3).1 Q6).trans h3)
     exact⟨nR Uk.ow Uk.hs hp _ af,nR Uk.ow Uk.hs Vf _ af,Fh Uk.ow Uk.hs Wd _ af⟩)
    have F:=aJ ((Uk.call hg hl).gr gA);have TT:=aJ (gd.new w2 74 (J ap (D q.aH) cp) (O Z q.result) (J al (D q.aI) cl) (J ak (D q.code) ck));have aC:=(Uk.call hg hl).hs;have av:U (¬(J _ _ _).ownBlock=Y w2.heap.size):=aJ (λe=>by have:=(e_ (Uk.call hg hl).ow _ e).2;omega);go_upto_region 12 with fail
    generalize w2.alloc _=W2 at UO F TT |-;generalize w2.heap.size=gb at TT aC av |-;have HK:U (∀w',Gr _ w'->H w' _=Y _/\w'.frozen? _=AS/\H w' _=Y _/\H w' _=Y _/\H w' _=Y _/\H w' _=Y _):=aJ (λw' g=>by
     have a:=(F.gr g).here;obtain⟨x0,x1,x2,x3,_,_,_,_⟩:=TT.gc (cb:=gb+1) g.toGc Q5;exact⟨a.1,a.2,x0,x1,x2,x3⟩)
    obtain⟨v3,w3,az,S4⟩:=lS 54 _ Tryz.infFill3 underlying54 Q9 Q9 Q9 (F.gr Gy).ow #[J ap (D q.aH) cp,O Z q.result,J al (D q.aI) cl,J ak (D q.code) ck] rfl QW Q5 (by have:=F.j.hs;exact this)
    have Vn:=aJ ((F.gr Gy).put (e:=(((J _ _ _,J _ _ _,J _ _ _),q):(M×M×M)×aQ)) S4 λwq hq=>UO _ λb x h1 h2 h3=>hq b x h1 h2 h3);have aA:=aJ az;have ad:w3.heap[gb]? =W2.heap[gb]? :=S4.frm.block _ (by show gb<W2.heap.size;exact wI _ _ TT.1) λe=>av e.symm;have ai:U (H w3 _=Y _/\w3.frozen? _=AS/\H w3 _=Y _/\H w3 _=Y _/\H w3 _=Y _/\H w3 _=Y _):=aJ (by
     obtain⟨x0,x1,x2,x3,_,_,_,_⟩:=TT.j;exact⟨Vn.1.1,Vn.1.2,(so ad).trans x0,(so ad).trans x1,(so ad).trans x2,(so ad).trans x3⟩)
    obtain⟨e3,k3,rfl⟩:=cN S4.own;obtain⟨d0,d1⟩:=Vn.1;refine eg [10] (S:=(λw'=>H w' _=Y _/\w'.frozen? _=AS/\H w' _=Y _/\H w' _=Y _/\H w' _=Y _/\H w' _=Y _)) Q7 (HK _ Gy) (λhH=>?_);refine iO (i:=0) (v:=_) rfl Q7 Q7 Q7 Q7 (λ_ _ _ h=>h) bZ (λw d=>by (try dsimp only at d);go_simp<;>with_reducible rfl) hH ?_
    simp only[Act.put,sA,s0,s1];refine iO (i:=1) (v:=_) rfl Q7 Q7 Q7 Q7 (λ_ _ _ h=>h) bZ (λw d=>by (try dsimp only at d);go_simp<;>with_reducible rfl) hH ?_
    simp only[Act.put,sA,s0,s1];refine iO (i:=2) (v:=_) rfl Q7 Q7 Q7 Q7 (λ_ _ _ h=>h) bZ (λw d=>by (try dsimp only at d);go_simp<;>with_reducible rfl) hH ?_
    simp only[Act.put,sA,s0,s1];refine iO (i:=3) (v:=_) rfl Q7 Q7 Q7 Q7 (λ_ _ _ h=>h) bZ (λw d=>by (try dsimp only at d);go_simp<;>with_reducible rfl) hH ?_
    simp only[Act.put,sA,s0,s1];refine iO (i:=4) (v:=_) rfl Q7 Q7 Q7 Q7 (λ_ _ _ h=>h) bZ (λw d=>by (try dsimp only at d);go_simp<;>with_reducible rfl) hH ?_
    simp only[Act.put,sA,s0,s1];refine iO (i:=5) (v:=_) rfl Q7 Q7 Q7 Q7 (λ_ _ _ h=>h) bZ (λw d=>by (try dsimp only at d);go_simp<;>with_reducible rfl) hH ?_
    simp only[Act.put,sA,s0,s1];refine dy (i:=6) rfl Q7 λK hK=>?_;refine aW bZ ?_;go_simp
    refine hK _ _ (λ_=>HK _ ((Gy).alloc _)) ?_;try simp only[Act.put,sA,s0,s1]
    refine dy (i:=7) rfl Q7 λK hK=>?_;refine aW bZ (KO _ _ _ _ _ rfl _ _ fZ fZ _ _ aA ?_);refine hK _ _ (λ_=>ai) ?_;try simp only[Act.put,sA,s0,s1]
    refine iO (i:=8) (v:=_) rfl Q7 Q7 Q7 Q7 (λ_ _ _ h=>h) bZ (λw d=>by (try dsimp only at d);go_simp<;>with_reducible rfl) ai.j ?_
    simp only[Act.put,sA,s0,s1];refine iO (i:=9) (v:=_) rfl Q7 Q7 Q7 Q7 (λ_ _ _ h=>h) bZ (λw d=>by (try dsimp only at d);go_simp<;>with_reducible rfl) ai.j ?_
    simp only[Act.put,sA,s0,s1];refine dy (i:=10) rfl Q7 λK hK=>?_;refine aW bZ ?_;go_simp
    refine hK _ _ (λh=>absurd h Q9) ?_;try simp only[Act.put,sA,s0,s1]
    refine mo Q7 ?_ _;go_wp2_with fail;exact NH
 exact P0
theorem Tryz.infKV:(Tryz.prog.info? 122).map (λi=>(i.zero,i.size,i.bytes))=Y (Y (.agg #[O Z 0,O Z 0]),2,16):=Q7
def Hw(q:R)(ks:I A)(ps:I PV)(g:aQ)(w:T)(x:Ending)(w':T):Prop:=
 ∃sa sc,x=.returned (.agg #[O Z (q:A),O Z 0,J sa (D ps+D g.aI) sc,J G 0 0])/\w'.ownsRow w.heap.size 122 2 (J sa (D ps+D g.aI) sc) (D ps+D g.aI) (fN (ks++g.aI) (ps++dG (D g.aI)))/\Gr w w'
structure Hh(w0:T)(xb q:R)(ks:I A)(ps:I PV)(ls:I A)(k:R)(w:T)(vs:M):Prop where
 box:w.heap[xb]? =Y (X #[O Z (q:A),O Z 0,vs,J G 0 0] 82 (0,0))
 own:w.ownsRow (xb+1) 122 2 vs (D ps+k) (fN (ks++ls.take k) (ps++dG k))
 low:∀b,b<xb->w.heap[b]? =w0.heap[b]?
 env:w.os=w0.os/\w.tape=w0.tape/\w.output=w0.output
theorem oK.grow{v:M}{m:R}(h:oK w v m xs)(g:Gr w w'):oK w' v m xs:=by
 obtain⟨a,c,e,k⟩:=h;refine⟨a,c,e,λj u d=>?_⟩;obtain⟨b,o,e1,F⟩:=k j u d;exact⟨b,o,e1,g.cell F Q6⟩
theorem Dc(k:R):dG (k+1)=dG k++[lX]:=by unfold dG;rw[List.replicate_succ']
theorem Hh.app{F q:R}{ks:I A}{ps:I PV}{ls:I A}{w1:T}{vs d:M}{z:A}(h:Hh w0 F q ks ps ls k w vs)(hk:D ks=D ps)(hz:ls[k]? =Y z)(S4:Ap (F+1) 122 2 w vs w1 d (D ps+k+1) (fN (ks++ls.take k) (ps++dG k)++[O Z z,O Z 0])):Hh w0 F q ks ps ls (k+1) (w1.setCell (Q F 2 G) d) d:=by
 have ae:=(eJ.1 h.box).1;have ad:∀b,vs.ownBlock=Y b->F<b:=λb hb=>by have:=(h.own.lt b hb).1;omega
 have S9:=S4.frm.block _ ae (λe=>by have:=ad _ e.symm;omega);have af:=(dm.1 hz).1;refine⟨bK (S9.trans h.box),?_,λb hb=>?_,S4.frm.os.trans h.env.1,S4.frm.tape.trans h.env.2.1,S4.frm.output.trans h.env.2.2⟩
 · have e:fN (ks++ls.take (k+1)) (ps++dG (k+1))=fN (ks++ls.take k) (ps++dG k)++[O Z z,O Z 0]:=by
    obtain⟨h1,h2⟩:=dm.1 hz;rw[AB h1,h2,Dc,<-zx,<-zx,l_ (by simp[hk,dG];omega)];have:vR z lX=0:=by unfold vR lX;split<;>rfl
    simp[fN,this]
   rw[e,<-MX];exact bY S4.own λb hb=>dp _ _ _ _ (by have:=(S4.own.lt b hb).1;show b≠F;omega)
 · rw[dp _ _ _ _ (show b≠F by omega),S4.frm.block b Q5 λe=>by have:=ad b e.symm;omega];exact h.low b hb
theorem Qj{p:Prop}(h:p:=by (intro w TP;(try dsimp only at TP);go_simp<;>with_reducible rfl)):p:=h
theorem uM(mb q:R)(v3:M)(fs:I aQ)(g:aQ)(vp:M)(ks:I A)(ps:I PV)(w:T)(hm:H w (Q mb 2 G)=Y v3)(hR:eE w v3 fs)(hg:fs[q]? =Y g)(hp:oK w vp (D ps) (fN ks ps))(hk:D ks=D ps)(bC:D ps<=1000)(a':D g.aI<=1000):
 Calls prog 22 #[.pointer (Y (Q mb 0 G)),O Z (q:A),vp] w (Hw q ks ps g w):=by
 obtain⟨ap,cp,rfl⟩:∃a c,vp=J a (D ps) c:=by obtain⟨a,c,e,_⟩:=hp;exact⟨a,c,e⟩
 obtain⟨a3,c3,rfl,bp,aE⟩:=hR;obtain⟨fb,fo,bj,bo,bt,rfl,t0,t1,t2,t3,r1,r2,r3⟩:=aE q g hg;have bg:=(dm.1 hg).1;have bk:(q:A)<D fs:=Q5;have a9:(0:A)<=q:=Q5;obtain⟨la,lc,rfl,aB⟩:=r2.row;have Wn:=aJ aB;have HP:=aJ hp;have HM:=aJ hm;have aL:=aJ t2;clear hp hm aE aB t0 t1 t2 t3 r1 r3 hg;go_enter func22,ntmps22
 go_upto_region 2 with fail
 have Td:=aJ (((Gr.refl w).alloc (X #[O Z 0,O Z 0,J G 0 0,J G 0 0] 82)).alloc (X #[O Z q,O Z 0,J G 0 0,J G 0 0] 82));have ae:U (((w.alloc _).alloc _).heap[w.heap.size+1]? =Y _):=aJ (by have:=jZ (w.alloc (X #[O Z 0,O Z 0,J G 0 0,J G 0 0] 82)) (X #[O Z q,O Z 0,J G 0 0,J G 0 0] 82);simpa using this);have Va:U (((w.alloc (X #[O Z 0,O Z 0,J G 0 0,J G 0 0] 82)).alloc (X #[O Z q,O Z 0,J G 0 0,J G 0 0] 82)).heap[w.heap.size]? =Y _):=aJ ((Na _ _ Q6).trans (jZ w _));have Uh:((w.alloc (X #[O Z 0,O Z 0,J G 0 0,J G 0 0] 82)).alloc (X #[O Z q,O Z 0,J G 0 0,J G 0 0] 82)).heap.size=w.heap.size+2:=Q6;generalize (w.alloc _).alloc _=W1 at Td ae Va Uh |-;obtain⟨va,wa,az,af,F,a4⟩:=fG (ty:=80) 80 _ _ Tryz.infKV underlying80 rfl Q9 Q9 (B5 _ (w.heap.size+2) _ 2) (HP.grow Td) (kd hk) (pN _ _) Q5 Q5;rw[Aq,Kj]at af;obtain⟨⟨sa,sc,rfl⟩,_⟩:=bD af;have al:U (Hh _ _ q ks ps g.aI 0 (wa.setCell ⟨_,2,_⟩ (J _ _ _)) _):=aJ (by
  have S9:wa.heap[w.heap.size+1]? =W1.heap[w.heap.size+1]? :=F.block _ Q5 Ro;refine⟨bK (S9.trans ae),?_,λb hb=>?_,F.os,F.tape,F.output⟩
  · have e:fN (ks++g.aI.take 0) (ps++dG 0)=fN ks ps:=by simp[dG]
    rw[e,Mo];exact bY af λb hb=>dp _ _ _ _ (by have:=(af.lt b hb).1;show b≠w.heap.size+1;omega)
  rw[dp _ _ _ _ (show b≠w.heap.size+1 by omega),F.block b Q5 Ro])
 have Tx:H wa ⟨_,2,_⟩=Y (J _ 0 0):=F.cell (by rw[aN ae];rfl) Ro;have a2:H W1 ⟨w.heap.size+1,2,G⟩=Y (J G 0 0):=by rw[aN ae];rfl
 have TO:wa.frozen? ⟨_,2,_⟩=AS:=(zc (F.block (w.heap.size+1) Q5 Ro)).trans (aT ae);have a6:=aJ az;clear az af F a4;go_upto_region 3 with(at_builtin;refine CH _ rfl _ _ _ _ rfl _ _ rfl rfl _ _ a6.j ?_)
 generalize wa.setCell _ _=W2 at al |-;have ad:∀(a:Addr) (x:M),H w a=Y x->H W2 a=Y x:=λa x hx=>by
  have hl:=wI w _ hx;exact(so ((al.low _ Q5).trans (Td.block _ hl Q6))).trans hx
 have e1:=ad _ _ HM;have e2:=ad _ _ aL;clear Tx a2 TO ad;go_wp2_with fail;go_loopw[9] (λiv wr=>∃(k:R) (vs:M),k<=D g.aI/\iv=O Z (k:A)/\Hh W1 (w.heap.size+1) q ks ps g.aI k wr vs) λiv _=>D g.aI-(intOf iv).toNat
 case atStart=>exact⟨0,_,Lz,rfl,al⟩
 clear e1 e2;obtain⟨k,vs,aM,rfl,d⟩:=hrel;obtain⟨⟨sa,sc,rfl⟩,_⟩:=bD d.own;have ad:∀(a:Addr) (x:M),H w a=Y x->H wr a=Y x:=λa x hx=>by
  have hl:=wI w _ hx;exact(so ((d.low _ Q5).trans (Td.block _ hl Q6))).trans hx
 have HF:=aJ d;have e2:H wr ⟨w.heap.size+1,2,G⟩=Y (J sa (D ps+k) sc):=by rw[aN d.box];rfl
 by_cases IN:k<D g.aI
 · obtain⟨z,hz⟩:=aU IN;obtain⟨lb,lo,rfl,ay⟩:=Wn k (O Z z) (by simp[fK,hz]);have e3:=ad _ _ ay;have UB:(k:A)<D g.aI:=by omega
   have a7:(0:A)<=k:=Q5;have KS:U (∀w',Gr _ _->(λw':T=>H w' _=Y _/\H w' _=Y _) w'):=aJ λw' g=>⟨g.cell e2 Q6,g.cell e3 Q6⟩;have ax:Hh _ _ q _ _ _ k wr.drew _:=⟨d.box,d.own,d.low,d.env⟩;obtain⟨v3,w3,aA,S4⟩:=lS 80 _ Tryz.infKV underlying80 Q9 Q9 Q9 ax.own #[O Z z,O Z 0] rfl QP Q5 (by show w.heap.size+1+1<=wr.heap.size;have:=(eJ.1 d.box).1;omega)
   obtain⟨⟨s3,c3,rfl⟩,_⟩:=bD S4.own;have HN:=aJ (ax.app hk hz S4);have av:∀b,(J _ _ _).ownBlock=Y b->w.heap.size+1<b:=λb hb=>by have:=(d.own.lt b hb).1;omega
   have ak:w3.heap[w.heap.size+1]? =wr.heap[w.heap.size+1]? :=S4.frm.block _ (eJ.1 d.box).1 (λe=>by have:=av _ e.symm;omega);have a5:=(so ak).trans e2;have bB:w3.frozen? ⟨_,2,_⟩=AS:=(zc ak).trans (aT d.box);have a8:lb<w.heap.size:=wI w _ ay;have aG:=(so (S4.frm.block lb (by have:=(eJ.1 d.box).1;show lb<wr.heap.size;omega) λe=>by have:=av _ e.symm;omega)).trans e3;have aC:U ((λw':T=>H w' _=Y _/\H w' _=Y _) _):=aJ ⟨a5,aG⟩;have aH:=aJ aA;clear ax S4 aA d ad ay ak av hz;go_wp2_with fail;refine eg [10] (S:=(λw'=>H w' _=Y _/\H w' _=Y _)) Q7 (KS _ Gy) λhH=>?_;refine tS 0 ?_;refine tS 1 ?_;refine tS 2 ?_;refine tS 3 ?_;refine tS 4 ?_;refine tS 5 ?_;refine tS 6 ?_;refine dy (i:=7) rfl Q7 λK hK=>?_;refine aW bZ ?_;go_simp
   refine hK _ _ (λ_=>KS _ ((Gy).alloc _)) ?_;clear hK;try simp only[Act.put,sA,s0,s1]
   refine dy (i:=8) rfl Q7 λK hK=>?_;refine aW bZ (KO _ _ _ _ _ rfl _ _ fZ fZ _ _ aH ?_);refine hK _ _ (λ_=>aC) ?_;clear hK;try simp only[Act.put,sA,s0,s1]
   refine iO (i:=9) (v:=?fbv9) rfl Q7 Q7 Q7 Q7 (λ_ _ _ h=>h) bZ ?fbhy9 aC.j ?fbrest9
   case fbhy9=>exact Qj
   simp only[Act.put,sA,s0,s1];refine dy (i:=10) rfl Q7 λK hK=>?_;refine aW bZ ?_;go_simp
   refine hK _ _ (λh=>absurd h Q9) ?_;clear hK;try simp only[Act.put,sA,s0,s1]
   refine mo Q7 ?_ _;go_wp2_with fail;go_roundw
   case rel=>exact⟨_,_,Q5,QZ,HN⟩
   case measure=>exact Qh
 have a0:k=D g.aI:=by omega
 subst a0;have HO:=aJ (by have:=d.own;rw[J6]at this;exact this);obtain⟨x0,x1,x2,x3⟩:H wr ⟨_,0,_⟩=Y (.int _ q)/\H wr ⟨_,1,_⟩=Y (.int _ 0)/\H wr ⟨_,2,_⟩=Y (J _ _ _)/\H wr ⟨_,3,_⟩=Y (J _ 0 0):=by
  refine⟨?_,?_,?_,?_⟩<;>rw[aN d.box]<;>rfl
 have hrb:=(d.low _ Q5).trans Va;obtain⟨y0,y1,y2,y3⟩:H wr ⟨_,0,_⟩=Y (.int _ 0)/\H wr ⟨_,1,_⟩=Y (.int _ 0)/\H wr ⟨_,2,_⟩=Y (J _ 0 0)/\H wr ⟨_,3,_⟩=Y (J _ 0 0):=by
  refine⟨?_,?_,?_,?_⟩<;>rw[aN hrb]<;>rfl
 have i0:wr.frozen? ⟨_,0,_⟩=AS:=aT hrb;have i1:wr.frozen? ⟨_,1,_⟩=AS:=aT hrb;have i2:wr.frozen? ⟨_,2,_⟩=AS:=aT hrb;have i3:wr.frozen? ⟨_,3,_⟩=AS:=aT hrb;have HG:U (Gr w _):=aJ ⟨d.env.1.trans Td.os,d.env.2.1.trans Td.tape,d.env.2.2.trans Td.output,by have:=(eJ.1 d.box).1;omega,λb hb _=>(d.low b Q5).trans (Td.block b hb Q6)⟩;have T7:=aJ hrb;clear d ad IN aM e2 hrb;go_wp2_with fail;have ai:((((wr.setCell _ _).setCell _ _).setCell _ _).setCell _ _).heap[w.heap.size]? =Y (X #[O Z q,O Z 0,J sa (D ps+D g.aI) sc,J G 0 0] _ _):=bK (o:=3) (bK (o:=2) (bK (o:=1) (bK (o:=0) T7)));have aD:U (Gr w ((((wr.setCell ⟨_,0,_⟩ (O Z q)).setCell ⟨_,1,_⟩ (O Z 0)).setCell ⟨_,2,_⟩ (J sa (D ps+D g.aI) sc)).setCell ⟨_,3,_⟩ (J G 0 0))):=aJ (dC (dC (dC (dC HG lj) lj) lj) lj);have aF:U (((((wr.setCell (Q w.heap.size 0 G) (O Z q)).setCell (Q w.heap.size 1 G) (O Z 0)).setCell (Q w.heap.size 2 G) (J sa (D ps+D g.aI) sc)).setCell (Q w.heap.size 3 G) (J G 0 0)).ownsRow w.heap.size _ 2 _ _ _):=aJ (rH (bY HO λb hb=>by
  have TQ:=(HO.lt b hb).1;rw[dp _ _ _ _ (show b≠w.heap.size by omega),dp _ _ _ _ (show b≠w.heap.size by omega),dp _ _ _ _ (show b≠w.heap.size by omega),dp _ _ _ _ (show b≠w.heap.size by omega)]) Q5)
 generalize (((wr.setCell _ _).setCell _ _).setCell _ _).setCell _ _=WZ at ai aD aF |-;obtain⟨t0,t1,t2,t3⟩:H WZ ⟨_,0,_⟩=Y (.int _ q)/\H WZ ⟨_,1,_⟩=Y (.int _ 0)/\H WZ ⟨_,2,_⟩=Y (J _ _ _)/\H WZ ⟨_,3,_⟩=Y (J _ 0 0):=by
  refine⟨?_,?_,?_,?_⟩<;>rw[aN ai]<;>rfl
 exact qn (by simp[results,results22,go_sem,t0,t1,t2,t3]) rfl ⟨_,_,rfl,aF,aD⟩
theorem Tryz.infBool:(Tryz.prog.info? 4).map (λi=>(i.zero,i.size,i.bytes))=Y (Y (Value.bool AS),1,1):=Q7
theorem pz{len:R}{v:M}(h:w.ownsRow B t n v len xs):oK w v len xs:=by
 obtain⟨⟨a,c,rfl⟩,_⟩:=bD h;refine⟨a,c,rfl,λj u hj=>?_⟩;have d:j<len*n:=SM
 obtain⟨g,_,_,⟨c',F⟩,h4⟩:=iE h d;simp only[jj,Bt]at F;exact⟨g,0,F.1,by rw[h4];exact hj⟩
def cr(L:I RF):I PV:=L.flatMap λe=>e.slots++e.stack
def nP(L:I RF):I A:=L.flatMap λe=>e.ks++e.kt
theorem gN.flat{σ:I A}:∀{L:I RF},(∀e∈L,gN σ e.ks e.slots/\gN σ e.kt e.stack)->gN σ (nP L) (cr L)
 | [],_=>gN.nil σ
 | e::L,h=>((h e J9).1.app (h e J9).2).app (gN.flat λf d=>h f (Jw _ d))
theorem AU{L:I RF}{e:RF}(h:L[k]? =Y e):cr (L.take (k+1))=cr (L.take k)++e.slots++e.stack/\nP (L.take (k+1))=nP (L.take k)++e.ks++e.kt:=by
 obtain⟨F,d⟩:=dm.1 h;unfold cr nP;rw[AB F,d];simp
structure xH(w0:T)(sb N:R)(ms:I R)(ko:I A)(op:I PV)(w:T)(vo:M):Prop where
 gr:Gr w0 w
 sbl:w0.heap.size<=sb
 seen:∃cs:Array M,w.heap[sb]? =Y (X cs 4 (0,0))/\cs.size=N+1/\∀j,j<N->cs[j+1]? =Y (.bool (decide (j∈ms)))
 own:w.ownsRow w0.heap.size 122 2 vo (D op) (fN ko op)
theorem xH.ne(h:xH w0 sb N ms ko op w vo):¬vo.ownBlock=Y sb:=λe=>by
 obtain⟨cs,hs,_⟩:=h.seen;rcases h.own.2 with⟨rfl,_⟩|⟨g,cap,cur,rfl,_,d,_⟩
 · simp[Value.ownBlock]at e
 simp only[Value.ownBlock,qN]at e;subst e;rw[hs]at d;simp only[qN,Obj.cells.injEq]at d;exact absurd d.2.1 Q9
theorem xH.mv(h:xH w0 sb N ms ko op w vo)(g:Gr w w'):xH w0 sb N ms ko op w' vo:=by
 obtain⟨cs,hs,F⟩:=h.seen;exact⟨h.gr.trans g,h.sbl,⟨_,(g.block _ (eJ.1 hs).1 Q6).trans hs,F⟩,bY h.own λk d=>g.block k (h.own.lt k d).2 Q6⟩
theorem xH.pop{k:A}{v:PV}{a:By Addr}{c:R}(h:xH w0 sb N ms (ko++[k]) (op++[v]) w (J a n c))(F:D ko=D op):xH w0 sb N ms ko op w (J a (D op) c):=by
 have ho:=h.own;obtain⟨⟨a',c',d⟩,_⟩:=bD ho;simp only[jj]at d;obtain⟨rfl,rfl,rfl⟩:=d;have hc:=vW ho (m:=D op) Q6;rw[uG (by simp[F]) Q6,<-F,MO,F,MO]at hc;exact⟨h.gr,h.sbl,h.seen,hc⟩
theorem xH.app{kn:I A}{d:I PV}{vx:M}(h:xH w0 sb N ms ko op w vo)(hk:D ko=D op)(hn:D kn=D d)(hR:oK w vx (D d) (fN kn d))(hl:D op+D d<=1000000):
 ∃a c w',(Builtin.append_ #[80,80] 80 #[vo,vx]).run prog w=.ok (J a (D (op++d)) c) w'/\xH w0 sb N ms (ko++kn) (op++d) w' (J a (D (op++d)) c)/\∀b,b<w.heap.size->b<w0.heap.size\/b=sb->w'.heap[b]? =w.heap[b]? :=by
 obtain⟨v',w',hr,ho,hg,_⟩:=fG (ty:=80) 80 _ _ Tryz.infKV underlying80 rfl Q9 Q9 h.own hR (kd hn) (pN _ _) hl h.gr.size;obtain⟨⟨a,c,rfl⟩,_⟩:=bD ho;have F:∀b,b<w.heap.size->b<w0.heap.size\/b=sb->w'.heap[b]? =w.heap[b]? :=λb F hc=>hg.block b F (λe=>by
  rcases hc with hc|hc
  · have:=(h.own.lt b e.symm).1;omega
  subst hc;exact h.ne e.symm)
 obtain⟨cs,hs,h2⟩:=h.seen;have Tn:=(eJ.1 hs).1;refine⟨a,c,_,by rw[fe];exact hr,⟨⟨hg.os.trans h.gr.os,hg.tape.trans h.gr.tape,hg.output.trans h.gr.output,wz h.gr.size hg.size,λi hi _=>(F i (tu hi h.gr.size) (.inl hi)).trans (h.gr.block i hi Q6)⟩,h.sbl,⟨_,(F _ Tn (.inr rfl)).trans hs,h2⟩,by rw[fe,l_ hk];exact ho⟩,F⟩
theorem xH.mark{j:R}(h:xH w0 sb N ms ko op w vo)(hj:j<N):xH w0 sb N (j::ms) ko op (w.setCell ⟨sb,j+1,G⟩ (.bool AT)) vo:=by
 obtain⟨cs,hs,F,h2⟩:=h.seen;refine⟨dC h.gr h.sbl,h.sbl,⟨_,bK hs,by simpa using F,λi hi=>?_⟩,bY h.own λk d=>dp _ _ _ _ λe=>h.ne (by rw[d];exact congrArg _ e)⟩;by_cases e:j=i
 · subst e;rw[K4 Q5];simp
 rw[Lj Q5,h2 i hi];simp
 exact λh=>absurd h.symm e
end Go.Proofs.YtghjmnlapcpbiaaGreatDoor
