import Derived.Test.YtkgncijcnlfhiabGreatNd
import Derived.Deep.Cut
import Derived.Deep.CutRange
namespace Go.Proofs.YtkgncijcnlfhiabGreat
set_option maxRecDepth 100000
set_option maxHeartbeats 4000000
set_option linter.unusedVariables false
set_option linter.unusedSimpArgs false
open Go.RowKit
attribute [local go_sem ↓] Go.wp_at_zero Go.wp_at_succ
def zl(w:World)(v:Value)(g:aO)(k:Int):Prop:=∃ap cp al nl cl ac nc cc,v=.agg #[.slice ap g.aF.length cp,.int .i64 g.result,.slice al nl cl,.slice ac nc cc,.int .i64 k]/\aW w (.slice ap g.aF.length cp) g.aF
def iq(W w:World)(b n:Nat)(N:List UInt8->Option (aO×Int)):Prop:=∃m,kB w b n m/\∀s,(N s=none/\m s=none)\/∃g k v,N s=some (g,k)/\m s=some v/\zl W v g k
theorem iq.lt{W w:World}{b n:Nat}{N:List UInt8->Option (aO×Int)}(h:iq W w b n N):b < w.heap.size:=by
 obtain ⟨m,h1,_⟩:=h;exact h1.lt
theorem iq.kept{W w w':World}{b n:Nat}{N:List UInt8->Option (aO×Int)}(h:iq W w b n N)(g:w'.heap[b]? =w.heap[b]?):iq W w' b n N:=by
 obtain ⟨m,h1,h2⟩:=h;exact ⟨m,h1.kept g,h2⟩
theorem iq.gr{W w w':World}{b n:Nat}{N:List UInt8->Option (aO×Int)}(h:iq W w b n N)(hg:Gr w w'):iq W w' b n N:=h.kept (hg.block b h.lt Q6)
theorem iq.find{W w:World}{b n:Nat}{N:List UInt8->Option (aO×Int)}(h:iq W w b n N)(s:ByteArray)(hs:s.size<=maxLen):
 (N s.data.toList=none/\(∀w',Gr w w'->(Instr.lookup 155 (.map (some b)) (.string s) true).run Tryz.prog w'=.ok (.tuple #[me,.bool false]) w')/\∀w',Gr w w'->(Instr.lookup 155 (.map (some b)) (.string s) false).run Tryz.prog w'=.ok me w')\/
 ∃g k v,N s.data.toList=some (g,k)/\zl W v g k/\(∀w',Gr w w'->(Instr.lookup 155 (.map (some b)) (.string s) true).run Tryz.prog w'=.ok (.tuple #[v,.bool true]) w')/\∀w',Gr w w'->(Instr.lookup 155 (.map (some b)) (.string s) false).run Tryz.prog w'=.ok v w':=by
 have hl:=h.lt;obtain ⟨m,h1,h2⟩:=h;rcases h2 s.data.toList with ⟨e1,e2⟩|⟨g,k,v,e1,e2,e3⟩
 · refine .inl ⟨e1,fun w' hg=>?_,fun w' hg=>?_⟩
   · have:=(h1.kept (hg.block b hl Q6)).look s hs
     rw [e2] at this;exact this
   · have:=(h1.kept (hg.block b hl Q6)).look1 s hs
     rw [e2] at this;exact this
 · refine .inr ⟨g,k,v,e1,e3,fun w' hg=>?_,fun w' hg=>?_⟩
   · have:=(h1.kept (hg.block b hl Q6)).look s hs
     rw [e2] at this;exact this
   · have:=(h1.kept (hg.block b hl Q6)).look1 s hs
     rw [e2] at this;exact this
theorem rg{α:Type}{p:α->Bool}{l:List α}{j:Nat}{x:α}(hx:l[j]? =some x)(hp:p x=true):l.any p=true:=by
 rw [List.any_eq_true];exact ⟨x,List.mem_of_getElem? hx,hp⟩
theorem qi{α:Type}{p:α->Bool}{l:List α}(h:∀m x,m < l.length->l[m]? =some x->p x=false):l.any p=false:=by
 rw [Bool.eq_false_iff];intro c;rw [List.any_eq_true] at c;obtain ⟨x,hx,hp⟩:=c;obtain ⟨m,hm,rfl⟩:=List.getElem_of_mem hx;rw [h m _ hm (List.getElem?_eq_getElem hm)] at hp;cases hp
def zK(w:World)(b:Nat)(e k:Int):Prop:=w.cell? ⟨b,0,none⟩=some (.int .i64 e)/\w.cell? ⟨b,1,none⟩=some (.int .i64 0)/\w.cell? ⟨b,2,none⟩=some (.int .i64 k)
theorem zK.gr{w w':World}{b:Nat}{e k:Int}(h:zK w b e k)(g:Gr w w'):zK w' b e k:=⟨g.cell h.1 Q6,g.cell h.2.1 Q6,g.cell h.2.2 Q6⟩
theorem zK.new(w:World)(e k:Int)(t:TypeId):zK (w.alloc (.cells #[.int .i64 e,.int .i64 0,.int .i64 k] t)) w.heap.size e k:=by
 have h:=heap_alloc_new w (.cells #[.int .i64 e,.int .i64 0,.int .i64 k] t);exact ⟨by rw [aJ h];rfl,by rw [aJ h];rfl,by rw [aJ h];rfl⟩
theorem uh(W:World)(l:List aK)(mb n:Nat)(N:List UInt8->Option (aO×Int))(W0:World)(YO:Gr W0 W)(hM:iq W0 W mb n N):
 uq W 85 #[.map (some mb)] #[] 7 l (fun _ u=>u.aB.any fun i=>!(N i.name).isSome) (fun _ V=>Gr W V) (fun V=>Gr W V):=by
 intro k u V vu hu hg hR;show Calls Tryz.prog 85 #[.map (some mb),vu,.agg #[.int .i64 7,.int .i64 0,.int .i64 (k:Int)]] V _
 obtain ⟨a1,a2,a3,a4,a5,c1,c2,c3,c4,c5,rfl,_,_,_,r4,_⟩:=(hR.gr hg).parts;obtain ⟨ao,cap,he,Gb,Mk⟩:=r4;simp only [Value.slice.injEq,true_and] at he;obtain ⟨rfl,rfl⟩:=he;have HC:=aH Mk;have HM:=aH (hM.gr hg);have HG:=aH hg;unfold maxLen at Gb;have HY:=aH (zK.new (V.alloc (.cells #[.slice a1 u.aA.length c1,.slice a2 u.aD.length c2,.slice a3 u.aE.length c3,.slice a4 u.aB.length c4,.slice a5 u.aC.length c5] 29)) 7 (k:Int) 62);have F9:=aH (((Gr.refl V).alloc (.cells #[.slice a1 u.aA.length c1,.slice a2 u.aD.length c2,.slice a3 u.aE.length c3,.slice a4 u.aB.length c4,.slice a5 u.aC.length c5] 29)).alloc (.cells #[.int .i64 7,.int .i64 0,.int .i64 (k:Int)] 62));have R8:(V.alloc (.cells #[.slice a1 u.aA.length c1,.slice a2 u.aD.length c2,.slice a3 u.aE.length c3,.slice a4 u.aB.length c4,.slice a5 u.aC.length c5] 29)).heap.size=V.heap.size+1:=Q6
 rw [R8] at HY;clear hM hg hR hu Mk R8 YO;go_enter Tryz.func85,Tryz.ntmps85
 go_wp2_with fail
 generalize (V.alloc (.cells #[.slice a1 u.aA.length c1,.slice a2 u.aD.length c2,.slice a3 u.aE.length c3,.slice a4 u.aB.length c4,.slice a5 u.aC.length c5] 29)).alloc (.cells #[.int .i64 7,.int .i64 0,.int .i64 (k:Int)] 62)=W1 at HY F9 |-;generalize V.heap.size+1=yb at HY |-;go_loopw [13] (fun i wr=>∃j:Nat,i=.int .i64 (j:Int)/\j<=u.aB.length/\(∀m x,m < j->u.aB[m]? =some x->(N x.name).isSome=true)/\Gr W1 wr) (fun i _=>u.aB.length - (intOf i).toNat)
 case atStart=>exact ⟨0,rfl,Nat.zero_le _,fun m x hm=>by omega,Gr.refl _⟩
 case round=>
  obtain ⟨j,rfl,hj,C2,M3⟩:=hrel;have HA:=aH C2;have C6:=aH M3;clear C2 M3;by_cases J0:j < u.aB.length
  · obtain ⟨x,hx⟩:=aX J0;obtain ⟨b,off,vs,vp,rfl,k0,k1,k2,⟨s,rfl,hs,R0⟩,rp⟩:=HC.out j x hx;obtain ⟨ap,cp,rfl⟩:=rp.shape;have g1:=F9.out.trans C6.out;have k0:=g1.cell k0 Q6;have k1:=g1.cell k1 Q6;have k2:=g1.cell k2 Q6;have T8:(j:Int) < (u.aB.length:Int):=by omega
    have hw:IntKind.i64.wrap ((j:Int)+1)=(j:Int)+1:=Q_;have HX:=aH hx;have hga:=(Gr.refl wr).alloc (.cells #[.string s,.slice ap x.aF.length cp,.int .i64 x.result] 71);rcases (HM.out.gr g1).find s R0 with ⟨e1,e2,_⟩|⟨g,kk,v,e1,e2,e3,_⟩
    · have Oc:=e2 _ hga;have Cd:=hga.alloc (.cells #[.slice none 0 0,.int .i64 0,.slice none 0 0,.slice none 0 0,.int .i64 0] 205);obtain ⟨y0,y1,y2⟩:=(HY.out.gr C6.out).gr Cd;have HN:Hid ((N x.name).isSome=false):=aH (by rw [<-hs,e1];rfl);have Tb:=aH Cd;unfold me at Oc;clear e1 e2 hs R0 rp hx hga Cd g1;go_wp2_with fail
      refine (aV _ _ _).mono ?_;rintro z w3 ⟨rfl,P0⟩;refine ⟨rfl,.inr ⟨?_,rfl,?_⟩⟩
      · exact rg HX.out (by rw [HN.out];rfl)
      · exact HG.out.trans (F9.out.trans (C6.out.trans (Tb.out.trans P0)))
    · obtain ⟨tp,tcp,tl,Zs,Ct,tc,Dt,Et,rfl,_⟩:=e2;have Oc:=e3 _ hga;have Cd:=hga.alloc (.cells #[.slice tp g.aF.length tcp,.int .i64 g.result,.slice tl Zs Ct,.slice tc Dt Et,.int .i64 kk] 205);obtain ⟨y0,y1,y2⟩:=(HY.out.gr C6.out).gr Cd;have HN:Hid ((N x.name).isSome=true):=aH (by rw [<-hs,e1];rfl);have Tb:=aH Cd;clear e1 e3 hs R0 rp hx hga Cd g1;go_wp2_with fail
      refine (aP _ _ _).mono ?_;rintro z w3 ⟨rfl,P0⟩;have HG3:=aH (C6.out.trans (Tb.out.trans P0));clear P0 Oc y0 y1 y2 k0 k1 k2 Tb;go_wp2_with fail
      refine ⟨⟨j+1,Q6,J0,?_,HG3.out⟩,by simp [intOf];omega⟩;intro m z hm hz;by_cases e:m=j
      · subst e;rw [HX.out] at hz;cases hz;exact HN.out
      · exact HA.out m z Q5 hz
  · have Xn:j=u.aB.length:=by omega
    subst Xn;clear J0 hj;go_wp2_with fail
    go_end0
    refine .inl ⟨?_,rfl,HG.out.trans (F9.out.trans C6.out)⟩;exact qi (fun m x hm hx=>by rw [HA.out m x hm hx];rfl)
open Go.RowKit
attribute [local go_sem ↓] Go.wp_at_zero Go.wp_at_succ
theorem Tryz.tgtF(a b c d e:Value)(w:World):(Instr.field 205 (.agg #[a,b,c,d,e]) 0).run Tryz.prog w=.ok (.agg #[a,b,c,d]) w:=Q7
theorem Tryz.tgtN(a b c d e:Value)(w:World):(Instr.field 205 (.agg #[a,b,c,d,e]) 1).run Tryz.prog w=.ok e w:=Q7
theorem vI(W:World)(l:List aK)(mb n:Nat)(N:List UInt8->Option (aO×Int))(W0:World)(YO:Gr W0 W)(hM:iq W0 W mb n N)(hN:∀u∈l,∀i∈u.aB,(N i.name).isSome=true):
 uq W 86 #[.map (some mb)] #[] 8 l (fun _ u=>u.aB.any fun i=>!jM N i) (fun _ V=>Gr W V) (fun V=>Gr W V):=by
 intro k u V vu hu hg hR;show Calls Tryz.prog 86 #[.map (some mb),vu,.agg #[.int .i64 8,.int .i64 0,.int .i64 (k:Int)]] V _
 obtain ⟨a1,a2,a3,a4,a5,c1,c2,c3,c4,c5,rfl,_,_,_,r4,_⟩:=(hR.gr hg).parts;obtain ⟨ao,cap,he,Gb,Mk⟩:=r4;simp only [Value.slice.injEq,true_and] at he;obtain ⟨rfl,rfl⟩:=he;have HC:=aH Mk;have HM:=aH (hM.gr hg);have HG:=aH hg;have Wu:=aH (YO.trans hg);have EG:=aH (hN u (List.mem_of_getElem? hu));unfold maxLen at Gb;have HY:=aH (zK.new (V.alloc (.cells #[.slice a1 u.aA.length c1,.slice a2 u.aD.length c2,.slice a3 u.aE.length c3,.slice a4 u.aB.length c4,.slice a5 u.aC.length c5] 29)) 8 (k:Int) 62);have F9:=aH (((Gr.refl V).alloc (.cells #[.slice a1 u.aA.length c1,.slice a2 u.aD.length c2,.slice a3 u.aE.length c3,.slice a4 u.aB.length c4,.slice a5 u.aC.length c5] 29)).alloc (.cells #[.int .i64 8,.int .i64 0,.int .i64 (k:Int)] 62));have R8:(V.alloc (.cells #[.slice a1 u.aA.length c1,.slice a2 u.aD.length c2,.slice a3 u.aE.length c3,.slice a4 u.aB.length c4,.slice a5 u.aC.length c5] 29)).heap.size=V.heap.size+1:=Q6
 rw [R8] at HY;clear hM hg hR hu Mk R8 hN YO;go_enter Tryz.func86,Tryz.ntmps86
 go_wp2_with fail
 generalize (V.alloc (.cells #[.slice a1 u.aA.length c1,.slice a2 u.aD.length c2,.slice a3 u.aE.length c3,.slice a4 u.aB.length c4,.slice a5 u.aC.length c5] 29)).alloc (.cells #[.int .i64 8,.int .i64 0,.int .i64 (k:Int)] 62)=W1 at HY F9 |-;generalize V.heap.size+1=yb at HY |-;go_loopw [12] (fun i wr=>∃j:Nat,i=.int .i64 (j:Int)/\j<=u.aB.length/\(∀m x,m < j->u.aB[m]? =some x->jM N x=true)/\Gr W1 wr) (fun i _=>u.aB.length - (intOf i).toNat)
 case atStart=>exact ⟨0,rfl,Nat.zero_le _,fun m x hm=>by omega,Gr.refl _⟩
 case round=>
  obtain ⟨j,rfl,hj,C2,M3⟩:=hrel;have HA:=aH C2;have C6:=aH M3;clear C2 M3;by_cases J0:j < u.aB.length
  · obtain ⟨x,hx⟩:=aX J0;obtain ⟨b,off,vs,vp,rfl,k0,k1,k2,⟨s,rfl,hs,R0⟩,rp⟩:=HC.out j x hx;obtain ⟨ap,cp,rfl⟩:=rp.shape;have g1:=F9.out.trans C6.out;have k0:=g1.cell k0 Q6;have k1:=g1.cell k1 Q6;have k2:=g1.cell k2 Q6;have T8:(j:Int) < (u.aB.length:Int):=by omega
    have hw:IntKind.i64.wrap ((j:Int)+1)=(j:Int)+1:=Q_;have HX:=aH hx;have hga:=(Gr.refl wr).alloc (.cells #[.string s,.slice ap x.aF.length cp,.int .i64 x.result] 71);have hba:=heap_alloc_new wr (.cells #[.string s,.slice ap x.aF.length cp,.int .i64 x.result] 71);rcases (HM.out.gr g1).find s R0 with ⟨e1,_,_⟩|⟨g,kk,v,e1,e2,_,e3⟩
    · have:=EG.out x (List.mem_of_getElem? hx)
      rw [<-hs,e1] at this;cases this
    · obtain ⟨tp,tcp,tl,Zs,Ct,tc,Dt,Et,rfl,rtp⟩:=e2;have Oc:=e3 _ hga;have Cd:=hga.alloc (.cells #[.slice tp g.aF.length tcp,.int .i64 g.result,.slice tl Zs Ct,.slice tc Dt Et] 47);have R8:=heap_alloc_new (wr.alloc (.cells #[.string s,.slice ap x.aF.length cp,.int .i64 x.result] 71)) (.cells #[.slice tp g.aF.length tcp,.int .i64 g.result,.slice tl Zs Ct,.slice tc Dt Et] 47);have hsb:(wr.alloc (.cells #[.string s,.slice ap x.aF.length cp,.int .i64 x.result] 71)).heap.size=wr.heap.size+1:=by simp
      rw [hsb] at R8;have E0:Gr (wr.alloc (.cells #[.string s,.slice ap x.aF.length cp,.int .i64 x.result] 71)) ((wr.alloc (.cells #[.string s,.slice ap x.aF.length cp,.int .i64 x.result] 71)).alloc (.cells #[.slice tp g.aF.length tcp,.int .i64 g.result,.slice tl Zs Ct,.slice tc Dt Et] 47)):=(Gr.refl _).alloc _;have HY2:=aH ((HY.out.gr C6.out).gr Cd);have HN:Hid (jM N x=decide (x.aF=g.aF/\x.result=g.result)):=aH (by unfold jM;rw [<-hs,e1]);have Tb:=aH Cd;have Fh:=aH ((rp.gr g1).gr Cd);have Hm:=aH (((rtp.gr Wu.out).gr g1).gr Cd);have KS:Hid (∀w',Gr ((wr.alloc (.cells #[.string s,.slice ap x.aF.length cp,.int .i64 x.result] 71)).alloc (.cells #[.slice tp g.aF.length tcp,.int .i64 g.result,.slice tl Zs Ct,.slice tc Dt Et] 47)) w'->w'.cell? ⟨yb,0,none⟩=some (.int .i64 8)/\w'.cell? ⟨yb,1,none⟩=some (.int .i64 0)/\w'.cell? ⟨yb,2,none⟩=some (.int .i64 (k:Int))/\w'.cell? ⟨wr.heap.size,1,none⟩=some (.slice ap x.aF.length cp)/\w'.cell? ⟨wr.heap.size,2,none⟩=some (.int .i64 x.result)/\w'.cell? ⟨wr.heap.size+1,0,none⟩=some (.slice tp g.aF.length tcp)/\w'.cell? ⟨wr.heap.size+1,1,none⟩=some (.int .i64 g.result)):=aH (fun w' g=>by
       have e0:w'.heap[wr.heap.size]? =_:=((E0.trans g).block wr.heap.size Q6 Q6).trans hba;have e1:w'.heap[wr.heap.size+1]? =_:=(g.block (wr.heap.size+1) Q6 Q6).trans R8;obtain ⟨y0,y1,y2⟩:=HY2.out.gr g;exact ⟨y0,y1,y2,by rw [aJ e0];rfl,by rw [aJ e0];rfl,by rw [aJ e1];rfl,by rw [aJ e1];rfl⟩)
      clear e1 e3 hs R0 rp hx hga Cd g1 rtp hba R8 hsb E0;have hft:=fun (a b c d e:Value) (w:World)=>Tryz.tgtF a b c d e w
      go_upto_region 5 with fail
      clear hft;generalize (wr.alloc (.cells #[.string s,.slice ap x.aF.length cp,.int .i64 x.result] 71)).alloc (.cells #[.slice tp g.aF.length tcp,.int .i64 g.result,.slice tl Zs Ct,.slice tc Dt Et] 47)=W2 at KS Tb Fh Hm |-;clear Oc k0 k1 k2 HY2;refine wp_region_held_drew (S:=(fun w'=>w'.cell? ⟨yb,0,none⟩=some (.int .i64 8)/\w'.cell? ⟨yb,1,none⟩=some (.int .i64 0)/\w'.cell? ⟨yb,2,none⟩=some (.int .i64 (k:Int))/\w'.cell? ⟨wr.heap.size,1,none⟩=some (.slice ap x.aF.length cp)/\w'.cell? ⟨wr.heap.size,2,none⟩=some (.int .i64 x.result)/\w'.cell? ⟨wr.heap.size+1,0,none⟩=some (.slice tp g.aF.length tcp)/\w'.cell? ⟨wr.heap.size+1,1,none⟩=some (.int .i64 g.result))) Q7 (KS.out _ (Gr.drew (Gr.refl _))) (fun hH=>?_);refine tL 0 ?_;simp only [Act.put,sA,s0,s1];refine tL 1 ?_;simp only [Act.put,sA,s0,s1];refine tL 2 ?_;simp only [Act.put,sA,s0,s1];refine tL 3 ?_;simp only [Act.put,sA,s0,s1];refine tL 4 ?_;simp only [Act.put,sA,s0,s1];refine aq (i:=5) rfl Q7 (fun K hK=>?_);refine aQ rfl 83 _ _ rfl #[.slice ap x.aF.length cp,.slice tp g.aF.length tcp] fk (Tryz.callEqI _ _) ((j6 _ _ x.aF g.aF _ (Fh.out.gr (Gr.drew (Gr.refl _))) (Hm.out.gr (Gr.drew (Gr.refl _)))).mono ?_);rintro z w2 ⟨rfl,E0⟩;have O0:=aH ((Gr.drew (Gr.refl W2)).trans E0);clear E0;refine .inl ⟨_,rfl,?_⟩;refine hK.out _ _ (KS.out _ O0.out) (fun hH=>?_);clear hK;try simp only [Act.put,sA,s0,s1]
      by_cases h1:x.aF=g.aF
      · have ed:decide (x.aF=g.aF)=true:=by simpa using h1
        rw [ed];clear ed;refine tL 6 ?_;simp only [Act.put,sA,s0,s1];refine tL 7 ?_;simp only [Act.put,sA,s0,s1];refine tL 8 ?_;simp only [Act.put,sA,s0,s1];refine tL 9 ?_;simp only [Act.put,sA,s0,s1];refine tL 10 ?_;simp only [Act.put,sA,s0,s1];by_cases h2:x.result=g.result
        · have ed:(x.result == g.result)=true:=by simpa using h2
          refine tL 11 ?_;simp only [Act.put,sA,s0,s1];refine tL 12 ?_;simp only [Act.put,sA,s0,s1];refine aq (i:=13) rfl Q7 (fun K hK=>?_);refine aQ rfl 64 _ _ rfl #[.agg #[.int .i64 8,.int .i64 0,.int .i64 (k:Int)],.bool true] (by simp [Act.eval,ed]) (Tryz.callUnl _ _) ((aP _ _ _).mono ?_);rintro z w3 ⟨rfl,P0⟩;have O1:=aH (O0.out.trans P0);clear P0;refine .inl ⟨_,rfl,?_⟩;refine hK.out _ _ (KS.out _ O1.out) (fun hH=>?_);clear hK;try simp only [Act.put,sA,s0,s1]
          refine wpAnyH_done Q7 ?_ _;have HG3:=aH (C6.out.trans (Tb.out.trans O1.out));clear KS Tb O1 O0 Fh Hm hH;go_wp2_with fail
          refine ⟨⟨j+1,Q6,J0,?_,HG3.out⟩,by simp [intOf];omega⟩;intro m z hm hz;by_cases e:m=j
          · subst e;rw [HX.out] at hz;cases hz;rw [HN.out];simp [h1,h2]
          · exact HA.out m z Q5 hz
        · have ed:(x.result == g.result)=false:=by simpa using h2
          refine tL 11 ?_;simp only [Act.put,sA,s0,s1];refine tL 12 ?_;simp only [Act.put,sA,s0,s1];refine aq (i:=13) rfl Q7 (fun K hK=>?_);refine aQ rfl 64 _ _ rfl #[.agg #[.int .i64 8,.int .i64 0,.int .i64 (k:Int)],.bool false] (by simp [Act.eval,ed]) (Tryz.callUnl _ _) ((aV _ _ _).mono ?_);rintro z w3 ⟨rfl,P0⟩;refine .inr ⟨_,rfl,?_⟩;exact ⟨rfl,.inr ⟨rg HX.out (by rw [HN.out];simp [h1,h2]),rfl,HG.out.trans (F9.out.trans (C6.out.trans (Tb.out.trans (O0.out.trans P0))))⟩⟩
      · have ed:decide (x.aF=g.aF)=false:=by simpa using h1
        rw [ed];clear ed;refine tL 6 ?_;simp only [Act.put,sA,s0,s1];refine eJ (i:=7) rfl Q7 Q7 Q7 (fun _ _ _ h=>h) cw hH ?_;simp only [Act.put,sA,s0,s1];refine eJ (i:=8) rfl Q7 Q7 Q7 (fun _ _ _ h=>h) cw hH ?_;simp only [Act.put,sA,s0,s1];refine eJ (i:=9) rfl Q7 Q7 Q7 (fun _ _ _ h=>h) cw hH ?_;simp only [Act.put,sA,s0,s1];refine eJ (i:=10) rfl Q7 Q7 Q7 (fun _ _ _ h=>h) cw hH ?_;simp only [Act.put,sA,s0,s1];refine eJ (i:=11) rfl Q7 Q7 Q7 (fun _ _ _ h=>h) cw hH ?_;simp only [Act.put,sA,s0,s1];refine tL 12 ?_;simp only [Act.put,sA,s0,s1];refine aq (i:=13) rfl Q7 (fun K hK=>?_);refine aQ rfl 64 _ _ rfl #[.agg #[.int .i64 8,.int .i64 0,.int .i64 (k:Int)],.bool false] fk (Tryz.callUnl _ _) ((aV _ _ _).mono ?_);rintro z w3 ⟨rfl,P0⟩;refine .inr ⟨_,rfl,?_⟩;exact ⟨rfl,.inr ⟨rg HX.out (by rw [HN.out];simp [h1]),rfl,HG.out.trans (F9.out.trans (C6.out.trans (Tb.out.trans (O0.out.trans P0))))⟩⟩
  · have Xn:j=u.aB.length:=by omega
    subst Xn;clear J0 hj;go_wp2_with fail
    go_end0
    refine .inl ⟨?_,rfl,HG.out.trans (F9.out.trans C6.out)⟩;exact qi (fun m x hm hx=>by rw [HA.out m x hm hx];rfl)
open Go.RowKit
attribute [local go_sem ↓] Go.wp_at_zero Go.wp_at_succ
def eh(l:List aK):Nat->List (List UInt8)
 | 0=> []
 | k+1=>((l[k]?).bind fun u=>fR (eh l k) u.aC).getD []
theorem lx(l:List aK):∀(n k:Nat),n+k=l.length->et (fun k u=>(fR (eh l k) u.aC).isNone) k (l.drop k)=ji (eh l k) k (l.drop k)
 | 0,k,h=>by rw [List.drop_eq_nil_of_le Q5];rfl
 | n+1,k,h=>by
  have hk:k < l.length:=Q5
  rw [List.drop_eq_getElem_cons hk,et,ji];cases e:fR (eh l k) l[k].aC with
  | none=>simp
  | some s=>
   have hs:eh l (k+1)=s:=by rw [eh,List.getElem?_eq_getElem hk];simp [e]
   rw [<-hs,lx l n (k+1) Q5];simp
theorem oG(u:aK):∀(l:List aK) (f:Nat) (N:List UInt8->Option (aO×Int)),h_ f (l++ [u]) N=rS u (f+(l.map fun u=>u.aE.length).sum) u.aC (h_ f l N)
 | [],f,N=>by simp [h_]
 | v :: l,f,N=>by rw [List.cons_append,h_,oG u l,h_,List.map_cons,List.sum_cons,Nat.add_assoc]
theorem vg{l:List aK}{k:Nat}{u:aK}(h:l[k]? =some u):h_ 0 (l.take (k+1)) (fun _=>none)=rS u (dy l k) u.aC (h_ 0 (l.take k) (fun _=>none)):=by
 obtain ⟨hk,rfl⟩:=List.getElem?_eq_some_iff.1 h;rw [List.take_succ_eq_append_getElem hk,oG];unfold dy;rw [Nat.zero_add]
theorem ld{l:List aK}(h:∀u∈l,u.aE.length<=30):∀k,dy l k<=30 * k
 | 0=>by simp [dy]
 | k+1=>by
  by_cases hk:k < l.length
  · rw [jh (List.getElem?_eq_getElem hk)];have:=ld h k
    have:=h _ (List.getElem_mem hk)
    omega
  · have e:dy l (k+1)=dy l k:=by unfold dy;rw [List.take_of_length_le Q5,List.take_of_length_le Q5]
    have:=ld h k
    omega
theorem fU{u:aK}(h:ai u=true):u.aE.length<=30/\u.aD.length<=50/\u.aB.length<=20/\u.aC.length<=20/\u.aA.length<=20/\(∀e∈u.aC,0<=e.func/\e.func < (u.aE.length:Int))/\(∀f∈u.aE,f.aF.length<=6/\f.aG.length<=10/\f.code.length<=200/\f.code.all a_=true)/\∀s∈u.aA,s.length<=8:=by
 unfold ai cV b9 bZ bm cL at h;simp only [wB,Bool.and_eq_true,decide_eq_true_eq] at h;obtain ⟨⟨s1,s2⟩,h2,⟨h3,h4⟩,⟨h5,h6⟩,h7,h8⟩:=h;refine ⟨Q5,Q5,Q5,Q5,Q5,fun e he=>?_,fun f hf=>?_,fun s hs=>?_⟩
 · have:=List.all_eq_true.1 h8 e he
   unfold hO at this;simp only [wB,Bool.and_eq_true,decide_eq_true_eq] at this;omega
 · have:=List.all_eq_true.1 h4 f hf
   unfold dD fL gG at this;simp only [wB,Bool.and_eq_true,decide_eq_true_eq] at this;obtain ⟨⟨p1,p2,p3⟩,p4,p5,p6,p7⟩:=this;exact ⟨Q5,Q5,Q5,p7⟩
 · have:=List.all_eq_true.1 s2 s hs
   unfold dY at this;simp only [wB,Bool.and_eq_true,decide_eq_true_eq] at this;omega
theorem aS{w:World}{b:Nat}{arr:Array Value}{t:TypeId}{o:Nat}(h:w.heap[b]? =some (.cells arr t (0,0))):w.frozen? ⟨b,o,none⟩=false:=by
 simp [World.frozen?,h]
theorem wG{W V w:World}{mb:Nat}(h:Gr W V)(g:V.grownBy w (some mb))(hm:W.heap.size<=mb):Gr W w:=
 ⟨g.os.trans h.os,g.tape.trans h.tape,g.output.trans h.output,Nat.le_trans h.size g.size,fun i hi hne=>(g.block i (Nat.lt_of_lt_of_le hi h.size) gS).trans (h.block i hi hne)⟩
theorem tU{w w':World}{ob:Option Nat}(h:Gr w w'):w.grownBy w' ob:=⟨h.os,h.tape,h.output,h.size,fun i hi _=>h.block i hi Q6⟩
theorem nI{a b c:World}{ob:Option Nat}(h:a.grownBy b ob)(k:b.grownBy c ob):a.grownBy c ob:=
 ⟨k.os.trans h.os,k.tape.trans h.tape,k.output.trans h.output,Nat.le_trans h.size k.size,fun i hi hne=>(k.block i (Nat.lt_of_lt_of_le hi h.size) hne).trans (h.block i hi hne)⟩
theorem lP{W V:World}{b o:Nat}{v:Value}(h:Gr W V)(hb:W.heap.size<=b):Gr W (V.setCell ⟨b,o,none⟩ v):=
 ⟨h.os,h.tape,h.output,by simpa using h.size,fun i hi hne=>by rw [Below.heap_setCell _ _ _ _ (by show i≠b;omega)];exact h.block i hi hne⟩
structure Bk(W:World)(nb fb mb:Nat)(l:List aK)(k:Nat)(V:World):Prop where
 gr:Gr W V
 nb0:W.heap.size<=nb
 fb0:W.heap.size<=fb
 mb0:W.heap.size<=mb
 nf:¬nb=fb
 nm:¬nb=mb
 fm:¬fb=mb
 cn:V.cell? ⟨nb,0,none⟩=some (.map (some mb))
 cf:V.cell? ⟨fb,0,none⟩=some (.int .i64 (dy l k:Int))
 zf:V.frozen? ⟨fb,0,none⟩=false
 mp:∃n,n<=20 * k/\iq W V mb n (h_ 0 (l.take k) fun _=>none)
 sn:∀s,s∈eh l k↔(h_ 0 (l.take k) (fun _=>none) s).isSome=true
theorem Bk.step{W:World}{nb fb mb:Nat}{l:List aK}{k:Nat}{V V':World}(h:Bk W nb fb mb l k V)(g:Gr V V'):Bk W nb fb mb l k V':=by
 obtain ⟨n,hn,hm⟩:=h.mp;exact ⟨h.gr.trans g,h.nb0,h.fb0,h.mb0,h.nf,h.nm,h.fm,g.cell h.cn Q6,g.cell h.cf Q6,(World.frozen?_of_block (a:=⟨fb,0,none⟩) (g.block fb (World.block_lt_of_cell? V _ h.cf) Q6)).trans h.zf,⟨n,hn,hm.gr g⟩,h.sn⟩
theorem iq.put{W w:World}{b n:Nat}{N:List UInt8->Option (aO×Int)}(h:iq W w b n N)(s:ByteArray)(hs:s.size<=maxLen)(hn:n < 1000000){v:Value}{g:aO}{k:Int}(hv:zl W v g k):
 ∃w',(Instr.mapUpdate 155 (.map (some b)) (.string s) v).run Tryz.prog w=.ok () w'/\iq W w' b (n+1) (fun j=>if j=s.data.toList then some (g,k) else N j)/\w.grownBy w' (some b):=by
 obtain ⟨m,h1,h2⟩:=h;obtain ⟨w',hr,hm,hg⟩:=h1.store s hs hn v;refine ⟨w',hr,⟨_,hm,fun j=>?_⟩,hg⟩;by_cases e:j=s.data.toList
 · exact .inr ⟨g,k,v,by simp [e],by simp [e],hv⟩
 · rcases h2 j with h|⟨g',k',v',e1,e2,e3⟩
   · exact .inl ⟨by simp [e,h.1],by simp [e,h.2]⟩
   · exact .inr ⟨g',k',v',by simp [e,e1],by simp [e,e2],e3⟩
theorem ue(W:World)(l:List aK)(nb fb mb:Nat)(G9:l.length<=6)(N2:∀u∈l,ai u=true):
 uq W 122 #[] #[.pointer (some ⟨nb,0,none⟩),.pointer (some ⟨fb,0,none⟩)] 6 l (fun k u=>(fR (eh l k) u.aC).isNone) (Bk W nb fb mb l) (fun V=>Gr W V):=by
 intro k u V vu hu hI hR;have I8:∀(x:Bool) (w:World),(Op.unary .not (.bool x)).run Tryz.prog w=.ok (.bool (!x)) w:=fun _ _=>rfl
 show Calls Tryz.prog 122 #[vu,.agg #[.int .i64 6,.int .i64 0,.int .i64 (k:Int)],.pointer (some ⟨nb,0,none⟩),.pointer (some ⟨fb,0,none⟩)] V _
 obtain ⟨a1,a2,a3,a4,a5,c1,c2,c3,c4,c5,rfl,_,_,r3,_,r5⟩:=hR.parts;obtain ⟨ao,cap,he,Mj,hc5⟩:=r5;simp only [Value.slice.injEq,true_and] at he;obtain ⟨rfl,rfl⟩:=he;obtain ⟨N_,KU,he,Hb,Pd⟩:=r3;simp only [Value.slice.injEq,true_and] at he;obtain ⟨rfl,rfl⟩:=he;have Sa:k < l.length:=(List.getElem?_eq_some_iff.1 hu).1;have hk6:k < 6:=Q5
 have G3:=fU (N2 u (List.mem_of_getElem? hu));obtain ⟨Ie,_,_,S9,_,Im,_⟩:=G3;have hah:=ld (fun u hu=>(fU (N2 u hu)).1) k;have HAS:=aH (jh hu);have ZO:=aH (vg hu);have HSS:Hid (∀s,fR (eh l k) u.aC=some s->eh l (k+1)=s):=aH (fun s e=>by rw [eh,hu];simp [e]);obtain ⟨n0,hn0,hM⟩:=hI.mp;have hmV:=hM.lt;have hnV:=World.block_lt_of_cell? V _ hI.cn;have hfV:=World.block_lt_of_cell? V _ hI.cf;have HC:=aH hc5;have P6:=aH Pd;have Xu:=aH Im;have HI:=aH hI;have HM:=aH hM;unfold maxLen at Mj Hb;have HY:=aH (zK.new (V.alloc (.cells #[.slice a1 u.aA.length c1,.slice a2 u.aD.length c2,.slice a3 u.aE.length c3,.slice a4 u.aB.length c4,.slice a5 u.aC.length c5] 29)) 6 (k:Int) 62);have F9:=aH (((Gr.refl V).alloc (.cells #[.slice a1 u.aA.length c1,.slice a2 u.aD.length c2,.slice a3 u.aE.length c3,.slice a4 u.aB.length c4,.slice a5 u.aC.length c5] 29)).alloc (.cells #[.int .i64 6,.int .i64 0,.int .i64 (k:Int)] 62));have D4:=heap_alloc_new V (.cells #[.slice a1 u.aA.length c1,.slice a2 u.aD.length c2,.slice a3 u.aE.length c3,.slice a4 u.aB.length c4,.slice a5 u.aC.length c5] 29);have MU:Hid (((V.alloc (.cells #[.slice a1 u.aA.length c1,.slice a2 u.aD.length c2,.slice a3 u.aE.length c3,.slice a4 u.aB.length c4,.slice a5 u.aC.length c5] 29)).alloc (.cells #[.int .i64 6,.int .i64 0,.int .i64 (k:Int)] 62)).cell? ⟨V.heap.size,2,none⟩=some (.slice a3 u.aE.length c3)):=aH (((Gr.refl _).alloc _:Gr _ _).cell (by rw [aJ D4];rfl) Q6);have R8:(V.alloc (.cells #[.slice a1 u.aA.length c1,.slice a2 u.aD.length c2,.slice a3 u.aE.length c3,.slice a4 u.aB.length c4,.slice a5 u.aC.length c5] 29)).heap.size=V.heap.size+1:=Q6
 rw [R8] at HY;have Nk:((V.alloc (.cells #[.slice a1 u.aA.length c1,.slice a2 u.aD.length c2,.slice a3 u.aE.length c3,.slice a4 u.aB.length c4,.slice a5 u.aC.length c5] 29)).alloc (.cells #[.int .i64 6,.int .i64 0,.int .i64 (k:Int)] 62)).heap.size=V.heap.size+2:=Q6
 clear hI hR hu hc5 R8 hM Pd D4 N2 Im;go_enter Tryz.func122,Tryz.ntmps122
 go_wp2_with fail
 generalize (V.alloc (.cells #[.slice a1 u.aA.length c1,.slice a2 u.aD.length c2,.slice a3 u.aE.length c3,.slice a4 u.aB.length c4,.slice a5 u.aC.length c5] 29)).alloc (.cells #[.int .i64 6,.int .i64 0,.int .i64 (k:Int)] 62)=W1 at HY F9 MU Nk |-;have DP:¬V.heap.size+1=mb:=Q5
 have X':¬V.heap.size=mb:=Q5
 obtain ⟨yb,Mx⟩:∃yb,V.heap.size+1=yb:=⟨_,rfl⟩;rw [Mx] at HY DP |-;generalize Ft:V.heap.size=ub at X' MU |-;have Ig:=aH (And.intro Mx (And.intro Ft Nk));clear Mx Ft Nk;generalize NU:h_ 0 (l.take k) (fun _=>none)=N0 at HM ZO;generalize Jm:eh l k=S0 at HSS |-;have Zh:Hid (∀s,s∈S0↔(N0 s).isSome=true):=aH (by rw [<-NU,<-Jm];exact HI.out.sn);generalize PU:dy l k=F0 at hah HAS ZO;have QU:=aH (And.intro NU (And.intro Jm PU));clear NU Jm PU;go_loopw [13] (fun i wr=>∃(j:Nat) (S':List (List UInt8)) (N':List UInt8->Option (aO×Int)),i=.int .i64 (j:Int)/\j<=u.aC.length/\fR S0 u.aC=fR S' (u.aC.drop j)/\rS u F0 u.aC N0=rS u F0 (u.aC.drop j) N'/\(∀s,s∈S'↔(N' s).isSome=true)/\iq W wr mb (n0+j) N'/\W1.grownBy wr (some mb)) (fun i _=>u.aC.length - (intOf i).toNat)
 case atStart=>exact ⟨0,S0,N0,rfl,Nat.zero_le _,rfl,rfl,Zh.out,HM.out.gr F9.out,tU (Gr.refl _)⟩
 case round=>
  obtain ⟨j,S',N',rfl,hj,hS,hN,hSN,hMw,M3⟩:=hrel;have HS:=aH hS;have HN:=aH hN;have EP:=aH hSN;have FP:=aH hMw;have C6:=aH M3;have S8:Hid (Gr W wr):=aH (wG (HI.out.gr.trans F9.out) M3 HI.out.mb0);have cn:=M3.cell (F9.out.cell HI.out.cn Q6) (by simp;exact HI.out.nm);have cu:=M3.cell MU.out (by simp;exact X');have cf:=M3.cell (F9.out.cell HI.out.cf Q6) (by simp;exact HI.out.fm);rw [QU.out.2.2] at cf;have HYw:Hid (zK wr yb 6 (k:Int)):=aH ⟨M3.cell HY.out.1 (by simp;exact DP),M3.cell HY.out.2.1 (by simp;exact DP),M3.cell HY.out.2.2 (by simp;exact DP)⟩;clear hS hN hSN hMw;by_cases J0:j < u.aC.length
  · obtain ⟨x,hx⟩:=aX J0;obtain ⟨b,off,vs,rfl,k0,k1,⟨s,rfl,hs,R0⟩⟩:=HC.out j x hx;have FG:=Xu.out x (List.mem_of_getElem? hx);obtain ⟨q,hq⟩:∃q:Nat,x.func=(q:Int):=⟨x.func.toNat,Q5⟩;rw [hq] at k1 FG;have Nj:(q:Int) < (u.aE.length:Int):=FG.2;have Rq:q < u.aE.length:=by omega
    obtain ⟨g,IP⟩:=aX Rq;obtain ⟨Jh,X6,vp,vl,vc,rfl,f0,f1,f2,f3,rp,rl,rc⟩:=P6.out q g IP;obtain ⟨pp,pc,rfl⟩:=rp.shape;obtain ⟨lp,lc,rfl⟩:=rl.shape;obtain ⟨xp,xc,rfl⟩:=rc.shape;have Oj:=aH (World.block_lt_of_cell? W _ f0);have HTV:Hid (zl W (.agg #[.slice pp g.aF.length pc,.int .i64 g.result,.slice lp g.aG.length lc,.slice xp g.code.length xc,.int .i64 ((F0:Int)+(q:Int))]) g ((F0:Int)+(q:Int))):=aH ⟨_,_,_,_,_,_,_,_,rfl,rp⟩;have k0:=S8.out.cell k0 Q6;have k1:=S8.out.cell k1 Q6;have HF:=aH (And.intro (S8.out.cell f0 Q6) (And.intro (S8.out.cell f1 Q6) (And.intro (S8.out.cell f2 Q6) (S8.out.cell f3 Q6))));have T8:(j:Int) < (u.aC.length:Int):=Q5
    have hw:IntKind.i64.wrap ((j:Int)+1)=(j:Int)+1:=Q_;have hwf:IntKind.i64.wrap ((F0:Int)+(q:Int))=(F0:Int)+(q:Int):=Q_;have hga:=(Gr.refl wr).alloc (.cells #[.string s,.int .i64 (q:Int)] 60);have Pc:=aH (heap_alloc_new wr (.cells #[.string s,.int .i64 (q:Int)] 60));have cn2:=hga.cell cn Q6;have HD:Hid (u.aC.drop j=x :: u.aC.drop (j+1)):=aH (by
     rw [List.drop_eq_getElem_cons J0];have:u.aC[j]=x:=by rw [List.getElem?_eq_getElem J0] at hx;exact Option.some.inj hx
     rw [this])
    clear rp rl rc f0 f1 f2 f3 hx;rcases FP.out.find s R0 with ⟨e1,e2,_⟩|⟨g',kk,v,e1,e2,e3,_⟩
    · have Oc:=e2 _ hga;have Cd:=hga.alloc (.cells #[.slice none 0 0,.int .i64 0,.slice none 0 0,.slice none 0 0,.int .i64 0] 205);obtain ⟨y0,y1,y2⟩:=HYw.out.gr Cd;have RU:Hid (¬x.name∈S'):=aH (fun c=>by rw [EP.out,<-hs,e1] at c;cases c);have Tb:=aH Cd;have SU:=aH hs;have HHZ:=aH R0;have HQ:=aH hq;have HGQ:=aH IP;have Ci:Hid (Gr (wr.alloc (.cells #[.string s,.int .i64 (q:Int)] 60)) ((wr.alloc (.cells #[.string s,.int .i64 (q:Int)] 60)).alloc (.cells #[.slice none 0 0,.int .i64 0,.slice none 0 0,.slice none 0 0,.int .i64 0] 205))):=aH ((Gr.refl _).alloc _);have HCW:=aH (And.intro cn (And.intro cu cf));unfold me at Oc;clear e1 e2 hs R0 hga Cd hq IP M3 cn cu cf;go_wp2_with fail
      refine (aP _ _ _).mono ?_;rintro z w3 ⟨rfl,P0⟩;have KS:Hid (∀w',Gr w3 w'->w'.cell? ⟨nb,0,none⟩=some (.map (some mb))/\w'.cell? ⟨ub,2,none⟩=some (.slice (some ⟨Jh,X6,none⟩) u.aE.length c3)/\w'.cell? ⟨fb,0,none⟩=some (.int .i64 (F0:Int))/\w'.cell? ⟨wr.heap.size,0,none⟩=some (.string s)/\w'.cell? ⟨wr.heap.size,1,none⟩=some (.int .i64 (q:Int))/\w'.cell? ⟨Jh,X6+q * 4,none⟩=some (.slice pp g.aF.length pc)/\w'.cell? ⟨Jh,X6+q * 4+1,none⟩=some (.int .i64 g.result)/\w'.cell? ⟨Jh,X6+q * 4+2,none⟩=some (.slice lp g.aG.length lc)/\w'.cell? ⟨Jh,X6+q * 4+3,none⟩=some (.slice xp g.code.length xc)):=aH (fun w' g=>by
       have g0:=P0.trans g;have g1:=Tb.out.trans g0;have e0:w'.heap[wr.heap.size]? =_:=((Ci.out.trans g0).block wr.heap.size Q6 Q6).trans Pc.out;obtain ⟨p1,p2,p3⟩:=HCW.out;obtain ⟨f0,f1,f2,f3⟩:=HF.out;exact ⟨g1.cell p1 Q6,g1.cell p2 Q6,g1.cell p3 Q6,by rw [aJ e0];rfl,by rw [aJ e0];rfl,g1.cell f0 Q6,g1.cell f1 Q6,g1.cell f2 Q6,g1.cell f3 Q6⟩)
      obtain ⟨w5,T0,Di,P1⟩:=((FP.out.gr (Tb.out.trans P0)).gr (Gr.drew (Gr.refl w3))).put s HHZ.out Q5 HTV.out;have GG:=aH Di;have T5:=aH (nI C6.out (nI (tU ((Tb.out.trans P0).trans (Gr.drew (Gr.refl w3)))) P1));have KS5:Hid (w5.cell? ⟨nb,0,none⟩=some (.map (some mb))/\w5.cell? ⟨ub,2,none⟩=some (.slice (some ⟨Jh,X6,none⟩) u.aE.length c3)/\w5.cell? ⟨fb,0,none⟩=some (.int .i64 (F0:Int))/\w5.cell? ⟨wr.heap.size,0,none⟩=some (.string s)/\w5.cell? ⟨wr.heap.size,1,none⟩=some (.int .i64 (q:Int))/\w5.cell? ⟨Jh,X6+q * 4,none⟩=some (.slice pp g.aF.length pc)/\w5.cell? ⟨Jh,X6+q * 4+1,none⟩=some (.int .i64 g.result)/\w5.cell? ⟨Jh,X6+q * 4+2,none⟩=some (.slice lp g.aG.length lc)/\w5.cell? ⟨Jh,X6+q * 4+3,none⟩=some (.slice xp g.code.length xc)):=aH (by
       obtain ⟨q1,q2,q3,q4,q5,q6,q7,q8,q9⟩:=KS.out _ (Gr.drew (Gr.refl w3));have O':¬Jh=mb:=by have:=Oj.out;have:=HI.out.mb0;omega
       have hbw:¬wr.heap.size=mb:=by have:=FP.out.lt;omega
       exact ⟨P1.cell q1 (by simp;exact HI.out.nm),P1.cell q2 (by simp;exact X'),P1.cell q3 (by simp;exact HI.out.fm),P1.cell q4 (by simp;exact hbw),P1.cell q5 (by simp;exact hbw),P1.cell q6 (by simp;exact O'),P1.cell q7 (by simp;exact O'),P1.cell q8 (by simp;exact O'),P1.cell q9 (by simp;exact O')⟩)
      clear P0 Oc y0 y1 y2 k0 k1 Tb Di Ci HCW HF;go_upto_region 6 with fail
      refine wp_region_held_drew (S:=(fun w'=>w'.cell? ⟨nb,0,none⟩=some (.map (some mb))/\w'.cell? ⟨ub,2,none⟩=some (.slice (some ⟨Jh,X6,none⟩) u.aE.length c3)/\w'.cell? ⟨fb,0,none⟩=some (.int .i64 (F0:Int))/\w'.cell? ⟨wr.heap.size,0,none⟩=some (.string s)/\w'.cell? ⟨wr.heap.size,1,none⟩=some (.int .i64 (q:Int))/\w'.cell? ⟨Jh,X6+q * 4,none⟩=some (.slice pp g.aF.length pc)/\w'.cell? ⟨Jh,X6+q * 4+1,none⟩=some (.int .i64 g.result)/\w'.cell? ⟨Jh,X6+q * 4+2,none⟩=some (.slice lp g.aG.length lc)/\w'.cell? ⟨Jh,X6+q * 4+3,none⟩=some (.slice xp g.code.length xc))) Q7 (KS.out _ (Gr.drew (Gr.refl _))) (fun hH=>?_);refine tL 0 ?_;simp only [Act.put,sA,s0,s1];refine tL 1 ?_;simp only [Act.put,sA,s0,s1];refine tL 2 ?_;simp only [Act.put,sA,s0,s1];refine tL 3 ?_;simp only [Act.put,sA,s0,s1];refine tL 4 ?_;simp only [Act.put,sA,s0,s1];refine tL 5 ?_;simp only [Act.put,sA,s0,s1];refine tL 6 ?_;simp only [Act.put,sA,s0,s1];refine tL 7 ?_;simp only [Act.put,sA,s0,s1];refine tL 8 ?_;simp only [Act.put,sA,s0,s1];refine tL 9 ?_;simp only [Act.put,sA,s0,s1];refine tL 10 ?_;simp only [Act.put,sA,s0,s1];refine tL 11 ?_;simp only [Act.put,sA,s0,s1];refine tL 12 ?_;simp only [Act.put,sA,s0,s1];refine tL 13 ?_;simp only [Act.put,sA,s0,s1];refine aq (i:=14) rfl Q7 (fun K hK=>?_);refine ae cw ?_;go_simp
      refine hK.out _ _ (KS5.out) (fun hH=>?_);clear hK;try simp only [Act.put,sA,s0,s1]
      refine wpAnyH_done Q7 ?_ _;clear KS T0 hH Pc P1 KS5;go_wp2_with fail
      refine ⟨⟨j+1,x.name :: S',_,Q6,J0,?_,?_,?_,GG.out,T5.out⟩,by simp [intOf];omega⟩
      · rw [HS.out,HD.out,fR,if_neg RU.out]
      · rw [HN.out,HD.out,rS];congr 1
        funext y
        rw [HQ.out,Int.toNat_natCast,HGQ.out,SU.out];rfl
      · intro y;rw [List.mem_cons,EP.out];by_cases e:y=x.name
        · simp [e,SU.out]
        · simp [e,SU.out]
    · obtain ⟨tp,tcp,tl,Zs,Ct,tc,Dt,Et,rfl,_⟩:=e2;have Oc:=e3 _ hga;have Cd:=hga.alloc (.cells #[.slice tp g'.aF.length tcp,.int .i64 g'.result,.slice tl Zs Ct,.slice tc Dt Et,.int .i64 kk] 205);obtain ⟨y0,y1,y2⟩:=HYw.out.gr Cd;have RU:Hid (x.name∈S'):=aH (by rw [EP.out,<-hs,e1];rfl);have Tb:=aH Cd;clear e1 e3 hs R0 hga Cd hq IP M3 cf cu;go_wp2_with fail
      refine (aV _ _ _).mono ?_;rintro z w3 ⟨rfl,P0⟩;refine ⟨rfl,.inr ⟨?_,rfl,?_⟩⟩
      · show (fR (eh l k) u.aC).isNone=true
        rw [QU.out.2.1,HS.out,HD.out,fR,if_pos RU.out];rfl
      · exact S8.out.trans (Tb.out.trans P0)
  · have Xn:j=u.aC.length:=by omega
    subst Xn;have Vb:Hid (fR S0 u.aC=some S'):=aH (by rw [HS.out,List.drop_length];rfl);have Jf:Hid (rS u F0 u.aC N0=N'):=aH (by rw [HN.out,List.drop_length];rfl);have hzf:wr.frozen? ⟨fb,0,none⟩=false:=(World.frozen?_of_block (a:=⟨fb,0,none⟩) ((M3.block fb (by have:=F9.out.size;omega) (by simp;exact HI.out.fm)).trans (F9.out.block fb hfV Q6))).trans HI.out.zf;have hwf:IntKind.i64.wrap ((F0:Int)+(u.aE.length:Int))=(F0:Int)+(u.aE.length:Int):=Q_;have IU:=aH cf;have TU:=aH cn;have HZF:=aH hzf;clear J0 hj M3 cn;go_wp2_with fail
    go_end0
    refine .inl ⟨by rw [QU.out.2.1,Vb.out];rfl,rfl,?_⟩;refine ⟨lP S8.out HI.out.fb0,HI.out.nb0,HI.out.fb0,HI.out.mb0,HI.out.nf,HI.out.nm,HI.out.fm,?_,?_,?_,?_,?_⟩
    · rw [World.cell?_setCell_other _ _ _ _ (by intro e;simp only [Addr.mk.injEq] at e;exact HI.out.nf e.1.symm)];exact TU.out
    · rw [World.cell?_setCell_same _ _ _ IU.out,HAS.out];simp
    · rw [World.frozen?_setCell];exact HZF.out
    · refine ⟨n0+u.aC.length,Q5,?_⟩;rw [ZO.out,Jf.out];exact FP.out.kept (Below.heap_setCell _ _ _ _ (by show mb≠fb;exact fun e=>HI.out.fm e.symm))
    · rw [ZO.out,Jf.out,HSS.out S' Vb.out];exact EP.out
def B9(W:World)(l:List aK)(x:Ending)(w':World):Prop:=Gr W w'/\match ji [] 0 l with
 | none=>∃mb n,x=.returned (.map (some mb))/\iq W w' mb n (h_ 0 l fun _=>none)
 | some k=>x=.panicked (dM 6 (k:Int))
theorem Tryz.callExp1(vu vr v1 v2:Value)(w:World):(callFunc 122 (#[]++(#[vu,vr]++#[v1,v2]))).run Tryz.prog w=.ok (.enter 122 (#[]++(#[vu,vr]++#[v1,v2]))) w:=Q7
theorem Tryz.mkMapT(w:World):(Instr.makeMap 155 none).run Tryz.prog w=.ok (.map (some w.heap.size)) (w.alloc (.map #[] 0)):=Q7
theorem oo(W:World)(l:List aK)(vl:Value)(hR:eS W vl l)(G9:l.length<=6)(N2:∀u∈l,ai u=true):
 Calls Tryz.prog 84 #[vl] W (B9 W l):=by
 have Kf:∀(fn:Fn) (first cap:Array Value) (w:World),(Instr.makeFunc fn first cap).run Tryz.prog w=.ok (.func fn first cap) w:=fun _ _ _ _=>rfl
 obtain ⟨al,cl,rfl⟩:=hR.shape;have HR:=aH hR;have M8:=aH N2;clear hR N2;have VU:=fun (w:World)=>Tryz.mkMapT w
 go_enter Tryz.func84,Tryz.ntmps84
 go_wp2_with fail
 have g1:=(((Gr.refl W).alloc (.map #[] 0)).alloc (.cells #[.map (some W.heap.size)] 155)).alloc (.cells #[.int .i64 0] 3);have hI0:Bk W (W.heap.size+1) (W.heap.size+1+1) W.heap.size l 0 (((W.alloc (.map #[] 0)).alloc (.cells #[.map (some W.heap.size)] 155)).alloc (.cells #[.int .i64 0] 3)):=by
  have h0:=heap_alloc_new W (.map #[] 0);have h1:=heap_alloc_new (W.alloc (.map #[] 0)) (.cells #[.map (some W.heap.size)] 155);have h2:=heap_alloc_new ((W.alloc (.map #[] 0)).alloc (.cells #[.map (some W.heap.size)] 155)) (.cells #[.int .i64 0] 3);have s1:(W.alloc (.map #[] 0)).heap.size=W.heap.size+1:=Q6
  have s2:((W.alloc (.map #[] 0)).alloc (.cells #[.map (some W.heap.size)] 155)).heap.size=W.heap.size+1+1:=Q6
  rw [s1] at h1;rw [s2] at h2;have ga:=(Gr.refl ((W.alloc (.map #[] 0)).alloc (.cells #[.map (some W.heap.size)] 155))).alloc (.cells #[.int .i64 0] 3);have gb:=(Gr.refl (W.alloc (.map #[] 0))).alloc (.cells #[.map (some W.heap.size)] 155);refine ⟨g1,Q5,Q5,Q5,Q5,Q5,Q5,ga.cell (by rw [aJ h1];rfl) Q6,?_,?_,⟨0,Q5,⟨fun _=>none,(kB.made W).kept ?_,fun s=>.inl ⟨rfl,rfl⟩⟩⟩,fun s=>by simp [eh,h_]⟩
  · rw [aJ h2];simp [dy]
  · exact aS h2
  · exact (gb.trans ga).block _ (by rw [s1];omega) Q6
 have WU:=aH (lx l l.length 0 Q5);refine (jd 122 #[] #[.pointer (some ⟨W.heap.size+1,0,none⟩),.pointer (some ⟨W.heap.size+1+1,0,none⟩)] (fun vu vr w=>Tryz.callExp1 vu vr _ _ w) 6 l (.slice al l.length cl) _ _ _ W _ HR.out (fun k V h=>h.gr) (fun k V V' h g=>h.step g) hI0 (ue W l _ _ _ G9 M8.out) Q5 ⟨_,_,rfl⟩).mono ?_;intro x w2 hx;rw [List.drop_zero] at WU;rw [WU.out] at hx;have e0:eh l 0= []:=rfl;rw [e0] at hx;cases hp:ji [] 0 l with
 | none=>
  rw [hp] at hx;obtain ⟨rfl,hI⟩:=hx;obtain ⟨n,_,hm⟩:=hI.mp;rw [List.take_length] at hm;have HM:=aH hm;have HG:=aH hI.gr;have cn:=hI.cn;have HP:=aH hp;clear hI hI0 hm hp WU g1 VU Kf;go_wp2_with fail
  go_ret
  refine ⟨HG.out,?_⟩;rw [HP.out];exact ⟨_,n,rfl,HM.out⟩
 | some k=>
  rw [hp] at hx;obtain ⟨rfl,hb⟩:=hx;refine ⟨rfl,hb,?_⟩;rw [hp]
end Go.Proofs.YtkgncijcnlfhiabGreat
