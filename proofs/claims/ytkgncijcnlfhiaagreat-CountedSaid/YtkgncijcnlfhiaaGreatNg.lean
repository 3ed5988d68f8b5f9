import Derived.Test.YtkgncijcnlfhiaaGreatNd
import Derived.Deep.Cut
import Derived.Deep.CutRange
namespace Go.Proofs.YtkgncijcnlfhiaaGreat
set_option maxRecDepth 100000
set_option maxHeartbeats 4000000
set_option linter.unusedVariables false
set_option linter.unusedSimpArgs false
open Go.RowKit
attribute [local go_sem ↓] Go.wp_at_zero Go.wp_at_succ
def rR(w:World)(v:Value)(g:aO)(k:Int):Prop:=∃ap cp al nl cl ac nc cc,v=.agg #[.slice ap g.aF.length cp,.int .i64 g.result,.slice al nl cl,.slice ac nc cc,.int .i64 k]∧aX w (.slice ap g.aF.length cp) g.aF
theorem rR.gr{w w':World}{v:Value}{g:aO}{k:Int}(h:rR w v g k)(hg:Gr w w'):rR w' v g k:=by
 obtain ⟨ap,cp,al,nl,cl,ac,nc,cc,e,r⟩:=h;exact ⟨ap,cp,al,nl,cl,ac,nc,cc,e,r.gr hg⟩
def g8(W w:World)(b n:Nat)(N:List UInt8→Option (aO×Int)):Prop:=∃m,iH w b n m∧∀s,(N s=none∧m s=none)∨∃g k v,N s=some (g,k)∧m s=some v∧rR W v g k
theorem g8.lt{W w:World}{b n:Nat}{N:List UInt8→Option (aO×Int)}(h:g8 W w b n N):b < w.heap.size:=by
 obtain ⟨m,h1,_⟩:=h;exact h1.lt
theorem g8.kept{W w w':World}{b n:Nat}{N:List UInt8→Option (aO×Int)}(h:g8 W w b n N)(g:w'.heap[b]? =w.heap[b]?):g8 W w' b n N:=by
 obtain ⟨m,h1,h2⟩:=h;exact ⟨m,h1.kept g,h2⟩
theorem g8.gr{W w w':World}{b n:Nat}{N:List UInt8→Option (aO×Int)}(h:g8 W w b n N)(hg:Gr w w'):g8 W w' b n N:=h.kept (hg.block b h.lt (by simp))
theorem g8.find{W w:World}{b n:Nat}{N:List UInt8→Option (aO×Int)}(h:g8 W w b n N)(s:ByteArray)(hs:s.size≤maxLen):
 (N s.data.toList=none∧(∀w',Gr w w'→(Instr.lookup 85 (.map (some b)) (.string s) true).run Tryz.prog w'=.ok (.tuple #[lM,.bool false]) w')∧∀w',Gr w w'→(Instr.lookup 85 (.map (some b)) (.string s) false).run Tryz.prog w'=.ok lM w')∨
 ∃g k v,N s.data.toList=some (g,k)∧rR W v g k∧(∀w',Gr w w'→(Instr.lookup 85 (.map (some b)) (.string s) true).run Tryz.prog w'=.ok (.tuple #[v,.bool true]) w')∧∀w',Gr w w'→(Instr.lookup 85 (.map (some b)) (.string s) false).run Tryz.prog w'=.ok v w':=by
 have hl:=h.lt;obtain ⟨m,h1,h2⟩:=h;rcases h2 s.data.toList with ⟨e1,e2⟩|⟨g,k,v,e1,e2,e3⟩
 · refine .inl ⟨e1,fun w' hg=>?_,fun w' hg=>?_⟩
   · have:=(h1.kept (hg.block b hl (by simp))).look s hs
     rw [e2] at this;exact this
   · have:=(h1.kept (hg.block b hl (by simp))).look1 s hs
     rw [e2] at this;exact this
 · refine .inr ⟨g,k,v,e1,e3,fun w' hg=>?_,fun w' hg=>?_⟩
   · have:=(h1.kept (hg.block b hl (by simp))).look s hs
     rw [e2] at this;exact this
   · have:=(h1.kept (hg.block b hl (by simp))).look1 s hs
     rw [e2] at this;exact this
theorem qQ{α:Type}{p:α→Bool}{l:List α}{j:Nat}{x:α}(hx:l[j]? =some x)(hp:p x=true):l.any p=true:=by
 rw [List.any_eq_true];exact ⟨x,List.mem_of_getElem? hx,hp⟩
theorem oO{α:Type}{p:α→Bool}{l:List α}(h:∀m x,m < l.length→l[m]? =some x→p x=false):l.any p=false:=by
 rw [Bool.eq_false_iff];intro c;rw [List.any_eq_true] at c;obtain ⟨x,hx,hp⟩:=c;obtain ⟨m,hm,rfl⟩:=List.getElem_of_mem hx;rw [h m _ hm (List.getElem?_eq_getElem hm)] at hp;cases hp
def xY(w:World)(b:Nat)(e k:Int):Prop:=w.cell? ⟨b,0,none⟩=some (.int .i64 e)∧w.cell? ⟨b,1,none⟩=some (.int .i64 0)∧w.cell? ⟨b,2,none⟩=some (.int .i64 k)
theorem xY.gr{w w':World}{b:Nat}{e k:Int}(h:xY w b e k)(g:Gr w w'):xY w' b e k:=⟨g.cell h.1 (by simp),g.cell h.2.1 (by simp),g.cell h.2.2 (by simp)⟩
theorem xY.new(w:World)(e k:Int)(t:TypeId):xY (w.alloc (.cells #[.int .i64 e,.int .i64 0,.int .i64 k] t)) w.heap.size e k:=by
 have h:=heap_alloc_new w (.cells #[.int .i64 e,.int .i64 0,.int .i64 k] t);exact ⟨by rw [aI h];rfl,by rw [aI h];rfl,by rw [aI h];rfl⟩
theorem tI(W:World)(l:List aK)(mb n:Nat)(N:List UInt8→Option (aO×Int))(W0:World)(hW0:Gr W0 W)(hM:g8 W0 W mb n N):
 tV W 38 #[.map (some mb)] #[] 7 l (fun _ u=>u.aB.any fun i=>!(N i.name).isSome) (fun _ V=>Gr W V) (fun V=>Gr W V):=by
 intro k u V vu hu hg hR;show Calls Tryz.prog 38 #[.map (some mb),vu,.agg #[.int .i64 7,.int .i64 0,.int .i64 (k:Int)]] V _
 obtain ⟨a1,a2,a3,a4,a5,c1,c2,c3,c4,c5,rfl,_,_,_,r4,_⟩:=(hR.gr hg).parts;obtain ⟨ao,cap,he,hm4,hc4⟩:=r4;simp only [Value.slice.injEq,true_and] at he;obtain ⟨rfl,rfl⟩:=he;have HC:=aH hc4;have HM:=aH (hM.gr hg);have HG:=aH hg;unfold maxLen at hm4;have HY:=aH (xY.new (V.alloc (.cells #[.slice a1 u.aA.length c1,.slice a2 u.aD.length c2,.slice a3 u.aE.length c3,.slice a4 u.aB.length c4,.slice a5 u.aC.length c5] 33)) 7 (k:Int) 58);have HGV:=aH (((Gr.refl V).alloc (.cells #[.slice a1 u.aA.length c1,.slice a2 u.aD.length c2,.slice a3 u.aE.length c3,.slice a4 u.aB.length c4,.slice a5 u.aC.length c5] 33)).alloc (.cells #[.int .i64 7,.int .i64 0,.int .i64 (k:Int)] 58));have hbb:(V.alloc (.cells #[.slice a1 u.aA.length c1,.slice a2 u.aD.length c2,.slice a3 u.aE.length c3,.slice a4 u.aB.length c4,.slice a5 u.aC.length c5] 33)).heap.size=V.heap.size+1:=by simp
 rw [hbb] at HY;clear hM hg hR hu hc4 hbb hW0;go_enter Tryz.func38,Tryz.ntmps38
 go_wp2_with fail
 generalize (V.alloc (.cells #[.slice a1 u.aA.length c1,.slice a2 u.aD.length c2,.slice a3 u.aE.length c3,.slice a4 u.aB.length c4,.slice a5 u.aC.length c5] 33)).alloc (.cells #[.int .i64 7,.int .i64 0,.int .i64 (k:Int)] 58)=W1 at HY HGV ⊢;generalize V.heap.size+1=yb at HY ⊢;go_loopw [13] (fun i wr=>∃j:Nat,i=.int .i64 (j:Int)∧j≤u.aB.length∧(∀m x,m < j→u.aB[m]? =some x→(N x.name).isSome=true)∧Gr W1 wr) (fun i _=>u.aB.length - (intOf i).toNat)
 case atStart=>exact ⟨0,rfl,Nat.zero_le _,fun m x hm=>by omega,Gr.refl _⟩
 case round=>
  obtain ⟨j,rfl,hj,hall,hgr⟩:=hrel;have HA:=aH hall;have HGR:=aH hgr;clear hall hgr;by_cases hlt:j < u.aB.length
  · obtain ⟨x,hx⟩:=aY hlt;obtain ⟨b,off,vs,vp,rfl,k0,k1,k2,⟨s,rfl,hs,hsz⟩,rp⟩:=HC.out j x hx;obtain ⟨ap,cp,rfl⟩:=rp.shape;have g1:=HGV.out.trans HGR.out;have k0:=g1.cell k0 (by simp);have k1:=g1.cell k1 (by simp);have k2:=g1.cell k2 (by simp);have hji:(j:Int) < (u.aB.length:Int):=by omega
    have hw:IntKind.i64.wrap ((j:Int)+1)=(j:Int)+1:=Go.IntWalk.i64_in _ (by omega);have HX:=aH hx;have hga:=(Gr.refl wr).alloc (.cells #[.string s,.slice ap x.aF.length cp,.int .i64 x.result] 53);rcases (HM.out.gr g1).find s hsz with ⟨e1,e2,_⟩|⟨g,kk,v,e1,e2,e3,_⟩
    · have hlk:=e2 _ hga;have hgb:=hga.alloc (.cells #[.slice none 0 0,.int .i64 0,.slice none 0 0,.slice none 0 0,.int .i64 0] 126);obtain ⟨y0,y1,y2⟩:=(HY.out.gr HGR.out).gr hgb;have HN:Hid ((N x.name).isSome=false):=aH (by rw [←hs,e1];rfl);have HGB:=aH hgb;unfold lM at hlk;clear e1 e2 hs hsz rp hx hga hgb g1;go_wp2_with fail
      refine (aV _ _ _).mono ?_;rintro z w3 ⟨rfl,hg3⟩;refine ⟨rfl,.inr ⟨?_,rfl,?_⟩⟩
      · exact qQ HX.out (by rw [HN.out];rfl)
      · exact HG.out.trans (HGV.out.trans (HGR.out.trans (HGB.out.trans hg3)))
    · obtain ⟨tp,tcp,tl,tnl,tcl,tc,tnc,tcc,rfl,_⟩:=e2;have hlk:=e3 _ hga;have hgb:=hga.alloc (.cells #[.slice tp g.aF.length tcp,.int .i64 g.result,.slice tl tnl tcl,.slice tc tnc tcc,.int .i64 kk] 126);obtain ⟨y0,y1,y2⟩:=(HY.out.gr HGR.out).gr hgb;have HN:Hid ((N x.name).isSome=true):=aH (by rw [←hs,e1];rfl);have HGB:=aH hgb;clear e1 e3 hs hsz rp hx hga hgb g1;go_wp2_with fail
      refine (aP _ _ _).mono ?_;rintro z w3 ⟨rfl,hg3⟩;have HG3:=aH (HGR.out.trans (HGB.out.trans hg3));clear hg3 hlk y0 y1 y2 k0 k1 k2 HGB;go_wp2_with fail
      refine ⟨⟨j+1,by simp,hlt,?_,HG3.out⟩,by simp [intOf];omega⟩;intro m z hm hz;by_cases e:m=j
      · subst e;rw [HX.out] at hz;cases hz;exact HN.out
      · exact HA.out m z (by omega) hz
  · have hjj:j=u.aB.length:=by omega
    subst hjj;clear hlt hj;go_wp2_with fail
    go_end0
    refine .inl ⟨?_,rfl,HG.out.trans (HGV.out.trans HGR.out)⟩;exact oO (fun m x hm hx=>by rw [HA.out m x hm hx];rfl)
open Go.RowKit
attribute [local go_sem ↓] Go.wp_at_zero Go.wp_at_succ
theorem Tryz.tgtF(a b c d e:Value)(w:World):(Instr.field 126 (.agg #[a,b,c,d,e]) 0).run Tryz.prog w=.ok (.agg #[a,b,c,d]) w:=by kernel_rfl
theorem Tryz.tgtN(a b c d e:Value)(w:World):(Instr.field 126 (.agg #[a,b,c,d,e]) 1).run Tryz.prog w=.ok e w:=by kernel_rfl
theorem tF(W:World)(l:List aK)(mb n:Nat)(N:List UInt8→Option (aO×Int))(W0:World)(hW0:Gr W0 W)(hM:g8 W0 W mb n N)(hN:∀u∈l,∀i∈u.aB,(N i.name).isSome=true):
 tV W 39 #[.map (some mb)] #[] 8 l (fun _ u=>u.aB.any fun i=>!iW N i) (fun _ V=>Gr W V) (fun V=>Gr W V):=by
 intro k u V vu hu hg hR;show Calls Tryz.prog 39 #[.map (some mb),vu,.agg #[.int .i64 8,.int .i64 0,.int .i64 (k:Int)]] V _
 obtain ⟨a1,a2,a3,a4,a5,c1,c2,c3,c4,c5,rfl,_,_,_,r4,_⟩:=(hR.gr hg).parts;obtain ⟨ao,cap,he,hm4,hc4⟩:=r4;simp only [Value.slice.injEq,true_and] at he;obtain ⟨rfl,rfl⟩:=he;have HC:=aH hc4;have HM:=aH (hM.gr hg);have HG:=aH hg;have HW0:=aH (hW0.trans hg);have HNN:=aH (hN u (List.mem_of_getElem? hu));unfold maxLen at hm4;have HY:=aH (xY.new (V.alloc (.cells #[.slice a1 u.aA.length c1,.slice a2 u.aD.length c2,.slice a3 u.aE.length c3,.slice a4 u.aB.length c4,.slice a5 u.aC.length c5] 33)) 8 (k:Int) 58);have HGV:=aH (((Gr.refl V).alloc (.cells #[.slice a1 u.aA.length c1,.slice a2 u.aD.length c2,.slice a3 u.aE.length c3,.slice a4 u.aB.length c4,.slice a5 u.aC.length c5] 33)).alloc (.cells #[.int .i64 8,.int .i64 0,.int .i64 (k:Int)] 58));have hbb:(V.alloc (.cells #[.slice a1 u.aA.length c1,.slice a2 u.aD.length c2,.slice a3 u.aE.length c3,.slice a4 u.aB.length c4,.slice a5 u.aC.length c5] 33)).heap.size=V.heap.size+1:=by simp
 rw [hbb] at HY;clear hM hg hR hu hc4 hbb hN hW0;go_enter Tryz.func39,Tryz.ntmps39
 go_wp2_with fail
 generalize (V.alloc (.cells #[.slice a1 u.aA.length c1,.slice a2 u.aD.length c2,.slice a3 u.aE.length c3,.slice a4 u.aB.length c4,.slice a5 u.aC.length c5] 33)).alloc (.cells #[.int .i64 8,.int .i64 0,.int .i64 (k:Int)] 58)=W1 at HY HGV ⊢;generalize V.heap.size+1=yb at HY ⊢;go_loopw [12] (fun i wr=>∃j:Nat,i=.int .i64 (j:Int)∧j≤u.aB.length∧(∀m x,m < j→u.aB[m]? =some x→iW N x=true)∧Gr W1 wr) (fun i _=>u.aB.length - (intOf i).toNat)
 case atStart=>exact ⟨0,rfl,Nat.zero_le _,fun m x hm=>by omega,Gr.refl _⟩
 case round=>
  obtain ⟨j,rfl,hj,hall,hgr⟩:=hrel;have HA:=aH hall;have HGR:=aH hgr;clear hall hgr;by_cases hlt:j < u.aB.length
  · obtain ⟨x,hx⟩:=aY hlt;obtain ⟨b,off,vs,vp,rfl,k0,k1,k2,⟨s,rfl,hs,hsz⟩,rp⟩:=HC.out j x hx;obtain ⟨ap,cp,rfl⟩:=rp.shape;have g1:=HGV.out.trans HGR.out;have k0:=g1.cell k0 (by simp);have k1:=g1.cell k1 (by simp);have k2:=g1.cell k2 (by simp);have hji:(j:Int) < (u.aB.length:Int):=by omega
    have hw:IntKind.i64.wrap ((j:Int)+1)=(j:Int)+1:=Go.IntWalk.i64_in _ (by omega);have HX:=aH hx;have hga:=(Gr.refl wr).alloc (.cells #[.string s,.slice ap x.aF.length cp,.int .i64 x.result] 53);have hba:=heap_alloc_new wr (.cells #[.string s,.slice ap x.aF.length cp,.int .i64 x.result] 53);rcases (HM.out.gr g1).find s hsz with ⟨e1,_,_⟩|⟨g,kk,v,e1,e2,_,e3⟩
    · have:=HNN.out x (List.mem_of_getElem? hx)
      rw [←hs,e1] at this;cases this
    · obtain ⟨tp,tcp,tl,tnl,tcl,tc,tnc,tcc,rfl,rtp⟩:=e2;have hlk:=e3 _ hga;have hgb:=hga.alloc (.cells #[.slice tp g.aF.length tcp,.int .i64 g.result,.slice tl tnl tcl,.slice tc tnc tcc] 48);have hbb:=heap_alloc_new (wr.alloc (.cells #[.string s,.slice ap x.aF.length cp,.int .i64 x.result] 53)) (.cells #[.slice tp g.aF.length tcp,.int .i64 g.result,.slice tl tnl tcl,.slice tc tnc tcc] 48);have hsb:(wr.alloc (.cells #[.string s,.slice ap x.aF.length cp,.int .i64 x.result] 53)).heap.size=wr.heap.size+1:=by simp
      rw [hsb] at hbb;have hg2:Gr (wr.alloc (.cells #[.string s,.slice ap x.aF.length cp,.int .i64 x.result] 53)) ((wr.alloc (.cells #[.string s,.slice ap x.aF.length cp,.int .i64 x.result] 53)).alloc (.cells #[.slice tp g.aF.length tcp,.int .i64 g.result,.slice tl tnl tcl,.slice tc tnc tcc] 48)):=(Gr.refl _).alloc _;have HY2:=aH ((HY.out.gr HGR.out).gr hgb);have HN:Hid (iW N x=decide (x.aF=g.aF∧x.result=g.result)):=aH (by unfold iW;rw [←hs,e1]);have HGB:=aH hgb;have HRP:=aH ((rp.gr g1).gr hgb);have HRT:=aH (((rtp.gr HW0.out).gr g1).gr hgb);have KS:Hid (∀w',Gr ((wr.alloc (.cells #[.string s,.slice ap x.aF.length cp,.int .i64 x.result] 53)).alloc (.cells #[.slice tp g.aF.length tcp,.int .i64 g.result,.slice tl tnl tcl,.slice tc tnc tcc] 48)) w'→w'.cell? ⟨yb,0,none⟩=some (.int .i64 8)∧w'.cell? ⟨yb,1,none⟩=some (.int .i64 0)∧w'.cell? ⟨yb,2,none⟩=some (.int .i64 (k:Int))∧w'.cell? ⟨wr.heap.size,1,none⟩=some (.slice ap x.aF.length cp)∧w'.cell? ⟨wr.heap.size,2,none⟩=some (.int .i64 x.result)∧w'.cell? ⟨wr.heap.size+1,0,none⟩=some (.slice tp g.aF.length tcp)∧w'.cell? ⟨wr.heap.size+1,1,none⟩=some (.int .i64 g.result)):=aH (fun w' g=>by
       have e0:w'.heap[wr.heap.size]? =_:=((hg2.trans g).block wr.heap.size (by simp) (by simp)).trans hba;have e1:w'.heap[wr.heap.size+1]? =_:=(g.block (wr.heap.size+1) (by simp) (by simp)).trans hbb;obtain ⟨y0,y1,y2⟩:=HY2.out.gr g;exact ⟨y0,y1,y2,by rw [aI e0];rfl,by rw [aI e0];rfl,by rw [aI e1];rfl,by rw [aI e1];rfl⟩)
      clear e1 e3 hs hsz rp hx hga hgb g1 rtp hba hbb hsb hg2;have hft:=fun (a b c d e:Value) (w:World)=>Tryz.tgtF a b c d e w
      go_upto_region 5 with fail
      clear hft;generalize (wr.alloc (.cells #[.string s,.slice ap x.aF.length cp,.int .i64 x.result] 53)).alloc (.cells #[.slice tp g.aF.length tcp,.int .i64 g.result,.slice tl tnl tcl,.slice tc tnc tcc] 48)=W2 at KS HGB HRP HRT ⊢;clear hlk k0 k1 k2 HY2;refine wp_region_held_drew (S:=(fun w'=>w'.cell? ⟨yb,0,none⟩=some (.int .i64 8)∧w'.cell? ⟨yb,1,none⟩=some (.int .i64 0)∧w'.cell? ⟨yb,2,none⟩=some (.int .i64 (k:Int))∧w'.cell? ⟨wr.heap.size,1,none⟩=some (.slice ap x.aF.length cp)∧w'.cell? ⟨wr.heap.size,2,none⟩=some (.int .i64 x.result)∧w'.cell? ⟨wr.heap.size+1,0,none⟩=some (.slice tp g.aF.length tcp)∧w'.cell? ⟨wr.heap.size+1,1,none⟩=some (.int .i64 g.result))) (by kernel_rfl) (KS.out _ (Gr.drew (Gr.refl _))) (fun hH=>?_);refine tL 0 ?_;simp only [Act.put,sA,s0,s1];refine tL 1 ?_;simp only [Act.put,sA,s0,s1];refine tL 2 ?_;simp only [Act.put,sA,s0,s1];refine tL 3 ?_;simp only [Act.put,sA,s0,s1];refine tL 4 ?_;simp only [Act.put,sA,s0,s1];refine au (i:=5) rfl (by kernel_rfl) (fun K hK=>?_);refine aS rfl 36 _ _ rfl #[.slice ap x.aF.length cp,.slice tp g.aF.length tcp] (by simp [Act.eval]) (Tryz.callEqI _ _) ((BQ _ _ x.aF g.aF _ (HRP.out.gr (Gr.drew (Gr.refl _))) (HRT.out.gr (Gr.drew (Gr.refl _)))).mono ?_);rintro z w2 ⟨rfl,hg2⟩;have HG2:=aH ((Gr.drew (Gr.refl W2)).trans hg2);clear hg2;refine .inl ⟨_,rfl,?_⟩;refine hK.out _ _ (KS.out _ HG2.out) (fun hH=>?_);clear hK;try simp only [Act.put,sA,s0,s1]
      by_cases h1:x.aF=g.aF
      · have ed:decide (x.aF=g.aF)=true:=by simpa using h1
        rw [ed];clear ed;refine tL 6 ?_;simp only [Act.put,sA,s0,s1];refine tL 7 ?_;simp only [Act.put,sA,s0,s1];refine tL 8 ?_;simp only [Act.put,sA,s0,s1];refine tL 9 ?_;simp only [Act.put,sA,s0,s1];refine tL 10 ?_;simp only [Act.put,sA,s0,s1];by_cases h2:x.result=g.result
        · have ed:(x.result == g.result)=true:=by simpa using h2
          refine tL 11 ?_;simp only [Act.put,sA,s0,s1];refine tL 12 ?_;simp only [Act.put,sA,s0,s1];refine au (i:=13) rfl (by kernel_rfl) (fun K hK=>?_);refine aS rfl 32 _ _ rfl #[.agg #[.int .i64 8,.int .i64 0,.int .i64 (k:Int)],.bool true] (by simp [Act.eval,ed]) (Tryz.callUnl _ _) ((aP _ _ _).mono ?_);rintro z w3 ⟨rfl,hg3⟩;have HG4:=aH (HG2.out.trans hg3);clear hg3;refine .inl ⟨_,rfl,?_⟩;refine hK.out _ _ (KS.out _ HG4.out) (fun hH=>?_);clear hK;try simp only [Act.put,sA,s0,s1]
          refine wpAnyH_done (by kernel_rfl) ?_ _;have HG3:=aH (HGR.out.trans (HGB.out.trans HG4.out));clear KS HGB HG4 HG2 HRP HRT hH;go_wp2_with fail
          refine ⟨⟨j+1,by simp,hlt,?_,HG3.out⟩,by simp [intOf];omega⟩;intro m z hm hz;by_cases e:m=j
          · subst e;rw [HX.out] at hz;cases hz;rw [HN.out];simp [h1,h2]
          · exact HA.out m z (by omega) hz
        · have ed:(x.result == g.result)=false:=by simpa using h2
          refine tL 11 ?_;simp only [Act.put,sA,s0,s1];refine tL 12 ?_;simp only [Act.put,sA,s0,s1];refine au (i:=13) rfl (by kernel_rfl) (fun K hK=>?_);refine aS rfl 32 _ _ rfl #[.agg #[.int .i64 8,.int .i64 0,.int .i64 (k:Int)],.bool false] (by simp [Act.eval,ed]) (Tryz.callUnl _ _) ((aV _ _ _).mono ?_);rintro z w3 ⟨rfl,hg3⟩;refine .inr ⟨_,rfl,?_⟩;exact ⟨rfl,.inr ⟨qQ HX.out (by rw [HN.out];simp [h1,h2]),rfl,HG.out.trans (HGV.out.trans (HGR.out.trans (HGB.out.trans (HG2.out.trans hg3))))⟩⟩
      · have ed:decide (x.aF=g.aF)=false:=by simpa using h1
        rw [ed];clear ed;refine tL 6 ?_;simp only [Act.put,sA,s0,s1];refine eC (i:=7) rfl (by kernel_rfl) (by kernel_rfl) (by kernel_rfl) (fun _ _ _ h=>h) (by rfl) hH ?_;simp only [Act.put,sA,s0,s1];refine eC (i:=8) rfl (by kernel_rfl) (by kernel_rfl) (by kernel_rfl) (fun _ _ _ h=>h) (by rfl) hH ?_;simp only [Act.put,sA,s0,s1];refine eC (i:=9) rfl (by kernel_rfl) (by kernel_rfl) (by kernel_rfl) (fun _ _ _ h=>h) (by rfl) hH ?_;simp only [Act.put,sA,s0,s1];refine eC (i:=10) rfl (by kernel_rfl) (by kernel_rfl) (by kernel_rfl) (fun _ _ _ h=>h) (by rfl) hH ?_;simp only [Act.put,sA,s0,s1];refine eC (i:=11) rfl (by kernel_rfl) (by kernel_rfl) (by kernel_rfl) (fun _ _ _ h=>h) (by rfl) hH ?_;simp only [Act.put,sA,s0,s1];refine tL 12 ?_;simp only [Act.put,sA,s0,s1];refine au (i:=13) rfl (by kernel_rfl) (fun K hK=>?_);refine aS rfl 32 _ _ rfl #[.agg #[.int .i64 8,.int .i64 0,.int .i64 (k:Int)],.bool false] (by simp [Act.eval]) (Tryz.callUnl _ _) ((aV _ _ _).mono ?_);rintro z w3 ⟨rfl,hg3⟩;refine .inr ⟨_,rfl,?_⟩;exact ⟨rfl,.inr ⟨qQ HX.out (by rw [HN.out];simp [h1]),rfl,HG.out.trans (HGV.out.trans (HGR.out.trans (HGB.out.trans (HG2.out.trans hg3))))⟩⟩
  · have hjj:j=u.aB.length:=by omega
    subst hjj;clear hlt hj;go_wp2_with fail
    go_end0
    refine .inl ⟨?_,rfl,HG.out.trans (HGV.out.trans HGR.out)⟩;exact oO (fun m x hm hx=>by rw [HA.out m x hm hx];rfl)
open Go.RowKit
attribute [local go_sem ↓] Go.wp_at_zero Go.wp_at_succ
def eO(l:List aK):Nat→List (List UInt8)
 | 0=> []
 | k+1=>((l[k]?).bind fun u=>fC (eO l k) u.aC).getD []
theorem kt(l:List aK):∀(n k:Nat),n+k=l.length→ee (fun k u=>(fC (eO l k) u.aC).isNone) k (l.drop k)=iY (eO l k) k (l.drop k)
 | 0,k,h=>by rw [List.drop_eq_nil_of_le (by omega)];rfl
 | n+1,k,h=>by
  have hk:k < l.length:=by omega
  rw [List.drop_eq_getElem_cons hk,ee,iY];cases e:fC (eO l k) l[k].aC with
  | none=>simp
  | some s=>
   have hs:eO l (k+1)=s:=by rw [eO,List.getElem?_eq_getElem hk];simp [e]
   rw [←hs,kt l n (k+1) (by omega)];simp
theorem nD(u:aK):∀(l:List aK) (f:Nat) (N:List UInt8→Option (aO×Int)),fw f (l++ [u]) N=qE u (f+(l.map fun u=>u.aE.length).sum) u.aC (fw f l N)
 | [],f,N=>by simp [fw]
 | v :: l,f,N=>by rw [List.cons_append,fw,nD u l,fw,List.map_cons,List.sum_cons,Nat.add_assoc]
theorem uA{l:List aK}{k:Nat}{u:aK}(h:l[k]? =some u):fw 0 (l.take (k+1)) (fun _=>none)=qE u (dv l k) u.aC (fw 0 (l.take k) (fun _=>none)):=by
 obtain ⟨hk,rfl⟩:=List.getElem?_eq_some_iff.1 h;rw [List.take_succ_eq_append_getElem hk,nD];unfold dv;rw [Nat.zero_add]
theorem kb{l:List aK}(h:∀u∈l,u.aE.length≤30):∀k,dv l k≤30 * k
 | 0=>by simp [dv]
 | k+1=>by
  by_cases hk:k < l.length
  · rw [i' (List.getElem?_eq_getElem hk)];have:=kb h k
    have:=h _ (List.getElem_mem hk)
    omega
  · have e:dv l (k+1)=dv l k:=by unfold dv;rw [List.take_of_length_le (by omega),List.take_of_length_le (by omega)]
    have:=kb h k
    omega
theorem ey{u:aK}(h:ak u=true):u.aE.length≤30∧u.aD.length≤50∧u.aB.length≤20∧u.aC.length≤20∧u.aA.length≤20∧(∀e∈u.aC,0≤e.func∧e.func < (u.aE.length:Int))∧(∀f∈u.aE,f.aF.length≤6∧f.aG.length≤10∧f.code.length≤200∧f.code.all bH=true)∧∀s∈u.aA,s.length≤8:=by
 unfold ak dE cL bm b_ A9 at h;simp only [wB,Bool.and_eq_true,decide_eq_true_eq] at h;obtain ⟨⟨s1,s2⟩,h2,⟨h3,h4⟩,⟨h5,h6⟩,h7,h8⟩:=h;refine ⟨by omega,by omega,by omega,by omega,by omega,fun e he=>?_,fun f hf=>?_,fun s hs=>?_⟩
 · have:=List.all_eq_true.1 h8 e he
   unfold gi at this;simp only [wB,Bool.and_eq_true,decide_eq_true_eq] at this;omega
 · have:=List.all_eq_true.1 h4 f hf
   unfold c_ fG gI at this;simp only [wB,Bool.and_eq_true,decide_eq_true_eq] at this;obtain ⟨⟨p1,p2,p3⟩,p4,p5,p6,p7⟩:=this;exact ⟨by omega,by omega,by omega,p7⟩
 · have:=List.all_eq_true.1 s2 s hs
   unfold dj at this;simp only [wB,Bool.and_eq_true,decide_eq_true_eq] at this;omega
theorem aR{w:World}{b:Nat}{arr:Array Value}{t:TypeId}{o:Nat}(h:w.heap[b]? =some (.cells arr t (0,0))):w.frozen? ⟨b,o,none⟩=false:=by
 simp [World.frozen?,h]
theorem vq{W V w:World}{mb:Nat}(h:Gr W V)(g:V.grownBy w (some mb))(hm:W.heap.size≤mb):Gr W w:=
 ⟨g.os.trans h.os,g.tape.trans h.tape,g.output.trans h.output,Nat.le_trans h.size g.size,fun i hi hne=>(g.block i (Nat.lt_of_lt_of_le hi h.size) (by simp;omega)).trans (h.block i hi hne)⟩
theorem ro{w w':World}{ob:Option Nat}(h:Gr w w'):w.grownBy w' ob:=⟨h.os,h.tape,h.output,h.size,fun i hi _=>h.block i hi (by simp)⟩
theorem mR{a b c:World}{ob:Option Nat}(h:a.grownBy b ob)(k:b.grownBy c ob):a.grownBy c ob:=
 ⟨k.os.trans h.os,k.tape.trans h.tape,k.output.trans h.output,Nat.le_trans h.size k.size,fun i hi hne=>(k.block i (Nat.lt_of_lt_of_le hi h.size) hne).trans (h.block i hi hne)⟩
theorem kQ{W V:World}{b o:Nat}{v:Value}(h:Gr W V)(hb:W.heap.size≤b):Gr W (V.setCell ⟨b,o,none⟩ v):=
 ⟨h.os,h.tape,h.output,by simpa using h.size,fun i hi hne=>by rw [Below.heap_setCell _ _ _ _ (by show i≠b;omega)];exact h.block i hi hne⟩
structure zK(W:World)(nb fb mb:Nat)(l:List aK)(k:Nat)(V:World):Prop where
 gr:Gr W V
 nb0:W.heap.size≤nb
 fb0:W.heap.size≤fb
 mb0:W.heap.size≤mb
 nf:¬nb=fb
 nm:¬nb=mb
 fm:¬fb=mb
 cn:V.cell? ⟨nb,0,none⟩=some (.map (some mb))
 cf:V.cell? ⟨fb,0,none⟩=some (.int .i64 (dv l k:Int))
 zf:V.frozen? ⟨fb,0,none⟩=false
 mp:∃n,n≤20 * k∧g8 W V mb n (fw 0 (l.take k) fun _=>none)
 sn:∀s,s∈eO l k↔(fw 0 (l.take k) (fun _=>none) s).isSome=true
theorem zK.step{W:World}{nb fb mb:Nat}{l:List aK}{k:Nat}{V V':World}(h:zK W nb fb mb l k V)(g:Gr V V'):zK W nb fb mb l k V':=by
 obtain ⟨n,hn,hm⟩:=h.mp;exact ⟨h.gr.trans g,h.nb0,h.fb0,h.mb0,h.nf,h.nm,h.fm,g.cell h.cn (by simp),g.cell h.cf (by simp),(World.frozen?_of_block (a:=⟨fb,0,none⟩) (g.block fb (World.block_lt_of_cell? V _ h.cf) (by simp))).trans h.zf,⟨n,hn,hm.gr g⟩,h.sn⟩
theorem g8.put{W w:World}{b n:Nat}{N:List UInt8→Option (aO×Int)}(h:g8 W w b n N)(s:ByteArray)(hs:s.size≤maxLen)(hn:n < 1000000){v:Value}{g:aO}{k:Int}(hv:rR W v g k):
 ∃w',(Instr.mapUpdate 85 (.map (some b)) (.string s) v).run Tryz.prog w=.ok () w'∧g8 W w' b (n+1) (fun j=>if j=s.data.toList then some (g,k) else N j)∧w.grownBy w' (some b):=by
 obtain ⟨m,h1,h2⟩:=h;obtain ⟨w',hr,hm,hg⟩:=h1.store s hs hn v;refine ⟨w',hr,⟨_,hm,fun j=>?_⟩,hg⟩;by_cases e:j=s.data.toList
 · exact .inr ⟨g,k,v,by simp [e],by simp [e],hv⟩
 · rcases h2 j with h|⟨g',k',v',e1,e2,e3⟩
   · exact .inl ⟨by simp [e,h.1],by simp [e,h.2]⟩
   · exact .inr ⟨g',k',v',by simp [e,e1],by simp [e,e2],e3⟩
theorem sf(W:World)(l:List aK)(nb fb mb:Nat)(hl6:l.length≤6)(hok:∀u∈l,ak u=true):
 tV W 68 #[] #[.pointer (some ⟨nb,0,none⟩),.pointer (some ⟨fb,0,none⟩)] 6 l (fun k u=>(fC (eO l k) u.aC).isNone) (zK W nb fb mb l) (fun V=>Gr W V):=by
 intro k u V vu hu hI hR;have hnot:∀(x:Bool) (w:World),(Op.unary .not (.bool x)).run Tryz.prog w=.ok (.bool (!x)) w:=fun _ _=>rfl
 show Calls Tryz.prog 68 #[vu,.agg #[.int .i64 6,.int .i64 0,.int .i64 (k:Int)],.pointer (some ⟨nb,0,none⟩),.pointer (some ⟨fb,0,none⟩)] V _
 obtain ⟨a1,a2,a3,a4,a5,c1,c2,c3,c4,c5,rfl,_,_,r3,_,r5⟩:=hR.parts;obtain ⟨ao,cap,he,hm5,hc5⟩:=r5;simp only [Value.slice.injEq,true_and] at he;obtain ⟨rfl,rfl⟩:=he;obtain ⟨ao3,cap3,he,hm3,hc3⟩:=r3;simp only [Value.slice.injEq,true_and] at he;obtain ⟨rfl,rfl⟩:=he;have hkl:k < l.length:=(List.getElem?_eq_some_iff.1 hu).1;have hk6:k < 6:=by omega
 have hfit:=ey (hok u (List.mem_of_getElem? hu));obtain ⟨hfl,_,_,hel,_,hef,_⟩:=hfit;have hah:=kb (fun u hu=>(ey (hok u hu)).1) k;have HAS:=aH (i' hu);have HTS:=aH (uA hu);have HSS:Hid (∀s,fC (eO l k) u.aC=some s→eO l (k+1)=s):=aH (fun s e=>by rw [eO,hu];simp [e]);obtain ⟨n0,hn0,hM⟩:=hI.mp;have hmV:=hM.lt;have hnV:=World.block_lt_of_cell? V _ hI.cn;have hfV:=World.block_lt_of_cell? V _ hI.cf;have HC:=aH hc5;have HC3:=aH hc3;have HEF:=aH hef;have HI:=aH hI;have HM:=aH hM;unfold maxLen at hm5 hm3;have HY:=aH (xY.new (V.alloc (.cells #[.slice a1 u.aA.length c1,.slice a2 u.aD.length c2,.slice a3 u.aE.length c3,.slice a4 u.aB.length c4,.slice a5 u.aC.length c5] 33)) 6 (k:Int) 58);have HGV:=aH (((Gr.refl V).alloc (.cells #[.slice a1 u.aA.length c1,.slice a2 u.aD.length c2,.slice a3 u.aE.length c3,.slice a4 u.aB.length c4,.slice a5 u.aC.length c5] 33)).alloc (.cells #[.int .i64 6,.int .i64 0,.int .i64 (k:Int)] 58));have hb0:=heap_alloc_new V (.cells #[.slice a1 u.aA.length c1,.slice a2 u.aD.length c2,.slice a3 u.aE.length c3,.slice a4 u.aB.length c4,.slice a5 u.aC.length c5] 33);have HUC:Hid (((V.alloc (.cells #[.slice a1 u.aA.length c1,.slice a2 u.aD.length c2,.slice a3 u.aE.length c3,.slice a4 u.aB.length c4,.slice a5 u.aC.length c5] 33)).alloc (.cells #[.int .i64 6,.int .i64 0,.int .i64 (k:Int)] 58)).cell? ⟨V.heap.size,2,none⟩=some (.slice a3 u.aE.length c3)):=aH (((Gr.refl _).alloc _:Gr _ _).cell (by rw [aI hb0];rfl) (by simp));have hbb:(V.alloc (.cells #[.slice a1 u.aA.length c1,.slice a2 u.aD.length c2,.slice a3 u.aE.length c3,.slice a4 u.aB.length c4,.slice a5 u.aC.length c5] 33)).heap.size=V.heap.size+1:=by simp
 rw [hbb] at HY;have hsz1:((V.alloc (.cells #[.slice a1 u.aA.length c1,.slice a2 u.aD.length c2,.slice a3 u.aE.length c3,.slice a4 u.aB.length c4,.slice a5 u.aC.length c5] 33)).alloc (.cells #[.int .i64 6,.int .i64 0,.int .i64 (k:Int)] 58)).heap.size=V.heap.size+2:=by simp
 clear hI hR hu hc5 hbb hM hc3 hb0 hok hef;go_enter Tryz.func68,Tryz.ntmps68
 go_wp2_with fail
 generalize (V.alloc (.cells #[.slice a1 u.aA.length c1,.slice a2 u.aD.length c2,.slice a3 u.aE.length c3,.slice a4 u.aB.length c4,.slice a5 u.aC.length c5] 33)).alloc (.cells #[.int .i64 6,.int .i64 0,.int .i64 (k:Int)] 58)=W1 at HY HGV HUC hsz1 ⊢;have hyb:¬V.heap.size+1=mb:=by omega
 have hub:¬V.heap.size=mb:=by omega
 obtain ⟨yb,hybe⟩:∃yb,V.heap.size+1=yb:=⟨_,rfl⟩;rw [hybe] at HY hyb ⊢;generalize hube:V.heap.size=ub at hub HUC ⊢;have HSZ:=aH (And.intro hybe (And.intro hube hsz1));clear hybe hube hsz1;generalize hN0:fw 0 (l.take k) (fun _=>none)=N0 at HM HTS;generalize hS0:eO l k=S0 at HSS ⊢;have HS0:Hid (∀s,s∈S0↔(N0 s).isSome=true):=aH (by rw [←hN0,←hS0];exact HI.out.sn);generalize hF0:dv l k=F0 at hah HAS HTS;have HF0:=aH (And.intro hN0 (And.intro hS0 hF0));clear hN0 hS0 hF0;go_loopw [13] (fun i wr=>∃(j:Nat) (S':List (List UInt8)) (N':List UInt8→Option (aO×Int)),i=.int .i64 (j:Int)∧j≤u.aC.length∧fC S0 u.aC=fC S' (u.aC.drop j)∧qE u F0 u.aC N0=qE u F0 (u.aC.drop j) N'∧(∀s,s∈S'↔(N' s).isSome=true)∧g8 W wr mb (n0+j) N'∧W1.grownBy wr (some mb)) (fun i _=>u.aC.length - (intOf i).toNat)
 case atStart=>exact ⟨0,S0,N0,rfl,Nat.zero_le _,rfl,rfl,HS0.out,HM.out.gr HGV.out,ro (Gr.refl _)⟩
 case round=>
  obtain ⟨j,S',N',rfl,hj,hS,hN,hSN,hMw,hgr⟩:=hrel;have HS:=aH hS;have HN:=aH hN;have HSN:=aH hSN;have HMw:=aH hMw;have HGR:=aH hgr;have HGW:Hid (Gr W wr):=aH (vq (HI.out.gr.trans HGV.out) hgr HI.out.mb0);have cn:=hgr.cell (HGV.out.cell HI.out.cn (by simp)) (by simp;exact HI.out.nm);have cu:=hgr.cell HUC.out (by simp;exact hub);have cf:=hgr.cell (HGV.out.cell HI.out.cf (by simp)) (by simp;exact HI.out.fm);rw [HF0.out.2.2] at cf;have HYw:Hid (xY wr yb 6 (k:Int)):=aH ⟨hgr.cell HY.out.1 (by simp;exact hyb),hgr.cell HY.out.2.1 (by simp;exact hyb),hgr.cell HY.out.2.2 (by simp;exact hyb)⟩;clear hS hN hSN hMw;by_cases hlt:j < u.aC.length
  · obtain ⟨x,hx⟩:=aY hlt;obtain ⟨b,off,vs,rfl,k0,k1,⟨s,rfl,hs,hsz⟩⟩:=HC.out j x hx;have hxe:=HEF.out x (List.mem_of_getElem? hx);obtain ⟨q,hq⟩:∃q:Nat,x.func=(q:Int):=⟨x.func.toNat,by omega⟩;rw [hq] at k1 hxe;have hqi:(q:Int) < (u.aE.length:Int):=hxe.2;have hqn:q < u.aE.length:=by omega
    obtain ⟨g,hgq⟩:=aY hqn;obtain ⟨fb3,off3,vp,vl,vc,rfl,f0,f1,f2,f3,rp,rl,rc⟩:=HC3.out q g hgq;obtain ⟨pp,pc,rfl⟩:=rp.shape;obtain ⟨lp,lc,rfl⟩:=rl.shape;obtain ⟨xp,xc,rfl⟩:=rc.shape;have HB3:=aH (World.block_lt_of_cell? W _ f0);have HTV:Hid (rR W (.agg #[.slice pp g.aF.length pc,.int .i64 g.result,.slice lp g.aG.length lc,.slice xp g.code.length xc,.int .i64 ((F0:Int)+(q:Int))]) g ((F0:Int)+(q:Int))):=aH ⟨_,_,_,_,_,_,_,_,rfl,rp⟩;have k0:=HGW.out.cell k0 (by simp);have k1:=HGW.out.cell k1 (by simp);have HF:=aH (And.intro (HGW.out.cell f0 (by simp)) (And.intro (HGW.out.cell f1 (by simp)) (And.intro (HGW.out.cell f2 (by simp)) (HGW.out.cell f3 (by simp)))));have hji:(j:Int) < (u.aC.length:Int):=by omega
    have hw:IntKind.i64.wrap ((j:Int)+1)=(j:Int)+1:=Go.IntWalk.i64_in _ (by omega);have hwf:IntKind.i64.wrap ((F0:Int)+(q:Int))=(F0:Int)+(q:Int):=Go.IntWalk.i64_in _ (by omega);have hga:=(Gr.refl wr).alloc (.cells #[.string s,.int .i64 (q:Int)] 50);have HBA:=aH (heap_alloc_new wr (.cells #[.string s,.int .i64 (q:Int)] 50));have cn2:=hga.cell cn (by simp);have HD:Hid (u.aC.drop j=x :: u.aC.drop (j+1)):=aH (by
     rw [List.drop_eq_getElem_cons hlt];have:u.aC[j]=x:=by rw [List.getElem?_eq_getElem hlt] at hx;exact Option.some.inj hx
     rw [this])
    clear rp rl rc f0 f1 f2 f3 hx;rcases HMw.out.find s hsz with ⟨e1,e2,_⟩|⟨g',kk,v,e1,e2,e3,_⟩
    · have hlk:=e2 _ hga;have hgb:=hga.alloc (.cells #[.slice none 0 0,.int .i64 0,.slice none 0 0,.slice none 0 0,.int .i64 0] 126);obtain ⟨y0,y1,y2⟩:=HYw.out.gr hgb;have HNS:Hid (¬x.name∈S'):=aH (fun c=>by rw [HSN.out,←hs,e1] at c;cases c);have HGB:=aH hgb;have HHS:=aH hs;have HHZ:=aH hsz;have HQ:=aH hq;have HGQ:=aH hgq;have HGA2:Hid (Gr (wr.alloc (.cells #[.string s,.int .i64 (q:Int)] 50)) ((wr.alloc (.cells #[.string s,.int .i64 (q:Int)] 50)).alloc (.cells #[.slice none 0 0,.int .i64 0,.slice none 0 0,.slice none 0 0,.int .i64 0] 126))):=aH ((Gr.refl _).alloc _);have HCW:=aH (And.intro cn (And.intro cu cf));unfold lM at hlk;clear e1 e2 hs hsz hga hgb hq hgq hgr cn cu cf;go_wp2_with fail
      refine (aP _ _ _).mono ?_;rintro z w3 ⟨rfl,hg3⟩;have KS:Hid (∀w',Gr w3 w'→w'.cell? ⟨nb,0,none⟩=some (.map (some mb))∧w'.cell? ⟨ub,2,none⟩=some (.slice (some ⟨fb3,off3,none⟩) u.aE.length c3)∧w'.cell? ⟨fb,0,none⟩=some (.int .i64 (F0:Int))∧w'.cell? ⟨wr.heap.size,0,none⟩=some (.string s)∧w'.cell? ⟨wr.heap.size,1,none⟩=some (.int .i64 (q:Int))∧w'.cell? ⟨fb3,off3+q * 4,none⟩=some (.slice pp g.aF.length pc)∧w'.cell? ⟨fb3,off3+q * 4+1,none⟩=some (.int .i64 g.result)∧w'.cell? ⟨fb3,off3+q * 4+2,none⟩=some (.slice lp g.aG.length lc)∧w'.cell? ⟨fb3,off3+q * 4+3,none⟩=some (.slice xp g.code.length xc)):=aH (fun w' g=>by
       have g0:=hg3.trans g;have g1:=HGB.out.trans g0;have e0:w'.heap[wr.heap.size]? =_:=((HGA2.out.trans g0).block wr.heap.size (by simp) (by simp)).trans HBA.out;obtain ⟨p1,p2,p3⟩:=HCW.out;obtain ⟨f0,f1,f2,f3⟩:=HF.out;exact ⟨g1.cell p1 (by simp),g1.cell p2 (by simp),g1.cell p3 (by simp),by rw [aI e0];rfl,by rw [aI e0];rfl,g1.cell f0 (by simp),g1.cell f1 (by simp),g1.cell f2 (by simp),g1.cell f3 (by simp)⟩)
      obtain ⟨w5,hst,hM5,hg5⟩:=((HMw.out.gr (HGB.out.trans hg3)).gr (Gr.drew (Gr.refl w3))).put s HHZ.out (by omega) HTV.out;have HM5:=aH hM5;have HG5:=aH (mR HGR.out (mR (ro ((HGB.out.trans hg3).trans (Gr.drew (Gr.refl w3)))) hg5));have KS5:Hid (w5.cell? ⟨nb,0,none⟩=some (.map (some mb))∧w5.cell? ⟨ub,2,none⟩=some (.slice (some ⟨fb3,off3,none⟩) u.aE.length c3)∧w5.cell? ⟨fb,0,none⟩=some (.int .i64 (F0:Int))∧w5.cell? ⟨wr.heap.size,0,none⟩=some (.string s)∧w5.cell? ⟨wr.heap.size,1,none⟩=some (.int .i64 (q:Int))∧w5.cell? ⟨fb3,off3+q * 4,none⟩=some (.slice pp g.aF.length pc)∧w5.cell? ⟨fb3,off3+q * 4+1,none⟩=some (.int .i64 g.result)∧w5.cell? ⟨fb3,off3+q * 4+2,none⟩=some (.slice lp g.aG.length lc)∧w5.cell? ⟨fb3,off3+q * 4+3,none⟩=some (.slice xp g.code.length xc)):=aH (by
       obtain ⟨q1,q2,q3,q4,q5,q6,q7,q8,q9⟩:=KS.out _ (Gr.drew (Gr.refl w3));have hb3:¬fb3=mb:=by have:=HB3.out;have:=HI.out.mb0;omega
       have hbw:¬wr.heap.size=mb:=by have:=HMw.out.lt;omega
       exact ⟨hg5.cell q1 (by simp;exact HI.out.nm),hg5.cell q2 (by simp;exact hub),hg5.cell q3 (by simp;exact HI.out.fm),hg5.cell q4 (by simp;exact hbw),hg5.cell q5 (by simp;exact hbw),hg5.cell q6 (by simp;exact hb3),hg5.cell q7 (by simp;exact hb3),hg5.cell q8 (by simp;exact hb3),hg5.cell q9 (by simp;exact hb3)⟩)
      clear hg3 hlk y0 y1 y2 k0 k1 HGB hM5 HGA2 HCW HF;go_upto_region 6 with fail
      refine wp_region_held_drew (S:=(fun w'=>w'.cell? ⟨nb,0,none⟩=some (.map (some mb))∧w'.cell? ⟨ub,2,none⟩=some (.slice (some ⟨fb3,off3,none⟩) u.aE.length c3)∧w'.cell? ⟨fb,0,none⟩=some (.int .i64 (F0:Int))∧w'.cell? ⟨wr.heap.size,0,none⟩=some (.string s)∧w'.cell? ⟨wr.heap.size,1,none⟩=some (.int .i64 (q:Int))∧w'.cell? ⟨fb3,off3+q * 4,none⟩=some (.slice pp g.aF.length pc)∧w'.cell? ⟨fb3,off3+q * 4+1,none⟩=some (.int .i64 g.result)∧w'.cell? ⟨fb3,off3+q * 4+2,none⟩=some (.slice lp g.aG.length lc)∧w'.cell? ⟨fb3,off3+q * 4+3,none⟩=some (.slice xp g.code.length xc))) (by kernel_rfl) (KS.out _ (Gr.drew (Gr.refl _))) (fun hH=>?_);refine tL 0 ?_;simp only [Act.put,sA,s0,s1];refine tL 1 ?_;simp only [Act.put,sA,s0,s1];refine tL 2 ?_;simp only [Act.put,sA,s0,s1];refine tL 3 ?_;simp only [Act.put,sA,s0,s1];refine tL 4 ?_;simp only [Act.put,sA,s0,s1];refine tL 5 ?_;simp only [Act.put,sA,s0,s1];refine tL 6 ?_;simp only [Act.put,sA,s0,s1];refine tL 7 ?_;simp only [Act.put,sA,s0,s1];refine tL 8 ?_;simp only [Act.put,sA,s0,s1];refine tL 9 ?_;simp only [Act.put,sA,s0,s1];refine tL 10 ?_;simp only [Act.put,sA,s0,s1];refine tL 11 ?_;simp only [Act.put,sA,s0,s1];refine tL 12 ?_;simp only [Act.put,sA,s0,s1];refine tL 13 ?_;simp only [Act.put,sA,s0,s1];refine au (i:=14) rfl (by kernel_rfl) (fun K hK=>?_);refine ae (by rfl) ?_;go_simp
      refine hK.out _ _ (KS5.out) (fun hH=>?_);clear hK;try simp only [Act.put,sA,s0,s1]
      refine wpAnyH_done (by kernel_rfl) ?_ _;clear KS hst hH HBA hg5 KS5;go_wp2_with fail
      refine ⟨⟨j+1,x.name :: S',_,by simp,hlt,?_,?_,?_,HM5.out,HG5.out⟩,by simp [intOf];omega⟩
      · rw [HS.out,HD.out,fC,if_neg HNS.out]
      · rw [HN.out,HD.out,qE];congr 1
        funext y
        rw [HQ.out,Int.toNat_natCast,HGQ.out,HHS.out];rfl
      · intro y;rw [List.mem_cons,HSN.out];by_cases e:y=x.name
        · simp [e,HHS.out]
        · simp [e,HHS.out]
    · obtain ⟨tp,tcp,tl,tnl,tcl,tc,tnc,tcc,rfl,_⟩:=e2;have hlk:=e3 _ hga;have hgb:=hga.alloc (.cells #[.slice tp g'.aF.length tcp,.int .i64 g'.result,.slice tl tnl tcl,.slice tc tnc tcc,.int .i64 kk] 126);obtain ⟨y0,y1,y2⟩:=HYw.out.gr hgb;have HNS:Hid (x.name∈S'):=aH (by rw [HSN.out,←hs,e1];rfl);have HGB:=aH hgb;clear e1 e3 hs hsz hga hgb hq hgq hgr cf cu;go_wp2_with fail
      refine (aV _ _ _).mono ?_;rintro z w3 ⟨rfl,hg3⟩;refine ⟨rfl,.inr ⟨?_,rfl,?_⟩⟩
      · show (fC (eO l k) u.aC).isNone=true
        rw [HF0.out.2.1,HS.out,HD.out,fC,if_pos HNS.out];rfl
      · exact HGW.out.trans (HGB.out.trans hg3)
  · have hjj:j=u.aC.length:=by omega
    subst hjj;have HE1:Hid (fC S0 u.aC=some S'):=aH (by rw [HS.out,List.drop_length];rfl);have HE2:Hid (qE u F0 u.aC N0=N'):=aH (by rw [HN.out,List.drop_length];rfl);have hzf:wr.frozen? ⟨fb,0,none⟩=false:=(World.frozen?_of_block (a:=⟨fb,0,none⟩) ((hgr.block fb (by have:=HGV.out.size;omega) (by simp;exact HI.out.fm)).trans (HGV.out.block fb hfV (by simp)))).trans HI.out.zf;have hwf:IntKind.i64.wrap ((F0:Int)+(u.aE.length:Int))=(F0:Int)+(u.aE.length:Int):=Go.IntWalk.i64_in _ (by omega);have HCF:=aH cf;have HCN:=aH cn;have HZF:=aH hzf;clear hlt hj hgr cn;go_wp2_with fail
    go_end0
    refine .inl ⟨by rw [HF0.out.2.1,HE1.out];rfl,rfl,?_⟩;refine ⟨kQ HGW.out HI.out.fb0,HI.out.nb0,HI.out.fb0,HI.out.mb0,HI.out.nf,HI.out.nm,HI.out.fm,?_,?_,?_,?_,?_⟩
    · rw [World.cell?_setCell_other _ _ _ _ (by intro e;simp only [Addr.mk.injEq] at e;exact HI.out.nf e.1.symm)];exact HCN.out
    · rw [World.cell?_setCell_same _ _ _ HCF.out,HAS.out];simp
    · rw [World.frozen?_setCell];exact HZF.out
    · refine ⟨n0+u.aC.length,by omega,?_⟩;rw [HTS.out,HE2.out];exact HMw.out.kept (Below.heap_setCell _ _ _ _ (by show mb≠fb;exact fun e=>HI.out.fm e.symm))
    · rw [HTS.out,HE2.out,HSS.out S' HE1.out];exact HSN.out
def Ae(W:World)(l:List aK)(x:Ending)(w':World):Prop:=Gr W w'∧match iY [] 0 l with
 | none=>∃mb n,x=.returned (.map (some mb))∧g8 W w' mb n (fw 0 l fun _=>none)
 | some k=>x=.panicked (dF 6 (k:Int))
theorem Tryz.callExp1(vu vr v1 v2:Value)(w:World):(callFunc 68 (#[]++(#[vu,vr]++#[v1,v2]))).run Tryz.prog w=.ok (.enter 68 (#[]++(#[vu,vr]++#[v1,v2]))) w:=by kernel_rfl
theorem Tryz.mkMapT(w:World):(Instr.makeMap 85 none).run Tryz.prog w=.ok (.map (some w.heap.size)) (w.alloc (.map #[] 0)):=by kernel_rfl
theorem n_(W:World)(l:List aK)(vl:Value)(hR:dh W vl l)(hl6:l.length≤6)(hok:∀u∈l,ak u=true):
 Calls Tryz.prog 37 #[vl] W (Ae W l):=by
 have hmf:∀(fn:Fn) (first cap:Array Value) (w:World),(Instr.makeFunc fn first cap).run Tryz.prog w=.ok (.func fn first cap) w:=fun _ _ _ _=>rfl
 obtain ⟨al,cl,rfl⟩:=hR.shape;have HR:=aH hR;have HOK:=aH hok;clear hR hok;have hmm:=fun (w:World)=>Tryz.mkMapT w
 go_enter Tryz.func37,Tryz.ntmps37
 go_wp2_with fail
 have g1:=(((Gr.refl W).alloc (.map #[] 0)).alloc (.cells #[.map (some W.heap.size)] 85)).alloc (.cells #[.int .i64 0] 3);have hI0:zK W (W.heap.size+1) (W.heap.size+1+1) W.heap.size l 0 (((W.alloc (.map #[] 0)).alloc (.cells #[.map (some W.heap.size)] 85)).alloc (.cells #[.int .i64 0] 3)):=by
  have h0:=heap_alloc_new W (.map #[] 0);have h1:=heap_alloc_new (W.alloc (.map #[] 0)) (.cells #[.map (some W.heap.size)] 85);have h2:=heap_alloc_new ((W.alloc (.map #[] 0)).alloc (.cells #[.map (some W.heap.size)] 85)) (.cells #[.int .i64 0] 3);have s1:(W.alloc (.map #[] 0)).heap.size=W.heap.size+1:=by simp
  have s2:((W.alloc (.map #[] 0)).alloc (.cells #[.map (some W.heap.size)] 85)).heap.size=W.heap.size+1+1:=by simp
  rw [s1] at h1;rw [s2] at h2;have ga:=(Gr.refl ((W.alloc (.map #[] 0)).alloc (.cells #[.map (some W.heap.size)] 85))).alloc (.cells #[.int .i64 0] 3);have gb:=(Gr.refl (W.alloc (.map #[] 0))).alloc (.cells #[.map (some W.heap.size)] 85);refine ⟨g1,by omega,by omega,by omega,by omega,by omega,by omega,ga.cell (by rw [aI h1];rfl) (by simp),?_,?_,⟨0,by omega,⟨fun _=>none,(iH.made W).kept ?_,fun s=>.inl ⟨rfl,rfl⟩⟩⟩,fun s=>by simp [eO,fw]⟩
  · rw [aI h2];simp [dv]
  · exact aR h2
  · exact (gb.trans ga).block _ (by rw [s1];omega) (by simp)
 have HFT:=aH (kt l l.length 0 (by omega));refine (iS 68 #[] #[.pointer (some ⟨W.heap.size+1,0,none⟩),.pointer (some ⟨W.heap.size+1+1,0,none⟩)] (fun vu vr w=>Tryz.callExp1 vu vr _ _ w) 6 l (.slice al l.length cl) _ _ _ W _ HR.out (fun k V h=>h.gr) (fun k V V' h g=>h.step g) hI0 (sf W l _ _ _ hl6 HOK.out) (by omega) ⟨_,_,rfl⟩).mono ?_;intro x w2 hx;rw [List.drop_zero] at HFT;rw [HFT.out] at hx;have e0:eO l 0= []:=rfl;rw [e0] at hx;cases hp:iY [] 0 l with
 | none=>
  rw [hp] at hx;obtain ⟨rfl,hI⟩:=hx;obtain ⟨n,_,hm⟩:=hI.mp;rw [List.take_length] at hm;have HM:=aH hm;have HG:=aH hI.gr;have cn:=hI.cn;have HP:=aH hp;clear hI hI0 hm hp HFT g1 hmm hmf;go_wp2_with fail
  go_ret
  refine ⟨HG.out,?_⟩;rw [HP.out];exact ⟨_,n,rfl,HM.out⟩
 | some k=>
  rw [hp] at hx;obtain ⟨rfl,hb⟩:=hx;refine ⟨rfl,hb,?_⟩;rw [hp]
end Go.Proofs.YtkgncijcnlfhiaaGreat
