import Derived.Test.YtkgncijcnlfhiabGreatNj
import Derived.Test.YtkgncijcnlfhiabGreatRg2
namespace Go.Proofs.YtkgncijcnlfhiabGreat
set_option maxRecDepth 100000
set_option maxHeartbeats 2000000
set_option linter.unusedVariables false
set_option linter.unusedSimpArgs false
open Go.RowKit
attribute [local go_sem ↓] Go.wp_at_zero Go.wp_at_succ
theorem sv(s:ByteArray)(w:World)(hs:s.size<=1000000):
 Calls Tryz.prog 142 #[.string s] w fun x w'=>x=.returned (.string s)/\Gr w w':=by
 have HC:=aH (nt s w hs);go_enter Tryz.func142,Tryz.ntmps142
 go_wp2_with fail
 refine HC.out.mono ?_;rintro x w' ⟨rfl,hg⟩;have HG:=aH hg;clear hg HC;go_wp2_with fail
 go_ret
 exact ⟨rfl,HG.out⟩
theorem tA(u:aK)(mb c f:Nat)(a1 a2 a3 a4 a5:Option Addr)(c1 c2 c3 c4 c5:Nat)(s:ByteArray)(q:Int)(w:World)(hf:f<=1000)(hs:s.size<=1000000)(hq:0<=q/\q<=1000):
 Calls Tryz.prog 125 #[.agg #[.slice a1 u.aA.length c1,.slice a2 u.aD.length c2,.slice a3 u.aE.length c3,.slice a4 u.aB.length c4,.slice a5 u.aC.length c5,.map (some mb),.int .i64 (c:Int),.int .i64 (f:Int)],.agg #[.string s,.int .i64 q]] w fun x w'=>x=.returned (.agg #[.string s,.int .i64 ((f:Int)+q)])/\Gr w w':=by
 have hw:IntKind.i64.wrap ((f:Int)+q)=(f:Int)+q:=Q_;have D4:=heap_alloc_new w (.cells #[.slice a1 u.aA.length c1,.slice a2 u.aD.length c2,.slice a3 u.aE.length c3,.slice a4 u.aB.length c4,.slice a5 u.aC.length c5,.map (some mb),.int .i64 (c:Int),.int .i64 (f:Int)] 209);have Y0:=heap_alloc_new (w.alloc (.cells #[.slice a1 u.aA.length c1,.slice a2 u.aD.length c2,.slice a3 u.aE.length c3,.slice a4 u.aB.length c4,.slice a5 u.aC.length c5,.map (some mb),.int .i64 (c:Int),.int .i64 (f:Int)] 209)) (.cells #[.string s,.int .i64 q] 60);have E5:=heap_alloc_new ((w.alloc (.cells #[.slice a1 u.aA.length c1,.slice a2 u.aD.length c2,.slice a3 u.aE.length c3,.slice a4 u.aB.length c4,.slice a5 u.aC.length c5,.map (some mb),.int .i64 (c:Int),.int .i64 (f:Int)] 209)).alloc (.cells #[.string s,.int .i64 q] 60)) (.cells #[.string ⟨#[]⟩,.int .i64 0] 60);have s1:(w.alloc (.cells #[.slice a1 u.aA.length c1,.slice a2 u.aD.length c2,.slice a3 u.aE.length c3,.slice a4 u.aB.length c4,.slice a5 u.aC.length c5,.map (some mb),.int .i64 (c:Int),.int .i64 (f:Int)] 209)).heap.size=w.heap.size+1:=Q6
 have s2:((w.alloc (.cells #[.slice a1 u.aA.length c1,.slice a2 u.aD.length c2,.slice a3 u.aE.length c3,.slice a4 u.aB.length c4,.slice a5 u.aC.length c5,.map (some mb),.int .i64 (c:Int),.int .i64 (f:Int)] 209)).alloc (.cells #[.string s,.int .i64 q] 60)).heap.size=w.heap.size+2:=Q6
 have s3:(((w.alloc (.cells #[.slice a1 u.aA.length c1,.slice a2 u.aD.length c2,.slice a3 u.aE.length c3,.slice a4 u.aB.length c4,.slice a5 u.aC.length c5,.map (some mb),.int .i64 (c:Int),.int .i64 (f:Int)] 209)).alloc (.cells #[.string s,.int .i64 q] 60)).alloc (.cells #[.string ⟨#[]⟩,.int .i64 0] 60)).heap.size=w.heap.size+3:=Q6
 rw [s1] at Y0;rw [s2] at E5;have P0:Gr w (((w.alloc (.cells #[.slice a1 u.aA.length c1,.slice a2 u.aD.length c2,.slice a3 u.aE.length c3,.slice a4 u.aB.length c4,.slice a5 u.aC.length c5,.map (some mb),.int .i64 (c:Int),.int .i64 (f:Int)] 209)).alloc (.cells #[.string s,.int .i64 q] 60)).alloc (.cells #[.string ⟨#[]⟩,.int .i64 0] 60)):=(((Gr.refl w).alloc _).alloc _).alloc _;have g2:Gr ((w.alloc (.cells #[.slice a1 u.aA.length c1,.slice a2 u.aD.length c2,.slice a3 u.aE.length c3,.slice a4 u.aB.length c4,.slice a5 u.aC.length c5,.map (some mb),.int .i64 (c:Int),.int .i64 (f:Int)] 209)).alloc (.cells #[.string s,.int .i64 q] 60)) (((w.alloc (.cells #[.slice a1 u.aA.length c1,.slice a2 u.aD.length c2,.slice a3 u.aE.length c3,.slice a4 u.aB.length c4,.slice a5 u.aC.length c5,.map (some mb),.int .i64 (c:Int),.int .i64 (f:Int)] 209)).alloc (.cells #[.string s,.int .i64 q] 60)).alloc (.cells #[.string ⟨#[]⟩,.int .i64 0] 60)):=(Gr.refl _).alloc _;have g1:Gr (w.alloc (.cells #[.slice a1 u.aA.length c1,.slice a2 u.aD.length c2,.slice a3 u.aE.length c3,.slice a4 u.aB.length c4,.slice a5 u.aC.length c5,.map (some mb),.int .i64 (c:Int),.int .i64 (f:Int)] 209)) (((w.alloc (.cells #[.slice a1 u.aA.length c1,.slice a2 u.aD.length c2,.slice a3 u.aE.length c3,.slice a4 u.aB.length c4,.slice a5 u.aC.length c5,.map (some mb),.int .i64 (c:Int),.int .i64 (f:Int)] 209)).alloc (.cells #[.string s,.int .i64 q] 60)).alloc (.cells #[.string ⟨#[]⟩,.int .i64 0] 60)):=((Gr.refl _).alloc _).alloc _;have KH:Hid (∀w',Gr (((w.alloc (.cells #[.slice a1 u.aA.length c1,.slice a2 u.aD.length c2,.slice a3 u.aE.length c3,.slice a4 u.aB.length c4,.slice a5 u.aC.length c5,.map (some mb),.int .i64 (c:Int),.int .i64 (f:Int)] 209)).alloc (.cells #[.string s,.int .i64 q] 60)).alloc (.cells #[.string ⟨#[]⟩,.int .i64 0] 60)) w'->w'.heap[w.heap.size]? =some (.cells #[.slice a1 u.aA.length c1,.slice a2 u.aD.length c2,.slice a3 u.aE.length c3,.slice a4 u.aB.length c4,.slice a5 u.aC.length c5,.map (some mb),.int .i64 (c:Int),.int .i64 (f:Int)] 209 (0,0))/\w'.heap[w.heap.size+1]? =some (.cells #[.string s,.int .i64 q] 60 (0,0))/\w'.heap[w.heap.size+2]? =some (.cells #[.string ⟨#[]⟩,.int .i64 0] 60 (0,0))):=aH (fun w' g=>
  ⟨((g1.trans g).block w.heap.size (by rw [s1];omega) Q6).trans D4,((g2.trans g).block (w.heap.size+1) (by rw [s2];omega) Q6).trans Y0,(g.block (w.heap.size+2) (by rw [s3];omega) Q6).trans E5⟩)
 have KS:Hid (∀w',Gr (((w.alloc (.cells #[.slice a1 u.aA.length c1,.slice a2 u.aD.length c2,.slice a3 u.aE.length c3,.slice a4 u.aB.length c4,.slice a5 u.aC.length c5,.map (some mb),.int .i64 (c:Int),.int .i64 (f:Int)] 209)).alloc (.cells #[.string s,.int .i64 q] 60)).alloc (.cells #[.string ⟨#[]⟩,.int .i64 0] 60)) w'->w'.cell? ⟨w.heap.size,7,none⟩=some (.int .i64 (f:Int))/\w'.cell? ⟨w.heap.size+1,0,none⟩=some (.string s)/\w'.cell? ⟨w.heap.size+1,1,none⟩=some (.int .i64 q)):=aH (fun w' g=>by
  obtain ⟨e0,e1,_⟩:=KH.out w' g;exact ⟨by rw [aJ e0];rfl,by rw [aJ e1];rfl,by rw [aJ e1];rfl⟩)
 have JC:Hid (∀w',Gr (((w.alloc (.cells #[.slice a1 u.aA.length c1,.slice a2 u.aD.length c2,.slice a3 u.aE.length c3,.slice a4 u.aB.length c4,.slice a5 u.aC.length c5,.map (some mb),.int .i64 (c:Int),.int .i64 (f:Int)] 209)).alloc (.cells #[.string s,.int .i64 q] 60)).alloc (.cells #[.string ⟨#[]⟩,.int .i64 0] 60)) w'->(w'.setRow (w.heap.size+2) #[.string s,.int .i64 ((f:Int)+q)]).cell? ⟨w.heap.size,7,none⟩=some (.int .i64 (f:Int))/\(w'.setRow (w.heap.size+2) #[.string s,.int .i64 ((f:Int)+q)]).cell? ⟨w.heap.size+1,0,none⟩=some (.string s)/\(w'.setRow (w.heap.size+2) #[.string s,.int .i64 ((f:Int)+q)]).cell? ⟨w.heap.size+1,1,none⟩=some (.int .i64 q)):=aH (fun w' g=>by
  obtain ⟨e0,e1,_⟩:=KH.out w' g;have d0:(w'.setRow (w.heap.size+2) #[.string s,.int .i64 ((f:Int)+q)]).heap[w.heap.size]? =_:=(setRow_other _ _ _ _ Q5).trans e0;have d1:(w'.setRow (w.heap.size+2) #[.string s,.int .i64 ((f:Int)+q)]).heap[w.heap.size+1]? =_:=(setRow_other _ _ _ _ Q5).trans e1;exact ⟨by rw [aJ d0];rfl,by rw [aJ d1];rfl,by rw [aJ d1];rfl⟩)
 have HG3:=aH P0;clear D4 Y0 E5 s1 s2 s3 P0 g1 g2;go_enter Tryz.func125,Tryz.ntmps125
 go_upto_region 1 with fail
 generalize (((w.alloc (.cells #[.slice a1 u.aA.length c1,.slice a2 u.aD.length c2,.slice a3 u.aE.length c3,.slice a4 u.aB.length c4,.slice a5 u.aC.length c5,.map (some mb),.int .i64 (c:Int),.int .i64 (f:Int)] 209)).alloc (.cells #[.string s,.int .i64 q] 60)).alloc (.cells #[.string ⟨#[]⟩,.int .i64 0] 60))=V3 at KH KS JC HG3 |-;refine wp_region_held_drew (S:=(fun w'=>w'.cell? ⟨w.heap.size,7,none⟩=some (.int .i64 (f:Int))/\w'.cell? ⟨w.heap.size+1,0,none⟩=some (.string s)/\w'.cell? ⟨w.heap.size+1,1,none⟩=some (.int .i64 q))) Q7 (KS.out _ (Gr.drew (Gr.refl _))) (fun hH=>?_);refine tL 0 ?_;simp only [Act.put,sA,s0,s1];refine tL 1 ?_;simp only [Act.put,sA,s0,s1];refine tL 3 ?_;simp only [Act.put,sA,s0,s1];refine tL 4 ?_;simp only [Act.put,sA,s0,s1];refine tL 5 ?_;simp only [Act.put,sA,s0,s1];refine tL 6 ?_;simp only [Act.put,sA,s0,s1];refine tL 7 ?_;simp only [Act.put,sA,s0,s1];refine aq (i:=2) rfl Q7 (fun K hK=>?_);refine aQ rfl 142 _ _ rfl #[.string s] fk (Tryz.callClo _ _) ((sv s _ hs).mono ?_);rintro x w2 ⟨rfl,E0⟩;have O0:=aH ((Gr.drew (Gr.refl V3)).trans E0);clear E0;refine .inl ⟨_,rfl,?_⟩;refine hK.out _ _ (KS.out _ O0.out) (fun hH=>?_);clear hK;try simp only [Act.put,sA,s0,s1]
 refine tL 8 ?_;simp only [Act.put,sA,s0,s1];refine aq (i:=9) rfl Q7 (fun K hK=>?_);refine ae cw (wp_store_row (P:=Tryz.prog) 60 _ _ rfl (w.heap.size+2) #[.string s,.int .i64 ((f:Int)+q)] cw fk 60 _ (KH.out w2 O0.out).2.2 Tryz.infEx rfl (by simp [Value.oneCell']) ?_);refine hK.out _ _ (JC.out _ O0.out) (fun hH=>?_);clear hK;try simp only [Act.put,sA,s0,s1]
 refine wpAnyH_done Q7 ?_ _;clear hH;have Nf:=setRow_heap w2 (w.heap.size+2) _ #[.string s,.int .i64 ((f:Int)+q)] _ _ (KH.out w2 O0.out).2.2;have e0:(w2.setRow (w.heap.size+2) #[.string s,.int .i64 ((f:Int)+q)]).cell? ⟨w.heap.size+2,0,none⟩=some (.string s):=by rw [aJ Nf];rfl
 have e1:(w2.setRow (w.heap.size+2) #[.string s,.int .i64 ((f:Int)+q)]).cell? ⟨w.heap.size+2,1,none⟩=some (.int .i64 ((f:Int)+q)):=by rw [aJ Nf];rfl
 clear Nf;go_wp2_with fail
 refine bodyPost_ret (v:=.agg #[.string s,.int .i64 ((f:Int)+q)]) (by simp [results,Tryz.results125,go_sem,e0,e1]) rfl ⟨rfl,?_⟩;exact pE (HG3.out.trans O0.out) Q5
def kU(l:List aK)(k:Nat):Nat:=((l.take k).map fun u=>u.aC.length).sum
theorem qU{l:List aK}{k:Nat}{u:aK}(h:l[k]? =some u):kU l (k+1)=kU l k+u.aC.length:=by
 obtain ⟨hk,rfl⟩:=List.getElem?_eq_some_iff.1 h;unfold kU;rw [List.take_succ_eq_append_getElem hk,List.map_append,List.sum_append_nat];simp only [List.map_cons,List.map_nil,List.sum_cons,List.sum_nil,Nat.add_zero]
def nj(l:List aK):Bool:=decide (dy l l.length<=30) && (decide (kh l l.length<=50) && decide (kU l l.length<=20))
theorem ze(W:World)(l:List aK)(vl:Value)(hR:eS W vl l)(G9:l.length<=6)(N2:∀u∈l,ai u=true):
 Calls Tryz.prog 87 #[vl] W fun x w'=>x=.returned (.bool (nj l))/\Gr W w':=by
 obtain ⟨ao,cap,rfl,hm,hc⟩:=hR;have HC:=aH hc;have M8:=aH N2;clear hc N2;unfold maxLen at hm;go_enter Tryz.func87,Tryz.ntmps87
 go_wp2_with fail
 go_loopw [3,4,5,10] (fun vf vc ve i wr=>∃(k nf nc ne:Nat),vf=.int .i64 (nf:Int)/\vc=.int .i64 (nc:Int)/\ve=.int .i64 (ne:Int)/\i=.int .i64 (k:Int)/\k<=l.length/\dy l k=nf/\kh l k=nc/\kU l k=ne/\nf<=30 * k/\nc<=50 * k/\ne<=20 * k/\Gr W wr) (fun _ _ _ i _=>l.length - (intOf i).toNat)
 case atStart=>exact ⟨0,0,0,0,rfl,rfl,rfl,rfl,Nat.zero_le _,by simp [dy],by simp [kh],by simp [kU],Q5,Q5,Q5,Gr.refl _⟩
 case round=>
  obtain ⟨k,nf,nc,ne,rfl,rfl,rfl,rfl,hk,hF,hCo,hE,b1,b2,b3,M3⟩:=hrel;have HG:=aH M3;have HA:=aH (And.intro hF (And.intro hCo hE));clear M3 hF hCo hE;by_cases J0:k < l.length
  · obtain ⟨u,hu⟩:=aX J0;obtain ⟨b,off,v1,v2,v3,v4,v5,rfl,k1,k2,k3,k4,k5,Nc⟩:=HC.out k u hu;obtain ⟨a1,a2,a3,a4,a5,c1,c2,c3,c4,c5,he,_⟩:=Nc.parts;simp only [Value.agg.injEq,Array.mk.injEq,List.cons.injEq,and_true] at he;obtain ⟨rfl,rfl,rfl,rfl,rfl⟩:=he;have k1:=HG.out.cell k1 Q6;have k2:=HG.out.cell k2 Q6;have k3:=HG.out.cell k3 Q6;have k4:=HG.out.cell k4 Q6;have k5:=HG.out.cell k5 Q6;have G3:=fU (M8.out u (List.mem_of_getElem? hu));have q1:=G3.1;have q2:=G3.2.1;have q3:=G3.2.2.2.1;have Hf:(k:Int) < (l.length:Int):=by omega
    have hw:IntKind.i64.wrap ((k:Int)+1)=(k:Int)+1:=Q_;have D2:IntKind.i64.wrap ((nf:Int)+(u.aE.length:Int))=(nf:Int)+(u.aE.length:Int):=Q_;have D3:IntKind.i64.wrap ((nc:Int)+(u.aD.length:Int))=(nc:Int)+(u.aD.length:Int):=Q_;have V5:IntKind.i64.wrap ((ne:Int)+(u.aC.length:Int))=(ne:Int)+(u.aC.length:Int):=Q_;have HS:=aH (And.intro (jh hu) (And.intro (pt hu) (qU hu)));clear hu Nc G3;go_wp2_with fail
    refine ⟨⟨k+1,nf+u.aE.length,nc+u.aD.length,ne+u.aC.length,Q6,Q6,Q6,Q6,J0,?_,?_,?_,Q5,Q5,Q5,HG.out.alloc _⟩,by simp [intOf];omega⟩
    · rw [HS.out.1,HA.out.1]
    · rw [HS.out.2.1,HA.out.2.1]
    · rw [HS.out.2.2,HA.out.2.2]
  · have L7:k=l.length:=by omega
    subst L7;have HB:Hid (nj l=(decide (nf<=30) && (decide (nc<=50) && decide (ne<=20)))):=aH (by unfold nj;rw [HA.out.1,HA.out.2.1,HA.out.2.2]);clear J0 hk HA;by_cases h1:nf<=30
    · by_cases h2:nc<=50
      · have i1:(nf:Int)<=30:=by omega
        have i2:(nc:Int)<=50:=Q5
        by_cases h3:ne<=20
        · have i3:(ne:Int)<=20:=by omega
          have H9:Hid (nj l=true):=aH (by rw [HB.out];simp [h1,h2,h3]);go_wp2_with fail
          go_ret
          exact ⟨by rw [H9.out];rfl,HG.out⟩
        · have i3:¬(ne:Int)<=20:=by omega
          have H9:Hid (nj l=false):=aH (by rw [HB.out];simp [h1,h2,h3]);have id3:decide ((ne:Int)<=20)=false:=by simpa using i3
          go_wp2_with fail
          go_ret
          exact ⟨by rw [H9.out];rfl,HG.out⟩
      · have i1:(nf:Int)<=30:=by omega
        have i2:¬(nc:Int)<=50:=Q5
        have H9:Hid (nj l=false):=aH (by rw [HB.out];simp [h1,h2]);have id2:decide ((nc:Int)<=50)=false:=by simpa using i2
        go_wp2_with fail
        go_ret
        exact ⟨by rw [H9.out];rfl,HG.out⟩
    · have i1:¬(nf:Int)<=30:=by omega
      have H9:Hid (nj l=false):=aH (by rw [HB.out];simp [h1]);have id1:decide ((nf:Int)<=30)=false:=by simpa using i1
      go_wp2_with fail
      go_ret
      exact ⟨by rw [H9.out];rfl,HG.out⟩
open Go.RowKit
section
variable {P:Program} {ops:Array Oper} {Q:Exit->Act->World->Prop} {md:Region.Mode} {S:World->Prop}
def dr(P:Program)(md:Region.Mode)(ops:Array Oper)(Q:Exit->Act->World->Prop)(S:World->Prop)(z:Nat):Nat->Array Bool->Act->World->Prop
 | 0,C0,a,w=>Region.ready md ops C0= []/\Q .normal a w
 | fuel+1,C0,a,w=>
  (Region.ready md ops C0= []->Q .normal a w)/\
  ∀i∈Region.ready md ops C0,wpOp P ops Q i (fun a' w'=>(i≠z->S w')/\dr P md ops Q S z fuel (C0.setIfInBounds i true) a' w') a w
theorem nL{z:Nat}:∀(fuel:Nat) (C0:Array Bool) (a:Act) (w:World),dr P md ops Q S z fuel C0 a w->wpAny P md ops Q fuel C0 a w
 | 0,_,_,_,h=>h
 | fuel+1,_,_,_,h=>⟨h.1,fun i hi=>wpOp_mono (fun a' w' h'=>nL fuel _ a' w' h'.2) (h.2 i hi)⟩
theorem pQ{z i:Nat}{oi oz:Oper}{v:Value}(hi:ops[i]? =some oi)(hz:ops[z]? =some oz)(YP:i≠z)(LV:∃e∈oz.after,Region.binds md e=true/\e.on=i)(hsel:∀(j:Nat) (o:Oper) cs b,ops[j]? =some o->o.op≠.select cs b)
 (hQ:∀c a w,Q (.panic c) (a.put oi.dst v) w->Q (.panic c) a w):
 ∀(fuel:Nat) (C0:Array Bool) (a:Act) (w:World),
  (∀j oj,ops[j]? =some oj->j≠i->C0.getD j true=false->(∀e∈oj.after,Region.binds md e=true->e.on≠i)->oi.apart ops oj=true)->
  i∈Region.ready md ops C0->YieldsIf P ops S oi v a->S w->
  dr P md ops Q S z fuel (C0.setIfInBounds i true) (a.put oi.dst v) w->dr P md ops Q S z (fuel+1) C0 a w:=by
 intro fuel
 induction fuel with
 | zero=>
  intro C0 a w _ hr hy hS H;refine ⟨fun h=>(by rw [h] at hr;cases hr),fun j hj=>?_⟩;by_cases T8:j=i
  · subst T8;exact hy.wpOp hi hS ⟨fun _=>hS,H⟩
  · have:=ready_mono hj T8
    rw [H.1] at this;cases this
 | succ fuel ih=>
  intro C0 a w Ia hr hy hS H;refine ⟨fun h=>(by rw [h] at hr;cases hr),fun j hj=>?_⟩;by_cases T8:j=i
  · subst T8;exact hy.wpOp hi hS ⟨fun _=>hS,H⟩
  · have h1:=H.2 j (ready_mono hj T8);obtain ⟨Lg,oj,Pk,C2⟩:=mem_ready.1 hj;have I8:∀e∈oj.after,Region.binds md e=true->e.on≠i:=fun e he hb heq=>by
     have h1:=C2 e he hb;have h0:=(mem_ready.1 hr).1;rw [heq] at h1;rcases Nat.lt_or_ge i C0.size with h'|h'
     · simp [h'] at h0 h1;rw [h0] at h1;cases h1
     · simp [Array.getElem?_eq_none h'] at h1
    have OG:j≠z:=fun e=>by
     subst e;rw [hz] at Pk;cases Pk
     obtain ⟨e,he,hb,heq⟩:=LV;exact I8 e he hb heq
    have h2:=wpOp_putIf Pk (Ia j oj Pk T8 Lg I8) (fun cs b=>hsel i oi cs b hi) (fun cs b=>hsel j oj cs b Pk) hQ hy h1;have Xb:∀k ok,ops[k]? =some ok->k≠i->(C0.setIfInBounds j true).getD k true=false->
     (∀e∈ok.after,Region.binds md e=true->e.on≠i)->oi.apart ops ok=true:=fun k ok hk Hf Jo Rj=>by
     refine Ia k ok hk Hf ?_ Rj;by_cases Wq:j=k
     · subst Wq;exact Lg
     · rw [getD_set_ne true Wq] at Jo;exact Jo
    refine wpOp_mono (fun a' w' h3=>⟨h3.2.1,ih (C0.setIfInBounds j true) a' w' Xb (ready_mono hr (Ne.symm T8)) h3.1 (h3.2.1 OG) ?_⟩) h2;rw [Array.setIfInBounds_comm _ _ T8];exact h3.2.2
end
section
variable {P:Program} {l:List Oper} {md:Region.Mode} {Q:Exit->Act->World->Prop} {S:World->Prop}
def pZ(md:Region.Mode)(l:List Oper)(z i:Nat):Bool:=match l[z]? with
 | some oz=>oz.after.toList.any fun e=>Region.binds md e && decide (e.on=i)
 | none=>false
theorem rL{z i:Nat}(h:pZ md l z i=true):∃oz,l[z]? =some oz/\∃e∈oz.after,Region.binds md e=true/\e.on=i:=by
 unfold pZ at h;cases hz:l[z]? with
 | none=>rw [hz] at h;cases h
 | some oz=>
  rw [hz] at h;simp only [List.any_eq_true,Bool.and_eq_true,decide_eq_true_eq] at h;obtain ⟨e,he,h1,h2⟩:=h;exact ⟨oz,rfl,e,by simpa using he,h1,h2⟩
theorem Bh{z:Nat}{i:Nat}{oi:Oper}{v:Value}{fuel:Nat}{C0:Array Bool}{a:Act}{w:World}(hi:l[i]? =some oi)(Ko:pZ md l z i=true)(YP:i≠z)
 (hs:Region.noSelect l.toArray=true) (hf:Region.free md l.toArray C0 i=true) (hr:(Region.ready md l.toArray C0).contains i=true)
 (hQ:∀c a w,Q (.panic c) (a.put oi.dst v) w->Q (.panic c) a w) (hw:Region.wanted oi (yielded l.toArray a.tmps)=true) (hy:∀w,S w->(execOp a.eval oi).run P w=.ok (.value v) w) (hS:S w)
 (h:dr P md l.toArray Q S z fuel (C0.setIfInBounds i true) (a.put oi.dst v) w):dr P md l.toArray Q S z (fuel+1) C0 a w:=by
 obtain ⟨oz,hz,LV⟩:=rL Ko;exact pQ (by simpa using hi) (by simpa using hz) YP LV (Region.noSelect_spec hs) hQ fuel C0 a w (Region.free_spec (by simpa using hi) hf) (by simpa using hr) (.inl ⟨hw,hy⟩) hS h
theorem tZ{P:Program}{l:List Oper}{md:Region.Mode}{Q:Exit->Act->World->Prop}{S:World->Prop}{z:Nat}(i:Nat){oi:Oper}{v:Value}{fuel:Nat}{C0:Array Bool}{a:Act}{w:World}(h:dr P md l.toArray Q S z fuel (C0.setIfInBounds i true) (a.put oi.dst v) w)(hi:l[i]? =some oi:=by rfl)(hy:∀w,S w->(execOp a.eval oi).run P w=.ok (.value v) w:=by intro w hS;go_simp<;>rfl)(hS:S w:=by assumption)(Ko:pZ md l z i=true:=by kernel_rfl)(YP:i≠z:=by decide)(hs:Region.noSelect l.toArray=true:=by kernel_rfl)(hf:Region.free md l.toArray C0 i=true:=by kernel_rfl)(hr:(Region.ready md l.toArray C0).contains i=true:=by kernel_rfl)(hQ:∀c a w,Q (.panic c) (a.put oi.dst v) w->Q (.panic c) a w:=by intro c a w h;exact h)(hw:Region.wanted oi (yielded l.toArray a.tmps)=true:=by rfl):dr P md l.toArray Q S z (fuel+1) C0 a w:=Bh hi Ko YP hs hf hr hQ hw hy hS h
theorem cg{z i:Nat}{o:Oper}{fuel:Nat}{C0:Array Bool}{a:Act}{w:World}(ho:l[i]? =some o)(hr:Region.ready md l.toArray C0= [i])
 (h:∀K':Act->World->Prop,Shut (∀a w,(i≠z->S w)->((i≠z->S w)->dr P md l.toArray Q S z fuel (C0.setIfInBounds i true) a w)->K' a w)->if Region.wanted o (yielded l.toArray a.tmps)=true then Oper.wp P o a w K' Q else K' (a.put o.dst undef) w):dr P md l.toArray Q S z (fuel+1) C0 a w:=by
 refine ⟨fun h0=>absurd (hr▸h0) Q6,hr▸fun j hj=>?_⟩;obtain rfl:j=i:=by simpa using hj
 exact wpOp_step (by simpa using ho) (fun K' hK=>h K' (fun a w hS hW=>hK a w ⟨hS,hW hS⟩))
theorem jJ{z:Nat}{C0:Array Bool}{a:Act}{w:World}(hr:Region.ready md l.toArray C0= [])(h:Q .normal a w):∀fuel,dr P md l.toArray Q S z fuel C0 a w
 | 0=>⟨hr,h⟩
 | _+1=>⟨fun _=>h,by rw [hr];simp⟩
theorem cJ(z:Nat){id:Nat}{a:Act}{w:World}(hm:P.follows .mixedOrders=true)(hS:S w.drew)
 (h:S w.drew->dr P .any l.toArray Q S z l.toArray.size (Array.replicate l.toArray.size false) a w.drew):(Code.region id l.toArray true).wp P Q a w:=
 wp_region_any hm (nL _ _ _ _ (h hS))
end
open Go.RowKit
inductive Rl where
 | bx|sh|co|fu|ex
 | sI (i:Nat)|fp (i:Nat)|fl (i:Nat)|fc (i:Nat)
structure LF where
 vp:Value
 vl:Value
 vc:Value
 f:aO
structure LX where
 s:ByteArray
 q:Int
def cF(e:LF):List Value:= [e.vp,.int .i64 e.f.result,e.vl,e.vc]
def cX(e:LX):List Value:= [.string e.s,.int .i64 e.q]
theorem ww(e:LF):(cF e).length=4:=rfl
theorem Al(e:LX):(cX e).length=2:=rfl
def LX.p(e:LX):dq:=⟨e.s.data.toList,e.q⟩
def Ow(ρ:Nat->Rl)(r:Rl)(w:World)(B:Nat)(e:TypeId)(n:Nat)(v:Value)(len:Nat)(xs:List Value):Prop:=w.ownsRow B e n v len xs/\∀k,v.ownBlock=some k->ρ k=r
def Mv(B:Nat)(r0:Rl)(w w':World)(ρ ρ':Nat->Rl):Prop:=w.heap.size<=w'.heap.size/\∀k,k < w.heap.size->B<=k->ρ' k=ρ k/\(ρ k≠r0->w'.heap[k]? =w.heap[k]?)
theorem bS{w w':World}{B:Nat}{e:TypeId}{n len:Nat}{v:Value}{xs:List Value}(h:w.ownsRow B e n v len xs)(g:∀k,v.ownBlock=some k->w'.heap[k]? =w.heap[k]?):w'.ownsRow B e n v len xs:=by
 refine ⟨h.1,?_⟩;rcases h.2 with h|⟨b,cap,cur,e1,e2,e3,r⟩
 · exact .inl h
 · exact .inr ⟨b,cap,cur,e1,e2,(g b (by rw [e1];rfl)).trans e3,r⟩
theorem Ow.mv{ρ ρ':Nat->Rl}{r r0:Rl}{w w':World}{B:Nat}{e:TypeId}{n len:Nat}{v:Value}{xs:List Value}(h:Ow ρ r w B e n v len xs)(m:Mv B r0 w w' ρ ρ')(hr:r≠r0):Ow ρ' r w' B e n v len xs:=by
 refine ⟨bS h.1 fun k hk=>?_,fun k hk=>?_⟩
 · obtain ⟨h1,h2⟩:=h.1.lt k hk;exact (m.2 k h2 h1).2 (by rw [h.2 k hk];exact hr)
 · obtain ⟨h1,h2⟩:=h.1.lt k hk;rw [(m.2 k h2 h1).1];exact h.2 k hk
theorem Mv.gr{B:Nat}{r0:Rl}{w w':World}{ρ:Nat->Rl}(g:Gr w w'):Mv B r0 w w' ρ ρ:=⟨g.size,fun k hk _=>⟨rfl,fun _=>g.block k hk Q6⟩⟩
structure JA(B ab:Nat)(w:World)(v1 v2 v3 v5:Value)(O2:List (Value×List Int))(cs:List Int)(J1:List LF)(E3:List LX)(ρ:Nat->Rl):Prop where
 box:w.heap[ab]? =some (.cells #[v1,v2,v3,.slice none 0 0,v5] 29 (0,0))
 ab:ab < B
 bs:B<=w.heap.size
 o1:Ow ρ .sh w B 24 1 v1 O2.length (O2.map (·.1))
 o1i:∀i e,O2[i]? =some e->Ow ρ (.sI i) w B 3 1 e.1 e.2.length (fP e.2)
 o2:Ow ρ .co w B 3 1 v2 cs.length (fP cs)
 o3:Ow ρ .fu w B 47 4 v3 J1.length (J1.flatMap cF)
 o3i:∀i e,J1[i]? =some e->Ow ρ (.fp i) w B 3 1 e.vp e.f.aF.length (fP e.f.aF)/\Ow ρ (.fl i) w B 3 1 e.vl e.f.aG.length (fP e.f.aG)/\Ow ρ (.fc i) w B 42 3 e.vc e.f.code.length (e.f.code.flatMap cC)
 o5:Ow ρ .ex w B 60 2 v5 E3.length (E3.flatMap cX)
theorem JA.step{B ab:Nat}{w w':World}{v1 v2 v3 v5:Value}{O2:List (Value×List Int)}{cs:List Int}{J1:List LF}{E3:List LX}{ρ ρ':Nat->Rl}(h:JA B ab w v1 v2 v3 v5 O2 cs J1 E3 ρ)(g:Gr w w')(hρ:∀k,k < w.heap.size->ρ' k=ρ k):JA B ab w' v1 v2 v3 v5 O2 cs J1 E3 ρ':=by
 have m:∀r0,Mv B r0 w w' ρ ρ':=fun r0=>⟨g.size,fun k hk _=>⟨hρ k hk,fun _=>g.block k hk Q6⟩⟩
 have G5:ab < w.heap.size:=by have:=h.ab;have:=h.bs;omega
 exact ⟨(g.block ab G5 Q6).trans h.box,h.ab,Nat.le_trans h.bs g.size,h.o1.mv (m .bx) nofun,fun i e he=>(h.o1i i e he).mv (m .bx) nofun,h.o2.mv (m .bx) nofun,h.o3.mv (m .bx) nofun,fun i e he=>⟨(h.o3i i e he).1.mv (m .bx) nofun,(h.o3i i e he).2.1.mv (m .bx) nofun,(h.o3i i e he).2.2.mv (m .bx) nofun⟩,h.o5.mv (m .bx) nofun⟩
theorem pW{B ab o:Nat}{r0:Rl}{w w2 w3:World}{v v':Value}{ρ ν:Nat->Rl}(g:Gr w w2)(g3:w2.grownBy w3 v.ownBlock)(hv:∀k,v.ownBlock=some k->ρ k=r0)(G5:ab < B):Mv B r0 w (w3.setCell ⟨ab,o,none⟩ v') ρ (fun k=>if k < w.heap.size then ρ k else ν k):=by
 refine ⟨by have:=g.size;have:=g3.size;simp;omega,fun k hk hB=>⟨if_pos hk,fun hr=>?_⟩⟩;rw [Below.heap_setCell _ _ _ _ (by show k≠ab;omega),g3.block k (Nat.lt_of_lt_of_le hk g.size) (fun e=>hr (hv k e.symm)),g.block k hk Q6]
theorem pB{B ab o:Nat}{r0:Rl}{w w2 w3:World}{v v':Value}{ρ ν:Nat->Rl}{e:TypeId}{n len:Nat}{xs:List Value}(g:Gr w w2)(ho:w3.ownsRow B e n v' len xs)(hl:v'.ownBlock=v.ownBlock\/v'.ownBlock=some w2.heap.size)(hv:∀k,v.ownBlock=some k->ρ k=r0/\k < w.heap.size)(hν:∀k,w.heap.size<=k->v'.ownBlock=some k->ν k=r0)(G5:ab < B):Ow (fun k=>if k < w.heap.size then ρ k else ν k) r0 (w3.setCell ⟨ab,o,none⟩ v') B e n v' len xs:=by
 refine ⟨bS ho fun k hk=>Below.heap_setCell _ _ _ _ (by show k≠ab;have:=(ho.lt k hk).1;omega),fun k hk=>?_⟩;rcases hl with e|e
 · rw [hk] at e;obtain ⟨h1,h2⟩:=hv k e.symm;show (if k < w.heap.size then ρ k else ν k)=r0
   rw [if_pos h2];exact h1
 · rw [hk] at e;obtain rfl:=Option.some.inj e;have:¬w2.heap.size < w.heap.size:=by have:=g.size;omega
   show (if w2.heap.size < w.heap.size then ρ w2.heap.size else ν w2.heap.size)=r0
   rw [if_neg this];exact hν _ Q5 hk
theorem pR{B ab o b:Nat}{r:Rl}{w w2 w3:World}{v v' x:Value}{ρ ν:Nat->Rl}{e:TypeId}{n len:Nat}{xs:List Value}(g3:w2.grownBy w3 v.ownBlock)(hx:w2.ownsRow b e n x len xs)(hb:w.heap.size<=b)(PG:B<=b)(hv:∀k,v.ownBlock=some k->k < w.heap.size)(hν:∀k,x.ownBlock=some k->ν k=r)(G5:ab < B):Ow (fun k=>if k < w.heap.size then ρ k else ν k) r (w3.setCell ⟨ab,o,none⟩ v') B e n x len xs:=by
 refine ⟨?_,fun k hk=>?_⟩
 · refine bS (pb hx PG) fun k hk=>?_
   obtain ⟨h1,h2⟩:=hx.lt k hk;rw [Below.heap_setCell _ _ _ _ (by show k≠ab;omega),g3.block k h2 (fun e=>by have:=hv k e.symm;omega)]
 · have:=(hx.lt k hk).1
   show (if k < w.heap.size then ρ k else ν k)=r
   rw [if_neg Q5];exact hν k hk
theorem mK{w2 w3:World}{ab o:Nat}{ob:Option Nat}{cur:Array Value}{t:TypeId}{u:Value}(hb:w2.heap[ab]? =some (.cells cur t (0,0)))(g3:w2.grownBy w3 ob)(hne:ob≠some ab):(w3.setCell ⟨ab,o,none⟩ u).heap[ab]? =some (.cells (cur.setIfInBounds o u) t (0,0)):=
 heap_setCell_same w3 ab o cur t u ((g3.block ab (Array.getElem?_eq_some_iff.1 hb).1 (fun e=>hne e.symm)).trans hb)
section
variable {B ab:Nat} {w w2 w3:World} {v1 v2 v3 v5:Value} {O2:List (Value×List Int)} {cs:List Int} {J1:List LF} {E3:List LX} {ρ:Nat->Rl}
theorem jW{B ab:Nat}{w:World}{e:TypeId}{n len:Nat}{v:Value}{xs:List Value}(h:w.ownsRow B e n v len xs)(G5:ab < B):v.ownBlock≠some ab:=fun e=>by have:=(h.lt ab e).1;omega
theorem JA.put1(h:JA B ab w v1 v2 v3 v5 O2 cs J1 E3 ρ)(g:Gr w w2){vx:Value}{l:List Int}{b:Nat}(hx:w2.ownsRow b 3 1 vx l.length (fP l))(hb:w.heap.size<=b){v':Value}(ho:w3.ownsRow B 24 1 v' (O2.length+1) (O2.map (·.1)++ [vx]))(g3:w2.grownBy w3 v1.ownBlock)(hl:v'.ownBlock=v1.ownBlock\/v'.ownBlock=some w2.heap.size):
 ∃ρ',JA B ab (w3.setCell ⟨ab,0,none⟩ v') v' v2 v3 v5 (O2++ [(vx,l)]) cs J1 E3 ρ'/\Mv B .sh w (w3.setCell ⟨ab,0,none⟩ v') ρ ρ':=by
 have Ji:∀k,v1.ownBlock=some k->k < w.heap.size:=fun k hk=>(h.o1.1.lt k hk).2
 have G5:=h.ab;have m:Mv B .sh w (w3.setCell ⟨ab,0,none⟩ v') ρ (fun k=>if k < w.heap.size then ρ k else if v'.ownBlock=some k then .sh else .sI O2.length):=pW g g3 h.o1.2 G5;have P4:=(g.block ab (by have:=h.bs;omega) Q6).trans h.box;refine ⟨_,⟨?_,G5,Nat.le_trans h.bs m.1,?_,?_,h.o2.mv m nofun,h.o3.mv m nofun,fun i e he=>⟨(h.o3i i e he).1.mv m nofun,(h.o3i i e he).2.1.mv m nofun,(h.o3i i e he).2.2.mv m nofun⟩,h.o5.mv m nofun⟩,m⟩
 · exact (mK P4 g3 (jW h.o1.1 G5)).trans Q6
 · have:=pB (ab:=ab) (o:=0) (ρ:=ρ) (ν:=fun k=>if v'.ownBlock=some k then .sh else .sI O2.length) g ho hl (fun k hk=>⟨h.o1.2 k hk,Ji k hk⟩) (fun k _ hk=>if_pos hk) G5
   simpa using this
 · intro i e he;by_cases hi:i < O2.length
   · rw [List.getElem?_append_left hi] at he;exact (h.o1i i e he).mv m nofun
   · rw [List.getElem?_append_right Q5] at he;by_cases h0:i - O2.length=0
     · rw [h0] at he;simp only [List.getElem?_cons_zero,Option.some.injEq] at he;subst he;have P8:i=O2.length:=by omega
       subst P8;refine pR g3 hx hb (Nat.le_trans h.bs hb) Ji (fun k hk=>?_) G5;refine if_neg fun e=>?_
       obtain ⟨q1,q2⟩:=hx.lt k hk;rcases hl with e2|e2
       · have:=Ji k (e2.symm.trans e);omega
       · rw [e] at e2;have:=Option.some.inj e2;omega
     · rw [List.getElem?_eq_none gS] at he;cases he
theorem JA.put2(h:JA B ab w v1 v2 v3 v5 O2 cs J1 E3 ρ)(g:Gr w w2){l:List Int}{v':Value}(ho:w3.ownsRow B 3 1 v' (cs.length+l.length) (fP cs++fP l))(g3:w2.grownBy w3 v2.ownBlock)(hl:v'.ownBlock=v2.ownBlock\/v'.ownBlock=some w2.heap.size):
 ∃ρ',JA B ab (w3.setCell ⟨ab,1,none⟩ v') v1 v' v3 v5 O2 (cs++l) J1 E3 ρ'/\Mv B .co w (w3.setCell ⟨ab,1,none⟩ v') ρ ρ':=by
 have Ji:∀k,v2.ownBlock=some k->k < w.heap.size:=fun k hk=>(h.o2.1.lt k hk).2
 have G5:=h.ab;have m:Mv B .co w (w3.setCell ⟨ab,1,none⟩ v') ρ (fun k=>if k < w.heap.size then ρ k else .co):=pW (ν:=fun _=>.co) g g3 h.o2.2 G5;have P4:=(g.block ab (by have:=h.bs;omega) Q6).trans h.box;refine ⟨_,⟨?_,G5,Nat.le_trans h.bs m.1,h.o1.mv m nofun,fun i e he=>(h.o1i i e he).mv m nofun,?_,h.o3.mv m nofun,fun i e he=>⟨(h.o3i i e he).1.mv m nofun,(h.o3i i e he).2.1.mv m nofun,(h.o3i i e he).2.2.mv m nofun⟩,h.o5.mv m nofun⟩,m⟩
 · exact (mK P4 g3 (jW h.o2.1 G5)).trans Q6
 · have:=pB (ab:=ab) (o:=1) (ρ:=ρ) (ν:=fun _=>.co) g ho hl (fun k hk=>⟨h.o2.2 k hk,Ji k hk⟩) (fun k _ hk=>rfl) G5
   simpa [fP] using this
theorem JA.put3(h:JA B ab w v1 v2 v3 v5 O2 cs J1 E3 ρ)(g:Gr w w2){e:LF}{b:Nat}(hp:w2.ownsRow b 3 1 e.vp e.f.aF.length (fP e.f.aF))(ZU:w2.ownsRow b 3 1 e.vl e.f.aG.length (fP e.f.aG))(hc:w2.ownsRow b 42 3 e.vc e.f.code.length (e.f.code.flatMap cC))(a1:yc e.vp e.vl)(a2:yc e.vp e.vc)(a3:yc e.vl e.vc)(hb:w.heap.size<=b){v':Value}(ho:w3.ownsRow B 47 4 v' (J1.length+1) (J1.flatMap cF++cF e))(g3:w2.grownBy w3 v3.ownBlock)(hl:v'.ownBlock=v3.ownBlock\/v'.ownBlock=some w2.heap.size):
 ∃ρ',JA B ab (w3.setCell ⟨ab,2,none⟩ v') v1 v2 v' v5 O2 cs (J1++ [e]) E3 ρ'/\Mv B .fu w (w3.setCell ⟨ab,2,none⟩ v') ρ ρ':=by
 have Ji:∀k,v3.ownBlock=some k->k < w.heap.size:=fun k hk=>(h.o3.1.lt k hk).2
 have G5:=h.ab;obtain ⟨ν,hν⟩:∃ν:Nat->Rl,ν=fun k=>if v'.ownBlock=some k then .fu else if e.vp.ownBlock=some k then .fp J1.length else if e.vl.ownBlock=some k then .fl J1.length else .fc J1.length:=⟨_,rfl⟩
 have m:Mv B .fu w (w3.setCell ⟨ab,2,none⟩ v') ρ (fun k=>if k < w.heap.size then ρ k else ν k):=pW g g3 h.o3.2 G5;have P4:=(g.block ab (by have:=h.bs;omega) Q6).trans h.box;have Rj:∀(x:Value) (t:TypeId) (n len:Nat) (xs:List Value),w2.ownsRow b t n x len xs->∀k,x.ownBlock=some k->¬v'.ownBlock=some k:=fun x t n len xs hx k hk e=>by
  obtain ⟨q1,q2⟩:=hx.lt k hk;rcases hl with e2|e2
  · have:=Ji k (e2.symm.trans e);omega
  · rw [e] at e2;have:=Option.some.inj e2;omega
 refine ⟨_,⟨?_,G5,Nat.le_trans h.bs m.1,h.o1.mv m nofun,fun i e he=>(h.o1i i e he).mv m nofun,h.o2.mv m nofun,?_,?_,h.o5.mv m nofun⟩,m⟩
 · exact (mK P4 g3 (jW h.o3.1 G5)).trans Q6
 · have:=pB (ab:=ab) (o:=2) (ρ:=ρ) (ν:=ν) g ho hl (fun k hk=>⟨h.o3.2 k hk,Ji k hk⟩) (fun k _ hk=>by rw [hν];exact if_pos hk) G5
   simpa using this
 · intro i x hx;by_cases hi:i < J1.length
   · rw [List.getElem?_append_left hi] at hx;exact ⟨(h.o3i i x hx).1.mv m nofun,(h.o3i i x hx).2.1.mv m nofun,(h.o3i i x hx).2.2.mv m nofun⟩
   · rw [List.getElem?_append_right Q5] at hx;by_cases h0:i - J1.length=0
     · rw [h0] at hx;simp only [List.getElem?_cons_zero,Option.some.injEq] at hx;subst hx;have P8:i=J1.length:=by omega
       subst P8;have PG:=Nat.le_trans h.bs hb;refine ⟨pR g3 hp hb PG Ji (fun k hk=>?_) G5,pR g3 ZU hb PG Ji (fun k hk=>?_) G5,pR g3 hc hb PG Ji (fun k hk=>?_) G5⟩
       · rw [hν];simp only [if_neg (Rj _ _ _ _ _ hp k hk),if_pos hk]
       · rw [hν];simp only [if_neg (Rj _ _ _ _ _ ZU k hk),if_neg (a1.symm k hk),if_pos hk]
       · rw [hν];simp only [if_neg (Rj _ _ _ _ _ hc k hk),if_neg (a2.symm k hk),if_neg (a3.symm k hk)]
     · rw [List.getElem?_eq_none gS] at hx;cases hx
theorem JA.put5(h:JA B ab w v1 v2 v3 v5 O2 cs J1 E3 ρ)(g:Gr w w2){e:LX}{v':Value}(ho:w3.ownsRow B 60 2 v' (E3.length+1) (E3.flatMap cX++cX e))(g3:w2.grownBy w3 v5.ownBlock)(hl:v'.ownBlock=v5.ownBlock\/v'.ownBlock=some w2.heap.size):
 ∃ρ',JA B ab (w3.setCell ⟨ab,4,none⟩ v') v1 v2 v3 v' O2 cs J1 (E3++ [e]) ρ'/\Mv B .ex w (w3.setCell ⟨ab,4,none⟩ v') ρ ρ':=by
 have Ji:∀k,v5.ownBlock=some k->k < w.heap.size:=fun k hk=>(h.o5.1.lt k hk).2
 have G5:=h.ab;have m:Mv B .ex w (w3.setCell ⟨ab,4,none⟩ v') ρ (fun k=>if k < w.heap.size then ρ k else .ex):=pW (ν:=fun _=>.ex) g g3 h.o5.2 G5;have P4:=(g.block ab (by have:=h.bs;omega) Q6).trans h.box;refine ⟨_,⟨?_,G5,Nat.le_trans h.bs m.1,h.o1.mv m nofun,fun i e he=>(h.o1i i e he).mv m nofun,h.o2.mv m nofun,h.o3.mv m nofun,fun i e he=>⟨(h.o3i i e he).1.mv m nofun,(h.o3i i e he).2.1.mv m nofun,(h.o3i i e he).2.2.mv m nofun⟩,?_⟩,m⟩
 · exact (mK P4 g3 (jW h.o5.1 G5)).trans Q6
 · have:=pB (ab:=ab) (o:=4) (ρ:=ρ) (ν:=fun _=>.ex) g ho hl (fun k hk=>⟨h.o5.2 k hk,Ji k hk⟩) (fun k _ hk=>rfl) G5
   simpa using this
end
end Go.Proofs.YtkgncijcnlfhiabGreat
