import Derived.Test.YtkgncijcnlfhiabGreatZo
import Derived.Test.YtkgncijcnlfhiabGreatRg2
import Derived.Test.YtkgncijcnlfhiabGreatZn
import Derived.Test.YtkgncijcnlfhiabGreatQ3
import Derived.Test.YtkgncijcnlfhiabGreatNs
import Derived.Test.YtkgncijcnlfhiabGreatZ3
namespace Go.Proofs.YtkgncijcnlfhiabGreat
set_option maxRecDepth 100000
set_option maxHeartbeats 4000000
set_option linter.unusedVariables false
set_option linter.unusedSimpArgs false
open Go.RowKit
attribute [local go_sem ↓] Go.wp_at_zero Go.wp_at_succ
theorem Tryz.callScope(M0:Array Value)(w:World):(callFunc 32 M0).run Tryz.prog w=.ok (.enter 32 M0) w:=Q7
theorem Tryz.infLooker:(Tryz.prog.info? 87).map (·.size)=some 12:=Q7
theorem xE{W w:World}{g:Nat}{cs:Array Value}(h:Gr W w)(hg:W.heap.size<=g):Gr W (w.setRow g cs):=
 ⟨h.os,h.tape,h.output,by simpa using h.size,fun i hi hne=>by rw [setRow_other w g i cs Q5];exact h.block i hi hne⟩
theorem Aq.gr{w w':World}{b:Nat}(h:Aq w b)(g:Gr w w'):Aq w' b:=by
 obtain ⟨arr,e⟩:=h;exact ⟨arr,(g.block b (Array.getElem?_eq_some_iff.1 e).1 Q6).trans e⟩
def Bq(W0:World)(v1 v2 v3 v4 v5:Value)(N:Nat)(res:Int)(sl:List Int)(v:Value)(w:World):Prop:=∃vs,v=.agg #[v1,v2,v3,v4,v5,vs,.int .i64 (N:Int),.int .i64 res]/\dS (fun b=>W0.heap.size<=b/\Aq w b) w vs sl
def Bp(W0:World)(v:Value)(w:World):Prop:=∃mb,v=.map (some mb)/\W0.heap.size<=mb/\w.heap[mb]? =some (.map #[] 0)
def Bm(W0:World)(v:Value)(w:World):Prop:=∃lb,v=.pointer (some ⟨lb,0,none⟩)/\W0.heap.size<=lb/\w.heap[lb]? =some (.cells #[.slice none 0 0,.slice none 0 0,.slice none 0 0,.slice none 0 0,.slice none 0 0,.slice none 0 0,.int .i64 0,.int .i64 0,.int .i64 0,.slice none 0 0,.map none,.slice none 0 0] 87 (0,0))
def CO(k:Nat)(vc vx vy vt:Value):Prop:=∃x1 x2 x3 x4 x5 x6 x7 x8 mb,vx=.agg #[x1,x2,x3,x4,x5,x6,x7,x8]/\vy=.map (some mb)/\vt=.agg #[x1,x2,x3,x4,x5,x6,x7,x8,.int .i64 (k:Int),vc,.map (some mb),.slice none 0 0]
theorem Bq.gr{W0 w w':World}{v1 v2 v3 v4 v5 v:Value}{N:Nat}{res:Int}{sl:List Int}(h:Bq W0 v1 v2 v3 v4 v5 N res sl v w)(g:Gr w w'):Bq W0 v1 v2 v3 v4 v5 N res sl v w':=by
 obtain ⟨vs,e,r⟩:=h;exact ⟨vs,e,r.mono fun b hb hl=>⟨g.block b hl Q6,hb.1,hb.2.gr g⟩⟩
theorem Bp.gr{W0 w w':World}{v:Value}(h:Bp W0 v w)(g:Gr w w'):Bp W0 v w':=by
 obtain ⟨mb,e,h1,h2⟩:=h;exact ⟨mb,e,h1,(g.block mb (Array.getElem?_eq_some_iff.1 h2).1 Q6).trans h2⟩
theorem Bm.gr{W0 w w':World}{v:Value}(h:Bm W0 v w)(g:Gr w w'):Bm W0 v w':=by
 obtain ⟨mb,e,h1,h2⟩:=h;exact ⟨mb,e,h1,(g.block mb (Array.getElem?_eq_some_iff.1 h2).1 Q6).trans h2⟩
theorem e_.empty{w:World}{b:Nat}(h:w.heap[b]? =some (.map #[] 0)):e_ w b 0 (fun _=>none):=by
 obtain ⟨D,⟨es,clock,hb,r⟩,h2⟩:=(e_.made w).is;rw [heap_alloc_new] at hb;simp only [Option.some.injEq,Obj.map.injEq] at hb;obtain ⟨rfl,rfl⟩:=hb;exact ⟨D,⟨_,_,h,r⟩,h2⟩
theorem ua(n:Nat):ci n (fun _=>(none:Option (List Int)).isSome)=n:=iL n
theorem sQ{u:aK}(h:ai u=true):u.aD.length<=50/\u.aE.length<=30/\u.aB.length<=20/\∀f∈u.aE,f.aF.length<=6/\f.aG.length<=10/\1<=f.code.length/\f.code.length<=200/\f.code.all a_=true:=by
 unfold ai cV b9 bZ wB at h;simp only [Bool.and_eq_true,decide_eq_true_eq] at h;obtain ⟨-,h2,⟨h3,h4⟩,⟨h5,-⟩,-⟩:=h;refine ⟨Q5,Q5,Q5,fun f hf=>?_⟩;have:=List.all_eq_true.1 h4 f hf
 unfold dD fL gG wB at this;simp only [Bool.and_eq_true,decide_eq_true_eq] at this;obtain ⟨⟨p1,-⟩,q1,-,⟨c1,c2⟩⟩:=this;exact ⟨Q5,Q5,Q5,Q5,c2⟩
theorem qj(u:aK):lF u:=by
 intro V vu hR;have HRU:=aH hR;obtain ⟨v1,v2,v3,v4,v5,rfl,h1,h2,h3,h4,h5⟩:=hR;obtain ⟨a1,c1,rfl⟩:=h1.shape;obtain ⟨a2,c2,rfl⟩:=h2.shape;obtain ⟨a4,c4,rfl⟩:=h4.shape;obtain ⟨a5,c5,rfl⟩:=h5.shape;have H3:=aH h3;have H1:=aH h1;have H4:=aH h4;obtain ⟨a3,c3,rfl,Hb,Pd⟩:=h3;have P6:=aH Pd;unfold maxLen at Hb;clear h1 h2 h4 h5 Pd;have S7:=aH (Gr.alloc (Gr.refl V) (.cells #[.slice a1 u.aA.length c1,.slice a2 u.aD.length c2,.slice a3 u.aE.length c3,.slice a4 u.aB.length c4,.slice a5 u.aC.length c5] 29));have Zv:=aH (km u (.agg #[.slice a1 u.aA.length c1,.slice a2 u.aD.length c2,.slice a3 u.aE.length c3,.slice a4 u.aB.length c4,.slice a5 u.aC.length c5]) 1 0 _ (HRU.out.gr S7.out));cases N2:ai u with
 | false=>
  have HV:Hid (aY u=(1,0,0)):=aH (by unfold aY;rw [N2];rfl);rw [N2,xi] at Zv;clear N2;go_enter Tryz.func18,Tryz.ntmps18
  go_wp2_with fail
  refine Zv.out.mono ?_;rintro x w1 ⟨rfl,hg1⟩;refine ⟨rfl,?_,.inr ?_⟩
  · exact (Below.refl V.heap.size V).grown (S7.out.trans hg1) (Nat.le_refl _) Q6
  · rw [HV.out];rfl
 | true=>
  have HV:Hid (aY u=eU u 0 u.aE):=aH (by unfold aY;rw [N2];rfl);have M8:=aH N2;rw [N2,xJ] at Zv;clear N2;go_enter Tryz.func18,Tryz.ntmps18
  go_wp2_with fail
  refine Zv.out.mono ?_;rintro x w1 ⟨rfl,hg1⟩;have I1:=aH hg1;have KB:Hid (∀w',Gr (V.alloc (.cells #[.slice a1 u.aA.length c1,.slice a2 u.aD.length c2,.slice a3 u.aE.length c3,.slice a4 u.aB.length c4,.slice a5 u.aC.length c5] 29)) w'->w'.cell? ⟨V.heap.size,0,none⟩=some (.slice a1 u.aA.length c1)/\w'.cell? ⟨V.heap.size,1,none⟩=some (.slice a2 u.aD.length c2)/\w'.cell? ⟨V.heap.size,2,none⟩=some (.slice a3 u.aE.length c3)/\w'.cell? ⟨V.heap.size,3,none⟩=some (.slice a4 u.aB.length c4)/\w'.cell? ⟨V.heap.size,4,none⟩=some (.slice a5 u.aC.length c5)):=aH (fun w' g=>by
   have e0:=(g.block V.heap.size Q6 Q6).trans (heap_alloc_new V _);refine ⟨?_,?_,?_,?_,?_⟩<;>(rw [aU e0];rfl))
  obtain ⟨s0,s1,s2,s3,s4⟩:=KB.out w1 hg1;clear hg1 Zv;go_wp2_with fail
  go_loopw [11] (fun i wr=>∃k:Nat,i=.int .i64 (k:Int)/\k<=u.aE.length/\aY u=eU u k (u.aE.drop k)/\Gr (V.alloc (.cells #[.slice a1 u.aA.length c1,.slice a2 u.aD.length c2,.slice a3 u.aE.length c3,.slice a4 u.aB.length c4,.slice a5 u.aC.length c5] 29)) wr) (fun i _=>u.aE.length - (intOf i).toNat)
  case atStart=>exact ⟨0,rfl,Nat.zero_le _,HV.out,I1.out⟩
  case round=>
   obtain ⟨k,rfl,hk,hv,hg⟩:=hrel;have MR:=aH hv;have HGk:=aH hg;obtain ⟨e0,e1,e2,e3,e4⟩:=KB.out wr hg;clear hv hg HV I1 s0 s1 s2 s3 s4;by_cases J0:k < u.aE.length
   · obtain ⟨f,hf⟩:=aX J0;have hfm:f∈u.aE:=List.mem_of_getElem? hf;obtain ⟨b,off,vp,vl,vc,rfl,f0,f1,f2,f3,M',Em,Rn⟩:=P6.out k f hf;obtain ⟨ap,cp,rfl⟩:=M'.shape;obtain ⟨al,cl,rfl⟩:=Em.shape;obtain ⟨ac,cc,rfl⟩:=Rn.shape;have E':Gr V wr:=S7.out.trans HGk.out;have f0:=E'.cell f0 Q6;have f1:=E'.cell f1 Q6;have f2:=E'.cell f2 Q6;have f3:=E'.cell f3 Q6;have Hf:(k:Int) < (u.aE.length:Int):=by omega
     have hw:IntKind.i64.wrap ((k:Int)+1)=(k:Int)+1:=Q_;obtain ⟨us2,us3,us4,usf⟩:=sQ M8.out;obtain ⟨Om,Sq,hcl1,hcl2,C2⟩:=usf f hfm;have Om:f.aF.length<=10000:=Q5
     have Sq:f.aG.length<=10000:=Q5
     have J7:Hid (aY u=match e9 u f with|some q=>(10,k,q)|none=>eU u (k+1) (u.aE.drop (k+1))):=aH (by
      rw [MR.out,List.drop_eq_getElem_cons J0];have:u.aE[k]=f:=by rw [List.getElem?_eq_getElem J0] at hf;exact Option.some.inj hf
      rw [this,eU];cases e9 u f<;>rfl)
     clear hf MR;have GK:=Gr.alloc (Gr.refl wr) (.cells #[.slice ap f.aF.length cp,.int .i64 f.result,.slice al f.aG.length cl,.slice ac f.code.length cc] 47);have X8:=aH GK;have NR:=aH (heap_alloc_new wr (.cells #[.slice ap f.aF.length cp,.int .i64 f.result,.slice al f.aG.length cl,.slice ac f.code.length cc] 47));have Ig:Hid ((wr.alloc (.cells #[.slice ap f.aF.length cp,.int .i64 f.result,.slice al f.aG.length cl,.slice ac f.code.length cc] 47)).heap.size=wr.heap.size+1):=aH Q6;go_upto_region 5 with fail
     generalize wr.alloc (.cells #[.slice ap f.aF.length cp,.int .i64 f.result,.slice al f.aG.length cl,.slice ac f.code.length cc] 47)=W0 at X8 NR Ig |-;have MJ:=aH ((M'.gr E').gr X8.out);have HRl:=aH ((Em.gr E').gr X8.out);have F9:=aH (E'.trans X8.out);have Nt:=aH (HGk.out.trans X8.out);have HRc:=aH ((Rn.gr E').gr X8.out);have DQ:Hid (CK W0 u f (.slice a1 u.aA.length c1) (.slice a2 u.aD.length c2) (.slice (some ⟨b,off,none⟩) u.aE.length c3) (.slice a4 u.aB.length c4) (.slice a5 u.aC.length c5) (.slice ac f.code.length cc)):=aH ⟨H1.out.gr F9.out,⟨_,_,rfl⟩,H3.out.gr F9.out,H4.out.gr F9.out,⟨_,_,_,rfl⟩,Q5,Q5,Q5,HRc.out,C2⟩;have KS:Hid (∀w',Gr W0 w'->w'.cell? ⟨V.heap.size,0,none⟩=some (.slice a1 u.aA.length c1)/\w'.cell? ⟨V.heap.size,1,none⟩=some (.slice a2 u.aD.length c2)/\w'.cell? ⟨V.heap.size,2,none⟩=some (.slice (some ⟨b,off,none⟩) u.aE.length c3)/\w'.cell? ⟨V.heap.size,3,none⟩=some (.slice a4 u.aB.length c4)/\w'.cell? ⟨V.heap.size,4,none⟩=some (.slice a5 u.aC.length c5)/\w'.cell? ⟨wr.heap.size,0,none⟩=some (.slice ap f.aF.length cp)/\w'.cell? ⟨wr.heap.size,1,none⟩=some (.int .i64 f.result)/\w'.cell? ⟨wr.heap.size,2,none⟩=some (.slice al f.aG.length cl)/\w'.cell? ⟨wr.heap.size,3,none⟩=some (.slice ac f.code.length cc)):=aH (fun w' g=>by
      obtain ⟨x0,x1,x2,x3,x4⟩:=KB.out w' (Nt.out.trans g);have R0:=Ig.out;have ef:=(g.block wr.heap.size Q5 Q6).trans NR.out;refine ⟨x0,x1,x2,x3,x4,?_,?_,?_,?_⟩<;>(rw [aU ef];rfl))
     clear M' Em Rn E' GK f0 f1 f2 f3 e0 e1 e2 e3 e4 usf;refine wp_region_held_drew (S:=(fun w'=>w'.cell? ⟨V.heap.size,0,none⟩=some (.slice a1 u.aA.length c1)/\w'.cell? ⟨V.heap.size,1,none⟩=some (.slice a2 u.aD.length c2)/\w'.cell? ⟨V.heap.size,2,none⟩=some (.slice (some ⟨b,off,none⟩) u.aE.length c3)/\w'.cell? ⟨V.heap.size,3,none⟩=some (.slice a4 u.aB.length c4)/\w'.cell? ⟨V.heap.size,4,none⟩=some (.slice a5 u.aC.length c5)/\w'.cell? ⟨wr.heap.size,0,none⟩=some (.slice ap f.aF.length cp)/\w'.cell? ⟨wr.heap.size,1,none⟩=some (.int .i64 f.result)/\w'.cell? ⟨wr.heap.size,2,none⟩=some (.slice al f.aG.length cl)/\w'.cell? ⟨wr.heap.size,3,none⟩=some (.slice ac f.code.length cc))) Q7 (KS.out _ (Gr.drew (Gr.refl _))) (fun hH=>?_);refine tL 0 ?_;simp only [Act.put,sA,s0,s1];refine tL 1 ?_;simp only [Act.put,sA,s0,s1];refine tL 3 ?_;simp only [Act.put,sA,s0,s1];refine tL 4 ?_;simp only [Act.put,sA,s0,s1];refine tL 5 ?_;simp only [Act.put,sA,s0,s1];refine zI (x:=2) (y:=6) (z:=8) (t:=7) rfl rfl rfl rfl Q7 Q7 Q7 Q7 Q7 Q9 Q9 Q9 Q9 Q7 Q7 Q7 Q7 Q7 Q7 Q7 Q7 Q7 Q7 Q7 cw cw cw (fun c a d v w h=>by cases d<;>exact h) (fun c a d v w h=>by cases d<;>exact h) (fun w'=>Gr W0 w') (Bq W0 (.slice a1 u.aA.length c1) (.slice a2 u.aD.length c2) (.slice (some ⟨b,off,none⟩) u.aE.length c3) (.slice a4 u.aB.length c4) (.slice a5 u.aC.length c5) f.code.length f.result (f.aF++f.aG)) (Bp W0) (Bm W0) (CO k (.slice ac f.code.length cc)) (fun w' g=>KS.out w' g) (Gr.drew (Gr.refl _)) ?stX ?stY ?stZ ?stT ?stR
     case stX=>
      intro w' j K hK;have HK:=aH hK;clear hK;refine wn 32 _ _ rfl #[.agg #[.slice a1 u.aA.length c1,.slice a2 u.aD.length c2,.slice (some ⟨b,off,none⟩) u.aE.length c3,.slice a4 u.aB.length c4,.slice a5 u.aC.length c5],.agg #[.slice ap f.aF.length cp,.int .i64 f.result,.slice al f.aG.length cl,.slice ac f.code.length cc]] fk (Tryz.callScope _ _) ((ut _ _ _ _ _ _ _ _ f w' Q6 (MJ.out.gr j) (HRl.out.gr j) ⟨_,_,rfl⟩ Om Sq).mono ?_);rintro x w2 ⟨vs,rfl,hg,Ym⟩;exact .inl ⟨_,rfl,HK.out _ _ ⟨j.trans hg,⟨vs,rfl,Ym.mono fun b hb hl=>⟨rfl,Nat.le_trans j.size hb.1,hb.2⟩⟩,fun u h=>h.gr hg,fun u h=>h.gr hg⟩⟩
     case stY=>
      intro w' j K hK;have HK:=aH hK;clear hK;go_simp
      exact HK.out (.map (some w'.heap.size)) _ ⟨j.alloc _,⟨_,rfl,j.size,heap_alloc_new w' _⟩,fun u h=>h.gr ((Gr.refl w').alloc _),fun u h=>h.gr ((Gr.refl w').alloc _)⟩
     case stZ=>
      intro w' j K hK;have HK:=aH hK;clear hK;go_simp
      exact HK.out (.pointer (some ⟨w'.heap.size,0,none⟩)) _ ⟨j.alloc _,⟨_,rfl,j.size,heap_alloc_new w' _⟩,fun u h=>h.gr ((Gr.refl w').alloc _),fun u h=>h.gr ((Gr.refl w').alloc _)⟩
     case stT=>
      rintro vx vy w' j ⟨vs,rfl,Ym⟩ ⟨mb,rfl,Rf,OR⟩;obtain ⟨Th,cs,rfl⟩:=Ym.to.shape;clear Ym OR;refine ⟨_,⟨_,_,_,_,_,_,_,_,_,rfl,rfl,rfl⟩,cw,?_⟩;intro w M5;simp only [Act.put,sA,s0,s1];go_simp
     case stR=>
      rintro vx vy vz vt w2 j ⟨vs,rfl,Ym⟩ ⟨mb,rfl,Rf,OR⟩ ⟨lb,rfl,Sh,hlh⟩ ⟨x1,x2,x3,x4,x5,x6,x7,x8,mb2,e1,e2,rfl⟩;simp only [Value.agg.injEq,Array.mk.injEq,List.cons.injEq,and_true,Value.map.injEq,Option.some.injEq] at e1 e2;obtain ⟨rfl,rfl,rfl,rfl,rfl,rfl,rfl,rfl⟩:=e1;obtain rfl:=e2;obtain ⟨Th,cs,rfl⟩:=Ym.to.shape;have hH:=KS.out w2 j;have HJ:=aH j;have HRI:=aH Ym;have HMH:=aH OR;have PR:=aH hlh;clear Ym j OR hlh;simp only [Act.put,sA,s0,s1];refine aq (i:=9) rfl Q7 (fun K hK=>?_);refine ae cw (wp_store_row (P:=Tryz.prog) 87 _ _ rfl lb #[.slice a1 u.aA.length c1,.slice a2 u.aD.length c2,.slice (some ⟨b,off,none⟩) u.aE.length c3,.slice a4 u.aB.length c4,.slice a5 u.aC.length c5,.slice Th (f.aF++f.aG).length cs,.int .i64 (f.code.length:Int),.int .i64 f.result,.int .i64 (k:Int),.slice ac f.code.length cc,.map (some mb),.slice none 0 0] cw fk 87 _ PR.out Tryz.infLooker rfl (by simp [Value.oneCell']) ?_);refine hK.out _ _ (KS.out _ (xE HJ.out Sh)) (fun hH=>?_);clear hK;try simp only [Act.put,sA,s0,s1]
      refine wpAnyH_done Q7 ?_ _;have hLb:(w2.setRow lb #[.slice a1 u.aA.length c1,.slice a2 u.aD.length c2,.slice (some ⟨b,off,none⟩) u.aE.length c3,.slice a4 u.aB.length c4,.slice a5 u.aC.length c5,.slice Th (f.aF++f.aG).length cs,.int .i64 (f.code.length:Int),.int .i64 f.result,.int .i64 (k:Int),.slice ac f.code.length cc,.map (some mb),.slice none 0 0]).heap[lb]? =some (.cells #[.slice a1 u.aA.length c1,.slice a2 u.aD.length c2,.slice (some ⟨b,off,none⟩) u.aE.length c3,.slice a4 u.aB.length c4,.slice a5 u.aC.length c5,.slice Th (f.aF++f.aG).length cs,.int .i64 (f.code.length:Int),.int .i64 f.result,.int .i64 (k:Int),.slice ac f.code.length cc,.map (some mb),.slice none 0 0] 87 (0,0)):=setRow_heap w2 lb _ _ _ _ PR.out;have Pq:¬mb=lb:=fun e=>by have h1:=HMH.out;rw [e,PR.out] at h1;cases h1
      have hMb:(w2.setRow lb #[.slice a1 u.aA.length c1,.slice a2 u.aD.length c2,.slice (some ⟨b,off,none⟩) u.aE.length c3,.slice a4 u.aB.length c4,.slice a5 u.aC.length c5,.slice Th (f.aF++f.aG).length cs,.int .i64 (f.code.length:Int),.int .i64 f.result,.int .i64 (k:Int),.slice ac f.code.length cc,.map (some mb),.slice none 0 0]).heap[mb]? =some (.map #[] 0):=(setRow_other w2 lb mb _ Pq).trans HMH.out;have IK:lb < (w2.setRow lb #[.slice a1 u.aA.length c1,.slice a2 u.aD.length c2,.slice (some ⟨b,off,none⟩) u.aE.length c3,.slice a4 u.aB.length c4,.slice a5 u.aC.length c5,.slice Th (f.aF++f.aG).length cs,.int .i64 (f.code.length:Int),.int .i64 f.result,.int .i64 (k:Int),.slice ac f.code.length cc,.map (some mb),.slice none 0 0]).heap.size:=(Array.getElem?_eq_some_iff.1 hLb).1;have JK:mb < (w2.setRow lb #[.slice a1 u.aA.length c1,.slice a2 u.aD.length c2,.slice (some ⟨b,off,none⟩) u.aE.length c3,.slice a4 u.aB.length c4,.slice a5 u.aC.length c5,.slice Th (f.aF++f.aG).length cs,.int .i64 (f.code.length:Int),.int .i64 f.result,.int .i64 (k:Int),.slice ac f.code.length cc,.map (some mb),.slice none 0 0]).heap.size:=(Array.getElem?_eq_some_iff.1 hMb).1;have KK:Gr W0 (w2.setRow lb #[.slice a1 u.aA.length c1,.slice a2 u.aD.length c2,.slice (some ⟨b,off,none⟩) u.aE.length c3,.slice a4 u.aB.length c4,.slice a5 u.aC.length c5,.slice Th (f.aF++f.aG).length cs,.int .i64 (f.code.length:Int),.int .i64 f.result,.int .i64 (k:Int),.slice ac f.code.length cc,.map (some mb),.slice none 0 0]):=xE HJ.out Sh;have hSl:dS (fun bb=>¬bb=lb/\¬bb=mb/\bb < (w2.setRow lb #[.slice a1 u.aA.length c1,.slice a2 u.aD.length c2,.slice (some ⟨b,off,none⟩) u.aE.length c3,.slice a4 u.aB.length c4,.slice a5 u.aC.length c5,.slice Th (f.aF++f.aG).length cs,.int .i64 (f.code.length:Int),.int .i64 f.result,.int .i64 (k:Int),.slice ac f.code.length cc,.map (some mb),.slice none 0 0]).heap.size) (w2.setRow lb #[.slice a1 u.aA.length c1,.slice a2 u.aD.length c2,.slice (some ⟨b,off,none⟩) u.aE.length c3,.slice a4 u.aB.length c4,.slice a5 u.aC.length c5,.slice Th (f.aF++f.aG).length cs,.int .i64 (f.code.length:Int),.int .i64 f.result,.int .i64 (k:Int),.slice ac f.code.length cc,.map (some mb),.slice none 0 0]) (.slice Th (f.aF++f.aG).length cs) (f.aF++f.aG):=HRI.out.mono fun bb hb hl=>by
       obtain ⟨arr,Jl⟩:=hb.2;have n1:¬bb=lb:=fun e=>by rw [e,PR.out] at Jl;cases Jl
       have n2:¬bb=mb:=fun e=>by rw [e,HMH.out] at Jl;cases Jl
       exact ⟨setRow_other w2 lb bb _ n1,n1,n2,by rw [setRow_size];exact hl⟩
      have HLk:Hid (kR W0 (w2.setRow lb #[.slice a1 u.aA.length c1,.slice a2 u.aD.length c2,.slice (some ⟨b,off,none⟩) u.aE.length c3,.slice a4 u.aB.length c4,.slice a5 u.aC.length c5,.slice Th (f.aF++f.aG).length cs,.int .i64 (f.code.length:Int),.int .i64 f.result,.int .i64 (k:Int),.slice ac f.code.length cc,.map (some mb),.slice none 0 0]) lb mb (w2.setRow lb #[.slice a1 u.aA.length c1,.slice a2 u.aD.length c2,.slice (some ⟨b,off,none⟩) u.aE.length c3,.slice a4 u.aB.length c4,.slice a5 u.aC.length c5,.slice Th (f.aF++f.aG).length cs,.int .i64 (f.code.length:Int),.int .i64 f.result,.int .i64 (k:Int),.slice ac f.code.length cc,.map (some mb),.slice none 0 0]).heap.size (.slice a1 u.aA.length c1) (.slice a2 u.aD.length c2) (.slice (some ⟨b,off,none⟩) u.aE.length c3) (.slice a4 u.aB.length c4) (.slice a5 u.aC.length c5) (.slice Th (f.aF++f.aG).length cs) (f.aF++f.aG) f.code.length f.result k (.slice ac f.code.length cc) (.slice none 0 0) (fun _=>none) (fun _=>false) (fun _=>none) [] 0):=aH
       ⟨hLb,World.ownsRow_nil _ _ _ _,IK,Nat.le_refl _,e_.empty hMb,JK,Pq,(fun j s h=>by cases h),(fun j s h=>by cases h),(fun j h=>rfl),lB.empty _ _,by rw [ua];omega,Q5,Q6,hSl,(Below.refl W0.heap.size W0).grown KK (Nat.le_refl _) Q6,Sh,Rf⟩
      have HTH:=aH (sZ W0 _ lb mb _ _ _ _ _ _ _ _ u f k _ (wF W0 lb mb _ _ _ _ _ _ (.slice Th (f.aF++f.aG).length cs) u f k _ DQ.out) M8.out hfm Q5 HLk.out);clear HLk hSl hLb hMb KK KS;generalize w2.setRow lb #[.slice a1 u.aA.length c1,.slice a2 u.aD.length c2,.slice (some ⟨b,off,none⟩) u.aE.length c3,.slice a4 u.aB.length c4,.slice a5 u.aC.length c5,.slice Th (f.aF++f.aG).length cs,.int .i64 (f.code.length:Int),.int .i64 f.result,.int .i64 (k:Int),.slice ac f.code.length cc,.map (some mb),.slice none 0 0]=wf at HTH IK JK |-;go_wp2_with fail
      refine HTH.out.mono ?_;intro x w3 h3;unfold zz at h3;obtain ⟨D1,Le⟩:=h3;have K8:Gr W0 w3:=ju D1;have HG3:=aH K8;cases Ll:e9 u f with
      | some q=>
       rw [Ll] at Le;simp only [] at Le;subst Le;refine ⟨rfl,(Below.refl V.heap.size V).grown (F9.out.trans K8) (Nat.le_refl _) Q6,.inr ?_⟩;have e:aY u=(10,k,q):=by rw [J7.out,Ll]
       rw [e];rfl
      | none=>
       rw [Ll] at Le;simp only [] at Le;subst Le;have Qz:Hid (aY u=eU u (k+1) (u.aE.drop (k+1))):=aH (by rw [J7.out,Ll]);clear Ll D1 K8 HTH J7;go_wp2_with fail
       exact ⟨⟨k+1,Q6,J0,Qz.out,Nt.out.trans HG3.out⟩,by simp [intOf];omega⟩
   · have L7:k=u.aE.length:=by omega
     subst L7;have Qz:Hid (aY u=(0,0,0)):=aH (by rw [MR.out,List.drop_length];rfl);clear J0 hk MR;go_wp2_with fail
     go_end0
     exact ⟨(Below.refl V.heap.size V).grown (S7.out.trans HGk.out) (Nat.le_refl _) Q6,.inl ⟨rfl,Qz.out⟩⟩
def vm{α:Type}(f:List UInt8->Option (α×List UInt8))(g:α->List UInt8)(Q:α->Prop):Prop:=∀y r,Q y->f (g y++r)=some (y,r)
theorem uV{x:Int}:ig (pf x)=x:=by
 unfold ig pf;split
 · rw [if_pos Q5];omega
 · rw [if_neg Q5];omega
def CZ(x:Int):Prop:=-9223372036854775808<=x/\x<=9223372036854775807
def mR(x:Int):Prop:=0<=x/\x<=9223372036854775807
theorem mX:vm af dl CZ:=by
 intro y r h;unfold af dl;rw [lJ r (rz h.1 h.2)];simp [uV]
theorem fX:vm ar ba mR:=by
 intro y r h;unfold ar ba;have h1:=h.1;have h2:=h.2;rw [lJ r Q5];simp only;rw [if_pos Q5];simp;omega
theorem rQ:vm dw b_ (fun s=>s.length < 18446744073709551616):=by
 intro y r h;unfold dw b_;rw [List.append_assoc,lJ _ h];exact py y r
theorem td{α:Type}{f:List UInt8->Option (α×List UInt8)}{g:α->List UInt8}{Q:α->Prop}(hf:vm f g Q):∀(ys:List α) (r:List UInt8),(∀y∈ys,Q y)->fT f ys.length (ys.flatMap g++r)=some (ys,r)
 | [],r,_=>rfl
 | y :: ys,r,h=>by
  have h1:=hf y (ys.flatMap g++r) (h y List.mem_cons_self);have h2:=td hf ys r (fun z hz=>h z (List.mem_cons_of_mem _ hz));simp only [List.flatMap_cons,List.length_cons,List.append_assoc];unfold fT;rw [h1];simp only [h2]
theorem uE{α:Type}{g:α->List UInt8}(hg:∀y,1<=(g y).length):∀ys:List α,ys.length<=(ys.flatMap g).length
 | []=>by simp
 | y :: ys=>by
  have:=uE hg ys
  have:=hg y
  simp only [List.flatMap_cons,List.length_cons,List.length_append];omega
theorem iD{α:Type}{f:List UInt8->Option (α×List UInt8)}{g:α->List UInt8}{Q:α->Prop}(hf:vm f g Q)(hg:∀y,1<=(g y).length):vm (aM f) (df g) (fun ys=>ys.length < 18446744073709551616/\∀y∈ys,Q y):=by
 intro ys r h;unfold aM df;rw [List.append_assoc,lJ _ h.1];simp only;rw [if_pos (by have:=uE hg ys;simp only [List.length_append];omega)];exact td hf ys r h.2
theorem pX(n:Nat):1<=(num n).length:=(jS 10 n).2
theorem jn:vm au bG (fun ys=>ys.length < 18446744073709551616/\∀y∈ys,mR y):=iD fX (fun y=>pX _)
theorem zh:vm cN dW (fun i=>i.name.length < 18446744073709551616/\(i.aF.length < 18446744073709551616/\∀y∈i.aF,mR y)/\mR i.result):=by
 intro y r h;unfold cN dW;rw [List.append_assoc,rQ _ _ h.1];simp only;rw [List.append_assoc,jn _ _ h.2.1];simp only;have:=fX y.result r h.2.2
 unfold ba at this;rw [this]
theorem yr:vm cT db (fun e=>e.name.length < 18446744073709551616/\mR e.func):=by
 intro y r h;unfold cT db;rw [List.append_assoc,rQ _ _ h.1];simp only;have:=fX y.func r h.2
 unfold ba at this;rw [this]
theorem zj:vm cP bl (fun i=>a_ i=true):=by
 intro y r h;unfold a_ at h;simp only [Bool.and_eq_true] at h;obtain ⟨h1,h2,h3⟩:=h;have XF:0<=y.op/\y.op<=20:=by simpa [wB] using h1
 have hb:(((UInt8.ofNat y.op.toNat).toNat:Nat):Int)=y.op:=(kr XF.1 XF.2).symm;unfold cP bl;simp only [List.cons_append,cm,hb];rw [if_pos h1];by_cases e1:y.op=1
 · rw [if_pos e1,if_pos e1];rw [if_pos e1] at h2;have Sn:-2147483648<=y.a/\y.a<=2147483647:=by simpa [wB] using h2
   have hN:aa y.op=1:=by rw [e1];decide
   have Rz:y.b=0:=by rw [hN] at h3;simpa [ah] using h3
   have hs:=mX y.a r ⟨Q5,Q5⟩;unfold dl at hs;rw [hs];simp only;rw [<-Rz]
 · rw [if_neg e1,if_neg e1];rw [if_neg e1] at h2;rcases eQ y.op with hN|hN|hN
   · rw [if_pos hN];have Sn:y.a=0:=by rw [hN] at h2;simpa [ah] using h2
     have Rz:y.b=0:=by rw [hN] at h3;simpa [ah] using h3
     simp only [hN];simp
     cases y;simp_all
   · rw [if_neg Q5];have Sn:0<=y.a/\y.a<=65535:=by rw [hN] at h2;simpa [ah,wB] using h2
     have Rz:y.b=0:=by rw [hN] at h3;simpa [ah] using h3
     have hs:=fX y.a r ⟨Q5,Q5⟩;unfold ba at hs;simp only [hN];simp only [show (1:Int)<=1 by decide,show ¬(2:Int)<=1 by decide,if_true,if_false,List.append_nil,hs];rw [<-Rz]
   · rw [if_neg Q5];have Sn:0<=y.a/\y.a<=65535:=by rw [hN] at h2;simpa [ah,wB] using h2
     have Rz:0<=y.b/\y.b<=65535:=by rw [hN] at h3;simpa [ah,wB] using h3
     have hs:=fX y.a (num y.b.toNat++r) ⟨Q5,Q5⟩;have E8:=fX y.b r ⟨Q5,Q5⟩;unfold ba at hs E8;simp only [hN];simp only [show (1:Int)<=2 by decide,show (2:Int)<=2 by decide,if_true,List.append_assoc,hs,show ¬(2:Int)=1 by decide,if_false,E8]
theorem lj{n:Int}(hn:n<=1000000){x:Int}(h:gD n x=true):mR x:=by
 have:0<=x/\x<=n:=by simpa [gD,wB] using h
 exact ⟨this.1,Q5⟩
theorem jw{n:Int}(hn:n<=1000000){l:List Int}(h:l.all (gD n)=true):∀y∈l,mR y:=fun y hy=>lj hn (List.all_eq_true.1 h y hy)
theorem iX{n l m:Int}(h:wB n l m=true):l<=n/\n<=m:=by simpa [wB] using h
theorem yT{n:Int}(hn:n<=1000000):vm bI b8 (fun f=>dD n f=true):=by
 intro y r h;unfold dD fL gG at h;simp only [Bool.and_eq_true] at h;obtain ⟨⟨p1,p2,p3⟩,l1,l2,c1,c2⟩:=h;have q1:=iX p1;have q2:=iX l1;have q3:=iX c1;unfold bI b8;rw [List.append_assoc,jn _ _ ⟨Q5,jw hn p2⟩];simp only;rw [List.append_assoc,jn _ _ ⟨Q5,jw hn l2⟩];simp only;have hs:=fX y.result (df bl y.code++r) (lj hn p3);unfold ba at hs;rw [List.append_assoc,hs];simp only;rw [iD zj (fun i=>by unfold bl;simp) y.code r ⟨Q5,fun i hi=>List.all_eq_true.1 c2 i hi⟩]
theorem jD{α:Type}{f:List UInt8->Option (List α×List UInt8)}{g:List α->List UInt8}{Q:List α->Prop}(hf:vm f g Q){y:List α}(hy:Q y):bA f (g y)=some y:=by
 have h:=hf y [] hy;rw [List.append_nil] at h;unfold bA;rw [h]
theorem mj{u:aK}(h:ai u=true):cL u.aA=true/\cV u.aD=true/\b9 u.aE u.aA.length=true/\bZ u.aB u.aA.length=true/\bm u.aC u.aE.length=true:=by
 unfold ai at h;simp only [Bool.and_eq_true] at h;obtain ⟨h1,h2,h3,h4,h5⟩:=h;exact ⟨h1,h2,h3,h4,h5⟩
structure AW(u:aK):Prop where
 b1:bA (aM au) (f9 u)=some u.aA
 b2:bA (aM af) (f8 u)=some u.aD
 b3:bA (aM bI) (f_ u)=some u.aE
 b4:bA (aM cN) (fx u)=some u.aB
 b5:bA (aM cT) (gK u)=some u.aC
theorem rC{u:aK}(h:ai u=true)(hF:mn u):AW u:=by
 obtain ⟨h1,h2,h3,h4,h5⟩:=mj h;have k2:=iX h2;unfold cL at h1;unfold b9 at h3;unfold bZ at h4;unfold bm at h5;simp only [Bool.and_eq_true] at h1 h3 h4 h5;have k1:=iX h1.1;have k3:=iX h3.1;have k4:=iX h4.1;have k5:=iX h5.1;refine ⟨?_,?_,?_,?_,?_⟩
 · refine jD (iD jn (fun y=>by unfold bG;exact dh)) ⟨Q5,fun y hy=>?_⟩;have h:=List.all_eq_true.1 h1.2 y hy;unfold dY at h;simp only [Bool.and_eq_true] at h;have:=iX h.1
   exact ⟨Q5,jw Q5 h.2⟩
 · exact jD (iD mX (fun y=>pX _)) ⟨Q5,fun y hy=>hF y hy⟩
 · refine jD (iD (yT (n:=u.aA.length) Q5) (fun y=>?_)) ⟨Q5,fun y hy=>List.all_eq_true.1 h3.2 y hy⟩;unfold b8;have:1<=(bG y.aF).length:=by unfold bG;exact dh
   simp only [List.length_append];omega
 · refine jD (iD zh (fun y=>?_)) ⟨Q5,fun y hy=>?_⟩
   · unfold dW b_;have:=pX y.name.length;simp only [List.length_append];omega
   · have h:=List.all_eq_true.1 h4.2 y hy;unfold iM ee fL at h;simp only [Bool.and_eq_true] at h;have q1:=iX h.1;have q2:=iX h.2.1;exact ⟨Q5,⟨Q5,jw Q5 h.2.2.1⟩,lj Q5 h.2.2.2⟩
 · refine jD (iD yr (fun y=>?_)) ⟨Q5,fun y hy=>?_⟩
   · unfold db b_;have:=pX y.name.length;simp only [List.length_append];omega
   · have h:=List.all_eq_true.1 h5.2 y hy;unfold hO ee at h;simp only [Bool.and_eq_true] at h;have q1:=iX h.1;have q2:=iX h.2;exact ⟨Q5,⟨Q5,Q5⟩⟩
theorem eM(n:Nat)(b:List UInt8):b.length<=(cZ n b).length:=by unfold cZ;simp only [List.length_append];omega
theorem xO{u:aK}(h:ai u=true)(hF:mn u)(z:List UInt8)(hl:(enc u++z).length<=20000):dec (enc u++z)=if z= [] then .inl u else .inr (2,(enc u).length):=by
 obtain ⟨b1,b2,b3,b4,b5⟩:=rC h hF;obtain ⟨o1,o2,o3,o4,o5⟩:=mj h;have e:enc u++z=dg++(cZ 1 (f9 u)++(cZ 2 (f8 u)++(cZ 3 (f_ u)++(cZ 4 (fx u)++(cZ 5 (gK u)++z))))):=by
  unfold enc jL mG mf na;simp only [List.append_assoc]
 have l1:=eM 1 (f9 u);have l2:=eM 2 (f8 u);have l3:=eM 3 (f_ u);have l4:=eM 4 (fx u);have l5:=eM 5 (gK u);have Qx:=hl;rw [e] at Qx;simp only [List.length_append] at Qx;have hp:pl (enc u++z) z=(enc u).length:=by unfold pl;simp
 have hd:(enc u++z).drop 5=cZ 1 (f9 u)++(cZ 2 (f8 u)++(cZ 3 (f_ u)++(cZ 4 (fx u)++(cZ 5 (gK u)++z)))):=by rw [e];rfl
 have ht:(enc u++z).take 5=dg:=by rw [e];rfl
 unfold dec;rw [if_neg Q5,if_neg (by rw [ht];simp),hd,jF Q9 Q5 b1];simp only [o1];rw [if_neg Q9,jF Q9 Q5 b2];simp only [o2];rw [if_neg Q9,jF Q9 Q5 b3];simp only [o3];rw [if_neg Q9,jF Q9 Q5 b4];simp only [o4];rw [if_neg Q9,jF Q9 Q5 b5];simp only [o5];rw [if_neg Q9,hp]
open Go.RowKit
attribute [local go_sem ↓] Go.wp_at_zero Go.wp_at_succ
theorem yk(o a:Int)(w:World):Calls Tryz.prog 10 #[.int .i64 o,.int .i64 a] w fun x w'=>x=.returned (.agg #[.int .i64 o,.int .i64 a,.int .i64 0])/\Gr w w':=by
 go_enter Tryz.func10,Tryz.ntmps10
 go_wp2_with fail
 exact bodyPost_ret (v:=.agg #[.int .i64 o,.int .i64 a,.int .i64 0]) (by simp [results,Tryz.results10,go_sem]) rfl ⟨rfl,(Gr.refl _).alloc _⟩
def tt:Value:=.string ⟨#[109,97,105,110]⟩
def Bs(vs vl vc:Value)(w:World)(x:Ending)(w':World):Prop:=∃fb eb,x=.returned (.agg #[vs,.slice none 0 0,.slice (some ⟨fb,0,none⟩) 1 1,.slice none 0 0,.slice (some ⟨eb,0,none⟩) 1 1])/\w'.heap[fb]? =some (.cells #[.slice none 0 0,.int .i64 0,vl,vc] 47 (0,0))/\w'.heap[eb]? =some (.cells #[tt,.int .i64 0] 60 (0,0))/\w.heap.size<=fb/\w.heap.size<=eb/\Gr w w'
theorem qk(sa la ca:Option Addr)(sn ln cn sc lc cc:Nat)(w:World):Calls Tryz.prog 11 #[.slice sa sn sc,.slice la ln lc,.slice ca cn cc] w (Bs (.slice sa sn sc) (.slice la ln lc) (.slice ca cn cc) w):=by
 go_enter Tryz.func11,Tryz.ntmps11
 go_wp2_with fail
 have h0:=heap_alloc_new (w.alloc (.cells #[.slice sa sn sc,.slice none 0 0,.slice (some ⟨w.heap.size+1,0,none⟩) 1 1,.slice none 0 0,.slice (some ⟨w.heap.size+1+1,0,none⟩) 1 1] 29)) (.cells #[.slice none 0 0,.int .i64 0,.slice la ln lc,.slice ca cn cc] 47);have h1:=heap_alloc_new ((w.alloc (.cells #[.slice sa sn sc,.slice none 0 0,.slice (some ⟨w.heap.size+1,0,none⟩) 1 1,.slice none 0 0,.slice (some ⟨w.heap.size+1+1,0,none⟩) 1 1] 29)).alloc (.cells #[.slice none 0 0,.int .i64 0,.slice la ln lc,.slice ca cn cc] 47)) (.cells #[tt,.int .i64 0] 60);have s1:(w.alloc (.cells #[.slice sa sn sc,.slice none 0 0,.slice (some ⟨w.heap.size+1,0,none⟩) 1 1,.slice none 0 0,.slice (some ⟨w.heap.size+1+1,0,none⟩) 1 1] 29)).heap.size=w.heap.size+1:=Q6
 have s2:((w.alloc (.cells #[.slice sa sn sc,.slice none 0 0,.slice (some ⟨w.heap.size+1,0,none⟩) 1 1,.slice none 0 0,.slice (some ⟨w.heap.size+1+1,0,none⟩) 1 1] 29)).alloc (.cells #[.slice none 0 0,.int .i64 0,.slice la ln lc,.slice ca cn cc] 47)).heap.size=w.heap.size+1+1:=Q6
 rw [s1] at h0;rw [s2] at h1;refine bodyPost_ret (v:=.agg #[.slice sa sn sc,.slice none 0 0,.slice (some ⟨w.heap.size+1,0,none⟩) 1 1,.slice none 0 0,.slice (some ⟨w.heap.size+1+1,0,none⟩) 1 1]) (by simp [results,Tryz.results11,go_sem]) rfl ?_;exact ⟨w.heap.size+1,w.heap.size+1+1,rfl,(((Gr.refl _).alloc _:Gr _ _).block _ (by rw [s2];omega) Q6).trans h0,h1,Q5,Q5,(((Gr.refl w).alloc _).alloc _).alloc _⟩
theorem uT{w:World}{B:Nat}{e:TypeId}{v:Value}{es:List ByteArray}(h:w.ownsRow B e 1 v es.length (es.map fun s=>Value.string s))(hs:∀s∈es,s.size<=maxLen):yO w v (es.map fun s=>s.data.toList):=by
 obtain ⟨ao,cap,rfl⟩:=aL h;refine ⟨ao,cap,Q6,by simpa using iP h,fun i x hi=>?_⟩;simp only [List.getElem?_map,Option.map_eq_some_iff] at hi;obtain ⟨s,he,rfl⟩:=hi;have hl:i < es.length:=(List.getElem?_eq_some_iff.1 he).1;obtain ⟨b,cp,e1,e2⟩:=dT h (j:=i) Q5;simp only [Value.slice.injEq,true_and] at e1;exact ⟨b,0,s,e1.1,by rw [Nat.zero_add,e2];simp [he],rfl,hs s (List.mem_of_getElem? he)⟩
theorem Tryz.infTx:(Tryz.prog.info? 9).map (fun i=>(i.zero,i.size,i.bytes))=some (some (.string ⟨#[]⟩),1,16):=Q7
theorem Tryz.uTx:Tryz.prog.underlying 55=some (.slice 9):=Q7
structure sS(u:aK):Prop where
 ok:ai u=true
 fit:mn u
 len:(enc u).length<=20000
theorem sS.dec{u:aK}(h:sS u):dec (enc u)=.inl u/\40<=(enc u).length:=by
 have hd:=xO h.ok h.fit [] (by simp;exact h.len);rw [List.append_nil,if_pos rfl] at hd;exact ⟨hd,(AE hd).2.2.2.2⟩
theorem sS.all{l:List aK}(h:∀u∈l,sS u):∀k,dZ k (l.map enc)=.inl l:=by
 induction l with
 | nil=>intro k;rfl
 | cons u l ih=>
  intro k;rw [List.map_cons,dZ,(h u List.mem_cons_self).dec.1,ih (fun v hv=>h v (List.mem_cons_of_mem _ hv)) (k+1)]
def qd(u:aK):ByteArray:=⟨(enc u).toArray⟩
theorem n_(u:aK):(qd u).size=(enc u).length:=by show (enc u).toArray.size=_;simp
def CJ(W:World)(o:i9)(x:Ending)(w':World):Prop:=∃vo,x=.returned (.tuple #[vo,.bool true])/\ti W.heap.size w' vo o/\Gr W w'
theorem xS(M:aK->i9)(fuel heap:Int)(l:List aK)(vl:Value)(W:World)(hR:eS W vl l)(hw:∀u∈l,sS u)(hM:yP M fuel heap l)(Sq:l.length<=1000):
 Calls Tryz.prog 8 #[vl,.int .i64 fuel,.int .i64 heap] W (CJ W (li M (l.map enc) fuel heap)):=by
 obtain ⟨ao,cap,rfl,hm,hc⟩:=hR;have HC:=aH hc;have HW:=aH hw;have HM:=aH hM;have H6:=aH (heap_alloc_new W (.cells #[.int .i64 0,.int .i64 0,.int .i64 0,.int .i64 0,.int .i64 0,.slice none 0 0,.int .i64 0] 35));have F9:Hid (Gr W (W.alloc (.cells #[.int .i64 0,.int .i64 0,.int .i64 0,.int .i64 0,.int .i64 0,.slice none 0 0,.int .i64 0] 35))):=aH ((Gr.refl W).alloc _);have Hl:Hid ((W.alloc (.cells #[.int .i64 0,.int .i64 0,.int .i64 0,.int .i64 0,.int .i64 0,.slice none 0 0,.int .i64 0] 35)).heap.size=W.heap.size+1):=aH Q6;clear hc hw hM hm;go_enter Tryz.func8,Tryz.ntmps8
 go_wp2_with fail
 generalize (W.alloc (.cells #[.int .i64 0,.int .i64 0,.int .i64 0,.int .i64 0,.int .i64 0,.slice none 0 0,.int .i64 0] 35))=V at H6 F9 Hl |-;go_loopw [8,9] (fun vb i wr=>∃k:Nat,i=.int .i64 (k:Int)/\k<=l.length/\wr.ownsRow V.heap.size 9 1 vb ((l.take k).map qd).length (((l.take k).map qd).map fun s=>Value.string s)/\Gr V wr) (fun _ i _=>l.length - (intOf i).toNat)
 case atStart=>exact ⟨0,rfl,Nat.zero_le _,World.ownsRow_nil _ _ _ _,Gr.refl _⟩
 case round=>
  obtain ⟨k,rfl,hk,C1,M3⟩:=hrel;have E9:=aH C1;have C6:=aH M3;obtain ⟨bao,bcp,rfl⟩:=aL C1;clear C1 M3;generalize Oe:((l.take k).map qd).length=nb at E9 |-;have LK:=aH Oe;clear Oe;by_cases J0:k < l.length
  · obtain ⟨u,hu⟩:=aX J0;obtain ⟨b,off,v1,v2,v3,v4,v5,rfl,k1,k2,k3,k4,k5,Nc⟩:=HC.out k u hu;have O7:=F9.out.trans C6.out;have k1:=O7.cell k1 Q6;have k2:=O7.cell k2 Q6;have k3:=O7.cell k3 Q6;have k4:=O7.cell k4 Q6;have k5:=O7.cell k5 Q6;have O9:=HW.out u (List.mem_of_getElem? hu);have e1:fi u=0:=by unfold fi;rw [O9.ok,if_pos rfl,if_pos O9.len]
    have e2:ey u=enc u:=by unfold ey;rw [O9.ok,if_pos rfl,if_pos O9.len]
    have Ml:=aH (su u _ wr (Nc.gr O7) O9.fit);rw [e1,e2] at Ml;have Wt:=O9.dec.2;have hle:=O9.len;obtain ⟨S,hS⟩:∃S:ByteArray,S=⟨(enc u).toArray⟩:=⟨_,rfl⟩;rw [<-hS] at Ml;have hSz:S.size=(enc u).length:=by rw [hS];exact n_ u
    have hS40:¬(S.size:Int) < 40:=Q5
    have hd40:decide ((S.size:Int) < 40)=false:=by simpa using hS40
    have hS40n:¬S.size < 40:=Q5
    have Hf:(k:Int) < (l.length:Int):=Q5
    have D2:IntKind.i64.wrap ((k:Int)+1)=(k:Int)+1:=Q_;have Mh:Hid ((l.take (k+1)).map qd=(l.take k).map qd++ [S]):=aH (by
     obtain ⟨Of,rfl⟩:=List.getElem?_eq_some_iff.1 hu;rw [List.take_succ_eq_append_getElem Of,List.map_append,hS];rfl)
    obtain ⟨⟨a1,c1,rfl⟩,⟨a2,c2,rfl⟩,⟨a3,c3,rfl⟩,⟨a4,c4,rfl⟩,⟨a5,c5,rfl⟩⟩:=Nc.slices;have Y9:nb<=1000:=by have:=LK.out;simp at this;omega
    clear hu Nc O9 e1 e2 Wt hle hS hSz O7;go_wp2_with fail
    refine Ml.out.mono ?_;rintro x w2 ⟨rfl,E5⟩;have E0:=nQ E5;have gA:=E0.alloc (.cells #[.string S] 9);obtain ⟨v6,w6,Ma,T9,P2,G9⟩:=dK (ty:=55) 55 9 _ Tryz.infTx Tryz.uTx rfl Q9 Q9 (dA E9.out gA) (dx w2 #[.string S] 9 1) rfl (by intro q hq;simp at hq;subst hq;rfl) Q5 (by have:=C6.out.size;have:=gA.size;omega);obtain ⟨bao6,bcp6,rfl⟩:=aL T9;have Sv:Gr V w6:=⟨P2.os.trans (C6.out.trans gA).os,P2.tape.trans (C6.out.trans gA).tape,P2.output.trans (C6.out.trans gA).output,Nat.le_trans (C6.out.trans gA).size P2.size,fun i hi hne=>(P2.block i (Nat.lt_of_lt_of_le hi (C6.out.trans gA).size) (fun e=>by have:=(E9.out.lt i e.symm).1;omega)).trans ((C6.out.trans gA).block i hi hne)⟩;have Ce:=aH Ma;have Sf:=aH T9;have RY:=aH Sv;clear E5 E0 gA Ma T9 P2 G9 Sv Ml k1 k2 k3 k4 k5;go_wp2_with (at_builtin;refine Lib.wpList_append_run _ rfl _ _ _ _ rfl _ _ rfl rfl _ _ Ce.out ?_)
    refine ⟨⟨k+1,Q6,J0,?_,RY.out⟩,by simp [intOf];omega⟩;rw [Mh.out,List.length_append,List.map_append,LK.out];exact Sf.out
  · have L7:k=l.length:=by omega
    subst L7;have Hm:=aH (uT (es:=(l.take l.length).map qd) (by rw [LK.out];exact E9.out) (fun s hs=>by
     simp only [List.mem_map] at hs;obtain ⟨u,hu,rfl⟩:=hs;have:=(HW.out u (List.mem_of_mem_take hu)).len
     rw [n_];unfold maxLen;omega))
    rw [List.take_length] at Hm;have e:(l.map qd).map (fun s=>s.data.toList)=l.map enc:=by rw [List.map_map];rfl
    rw [e] at Hm;have HRN:=aH (yj M fuel heap (l.map enc) _ wr (fun u=>qj u) Hm.out (fun us h=>by rw [sS.all HW.out 0] at h;obtain rfl:=Sum.inl.inj h;exact HM.out) gS);clear J0 hk e;go_wp2_with fail
    refine HRN.out.mono ?_;rintro x w2 ⟨vo,rfl,⟨vt,rfl,Hw⟩,E0⟩;obtain ⟨ta,tc,rfl⟩:=Hw.shape;generalize hoo:li M (l.map enc) fuel heap=o at Hw HRN |-;have HOO:=aH hoo;clear hoo;have gA:=(Gr.refl w2).alloc (.cells #[.int .i64 o.why,.int .i64 o.unit,.int .i64 o.at_,.int .i64 o.e,.int .i64 o.result,.slice ta o.told.length tc,.int .i64 o.steps] 35);have X8:=aH (C6.out.trans (E0.trans gA));have Zd:=(X8.out.block W.heap.size (by have:=Hl.out;omega) Q6).trans H6.out;have Kr:=aH Zd;have VQ:=aH (Hw.kp (B:=wr.heap.size) gA.kp);have Nw:=aH (heap_alloc_new w2 (.cells #[.int .i64 o.why,.int .i64 o.unit,.int .i64 o.at_,.int .i64 o.e,.int .i64 o.result,.slice ta o.told.length tc,.int .i64 o.steps] 35));obtain ⟨⟨o0,o1,o2,o3,o4,o5,o6⟩,f0,f1,f2,f3,f4,f5,f6⟩:=gR Zd;have Ok:W.heap.size < w2.heap.size:=by have:=Hl.out;have:=C6.out.size;have:=E0.size;omega
    have hnw:¬W.heap.size=w2.heap.size:=Q5
    clear Hw E0 gA HRN;go_upto_region 10 with fail
    generalize w2.alloc (.cells #[.int .i64 o.why,.int .i64 o.unit,.int .i64 o.at_,.int .i64 o.e,.int .i64 o.result,.slice ta o.told.length tc,.int .i64 o.steps] 35)=wE at X8 Kr VQ Nw Zd o0 o1 o2 o3 o4 o5 o6 f0 f1 f2 f3 f4 f5 f6 |-;have x0:wE.cell? ⟨w2.heap.size,0,none⟩=some (.int .i64 o.why):=by rw [aJ Nw.out];rfl
    have x1:wE.cell? ⟨w2.heap.size,1,none⟩=some (.int .i64 o.unit):=by rw [aJ Nw.out];rfl
    have x2:wE.cell? ⟨w2.heap.size,2,none⟩=some (.int .i64 o.at_):=by rw [aJ Nw.out];rfl
    have x3:wE.cell? ⟨w2.heap.size,3,none⟩=some (.int .i64 o.e):=by rw [aJ Nw.out];rfl
    have x4:wE.cell? ⟨w2.heap.size,4,none⟩=some (.int .i64 o.result):=by rw [aJ Nw.out];rfl
    have x5:wE.cell? ⟨w2.heap.size,5,none⟩=some (.slice ta o.told.length tc):=by rw [aJ Nw.out];rfl
    have x6:wE.cell? ⟨w2.heap.size,6,none⟩=some (.int .i64 o.steps):=by rw [aJ Nw.out];rfl
    clear Zd;go_wp2_with fail
    rw [jq];have M1:=gZ (y0:=.int .i64 o.why) (y1:=.int .i64 o.unit) (y2:=.int .i64 o.at_) (y3:=.int .i64 o.e) (y4:=.int .i64 o.result) (y5:=.slice ta o.told.length tc) (y6:=.int .i64 o.steps) Kr.out;have hwf:∀q,¬q=W.heap.size->(fG wE W.heap.size (.int .i64 o.why) (.int .i64 o.unit) (.int .i64 o.at_) (.int .i64 o.e) (.int .i64 o.result) (.slice ta o.told.length tc) (.int .i64 o.steps)).heap[q]? =wE.heap[q]? :=fun q hq=>fh hq
    have Y':(fG wE W.heap.size (.int .i64 o.why) (.int .i64 o.unit) (.int .i64 o.at_) (.int .i64 o.e) (.int .i64 o.result) (.slice ta o.told.length tc) (.int .i64 o.steps)).heap.size=wE.heap.size:=gT;have J6:=lh wE W.heap.size (.int .i64 o.why) (.int .i64 o.unit) (.int .i64 o.at_) (.int .i64 o.e) (.int .i64 o.result) (.slice ta o.told.length tc) (.int .i64 o.steps);generalize fG wE W.heap.size (.int .i64 o.why) (.int .i64 o.unit) (.int .i64 o.at_) (.int .i64 o.e) (.int .i64 o.result) (.slice ta o.told.length tc) (.int .i64 o.steps)=WE at M1 hwf Y' J6 |-;have t0:WE.cell? ⟨W.heap.size,0,none⟩=some (.int .i64 o.why):=by rw [aJ M1];rfl
    have t1:WE.cell? ⟨W.heap.size,1,none⟩=some (.int .i64 o.unit):=by rw [aJ M1];rfl
    have t2:WE.cell? ⟨W.heap.size,2,none⟩=some (.int .i64 o.at_):=by rw [aJ M1];rfl
    have t3:WE.cell? ⟨W.heap.size,3,none⟩=some (.int .i64 o.e):=by rw [aJ M1];rfl
    have t4:WE.cell? ⟨W.heap.size,4,none⟩=some (.int .i64 o.result):=by rw [aJ M1];rfl
    have t5:WE.cell? ⟨W.heap.size,5,none⟩=some (.slice ta o.told.length tc):=by rw [aJ M1];rfl
    have t6:WE.cell? ⟨W.heap.size,6,none⟩=some (.int .i64 o.steps):=by rw [aJ M1];rfl
    refine bodyPost_ret (v:=.tuple #[.agg #[.int .i64 o.why,.int .i64 o.unit,.int .i64 o.at_,.int .i64 o.e,.int .i64 o.result,.slice ta o.told.length tc,.int .i64 o.steps],.bool true]) (by simp [results,Tryz.results8,go_sem,t0,t1,t2,t3,t4,t5,t6]) rfl ?_;have K8:=F9.out.trans X8.out;rw [HOO.out];exact ⟨_,rfl,⟨_,rfl,(VQ.out.kp (fun q hq _=>hwf q (by have:=C6.out.size;have:=Hl.out;omega))).mono (B:=W.heap.size) (by have:=C6.out.size;have:=Hl.out;omega)⟩,⟨J6.1.trans K8.os,J6.2.1.trans K8.tape,J6.2.2.trans K8.output,by rw [Y'];exact K8.size,fun i hi hne=>(hwf i Q5).trans (K8.block i hi hne)⟩⟩
def sq(u:aK)(f:aO)(T:Nat->Option (List Int))(q:Nat)(s:List Int):Prop:=∃i s',f.code[q]? =some i/\g8 u f i s=some s'/\∀t∈eO f q i,∃t',t=some t'/\T t'=some s'
structure tf(u:aK)(f:aO)(T:Nat->Option (List Int)):Prop where
 zero:T 0=some []
 step:∀q s,T q=some s->sq u f T q s
theorem kQ{s:List Int}{q:Nat}:∀(l:List (Option Nat)) (st I9:Nat->Option (List Int)),b7 s q l st=.inr I9->∀t∈l,∃t',t=some t'/\I9 t'=some s
 | [],st,I9,h,t,ht=>by cases ht
 | none :: l,st,I9,h,t,ht=>by simp [b7] at h
 | some x :: l,st,I9,h,t,ht=>by
  rw [b7] at h;cases hx:st x with
  | none=>
   rw [hx] at h;simp only at h;rcases List.mem_cons.1 ht with rfl|ht
   · refine ⟨x,rfl,?_⟩;have:=fw l _ _ h x Q6
     rw [this];simp
   · exact kQ l _ _ h t ht
  | some s0=>
   rw [hx] at h;simp only at h;by_cases e:s0=s
   · rw [if_pos e] at h;rcases List.mem_cons.1 ht with rfl|ht
     · refine ⟨x,rfl,?_⟩;have:=fw l _ _ h x (by rw [hx];rfl)
       rw [this,hx,e]
     · exact kQ l _ _ h t ht
   · rw [if_neg e] at h;cases h
theorem kL{s:List Int}{q:Nat}:∀(l:List (Option Nat)) (st I9:Nat->Option (List Int)),b7 s q l st=.inr I9->∀k,(I9 k).isSome=true->(st k).isSome=true\/some k∈l
 | [],st,I9,h,k,hk=>by simp [b7] at h;subst h;exact .inl hk
 | none :: l,st,I9,h,k,hk=>by simp [b7] at h
 | some x :: l,st,I9,h,k,hk=>by
  rw [b7] at h;cases hx:st x with
  | none=>
   rw [hx] at h;simp only at h;rcases kL l _ _ h k hk with h1|h1
   · by_cases e:k=x
     · exact .inr (by rw [e];exact List.mem_cons_self)
     · simp only [if_neg e] at h1;exact .inl h1
   · exact .inr (List.mem_cons_of_mem _ h1)
  | some s0=>
   rw [hx] at h;simp only at h;by_cases e:s0=s
   · rw [if_pos e] at h;rcases kL l _ _ h k hk with h1|h1
     · exact .inl h1
     · exact .inr (List.mem_cons_of_mem _ h1)
   · rw [if_neg e] at h;cases h
theorem xG{u:aK}{f:aO}{i:aw}{s s':List Int}(h:g8 u f i s=some s'):∃ts ps,dQ u f i=some (ts,ps):=by
 unfold g8 at h;cases he:dQ u f i with
 | none=>rw [he] at h;cases h
 | some p=>exact ⟨p.1,p.2,rfl⟩
theorem zB{u:aK}{f:aO}{i:aw}{s s':List Int}{q t:Nat}(hd:g8 u f i s=some s')(hi:f.code[q]? =some i)(ht:some t∈eO f q i):t < f.code.length:=by
 have hq:q < f.code.length:=(List.getElem?_eq_some_iff.1 hi).1;obtain ⟨ts,ps,he⟩:=xG hd;unfold eO at ht;by_cases V8:i.op=11
 · rw [if_pos V8] at ht;simp only [List.mem_singleton,Option.some.injEq] at ht;have:i.a < (f.code.length:Int):=by
    unfold dQ at he;simp only [V8] at he;simp at he
    exact he.1
   omega
 · rw [if_neg V8] at ht;by_cases Z9:i.op=14
   · rw [if_pos Z9] at ht;cases ht
   · rw [if_neg Z9] at ht;by_cases O_:i.op=12
     · rw [if_pos O_] at ht;simp only [List.mem_cons,List.not_mem_nil,or_false] at ht;rcases ht with ht|ht
       · split at ht
         · simp only [Option.some.injEq] at ht;omega
         · cases ht
       · simp only [Option.some.injEq] at ht;have:i.a < (f.code.length:Int):=by
          unfold dQ at he;simp only [O_] at he;simp at he
          exact he.1
         omega
     · rw [if_neg O_] at ht;simp only [List.mem_singleton] at ht;split at ht
       · simp only [Option.some.injEq] at ht;omega
       · cases ht
theorem sq.mono{u:aK}{f:aO}{T T':Nat->Option (List Int)}{q:Nat}{s:List Int}(h:sq u f T q s)(hm:∀k,(T k).isSome=true->T' k=T k):sq u f T' q s:=by
 obtain ⟨i,s',h1,h2,h3⟩:=h;refine ⟨i,s',h1,h2,fun t ht=>?_⟩;obtain ⟨t',e,h4⟩:=h3 t ht;exact ⟨t',e,by rw [hm t' (by rw [h4];rfl),h4]⟩
theorem rE(u:aK)(f:aO):∀(k:Nat) (st:Nat->Option (List Int)) (dn:Nat->Bool),ci f.code.length dn < k->(∀q,(st q).isSome=true->q < f.code.length)->(∀q,dn q=true->∃s,st q=some s/\sq u f st q s)->i7 u f k st dn=none->
 ∃T,(∀q,(st q).isSome=true->T q=st q)/\∀q s,T q=some s->sq u f T q s
 | 0,st,dn,h,_,_,_=>by omega
 | k+1,st,dn,h,J0,hdn,hl=>by
  cases hp:iQ f.code.length st dn with
  | none=>
   refine ⟨st,fun _ _=>rfl,fun q s hq=>?_⟩;have:=(l9.1 hp) q (J0 q (by rw [hq];rfl))
   rw [hq] at this;simp at this
   obtain ⟨s2,h1,h2⟩:=hdn q this;rw [hq] at h1;cases h1
   exact h2
  | some q=>
   obtain ⟨Rq,Pp,_⟩:=lz.1 hp;simp only [Bool.and_eq_true,Bool.not_eq_true'] at Pp;obtain ⟨i,hi⟩:∃i,f.code[q]? =some i:=⟨_,List.getElem?_eq_getElem Rq⟩;obtain ⟨s,hs⟩:=Option.isSome_iff_exists.1 Pp.1;rw [i7,hp] at hl;simp only [hi,hs] at hl;cases hd:g8 u f i s with
   | none=>rw [hd] at hl;cases hl
   | some s'=>
    rw [hd] at hl;simp only at hl;cases hc:b7 s' q (eO f q i) st with
    | inl t=>rw [hc] at hl;cases hl
    | inr I9=>
     rw [hc] at hl;simp only at hl;have hkeep:=fw (eO f q i) st I9 hc;have N2:sq u f I9 q s:=⟨i,s',hi,hd,kQ _ _ _ hc⟩;have Jo:=iK f.code.length q dn Rq Pp.2;obtain ⟨T,h1,h2⟩:=rE u f k I9 (fun j=>decide (j=q) || dn j) Q5 (fun j hj=>by
      rcases kL _ _ _ hc j hj with h|h
      · exact J0 j h
      · exact zB hd hi h) (fun j hj=>by
      by_cases e:j=q
      · subst e;exact ⟨s,by rw [hkeep j Pp.1,hs],N2⟩
      · simp only [e,decide_false,Bool.false_or] at hj;obtain ⟨s2,h1,h2⟩:=hdn j hj;exact ⟨s2,by rw [hkeep j (by rw [h1];rfl),h1],h2.mono hkeep⟩) hl
     exact ⟨T,fun j hj=>by rw [h1 j (by rw [hkeep j hj];exact hj),hkeep j hj],h2⟩
theorem u_{u:aK}{f:aO}(hf:1<=f.code.length)(h:e9 u f=none):∃T,tf u f T:=by
 obtain ⟨T,h1,h2⟩:=rE u f (f.code.length+1) _ _ (by have:=oH f.code.length (fun _=>false);omega) (fun q hq=>by
  by_cases e:q=0
  · omega
  · simp [e] at hq) (fun q hq=>by cases hq) h
 exact ⟨T,by rw [h1 0 Q6];simp,h2⟩
theorem mN{u:aK}(hu:ai u=true)(h:aY u=(0,0,0)):∀f∈u.aE,∃T,tf u f T:=by
 have hf:∀(l:List aO) (k:Nat),eU u k l=(0,0,0)->∀f∈l,e9 u f=none:=by
  intro l
  induction l with
  | nil=>intro k _ f hf;cases hf
  | cons g l ih=>
   intro k h f hf;rw [eU] at h;cases hw:e9 u g with
   | some q=>rw [hw] at h;simp at h
   | none=>
    rw [hw] at h;rcases List.mem_cons.1 hf with rfl|hf
    · exact hw
    · exact ih _ h f hf
 unfold aY at h;rw [if_pos hu] at h;intro f hm;refine u_ ?_ (hf _ _ h f hm);unfold ai b9 at hu;simp only [Bool.and_eq_true] at hu;have:=List.all_eq_true.1 hu.2.2.1.2 f hm
 unfold dD gG at this;simp only [wB,Bool.and_eq_true,decide_eq_true_eq] at this;omega
end Go.Proofs.YtkgncijcnlfhiabGreat
