import Derived.Lib.AppendZerosOnto
import Derived.Test.YtkgncijcnlfhiaaGreatMe
namespace Go.Proofs.YtkgncijcnlfhiaaGreat
set_option maxRecDepth 100000
set_option maxHeartbeats 2000000
set_option linter.unusedVariables false
set_option linter.unusedSimpArgs false
open Go.RowKit
theorem mL{P:Program}(w:World)(t tn ty e:TypeId)(i:TypeInfo)(z:Value)(kq kn:IntKind)(ht:P.underlying t=some (.slice e))(htn:P.underlying tn=some (.int kn))(hi:P.info? e=some i)(hz:i.zero=some z)
 (g sLen sCap:Nat) (cur:Array Value) (hg:w.heap[g]? =some (.cells cur e (0,0))) (k:Nat) (h0:0 < k) (hs:0 < i.size) (hzs:z.cells.size=i.size) (h1:∀u∈(Builtin.zeroCells z.cells k).toList,u.oneCell'=true)
 (hroom:sLen+k≤sCap) (hfit:sLen * i.size+k * i.size≤cur.size) (h63:(k:Int)≤9223372036854775807) (h48:k * i.bytes≤281474976710656):
 (Builtin.append_ #[t,tn] ty #[.slice (some ⟨g,0,none⟩) sLen sCap,.int kq k]).run P w =
  .ok (.slice (some ⟨g,0,none⟩) (sLen+k) sCap) (w.setRow g (cur.toList.take (sLen * i.size)++(Builtin.zeroCells z.cells k).toList++cur.toList.drop (sLen * i.size+(Builtin.zeroCells z.cells k).toList.length)).toArray):=by
 have hk:k≠0:=by omega
 have hw:IntKind.i64.wrap (k:Int)=k:=by rw [IntKind.wrap_i64];omega
 have hneg:¬((k:Int) < 0):=by omega
 have hns:¬(k * i.size=0):=Nat.mul_ne_zero hk (by omega);have h48i:¬(281474976710656 < (k:Int) * (i.bytes:Int)):=by
  rw [←Int.natCast_mul];omega
 have hst:=run_storeCells_at P g (sLen * i.size) e (Builtin.zeroCells z.cells k).toList 0 cur w hg (by rw [Array.length_toList,size_zeroCells,hzs];simpa using hfit) h1;simp only [Nat.add_zero] at hst;simp [Builtin.append_,run_underlying ht,run_underlying htn,sizeOf,typeInfo,zeroValue,hi,hz,asInt,asIntOf,hw,hneg,hns,h48i,hroom,Addr.add_lit,hst]
def zV:Nat→List Value
 | 0=> []
 | k+1=>.int .i64 0 :: .pointer none :: zV k
theorem oA:∀k,(zV k).length=k * 2
 | 0=>rfl
 | k+1=>by simp only [zV,List.length_cons,oA k];omega
theorem yC:∀(k j:Nat),j < k * 2→(zV k)[j]? =some (if j % 2=0 then .int .i64 0 else .pointer none)
 | 0,j,h=>by omega
 | k+1,0,h=>rfl
 | k+1,1,h=>rfl
 | k+1,j+2,h=>by
  have e:(zV (k+1))[j+2]? =(zV k)[j]? :=rfl;rw [e,yC k j (by omega),show (j+2) % 2=j % 2 by omega]
theorem oD(k:Nat):(Builtin.zeroCells (Value.agg #[.int .i64 0,.pointer none]).cells k).toList=zV k:=by
 have hs:(Value.agg #[.int .i64 0,.pointer none]:Value).cells=#[.int .i64 0,.pointer none]:=rfl;apply List.ext_getElem?
 intro j;by_cases hj:j < k * 2
 · rw [yC k j hj,hs,Array.getElem?_toList];unfold Builtin.zeroCells;have h2:(#[.int .i64 0,.pointer none]:Array Value).size=2:=rfl;simp only [h2,Array.getElem?_map,Array.getElem?_range,hj,if_true,Option.map_some];rcases (show j % 2=0∨j % 2=1 by omega) with e|e
   · rw [e];rfl
   · rw [e];rfl
 · have a:(zV k)[j]? =none:=List.getElem?_eq_none (by rw [oA];omega);have b:(Builtin.zeroCells (Value.agg #[.int .i64 0,.pointer none]).cells k).toList[j]? =none:=List.getElem?_eq_none (by rw [Array.length_toList,size_zeroCells,hs];show k * 2≤j;omega);rw [a,b]
theorem yu(k:Nat):∀u∈zV k,u.oneCell'=true:=by
 induction k with
 | zero=>intro u hu;cases hu
 | succ k ih=>
  intro u hu;simp only [zV,List.mem_cons] at hu;rcases hu with rfl|rfl|hu
  · rfl
  · rfl
  · exact ih u hu
theorem Tryz.uInt_:Tryz.prog.underlying 3=some (.int .i64):=by kernel_rfl
theorem se{w:World}{base n k:Nat}{v:Value}{xs:List Value}(ty:TypeId)(hown:w.ownsRow base 183 2 v n xs)(hn:n+k≤100000)(hb:base≤w.heap.size):
 ∃v' w',(Builtin.append_ #[177,3] ty #[v,.int .i64 (k:Int)]).run Tryz.prog w=.ok v' w'∧w'.ownsRow base 183 2 v' (n+k) (xs++zV k)∧w.grownBy w' v.ownBlock∧(v'.ownBlock=v.ownBlock∨v'.ownBlock=some w.heap.size):=by
 obtain ⟨i,hi,hz,hsz,hby⟩:=info_parts Tryz.infVal;have hw:IntKind.i64.wrap (k:Int)=k:=by rw [IntKind.wrap_i64];omega
 have hlen:(xs++zV k).length=(n+k) * 2:=by rw [List.length_append,hown.1,oA,Nat.add_mul]
 by_cases hk:k=0
 · subst hk;have hw0:IntKind.i64.wrap 0=0:=by decide
   refine ⟨v,w,?_,by simpa [zV] using hown,⟨rfl,rfl,rfl,Nat.le_refl _,fun _ _ _=>rfl⟩,.inl rfl⟩;rcases hown.2 with ⟨rfl,rfl⟩|⟨g,cp,cur,rfl,_,_,hnc,_⟩
   · simp [Builtin.append_,run_underlying Tryz.uVal,run_underlying Tryz.uInt_,Go.sizeOf,typeInfo,hi,asInt,asIntOf,hw0]
   · simp [Builtin.append_,run_underlying Tryz.uVal,run_underlying Tryz.uInt_,Go.sizeOf,typeInfo,hi,asInt,asIntOf,hw0,hnc,storeCells]
 · have grown:∀(old:Nat) (row:Option Nat),
    (w.drew.alloc (.cells (xs.toArray++Builtin.zeroCells (Value.agg #[.int .i64 0,.pointer none]).cells k++Builtin.zeroCells (Value.agg #[.int .i64 0,.pointer none]).cells (grownCap w (n+k) old 183 - (n+k))) 183)).ownsRow base 183 2 (.slice (some ⟨w.heap.size,0,none⟩) (n+k) (grownCap w (n+k) old 183)) (n+k) (xs++zV k)∧
    w.grownBy (w.drew.alloc (.cells (xs.toArray++Builtin.zeroCells (Value.agg #[.int .i64 0,.pointer none]).cells k++Builtin.zeroCells (Value.agg #[.int .i64 0,.pointer none]).cells (grownCap w (n+k) old 183 - (n+k))) 183)) row:=by
    intro old row;have hge:=grownCap_ge w (n+k) old 183;have hcm:grownCap w (n+k) old 183≤maxLen:=grownCap_le_maxLen w (n+k) old 183 (by unfold maxLen;omega);have hzs:(Value.agg #[.int .i64 0,.pointer none]:Value).cells.size=2:=rfl;refine ⟨⟨hlen,.inr ⟨w.heap.size,_,_,rfl,hb,heap_alloc_new w.drew _,hge,hcm,?_,?_⟩⟩,⟨rfl,rfl,rfl,by simp,fun q hq _=>(World.grownBy_alloc w.drew _ none).block q hq (by simp)⟩⟩
    · simp only [Array.size_append,List.size_toArray,size_zeroCells,hzs,hown.1];generalize grownCap w (n+k) old 183=q at hge;omega
    · simp only [Array.toList_append,oD];generalize zV (grownCap w (n+k) old 183 - (n+k))=r;rw [←hlen];exact List.take_left
   rcases hown.2 with ⟨rfl,rfl⟩|⟨g,cap,cur,rfl,hbg,hg,hnc,hcm,hcs,htake⟩
   · have hx:xs= []:=List.eq_nil_of_length_eq_zero (by simpa using hown.1);subst hx;have hr:=Lib.run_append_nil_zeros (P:=Tryz.prog) w 177 3 ty 183 i _ .i64 .i64 Tryz.uVal Tryz.uInt_ hi hz k (by omega) (by omega) (by omega) (by rw [hby];omega);have hgr:=grown 0 (Value.ownBlock (.slice none 0 0));simp only [Nat.zero_add,List.nil_append,Array.empty_append] at hgr ⊢;exact ⟨_,_,hr,hgr.1,hgr.2,Or.inr rfl⟩
   · by_cases hroom:n+k≤cap
     · have hr:=mL (P:=Tryz.prog) w 177 3 ty 183 i _ .i64 .i64 Tryz.uVal Tryz.uInt_ hi hz g n cap cur hg k (by omega) (by omega) (by rw [hsz];rfl) (by rw [oD];exact yu k) hroom (by rw [hsz,hcs];omega) (by omega) (by rw [hby];omega);rw [oD,hsz] at hr;refine ⟨_,_,hr,⟨hlen,.inr ⟨g,cap,_,rfl,hbg,setRow_heap w g cur _ _ _ hg,hroom,hcm,?_,?_⟩⟩,⟨rfl,rfl,rfl,by simp,fun q _ hq=>setRow_other w g q _ (fun e=>hq (by simp [Value.ownBlock,e]))⟩,Or.inl rfl⟩
       · simp only [List.size_toArray,List.length_append,List.length_take,List.length_drop,Array.length_toList,oA];omega
       · rw [htake,←hlen];exact List.take_left
     · have holds:∀j u,xs[j]? =some u→w.drew.cell? ((⟨g,0,none⟩:Addr).add j)=some u:=hown.cells (g:=g) rfl;have hf:=run_firstCells_some (P:=Tryz.prog) w.drew i.size n ⟨g,0,none⟩ n cap xs (by rw [hsz];exact hown.1) holds;have hr:=Lib.run_append_grow_zeros (P:=Tryz.prog) w 177 3 ty 183 i _ .i64 .i64 Tryz.uVal Tryz.uInt_ hi hz (some ⟨g,0,none⟩) n cap xs hf k (by omega) (by omega) (by omega) (by omega) (by rw [hby];omega) (growslice_fits (by omega) (by rw [hby];omega));have hgr:=grown cap (Value.ownBlock (.slice (some ⟨g,0,none⟩) n cap));exact ⟨_,_,hr,hgr.1,hgr.2,Or.inr rfl⟩
open Go.RowKit
attribute [local go_sem ↓] Go.wp_at_zero Go.wp_at_succ
def An(w:World)(B:Nat)(vc vp:Value)(n:Nat)(xs:List Value)(x:Ending)(w':World):Prop:=∃nb vs,x=.returned (.pointer (some ⟨nb,0,none⟩))∧kd w' nb vc 0 vs (.slice none 0 0)∧w'.ownsRow B 183 2 vs n xs∧(vs.ownBlock=vp.ownBlock∨∃k,vs.ownBlock=some k∧w.heap.size≤k)∧w.heap.size≤nb∧¬vs.ownBlock=some nb∧w.grownBy w' vp.ownBlock
theorem nx(w:World)(B:Nat)(fa la ca pa:Option Addr)(fn fcp nl lc cn cc n pc:Nat)(res:Int)(xs:List Value)(ho:w.ownsRow B 183 2 (.slice pa n pc) n xs)(hB:B≤w.heap.size)(hn:n+nl≤100000):
 Calls Tryz.prog 99 #[.agg #[.slice fa fn fcp,.int .i64 res,.slice la nl lc,.slice ca cn cc],.slice pa n pc] w (An w B (.slice ca cn cc) (.slice pa n pc) (n+nl) (xs++zV nl)):=by
 have g1:=(Gr.refl w).alloc (.cells #[.slice fa fn fcp,.int .i64 res,.slice la nl lc,.slice ca cn cc] 48);have hb1:=heap_alloc_new w (.cells #[.slice fa fn fcp,.int .i64 res,.slice la nl lc,.slice ca cn cc] 48);have hs1:(w.alloc (.cells #[.slice fa fn fcp,.int .i64 res,.slice la nl lc,.slice ca cn cc] 48)).heap.size=w.heap.size+1:=by simp
 have HO:=aH ho;have HG1:=aH g1;have HS1:=aH hs1;have KS:Hid (∀w':World,w'.heap[w.heap.size]? =some (.cells #[.slice fa fn fcp,.int .i64 res,.slice la nl lc,.slice ca cn cc] 48 (0,0))→w'.cell? ⟨w.heap.size,3,none⟩=some (.slice ca cn cc)∧w'.cell? ⟨w.heap.size,2,none⟩=some (.slice la nl lc)):=aH (fun w' e=>⟨by rw [aI e];rfl,by rw [aI e];rfl⟩);have HB1:=aH hb1;clear g1 hb1 ho hs1;go_enter Tryz.func99,Tryz.ntmps99
 go_upto_region 1 with fail
 generalize w.alloc (.cells #[.slice fa fn fcp,.int .i64 res,.slice la nl lc,.slice ca cn cc] 48)=W1 at HG1 HS1 HB1 ⊢;refine wp_region_held_drew (S:=(fun w'=>w'.cell? ⟨w.heap.size,3,none⟩=some (.slice ca cn cc)∧w'.cell? ⟨w.heap.size,2,none⟩=some (.slice la nl lc))) (by kernel_rfl) (KS.out _ HB1.out) (fun hH=>?_);refine tL 0 ?_;simp only [Act.put,sA,s0,s1];refine tL 1 ?_;simp only [Act.put,sA,s0,s1];refine tL 2 ?_;simp only [Act.put,sA,s0,s1];refine tL 3 ?_;simp only [Act.put,sA,s0,s1];refine tL 4 ?_;simp only [Act.put,sA,s0,s1];refine tL 5 ?_;simp only [Act.put,sA,s0,s1];obtain ⟨v6,w6,hr6,ho6,hg6,hl6⟩:=se (k:=nl) (w:=W1.drew) 177 (cY HO.out (HG1.out.drew)) hn (Nat.le_trans hB HG1.out.size);obtain ⟨ka6,kc6,rfl⟩:=aL ho6;have HO6:=aH ho6;have HG6:=aH hg6;have HL6:=aH hl6;have HS6:Hid (w.heap.size < w6.heap.size):=aH (by have h7:W1.heap.size≤w6.heap.size:=hg6.size;have:=HS1.out;omega);have hbx:w6.heap[w.heap.size]? =_:=(hg6.block w.heap.size (by show w.heap.size < W1.heap.size;have:=HS1.out;omega) (fun e=>by have:=(HO.out.lt _ e.symm).2;omega)).trans HB1.out;have HBX:=aH hbx;refine au (i:=6) rfl (by kernel_rfl) (fun K hK=>?_);refine ae (by rfl) (Lib.wp_append_run _ _ _ _ _ rfl (.slice pa n pc) (.int .i64 (nl:Int)) (by simp [Act.eval]) (by simp [Act.eval]) _ _ hr6 ?_);refine hK.out _ _ (KS.out _ HBX.out) (fun hH=>?_);clear hK;try simp only [Act.put,sA,s0,s1]
 clear hr6 hbx ho6 hg6 hl6;refine tL 7 ?_;simp only [Act.put,sA,s0,s1];refine au (i:=8) rfl (by kernel_rfl) (fun K hK=>?_);refine ae (by rfl) ?_;have HK:=aH hK;clear hK;go_simp
 refine HK.out _ _ (KS.out _ (((World.grownBy_alloc w6 _ none).block w.heap.size HS6.out (by simp)).trans HBX.out)) (fun hH=>?_);clear HK;try simp only [Act.put,sA,s0,s1]
 refine tL 9 ?_;simp only [Act.put,sA,s0,s1];refine wpAnyH_done (by kernel_rfl) ?_ _;clear hH KS;go_wp2_with fail
 go_ret
 have hs6:=HS6.out;refine ⟨w6.heap.size,.slice ka6 (n+nl) kc6,rfl,heap_alloc_new w6 _,cY HO6.out ((Gr.refl w6).alloc _),?_,by omega,?_,?_⟩
 · rcases HL6.out with e|e
   · exact .inl e
   · exact .inr ⟨_,e,by have:=HG1.out.size;show w.heap.size≤W1.heap.size;omega⟩
 · exact fun e=>by have:=(HO6.out.lt _ e).2;omega
 · have h6:=HG6.out;exact ⟨h6.os.trans HG1.out.os,h6.tape.trans HG1.out.tape,h6.output.trans HG1.out.output,by have:=HG1.out.size;have:=h6.size;simp;have h7:W1.heap.size≤w6.heap.size:=h6.size;omega,fun q hq hne=>((World.grownBy_alloc w6 _ none).block q (by have h7:W1.heap.size≤w6.heap.size:=h6.size;have:=HG1.out.size;omega) (by simp)).trans ((h6.block q (Nat.lt_of_lt_of_le hq HG1.out.size) hne).trans (HG1.out.block q hq (by simp)))⟩
open Go.RowKit
attribute [local go_sem ↓] Go.wp_at_zero Go.wp_at_succ
def nW(w:World)(mb:Nat)(v1 v2 v3 v4 v5 vf:Value)(hp tk ct:Int)(vt:Value):Prop:=w.heap[mb]? =some (.cells #[v1,v2,v3,v4,v5,vf,.int .i64 hp,.int .i64 tk,.int .i64 ct,vt] 121 (0,0))
def jR(l:List Int)(x:Int):List Int:=if l.length < 1000 then l++ [x] else l
def Ar(w:World)(mb:Nat)(v1 v2 v3 v4 v5 vf:Value)(hp tk ct:Int)(vt:Value)(l:List Int)(x:Ending)(w':World):Prop:=∃vt',x=.returned (.tuple #[])∧nW w' mb v1 v2 v3 v4 v5 vf hp tk ct vt'∧w'.ownsRow 0 3 1 vt' l.length (eh l)∧(vt'.ownBlock=vt.ownBlock∨∃k,vt'.ownBlock=some k∧w.heap.size≤k)∧zH w w' mb vt.ownBlock
theorem uc(w:World)(mb:Nat)(v1 v2 v3 v4 v5 vf:Value)(hp tk ct:Int)(vt:Value)(l:List Int)(x:Int)(hM:nW w mb v1 v2 v3 v4 v5 vf hp tk ct vt)(ho:w.ownsRow 0 3 1 vt l.length (eh l))(hne:¬vt.ownBlock=some mb)(hl:l.length≤1000):
 Calls Tryz.prog 107 #[.pointer (some ⟨mb,0,none⟩),.int .i64 x] w (Ar w mb v1 v2 v3 v4 v5 vf hp tk ct vt (jR l x)):=by
 obtain ⟨ta,tc,rfl⟩:=aL ho;have hmb:mb < w.heap.size:=(Array.getElem?_eq_some_iff.1 hM).1;have c9:w.cell? ⟨mb,9,none⟩=some (.slice ta l.length tc):=by rw [aI hM];rfl
 by_cases h:l.length < 1000
 · have hi:(l.length:Int) < 1000:=by omega
   have HT:Hid (jR l x=l++ [x]):=aH (by unfold jR;rw [if_pos h]);have gA:=(Gr.refl w).alloc (.cells #[.int .i64 x] 3);obtain ⟨v6,w6,hr6,ho6,hg6,hl6⟩:=dC (ty:=22) 22 3 _ Tryz.infI Tryz.uI rfl (by decide) (by decide) (cY ho gA) (eD w #[.int .i64 x] 3 1) rfl (by intro q hq;simp at hq;subst hq;rfl) (by omega) (Nat.zero_le _);obtain ⟨ta6,tc6,rfl⟩:=aL ho6;have hB6:∀b,b < w.heap.size→¬(Value.slice ta l.length tc).ownBlock=some b→w6.heap[b]? =w.heap[b]? :=fun b hb h2=>(hg6.block b (Nat.lt_of_lt_of_le hb gA.size) (fun e=>h2 e.symm)).trans (gA.block b hb (by simp))
   have hm6:=(hB6 mb hmb hne).trans hM;have d9:w6.cell? ⟨mb,9,none⟩=some (.slice ta l.length tc):=by rw [aI hm6];rfl
   have z9:w6.frozen? ⟨mb,9,none⟩=false:=aR hm6;have HR6:=aH hr6;have HO6:=aH ho6;have HB6:=aH hB6;have HM6:=aH hm6;have HL6:=aH hl6;have HE6:=aH (And.intro (hg6.os.trans gA.os) (And.intro (hg6.tape.trans gA.tape) (And.intro (hg6.output.trans gA.output) (Nat.le_trans gA.size hg6.size))));have HN6:Hid (¬(Value.slice ta6 (l.length+1) tc6).ownBlock=some mb):=aH (fun e=>by
    rcases hl6 with h|h
    · exact hne (h.symm.trans e)
    · rw [e] at h;have:=Option.some.inj h;simp at this;omega)
   have HSA:Hid ((w.alloc (.cells #[.int .i64 x] 3)).heap.size=w.heap.size+1):=aH (by simp);have c9':=gA.cell c9 (by simp);clear hM ho gA hr6 ho6 hg6 hl6 hB6 hm6;go_enter Tryz.func107,Tryz.ntmps107
   go_wp2_with (at_builtin;refine Lib.wpList_append_run _ rfl _ _ _ _ rfl _ _ rfl rfl _ _ HR6.out ?_)
   go_end0
   rw [HT.out];refine ⟨.slice ta6 (l.length+1) tc6,rfl,?_,?_,?_,⟨HE6.out.1,HE6.out.2.1,HE6.out.2.2.1,by have:=HE6.out.2.2.2;simpa using this,fun b hb h1 h2=>(Below.heap_setCell _ _ _ _ h1).trans (HB6.out b hb h2)⟩⟩
   · exact (heap_setCell_same w6 mb 9 _ _ _ HM6.out).trans (by simp)
   · have:=bX HO6.out (w':=w6.setCell ⟨mb,9,none⟩ (.slice ta6 (l.length+1) tc6)) (fun q hq=>Below.heap_setCell _ _ _ _ (by show q≠mb;exact fun e=>HN6.out (e▸hq)))
     simpa [eh] using this
   · rcases HL6.out with e|e
     · exact .inl e
     · exact .inr ⟨_,e,by have:=HSA.out;omega⟩
 · have hd:decide ((l.length:Int) < 1000)=false:=by rw [decide_eq_false_iff_not];omega
   have HT:Hid (jR l x=l):=aH (by unfold jR;rw [if_neg h]);have HM:=aH hM;have HO:=aH ho;clear hM ho;go_enter Tryz.func107,Tryz.ntmps107
   go_wp2_with fail
   go_end0
   rw [HT.out];exact ⟨_,rfl,HM.out,HO.out,.inl rfl,⟨rfl,rfl,rfl,Nat.le_refl _,fun _ _ _ _=>rfl⟩⟩
open Go.RowKit
attribute [local go_sem ↓] Go.wp_at_zero Go.wp_at_succ
theorem Tryz.infPf:(Tryz.prog.info? 122).map (fun i=>(i.zero,i.size,i.bytes))=some (some (.pointer none),1,8):=by kernel_rfl
theorem Tryz.uPf:Tryz.prog.underlying 119=some (.slice 122):=by kernel_rfl
def Au(w:World)(mb:Nat)(v1 v2 v3 v4 v5:Value)(hp tk ct:Int)(vt:Value)(g n cap:Nat)(ps:List Value)(x:Ending)(w':World):Prop:=x=.returned (if n=0 then .pointer none else ps.getD (n - 1) undef)∧nW w' mb v1 v2 v3 v4 v5 (.slice (some ⟨g,0,none⟩) n cap) hp tk ct vt∧w'.ownsRow 0 122 1 (.slice (some ⟨g,0,none⟩) n cap) n ps∧zH w w' mb none
theorem tD(w:World)(mb:Nat)(v1 v2 v3 v4 v5:Value)(hp tk ct:Int)(vt:Value)(g n cap:Nat)(ps:List Value)(pl:Value)(hM:nW w mb v1 v2 v3 v4 v5 (.slice (some ⟨g,0,none⟩) (n+1) cap) hp tk ct vt)(ho:w.ownsRow 0 122 1 (.slice (some ⟨g,0,none⟩) (n+1) cap) (n+1) (ps++ [pl]))(hne:¬g=mb)(hn:n≤1000)(hp1:∀u∈ps,∃a,u=.pointer (some a)):
 Calls Tryz.prog 102 #[.pointer (some ⟨mb,0,none⟩)] w (Au w mb v1 v2 v3 v4 v5 hp tk ct vt g n cap ps):=by
 have hmb:mb < w.heap.size:=(Array.getElem?_eq_some_iff.1 hM).1;have hpl:ps.length=n:=by have:=ho.1;simp at this;omega
 have hpo:=ownsRow_pop (xs:=ps) (last:= [pl]) (by omega) ho;have hcap:n+1≤cap:=by
  rcases ho.2 with ⟨h,_⟩|⟨g',cap',cur,e,_,_,h,_⟩
  · cases h
  · simp only [Value.slice.injEq,true_and] at e;omega
 have c5:w.cell? ⟨mb,5,none⟩=some (.slice (some ⟨g,0,none⟩) (n+1) cap):=by rw [aI hM];rfl
 have z5:w.frozen? ⟨mb,5,none⟩=false:=aR hM;have HM:=aH hM;have HPO:=aH hpo;have hgl:g < w.heap.size:=(hpo.lt g rfl).2;have hw1:IntKind.i64.wrap ((n:Int)+1 - 1)=(n:Int):=by rw [Go.IntWalk.i64_in _ (by omega)];omega
 have hw2:IntKind.i64.wrap (((n+1:Nat):Int) - 1)=(n:Int):=by rw [Go.IntWalk.i64_in _ (by omega)];omega
 have hw3:IntKind.i64.wrap (n:Int)=(n:Int):=Go.IntWalk.i64_in _ (by omega);have b1:(n:Int)≤(n:Int)+1:=by omega
 have b3:(n:Int)≤(cap:Int):=by omega
 have b4:n≤cap:=by omega
 have HEND:Hid (nW (w.setCell ⟨mb,5,none⟩ (.slice (some ⟨g,0,none⟩) n cap)) mb v1 v2 v3 v4 v5 (.slice (some ⟨g,0,none⟩) n cap) hp tk ct vt∧(w.setCell ⟨mb,5,none⟩ (.slice (some ⟨g,0,none⟩) n cap)).ownsRow 0 122 1 (.slice (some ⟨g,0,none⟩) n cap) n ps∧zH w (w.setCell ⟨mb,5,none⟩ (.slice (some ⟨g,0,none⟩) n cap)) mb none):=aH (by
  refine ⟨(heap_setCell_same w mb 5 _ _ _ hM).trans (by simp),bX hpo (fun q hq=>?_),⟨rfl,rfl,rfl,by simp,fun b hb h1 _=>Below.heap_setCell _ _ _ _ h1⟩⟩;have hqg:g=q:=by simpa [Value.ownBlock] using hq
  subst hqg;exact Below.heap_setCell _ _ _ _ hne)
 by_cases h0:n=0
 · subst h0;clear hM ho hpo;go_enter Tryz.func102,Tryz.ntmps102
   go_wp2_with fail
   go_ret
   exact ⟨by simp,HEND.out⟩
 · obtain ⟨j,hj⟩:∃j,n=j+1:=⟨n - 1,by omega⟩;obtain ⟨pv,hpv⟩:=aY (show j < ps.length by omega);obtain ⟨a,rfl⟩:=hp1 pv (List.mem_of_getElem? hpv);have HRV:Hid ((if n=0 then Value.pointer none else ps.getD (n - 1) undef)=.pointer (some a)):=aH (by rw [if_neg h0,hj,Nat.add_sub_cancel,List.getD_eq_getElem?_getD,hpv];rfl);have cj:(w.setCell ⟨mb,5,none⟩ (.slice (some ⟨g,0,none⟩) n cap)).cell? ⟨g,j,none⟩=some (.pointer (some a)):=by
    rw [HEND.out.2.1.cellAt _ (by omega)];exact hpv
   have hw4:IntKind.i64.wrap ((n:Int) - 1)=(j:Int):=by rw [Go.IntWalk.i64_in _ (by omega)];omega
   have hb0:((n:Int) == 0)=false:=by simpa using h0
   have hjn:(j:Int) < (n:Int):=by omega
   have hjn2:j < n:=by omega
   have c5':(w.setCell ⟨mb,5,none⟩ (.slice (some ⟨g,0,none⟩) n cap)).cell? ⟨mb,5,none⟩=some (.slice (some ⟨g,0,none⟩) n cap):=World.cell?_setCell_same _ _ _ c5;have HJ:=aH hj;clear hM ho hpo hpv hj;go_enter Tryz.func102,Tryz.ntmps102
   go_upto_region 3 with fail
   generalize w.setCell ⟨mb,5,none⟩ (.slice (some ⟨g,0,none⟩) n cap)=W2 at HEND cj c5' ⊢;go_wp2_with fail
   go_ret
   refine ⟨?_,HEND.out⟩;rw [HRV.out];rfl
open Go.RowKit
attribute [local go_sem ↓] Go.wp_at_zero Go.wp_at_succ
def Ap(w:World)(mb:Nat)(v1 v2 v3 v4 v5:Value)(hp tk ct:Int)(vt vf:Value)(m:Nat)(ps:List Value)(vc vp:Value)(n:Nat)(xs:List Value)(x:Ending)(w':World):Prop:=∃nb vs vf',x=.returned (.pointer (some ⟨nb,0,none⟩))∧kd w' nb vc 0 vs (.slice none 0 0)∧w'.ownsRow 0 183 2 vs n xs∧(vs.ownBlock=vp.ownBlock∨∃k,vs.ownBlock=some k∧w.heap.size≤k)∧w.heap.size≤nb∧¬vs.ownBlock=some nb∧
 nW w' mb v1 v2 v3 v4 v5 vf' hp tk ct vt∧w'.ownsRow 0 122 1 vf' (m+1) (ps++ [.pointer (some ⟨nb,0,none⟩)])∧(vf'.ownBlock=vf.ownBlock∨∃k,vf'.ownBlock=some k∧w.heap.size≤k∧¬k=nb∧¬vs.ownBlock=some k)∧
 w'.os=w.os∧w'.tape=w.tape∧w'.output=w.output∧w.heap.size≤w'.heap.size∧∀b,b < w.heap.size→¬b=mb→¬vp.ownBlock=some b→¬vf.ownBlock=some b→w'.heap[b]? =w.heap[b]?
theorem tt(w:World)(mb:Nat)(v1 v2 v4 v5 vf:Value)(hp tk ct:Int)(vt:Value)(m:Nat)(ps:List Value)(fb off fl fcp q:Nat)(fa la ca pa:Option Addr)(fn fc nl lc cn cc n pc:Nat)(res:Int)(xs:List Value)
 (hM:nW w mb v1 v2 (.slice (some ⟨fb,off,none⟩) fl fcp) v4 v5 vf hp tk ct vt) (hq:q < fl) (hfl:fl≤100000)
 (k0:w.cell? ⟨fb,off+q * 4,none⟩=some (.slice fa fn fc)) (k1:w.cell? ⟨fb,off+q * 4+1,none⟩=some (.int .i64 res)) (k2:w.cell? ⟨fb,off+q * 4+2,none⟩=some (.slice la nl lc)) (k3:w.cell? ⟨fb,off+q * 4+3,none⟩=some (.slice ca cn cc))
 (ho:w.ownsRow 0 122 1 vf m ps) (hne:¬vf.ownBlock=some mb) (hm:m≤1000)
 (hp1:w.ownsRow 0 183 2 (.slice pa n pc) n xs) (hpn:¬(Value.slice pa n pc).ownBlock=some mb) (hpf:∀b,(Value.slice pa n pc).ownBlock=some b→¬vf.ownBlock=some b) (hn:n+nl≤100000):
 Calls Tryz.prog 66 #[.pointer (some ⟨mb,0,none⟩),.int .i64 (q:Int),.slice pa n pc] w (Ap w mb v1 v2 (.slice (some ⟨fb,off,none⟩) fl fcp) v4 v5 hp tk ct vt vf m ps (.slice ca cn cc) (.slice pa n pc) (n+nl) (xs++zV nl)):=by
 obtain ⟨fra,frc,rfl⟩:=aL ho;have hmb:mb < w.heap.size:=(Array.getElem?_eq_some_iff.1 hM).1;have c2:w.cell? ⟨mb,2,none⟩=some (.slice (some ⟨fb,off,none⟩) fl fcp):=by rw [aI hM];rfl
 have hqi:(q:Int) < (fl:Int):=by omega
 have HM:=aH hM;have HO:=aH ho;have HP:=aH hp1;have HPF:=aH hpf;clear hM ho hp1 hpf;go_enter Tryz.func66,Tryz.ntmps66
 go_wp2_with fail
 refine (nx w 0 fa la ca pa fn fc nl lc cn cc n pc res xs HP.out (Nat.zero_le _) hn).mono ?_;rintro z w1 ⟨nb,vs,rfl,hF1,hO1,hV1,hN1,hS1,g1⟩;have hB1:∀b,b < w.heap.size→¬(Value.slice pa n pc).ownBlock=some b→w1.heap[b]? =w.heap[b]? :=fun b hb h2=>g1.block b hb (fun e=>h2 e.symm)
 have hm1:=(hB1 mb hmb hpn).trans HM.out;have d5:w1.cell? ⟨mb,5,none⟩=some (.slice fra m frc):=by rw [aI hm1];rfl
 have hof1:w1.ownsRow 0 122 1 (.slice fra m frc) m ps:=bX HO.out (fun b hb=>hB1 b ((HO.out.lt b hb).2) (fun e=>HPF.out b e hb));have hnb:nb < w1.heap.size:=(Array.getElem?_eq_some_iff.1 hF1).1;have gA:=(Gr.refl w1).alloc (.cells #[.pointer (some ⟨nb,0,none⟩)] 122);obtain ⟨v6,w6,hr6,ho6,hg6,hl6⟩:=dC (ty:=119) 119 122 _ Tryz.infPf Tryz.uPf rfl (by decide) (by decide) (cY hof1 gA) (eD w1 #[.pointer (some ⟨nb,0,none⟩)] 122 1) rfl (by intro q hq;simp at hq;subst hq;rfl) (by omega) (Nat.zero_le _);obtain ⟨fra6,frc6,rfl⟩:=aL ho6;have hB6:∀b,b < w1.heap.size→¬(Value.slice fra m frc).ownBlock=some b→w6.heap[b]? =w1.heap[b]? :=fun b hb h2=>(hg6.block b (Nat.lt_of_lt_of_le hb gA.size) (fun e=>h2 e.symm)).trans (gA.block b hb (by simp))
 have hs1:w.heap.size≤w1.heap.size:=g1.size;have hm6:=(hB6 mb (by omega) hne).trans hm1;have d5':=gA.cell d5 (by simp);have z5:w6.cell? ⟨mb,5,none⟩=some (.slice fra m frc):=by rw [aI hm6];rfl
 have z9:w6.frozen? ⟨mb,5,none⟩=false:=aR hm6;have HR6:=aH hr6;have HFR:Hid (∀b,(Value.slice fra m frc).ownBlock=some b→b < w.heap.size):=aH (fun b hb=>(HO.out.lt b hb).2);have HF6:Hid (kd w6 nb (.slice ca cn cc) 0 vs (.slice none 0 0)):=aH ((hB6 nb hnb (fun e=>by have:=HFR.out nb e;omega)).trans hF1);have HVS:Hid (∀b,vs.ownBlock=some b→b < w1.heap.size∧¬(Value.slice fra m frc).ownBlock=some b∧¬b=mb):=aH (fun b hb=>by
  refine ⟨(hO1.lt b hb).2,fun e=>?_,fun e=>?_⟩
  · rcases hV1 with h|⟨k,h,hk⟩
    · exact HPF.out b (h.symm.trans hb) e
    · have e1:=HFR.out b e;rw [hb] at h;have:=Option.some.inj h;omega
  · subst e;rcases hV1 with h|⟨k,h,hk⟩
    · exact hpn (h.symm.trans hb)
    · rw [hb] at h;have:=Option.some.inj h;omega)
 have HO6v:Hid (w6.ownsRow 0 183 2 vs (n+nl) (xs++zV nl)):=aH (bX hO1 (fun b hb=>hB6 b (HVS.out b hb).1 (HVS.out b hb).2.1));have HN6:Hid (¬(Value.slice fra6 (m+1) frc6).ownBlock=some mb∧((Value.slice fra6 (m+1) frc6).ownBlock=(Value.slice fra m frc).ownBlock∨(Value.slice fra6 (m+1) frc6).ownBlock=some (w1.heap.size+1))):=aH (by
  have e8:(w1.alloc (.cells #[.pointer (some ⟨nb,0,none⟩)] 122)).heap.size=w1.heap.size+1:=by simp
  rw [e8] at hl6;refine ⟨fun e=>?_,hl6⟩;rcases hl6 with h|h
  · exact hne (h.symm.trans e)
  · rw [e] at h;have:=Option.some.inj h;omega)
 have HO6:=aH ho6;have HM6:=aH hm6;have HBB:Hid (∀b,b < w.heap.size→¬(Value.slice pa n pc).ownBlock=some b→¬(Value.slice fra m frc).ownBlock=some b→w6.heap[b]? =w.heap[b]?):=aH (fun b hb h1 h2=>(hB6 b (by omega) h2).trans (hB1 b hb h1));have HE6:=aH (And.intro (hg6.os.trans (gA.os.trans g1.os)) (And.intro (hg6.tape.trans (gA.tape.trans g1.tape)) (And.intro (hg6.output.trans (gA.output.trans g1.output)) (Nat.le_trans hs1 (Nat.le_trans gA.size hg6.size)))));have HV1:=aH hV1;have HN1:=aH hN1;have HS1:=aH hS1;have HNB:=aH hnb;have HSZ:=aH hs1;clear hF1 hO1 hV1 hN1 hS1 g1 hB1 hm1 hof1 gA hr6 ho6 hg6 hl6 hB6 hm6 hnb hs1;go_wp2_with (at_builtin;refine Lib.wpList_append_run _ rfl _ _ _ _ rfl _ _ rfl rfl _ _ HR6.out ?_)
 go_ret
 refine ⟨nb,vs,.slice fra6 (m+1) frc6,rfl,?_,?_,HV1.out,HN1.out,HS1.out,?_,?_,?_,HE6.out.1,HE6.out.2.1,HE6.out.2.2.1,by have:=HE6.out.2.2.2;simpa using this,fun b hb h1 h2 h3=>(Below.heap_setCell _ _ _ _ h1).trans (HBB.out b hb h2 h3)⟩
 · exact (Below.heap_setCell _ _ _ _ (by show nb≠mb;have:=HN1.out;omega)).trans HF6.out
 · exact bX HO6v.out (fun b hb=>Below.heap_setCell _ _ _ _ (HVS.out b hb).2.2)
 · exact (heap_setCell_same w6 mb 5 _ _ _ HM6.out).trans (by simp)
 · exact bX HO6.out (fun b hb=>Below.heap_setCell _ _ _ _ (by show b≠mb;exact fun e=>HN6.out.1 (e▸hb)))
 · rcases HN6.out.2 with e|e
   · exact .inl e
   · exact .inr ⟨_,e,by have:=HSZ.out;omega,by have:=HNB.out;omega,fun e2=>by have:=(HVS.out _ e2).1;omega⟩
end Go.Proofs.YtkgncijcnlfhiaaGreat
