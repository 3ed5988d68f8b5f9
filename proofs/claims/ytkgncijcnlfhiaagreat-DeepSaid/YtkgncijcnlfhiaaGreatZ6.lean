import Derived.Test.YtkgncijcnlfhiaaGreatZe
import Derived.Test.YtkgncijcnlfhiaaGreatNh
import Derived.Test.YtkgncijcnlfhiaaGreatT1
import Derived.Test.YtkgncijcnlfhiaaGreatNa
namespace Go.Proofs.YtkgncijcnlfhiaaGreat
set_option maxRecDepth 100000
set_option maxHeartbeats 2000000
set_option linter.unusedVariables false
set_option linter.unusedSimpArgs false
open Go.RowKit
attribute [local go_sem ↓] Go.wp_at_zero Go.wp_at_succ
def RIntsQ(P:Nat→Prop)(w:World)(v:Value)(l:List Int):Prop:=
 ∃ao cap,v=.slice ao l.length cap∧(l.length≤maxLen∧l.length≤cap)∧∀i,i < l.length→∃b off,ao=some ⟨b,off,none⟩∧P b∧w.cell? ⟨b,off+i,none⟩=some (.int .i64 (l.getD i 0))
theorem RIntsQ.to{P:Nat→Prop}{w:World}{v:Value}{l:List Int}(h:RIntsQ P w v l):RInts w v l:=by
 obtain ⟨ao,cap,h1,h2,h3⟩:=h;exact ⟨ao,cap,h1,h2.1,fun i hi=>by obtain ⟨b,off,e1,_,e3⟩:=h3 i hi;exact ⟨b,off,e1,e3⟩⟩
theorem RIntsQ.cap{P:Nat→Prop}{w:World}{l:List Int}{ao:Option Addr}{n c:Nat}(h:RIntsQ P w (.slice ao n c) l):l.length≤c:=by
 obtain ⟨ao',cap,h1,h2,h3⟩:=h;simp only [Value.slice.injEq] at h1;obtain ⟨_,_,rfl⟩:=h1;exact h2.2
theorem RIntsQ.mono{P P':Nat→Prop}{w w':World}{v:Value}{l:List Int}(h:RIntsQ P w v l)(g:∀b,P b→b < w.heap.size→w'.heap[b]? =w.heap[b]? ∧P' b):RIntsQ P' w' v l:=by
 obtain ⟨ao,cap,h1,h2,h3⟩:=h;refine ⟨ao,cap,h1,h2,fun i hi=>?_⟩;obtain ⟨b,off,e1,e2,e3⟩:=h3 i hi;have hb:=World.block_lt_of_cell? w _ e3;obtain ⟨g1,g2⟩:=g b e2 hb;exact ⟨b,off,e1,g2,(World.cell?_of_block (a:=⟨b,off+i,none⟩) g1).trans e3⟩
theorem rintsq_nil(P:Nat→Prop)(w:World):RIntsQ P w (.slice none 0 0) []:=⟨none,0,rfl,⟨by decide,by decide⟩,fun i h=>by simp at h⟩
def Sb(B:Nat)(vw:Value)(b:Nat):Prop:=B≤b∧¬vw.ownBlock=some b
def lkArr(v1 v2 v3 v4 v5 vs:Value)(N res:Int)(n:Nat)(vc:Value)(mb:Nat)(vw:Value):Array Value:=#[v1,v2,v3,v4,v5,vs,.int .i64 N,.int .i64 res,.int .i64 (n:Int),vc,.map (some mb),vw]
structure LkAt(W0 w:World)(lb mb B:Nat)(v1 v2 v3 v4 v5 vs:Value)(sl:List Int)(N:Nat)(res:Int)(n:Nat)(vc vw:Value)(st:Nat→Option (List Int))(dn:Nat→Bool)(m:Nat→Option Value)(l:List Int)(k:Nat):Prop where
 box:w.heap[lb]? =some (.cells (lkArr v1 v2 v3 v4 v5 vs (N:Int) res n vc mb vw) 76 (0,0))
 row:HpRow w B vw l
 lbB:lb < B
 bs:B≤w.heap.size
 mp:MapIs w mb k m
 mbB:mb < B
 mbl:¬mb=lb
 sts:∀j s,st j=some s→∃v,m j=some v∧RIntsQ (Sb B vw) w v s
 len:∀j s,st j=some s→s.length≤20
 non:∀j,st j=none→m j=none
 wait:Wait N (fnL l) l.length st dn
 bound:k+undone N (fun j=>(st j).isSome)≤N
 small:N≤1000
 wl:l.length≤k
 slt:RIntsQ (fun b=>¬b=lb∧¬b=mb∧b < B) w vs sl
 low:Below W0.heap.size W0 w
 w0l:W0.heap.size≤lb
 w0m:W0.heap.size≤mb
structure LkFr(w w':World)(lb mb:Nat)(vw:Value):Prop where
 size:w.heap.size≤w'.heap.size
 rest:∀b,b < w.heap.size→¬b=lb→¬b=mb→¬vw.ownBlock=some b→w'.heap[b]? =w.heap[b]?
theorem heap_cell_{w:World}{b:Nat}{arr:Array Value}{t:TypeId}{o:Nat}{f:Nat×Nat}(h:w.heap[b]? =some (.cells arr t f)):w.cell? ⟨b,o,none⟩=arr[o]? :=by
 simp [World.cell?,h]
theorem heap_frozen_{w:World}{b:Nat}{arr:Array Value}{t:TypeId}{o:Nat}(h:w.heap[b]? =some (.cells arr t (0,0))):w.frozen? ⟨b,o,none⟩=false:=by
 simp [World.frozen?,h]
theorem LkAt.wt{W0 w:World}{lb mb B:Nat}{v1 v2 v3 v4 v5 vs:Value}{sl:List Int}{N:Nat}{res:Int}{n:Nat}{vc vw:Value}{st:Nat→Option (List Int)}{dn:Nat→Bool}{m:Nat→Option Value}{l:List Int}{k:Nat}(h:LkAt W0 w lb mb B v1 v2 v3 v4 v5 vs sl N res n vc vw st dn m l k):WtAt w lb 11 B vw l:=
 ⟨by rw [heap_cell_ h.box];rfl,heap_frozen_ h.box,h.row,h.lbB,h.bs,by have:=h.wl;have:=h.small;have:=h.bound;omega⟩
theorem LkAt.gr{W0 w w':World}{lb mb B:Nat}{v1 v2 v3 v4 v5 vs:Value}{sl:List Int}{N:Nat}{res:Int}{n:Nat}{vc vw:Value}{st:Nat→Option (List Int)}{dn:Nat→Bool}{m:Nat→Option Value}{l:List Int}{k:Nat}(h:LkAt W0 w lb mb B v1 v2 v3 v4 v5 vs sl N res n vc vw st dn m l k)(g:Gr w w'):LkAt W0 w' lb mb B v1 v2 v3 v4 v5 vs sl N res n vc vw st dn m l k:=by
 have hlb:lb < w.heap.size:=by have:=h.lbB;have:=h.bs;omega
 have hmb:mb < w.heap.size:=h.mp.lt;refine ⟨(g.block lb hlb (by simp)).trans h.box,h.row.keep fun b hb=>g.block b (World.ownsRow.lt h.row b hb).2 (by simp),h.lbB,Nat.le_trans h.bs g.size,h.mp.kept (g.block mb hmb (by simp)),h.mbB,h.mbl,fun j s hs=>?_,h.len,h.non,h.wait,h.bound,h.small,h.wl,h.slt.mono fun b hb hl=>⟨g.block b hl (by simp),hb⟩,h.low.grown g h.low.size (by simp),h.w0l,h.w0m⟩;obtain ⟨v,e1,e2⟩:=h.sts j s hs;exact ⟨v,e1,e2.mono fun b hb hl=>⟨g.block b hl (by simp),hb⟩⟩
theorem wrong_any(lb n at_:Nat)(w:World)(hc:w.cell? ⟨lb,8,none⟩=some (.int .i64 (n:Int))):
 Calls Tryz.prog 78 #[.pointer (some ⟨lb,0,none⟩),.int .i64 (at_:Int)] w fun x w'=>x=.returned (.agg #[.int .i64 10,.int .i64 (n:Int),.int .i64 (at_:Int)])∧Gr w w':=by
 have hc1:=(World.grownBy_alloc w (.cells #[.int .i64 0,.int .i64 0,.int .i64 0] 58) none).cell hc (by simp);go_enter Tryz.func78,Tryz.ntmps78
 go_wp2_with fail
 exact bodyPost_ret (v:=.agg #[.int .i64 10,.int .i64 (n:Int),.int .i64 (at_:Int)]) (by simp [results,Tryz.results78,go_sem]) rfl ⟨rfl,(Gr.refl w).alloc _⟩
open Go.RowKit
attribute [local go_sem ↓] Go.wp_at_zero Go.wp_at_succ
theorem Sb.of{B:Nat}{vw vw':Value}{b:Nat}(h:Sb B vw b){w:World}(hl:b < w.heap.size)(g:∀b,vw'.ownBlock=some b→vw.ownBlock=some b∨w.heap.size≤b):Sb B vw' b:=
 ⟨h.1,fun e=>by
  rcases g b e with e2|e2
  · exact h.2 e2
  · omega⟩
def ComeR(W0 w:World)(lb mb B:Nat)(v1 v2 v3 v4 v5 vs:Value)(sl:List Int)(N:Nat)(res:Int)(n:Nat)(vc vw:Value)(st:Nat→Option (List Int))(dn:Nat→Bool)(t:Nat)(s:List Int)(x:Ending)(w':World):Prop:=
 (∃s0,st t=some s0∧¬s0=s∧x=.panicked (thr3 10 n t)∧Below W0.heap.size W0 w')∨
 (x=.returned (.tuple #[])∧∃vw' m' l' k',LkAt W0 w' lb mb B v1 v2 v3 v4 v5 vs sl N res n vc vw' (fun j=>if j=t then some s else st j) dn m' l' k'∧LkFr w w' lb mb vw∧(∀b,vw'.ownBlock=some b→vw.ownBlock=some b∨w.heap.size≤b)∧(st t=none∨st t=some s))
theorem come_any(W0 w:World)(lb mb B:Nat)(v1 v2 v3 v4 v5 vs:Value)(sl:List Int)(N:Nat)(res:Int)(n:Nat)(vc vw:Value)(st:Nat→Option (List Int))(dn:Nat→Bool)(m:Nat→Option Value)(l:List Int)(k:Nat)(t:Nat)(s:List Int)(v:Value)
 (h:LkAt W0 w lb mb B v1 v2 v3 v4 v5 vs sl N res n vc vw st dn m l k) (ht:t < N) (hs:RIntsQ (Sb B vw) w v s) (hsl:s.length≤20):
 Calls Tryz.prog 48 #[.pointer (some ⟨lb,0,none⟩),.int .i64 (t:Int),v] w (ComeR W0 w lb mb B v1 v2 v3 v4 v5 vs sl N res n vc vw st dn t s):=by
 have HH:=hide h;have HS:=hide hs;obtain ⟨av,cv,rfl⟩:=hs.to.shape;have hN:=h.small;have hc8:w.cell? ⟨lb,8,none⟩=some (.int .i64 (n:Int)):=by rw [heap_cell_ h.box];rfl
 have hc10:w.cell? ⟨lb,10,none⟩=some (.map (some mb)):=by rw [heap_cell_ h.box];rfl
 have hlk:=h.mp.look t (by omega);cases hst:st t with
 | some s0=>
  obtain ⟨v0,hm0,hr0⟩:=h.sts t s0 hst;rw [hm0] at hlk;obtain ⟨a0,c0,rfl⟩:=hr0.to.shape;simp only [Option.getD_some,Option.isSome_some] at hlk;have HR0:=hide hr0.to;have HST:=hide hst;have HWR:=hide (wrong_any lb n t w hc8);clear h hs hr0 hst hm0;go_enter Tryz.func48,Tryz.ntmps48
  go_wp2_with fail
  refine HWR.out.mono ?_;rintro x w1 ⟨rfl,hg1⟩;have HG1:=hide hg1;clear hg1 hlk hc8 hc10;go_wp2_with fail
  refine (equal_any _ _ s s0 w1 (HS.out.to.gr HG1.out) (HR0.out.gr HG1.out)).mono ?_;rintro x w2 ⟨rfl,hg2⟩;have HG2:=hide (HG1.out.trans hg2);clear hg2;by_cases he:s=s0
  · have hd:decide (s=s0)=true:=by simpa using he
    rw [hd];have HE:=hide he;clear hd he;go_wp2_with fail
    refine (unless3_yes _ _ _ _).mono ?_;rintro x w3 ⟨rfl,hg3⟩;have HG3:=hide (HG2.out.trans hg3);clear hg3;go_wp2_with fail
    go_end0
    refine .inr ⟨rfl,vw,m,l,k,?_,⟨HG3.out.size,fun b hb _ _ _=>HG3.out.block b hb (by simp)⟩,fun b hb=>.inl hb,.inr (by rw [HST.out,HE.out])⟩;have e:(fun j=>if j=t then some s else st j)=st:=by
     funext j
     by_cases hj:j=t
     · rw [if_pos hj,hj,HST.out,HE.out]
     · rw [if_neg hj]
    rw [e];exact HH.out.gr HG3.out
  · have hd:decide (s=s0)=false:=by simpa using he
    rw [hd];have HE:=hide he;clear hd he;go_wp2_with fail
    refine (unless3_no _ _ _ _).mono ?_;rintro x w3 ⟨rfl,hg3⟩;have HG3:=hide (HG2.out.trans hg3);clear hg3;exact ⟨rfl,.inl ⟨s0,HST.out,fun e=>HE.out e.symm,rfl,HH.out.low.grown HG3.out HH.out.low.size (by simp)⟩⟩
 | none=>
  rw [h.non t hst] at hlk;simp only [Option.getD_none,Option.isSome_none] at hlk;unfold nilV at hlk;obtain ⟨w1,hrun,hm1,hg1⟩:=h.mp.store t (by omega) (by have:=h.bound;omega) (.slice av s.length cv);have HST:=hide hst;have HM1:=hide hm1;have HG1:=hide hg1;have hwt1:WtAt w1 lb 11 B vw l:=by
   have hw:=h.wt;have hlbw:lb < w.heap.size:=by have:=h.lbB;have:=h.bs;omega
   have hb1:w1.heap[lb]? =w.heap[lb]? :=hg1.block lb hlbw (by have:=h.mbl;simp;omega);exact ⟨(World.cell?_of_block (a:=⟨lb,11,none⟩) hb1).trans hw.cell,(World.frozen?_of_block (a:=⟨lb,11,none⟩) hb1).trans hw.fz,hw.row.keep fun b hb=>hg1.block b (World.ownsRow.lt hw.row b hb).2 (by have:=(World.ownsRow.lt hw.row b hb).1;have:=h.mbB;simp;omega),hw.lb,Nat.le_trans hw.bs hg1.size,hw.small⟩
  have HW1:=hide hwt1;have hln:l.length < 100000:=by have:=h.wl;have:=h.bound;omega
  have HP:=hide (hpush_any lb 11 B vw l (t:Int) w1 hwt1 hln h.wait.hp);clear h hs hst hm1 hg1 hwt1;go_enter Tryz.func48,Tryz.ntmps48
  go_wp2_with fail
  refine HP.out.mono ?_;rintro x w2 ⟨vw',l2,rfl,hwt2,hlen2,hhp2,hsm2,hfr2⟩;have HR:Hid (ComeR W0 w lb mb B v1 v2 v3 v4 v5 vs sl N res n vc vw st dn t s (.returned (.tuple #[])) w2):=hide (by
   have h:=HH.out;have hg1:=HG1.out;have hsz1:=hg1.size;have hsz2:=hfr2.size;have hlb:=h.lbB;have hbs:=h.bs;have hmb:=h.mbB;have hmbl:=h.mbl;have hbd:=h.bound;have hwl:=h.wl;have hmw:mb < w.heap.size:=h.mp.lt;have hvw:∀b,vw.ownBlock=some b→B≤b∧b < w.heap.size:=fun b hb=>World.ownsRow.lt h.row b hb
   have hb1:w1.heap[lb]? =some (.cells (lkArr v1 v2 v3 v4 v5 vs (N:Int) res n vc mb vw) 76 (0,0)):=(hg1.block lb (by omega) (by simp;omega)).trans h.box;have hnt:∀b,b < w.heap.size→Sb B vw b→w2.heap[b]? =w.heap[b]? :=fun b hb hs=>(hfr2.rest b (by omega) (by have:=hs.1;omega) hs.2).trans (hg1.block b hb (by have:=hs.1;simp;omega))
   have hmt:∀b,b < w.heap.size→¬b=lb→¬b=mb→¬vw.ownBlock=some b→w2.heap[b]? =w.heap[b]? :=fun b hb e1 e2 e3=>(hfr2.rest b (by omega) e1 e3).trans (hg1.block b hb (by simp;omega))
   have hlies:∀b,vw'.ownBlock=some b→vw.ownBlock=some b∨w.heap.size≤b:=fun b hb=>by
    rcases hfr2.lies b hb with e|e
    · exact .inl e
    · right;omega
   refine .inr ⟨rfl,vw',_,l2,k+1,⟨?_,hwt2.row,hlb,hwt2.bs,HM1.out.kept (hfr2.rest mb (by omega) hmbl (fun e=>by have:=(hvw mb e).1;omega)),hmb,hmbl,fun j s' hj=>?_,fun j s' hj=>?_,fun j hj=>?_,?_,?_,h.small,by omega,h.slt.mono fun b hb hl=>⟨hmt b hl hb.1 hb.2.1 (fun e=>by have:=(hvw b e).1;have:=hb.2.2;omega),hb⟩,?_,h.w0l,h.w0m⟩,⟨by omega,hmt⟩,hlies,.inl HST.out⟩
   · rw [hfr2.box,heap_setCell_same w1 lb 11 _ _ vw' hb1];rfl
   · by_cases e:j=t
     · subst e;rw [if_pos rfl] at hj;obtain rfl:=Option.some.inj hj;exact ⟨_,if_pos rfl,HS.out.mono fun b hb hl=>⟨hnt b hl hb,hb.of hl hlies⟩⟩
     · rw [if_neg e] at hj;obtain ⟨v0,e1,e2⟩:=h.sts j s' hj;exact ⟨v0,by rw [if_neg e];exact e1,e2.mono fun b hb hl=>⟨hnt b hl hb,hb.of hl hlies⟩⟩
   · by_cases e:j=t
     · rw [if_pos e] at hj;obtain rfl:=Option.some.inj hj;exact hsl
     · rw [if_neg e] at hj;exact h.len j s' hj
   · by_cases e:j=t
     · rw [if_pos e] at hj;cases hj
     · rw [if_neg e] at hj ⊢;exact h.non j hj
   · rw [hlen2];exact h.wait.push ht HST.out hhp2 hsm2
   · have e:(fun j=>(if j=t then some s else st j).isSome)=fun j=>decide (j=t) ||(st j).isSome:=by
      funext j
      by_cases hj:j=t<;>simp [hj]
     rw [e];have:=undone_less N t (fun j=>(st j).isSome) ht (by simp only [HST.out];rfl)
     omega
   · refine ⟨hfr2.os.trans (hg1.os.trans h.low.os),hfr2.tape.trans (hg1.tape.trans h.low.tape),hfr2.output.trans (hg1.output.trans h.low.output),?_,?_⟩
     · have:=h.low.size;omega
     · intro b hb;have:=h.w0l
       have:=h.w0m
       exact (hmt b (by have:=h.low.size;omega) (by omega) (by omega) (fun e=>by have:=(hvw b e).1;omega)).trans (h.low.block b hb))
  clear hwt2 hlen2 hhp2 hsm2 hfr2 hrun hlk;go_wp2_with fail
  go_end0
  exact HR.out
open Go.RowKit
attribute [local go_sem ↓] Go.wp_at_zero Go.wp_at_succ
theorem below_gr_{W0 w:World}(h:Below W0.heap.size W0 w):Gr W0 w:=⟨h.os,h.tape,h.output,h.size,fun k hk _=>h.block k hk⟩
def LookR(W0:World)(lb mb B:Nat)(v1 v2 v3 v4 v5 vs:Value)(sl:List Int)(N:Nat)(res:Int)(n:Nat)(vc:Value)(dn:Nat→Bool)(o:Nat ⊕ (Nat→Option (List Int)))(x:Ending)(w':World):Prop:=match o with
 | .inl t=>x=.panicked (thr3 10 n t)∧Below W0.heap.size W0 w'
 | .inr st'=>x=.returned (.tuple #[])∧∃vw m l k,LkAt W0 w' lb mb B v1 v2 v3 v4 v5 vs sl N res n vc vw st' dn m l k
def stepQ(u:PUnit)(f:PFunc)(q:Nat)(i:PIns)(s:List Int)(st:Nat→Option (List Int)):Nat ⊕ (Nat→Option (List Int)):=
 match doneQ u f i s with
 | none=>.inl q
 | some s'=>comesP s' q (nextP f q i) st
theorem stepQ_eq{u:PUnit}{f:PFunc}{q:Nat}{i:PIns}{s:List Int}{st:Nat→Option (List Int)}(hu:unitOk u=true)(hf:f∈u.funcs):stepQ u f q i s st=stepP u f q i s st:=by
 unfold stepQ stepP;rw [doneQ_eq s (eff_nn hu hf)];cases doneP u f i s<;>rfl
def LookC(W0:World)(lb mb B:Nat)(v1 v2 v3 v4 v5 vs:Value)(sl:List Int)(u:PUnit)(f:PFunc)(n:Nat)(vc:Value):Prop:=∀(w:World) (vw:Value) (st:Nat→Option (List Int)) (dn:Nat→Bool) (m:Nat→Option Value) (l:List Int) (k q:Nat) (i:PIns) (s:List Int),
 LkAt W0 w lb mb B v1 v2 v3 v4 v5 vs sl f.code.length f.result n vc vw st dn m l k→f.code[q]? =some i→st q=some s→
 Calls Tryz.prog 50 #[.pointer (some ⟨lb,0,none⟩),.int .i64 (q:Int)] w (LookR W0 lb mb B v1 v2 v3 v4 v5 vs sl f.code.length f.result n vc dn (stepQ u f q i s st))
def ThruR(W0:World)(n:Nat)(o:Option Nat)(x:Ending)(w':World):Prop:=Below W0.heap.size W0 w'∧match o with
 | some t=>x=.panicked (thr3 10 n t)
 | none=>x=.returned (.tuple #[])
theorem undone_none:∀n,undone n (fun _=>false)=n
 | 0=>rfl
 | n+1=>by rw [undone,undone_none n];simp
theorem LkAt.popped{W0 w w':World}{lb mb B:Nat}{v1 v2 v3 v4 v5 vs:Value}{sl:List Int}{N:Nat}{res:Int}{n:Nat}{vc vw vw':Value}{st:Nat→Option (List Int)}{dn:Nat→Bool}{m:Nat→Option Value}{l l':List Int}{k nn q:Nat}(h:LkAt W0 w lb mb B v1 v2 v3 v4 v5 vs sl N res n vc vw st dn m l k)(hl:l.length=nn+1)(hq:fnL l 0=(q:Int))(hwt:WtAt w' lb 11 B vw' l')(hl':l'.length=nn)(hp:Hp (fnL l') nn)(hs:Same (swp (fnL l) 0 nn) (fnL l') nn)(hf:WtFr w w' lb 11 vw vw'):
 LkAt W0 w' lb mb B v1 v2 v3 v4 v5 vs sl N res n vc vw' st (fun j=>decide (j=q) || dn j) m l' k:=by
 have hlb:=h.lbB;have hbs:=h.bs;have hmb:=h.mbB;have hvw:∀b,vw.ownBlock=some b→B≤b∧b < w.heap.size:=fun b hb=>World.ownsRow.lt h.row b hb
 have hwait:=h.wait;rw [hl] at hwait;refine ⟨?_,hwt.row,hlb,hwt.bs,h.mp.kept (hf.rest mb h.mp.lt h.mbl (fun e=>by have:=(hvw mb e).1;omega)),hmb,h.mbl,fun j s hj=>?_,h.len,h.non,?_,h.bound,h.small,by have:=h.wl;omega,h.slt.mono fun b hb hl=>⟨hf.rest b hl hb.1 (fun e=>by have:=(hvw b e).1;have:=hb.2.2;omega),hb⟩,?_,h.w0l,h.w0m⟩
 · rw [hf.box,heap_setCell_same w lb 11 _ _ vw' h.box];rfl
 · obtain ⟨v,e1,e2⟩:=h.sts j s hj;exact ⟨v,e1,e2.mono fun b hb hlt=>⟨hf.rest b hlt (by have:=hb.1;omega) hb.2,hb.of hlt hf.lies⟩⟩
 · rw [hl'];exact hwait.pop hq hp hs
 · refine ⟨hf.os.trans h.low.os,hf.tape.trans h.low.tape,hf.output.trans h.low.output,by have:=h.low.size;have:=hf.size;omega,fun b hb=>?_⟩;have:=h.w0l
   exact (hf.rest b (by have:=h.low.size;omega) (by omega) (fun e=>by have:=(hvw b e).1;omega)).trans (h.low.block b hb)
theorem through_of(W0 w:World)(lb mb B:Nat)(v1 v2 v3 v4 v5 vs:Value)(sl:List Int)(u:PUnit)(f:PFunc)(n:Nat)(vc:Value)(HL:LookC W0 lb mb B v1 v2 v3 v4 v5 vs sl u f n vc)(hu:unitOk u=true)(hf:f∈u.funcs)(hN:0 < f.code.length)
 (h:LkAt W0 w lb mb B v1 v2 v3 v4 v5 vs sl f.code.length f.result n vc (.slice none 0 0) (fun _=>none) (fun _=>false) (fun _=>none) [] 0):
 Calls Tryz.prog 27 #[.pointer (some ⟨lb,0,none⟩)] w (ThruR W0 n (wrongP u f)):=by
 have HH:=hide h;have HLC:=hide HL;have HCM:=hide (come_any W0 w lb mb B v1 v2 v3 v4 v5 vs sl f.code.length f.result n vc (.slice none 0 0) (fun _=>none) (fun _=>false) (fun _=>none) [] 0 0 [] (.slice none 0 0) h hN (rintsq_nil _ _) (by simp));have HW:Hid (wrongP u f=lookP u f (undone f.code.length (fun _=>false)+1) (fun j=>if j=0 then some [] else none) (fun _=>false)):=hide (by rw [undone_none];rfl);clear h HL;go_enter Tryz.func27,Tryz.ntmps27
 go_wp2_with fail
 refine HCM.out.mono ?_;rintro x w1 (⟨s0,e1,_⟩|⟨rfl,vw1,m1,l1,k1,hl1,_⟩)
 · cases e1
 have HL1:=hide hl1;clear hl1 HCM;go_wp2_with fail
 go_loopg [4] (f.code.length+1) (fun gk _ wr=>∃(vw:Value) (st:Nat→Option (List Int)) (dn:Nat→Bool) (m:Nat→Option Value) (l:List Int) (k:Nat),gk=undone f.code.length dn+1∧LkAt W0 wr lb mb B v1 v2 v3 v4 v5 vs sl f.code.length f.result n vc vw st dn m l k∧wrongP u f=lookP u f (undone f.code.length dn+1) st dn)
 case atStart=>exact ⟨vw1,_,_,m1,l1,k1,by rw [undone_none],HL1.out,HW.out⟩
 case round=>
  obtain ⟨vw,st,dn,m,l,k,rfl,hl,hw⟩:=hrel;have HL2:=hide hl;have HW2:=hide hw;have hN2:=hl.small;obtain ⟨⟨ao,cap,rfl⟩,_⟩:=hl.row.form;have hc:=hl.wt.cell;clear hl hw HL1 HW;have has:=fun (v:Value) (w:World)=>asInt v w
  by_cases hl0:l.length=0
  · have hnil:l= []:=List.length_eq_zero_iff.1 hl0;have HNo:Hid (wrongP u f=none):=hide (by
     have hwt:=HL2.out.wait;rw [hl0] at hwt;rw [HW2.out,lookP_none hwt.nothing])
    rw [hl0] at hc;have HLo:=hide HL2.out.low;clear hnil hl0 HL2 HW2;go_wp2_with (go_at_call 49;refine (islen_any _ _ _ _).mono ?_;rintro e w' ⟨rfl,hw'⟩;obtain rfl:=hw'.symm)
    go_end0
    exact ⟨HLo.out,by rw [HNo.out]⟩
  · obtain ⟨nn,hnn⟩:∃nn,l.length=nn+1:=⟨l.length - 1,by omega⟩;have HWait:=hide HL2.out.wait;obtain ⟨q,hq0,hqN,hsq,hdq,hle⟩:=HWait.out.top (by omega);obtain ⟨s,hsq⟩:=Option.isSome_iff_exists.1 hsq;obtain ⟨i,hiq⟩:=getElem?_lt hqN;have HPop:=hide (hpop_any lb 11 B _ l nn wr HL2.out.wt hnn (by have:=HWait.out.hp;rw [hnn] at this;exact this));have HQ:=hide hq0;have HNN:=hide hnn;have HST:=hide hsq;have HI:=hide hiq;have HU:=hide (undone_less f.code.length q dn hqN hdq);have HSP:Hid (wrongP u f=match stepP u f q i s st with| .inl t=>some t| .inr st'=>lookP u f (undone f.code.length dn) st' (fun j=>decide (j=q) || dn j)):=hide (by rw [HW2.out,lookP_step hle hiq hsq];cases stepP u f q i s st<;>rfl)
    have hpos:(0:Int) < (l.length:Int):=by omega
    clear hl0 hnn hsq hiq hle hdq HW2;go_wp2_with (go_at_call 49;refine (islen_any _ _ _ _).mono ?_;rintro e w' ⟨rfl,hw'⟩;obtain rfl:=hw'.symm)
    refine HPop.out.mono ?_;rintro x w2 ⟨vw2,l2,rfl,ht2,hl2,hp2,hs2,hf2⟩;rw [HQ.out];have HL3:=hide (HL2.out.popped HNN.out HQ.out ht2 hl2 hp2 hs2 hf2);clear ht2 hl2 hp2 hs2 hf2 HPop hc hq0;go_wp2_with fail
    refine (HLC.out w2 vw2 st _ m l2 k q i s HL3.out HI.out HST.out).mono ?_;intro x w3 h3;unfold LookR at h3;rw [stepQ_eq hu hf] at h3;generalize hsp:stepP u f q i s st=SP at h3 HSP;clear hsp;cases SP with
    | inl t=>
     obtain ⟨rfl,hb⟩:=h3;exact ⟨rfl,hb,by rw [HSP.out]⟩
    | inr st'=>
     obtain ⟨rfl,vw4,m4,l4,k4,hl4⟩:=h3;have HL4:=hide hl4;clear hl4;go_wp2_with fail
     go_roundg (undone f.code.length (fun j=>decide (j=q) || dn j)+1)
     case measure=>have:=HU.out;omega
     case rel=>exact ⟨vw4,st',_,m4,l4,k4,rfl,HL4.out,by rw [HSP.out,HU.out]⟩
open Go.RowKit
attribute [local go_sem ↓] Go.wp_at_zero Go.wp_at_succ
theorem kinds_same(v:Value)(w:World):Calls Tryz.prog 116 #[v] w fun x w'=>x=.returned v∧w'=w:=by
 go_enter Tryz.func116,Tryz.ntmps116
 go_wp2
 go_ret
 exact ⟨rfl,rfl⟩
def scW(w:World)(x0 x1 x2 x3 x4 x5 x6 x7:Value)(n a:Int):World:=(w.alloc (.cells #[x0,x1,x2,x3,x4,x5,x6,x7] 69)).alloc (.cells #[.int .i64 10,.int .i64 n,.int .i64 a] 58)
theorem scW_gr(w:World)(x0 x1 x2 x3 x4 x5 x6 x7:Value)(n a:Int):Gr w (scW w x0 x1 x2 x3 x4 x5 x6 x7 n a):=((Gr.refl w).alloc _).alloc _
theorem slot_any(sl:List Int)(k:Nat)(x0 x1 x2 x3 x4 vs x6 x7:Value)(n a:Int)(w:World)(hR:RInts w vs sl):
 Calls Tryz.prog 117 #[.agg #[x0,x1,x2,x3,x4,vs,x6,x7],.int .i64 (k:Int),.agg #[.int .i64 10,.int .i64 n,.int .i64 a]] w fun x w'=>x=endsO sl[k]? n a∧Gr w w':=by
 obtain ⟨ao,cap,rfl,hm,hc⟩:=hR;unfold maxLen at hm;have HC:=hide hc;clear hc;by_cases hl:k < sl.length
 · obtain ⟨b,off,rfl,hcell⟩:=HC.out k hl;have HS:Hid (sl[k]? =some (sl.getD k 0)):=hide (by rw [List.getD_eq_getElem?_getD,List.getElem?_eq_getElem hl];rfl);generalize sl.getD k 0=y at hcell HS;have hd:(k:Int) < (sl.length:Int):=by omega
   have hk:∀w',Gr (scW w x0 x1 x2 x3 x4 (.slice (some ⟨b,off,none⟩) sl.length cap) x6 x7 n a) w'→w'.cell? ⟨b,off+k,none⟩=some (.int .i64 y)∧w'.cell? ⟨w.heap.size,5,none⟩=some (.slice (some ⟨b,off,none⟩) sl.length cap):=fun w' h=>⟨h.cell ((scW_gr w x0 x1 x2 x3 x4 (.slice (some ⟨b,off,none⟩) sl.length cap) x6 x7 n a).cell hcell (by simp)) (by simp),h.cell (by simp [scW,go_sem]) (by simp)⟩
   unfold scW at hk;clear HC hcell;go_enter Tryz.func117,Tryz.ntmps117
   go_wp2_with ((go_at_call 32;refine (unless3_yes _ _ _ _).mono ?_;rintro e w' ⟨rfl,hg'⟩);obtain ⟨hc1,hc2⟩:=hk w' hg')
   go_ret
   exact ⟨by rw [HS.out];rfl,(by repeat (first|exact Gr.refl _|assumption|refine Gr.drew ?_|refine Gr.alloc ?_ _|refine Gr.trans ?_ (by assumption)))⟩
 · have HS:Hid (sl[k]? =none):=hide (List.getElem?_eq_none (by omega));have hd:¬(k:Int) < (sl.length:Int):=by omega
   clear HC;go_enter Tryz.func117,Tryz.ntmps117
   go_wp2_with ((go_at_call 32;refine (unless3_no _ _ _ _).mono ?_;rintro e w' ⟨rfl,hg'⟩))
   exact ⟨rfl,by rw [HS.out];rfl,(by repeat (first|exact Gr.refl _|assumption|refine Gr.drew ?_|refine Gr.alloc ?_ _|refine Gr.trans ?_ (by assumption)))⟩
def EndsL(o:Option (List Int))(n a:Int)(W w:World)(x:Ending)(w':World):Prop:=Gr w w'∧match o with
 | none=>x=.panicked (thr3 10 n a)
 | some l=>∃v,x=.returned v∧RInts W v l
def shapeP(u:PUnit)(k:Int):Option (List Int):=if 1≤k then u.shapes[(k - 1).toNat]? else none
theorem fields_any(u:PUnit)(k:Int)(hk0:0≤k)(hk1:k≤65535)(v1 x1 x2 x3 x4 x5 x6 x7:Value)(n a:Int)(W w:World)(hR:RShapes W v1 u.shapes)(hW:Gr W w):
 Calls Tryz.prog 120 #[.agg #[v1,x1,x2,x3,x4,x5,x6,x7],.int .i64 k,.agg #[.int .i64 10,.int .i64 n,.int .i64 a]] w (EndsL (shapeP u k) n a W w):=by
 obtain ⟨ao,cap,rfl,hm,hc⟩:=hR;unfold maxLen at hm;have HC:=hide hc;clear hc;by_cases h1:1≤k
 · obtain ⟨j,rfl⟩:∃j:Nat,k=(j:Int)+1:=⟨(k - 1).toNat,by omega⟩;have hd1:decide ((1:Int)≤(j:Int)+1)=true:=by simp;omega
   by_cases hl:j < u.shapes.length
   · obtain ⟨s,hs⟩:=getElem?_lt hl;have HS:Hid (shapeP u ((j:Int)+1)=some s):=hide (by unfold shapeP;rw [if_pos h1,←hs];congr 1;omega);obtain ⟨b,off,vx,rfl,hcell,hRx⟩:=HC.out j s hs;obtain ⟨ax,cx,rfl⟩:=hRx.shape;have HRx:=hide hRx;have hd2:decide ((j:Int)+1≤(u.shapes.length:Int))=true:=by simp;omega
     have hd3:(j:Int) < (u.shapes.length:Int):=by omega
     have hw:IntKind.i64.wrap ((j:Int)+1 - 1)=(j:Int):=by rw [Go.IntWalk.i64_in _ (by omega)];omega
     have hk:∀w',Gr (scW w (.slice (some ⟨b,off,none⟩) u.shapes.length cap) x1 x2 x3 x4 x5 x6 x7 n a) w'→w'.cell? ⟨b,off+j,none⟩=some (.slice ax s.length cx)∧w'.cell? ⟨w.heap.size,0,none⟩=some (.slice (some ⟨b,off,none⟩) u.shapes.length cap):=fun w' h=>⟨h.cell ((scW_gr w (.slice (some ⟨b,off,none⟩) u.shapes.length cap) x1 x2 x3 x4 x5 x6 x7 n a).cell (hW.cell hcell (by simp)) (by simp)) (by simp),h.cell (by simp [scW,go_sem]) (by simp)⟩
     unfold scW at hk;clear HC hcell hs hRx;go_enter Tryz.func120,Tryz.ntmps120
     go_wp2_with ((go_at_call 32;refine (unless3_yes _ _ _ _).mono ?_;rintro e w' ⟨rfl,hg'⟩);obtain ⟨hc1,hc2⟩:=hk w' hg')
     go_ret
     have HW:=hide hW;clear hW;have hG:Gr w w':=(by repeat (first|exact Gr.refl _|assumption|refine Gr.drew ?_|refine Gr.alloc ?_ _|refine Gr.trans ?_ (by assumption)));exact ⟨hG,by rw [HS.out];exact ⟨_,rfl,HRx.out⟩⟩
   · have HS:Hid (shapeP u ((j:Int)+1)=none):=hide (by unfold shapeP;rw [if_pos h1,List.getElem?_eq_none (by omega)]);have hd2:decide ((j:Int)+1≤(u.shapes.length:Int))=false:=by simp;omega
     clear HC;go_enter Tryz.func120,Tryz.ntmps120
     go_wp2_with ((go_at_call 32;refine (unless3_no _ _ _ _).mono ?_;rintro e w' ⟨rfl,hg'⟩))
     clear hW;exact ⟨rfl,(by repeat (first|exact Gr.refl _|assumption|refine Gr.drew ?_|refine Gr.alloc ?_ _|refine Gr.trans ?_ (by assumption))),by rw [HS.out]⟩
 · have HS:Hid (shapeP u k=none):=hide (by unfold shapeP;rw [if_neg h1]);have hd1:decide ((1:Int)≤k)=false:=by simp;omega
   clear HC;go_enter Tryz.func120,Tryz.ntmps120
   go_wp2_with ((go_at_call 32;refine (unless3_no _ _ _ _).mono ?_;rintro e w' ⟨rfl,hg'⟩))
   clear hW;exact ⟨rfl,(by repeat (first|exact Gr.refl _|assumption|refine Gr.drew ?_|refine Gr.alloc ?_ _|refine Gr.trans ?_ (by assumption))),by rw [HS.out]⟩
open Go.RowKit
attribute [local go_sem ↓] Go.wp_at_zero Go.wp_at_succ
def fiW(w:World)(x0 x1 x2 x3 x4 x5 x6 x7:Value)(i:PIns)(n a:Int):World:=((w.alloc (.cells #[x0,x1,x2,x3,x4,x5,x6,x7] 69)).alloc (.cells #[.int .i64 i.op,.int .i64 i.a,.int .i64 i.b] 26)).alloc (.cells #[.int .i64 10,.int .i64 n,.int .i64 a] 58)
theorem fiW_gr(w:World)(x0 x1 x2 x3 x4 x5 x6 x7:Value)(i:PIns)(n a:Int):Gr w (fiW w x0 x1 x2 x3 x4 x5 x6 x7 i n a):=(((Gr.refl w).alloc _).alloc _).alloc _
def fieldP(u:PUnit)(i:PIns):Option Int:=(shapeP u i.a).bind fun s=>s[i.b.toNat]?
theorem field_any(u:PUnit)(i:PIns)(ha0:0≤i.a)(ha1:i.a≤65535)(hb0:0≤i.b)(hb1:i.b≤65535)(v1 x1 x2 x3 x4 x5 x6 x7:Value)(n a:Int)(W w:World)(hR:RShapes W v1 u.shapes)(hW:Gr W w):
 Calls Tryz.prog 121 #[.agg #[v1,x1,x2,x3,x4,x5,x6,x7],.agg #[.int .i64 i.op,.int .i64 i.a,.int .i64 i.b],.agg #[.int .i64 10,.int .i64 n,.int .i64 a]] w fun x w'=>x=endsO (fieldP u i) n a∧Gr w w':=by
 have HR:=hide hR;obtain ⟨ao,cap,rfl⟩:=hR.shape;have HF:=hide (fields_any u i.a ha0 ha1 (.slice ao u.shapes.length cap) x1 x2 x3 x4 x5 x6 x7 n a W _ HR.out (hW.trans (fiW_gr w (.slice ao u.shapes.length cap) x1 x2 x3 x4 x5 x6 x7 i n a)));have hk:∀w',Gr (fiW w (.slice ao u.shapes.length cap) x1 x2 x3 x4 x5 x6 x7 i n a) w'→w'.cell? ⟨w.heap.size+1,2,none⟩=some (.int .i64 i.b)∧w'.cell? ⟨w.heap.size+2,0,none⟩=some (.int .i64 10)∧w'.cell? ⟨w.heap.size+2,1,none⟩=some (.int .i64 n)∧w'.cell? ⟨w.heap.size+2,2,none⟩=some (.int .i64 a):=fun w' h=>⟨h.cell (by simp [fiW,go_sem]) (by simp),h.cell (by simp [fiW,go_sem]) (by simp),h.cell (by simp [fiW,go_sem]) (by simp),h.cell (by simp [fiW,go_sem]) (by simp)⟩
 have HG0:=hide (fiW_gr w (.slice ao u.shapes.length cap) x1 x2 x3 x4 x5 x6 x7 i n a);have HQ:Hid (fieldP u i=(shapeP u i.a).bind fun s=>s[i.b.toNat]?):=hide rfl;generalize hsp:shapeP u i.a=S at HF HQ;clear hsp hR;unfold fiW at HF hk HG0;obtain ⟨j,hj⟩:∃j:Nat,i.b=(j:Int):=⟨i.b.toNat,by omega⟩;rw [hj] at HQ HF hk HG0 ⊢;simp only [Int.toNat_natCast] at HQ;generalize fieldP u i=R at HQ ⊢;have hjb:(j:Int)≤65535:=by omega
 clear hj hb0 hb1;cases S with
 | none=>
  go_enter Tryz.func121,Tryz.ntmps121
  go_wp2_with fail
  refine HF.out.mono ?_;rintro x w1 ⟨hg,rfl⟩;exact ⟨rfl,by rw [HQ.out];rfl,HG0.out.trans hg⟩
 | some s=>
  go_enter Tryz.func121,Tryz.ntmps121
  go_wp2_with fail
  refine HF.out.mono ?_;rintro x w1 ⟨hg,v,rfl,hrv⟩;obtain ⟨c2,e0,e1,e2⟩:=hk w1 hg;have hGw:=HG0.out.trans hg;clear HF HG0 hk hg;obtain ⟨ax,cx,rfl,hm,hc⟩:=hrv.gr (hW.trans hGw);clear hrv;unfold maxLen at hm;have HC:=hide hc;clear hc;by_cases hl:j < s.length
  · obtain ⟨b,off,rfl,hcell⟩:=HC.out j hl;have HS:Hid (R=some (s.getD j 0)):=hide (by rw [HQ.out,List.getD_eq_getElem?_getD];simp [List.getElem?_eq_getElem hl]);generalize s.getD j 0=y at hcell HS;have hd:(j:Int) < (s.length:Int):=by omega
    have hk1:∀w',Gr w1 w'→w'.cell? ⟨b,off+j,none⟩=some (.int .i64 y)∧w'.cell? ⟨w.heap.size+1,2,none⟩=some (.int .i64 (j:Int)):=fun w' h=>⟨h.cell hcell (by simp),h.cell c2 (by simp)⟩
    have HGw:=hide hGw;clear HC hcell hGw;go_wp2_with ((go_at_call 32;refine (unless3_yes _ _ _ _).mono ?_;rintro e w' ⟨rfl,hg'⟩);obtain ⟨hc1,hc2⟩:=hk1 w' hg')
    go_ret
    exact ⟨by rw [HS.out];rfl,HGw.out.trans hg'⟩
  · have HS:Hid (R=none):=hide (by rw [HQ.out];simp [List.getElem?_eq_none (show s.length≤j by omega)]);have hd:¬(j:Int) < (s.length:Int):=by omega
    have HGw:=hide hGw;clear HC hGw;go_wp2_with ((go_at_call 32;refine (unless3_no _ _ _ _).mono ?_;rintro e w' ⟨rfl,hg'⟩))
    exact ⟨rfl,by rw [HS.out];rfl,HGw.out.trans hg'⟩
theorem gr_drewN_{w w':World}(h:Gr w w')(n:Nat):Gr w (w'.drewN n):=⟨h.os,h.tape,h.output,h.size,h.block⟩
def sigP(u:PUnit)(k:Nat):Option (List Int×Int):=match u.funcs[k]? with
 | some g=>some (g.params,g.result)
 | none=>u.imports[k - u.funcs.length]?.map fun g=>(g.params,g.result)
def EndsS(o:Option (List Int×Int))(n a:Int)(W w:World)(x:Ending)(w':World):Prop:=Gr w w'∧match o with
 | none=>x=.panicked (thr3 10 n a)
 | some (l,r)=>∃v,x=.returned (.tuple #[v,.int .i64 r])∧RInts W v l
theorem function_any(u:PUnit)(k:Nat)(hk1:k≤65535)(x0 x1 v3 v4 x4 x5 x6 x7:Value)(n a:Int)(W w:World)(hF:RFuncs W v3 u.funcs)(hI:RImports W v4 u.imports)(hW:Gr W w)(hfl:u.funcs.length≤1000000)(hil:u.imports.length≤1000000):
 Calls Tryz.prog 119 #[.agg #[x0,x1,v3,v4,x4,x5,x6,x7],.int .i64 (k:Int),.agg #[.int .i64 10,.int .i64 n,.int .i64 a]] w (EndsS (sigP u k) n a W w):=by
 obtain ⟨a3,c3,rfl,hm3,hc3⟩:=hF;obtain ⟨a4,c4,rfl,hm4,hc4⟩:=hI;have HC3:=hide hc3;have HC4:=hide hc4;have HG0:=hide (scW_gr w x0 x1 (.slice a3 u.funcs.length c3) (.slice a4 u.imports.length c4) x4 x5 x6 x7 n a);have hk:∀w',Gr (scW w x0 x1 (.slice a3 u.funcs.length c3) (.slice a4 u.imports.length c4) x4 x5 x6 x7 n a) w'→w'.cell? ⟨w.heap.size,2,none⟩=some (.slice a3 u.funcs.length c3)∧w'.cell? ⟨w.heap.size,3,none⟩=some (.slice a4 u.imports.length c4):=fun w' h=>⟨h.cell (by simp [scW,go_sem]) (by simp),h.cell (by simp [scW,go_sem]) (by simp)⟩
 have hw:IntKind.i64.wrap ((u.funcs.length:Int)+(u.imports.length:Int))=(u.funcs.length:Int)+(u.imports.length:Int):=Go.IntWalk.i64_in _ (by omega);clear hc3 hc4 hm3 hm4;by_cases h1:k < u.funcs.length
 · obtain ⟨f,hf⟩:=getElem?_lt h1;have HS:Hid (sigP u k=some (f.params,f.result)):=hide (by unfold sigP;rw [hf]);obtain ⟨b,off,vp,vl,vc,rfl,f0,f1,_,_,hRp,_,_⟩:=HC3.out k f hf;have HRp:=hide hRp;obtain ⟨ap,cp,rfl⟩:=hRp.shape;have hd:decide ((k:Int) < (u.funcs.length:Int)+(u.imports.length:Int))=true:=by simp;omega
   have hd2:decide ((k:Int) < (u.funcs.length:Int))=true:=by simp;omega
   have hd3:(k:Int) < (u.funcs.length:Int):=by omega
   have hk2:∀w',Gr (scW w x0 x1 (.slice (some ⟨b,off,none⟩) u.funcs.length c3) (.slice a4 u.imports.length c4) x4 x5 x6 x7 n a) w'→w'.cell? ⟨b,off+k * 4,none⟩=some (.slice ap f.params.length cp)∧w'.cell? ⟨b,off+k * 4+1,none⟩=some (.int .i64 f.result):=fun w' h=>⟨h.cell (HG0.out.cell (hW.cell f0 (by simp)) (by simp)) (by simp),h.cell (HG0.out.cell (hW.cell f1 (by simp)) (by simp)) (by simp)⟩
   unfold scW at hk hk2 HG0;clear HC3 HC4 f0 f1 hf hRp;go_enter Tryz.func119,Tryz.ntmps119
   go_wp2_with ((go_at_call 32;refine (unless3_yes _ _ _ _).mono ?_;rintro e w' ⟨rfl,hg'⟩);obtain ⟨hc1,hc2⟩:=hk w' hg';obtain ⟨hc3,hc4⟩:=hk2 w' hg')
   go_quiet (fail)
   go_wp2_with fail
   go_ret2
   exact ⟨by first|exact HG0.out.trans hg'|exact gr_drewN_ (HG0.out.trans hg') _,by rw [HS.out];exact ⟨_,rfl,HRp.out⟩⟩
 · have hd2:decide ((k:Int) < (u.funcs.length:Int))=false:=by simp;omega
   have hfn:u.funcs[k]? =none:=List.getElem?_eq_none (by omega);by_cases h2:k - u.funcs.length < u.imports.length
   · obtain ⟨j,rfl⟩:∃j,k=u.funcs.length+j:=⟨k - u.funcs.length,by omega⟩;have h3:j < u.imports.length:=by omega
     obtain ⟨f,hf⟩:=getElem?_lt h3;have HS:Hid (sigP u (u.funcs.length+j)=some (f.params,f.result)):=hide (by unfold sigP;rw [hfn];simp only;rw [show u.funcs.length+j - u.funcs.length=j by omega,hf];rfl);obtain ⟨b,off,vs,vp,rfl,f0,f1,f2,hRs,hRp⟩:=HC4.out j f hf;have HRp:=hide hRp;obtain ⟨ap,cp,rfl⟩:=hRp.shape;obtain ⟨ns,rfl,_,_⟩:=hRs;have hcast:((u.funcs.length+j:Nat):Int)=(u.funcs.length:Int)+(j:Int):=by omega
     have hd:decide ((u.funcs.length:Int)+(j:Int) < (u.funcs.length:Int)+(u.imports.length:Int))=true:=by simp;omega
     rw [hcast] at hd2 ⊢;have hw2:IntKind.i64.wrap ((u.funcs.length:Int)+(j:Int) - (u.funcs.length:Int))=(j:Int):=by rw [Go.IntWalk.i64_in _ (by omega)];omega
     have hd3:(j:Int) < (u.imports.length:Int):=by omega
     have hk2:∀w',Gr (scW w x0 x1 (.slice a3 u.funcs.length c3) (.slice (some ⟨b,off,none⟩) u.imports.length c4) x4 x5 x6 x7 n a) w'→w'.cell? ⟨b,off+j * 3,none⟩=some (.string ns)∧w'.cell? ⟨b,off+j * 3+1,none⟩=some (.slice ap f.params.length cp)∧w'.cell? ⟨b,off+j * 3+2,none⟩=some (.int .i64 f.result):=fun w' h=>⟨h.cell (HG0.out.cell (hW.cell f0 (by simp)) (by simp)) (by simp),h.cell (HG0.out.cell (hW.cell f1 (by simp)) (by simp)) (by simp),h.cell (HG0.out.cell (hW.cell f2 (by simp)) (by simp)) (by simp)⟩
     unfold scW at hk hk2 HG0;clear HC3 HC4 f0 f1 f2 hf hRp hcast hfn h1 h2 h3 hk1;go_enter Tryz.func119,Tryz.ntmps119
     go_wp2_with ((go_at_call 32;refine (unless3_yes _ _ _ _).mono ?_;rintro e w' ⟨rfl,hg'⟩);obtain ⟨hc1,hc2⟩:=hk w' hg';obtain ⟨hc3,hc4,hc5⟩:=hk2 w' hg')
     go_quiet (fail)
     go_wp2_with fail
     go_ret2
     have hG1:=Gr.alloc (HG0.out.trans hg') (.cells #[.string ns,.slice ap f.params.length cp,.int .i64 f.result] 53);exact ⟨by first|exact hG1|exact gr_drewN_ hG1 _,by rw [HS.out];exact ⟨_,rfl,HRp.out⟩⟩
   · have HS:Hid (sigP u k=none):=hide (by unfold sigP;rw [hfn];simp only;rw [List.getElem?_eq_none (by omega)];rfl);have hd:decide ((k:Int) < (u.funcs.length:Int)+(u.imports.length:Int))=false:=by simp;omega
     unfold scW at HG0;clear HC3 HC4 hk hfn;go_enter Tryz.func119,Tryz.ntmps119
     go_wp2_with ((go_at_call 32;refine (unless3_no _ _ _ _).mono ?_;rintro e w' ⟨rfl,hg'⟩))
     exact ⟨rfl,HG0.out.trans hg',by rw [HS.out]⟩
end Go.Proofs.YtkgncijcnlfhiaaGreat
