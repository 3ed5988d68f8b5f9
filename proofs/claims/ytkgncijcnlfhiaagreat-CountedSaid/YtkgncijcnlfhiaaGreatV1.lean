import Derived.Test.YtkgncijcnlfhiaaGreatNm
import Derived.Test.YtkgncijcnlfhiaaGreatNj
import Derived.Test.YtkgncijcnlfhiaaGreatW4c
namespace Go.Proofs.YtkgncijcnlfhiaaGreat
set_option maxRecDepth 100000
set_option maxHeartbeats 4000000
set_option linter.unusedVariables false
set_option linter.unusedSimpArgs false
open Go.RowKit
attribute [local go_sem ↓] Go.wp_at_zero Go.wp_at_succ
structure OU(B:Nat)(w:World)(v1 v2 v3 v5:Value)(es1:List (Value×List Int))(cs:List Int)(es3:List LF)(es5:List LX)(ρ:Nat→Rl):Prop where
 bs:B≤w.heap.size
 o1:Ow ρ .sh w B 22 1 v1 es1.length (es1.map (·.1))
 o1i:∀i e,es1[i]? =some e→Ow ρ (.sI i) w B 3 1 e.1 e.2.length (eh e.2)
 o2:Ow ρ .co w B 3 1 v2 cs.length (eh cs)
 o3:Ow ρ .fu w B 48 4 v3 es3.length (es3.flatMap cF)
 o3i:∀i e,es3[i]? =some e→Ow ρ (.fp i) w B 3 1 e.vp e.f.aF.length (eh e.f.aF)∧Ow ρ (.fl i) w B 3 1 e.vl e.f.aG.length (eh e.f.aG)∧Ow ρ (.fc i) w B 26 3 e.vc e.f.code.length (e.f.code.flatMap cC)
 o5:Ow ρ .ex w B 50 2 v5 es5.length (es5.flatMap cX)
theorem JA.ou{B ab:Nat}{w:World}{v1 v2 v3 v5:Value}{es1:List (Value×List Int)}{cs:List Int}{es3:List LF}{es5:List LX}{ρ:Nat→Rl}(h:JA B ab w v1 v2 v3 v5 es1 cs es3 es5 ρ):OU B w v1 v2 v3 v5 es1 cs es3 es5 ρ:=⟨h.bs,h.o1,h.o1i,h.o2,h.o3,h.o3i,h.o5⟩
theorem OU.mv{B:Nat}{w w':World}{v1 v2 v3 v5:Value}{es1:List (Value×List Int)}{cs:List Int}{es3:List LF}{es5:List LX}{ρ:Nat→Rl}(h:OU B w v1 v2 v3 v5 es1 cs es3 es5 ρ)(hs:w.heap.size≤w'.heap.size)(g:∀k,B≤k→k < w.heap.size→w'.heap[k]? =w.heap[k]?):OU B w' v1 v2 v3 v5 es1 cs es3 es5 ρ:=by
 have m:Mv B .bx w w' ρ ρ:=⟨hs,fun k hk hB=>⟨rfl,fun _=>g k hB hk⟩⟩;exact ⟨Nat.le_trans h.bs hs,h.o1.mv m nofun,fun i e he=>(h.o1i i e he).mv m nofun,h.o2.mv m nofun,h.o3.mv m nofun,fun i e he=>⟨(h.o3i i e he).1.mv m nofun,(h.o3i i e he).2.1.mv m nofun,(h.o3i i e he).2.2.mv m nofun⟩,h.o5.mv m nofun⟩
theorem gd{w:World}{B:Nat}{e:TypeId}{n len:Nat}{v:Value}{xs:List Value}(h:w.ownsRow B e n v len xs):len≤maxLen:=by
 rcases h.2 with ⟨_,rfl⟩|⟨g,cap,cur,_,_,_,h1,h2,_⟩
 · exact Nat.zero_le _
 · exact Nat.le_trans h1 h2
theorem dN{w:World}{B:Nat}{e:TypeId}{n len:Nat}{v:Value}{xs:List Value}(h:w.ownsRow B e n v len xs){j:Nat}(hj:j < len * n):∃b cap,v=.slice (some ⟨b,0,none⟩) len cap∧w.cell? ⟨b,j,none⟩=xs[j]? :=by
 rcases h.2 with ⟨_,h0⟩|⟨g,cap,cur,e1,e2,e3,e4,e5,e6,e7⟩
 · subst h0;omega
 · refine ⟨g,cap,e1,?_⟩;rw [aI e3,←e7,List.getElem?_take,if_pos hj,Array.getElem?_toList]
theorem j_{w:World}{B:Nat}{e:TypeId}{v:Value}{l:List Int}(h:w.ownsRow B e 1 v l.length (eh l)):aX w v l:=by
 obtain ⟨ao,cap,rfl⟩:=aL h;refine ⟨ao,cap,rfl,gd h,fun i hi=>?_⟩;obtain ⟨b,cp,e1,e2⟩:=dN h (j:=i) (by omega);simp only [Value.slice.injEq,true_and] at e1;exact ⟨b,0,e1.1,by rw [Nat.zero_add,e2];simp [eh,hi,List.getD_eq_getElem?_getD]⟩
theorem pJ{w:World}{B:Nat}{e:TypeId}{v:Value}{l:List aw}(h:w.ownsRow B e 3 v l.length (l.flatMap cC)):dM w v l:=by
 obtain ⟨ao,cap,rfl⟩:=aL h;refine ⟨ao,cap,rfl,gd h,fun i x hx=>?_⟩;have hi:i < l.length:=(List.getElem?_eq_some_iff.1 hx).1;obtain ⟨b,cp,e1,e2⟩:=dN h (j:=i * 3) (by omega);obtain ⟨b',cp',e1',e2'⟩:=dN h (j:=i * 3+1) (by omega);obtain ⟨b'',cp'',e1'',e2''⟩:=dN h (j:=i * 3+2) (by omega);simp only [Value.slice.injEq,true_and] at e1 e1' e1'';obtain ⟨rfl,rfl⟩:=e1;simp only [Option.some.injEq,Addr.mk.injEq,and_true] at e1' e1'';obtain ⟨rfl,-⟩:=e1';obtain ⟨rfl,-⟩:=e1'';refine ⟨b,0,rfl,?_,?_,?_⟩
 · rw [Nat.zero_add,e2];exact dL iG l i 0 x hx (by omega)
 · rw [Nat.zero_add,e2'];exact dL iG l i 1 x hx (by omega)
 · rw [Nat.zero_add,e2''];exact dL iG l i 2 x hx (by omega)
theorem OU.runit{B:Nat}{w:World}{v1 v2 v3 v5:Value}{es1:List (Value×List Int)}{cs:List Int}{es3:List LF}{es5:List LX}{ρ:Nat→Rl}(h:OU B w v1 v2 v3 v5 es1 cs es3 es5 ρ)(hx:∀e∈es5,e.s.size≤maxLen):cD w (.agg #[v1,v2,v3,.slice none 0 0,v5]) ⟨es1.map (·.2),cs,es3.map (·.f),[],es5.map (·.p)⟩:=by
 refine ⟨v1,v2,v3,.slice none 0 0,v5,rfl,?_,j_ h.o2.1,?_,⟨none,0,rfl,Nat.zero_le _,fun i x hi=>by simp at hi⟩,?_⟩
 · obtain ⟨ao,cap,rfl⟩:=aL h.o1.1;refine ⟨ao,cap,by simp,by simpa using gd h.o1.1,fun i x hi=>?_⟩;simp only [List.getElem?_map,Option.map_eq_some_iff] at hi;obtain ⟨e,he,rfl⟩:=hi;have hl:i < es1.length:=(List.getElem?_eq_some_iff.1 he).1;obtain ⟨b,cp,e1,e2⟩:=dN h.o1.1 (j:=i) (by omega);simp only [Value.slice.injEq,true_and] at e1;exact ⟨b,0,e.1,e1.1,by rw [Nat.zero_add,e2];simp [he],j_ (h.o1i i e he).1⟩
 · obtain ⟨ao,cap,rfl⟩:=aL h.o3.1;refine ⟨ao,cap,by simp,by simpa using gd h.o3.1,fun i x hi=>?_⟩;simp only [List.getElem?_map,Option.map_eq_some_iff] at hi;obtain ⟨e,he,rfl⟩:=hi;have hl:i < es3.length:=(List.getElem?_eq_some_iff.1 he).1;obtain ⟨b,cp,e1,e2⟩:=dN h.o3.1 (j:=i * 4) (by omega);simp only [Value.slice.injEq,true_and] at e1;obtain ⟨rfl,rfl⟩:=e1;have hc:∀r,r < 4→w.cell? ⟨b,0+i * 4+r,none⟩=(cF e)[r]? :=fun r hr=>by
    obtain ⟨b',cp',e1',e2'⟩:=dN h.o3.1 (j:=i * 4+r) (by omega);simp only [Value.slice.injEq,Option.some.injEq,Addr.mk.injEq,and_true,true_and] at e1';obtain ⟨rfl,-⟩:=e1';rw [Nat.zero_add,e2'];exact dL qd es3 i r e he hr
   obtain ⟨p1,p2,p3⟩:=h.o3i i e he;exact ⟨b,0,e.vp,e.vl,e.vc,rfl,hc 0 (by omega),hc 1 (by omega),hc 2 (by omega),hc 3 (by omega),j_ p1.1,j_ p2.1,pJ p3.1⟩
 · obtain ⟨ao,cap,rfl⟩:=aL h.o5.1;refine ⟨ao,cap,by simp,by simpa using gd h.o5.1,fun i x hi=>?_⟩;simp only [List.getElem?_map,Option.map_eq_some_iff] at hi;obtain ⟨e,he,rfl⟩:=hi;have hl:i < es5.length:=(List.getElem?_eq_some_iff.1 he).1;obtain ⟨b,cp,e1,e2⟩:=dN h.o5.1 (j:=i * 2) (by omega);simp only [Value.slice.injEq,true_and] at e1;obtain ⟨rfl,rfl⟩:=e1;have hc:∀r,r < 2→w.cell? ⟨b,0+i * 2+r,none⟩=(cX e)[r]? :=fun r hr=>by
    obtain ⟨b',cp',e1',e2'⟩:=dN h.o5.1 (j:=i * 2+r) (by omega);simp only [Value.slice.injEq,Option.some.injEq,Addr.mk.injEq,and_true,true_and] at e1';obtain ⟨rfl,-⟩:=e1';rw [Nat.zero_add,e2'];exact dL yX es5 i r e he hr
   exact ⟨b,0,.string e.s,rfl,hc 0 (by omega),hc 1 (by omega),e.s,rfl,rfl,hx e (List.mem_of_getElem? he)⟩
theorem nB(N:List UInt8→Int):∀(l:List aK) (c f:Nat),(A8 N c f l).1.length=(l.map fun u=>u.aD.length).sum∧(A8 N c f l).2.1.length=(l.map fun u=>u.aE.length).sum∧(A8 N c f l).2.2.length=(l.map fun u=>u.aC.length).sum
 | [],c,f=>⟨rfl,rfl,rfl⟩
 | u :: l,c,f=>by
  obtain ⟨h1,h2,h3⟩:=nB N l (c+u.aD.length) (f+u.aE.length);simp only [A8,List.length_append,List.length_map,List.map_cons,List.sum_cons,h1,h2,h3,and_self]
theorem pX(N:List UInt8→Int)(l:List aK):mV l=!decide (30 < (A8 N 0 0 l).2.1.length∨50 < (A8 N 0 0 l).1.length∨20 < (A8 N 0 0 l).2.2.length):=by
 obtain ⟨h1,h2,h3⟩:=nB N l 0 0;rw [h1,h2,h3];unfold mV dv jZ ju;rw [List.take_length];rw [Bool.eq_iff_iff];simp
theorem wF(l:List aK):jf (fw 0 l fun _=>none)=tgtN l:=by funext n;rfl
open Go.RowKit
attribute [local go_sem ↓] Go.wp_at_zero Go.wp_at_succ
theorem kw(N:List UInt8→Int):∀(l:List aK) (c f:Nat),∀e∈(A8 N c f l).2.2,∃u∈l,∃x∈u.aC,e.name=x.name
 | [],c,f,e,h=>by simp [A8] at h
 | u :: l,c,f,e,h=>by
  simp only [A8,List.mem_append,List.mem_map] at h;rcases h with ⟨x,hx,rfl⟩|h
  · exact ⟨u,List.mem_cons_self,x,hx,rfl⟩
  · obtain ⟨u',hu,x,hx,e1⟩:=kw N l _ _ e h;exact ⟨u',List.mem_cons_of_mem _ hu,x,hx,e1⟩
def jL(C:Nat)(w:World)(v:Value)(u:aK):Prop:=∃v1 v2 v3 v5 es1 cs es3 es5 ρ B,v=.agg #[v1,v2,v3,.slice none 0 0,v5]∧C≤B∧OU B w v1 v2 v3 v5 es1 cs es3 es5 ρ∧u=⟨es1.map (·.2),cs,es3.map (·.f),[],es5.map (·.p)⟩∧∀e∈es5,e.s.size≤maxLen
theorem jL.runit{C:Nat}{w:World}{v:Value}{u:aK}(h:jL C w v u):cD w v u:=by
 obtain ⟨v1,v2,v3,v5,es1,cs,es3,es5,ρ,B,rfl,_,ho,rfl,hx⟩:=h;exact ho.runit hx
theorem jL.mv{C:Nat}{w w':World}{v:Value}{u:aK}(h:jL C w v u)(hs:w.heap.size≤w'.heap.size)(g:∀k,C≤k→k < w.heap.size→w'.heap[k]? =w.heap[k]?):jL C w' v u:=by
 obtain ⟨v1,v2,v3,v5,es1,cs,es3,es5,ρ,B,e1,hb,ho,e2,hx⟩:=h;exact ⟨v1,v2,v3,v5,es1,cs,es3,es5,ρ,B,e1,hb,ho.mv hs (fun k hk hl=>g k (Nat.le_trans hb hk) hl),e2,hx⟩
theorem jL.slices{C:Nat}{w:World}{v:Value}{u:aK}(h:jL C w v u):∃a1 a2 a3 a5 n1 n2 n3 n5 c1 c2 c3 c5,v=.agg #[.slice a1 n1 c1,.slice a2 n2 c2,.slice a3 n3 c3,.slice none 0 0,.slice a5 n5 c5]:=by
 obtain ⟨v1,v2,v3,v5,es1,cs,es3,es5,ρ,B,rfl,_,ho,_⟩:=h;obtain ⟨a1,c1,rfl⟩:=aL ho.o1.1;obtain ⟨a2,c2,rfl⟩:=aL ho.o2.1;obtain ⟨a3,c3,rfl⟩:=aL ho.o3.1;obtain ⟨a5,c5,rfl⟩:=aL ho.o5.1;exact ⟨_,_,_,_,_,_,_,_,_,_,_,_,rfl⟩
def zB(W:World)(l:List aK)(x:Ending)(w':World):Prop:=Gr W w'∧((∃v u,bw l=.inl u∧x=.returned v∧jL W.heap.size w' v u)∨∃(e:Int) (k:Nat),bw l=.inr (e,k)∧x=.panicked (dF e (k:Int)))
theorem Tryz.callWf(vu vr:Value)(w:World):(callFunc 25 (#[]++(#[vu,vr]++#[]))).run Tryz.prog w=.ok (.enter 25 (#[]++(#[vu,vr]++#[]))) w:=by kernel_rfl
theorem Tryz.callU1(vu vr v1:Value)(w:World):(callFunc 34 (#[]++(#[vu,vr]++#[v1]))).run Tryz.prog w=.ok (.enter 34 (#[]++(#[vu,vr]++#[v1]))) w:=by kernel_rfl
theorem Tryz.callTh(v1 vu vr:Value)(w:World):(callFunc 38 (#[v1]++(#[vu,vr]++#[]))).run Tryz.prog w=.ok (.enter 38 (#[v1]++(#[vu,vr]++#[]))) w:=by kernel_rfl
theorem Tryz.callAl(v1 vu vr:Value)(w:World):(callFunc 39 (#[v1]++(#[vu,vr]++#[]))).run Tryz.prog w=.ok (.enter 39 (#[v1]++(#[vu,vr]++#[]))) w:=by kernel_rfl
theorem uE{α:Type}{p:α→Bool}{l:List α}(h:(l.any fun x=>!p x)=false):∀x∈l,p x=true:=by
 intro x hx;cases hp:p x with
 | true=>rfl
 | false=>
  have:(l.any fun x=>!p x)=true:=List.any_eq_true.2 ⟨x,hx,by simp [hp]⟩
  rw [h] at this;cases this
theorem tR(W:World)(l:List aK)(vl:Value)(hR:dh W vl l):Calls Tryz.prog 22 #[vl] W (zB W l):=by
 have hmf:∀(fn:Fn) (first cap:Array Value) (w:World),(Instr.makeFunc fn first cap).run Tryz.prog w=.ok (.func fn first cap) w:=fun _ _ _ _=>rfl
 obtain ⟨al,cl,rfl⟩:=hR.shape;have hm:l.length≤maxLen:=by obtain ⟨_,_,_,hm,_⟩:=hR;exact hm
 unfold maxLen at hm;have g1:Gr W ((W.alloc (.cells #[.slice al l.length cl] 42)).alloc (.cells #[.slice none 0 0,.slice none 0 0,.slice none 0 0,.slice none 0 0,.slice none 0 0] 33)):=((Gr.refl W).alloc _).alloc _;have hb0:=heap_alloc_new W (.cells #[.slice al l.length cl] 42);have hb1:=heap_alloc_new (W.alloc (.cells #[.slice al l.length cl] 42)) (.cells #[.slice none 0 0,.slice none 0 0,.slice none 0 0,.slice none 0 0,.slice none 0 0] 33);have s1:(W.alloc (.cells #[.slice al l.length cl] 42)).heap.size=W.heap.size+1:=by simp
 have s2:((W.alloc (.cells #[.slice al l.length cl] 42)).alloc (.cells #[.slice none 0 0,.slice none 0 0,.slice none 0 0,.slice none 0 0,.slice none 0 0] 33)).heap.size=W.heap.size+2:=by simp
 rw [s1] at hb1;have HB0:Hid (((W.alloc (.cells #[.slice al l.length cl] 42)).alloc (.cells #[.slice none 0 0,.slice none 0 0,.slice none 0 0,.slice none 0 0,.slice none 0 0] 33)).cell? ⟨W.heap.size,0,none⟩=some (.slice al l.length cl)):=aH (((Gr.refl _).alloc _:Gr _ _).cell (by rw [aI hb0];rfl) (by simp));have HB1:=aH hb1;have HG1:=aH g1;have HR:=aH hR;have HS2:=aH s2;clear hR hb0 hb1 s1 s2 g1;by_cases hc:1≤l.length∧l.length≤6
 · obtain ⟨hl1,hl6⟩:=hc;obtain ⟨h0,t,hlt⟩:∃h t,l=h :: t:=by
    cases l with
    | nil=>simp at hl1
    | cons h t=>exact ⟨h,t,rfl⟩
   have HL0:Hid (l[0]? =some h0):=aH (by rw [hlt];rfl);have HLE:Hid (bw l=match dg (fun u=>!ak u) 0 l with
    | some k=>.inr (1,k)
    | none=>match dg (fun u=>!decide (u.aA=h0.aA)) 0 l with
    | some k=>.inr (5,k)
    | none=>match iY [] 0 l with
    | some k=>.inr (6,k)
    | none=>match dg (fun u=>u.aB.any fun i=>!(fw 0 l (fun _=>none) i.name).isSome) 0 l with
    | some k=>.inr (7,k)
    | none=>match dg (fun u=>u.aB.any fun i=>!iW (fw 0 l fun _=>none) i) 0 l with
    | some k=>.inr (8,k)
    | none=>if 30 < (A8 (tgtN l) 0 0 l).2.1.length∨50 < (A8 (tgtN l) 0 0 l).1.length∨20 < (A8 (tgtN l) 0 0 l).2.2.length then .inr (9,0) else .inl ⟨h0.aA,(A8 (tgtN l) 0 0 l).1,(A8 (tgtN l) 0 0 l).2.1,[],(A8 (tgtN l) 0 0 l).2.2⟩):=aH (by
    subst hlt;rw [bw,if_neg (by simp at hl6 ⊢;omega)];rfl)
   clear hlt;have i1:(1:Int)≤(l.length:Int):=by omega
   have i6:(l.length:Int)≤6:=by omega
   obtain ⟨ao,cap,he,_,hcu⟩:=HR.out;simp only [Value.slice.injEq,true_and] at he;obtain ⟨rfl,rfl⟩:=he;obtain ⟨b0,off0,x1,x2,x3,x4,x5,rfl,q1,_,_,_,_,hru0⟩:=hcu 0 h0 HL0.out;simp only [Nat.zero_mul,Nat.add_zero] at q1;obtain ⟨sa,_,_,_,_,sc,_,_,_,_,he,rs,_⟩:=hru0.parts;simp only [Value.agg.injEq,Array.mk.injEq,List.cons.injEq,and_true] at he;obtain ⟨rfl,-,-,-,-⟩:=he;have HQ1:=aH q1;have HRS:=aH rs;have c0:=HB0.out;clear q1 rs hru0 hcu;go_enter Tryz.func22,Tryz.ntmps22
   go_wp2_with fail
   generalize (W.alloc (.cells #[.slice (some ⟨b0,off0,none⟩) l.length cl] 42)).alloc (.cells #[.slice none 0 0,.slice none 0 0,.slice none 0 0,.slice none 0 0,.slice none 0 0] 33)=V1 at HB0 HB1 HG1 HS2 c0 ⊢;refine (aP _ _ _).mono ?_;rintro z w2 ⟨rfl,hg2⟩;have HG2:=aH hg2;have c2:=hg2.cell c0 (by simp);clear c0 hg2 i1 i6;go_wp2_with fail
   refine (iS 25 #[] #[] (fun vu vr w=>Tryz.callWf vu vr w) 1 l (.slice (some ⟨b0,off0,none⟩) l.length cl) (fun _ u=>!ak u) (fun _ V=>Gr w2 V) (fun V=>Gr w2 V) w2 w2 (HR.out.gr (HG1.out.trans HG2.out)) (fun k V h=>h) (fun k V V' h g=>h.trans g) (Gr.refl _) (vP w2 l) (by omega) ⟨_,_,rfl⟩).mono ?_;intro x w3 hx;rw [gq] at hx;cases hf:dg (fun u=>!ak u) 0 l with
   | some k=>
    rw [hf] at hx;obtain ⟨rfl,hb⟩:=hx;exact ⟨rfl,HG1.out.trans (HG2.out.trans hb),.inr ⟨1,k,by rw [HLE.out,hf],rfl⟩⟩
   | none=>
   rw [hf] at hx;obtain ⟨rfl,hg3⟩:=hx;have HOK:Hid (∀u∈l,ak u=true):=aH (fun u hu=>by have:=(iw l 0).1 hf u hu;simpa using this);have HF1:=aH hf;have HG3:=aH (HG2.out.trans hg3);have c3:=hg3.cell c2 (by simp);clear c2 hg3 hf;go_wp2_with fail
   refine (iS 34 #[] #[.pointer (some ⟨W.heap.size,0,none⟩)] (fun vu vr w=>Tryz.callU1 vu vr _ w) 5 l (.slice (some ⟨b0,off0,none⟩) l.length cl) (fun _ u=>!decide (u.aA=h0.aA)) (fun _ V=>Gr w3 V) (fun V=>Gr w3 V) w3 w3 (HR.out.gr (HG1.out.trans HG3.out)) (fun k V h=>h) (fun k V V' h g=>h.trans g) (Gr.refl _) (qY w3 l W.heap.size b0 off0 l.length cl sa sc h0.aA ⟨c3,(HG1.out.trans HG3.out).cell HQ1.out (by simp),HRS.out.gr (HG1.out.trans HG3.out),by omega⟩) (by omega) ⟨_,_,rfl⟩).mono ?_;intro x w4 hx;rw [gq] at hx;cases hf:dg (fun u=>!decide (u.aA=h0.aA)) 0 l with
   | some k=>
    rw [hf] at hx;obtain ⟨rfl,hb⟩:=hx;exact ⟨rfl,HG1.out.trans (HG3.out.trans hb),.inr ⟨5,k,by rw [HLE.out,HF1.out,hf],rfl⟩⟩
   | none=>
   rw [hf] at hx;obtain ⟨rfl,hg4⟩:=hx;have HF2:=aH hf;have HG4:=aH (HG3.out.trans hg4);have c4:=hg4.cell c3 (by simp);clear c3 hg4 hf;go_wp2_with fail
   refine (n_ w4 l _ (HR.out.gr (HG1.out.trans HG4.out)) hl6 HOK.out).mono ?_;rintro x w5 ⟨hg5,hx⟩;cases hf:iY [] 0 l with
   | some k=>
    rw [hf] at hx;obtain rfl:=hx;exact ⟨rfl,HG1.out.trans (HG4.out.trans hg5),.inr ⟨6,k,by rw [HLE.out,HF1.out,HF2.out,hf],rfl⟩⟩
   | none=>
   rw [hf] at hx;obtain ⟨mb,nn,rfl,hmt⟩:=hx;have HF3:=aH hf;have HMT:=aH hmt;have HG45:=aH hg5;have HG5:=aH (HG4.out.trans hg5);have c5:=hg5.cell c4 (by simp);clear c4 hg5 hf hmt;go_wp2_with fail
   refine (iS 38 #[.map (some mb)] #[] (fun vu vr w=>Tryz.callTh _ vu vr w) 7 l (.slice (some ⟨b0,off0,none⟩) l.length cl) (fun _ u=>u.aB.any fun i=>!(fw 0 l (fun _=>none) i.name).isSome) (fun _ V=>Gr w5 V) (fun V=>Gr w5 V) w5 w5 (HR.out.gr (HG1.out.trans HG5.out)) (fun k V h=>h) (fun k V V' h g=>h.trans g) (Gr.refl _) (tI w5 l mb nn _ w4 HG45.out HMT.out) (by omega) ⟨_,_,rfl⟩).mono ?_;intro x w6 hx;rw [gq] at hx;cases hf:dg (fun u=>u.aB.any fun i=>!(fw 0 l (fun _=>none) i.name).isSome) 0 l with
   | some k=>
    rw [hf] at hx;obtain ⟨rfl,hb⟩:=hx;exact ⟨rfl,HG1.out.trans (HG5.out.trans hb),.inr ⟨7,k,by rw [HLE.out,HF1.out,HF2.out,HF3.out,hf],rfl⟩⟩
   | none=>
   rw [hf] at hx;obtain ⟨rfl,hg6⟩:=hx;have HNN:Hid (∀u∈l,∀i∈u.aB,(fw 0 l (fun _=>none) i.name).isSome=true):=aH (fun u hu=>uE ((iw l 0).1 hf u hu));have HF4:=aH hf;have HG46:=aH (HG45.out.trans hg6);have HMT6:=aH (HMT.out.gr hg6);have HG6:=aH (HG5.out.trans hg6);have c6:=hg6.cell c5 (by simp);clear c5 hg6 hf HMT HG45;go_wp2_with fail
   refine (iS 39 #[.map (some mb)] #[] (fun vu vr w=>Tryz.callAl _ vu vr w) 8 l (.slice (some ⟨b0,off0,none⟩) l.length cl) (fun _ u=>u.aB.any fun i=>!iW (fw 0 l fun _=>none) i) (fun _ V=>Gr w6 V) (fun V=>Gr w6 V) w6 w6 (HR.out.gr (HG1.out.trans HG6.out)) (fun k V h=>h) (fun k V V' h g=>h.trans g) (Gr.refl _) (tF w6 l mb nn _ w4 HG46.out HMT6.out HNN.out) (by omega) ⟨_,_,rfl⟩).mono ?_;intro x w7 hx;rw [gq] at hx;cases hf:dg (fun u=>u.aB.any fun i=>!iW (fw 0 l fun _=>none) i) 0 l with
   | some k=>
    rw [hf] at hx;obtain ⟨rfl,hb⟩:=hx;exact ⟨rfl,HG1.out.trans (HG6.out.trans hb),.inr ⟨8,k,by rw [HLE.out,HF1.out,HF2.out,HF3.out,HF4.out,hf],rfl⟩⟩
   | none=>
   rw [hf] at hx;obtain ⟨rfl,hg7⟩:=hx;have HF5:=aH hf;have HG47:=aH (HG46.out.trans hg7);have HMT7:=aH (HMT6.out.gr hg7);have HG7:=aH (HG6.out.trans hg7);have c7:=hg7.cell c6 (by simp);clear c6 hg7 hf HMT6 HG46;go_wp2_with fail
   refine (xl w7 l _ (HR.out.gr (HG1.out.trans HG7.out)) hl6 HOK.out).mono ?_;rintro x w8 ⟨rfl,hg8⟩;cases hfew:mV l with
   | false=>
    have HEW:Hid (bw l=.inr (9,0)):=aH (by
     have:=pX (tgtN l) l
     rw [hfew] at this;rw [HLE.out,HF1.out,HF2.out,HF3.out,HF4.out,HF5.out];exact if_pos (by
      have h2:=this.symm;rw [Bool.not_eq_false',decide_eq_true_eq] at h2;exact h2))
    clear hfew c7;go_wp2_with fail
    refine (aV _ _ _).mono ?_;rintro z w9 ⟨rfl,hg9⟩;exact ⟨rfl,HG1.out.trans (HG7.out.trans (hg8.trans hg9)),.inr ⟨9,0,HEW.out,rfl⟩⟩
   | true=>
    have HEW:Hid (bw l=.inl ⟨h0.aA,(A8 (tgtN l) 0 0 l).1,(A8 (tgtN l) 0 0 l).2.1,[],(A8 (tgtN l) 0 0 l).2.2⟩):=aH (by
     have:=pX (tgtN l) l
     rw [hfew] at this;rw [HLE.out,HF1.out,HF2.out,HF3.out,HF4.out,HF5.out];exact if_neg (by simpa using this.symm))
    have HG8:=aH hg8;have c8:=hg8.cell c7 (by simp);clear hfew c7 hg8;go_wp2_with fail
    refine (aP _ _ _).mono ?_;rintro z w9 ⟨rfl,hg9⟩;have HG49:=aH (HG47.out.trans (HG8.out.trans hg9));have HMT9:=aH (HMT7.out.gr (HG8.out.trans hg9));have HG9:=aH (HG7.out.trans (HG8.out.trans hg9));have c9:=hg9.cell c8 (by simp);clear c8 hg9 HMT7 HG47 HG8;go_wp2_with fail
    refine (qt w4 w9 l h0 _ mb nn _ HL0.out (HR.out.gr (HG1.out.trans HG4.out)) HG49.out HMT9.out hl6 HOK.out).mono ?_;rintro x w10 ⟨v1,v2,v3,v5,es1,cs,es3,es5,ρ,B,ab,rfl,hab,hJ,he1,hjn,hg10⟩;obtain ⟨ao1,cp1,rfl⟩:=aL hJ.o1.1;obtain ⟨ao2,cp2,rfl⟩:=aL hJ.o2.1;obtain ⟨ao3,cp3,rfl⟩:=aL hJ.o3.1;obtain ⟨ao5,cp5,rfl⟩:=aL hJ.o5.1;have hrb:=((HG9.out.trans hg10).block (W.heap.size+1) (by have:=HS2.out;omega) (by simp)).trans HB1.out;have p0:w10.cell? ⟨W.heap.size+1,0,none⟩=some (.slice none 0 0):=by rw [aI hrb];rfl
    have p1:w10.cell? ⟨W.heap.size+1,1,none⟩=some (.slice none 0 0):=by rw [aI hrb];rfl
    have p2:w10.cell? ⟨W.heap.size+1,2,none⟩=some (.slice none 0 0):=by rw [aI hrb];rfl
    have p3:w10.cell? ⟨W.heap.size+1,3,none⟩=some (.slice none 0 0):=by rw [aI hrb];rfl
    have p4:w10.cell? ⟨W.heap.size+1,4,none⟩=some (.slice none 0 0):=by rw [aI hrb];rfl
    have z0:w10.frozen? ⟨W.heap.size+1,0,none⟩=false:=aR hrb;have z1:w10.frozen? ⟨W.heap.size+1,1,none⟩=false:=aR hrb;have z2:w10.frozen? ⟨W.heap.size+1,2,none⟩=false:=aR hrb;have z3:w10.frozen? ⟨W.heap.size+1,3,none⟩=false:=aR hrb;have z4:w10.frozen? ⟨W.heap.size+1,4,none⟩=false:=aR hrb;have HRB2:=aH hrb;have HJ:=aH hJ;have HE1:=aH he1;have HJN:=aH hjn;have HG10:=aH (HG9.out.trans hg10);have hB1:W.heap.size+2≤ab:=by have:=HG9.out.size;have:=HS2.out;omega
    clear hrb hJ he1 hjn hg10 c9 hab;go_wp2_with fail
    rw [pL];have hwf:∀q,¬q=W.heap.size+1→(eT w10 (W.heap.size+1) (.slice ao1 es1.length cp1) (.slice ao2 cs.length cp2) (.slice ao3 es3.length cp3) (.slice none 0 0) (.slice ao5 es5.length cp5)).heap[q]? =w10.heap[q]? :=fun q hq=>eR hq
    have hwb:=je (y0:=.slice ao1 es1.length cp1) (y1:=.slice ao2 cs.length cp2) (y2:=.slice ao3 es3.length cp3) (y3:=.slice none 0 0) (y4:=.slice ao5 es5.length cp5) HRB2.out;have hws:(eT w10 (W.heap.size+1) (.slice ao1 es1.length cp1) (.slice ao2 cs.length cp2) (.slice ao3 es3.length cp3) (.slice none 0 0) (.slice ao5 es5.length cp5)).heap.size=w10.heap.size:=by unfold eT;simp
    have hgw:=HG1.out.trans HG10.out;have hwt:Gr W (eT w10 (W.heap.size+1) (.slice ao1 es1.length cp1) (.slice ao2 cs.length cp2) (.slice ao3 es3.length cp3) (.slice none 0 0) (.slice ao5 es5.length cp5)):=⟨hgw.os,hgw.tape,hgw.output,by rw [hws];exact hgw.size,fun i hi hne=>(hwf i (by omega)).trans (hgw.block i hi hne)⟩;generalize eT w10 (W.heap.size+1) (.slice ao1 es1.length cp1) (.slice ao2 cs.length cp2) (.slice ao3 es3.length cp3) (.slice none 0 0) (.slice ao5 es5.length cp5)=WE at hwf hwb hws hwt ⊢;have t0:WE.cell? ⟨W.heap.size+1,0,none⟩=some (.slice ao1 es1.length cp1):=by rw [aI hwb];rfl
    have t1:WE.cell? ⟨W.heap.size+1,1,none⟩=some (.slice ao2 cs.length cp2):=by rw [aI hwb];rfl
    have t2:WE.cell? ⟨W.heap.size+1,2,none⟩=some (.slice ao3 es3.length cp3):=by rw [aI hwb];rfl
    have t3:WE.cell? ⟨W.heap.size+1,3,none⟩=some (.slice none 0 0):=by rw [aI hwb];rfl
    have t4:WE.cell? ⟨W.heap.size+1,4,none⟩=some (.slice ao5 es5.length cp5):=by rw [aI hwb];rfl
    refine bodyPost_ret (v:=.agg #[.slice ao1 es1.length cp1,.slice ao2 cs.length cp2,.slice ao3 es3.length cp3,.slice none 0 0,.slice ao5 es5.length cp5]) (by simp [results,Tryz.results22,go_sem,t0,t1,t2,t3,t4]) rfl ?_;have hjn:=HJN.out;rw [wF] at hjn;have j1:=congrArg (·.1) hjn;have j2:=congrArg (·.2.1) hjn;have j3:=congrArg (·.2.2) hjn;simp only at j1 j2 j3;have hB2:=HJ.out.ab;refine ⟨hwt,.inl ⟨_,_,HEW.out,rfl,⟨_,_,_,_,es1,cs,es3,es5,ρ,B,rfl,by omega,(HJ.out.keep (rb:=W.heap.size+1) (by omega) hwf (by omega) (by omega)).ou,?_,?_⟩⟩⟩
    · rw [HE1.out,j1,j2,j3]
    · intro e he;have hm:e.p∈(A8 (tgtN l) 0 0 l).2.2:=by rw [←j3];exact List.mem_map_of_mem he
      obtain ⟨u,hu,x,hx,ex⟩:=kw _ _ _ _ _ hm;have:=oP (HOK.out u hu) hx
      rw [←ex] at this;have e2:e.p.name.length=e.s.size:=by show e.s.data.toList.length=e.s.size;rw [Array.length_toList];rfl
      unfold maxLen;omega
 · have HLE:Hid (bw l=.inr (4,0)):=aH (by
    cases l with
    | nil=>rfl
    | cons h t=>rw [bw,if_pos (by simp at hc ⊢;omega)])
   have c0:=HB0.out;by_cases h1:1≤l.length
   · have i1:(1:Int)≤(l.length:Int):=by omega
     have n6:¬l.length≤6:=fun e=>hc ⟨h1,e⟩
     have i6:¬(l.length:Int)≤6:=by omega
     have d6:decide ((l.length:Int)≤6)=false:=by simpa using i6
     clear hc;go_enter Tryz.func22,Tryz.ntmps22
     go_wp2_with fail
     refine (aV _ _ _).mono ?_;rintro z w2 ⟨rfl,hg2⟩;exact ⟨rfl,HG1.out.trans hg2,.inr ⟨4,0,HLE.out,rfl⟩⟩
   · have i1:¬(1:Int)≤(l.length:Int):=by omega
     have d1:decide ((1:Int)≤(l.length:Int))=false:=by simpa using i1
     clear hc;go_enter Tryz.func22,Tryz.ntmps22
     go_wp2_with fail
     refine (aV _ _ _).mono ?_;rintro z w2 ⟨rfl,hg2⟩;exact ⟨rfl,HG1.out.trans hg2,.inr ⟨4,0,HLE.out,rfl⟩⟩
open Go.RowKit
def bY(B:Nat)(w:World)(v:Value)(l:List Int):Prop:=
 ∃ao cap,v=.slice ao l.length cap∧l.length≤maxLen∧∀i y,l[i]? =some y→∃b off,ao=some ⟨b,off,none⟩∧B≤b∧w.cell? ⟨b,off+i,none⟩=some (.int .i64 y)
def cR(B:Nat)(w:World)(v:Value)(l:List (List Int)):Prop:=
 ∃ao cap,v=.slice ao l.length cap∧l.length≤maxLen∧∀i x,l[i]? =some x→∃b off vx,ao=some ⟨b,off,none⟩∧B≤b∧w.cell? ⟨b,off+i,none⟩=some vx∧bY B w vx x
def eK(B:Nat)(w:World)(v:Value)(l:List aw):Prop:=
 ∃ao cap,v=.slice ao l.length cap∧l.length≤maxLen∧∀i x,l[i]? =some x→∃b off,ao=some ⟨b,off,none⟩∧B≤b∧
  w.cell? ⟨b,off+i * 3,none⟩=some (.int .i64 x.op)∧w.cell? ⟨b,off+i * 3+1,none⟩=some (.int .i64 x.a)∧w.cell? ⟨b,off+i * 3+2,none⟩=some (.int .i64 x.b)
def dK(B:Nat)(w:World)(v:Value)(l:List aO):Prop:=
 ∃ao cap,v=.slice ao l.length cap∧l.length≤maxLen∧∀i x,l[i]? =some x→∃b off vp vl vc,ao=some ⟨b,off,none⟩∧B≤b∧
  w.cell? ⟨b,off+i * 4,none⟩=some vp∧w.cell? ⟨b,off+i * 4+1,none⟩=some (.int .i64 x.result)∧w.cell? ⟨b,off+i * 4+2,none⟩=some vl∧w.cell? ⟨b,off+i * 4+3,none⟩=some vc∧
  bY B w vp x.aF∧bY B w vl x.aG∧eK B w vc x.code
def bt(B:Nat)(w:World)(v:Value)(l:List fQ):Prop:=
 ∃ao cap,v=.slice ao l.length cap∧l.length≤maxLen∧∀i x,l[i]? =some x→∃b off vs vp,ao=some ⟨b,off,none⟩∧B≤b∧
  w.cell? ⟨b,off+i * 3,none⟩=some vs∧w.cell? ⟨b,off+i * 3+1,none⟩=some vp∧w.cell? ⟨b,off+i * 3+2,none⟩=some (.int .i64 x.result)∧
  ii vs x.name∧bY B w vp x.aF
def bu(B:Nat)(w:World)(v:Value)(l:List du):Prop:=
 ∃ao cap,v=.slice ao l.length cap∧l.length≤maxLen∧∀i x,l[i]? =some x→∃b off vs,ao=some ⟨b,off,none⟩∧B≤b∧
  w.cell? ⟨b,off+i * 2,none⟩=some vs∧w.cell? ⟨b,off+i * 2+1,none⟩=some (.int .i64 x.func)∧ii vs x.name
def Kp(B:Nat)(w w':World):Prop:=∀k,B≤k→k < w.heap.size→w'.heap[k]? =w.heap[k]?
theorem Kp.cell{B:Nat}{w w':World}(h:Kp B w w'){b o:Nat}{x:Value}(hb:B≤b)(hx:w.cell? ⟨b,o,none⟩=some x):w'.cell? ⟨b,o,none⟩=some x:=
 (World.cell?_of_block (a:=⟨b,o,none⟩) (h b hb (World.block_lt_of_cell? w _ hx))).trans hx
theorem Kp.mono{B B':Nat}{w w':World}(h:Kp B w w')(hB:B≤B'):Kp B' w w':=fun k h1 h2=>h k (Nat.le_trans hB h1) h2
theorem Gc.kp{cb B:Nat}{w w':World}(h:Gc cb w w')(hb:cb < B):Kp B w w':=fun k h1 h2=>h.block k h2 (by intro e;simp only [Option.some.injEq] at e;omega)
theorem Kp.set{B g o:Nat}{w:World}(v:Value)(hg:g < B):Kp B w (w.setCell ⟨g,o,none⟩ v):=fun k h1 _=>Below.heap_setCell _ _ _ _ (by show k≠g;omega)
theorem Kp.trans{B:Nat}{a b c:World}(h:Kp B a b)(k:Kp B b c)(hs:a.heap.size≤b.heap.size):Kp B a c:=fun i h1 h2=>(k i h1 (Nat.lt_of_lt_of_le h2 hs)).trans (h i h1 h2)
theorem Gr.kp{B:Nat}{w w':World}(h:Gr w w'):Kp B w w':=fun k _ h2=>h.block k h2 (by simp)
theorem bY.kp{B:Nat}{w w':World}{v:Value}{l:List Int}(h:bY B w v l)(g:Kp B w w'):bY B w' v l:=by
 obtain ⟨ao,cap,hv,hm,hc⟩:=h;refine ⟨ao,cap,hv,hm,fun i x hi=>?_⟩;obtain ⟨b,off,h1,h2,h3⟩:=hc i x hi;exact ⟨b,off,h1,h2,g.cell h2 h3⟩
theorem eK.kp{B:Nat}{w w':World}{v:Value}{l:List aw}(h:eK B w v l)(g:Kp B w w'):eK B w' v l:=by
 obtain ⟨ao,cap,hv,hm,hc⟩:=h;refine ⟨ao,cap,hv,hm,fun i x hi=>?_⟩;obtain ⟨b,off,h1,h2,h3,h4,h5⟩:=hc i x hi;exact ⟨b,off,h1,h2,g.cell h2 h3,g.cell h2 h4,g.cell h2 h5⟩
theorem cR.kp{B:Nat}{w w':World}{v:Value}{l:List (List Int)}(h:cR B w v l)(g:Kp B w w'):cR B w' v l:=by
 obtain ⟨ao,cap,hv,hm,hc⟩:=h;refine ⟨ao,cap,hv,hm,fun i x hi=>?_⟩;obtain ⟨b,off,vx,h1,h2,h3,h4⟩:=hc i x hi;exact ⟨b,off,vx,h1,h2,g.cell h2 h3,h4.kp g⟩
theorem dK.kp{B:Nat}{w w':World}{v:Value}{l:List aO}(h:dK B w v l)(g:Kp B w w'):dK B w' v l:=by
 obtain ⟨ao,cap,hv,hm,hc⟩:=h;refine ⟨ao,cap,hv,hm,fun i x hi=>?_⟩;obtain ⟨b,off,vp,vl,vc,h1,h2,h3,h4,h5,h6,h7,h8,h9⟩:=hc i x hi;exact ⟨b,off,vp,vl,vc,h1,h2,g.cell h2 h3,g.cell h2 h4,g.cell h2 h5,g.cell h2 h6,h7.kp g,h8.kp g,h9.kp g⟩
theorem bt.kp{B:Nat}{w w':World}{v:Value}{l:List fQ}(h:bt B w v l)(g:Kp B w w'):bt B w' v l:=by
 obtain ⟨ao,cap,hv,hm,hc⟩:=h;refine ⟨ao,cap,hv,hm,fun i x hi=>?_⟩;obtain ⟨b,off,vs,vp,h1,h2,h3,h4,h5,h6,h7⟩:=hc i x hi;exact ⟨b,off,vs,vp,h1,h2,g.cell h2 h3,g.cell h2 h4,g.cell h2 h5,h6,h7.kp g⟩
theorem bu.kp{B:Nat}{w w':World}{v:Value}{l:List du}(h:bu B w v l)(g:Kp B w w'):bu B w' v l:=by
 obtain ⟨ao,cap,hv,hm,hc⟩:=h;refine ⟨ao,cap,hv,hm,fun i x hi=>?_⟩;obtain ⟨b,off,vs,h1,h2,h3,h4,h5⟩:=hc i x hi;exact ⟨b,off,vs,h1,h2,g.cell h2 h3,g.cell h2 h4,h5⟩
theorem bY.mono{B B':Nat}{w:World}{v:Value}{l:List Int}(h:bY B' w v l)(hB:B≤B'):bY B w v l:=by
 obtain ⟨ao,cap,hv,hm,hc⟩:=h;refine ⟨ao,cap,hv,hm,fun i x hi=>?_⟩;obtain ⟨b,off,h1,h2,h3⟩:=hc i x hi;exact ⟨b,off,h1,Nat.le_trans hB h2,h3⟩
theorem eK.mono{B B':Nat}{w:World}{v:Value}{l:List aw}(h:eK B' w v l)(hB:B≤B'):eK B w v l:=by
 obtain ⟨ao,cap,hv,hm,hc⟩:=h;refine ⟨ao,cap,hv,hm,fun i x hi=>?_⟩;obtain ⟨b,off,h1,h2,h3⟩:=hc i x hi;exact ⟨b,off,h1,Nat.le_trans hB h2,h3⟩
theorem bY.to{B:Nat}{w:World}{v:Value}{l:List Int}(h:bY B w v l):aX w v l:=by
 obtain ⟨ao,cap,hv,hm,hc⟩:=h;refine ⟨ao,cap,hv,hm,fun i hi=>?_⟩;obtain ⟨b,off,h1,h2,h3⟩:=hc i l[i] (List.getElem?_eq_getElem hi);exact ⟨b,off,h1,by rw [h3];simp [List.getD_eq_getElem?_getD,hi]⟩
theorem eK.to{B:Nat}{w:World}{v:Value}{l:List aw}(h:eK B w v l):dM w v l:=by
 obtain ⟨ao,cap,hv,hm,hc⟩:=h;refine ⟨ao,cap,hv,hm,fun i x hi=>?_⟩;obtain ⟨b,off,h1,h2,h3⟩:=hc i x hi;exact ⟨b,off,h1,h3⟩
theorem cR.to{B:Nat}{w:World}{v:Value}{l:List (List Int)}(h:cR B w v l):bG w v l:=by
 obtain ⟨ao,cap,hv,hm,hc⟩:=h;refine ⟨ao,cap,hv,hm,fun i x hi=>?_⟩;obtain ⟨b,off,vx,h1,h2,h3,h4⟩:=hc i x hi;exact ⟨b,off,vx,h1,h3,h4.to⟩
theorem dK.to{B:Nat}{w:World}{v:Value}{l:List aO}(h:dK B w v l):cG w v l:=by
 obtain ⟨ao,cap,hv,hm,hc⟩:=h;refine ⟨ao,cap,hv,hm,fun i x hi=>?_⟩;obtain ⟨b,off,vp,vl,vc,h1,h2,h3,h4,h5,h6,h7,h8,h9⟩:=hc i x hi;exact ⟨b,off,vp,vl,vc,h1,h3,h4,h5,h6,h7.to,h8.to,h9.to⟩
theorem bt.to{B:Nat}{w:World}{v:Value}{l:List fQ}(h:bt B w v l):bK w v l:=by
 obtain ⟨ao,cap,hv,hm,hc⟩:=h;refine ⟨ao,cap,hv,hm,fun i x hi=>?_⟩;obtain ⟨b,off,vs,vp,h1,h2,h3,h4,h5,h6,h7⟩:=hc i x hi;exact ⟨b,off,vs,vp,h1,h3,h4,h5,h6,h7.to⟩
theorem bu.to{B:Nat}{w:World}{v:Value}{l:List du}(h:bu B w v l):b8 w v l:=by
 obtain ⟨ao,cap,hv,hm,hc⟩:=h;refine ⟨ao,cap,hv,hm,fun i x hi=>?_⟩;obtain ⟨b,off,vs,h1,h2,h3,h4,h5⟩:=hc i x hi;exact ⟨b,off,vs,h1,h3,h4,h5⟩
theorem bY.shape{B:Nat}{w:World}{v:Value}{l:List Int}(h:bY B w v l):∃ao cap,v=.slice ao l.length cap:=by
 obtain ⟨ao,cap,hv,_⟩:=h;exact ⟨ao,cap,hv⟩
theorem eK.shape{B:Nat}{w:World}{v:Value}{l:List aw}(h:eK B w v l):∃ao cap,v=.slice ao l.length cap:=by
 obtain ⟨ao,cap,hv,_⟩:=h;exact ⟨ao,cap,hv⟩
def ew{α:Type}(f:List UInt8→Option (α×List UInt8)):Nat→List UInt8→Option (List α×List UInt8)
 | 0,r=>some ([],r)
 | n+1,r=>match f r with
  | none=>none
  | some (y,r1)=>match ew f n r1 with
   | none=>none
   | some (ys,r2)=>some (y :: ys,r2)
def aM{α:Type}(f:List UInt8→Option (α×List UInt8))(r:List UInt8):Option (List α×List UInt8):=match bA 0 0 r with
 | none=>none
 | some (n,r1)=>if n≤r1.length then ew f n r1 else none
def gj{α:Type}(ys:List α):Option (List α×List UInt8)→Option (List α×List UInt8)
 | none=>none
 | some (zs,r)=>some (ys++zs,r)
theorem fq{α:Type}(o:Option (List α×List UInt8)):gj [] o=o:=by cases o<;>rfl
theorem fD{α:Type}{f:List UInt8→Option (α×List UInt8)}{ys:List α}{m:Nat}{r r1:List UInt8}{y:α}(h:f r=some (y,r1)):gj ys (ew f (m+1) r)=gj (ys++ [y]) (ew f m r1):=by
 simp only [ew,h];cases ew f m r1 with
 | none=>rfl
 | some p=>obtain ⟨zs,r2⟩:=p;simp [gj]
theorem BC{α:Type}{f:List UInt8→Option (α×List UInt8)}{ys:List α}{m:Nat}{r:List UInt8}(h:f r=none):gj ys (ew f (m+1) r)=none:=by
 simp only [ew,h];rfl
theorem gH{α:Type}{f:List UInt8→Option (α×List UInt8)}{ys:List α}{r:List UInt8}:gj ys (ew f 0 r)=some (ys,r):=by simp [ew,gj]
open Go.RowKit
attribute [local go_sem ↓] Go.wp_at_zero Go.wp_at_succ
theorem iI(w:World)(M:Array Value)(t:TypeId)(j:Nat)(hj:j < M.size):(∃x,(w.alloc (.cells M t)).cell? ⟨w.heap.size,j,none⟩=some x)∧(w.alloc (.cells M t)).frozen? ⟨w.heap.size,j,none⟩=false:=by
 have h:=heap_alloc_new w (.cells M t);refine ⟨⟨M[j],?_⟩,?_⟩
 · rw [cell_of_row _ w.heap.size j M t (0,0) h];simp [hj]
 · unfold World.frozen?;rw [h];simp
theorem fo{w w':World}{g n:Nat}(h:∀j,j < n→(∃x,w.cell? ⟨g,j,none⟩=some x)∧w.frozen? ⟨g,j,none⟩=false)(k:Kp g w w')(hg:g < w.heap.size):∀j,j < n→(∃x,w'.cell? ⟨g,j,none⟩=some x)∧w'.frozen? ⟨g,j,none⟩=false:=by
 intro j hj;obtain ⟨⟨x,hx⟩,hz⟩:=h j hj;exact ⟨⟨x,k.cell (Nat.le_refl _) hx⟩,(World.frozen?_of_block (a:=⟨g,j,none⟩) (k g (Nat.le_refl _) hg)).trans hz⟩
theorem dQ{w:World}{g n o:Nat}{v:Value}(h:∀j,j < n→(∃x,w.cell? ⟨g,j,none⟩=some x)∧w.frozen? ⟨g,j,none⟩=false):∀j,j < n→(∃x,(w.setCell ⟨g,o,none⟩ v).cell? ⟨g,j,none⟩=some x)∧(w.setCell ⟨g,o,none⟩ v).frozen? ⟨g,j,none⟩=false:=by
 intro j hj;obtain ⟨⟨x,hx⟩,hz⟩:=h j hj;refine ⟨?_,by rw [World.frozen?_setCell];exact hz⟩;by_cases e:o=j
 · subst e;exact ⟨v,World.cell?_setCell_same w _ _ hx⟩
 · exact ⟨x,(World.cell?_setCell_other w _ _ _ (by intro h;simp only [Addr.mk.injEq] at h;exact e h.2.1)).trans hx⟩
theorem aJ{w:World}{g o j:Nat}{v:Value}(h:¬o=j):(w.setCell ⟨g,o,none⟩ v).cell? ⟨g,j,none⟩=w.cell? ⟨g,j,none⟩:=
 World.cell?_setCell_other w _ _ _ (by intro e;simp only [Addr.mk.injEq] at e;exact h e.2.1)
theorem af{w:World}{cb g o:Nat}{v:Value}{r:List UInt8}{e a:Int}(h:iA w cb r e a)(hne:¬g=cb):iA (w.setCell ⟨g,o,none⟩ v) cb r e a:=by
 obtain ⟨⟨s,h0,h1⟩,h2,h3,h4,h5,h6⟩:=h;have hc:∀q,(w.setCell ⟨g,o,none⟩ v).cell? ⟨cb,q,none⟩=w.cell? ⟨cb,q,none⟩:=fun q=>World.cell?_setCell_other w _ _ _ (by intro e;simp only [Addr.mk.injEq] at e;exact hne e.1)
 exact ⟨⟨s,(hc 0).trans h0,h1⟩,h2,(hc 1).trans h3,(hc 3).trans h4,by rw [World.frozen?_setCell];exact h5,(hc 2).trans h6⟩
theorem am{cb:Nat}{w w':World}(h:Gc cb w w'){g o:Nat}{v:Value}(hg:w.heap.size≤g):Gc cb w (w'.setCell ⟨g,o,none⟩ v):=
 ⟨h.os,h.tape,h.output,by simpa using h.size,fun i hi hne=>by rw [Below.heap_setCell _ _ _ _ (by show i≠g;omega)];exact h.block i hi hne⟩
theorem iL{α:Type}{ys:List α}{y z:α}{j:Nat}(h:(ys++ [y])[j]? =some z):(ys[j]? =some z∧j < ys.length)∨(j=ys.length∧z=y):=by
 by_cases hj:j < ys.length
 · left;rw [List.getElem?_append_left hj] at h;exact ⟨h,hj⟩
 · right
   rw [List.getElem?_append_right (by omega)] at h;by_cases e:j - ys.length=0
   · rw [e] at h;simp at h;exact ⟨by omega,h.symm⟩
   · rw [List.getElem?_eq_none (by simp;omega)] at h;cases h
theorem Tryz.rinfo_rlist_whole:(Tryz.prog.info? 3).map (fun i=>(i.zero,i.size,i.bytes))=some (some (Value.int .i64 0),1,8):=by kernel_rfl
theorem oq(cb B:Nat)(r:List UInt8)(e a:Int)(w:World)(hc:iA w cb r e a)(hb:cb < B)(hB:B≤w.heap.size):
 Calls Tryz.prog 125 #[.pointer (some ⟨cb,0,none⟩),.func (.func 126) #[] #[]] w (mT cb e a w (fun w' v (y:List Int)=>bY B w' v y) (aM aq r)):=by
 have HC:=aH hc;clear hc;go_enter Tryz.func125,Tryz.ntmps125
 go_wp2_with fail
 refine (cg cb r e a _ HC.out).mono ?_;intro x w1 h;cases hn:bA 0 0 r with
 | none=>
  obtain ⟨rfl,hg⟩:=h.none_ hn;exact ⟨rfl,by unfold aM;rw [hn];exact ⟨rfl,hg⟩⟩
 | some p=>
  obtain ⟨n,r1⟩:=p;obtain ⟨v,rfl,rfl,hcur,hg⟩:=h.some_ hn;have HG1:=aH hg;have HC1:=aH hcur;obtain ⟨⟨s,h0,hs⟩,hl,h1,h2,hz,hj⟩:=hcur;have hsz:s.size=r1.length:=by rw [←hs,Array.length_toList];rfl
  have hss:s.size≤1000000:=by omega
  have hwr:IntKind.u64.wrap (s.size:Int)=s.size:=Go.IntWalk.u64_in _ (by omega);by_cases hle:n≤r1.length
  · have HE:Hid (aM aq r=ew aq n r1):=aH (by unfold aM;rw [hn];simp only [if_pos hle]);have hd:(n:Int)≤(s.size:Int):=by omega
    have hn6:n≤1000000:=by omega
    clear h hg hn hs hl hz hsz hle;go_wp2
    go_region_held3 (fun w'=>w'.cell? ⟨cb,0,none⟩=some (.string s)∧w'.cell? ⟨cb,1,none⟩=some (.int .i64 e)∧w'.cell? ⟨cb,3,none⟩=some (.int .i64 a)∧w'.cell? ⟨cb,2,none⟩=some (.int .i64 0)) (first|go_keep|(refine ⟨?_,?_,?_,?_⟩<;>exact hg'.cell (by assumption) (by simp))) (first|(go_at_call 32;refine (aP _ _ _).mono ?_;rintro e w' ⟨rfl,hg'⟩))
    have HC2:=aH (HC1.out.gr (Gr.trans (Gr.drew (Gr.refl w1)) hg'));have HG2:=aH (HG1.out.trans (Gr.trans (Gr.drew (Gr.refl w1)) hg').toGc);clear hg' h0 h1 h2 hj HC1 HG1 hss hwr hd;obtain ⟨i0,hi,hz0,hz1,hz2⟩:=info_parts Tryz.rinfo_rlist_whole;obtain ⟨M,hM⟩:∃M,M=madeCells (Value.int .i64 0).cells ((n:Int).toNat * i0.size):=⟨_,rfl⟩;have hMs:M.size=n * 1:=by rw [hM,size_madeCells,hz1];simp
    have hmk:∀V:World,(Instr.makeSlice 22 (.int .u64 (n:Int)) (.int .u64 (n:Int))).run Tryz.prog V=.ok (.slice (some ⟨V.heap.size,0,none⟩) n n) (V.alloc (.cells M 3)):=by
     intro V;have h:=run_make (P:=Tryz.prog) V 22 3 i0 (Value.int .i64 0) Tryz.underlying22 hi hz0 .u64 .u64 (n:Int) (n:Int) (by omega) (by omega) (by rw [hz2];omega) (by omega);rw [←hM] at h;simpa using h
    have HM:=aH hMs;clear hM hMs hi hz0 hz1 hz2;go_wp2
    have hgB:B≤w'.heap.size:=Nat.le_trans hB HG2.out.size;have hgW:w.heap.size≤w'.heap.size:=HG2.out.size;go_loopw [27] (fun i wr=>∃(k:Nat) (ys:List Int) (rk:List UInt8),k≤n∧i=.int .i64 k∧ys.length=k∧iA wr cb rk e a∧Gc cb w wr∧ew aq n r1=gj ys (ew aq (n - k) rk)∧w'.heap.size < wr.heap.size∧(∀j,j < n * 1→(∃x,wr.cell? ⟨w'.heap.size,j,none⟩=some x)∧wr.frozen? ⟨w'.heap.size,j,none⟩=false)∧∀j y,ys[j]? =some y→wr.cell? ⟨w'.heap.size,j,none⟩=some (.int .i64 y)) (fun i _=>n - (intOf i).toNat)
    case atStart=>
     refine ⟨0,[],r1,Nat.zero_le _,rfl,rfl,HC2.out.gr ((Gr.refl _).alloc _),HG2.out.trans ((Gr.refl _).alloc _).toGc,by rw [fq];rfl,by simp,fun j hj=>?_,fun j y hy=>by simp at hy⟩;exact iI w' M 3 j (by rw [HM.out];exact hj)
    case round=>
     obtain ⟨k,ys,rk,hk,rfl,hyl,hcur,hgc,hrd,hsz,hrow,hel⟩:=hrel;have HN:=aH hrd;have HEl:=aH hel;have HRow:=aH hrow;have HG3:=aH hgc;have HC3:=aH hcur;have hYL:=aH hyl;clear hrd hel hrow hgc hcur HC2 HG2 hyl hmk;by_cases hlt:k < n
     · obtain ⟨m,hm⟩:∃m,n - k=m+1:=⟨n - k - 1,by omega⟩;have HMM:=aH hm;clear hm;go_wp2_with fail
       refine (eM cb rk e a _ HC3.out).mono ?_;intro x w4 h;cases hf:aq rk with
       | none=>
        obtain ⟨rfl,hg⟩:=h.none_ hf;exact ⟨rfl,by rw [HE.out,HN.out,HMM.out,BC hf];exact ⟨rfl,HG3.out.trans hg⟩⟩
       | some p=>
        obtain ⟨y,r4⟩:=p;obtain ⟨v,rfl,hy,hcur,hg⟩:=h.some_ hf;have HN2:Hid (ew aq n r1=gj (ys++ [y]) (ew aq (n - (k+1)) r4)):=aH (by rw [HN.out,HMM.out,fD hf,show n - (k+1)=m by have:=HMM.out;omega]);have hkp:Kp (w'.heap.size) wr w4:=hg.kp (by omega);have hsz4:w'.heap.size < w4.heap.size:=Nat.lt_of_lt_of_le hsz hg.size;have HRow4:Hid (∀j,j < n * 1→(∃x,w4.cell? ⟨w'.heap.size,j,none⟩=some x)∧w4.frozen? ⟨w'.heap.size,j,none⟩=false):=aH (fo HRow.out hkp hsz);have HC4:=aH hcur;have HG4:=aH (HG3.out.trans hg);have HKP:=aH hkp;have HY:=aH hy;clear h hf hcur hkp;have hv:=HY.out;subst hv;obtain ⟨⟨x0,hx0⟩,hz0⟩:=HRow4.out k (by omega);have hkn:(0:Int)≤(k:Int):=by omega
        have hkn2:(k:Int) < (n:Int):=by omega
        clear hg;go_wp2
        go_roundw
        case rel=>
         have hyl:=hYL.out;refine ⟨k+1,ys++ [y],r4,by omega,by go_num,by simp [hyl],af HC4.out (by omega),am HG4.out hgW,HN2.out,by simpa using hsz4,dQ HRow4.out,fun j z hj=>?_⟩;rcases iL hj with ⟨h1,h2⟩|⟨h1,h2⟩
         · rw [aJ (by omega)];exact HKP.out.cell (Nat.le_refl _) (HEl.out j z h1)
         · subst h1;subst h2;rw [hyl];exact World.cell?_setCell_same _ _ _ hx0
        case measure=>simp [intOf];omega
     · have hk2:k=n:=by omega
       subst hk2;have HFin:Hid (aM aq r=some (ys,rk)):=aH (by rw [HE.out,HN.out,Nat.sub_self,gH]);go_wp2
       go_ret
       rw [HFin.out];refine ⟨_,rfl,?_,HC3.out,HG3.out⟩;have hyl:=hYL.out;show bY B wr (.slice (some ⟨w'.heap.size,0,none⟩) k k) ys
       refine ⟨some ⟨w'.heap.size,0,none⟩,k,by rw [hyl],by unfold maxLen;omega,fun i y hi=>?_⟩;have hq:=HEl.out i y hi;exact ⟨w'.heap.size,0,rfl,hgB,by rw [Nat.zero_add];exact hq⟩
  · have HE:Hid (aM aq r=none):=aH (by unfold aM;rw [hn];simp only [if_neg hle]);have hd:decide (n≤s.size)=false:=by rw [decide_eq_false_iff_not];omega
    clear h hg hn hs hl hz hsz hle;go_wp2
    go_region_with (first|(go_at_call 32;refine (aV _ _ _).mono ?_;rintro e w' ⟨rfl,hg'⟩;refine aQ ?_))
    all_goals exact ⟨rfl,by rw [HE.out];exact ⟨rfl,HG1.out.trans (Gr.trans (Gr.drew (Gr.refl w1)) hg').toGc⟩⟩
theorem Tryz.rinfo_rlist_signed:(Tryz.prog.info? 3).map (fun i=>(i.zero,i.size,i.bytes))=some (some (Value.int .i64 0),1,8):=by kernel_rfl
theorem nw(cb B:Nat)(r:List UInt8)(e a:Int)(w:World)(hc:iA w cb r e a)(hb:cb < B)(hB:B≤w.heap.size):
 Calls Tryz.prog 125 #[.pointer (some ⟨cb,0,none⟩),.func (.func 92) #[] #[]] w (mT cb e a w (fun w' v (y:List Int)=>bY B w' v y) (aM ag r)):=by
 have HC:=aH hc;clear hc;go_enter Tryz.func125,Tryz.ntmps125
 go_wp2_with fail
 refine (cg cb r e a _ HC.out).mono ?_;intro x w1 h;cases hn:bA 0 0 r with
 | none=>
  obtain ⟨rfl,hg⟩:=h.none_ hn;exact ⟨rfl,by unfold aM;rw [hn];exact ⟨rfl,hg⟩⟩
 | some p=>
  obtain ⟨n,r1⟩:=p;obtain ⟨v,rfl,rfl,hcur,hg⟩:=h.some_ hn;have HG1:=aH hg;have HC1:=aH hcur;obtain ⟨⟨s,h0,hs⟩,hl,h1,h2,hz,hj⟩:=hcur;have hsz:s.size=r1.length:=by rw [←hs,Array.length_toList];rfl
  have hss:s.size≤1000000:=by omega
  have hwr:IntKind.u64.wrap (s.size:Int)=s.size:=Go.IntWalk.u64_in _ (by omega);by_cases hle:n≤r1.length
  · have HE:Hid (aM ag r=ew ag n r1):=aH (by unfold aM;rw [hn];simp only [if_pos hle]);have hd:(n:Int)≤(s.size:Int):=by omega
    have hn6:n≤1000000:=by omega
    clear h hg hn hs hl hz hsz hle;go_wp2
    go_region_held3 (fun w'=>w'.cell? ⟨cb,0,none⟩=some (.string s)∧w'.cell? ⟨cb,1,none⟩=some (.int .i64 e)∧w'.cell? ⟨cb,3,none⟩=some (.int .i64 a)∧w'.cell? ⟨cb,2,none⟩=some (.int .i64 0)) (first|go_keep|(refine ⟨?_,?_,?_,?_⟩<;>exact hg'.cell (by assumption) (by simp))) (first|(go_at_call 32;refine (aP _ _ _).mono ?_;rintro e w' ⟨rfl,hg'⟩))
    have HC2:=aH (HC1.out.gr (Gr.trans (Gr.drew (Gr.refl w1)) hg'));have HG2:=aH (HG1.out.trans (Gr.trans (Gr.drew (Gr.refl w1)) hg').toGc);clear hg' h0 h1 h2 hj HC1 HG1 hss hwr hd;obtain ⟨i0,hi,hz0,hz1,hz2⟩:=info_parts Tryz.rinfo_rlist_signed;obtain ⟨M,hM⟩:∃M,M=madeCells (Value.int .i64 0).cells ((n:Int).toNat * i0.size):=⟨_,rfl⟩;have hMs:M.size=n * 1:=by rw [hM,size_madeCells,hz1];simp
    have hmk:∀V:World,(Instr.makeSlice 22 (.int .u64 (n:Int)) (.int .u64 (n:Int))).run Tryz.prog V=.ok (.slice (some ⟨V.heap.size,0,none⟩) n n) (V.alloc (.cells M 3)):=by
     intro V;have h:=run_make (P:=Tryz.prog) V 22 3 i0 (Value.int .i64 0) Tryz.underlying22 hi hz0 .u64 .u64 (n:Int) (n:Int) (by omega) (by omega) (by rw [hz2];omega) (by omega);rw [←hM] at h;simpa using h
    have HM:=aH hMs;clear hM hMs hi hz0 hz1 hz2;go_wp2
    have hgB:B≤w'.heap.size:=Nat.le_trans hB HG2.out.size;have hgW:w.heap.size≤w'.heap.size:=HG2.out.size;go_loopw [27] (fun i wr=>∃(k:Nat) (ys:List Int) (rk:List UInt8),k≤n∧i=.int .i64 k∧ys.length=k∧iA wr cb rk e a∧Gc cb w wr∧ew ag n r1=gj ys (ew ag (n - k) rk)∧w'.heap.size < wr.heap.size∧(∀j,j < n * 1→(∃x,wr.cell? ⟨w'.heap.size,j,none⟩=some x)∧wr.frozen? ⟨w'.heap.size,j,none⟩=false)∧∀j y,ys[j]? =some y→wr.cell? ⟨w'.heap.size,j,none⟩=some (.int .i64 y)) (fun i _=>n - (intOf i).toNat)
    case atStart=>
     refine ⟨0,[],r1,Nat.zero_le _,rfl,rfl,HC2.out.gr ((Gr.refl _).alloc _),HG2.out.trans ((Gr.refl _).alloc _).toGc,by rw [fq];rfl,by simp,fun j hj=>?_,fun j y hy=>by simp at hy⟩;exact iI w' M 3 j (by rw [HM.out];exact hj)
    case round=>
     obtain ⟨k,ys,rk,hk,rfl,hyl,hcur,hgc,hrd,hsz,hrow,hel⟩:=hrel;have HN:=aH hrd;have HEl:=aH hel;have HRow:=aH hrow;have HG3:=aH hgc;have HC3:=aH hcur;have hYL:=aH hyl;clear hrd hel hrow hgc hcur HC2 HG2 hyl hmk;by_cases hlt:k < n
     · obtain ⟨m,hm⟩:∃m,n - k=m+1:=⟨n - k - 1,by omega⟩;have HMM:=aH hm;clear hm;go_wp2_with fail
       refine (kv cb rk e a _ HC3.out).mono ?_;intro x w4 h;cases hf:ag rk with
       | none=>
        obtain ⟨rfl,hg⟩:=h.none_ hf;exact ⟨rfl,by rw [HE.out,HN.out,HMM.out,BC hf];exact ⟨rfl,HG3.out.trans hg⟩⟩
       | some p=>
        obtain ⟨y,r4⟩:=p;obtain ⟨v,rfl,hy,hcur,hg⟩:=h.some_ hf;have HN2:Hid (ew ag n r1=gj (ys++ [y]) (ew ag (n - (k+1)) r4)):=aH (by rw [HN.out,HMM.out,fD hf,show n - (k+1)=m by have:=HMM.out;omega]);have hkp:Kp (w'.heap.size) wr w4:=hg.kp (by omega);have hsz4:w'.heap.size < w4.heap.size:=Nat.lt_of_lt_of_le hsz hg.size;have HRow4:Hid (∀j,j < n * 1→(∃x,w4.cell? ⟨w'.heap.size,j,none⟩=some x)∧w4.frozen? ⟨w'.heap.size,j,none⟩=false):=aH (fo HRow.out hkp hsz);have HC4:=aH hcur;have HG4:=aH (HG3.out.trans hg);have HKP:=aH hkp;have HY:=aH hy;clear h hf hcur hkp;have hv:=HY.out;subst hv;obtain ⟨⟨x0,hx0⟩,hz0⟩:=HRow4.out k (by omega);have hkn:(0:Int)≤(k:Int):=by omega
        have hkn2:(k:Int) < (n:Int):=by omega
        clear hg;go_wp2
        go_roundw
        case rel=>
         have hyl:=hYL.out;refine ⟨k+1,ys++ [y],r4,by omega,by go_num,by simp [hyl],af HC4.out (by omega),am HG4.out hgW,HN2.out,by simpa using hsz4,dQ HRow4.out,fun j z hj=>?_⟩;rcases iL hj with ⟨h1,h2⟩|⟨h1,h2⟩
         · rw [aJ (by omega)];exact HKP.out.cell (Nat.le_refl _) (HEl.out j z h1)
         · subst h1;subst h2;rw [hyl];exact World.cell?_setCell_same _ _ _ hx0
        case measure=>simp [intOf];omega
     · have hk2:k=n:=by omega
       subst hk2;have HFin:Hid (aM ag r=some (ys,rk)):=aH (by rw [HE.out,HN.out,Nat.sub_self,gH]);go_wp2
       go_ret
       rw [HFin.out];refine ⟨_,rfl,?_,HC3.out,HG3.out⟩;have hyl:=hYL.out;show bY B wr (.slice (some ⟨w'.heap.size,0,none⟩) k k) ys
       refine ⟨some ⟨w'.heap.size,0,none⟩,k,by rw [hyl],by unfold maxLen;omega,fun i y hi=>?_⟩;have hq:=HEl.out i y hi;exact ⟨w'.heap.size,0,rfl,hgB,by rw [Nat.zero_add];exact hq⟩
  · have HE:Hid (aM ag r=none):=aH (by unfold aM;rw [hn];simp only [if_neg hle]);have hd:decide (n≤s.size)=false:=by rw [decide_eq_false_iff_not];omega
    clear h hg hn hs hl hz hsz hle;go_wp2
    go_region_with (first|(go_at_call 32;refine (aV _ _ _).mono ?_;rintro e w' ⟨rfl,hg'⟩;refine aQ ?_))
    all_goals exact ⟨rfl,by rw [HE.out];exact ⟨rfl,HG1.out.trans (Gr.trans (Gr.drew (Gr.refl w1)) hg').toGc⟩⟩
def ar(r:List UInt8):Option (List Int×List UInt8):=aM aq r
theorem iF(cb B:Nat)(r:List UInt8)(e a:Int)(w:World)(hc:iA w cb r e a)(hb:cb < B)(hB:B≤w.heap.size):
 Calls Tryz.prog 90 #[.pointer (some ⟨cb,0,none⟩)] w (mT cb e a w (fun w' v (y:List Int)=>bY B w' v y) (ar r)):=by
 have HC:=aH hc;clear hc;go_enter Tryz.func90,Tryz.ntmps90
 go_wp2_with fail
 refine (oq cb B r e a _ HC.out hb hB).mono ?_;intro x w1 h;cases hn:ar r with
 | none=>
  obtain ⟨rfl,hg⟩:=h.none_ hn;exact ⟨rfl,by rw [hn];exact ⟨rfl,hg⟩⟩
 | some p=>
  obtain ⟨y,r1⟩:=p;obtain ⟨v,rfl,hy,hcur,hg⟩:=h.some_ hn;have H1:=aH hy;have H2:=aH hcur;have H3:=aH hg;have H4:=aH hn;clear h hy hcur hg hn;go_wp2
  go_ret
  rw [H4.out];exact ⟨_,rfl,H1.out,H2.out,H3.out⟩
end Go.Proofs.YtkgncijcnlfhiaaGreat
