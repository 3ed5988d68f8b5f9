import Derived.Test.YtkgncijcnlfhiabGreatNm
import Derived.Test.YtkgncijcnlfhiabGreatNj
import Derived.Test.YtkgncijcnlfhiabGreatW4c
namespace Go.Proofs.YtkgncijcnlfhiabGreat
set_option maxRecDepth 100000
set_option maxHeartbeats 4000000
set_option linter.unusedVariables false
set_option linter.unusedSimpArgs false
open Go.RowKit
attribute [local go_sem ↓] Go.wp_at_zero Go.wp_at_succ
structure OU(B:Nat)(w:World)(v1 v2 v3 v5:Value)(O2:List (Value×List Int))(cs:List Int)(J1:List LF)(E3:List LX)(ρ:Nat->Rl):Prop where
 bs:B<=w.heap.size
 o1:Ow ρ .sh w B 24 1 v1 O2.length (O2.map (·.1))
 o1i:∀i e,O2[i]? =some e->Ow ρ (.sI i) w B 3 1 e.1 e.2.length (fP e.2)
 o2:Ow ρ .co w B 3 1 v2 cs.length (fP cs)
 o3:Ow ρ .fu w B 47 4 v3 J1.length (J1.flatMap cF)
 o3i:∀i e,J1[i]? =some e->Ow ρ (.fp i) w B 3 1 e.vp e.f.aF.length (fP e.f.aF)/\Ow ρ (.fl i) w B 3 1 e.vl e.f.aG.length (fP e.f.aG)/\Ow ρ (.fc i) w B 42 3 e.vc e.f.code.length (e.f.code.flatMap cC)
 o5:Ow ρ .ex w B 60 2 v5 E3.length (E3.flatMap cX)
theorem JA.ou{B ab:Nat}{w:World}{v1 v2 v3 v5:Value}{O2:List (Value×List Int)}{cs:List Int}{J1:List LF}{E3:List LX}{ρ:Nat->Rl}(h:JA B ab w v1 v2 v3 v5 O2 cs J1 E3 ρ):OU B w v1 v2 v3 v5 O2 cs J1 E3 ρ:=⟨h.bs,h.o1,h.o1i,h.o2,h.o3,h.o3i,h.o5⟩
theorem OU.mv{B:Nat}{w w':World}{v1 v2 v3 v5:Value}{O2:List (Value×List Int)}{cs:List Int}{J1:List LF}{E3:List LX}{ρ:Nat->Rl}(h:OU B w v1 v2 v3 v5 O2 cs J1 E3 ρ)(hs:w.heap.size<=w'.heap.size)(g:∀k,B<=k->k < w.heap.size->w'.heap[k]? =w.heap[k]?):OU B w' v1 v2 v3 v5 O2 cs J1 E3 ρ:=by
 have m:Mv B .bx w w' ρ ρ:=⟨hs,fun k hk hB=>⟨rfl,fun _=>g k hB hk⟩⟩;exact ⟨Nat.le_trans h.bs hs,h.o1.mv m nofun,fun i e he=>(h.o1i i e he).mv m nofun,h.o2.mv m nofun,h.o3.mv m nofun,fun i e he=>⟨(h.o3i i e he).1.mv m nofun,(h.o3i i e he).2.1.mv m nofun,(h.o3i i e he).2.2.mv m nofun⟩,h.o5.mv m nofun⟩
theorem iP{w:World}{B:Nat}{e:TypeId}{n len:Nat}{v:Value}{xs:List Value}(h:w.ownsRow B e n v len xs):len<=maxLen:=by
 rcases h.2 with ⟨_,rfl⟩|⟨g,cap,cur,_,_,_,h1,h2,_⟩
 · exact Nat.zero_le _
 · exact Nat.le_trans h1 h2
theorem dT{w:World}{B:Nat}{e:TypeId}{n len:Nat}{v:Value}{xs:List Value}(h:w.ownsRow B e n v len xs){j:Nat}(hj:j < len * n):∃b cap,v=.slice (some ⟨b,0,none⟩) len cap/\w.cell? ⟨b,j,none⟩=xs[j]? :=by
 rcases h.2 with ⟨_,h0⟩|⟨g,cap,cur,e1,e2,e3,e4,e5,e6,e7⟩
 · subst h0;omega
 · refine ⟨g,cap,e1,?_⟩;rw [aJ e3,<-e7,List.getElem?_take,if_pos hj,Array.getElem?_toList]
theorem lK{w:World}{B:Nat}{e:TypeId}{v:Value}{l:List Int}(h:w.ownsRow B e 1 v l.length (fP l)):aW w v l:=by
 obtain ⟨ao,cap,rfl⟩:=aL h;refine ⟨ao,cap,rfl,iP h,fun i hi=>?_⟩;obtain ⟨b,cp,e1,e2⟩:=dT h (j:=i) Q5;simp only [Value.slice.injEq,true_and] at e1;exact ⟨b,0,e1.1,by rw [Nat.zero_add,e2];simp [fP,hi,List.getD_eq_getElem?_getD]⟩
theorem wi{w:World}{B:Nat}{e:TypeId}{v:Value}{l:List aw}(h:w.ownsRow B e 3 v l.length (l.flatMap cC)):eH w v l:=by
 obtain ⟨ao,cap,rfl⟩:=aL h;refine ⟨ao,cap,rfl,iP h,fun i x hx=>?_⟩;have hi:i < l.length:=(List.getElem?_eq_some_iff.1 hx).1;obtain ⟨b,cp,e1,e2⟩:=dT h (j:=i * 3) Q5;obtain ⟨b',VW,Ni,Pv⟩:=dT h (j:=i * 3+1) Q5;obtain ⟨b'',cp'',Iy,WW⟩:=dT h (j:=i * 3+2) Q5;simp only [Value.slice.injEq,true_and] at e1 Ni Iy;obtain ⟨rfl,rfl⟩:=e1;simp only [Option.some.injEq,Addr.mk.injEq,and_true] at Ni Iy;obtain ⟨rfl,-⟩:=Ni;obtain ⟨rfl,-⟩:=Iy;refine ⟨b,0,rfl,?_,?_,?_⟩
 · rw [Nat.zero_add,e2];exact de jU l i 0 x hx Q5
 · rw [Nat.zero_add,Pv];exact de jU l i 1 x hx Q5
 · rw [Nat.zero_add,WW];exact de jU l i 2 x hx Q5
theorem OU.runit{B:Nat}{w:World}{v1 v2 v3 v5:Value}{O2:List (Value×List Int)}{cs:List Int}{J1:List LF}{E3:List LX}{ρ:Nat->Rl}(h:OU B w v1 v2 v3 v5 O2 cs J1 E3 ρ)(hx:∀e∈E3,e.s.size<=maxLen):cO w (.agg #[v1,v2,v3,.slice none 0 0,v5]) ⟨O2.map (·.2),cs,J1.map (·.f),[],E3.map (·.p)⟩:=by
 refine ⟨v1,v2,v3,.slice none 0 0,v5,rfl,?_,lK h.o2.1,?_,⟨none,0,rfl,Nat.zero_le _,fun i x hi=>by simp at hi⟩,?_⟩
 · obtain ⟨ao,cap,rfl⟩:=aL h.o1.1;refine ⟨ao,cap,Q6,by simpa using iP h.o1.1,fun i x hi=>?_⟩;simp only [List.getElem?_map,Option.map_eq_some_iff] at hi;obtain ⟨e,he,rfl⟩:=hi;have hl:i < O2.length:=(List.getElem?_eq_some_iff.1 he).1;obtain ⟨b,cp,e1,e2⟩:=dT h.o1.1 (j:=i) Q5;simp only [Value.slice.injEq,true_and] at e1;exact ⟨b,0,e.1,e1.1,by rw [Nat.zero_add,e2];simp [he],lK (h.o1i i e he).1⟩
 · obtain ⟨ao,cap,rfl⟩:=aL h.o3.1;refine ⟨ao,cap,Q6,by simpa using iP h.o3.1,fun i x hi=>?_⟩;simp only [List.getElem?_map,Option.map_eq_some_iff] at hi;obtain ⟨e,he,rfl⟩:=hi;have hl:i < J1.length:=(List.getElem?_eq_some_iff.1 he).1;obtain ⟨b,cp,e1,e2⟩:=dT h.o3.1 (j:=i * 4) Q5;simp only [Value.slice.injEq,true_and] at e1;obtain ⟨rfl,rfl⟩:=e1;have hc:∀r,r < 4->w.cell? ⟨b,0+i * 4+r,none⟩=(cF e)[r]? :=fun r hr=>by
    obtain ⟨b',VW,Ni,Pv⟩:=dT h.o3.1 (j:=i * 4+r) Q5;simp only [Value.slice.injEq,Option.some.injEq,Addr.mk.injEq,and_true,true_and] at Ni;obtain ⟨rfl,-⟩:=Ni;rw [Nat.zero_add,Pv];exact de ww J1 i r e he hr
   obtain ⟨p1,p2,p3⟩:=h.o3i i e he;exact ⟨b,0,e.vp,e.vl,e.vc,rfl,hc 0 Q5,hc 1 Q5,hc 2 Q5,hc 3 Q5,lK p1.1,lK p2.1,wi p3.1⟩
 · obtain ⟨ao,cap,rfl⟩:=aL h.o5.1;refine ⟨ao,cap,Q6,by simpa using iP h.o5.1,fun i x hi=>?_⟩;simp only [List.getElem?_map,Option.map_eq_some_iff] at hi;obtain ⟨e,he,rfl⟩:=hi;have hl:i < E3.length:=(List.getElem?_eq_some_iff.1 he).1;obtain ⟨b,cp,e1,e2⟩:=dT h.o5.1 (j:=i * 2) Q5;simp only [Value.slice.injEq,true_and] at e1;obtain ⟨rfl,rfl⟩:=e1;have hc:∀r,r < 2->w.cell? ⟨b,0+i * 2+r,none⟩=(cX e)[r]? :=fun r hr=>by
    obtain ⟨b',VW,Ni,Pv⟩:=dT h.o5.1 (j:=i * 2+r) Q5;simp only [Value.slice.injEq,Option.some.injEq,Addr.mk.injEq,and_true,true_and] at Ni;obtain ⟨rfl,-⟩:=Ni;rw [Nat.zero_add,Pv];exact de Al E3 i r e he hr
   exact ⟨b,0,.string e.s,rfl,hc 0 Q5,hc 1 Q5,e.s,rfl,rfl,hx e (List.mem_of_getElem? he)⟩
theorem nu(N:List UInt8->Int):∀(l:List aK) (c f:Nat),(dG N c f l).1.length=(l.map fun u=>u.aD.length).sum/\(dG N c f l).2.1.length=(l.map fun u=>u.aE.length).sum/\(dG N c f l).2.2.length=(l.map fun u=>u.aC.length).sum
 | [],c,f=>⟨rfl,rfl,rfl⟩
 | u :: l,c,f=>by
  obtain ⟨h1,h2,h3⟩:=nu N l (c+u.aD.length) (f+u.aE.length);simp only [dG,List.length_append,List.length_map,List.map_cons,List.sum_cons,h1,h2,h3,and_self]
theorem qN(N:List UInt8->Int)(l:List aK):nj l=!decide (30 < (dG N 0 0 l).2.1.length\/50 < (dG N 0 0 l).1.length\/20 < (dG N 0 0 l).2.2.length):=by
 obtain ⟨h1,h2,h3⟩:=nu N l 0 0;rw [h1,h2,h3];unfold nj dy kh kU;rw [List.take_length];rw [Bool.eq_iff_iff];simp
theorem wW(l:List aK):kP (h_ 0 l fun _=>none)=tgtN l:=by funext n;rfl
open Go.RowKit
attribute [local go_sem ↓] Go.wp_at_zero Go.wp_at_succ
theorem mB(N:List UInt8->Int):∀(l:List aK) (c f:Nat),∀e∈(dG N c f l).2.2,∃u∈l,∃x∈u.aC,e.name=x.name
 | [],c,f,e,h=>by simp [dG] at h
 | u :: l,c,f,e,h=>by
  simp only [dG,List.mem_append,List.mem_map] at h;rcases h with ⟨x,hx,rfl⟩|h
  · exact ⟨u,List.mem_cons_self,x,hx,rfl⟩
  · obtain ⟨u',hu,x,hx,e1⟩:=mB N l _ _ e h;exact ⟨u',List.mem_cons_of_mem _ hu,x,hx,e1⟩
def j_(C:Nat)(w:World)(v:Value)(u:aK):Prop:=∃v1 v2 v3 v5 O2 cs J1 E3 ρ B,v=.agg #[v1,v2,v3,.slice none 0 0,v5]/\C<=B/\OU B w v1 v2 v3 v5 O2 cs J1 E3 ρ/\u=⟨O2.map (·.2),cs,J1.map (·.f),[],E3.map (·.p)⟩/\∀e∈E3,e.s.size<=maxLen
theorem j_.runit{C:Nat}{w:World}{v:Value}{u:aK}(h:j_ C w v u):cO w v u:=by
 obtain ⟨v1,v2,v3,v5,O2,cs,J1,E3,ρ,B,rfl,_,ho,rfl,hx⟩:=h;exact ho.runit hx
theorem j_.mv{C:Nat}{w w':World}{v:Value}{u:aK}(h:j_ C w v u)(hs:w.heap.size<=w'.heap.size)(g:∀k,C<=k->k < w.heap.size->w'.heap[k]? =w.heap[k]?):j_ C w' v u:=by
 obtain ⟨v1,v2,v3,v5,O2,cs,J1,E3,ρ,B,e1,hb,ho,e2,hx⟩:=h;exact ⟨v1,v2,v3,v5,O2,cs,J1,E3,ρ,B,e1,hb,ho.mv hs (fun k hk hl=>g k (Nat.le_trans hb hk) hl),e2,hx⟩
theorem j_.slices{C:Nat}{w:World}{v:Value}{u:aK}(h:j_ C w v u):∃a1 a2 a3 a5 n1 n2 n3 n5 c1 c2 c3 c5,v=.agg #[.slice a1 n1 c1,.slice a2 n2 c2,.slice a3 n3 c3,.slice none 0 0,.slice a5 n5 c5]:=by
 obtain ⟨v1,v2,v3,v5,O2,cs,J1,E3,ρ,B,rfl,_,ho,_⟩:=h;obtain ⟨a1,c1,rfl⟩:=aL ho.o1.1;obtain ⟨a2,c2,rfl⟩:=aL ho.o2.1;obtain ⟨a3,c3,rfl⟩:=aL ho.o3.1;obtain ⟨a5,c5,rfl⟩:=aL ho.o5.1;exact ⟨_,_,_,_,_,_,_,_,_,_,_,_,rfl⟩
def AZ(W:World)(l:List aK)(x:Ending)(w':World):Prop:=Gr W w'/\((∃v u,cR l=.inl u/\x=.returned v/\j_ W.heap.size w' v u)\/∃(e:Int) (k:Nat),cR l=.inr (e,k)/\x=.panicked (dM e (k:Int)))
theorem Tryz.callWf(vu vr:Value)(w:World):(callFunc 31 (#[]++(#[vu,vr]++#[]))).run Tryz.prog w=.ok (.enter 31 (#[]++(#[vu,vr]++#[]))) w:=Q7
theorem Tryz.callU1(vu vr v1:Value)(w:World):(callFunc 81 (#[]++(#[vu,vr]++#[v1]))).run Tryz.prog w=.ok (.enter 81 (#[]++(#[vu,vr]++#[v1]))) w:=Q7
theorem Tryz.callTh(v1 vu vr:Value)(w:World):(callFunc 85 (#[v1]++(#[vu,vr]++#[]))).run Tryz.prog w=.ok (.enter 85 (#[v1]++(#[vu,vr]++#[]))) w:=Q7
theorem Tryz.callAl(v1 vu vr:Value)(w:World):(callFunc 86 (#[v1]++(#[vu,vr]++#[]))).run Tryz.prog w=.ok (.enter 86 (#[v1]++(#[vu,vr]++#[]))) w:=Q7
theorem uf{α:Type}{p:α->Bool}{l:List α}(h:(l.any fun x=>!p x)=false):∀x∈l,p x=true:=by
 intro x hx;cases hp:p x with
 | true=>rfl
 | false=>
  have:(l.any fun x=>!p x)=true:=List.any_eq_true.2 ⟨x,hx,by simp [hp]⟩
  rw [h] at this;cases this
theorem vL(W:World)(l:List aK)(vl:Value)(hR:eS W vl l):Calls Tryz.prog 48 #[vl] W (AZ W l):=by
 have Kf:∀(fn:Fn) (first cap:Array Value) (w:World),(Instr.makeFunc fn first cap).run Tryz.prog w=.ok (.func fn first cap) w:=fun _ _ _ _=>rfl
 obtain ⟨al,cl,rfl⟩:=hR.shape;have hm:l.length<=maxLen:=by obtain ⟨_,_,_,hm,_⟩:=hR;exact hm
 unfold maxLen at hm;have g1:Gr W ((W.alloc (.cells #[.slice al l.length cl] 23)).alloc (.cells #[.slice none 0 0,.slice none 0 0,.slice none 0 0,.slice none 0 0,.slice none 0 0] 29)):=((Gr.refl W).alloc _).alloc _;have D4:=heap_alloc_new W (.cells #[.slice al l.length cl] 23);have Y0:=heap_alloc_new (W.alloc (.cells #[.slice al l.length cl] 23)) (.cells #[.slice none 0 0,.slice none 0 0,.slice none 0 0,.slice none 0 0,.slice none 0 0] 29);have s1:(W.alloc (.cells #[.slice al l.length cl] 23)).heap.size=W.heap.size+1:=Q6
 have s2:((W.alloc (.cells #[.slice al l.length cl] 23)).alloc (.cells #[.slice none 0 0,.slice none 0 0,.slice none 0 0,.slice none 0 0,.slice none 0 0] 29)).heap.size=W.heap.size+2:=Q6
 rw [s1] at Y0;have H6:Hid (((W.alloc (.cells #[.slice al l.length cl] 23)).alloc (.cells #[.slice none 0 0,.slice none 0 0,.slice none 0 0,.slice none 0 0,.slice none 0 0] 29)).cell? ⟨W.heap.size,0,none⟩=some (.slice al l.length cl)):=aH (((Gr.refl _).alloc _:Gr _ _).cell (by rw [aJ D4];rfl) Q6);have S6:=aH Y0;have I1:=aH g1;have HR:=aH hR;have F':=aH s2;clear hR D4 Y0 s1 s2 g1;by_cases hc:1<=l.length/\l.length<=6
 · obtain ⟨Ib,G9⟩:=hc;obtain ⟨h0,t,J0⟩:∃h t,l=h :: t:=by
    cases l with
    | nil=>simp at Ib
    | cons h t=>exact ⟨h,t,rfl⟩
   have Zb:Hid (l[0]? =some h0):=aH (by rw [J0];rfl);have Vk:Hid (cR l=match dm (fun u=>!ai u) 0 l with
    | some k=>.inr (1,k)
    | none=>match dm (fun u=>!decide (u.aA=h0.aA)) 0 l with
    | some k=>.inr (5,k)
    | none=>match ji [] 0 l with
    | some k=>.inr (6,k)
    | none=>match dm (fun u=>u.aB.any fun i=>!(h_ 0 l (fun _=>none) i.name).isSome) 0 l with
    | some k=>.inr (7,k)
    | none=>match dm (fun u=>u.aB.any fun i=>!jM (h_ 0 l fun _=>none) i) 0 l with
    | some k=>.inr (8,k)
    | none=>if 30 < (dG (tgtN l) 0 0 l).2.1.length\/50 < (dG (tgtN l) 0 0 l).1.length\/20 < (dG (tgtN l) 0 0 l).2.2.length then .inr (9,0) else .inl ⟨h0.aA,(dG (tgtN l) 0 0 l).1,(dG (tgtN l) 0 0 l).2.1,[],(dG (tgtN l) 0 0 l).2.2⟩):=aH (by
    subst J0;rw [cR,if_neg (by simp at G9 |-;omega)];rfl)
   clear J0;have i1:(1:Int)<=(l.length:Int):=Q5
   have i6:(l.length:Int)<=6:=Q5
   obtain ⟨ao,cap,he,_,hcu⟩:=HR.out;simp only [Value.slice.injEq,true_and] at he;obtain ⟨rfl,rfl⟩:=he;obtain ⟨b0,Ki,x1,x2,x3,x4,x5,rfl,q1,_,_,_,_,EH⟩:=hcu 0 h0 Zb.out;simp only [Nat.zero_mul,Nat.add_zero] at q1;obtain ⟨sa,_,_,_,_,sc,_,_,_,_,he,rs,_⟩:=EH.parts;simp only [Value.agg.injEq,Array.mk.injEq,List.cons.injEq,and_true] at he;obtain ⟨rfl,-,-,-,-⟩:=he;have J4:=aH q1;have Ea:=aH rs;have c0:=H6.out;clear q1 rs EH hcu;go_enter Tryz.func48,Tryz.ntmps48
   go_wp2_with fail
   generalize (W.alloc (.cells #[.slice (some ⟨b0,Ki,none⟩) l.length cl] 23)).alloc (.cells #[.slice none 0 0,.slice none 0 0,.slice none 0 0,.slice none 0 0,.slice none 0 0] 29)=V1 at H6 S6 I1 F' c0 |-;refine (aP _ _ _).mono ?_;rintro z w2 ⟨rfl,E0⟩;have O0:=aH E0;have c2:=E0.cell c0 Q6;clear c0 E0 i1 i6;go_wp2_with fail
   refine (jd 31 #[] #[] (fun vu vr w=>Tryz.callWf vu vr w) 1 l (.slice (some ⟨b0,Ki,none⟩) l.length cl) (fun _ u=>!ai u) (fun _ V=>Gr w2 V) (fun V=>Gr w2 V) w2 w2 (HR.out.gr (I1.out.trans O0.out)) (fun k V h=>h) (fun k V V' h g=>h.trans g) (Gr.refl _) (wM w2 l) Q5 ⟨_,_,rfl⟩).mono ?_;intro x w3 hx;rw [iY] at hx;cases hf:dm (fun u=>!ai u) 0 l with
   | some k=>
    rw [hf] at hx;obtain ⟨rfl,hb⟩:=hx;exact ⟨rfl,I1.out.trans (O0.out.trans hb),.inr ⟨1,k,by rw [Vk.out,hf],rfl⟩⟩
   | none=>
   rw [hf] at hx;obtain ⟨rfl,P0⟩:=hx;have M8:Hid (∀u∈l,ai u=true):=aH (fun u hu=>by have:=(jg l 0).1 hf u hu;simpa using this);have Oh:=aH hf;have HG3:=aH (O0.out.trans P0);have c3:=P0.cell c2 Q6;clear c2 P0 hf;go_wp2_with fail
   refine (jd 81 #[] #[.pointer (some ⟨W.heap.size,0,none⟩)] (fun vu vr w=>Tryz.callU1 vu vr _ w) 5 l (.slice (some ⟨b0,Ki,none⟩) l.length cl) (fun _ u=>!decide (u.aA=h0.aA)) (fun _ V=>Gr w3 V) (fun V=>Gr w3 V) w3 w3 (HR.out.gr (I1.out.trans HG3.out)) (fun k V h=>h) (fun k V V' h g=>h.trans g) (Gr.refl _) (sT w3 l W.heap.size b0 Ki l.length cl sa sc h0.aA ⟨c3,(I1.out.trans HG3.out).cell J4.out Q6,Ea.out.gr (I1.out.trans HG3.out),Q5⟩) Q5 ⟨_,_,rfl⟩).mono ?_;intro x w4 hx;rw [iY] at hx;cases hf:dm (fun u=>!decide (u.aA=h0.aA)) 0 l with
   | some k=>
    rw [hf] at hx;obtain ⟨rfl,hb⟩:=hx;exact ⟨rfl,I1.out.trans (HG3.out.trans hb),.inr ⟨5,k,by rw [Vk.out,Oh.out,hf],rfl⟩⟩
   | none=>
   rw [hf] at hx;obtain ⟨rfl,T4⟩:=hx;have Dc:=aH hf;have O1:=aH (HG3.out.trans T4);have c4:=T4.cell c3 Q6;clear c3 T4 hf;go_wp2_with fail
   refine (oo w4 l _ (HR.out.gr (I1.out.trans O1.out)) G9 M8.out).mono ?_;rintro x w5 ⟨P1,hx⟩;cases hf:ji [] 0 l with
   | some k=>
    rw [hf] at hx;obtain rfl:=hx;exact ⟨rfl,I1.out.trans (O1.out.trans P1),.inr ⟨6,k,by rw [Vk.out,Oh.out,Dc.out,hf],rfl⟩⟩
   | none=>
   rw [hf] at hx;obtain ⟨mb,nn,rfl,PC⟩:=hx;have Wc:=aH hf;have XW:=aH PC;have Jy:=aH P1;have T5:=aH (O1.out.trans P1);have c5:=P1.cell c4 Q6;clear c4 P1 hf PC;go_wp2_with fail
   refine (jd 85 #[.map (some mb)] #[] (fun vu vr w=>Tryz.callTh _ vu vr w) 7 l (.slice (some ⟨b0,Ki,none⟩) l.length cl) (fun _ u=>u.aB.any fun i=>!(h_ 0 l (fun _=>none) i.name).isSome) (fun _ V=>Gr w5 V) (fun V=>Gr w5 V) w5 w5 (HR.out.gr (I1.out.trans T5.out)) (fun k V h=>h) (fun k V V' h g=>h.trans g) (Gr.refl _) (uh w5 l mb nn _ w4 Jy.out XW.out) Q5 ⟨_,_,rfl⟩).mono ?_;intro x w6 hx;rw [iY] at hx;cases hf:dm (fun u=>u.aB.any fun i=>!(h_ 0 l (fun _=>none) i.name).isSome) 0 l with
   | some k=>
    rw [hf] at hx;obtain ⟨rfl,hb⟩:=hx;exact ⟨rfl,I1.out.trans (T5.out.trans hb),.inr ⟨7,k,by rw [Vk.out,Oh.out,Dc.out,Wc.out,hf],rfl⟩⟩
   | none=>
   rw [hf] at hx;obtain ⟨rfl,P2⟩:=hx;have EG:Hid (∀u∈l,∀i∈u.aB,(h_ 0 l (fun _=>none) i.name).isSome=true):=aH (fun u hu=>uf ((jg l 0).1 hf u hu));have Cr:=aH hf;have Ky:=aH (Jy.out.trans P2);have Ly:=aH (XW.out.gr P2);have Wa:=aH (T5.out.trans P2);have c6:=P2.cell c5 Q6;clear c5 P2 hf XW Jy;go_wp2_with fail
   refine (jd 86 #[.map (some mb)] #[] (fun vu vr w=>Tryz.callAl _ vu vr w) 8 l (.slice (some ⟨b0,Ki,none⟩) l.length cl) (fun _ u=>u.aB.any fun i=>!jM (h_ 0 l fun _=>none) i) (fun _ V=>Gr w6 V) (fun V=>Gr w6 V) w6 w6 (HR.out.gr (I1.out.trans Wa.out)) (fun k V h=>h) (fun k V V' h g=>h.trans g) (Gr.refl _) (vI w6 l mb nn _ w4 Ky.out Ly.out EG.out) Q5 ⟨_,_,rfl⟩).mono ?_;intro x w7 hx;rw [iY] at hx;cases hf:dm (fun u=>u.aB.any fun i=>!jM (h_ 0 l fun _=>none) i) 0 l with
   | some k=>
    rw [hf] at hx;obtain ⟨rfl,hb⟩:=hx;exact ⟨rfl,I1.out.trans (Wa.out.trans hb),.inr ⟨8,k,by rw [Vk.out,Oh.out,Dc.out,Wc.out,Cr.out,hf],rfl⟩⟩
   | none=>
   rw [hf] at hx;obtain ⟨rfl,Qv⟩:=hx;have QC:=aH hf;have FH:=aH (Ky.out.trans Qv);have GH:=aH (Ly.out.gr Qv);have Rv:=aH (Wa.out.trans Qv);have c7:=Qv.cell c6 Q6;clear c6 Qv hf Ly Ky;go_wp2_with fail
   refine (ze w7 l _ (HR.out.gr (I1.out.trans Rv.out)) G9 M8.out).mono ?_;rintro x w8 ⟨rfl,Wo⟩;cases Wk:nj l with
   | false=>
    have YW:Hid (cR l=.inr (9,0)):=aH (by
     have:=qN (tgtN l) l
     rw [Wk] at this;rw [Vk.out,Oh.out,Dc.out,Wc.out,Cr.out,QC.out];exact if_pos (by
      have h2:=this.symm;rw [Bool.not_eq_false',decide_eq_true_eq] at h2;exact h2))
    clear Wk c7;go_wp2_with fail
    refine (aV _ _ _).mono ?_;rintro z w9 ⟨rfl,Oi⟩;exact ⟨rfl,I1.out.trans (Rv.out.trans (Wo.trans Oi)),.inr ⟨9,0,YW.out,rfl⟩⟩
   | true=>
    have YW:Hid (cR l=.inl ⟨h0.aA,(dG (tgtN l) 0 0 l).1,(dG (tgtN l) 0 0 l).2.1,[],(dG (tgtN l) 0 0 l).2.2⟩):=aH (by
     have:=qN (tgtN l) l
     rw [Wk] at this;rw [Vk.out,Oh.out,Dc.out,Wc.out,Cr.out,QC.out];exact if_neg (by simpa using this.symm))
    have GQ:=aH Wo;have c8:=Wo.cell c7 Q6;clear Wk c7 Wo;go_wp2_with fail
    refine (aP _ _ _).mono ?_;rintro z w9 ⟨rfl,Oi⟩;have ZW:=aH (FH.out.trans (GQ.out.trans Oi));have DX:=aH (GH.out.gr (GQ.out.trans Oi));have EX:=aH (Rv.out.trans (GQ.out.trans Oi));have c9:=Oi.cell c8 Q6;clear c8 Oi GH FH GQ;go_wp2_with fail
    refine (ri w4 w9 l h0 _ mb nn _ Zb.out (HR.out.gr (I1.out.trans O1.out)) ZW.out DX.out G9 M8.out).mono ?_;rintro x Qf ⟨v1,v2,v3,v5,O2,cs,J1,E3,ρ,B,ab,rfl,G5,hJ,N4,Qo,My⟩;obtain ⟨Jd,Yb,rfl⟩:=aL hJ.o1.1;obtain ⟨Lh,Pf,rfl⟩:=aL hJ.o2.1;obtain ⟨N_,R_,rfl⟩:=aL hJ.o3.1;obtain ⟨P_,D_,rfl⟩:=aL hJ.o5.1;have T3:=((EX.out.trans My).block (W.heap.size+1) (by have:=F'.out;omega) Q6).trans S6.out;have p0:Qf.cell? ⟨W.heap.size+1,0,none⟩=some (.slice none 0 0):=by rw [aJ T3];rfl
    have p1:Qf.cell? ⟨W.heap.size+1,1,none⟩=some (.slice none 0 0):=by rw [aJ T3];rfl
    have p2:Qf.cell? ⟨W.heap.size+1,2,none⟩=some (.slice none 0 0):=by rw [aJ T3];rfl
    have p3:Qf.cell? ⟨W.heap.size+1,3,none⟩=some (.slice none 0 0):=by rw [aJ T3];rfl
    have p4:Qf.cell? ⟨W.heap.size+1,4,none⟩=some (.slice none 0 0):=by rw [aJ T3];rfl
    have z0:Qf.frozen? ⟨W.heap.size+1,0,none⟩=false:=aS T3;have z1:Qf.frozen? ⟨W.heap.size+1,1,none⟩=false:=aS T3;have z2:Qf.frozen? ⟨W.heap.size+1,2,none⟩=false:=aS T3;have z3:Qf.frozen? ⟨W.heap.size+1,3,none⟩=false:=aS T3;have z4:Qf.frozen? ⟨W.heap.size+1,4,none⟩=false:=aS T3;have R6:=aH T3;have HJ:=aH hJ;have Vb:=aH N4;have ZP:=aH Qo;have FX:=aH (EX.out.trans My);have hB1:W.heap.size+2<=ab:=by have:=EX.out.size;have:=F'.out;omega
    clear T3 hJ N4 Qo My c9 G5;go_wp2_with fail
    rw [qm];have hwf:∀q,¬q=W.heap.size+1->(ev Qf (W.heap.size+1) (.slice Jd O2.length Yb) (.slice Lh cs.length Pf) (.slice N_ J1.length R_) (.slice none 0 0) (.slice P_ E3.length D_)).heap[q]? =Qf.heap[q]? :=fun q hq=>en hq
    have M1:=kV (y0:=.slice Jd O2.length Yb) (y1:=.slice Lh cs.length Pf) (y2:=.slice N_ J1.length R_) (y3:=.slice none 0 0) (y4:=.slice P_ E3.length D_) R6.out;have Y':(ev Qf (W.heap.size+1) (.slice Jd O2.length Yb) (.slice Lh cs.length Pf) (.slice N_ J1.length R_) (.slice none 0 0) (.slice P_ E3.length D_)).heap.size=Qf.heap.size:=by unfold ev;simp
    have E':=I1.out.trans FX.out;have O9:Gr W (ev Qf (W.heap.size+1) (.slice Jd O2.length Yb) (.slice Lh cs.length Pf) (.slice N_ J1.length R_) (.slice none 0 0) (.slice P_ E3.length D_)):=⟨E'.os,E'.tape,E'.output,by rw [Y'];exact E'.size,fun i hi hne=>(hwf i Q5).trans (E'.block i hi hne)⟩;generalize ev Qf (W.heap.size+1) (.slice Jd O2.length Yb) (.slice Lh cs.length Pf) (.slice N_ J1.length R_) (.slice none 0 0) (.slice P_ E3.length D_)=WE at hwf M1 Y' O9 |-;have t0:WE.cell? ⟨W.heap.size+1,0,none⟩=some (.slice Jd O2.length Yb):=by rw [aJ M1];rfl
    have t1:WE.cell? ⟨W.heap.size+1,1,none⟩=some (.slice Lh cs.length Pf):=by rw [aJ M1];rfl
    have t2:WE.cell? ⟨W.heap.size+1,2,none⟩=some (.slice N_ J1.length R_):=by rw [aJ M1];rfl
    have t3:WE.cell? ⟨W.heap.size+1,3,none⟩=some (.slice none 0 0):=by rw [aJ M1];rfl
    have t4:WE.cell? ⟨W.heap.size+1,4,none⟩=some (.slice P_ E3.length D_):=by rw [aJ M1];rfl
    refine bodyPost_ret (v:=.agg #[.slice Jd O2.length Yb,.slice Lh cs.length Pf,.slice N_ J1.length R_,.slice none 0 0,.slice P_ E3.length D_]) (by simp [results,Tryz.results48,go_sem,t0,t1,t2,t3,t4]) rfl ?_;have Qo:=ZP.out;rw [wW] at Qo;have j1:=congrArg (·.1) Qo;have j2:=congrArg (·.2.1) Qo;have j3:=congrArg (·.2.2) Qo;simp only at j1 j2 j3;have Mt:=HJ.out.ab;refine ⟨O9,.inl ⟨_,_,YW.out,rfl,⟨_,_,_,_,O2,cs,J1,E3,ρ,B,rfl,Q5,(HJ.out.keep (rb:=W.heap.size+1) Q5 hwf Q5 Q5).ou,?_,?_⟩⟩⟩
    · rw [Vb.out,j1,j2,j3]
    · intro e he;have hm:e.p∈(dG (tgtN l) 0 0 l).2.2:=by rw [<-j3];exact List.mem_map_of_mem he
      obtain ⟨u,hu,x,hx,ex⟩:=mB _ _ _ _ _ hm;have:=rA (M8.out u hu) hx
      rw [<-ex] at this;have e2:e.p.name.length=e.s.size:=by show e.s.data.toList.length=e.s.size;rw [Array.length_toList];rfl
      unfold maxLen;omega
 · have Vk:Hid (cR l=.inr (4,0)):=aH (by
    cases l with
    | nil=>rfl
    | cons h t=>rw [cR,if_pos (by simp at hc |-;omega)])
   have c0:=H6.out;by_cases h1:1<=l.length
   · have i1:(1:Int)<=(l.length:Int):=by omega
     have n6:¬l.length<=6:=fun e=>hc ⟨h1,e⟩
     have i6:¬(l.length:Int)<=6:=Q5
     have d6:decide ((l.length:Int)<=6)=false:=by simpa using i6
     clear hc;go_enter Tryz.func48,Tryz.ntmps48
     go_wp2_with fail
     refine (aV _ _ _).mono ?_;rintro z w2 ⟨rfl,E0⟩;exact ⟨rfl,I1.out.trans E0,.inr ⟨4,0,Vk.out,rfl⟩⟩
   · have i1:¬(1:Int)<=(l.length:Int):=by omega
     have d1:decide ((1:Int)<=(l.length:Int))=false:=by simpa using i1
     clear hc;go_enter Tryz.func48,Tryz.ntmps48
     go_wp2_with fail
     refine (aV _ _ _).mono ?_;rintro z w2 ⟨rfl,E0⟩;exact ⟨rfl,I1.out.trans E0,.inr ⟨4,0,Vk.out,rfl⟩⟩
open Go.RowKit
def be(B:Nat)(w:World)(v:Value)(l:List Int):Prop:=
 ∃ao cap,v=.slice ao l.length cap/\l.length<=maxLen/\∀i y,l[i]? =some y->∃b off,ao=some ⟨b,off,none⟩/\B<=b/\w.cell? ⟨b,off+i,none⟩=some (.int .i64 y)
def cW(B:Nat)(w:World)(v:Value)(l:List (List Int)):Prop:=
 ∃ao cap,v=.slice ao l.length cap/\l.length<=maxLen/\∀i x,l[i]? =some x->∃b off vx,ao=some ⟨b,off,none⟩/\B<=b/\w.cell? ⟨b,off+i,none⟩=some vx/\be B w vx x
def ea(B:Nat)(w:World)(v:Value)(l:List aw):Prop:=
 ∃ao cap,v=.slice ao l.length cap/\l.length<=maxLen/\∀i x,l[i]? =some x->∃b off,ao=some ⟨b,off,none⟩/\B<=b/\
  w.cell? ⟨b,off+i * 3,none⟩=some (.int .i64 x.op)/\w.cell? ⟨b,off+i * 3+1,none⟩=some (.int .i64 x.a)/\w.cell? ⟨b,off+i * 3+2,none⟩=some (.int .i64 x.b)
def dR(B:Nat)(w:World)(v:Value)(l:List aO):Prop:=
 ∃ao cap,v=.slice ao l.length cap/\l.length<=maxLen/\∀i x,l[i]? =some x->∃b off vp vl vc,ao=some ⟨b,off,none⟩/\B<=b/\
  w.cell? ⟨b,off+i * 4,none⟩=some vp/\w.cell? ⟨b,off+i * 4+1,none⟩=some (.int .i64 x.result)/\w.cell? ⟨b,off+i * 4+2,none⟩=some vl/\w.cell? ⟨b,off+i * 4+3,none⟩=some vc/\
  be B w vp x.aF/\be B w vl x.aG/\ea B w vc x.code
def b6(B:Nat)(w:World)(v:Value)(l:List fK):Prop:=
 ∃ao cap,v=.slice ao l.length cap/\l.length<=maxLen/\∀i x,l[i]? =some x->∃b off vs vp,ao=some ⟨b,off,none⟩/\B<=b/\
  w.cell? ⟨b,off+i * 3,none⟩=some vs/\w.cell? ⟨b,off+i * 3+1,none⟩=some vp/\w.cell? ⟨b,off+i * 3+2,none⟩=some (.int .i64 x.result)/\
  ei vs x.name/\be B w vp x.aF
def bz(B:Nat)(w:World)(v:Value)(l:List dq):Prop:=
 ∃ao cap,v=.slice ao l.length cap/\l.length<=maxLen/\∀i x,l[i]? =some x->∃b off vs,ao=some ⟨b,off,none⟩/\B<=b/\
  w.cell? ⟨b,off+i * 2,none⟩=some vs/\w.cell? ⟨b,off+i * 2+1,none⟩=some (.int .i64 x.func)/\ei vs x.name
def Kp(B:Nat)(w w':World):Prop:=∀k,B<=k->k < w.heap.size->w'.heap[k]? =w.heap[k]?
theorem Kp.cell{B:Nat}{w w':World}(h:Kp B w w'){b o:Nat}{x:Value}(hb:B<=b)(hx:w.cell? ⟨b,o,none⟩=some x):w'.cell? ⟨b,o,none⟩=some x:=
 (World.cell?_of_block (a:=⟨b,o,none⟩) (h b hb (World.block_lt_of_cell? w _ hx))).trans hx
theorem Kp.mono{B B':Nat}{w w':World}(h:Kp B w w')(hB:B<=B'):Kp B' w w':=fun k h1 h2=>h k (Nat.le_trans hB h1) h2
theorem Gc.kp{cb B:Nat}{w w':World}(h:Gc cb w w')(hb:cb < B):Kp B w w':=fun k h1 h2=>h.block k h2 (by intro e;simp only [Option.some.injEq] at e;omega)
theorem Kp.set{B g o:Nat}{w:World}(v:Value)(hg:g < B):Kp B w (w.setCell ⟨g,o,none⟩ v):=fun k h1 _=>Below.heap_setCell _ _ _ _ (by show k≠g;omega)
theorem Gr.kp{B:Nat}{w w':World}(h:Gr w w'):Kp B w w':=fun k _ h2=>h.block k h2 Q6
theorem be.kp{B:Nat}{w w':World}{v:Value}{l:List Int}(h:be B w v l)(g:Kp B w w'):be B w' v l:=by
 obtain ⟨ao,cap,hv,hm,hc⟩:=h;refine ⟨ao,cap,hv,hm,fun i x hi=>?_⟩;obtain ⟨b,off,h1,h2,h3⟩:=hc i x hi;exact ⟨b,off,h1,h2,g.cell h2 h3⟩
theorem ea.kp{B:Nat}{w w':World}{v:Value}{l:List aw}(h:ea B w v l)(g:Kp B w w'):ea B w' v l:=by
 obtain ⟨ao,cap,hv,hm,hc⟩:=h;refine ⟨ao,cap,hv,hm,fun i x hi=>?_⟩;obtain ⟨b,off,h1,h2,h3,h4,h5⟩:=hc i x hi;exact ⟨b,off,h1,h2,g.cell h2 h3,g.cell h2 h4,g.cell h2 h5⟩
theorem cW.kp{B:Nat}{w w':World}{v:Value}{l:List (List Int)}(h:cW B w v l)(g:Kp B w w'):cW B w' v l:=by
 obtain ⟨ao,cap,hv,hm,hc⟩:=h;refine ⟨ao,cap,hv,hm,fun i x hi=>?_⟩;obtain ⟨b,off,vx,h1,h2,h3,h4⟩:=hc i x hi;exact ⟨b,off,vx,h1,h2,g.cell h2 h3,h4.kp g⟩
theorem dR.kp{B:Nat}{w w':World}{v:Value}{l:List aO}(h:dR B w v l)(g:Kp B w w'):dR B w' v l:=by
 obtain ⟨ao,cap,hv,hm,hc⟩:=h;refine ⟨ao,cap,hv,hm,fun i x hi=>?_⟩;obtain ⟨b,off,vp,vl,vc,h1,h2,h3,h4,h5,h6,h7,h8,h9⟩:=hc i x hi;exact ⟨b,off,vp,vl,vc,h1,h2,g.cell h2 h3,g.cell h2 h4,g.cell h2 h5,g.cell h2 h6,h7.kp g,h8.kp g,h9.kp g⟩
theorem b6.kp{B:Nat}{w w':World}{v:Value}{l:List fK}(h:b6 B w v l)(g:Kp B w w'):b6 B w' v l:=by
 obtain ⟨ao,cap,hv,hm,hc⟩:=h;refine ⟨ao,cap,hv,hm,fun i x hi=>?_⟩;obtain ⟨b,off,vs,vp,h1,h2,h3,h4,h5,h6,h7⟩:=hc i x hi;exact ⟨b,off,vs,vp,h1,h2,g.cell h2 h3,g.cell h2 h4,g.cell h2 h5,h6,h7.kp g⟩
theorem bz.kp{B:Nat}{w w':World}{v:Value}{l:List dq}(h:bz B w v l)(g:Kp B w w'):bz B w' v l:=by
 obtain ⟨ao,cap,hv,hm,hc⟩:=h;refine ⟨ao,cap,hv,hm,fun i x hi=>?_⟩;obtain ⟨b,off,vs,h1,h2,h3,h4,h5⟩:=hc i x hi;exact ⟨b,off,vs,h1,h2,g.cell h2 h3,g.cell h2 h4,h5⟩
theorem be.mono{B B':Nat}{w:World}{v:Value}{l:List Int}(h:be B' w v l)(hB:B<=B'):be B w v l:=by
 obtain ⟨ao,cap,hv,hm,hc⟩:=h;refine ⟨ao,cap,hv,hm,fun i x hi=>?_⟩;obtain ⟨b,off,h1,h2,h3⟩:=hc i x hi;exact ⟨b,off,h1,Nat.le_trans hB h2,h3⟩
theorem ea.mono{B B':Nat}{w:World}{v:Value}{l:List aw}(h:ea B' w v l)(hB:B<=B'):ea B w v l:=by
 obtain ⟨ao,cap,hv,hm,hc⟩:=h;refine ⟨ao,cap,hv,hm,fun i x hi=>?_⟩;obtain ⟨b,off,h1,h2,h3⟩:=hc i x hi;exact ⟨b,off,h1,Nat.le_trans hB h2,h3⟩
theorem be.to{B:Nat}{w:World}{v:Value}{l:List Int}(h:be B w v l):aW w v l:=by
 obtain ⟨ao,cap,hv,hm,hc⟩:=h;refine ⟨ao,cap,hv,hm,fun i hi=>?_⟩;obtain ⟨b,off,h1,h2,h3⟩:=hc i l[i] (List.getElem?_eq_getElem hi);exact ⟨b,off,h1,by rw [h3];simp [List.getD_eq_getElem?_getD,hi]⟩
theorem ea.to{B:Nat}{w:World}{v:Value}{l:List aw}(h:ea B w v l):eH w v l:=by
 obtain ⟨ao,cap,hv,hm,hc⟩:=h;refine ⟨ao,cap,hv,hm,fun i x hi=>?_⟩;obtain ⟨b,off,h1,h2,h3⟩:=hc i x hi;exact ⟨b,off,h1,h3⟩
theorem cW.to{B:Nat}{w:World}{v:Value}{l:List (List Int)}(h:cW B w v l):bM w v l:=by
 obtain ⟨ao,cap,hv,hm,hc⟩:=h;refine ⟨ao,cap,hv,hm,fun i x hi=>?_⟩;obtain ⟨b,off,vx,h1,h2,h3,h4⟩:=hc i x hi;exact ⟨b,off,vx,h1,h3,h4.to⟩
theorem dR.to{B:Nat}{w:World}{v:Value}{l:List aO}(h:dR B w v l):dH w v l:=by
 obtain ⟨ao,cap,hv,hm,hc⟩:=h;refine ⟨ao,cap,hv,hm,fun i x hi=>?_⟩;obtain ⟨b,off,vp,vl,vc,h1,h2,h3,h4,h5,h6,h7,h8,h9⟩:=hc i x hi;exact ⟨b,off,vp,vl,vc,h1,h3,h4,h5,h6,h7.to,h8.to,h9.to⟩
theorem b6.to{B:Nat}{w:World}{v:Value}{l:List fK}(h:b6 B w v l):bo w v l:=by
 obtain ⟨ao,cap,hv,hm,hc⟩:=h;refine ⟨ao,cap,hv,hm,fun i x hi=>?_⟩;obtain ⟨b,off,vs,vp,h1,h2,h3,h4,h5,h6,h7⟩:=hc i x hi;exact ⟨b,off,vs,vp,h1,h3,h4,h5,h6,h7.to⟩
theorem bz.to{B:Nat}{w:World}{v:Value}{l:List dq}(h:bz B w v l):dJ w v l:=by
 obtain ⟨ao,cap,hv,hm,hc⟩:=h;refine ⟨ao,cap,hv,hm,fun i x hi=>?_⟩;obtain ⟨b,off,vs,h1,h2,h3,h4,h5⟩:=hc i x hi;exact ⟨b,off,vs,h1,h3,h4,h5⟩
theorem be.shape{B:Nat}{w:World}{v:Value}{l:List Int}(h:be B w v l):∃ao cap,v=.slice ao l.length cap:=by
 obtain ⟨ao,cap,hv,_⟩:=h;exact ⟨ao,cap,hv⟩
theorem ea.shape{B:Nat}{w:World}{v:Value}{l:List aw}(h:ea B w v l):∃ao cap,v=.slice ao l.length cap:=by
 obtain ⟨ao,cap,hv,_⟩:=h;exact ⟨ao,cap,hv⟩
def fT{α:Type}(f:List UInt8->Option (α×List UInt8)):Nat->List UInt8->Option (List α×List UInt8)
 | 0,r=>some ([],r)
 | n+1,r=>match f r with
  | none=>none
  | some (y,r1)=>match fT f n r1 with
   | none=>none
   | some (ys,r2)=>some (y :: ys,r2)
def aM{α:Type}(f:List UInt8->Option (α×List UInt8))(r:List UInt8):Option (List α×List UInt8):=match bC 0 0 r with
 | none=>none
 | some (n,r1)=>if n<=r1.length then fT f n r1 else none
def iR{α:Type}(ys:List α):Option (List α×List UInt8)->Option (List α×List UInt8)
 | none=>none
 | some (zs,r)=>some (ys++zs,r)
theorem g_{α:Type}(o:Option (List α×List UInt8)):iR [] o=o:=by cases o<;>rfl
theorem fd{α:Type}{f:List UInt8->Option (α×List UInt8)}{ys:List α}{m:Nat}{r r1:List UInt8}{y:α}(h:f r=some (y,r1)):iR ys (fT f (m+1) r)=iR (ys++ [y]) (fT f m r1):=by
 simp only [fT,h];cases fT f m r1 with
 | none=>rfl
 | some p=>obtain ⟨zs,r2⟩:=p;simp [iR]
theorem fg{α:Type}{f:List UInt8->Option (α×List UInt8)}{ys:List α}{m:Nat}{r:List UInt8}(h:f r=none):iR ys (fT f (m+1) r)=none:=by
 simp only [fT,h];rfl
theorem iB{α:Type}{f:List UInt8->Option (α×List UInt8)}{ys:List α}{r:List UInt8}:iR ys (fT f 0 r)=some (ys,r):=by simp [fT,iR]
open Go.RowKit
attribute [local go_sem ↓] Go.wp_at_zero Go.wp_at_succ
theorem iw(w:World)(M:Array Value)(t:TypeId)(j:Nat)(hj:j < M.size):(∃x,(w.alloc (.cells M t)).cell? ⟨w.heap.size,j,none⟩=some x)/\(w.alloc (.cells M t)).frozen? ⟨w.heap.size,j,none⟩=false:=by
 have h:=heap_alloc_new w (.cells M t);refine ⟨⟨M[j],?_⟩,?_⟩
 · rw [cell_of_row _ w.heap.size j M t (0,0) h];simp [hj]
 · unfold World.frozen?;rw [h];simp
theorem gl{w w':World}{g n:Nat}(h:∀j,j < n->(∃x,w.cell? ⟨g,j,none⟩=some x)/\w.frozen? ⟨g,j,none⟩=false)(k:Kp g w w')(hg:g < w.heap.size):∀j,j < n->(∃x,w'.cell? ⟨g,j,none⟩=some x)/\w'.frozen? ⟨g,j,none⟩=false:=by
 intro j hj;obtain ⟨⟨x,hx⟩,hz⟩:=h j hj;exact ⟨⟨x,k.cell (Nat.le_refl _) hx⟩,(World.frozen?_of_block (a:=⟨g,j,none⟩) (k g (Nat.le_refl _) hg)).trans hz⟩
theorem da{w:World}{g n o:Nat}{v:Value}(h:∀j,j < n->(∃x,w.cell? ⟨g,j,none⟩=some x)/\w.frozen? ⟨g,j,none⟩=false):∀j,j < n->(∃x,(w.setCell ⟨g,o,none⟩ v).cell? ⟨g,j,none⟩=some x)/\(w.setCell ⟨g,o,none⟩ v).frozen? ⟨g,j,none⟩=false:=by
 intro j hj;obtain ⟨⟨x,hx⟩,hz⟩:=h j hj;refine ⟨?_,by rw [World.frozen?_setCell];exact hz⟩;by_cases e:o=j
 · subst e;exact ⟨v,World.cell?_setCell_same w _ _ hx⟩
 · exact ⟨x,(World.cell?_setCell_other w _ _ _ (by intro h;simp only [Addr.mk.injEq] at h;exact e h.2.1)).trans hx⟩
theorem aI{w:World}{g o j:Nat}{v:Value}(h:¬o=j):(w.setCell ⟨g,o,none⟩ v).cell? ⟨g,j,none⟩=w.cell? ⟨g,j,none⟩:=
 World.cell?_setCell_other w _ _ _ (by intro e;simp only [Addr.mk.injEq] at e;exact h e.2.1)
theorem ad{w:World}{cb g o:Nat}{v:Value}{r:List UInt8}{e a:Int}(h:io w cb r e a)(hne:¬g=cb):io (w.setCell ⟨g,o,none⟩ v) cb r e a:=by
 obtain ⟨⟨s,h0,h1⟩,h2,h3,h4,h5,h6⟩:=h;have hc:∀q,(w.setCell ⟨g,o,none⟩ v).cell? ⟨cb,q,none⟩=w.cell? ⟨cb,q,none⟩:=fun q=>World.cell?_setCell_other w _ _ _ (by intro e;simp only [Addr.mk.injEq] at e;exact hne e.1)
 exact ⟨⟨s,(hc 0).trans h0,h1⟩,h2,(hc 1).trans h3,(hc 3).trans h4,by rw [World.frozen?_setCell];exact h5,(hc 2).trans h6⟩
theorem aT{cb:Nat}{w w':World}(h:Gc cb w w'){g o:Nat}{v:Value}(hg:w.heap.size<=g):Gc cb w (w'.setCell ⟨g,o,none⟩ v):=
 ⟨h.os,h.tape,h.output,by simpa using h.size,fun i hi hne=>by rw [Below.heap_setCell _ _ _ _ (by show i≠g;omega)];exact h.block i hi hne⟩
theorem ir{α:Type}{ys:List α}{y z:α}{j:Nat}(h:(ys++ [y])[j]? =some z):(ys[j]? =some z/\j < ys.length)\/(j=ys.length/\z=y):=by
 by_cases hj:j < ys.length
 · left;rw [List.getElem?_append_left hj] at h;exact ⟨h,hj⟩
 · right
   rw [List.getElem?_append_right Q5] at h;by_cases e:j - ys.length=0
   · rw [e] at h;simp at h;exact ⟨Q5,h.symm⟩
   · rw [List.getElem?_eq_none gS] at h;cases h
theorem Tryz.rinfo_rlist_whole:(Tryz.prog.info? 3).map (fun i=>(i.zero,i.size,i.bytes))=some (some (Value.int .i64 0),1,8):=Q7
theorem rG(cb B:Nat)(r:List UInt8)(e a:Int)(w:World)(hc:io w cb r e a)(hb:cb < B)(hB:B<=w.heap.size):
 Calls Tryz.prog 113 #[.pointer (some ⟨cb,0,none⟩),.func (.func 114) #[] #[]] w (nV cb e a w (fun w' v (y:List Int)=>be B w' v y) (aM ar r)):=by
 have HC:=aH hc;clear hc;go_enter Tryz.func113,Tryz.ntmps113
 go_wp2_with fail
 refine (dB cb r e a _ HC.out).mono ?_;intro x w1 h;cases hn:bC 0 0 r with
 | none=>
  obtain ⟨rfl,hg⟩:=h.none_ hn;exact ⟨rfl,by unfold aM;rw [hn];exact ⟨rfl,hg⟩⟩
 | some p=>
  obtain ⟨n,r1⟩:=p;obtain ⟨v,rfl,rfl,G0,hg⟩:=h.some_ hn;have I1:=aH hg;have E6:=aH G0;obtain ⟨⟨s,h0,hs⟩,hl,h1,h2,hz,hj⟩:=G0;have R0:s.size=r1.length:=by rw [<-hs,Array.length_toList];rfl
  have Mf:s.size<=1000000:=Q5
  have S3:IntKind.u64.wrap (s.size:Int)=s.size:=Go.IntWalk.u64_in _ Q5;by_cases hle:n<=r1.length
  · have HE:Hid (aM ar r=fT ar n r1):=aH (by unfold aM;rw [hn];simp only [if_pos hle]);have hd:(n:Int)<=(s.size:Int):=by omega
    have RC:n<=1000000:=Q5
    clear h hg hn hs hl hz R0 hle;go_wp2
    go_region_held3 (fun w'=>w'.cell? ⟨cb,0,none⟩=some (.string s)/\w'.cell? ⟨cb,1,none⟩=some (.int .i64 e)/\w'.cell? ⟨cb,3,none⟩=some (.int .i64 a)/\w'.cell? ⟨cb,2,none⟩=some (.int .i64 0)) (first|go_keep|(refine ⟨?_,?_,?_,?_⟩<;>exact D0.cell Q8 Q6)) (first|(go_at_call 64;refine (aP _ _ _).mono ?_;rintro e w' ⟨rfl,D0⟩))
    have O3:=aH (E6.out.gr (Gr.trans (Gr.drew (Gr.refl w1)) D0));have O0:=aH (I1.out.trans (Gr.trans (Gr.drew (Gr.refl w1)) D0).toGc);clear D0 h0 h1 h2 hj E6 I1 Mf S3 hd;obtain ⟨i0,hi,O6,N5,D5⟩:=info_parts Tryz.rinfo_rlist_whole;obtain ⟨M,hM⟩:∃M,M=madeCells (Value.int .i64 0).cells ((n:Int).toNat * i0.size):=⟨_,rfl⟩;have Ed:M.size=n * 1:=by rw [hM,size_madeCells,N5];simp
    have Rc:∀V:World,(Instr.makeSlice 24 (.int .u64 (n:Int)) (.int .u64 (n:Int))).run Tryz.prog V=.ok (.slice (some ⟨V.heap.size,0,none⟩) n n) (V.alloc (.cells M 3)):=by
     intro V;have h:=run_make (P:=Tryz.prog) V 24 3 i0 (Value.int .i64 0) Tryz.underlying24 hi O6 .u64 .u64 (n:Int) (n:Int) Q5 Q5 (by rw [D5];omega) Q5;rw [<-hM] at h;simpa using h
    have HM:=aH Ed;clear hM Ed hi O6 N5 D5;go_wp2
    have Ec:B<=w'.heap.size:=Nat.le_trans hB O0.out.size;have O7:w.heap.size<=w'.heap.size:=O0.out.size;go_loopw [27] (fun i wr=>∃(k:Nat) (ys:List Int) (rk:List UInt8),k<=n/\i=.int .i64 k/\ys.length=k/\io wr cb rk e a/\Gc cb w wr/\fT ar n r1=iR ys (fT ar (n - k) rk)/\w'.heap.size < wr.heap.size/\(∀j,j < n * 1->(∃x,wr.cell? ⟨w'.heap.size,j,none⟩=some x)/\wr.frozen? ⟨w'.heap.size,j,none⟩=false)/\∀j y,ys[j]? =some y->wr.cell? ⟨w'.heap.size,j,none⟩=some (.int .i64 y)) (fun i _=>n - (intOf i).toNat)
    case atStart=>
     refine ⟨0,[],r1,Nat.zero_le _,rfl,rfl,O3.out.gr ((Gr.refl _).alloc _),O0.out.trans ((Gr.refl _).alloc _).toGc,by rw [g_];rfl,Q6,fun j hj=>?_,fun j y hy=>by simp at hy⟩;exact iw w' M 3 j (by rw [HM.out];exact hj)
    case round=>
     obtain ⟨k,ys,rk,hk,rfl,I4,G0,hgc,Ga,R0,T1,S9⟩:=hrel;have HN:=aH Ga;have Sd:=aH S9;have S_:=aH T1;have HG3:=aH hgc;have P6:=aH G0;have Td:=aH I4;clear Ga S9 T1 hgc G0 O3 O0 I4 Rc;by_cases J0:k < n
     · obtain ⟨m,hm⟩:∃m,n - k=m+1:=⟨n - k - 1,Q5⟩;have R9:=aH hm;clear hm;go_wp2_with fail
       refine (eX cb rk e a _ P6.out).mono ?_;intro x w4 h;cases hf:ar rk with
       | none=>
        obtain ⟨rfl,hg⟩:=h.none_ hf;exact ⟨rfl,by rw [HE.out,HN.out,R9.out,fg hf];exact ⟨rfl,HG3.out.trans hg⟩⟩
       | some p=>
        obtain ⟨y,r4⟩:=p;obtain ⟨v,rfl,hy,G0,hg⟩:=h.some_ hf;have G':Hid (fT ar n r1=iR (ys++ [y]) (fT ar (n - (k+1)) r4)):=aH (by rw [HN.out,R9.out,fd hf,show n - (k+1)=m by have:=R9.out;omega]);have T_:Kp (w'.heap.size) wr w4:=hg.kp Q5;have Y8:w'.heap.size < w4.heap.size:=Nat.lt_of_lt_of_le R0 hg.size;have S2:Hid (∀j,j < n * 1->(∃x,w4.cell? ⟨w'.heap.size,j,none⟩=some x)/\w4.frozen? ⟨w'.heap.size,j,none⟩=false):=aH (gl S_.out T_ R0);have V7:=aH G0;have O1:=aH (HG3.out.trans hg);have Ja:=aH T_;have HY:=aH hy;clear h hf G0 T_;have hv:=HY.out;subst hv;obtain ⟨⟨x0,Ph⟩,O6⟩:=S2.out k Q5;have SC:(0:Int)<=(k:Int):=Q5
        have Xk:(k:Int) < (n:Int):=Q5
        clear hg;go_wp2
        go_roundw
        case rel=>
         have I4:=Td.out;refine ⟨k+1,ys++ [y],r4,Q5,by go_num,by simp [I4],ad V7.out Q5,aT O1.out O7,G'.out,by simpa using Y8,da S2.out,fun j z hj=>?_⟩;rcases ir hj with ⟨h1,h2⟩|⟨h1,h2⟩
         · rw [aI Q5];exact Ja.out.cell (Nat.le_refl _) (Sd.out j z h1)
         · subst h1;subst h2;rw [I4];exact World.cell?_setCell_same _ _ _ Ph
        case measure=>simp [intOf];omega
     · have P7:k=n:=by omega
       subst P7;have V_:Hid (aM ar r=some (ys,rk)):=aH (by rw [HE.out,HN.out,Nat.sub_self,iB]);go_wp2
       go_ret
       rw [V_.out];refine ⟨_,rfl,?_,P6.out,HG3.out⟩;have I4:=Td.out;show be B wr (.slice (some ⟨w'.heap.size,0,none⟩) k k) ys
       refine ⟨some ⟨w'.heap.size,0,none⟩,k,by rw [I4],by unfold maxLen;omega,fun i y hi=>?_⟩;have hq:=Sd.out i y hi;exact ⟨w'.heap.size,0,rfl,Ec,by rw [Nat.zero_add];exact hq⟩
  · have HE:Hid (aM ar r=none):=aH (by unfold aM;rw [hn];simp only [if_neg hle]);have hd:decide (n<=s.size)=false:=by rw [decide_eq_false_iff_not];omega
    clear h hg hn hs hl hz R0 hle;go_wp2
    go_region_with (first|(go_at_call 64;refine (aV _ _ _).mono ?_;rintro e w' ⟨rfl,D0⟩;refine aR ?_))
    all_goals exact ⟨rfl,by rw [HE.out];exact ⟨rfl,I1.out.trans (Gr.trans (Gr.drew (Gr.refl w1)) D0).toGc⟩⟩
theorem Tryz.rinfo_rlist_signed:(Tryz.prog.info? 3).map (fun i=>(i.zero,i.size,i.bytes))=some (some (Value.int .i64 0),1,8):=Q7
theorem pH(cb B:Nat)(r:List UInt8)(e a:Int)(w:World)(hc:io w cb r e a)(hb:cb < B)(hB:B<=w.heap.size):
 Calls Tryz.prog 113 #[.pointer (some ⟨cb,0,none⟩),.func (.func 73) #[] #[]] w (nV cb e a w (fun w' v (y:List Int)=>be B w' v y) (aM af r)):=by
 have HC:=aH hc;clear hc;go_enter Tryz.func113,Tryz.ntmps113
 go_wp2_with fail
 refine (dB cb r e a _ HC.out).mono ?_;intro x w1 h;cases hn:bC 0 0 r with
 | none=>
  obtain ⟨rfl,hg⟩:=h.none_ hn;exact ⟨rfl,by unfold aM;rw [hn];exact ⟨rfl,hg⟩⟩
 | some p=>
  obtain ⟨n,r1⟩:=p;obtain ⟨v,rfl,rfl,G0,hg⟩:=h.some_ hn;have I1:=aH hg;have E6:=aH G0;obtain ⟨⟨s,h0,hs⟩,hl,h1,h2,hz,hj⟩:=G0;have R0:s.size=r1.length:=by rw [<-hs,Array.length_toList];rfl
  have Mf:s.size<=1000000:=Q5
  have S3:IntKind.u64.wrap (s.size:Int)=s.size:=Go.IntWalk.u64_in _ Q5;by_cases hle:n<=r1.length
  · have HE:Hid (aM af r=fT af n r1):=aH (by unfold aM;rw [hn];simp only [if_pos hle]);have hd:(n:Int)<=(s.size:Int):=by omega
    have RC:n<=1000000:=Q5
    clear h hg hn hs hl hz R0 hle;go_wp2
    go_region_held3 (fun w'=>w'.cell? ⟨cb,0,none⟩=some (.string s)/\w'.cell? ⟨cb,1,none⟩=some (.int .i64 e)/\w'.cell? ⟨cb,3,none⟩=some (.int .i64 a)/\w'.cell? ⟨cb,2,none⟩=some (.int .i64 0)) (first|go_keep|(refine ⟨?_,?_,?_,?_⟩<;>exact D0.cell Q8 Q6)) (first|(go_at_call 64;refine (aP _ _ _).mono ?_;rintro e w' ⟨rfl,D0⟩))
    have O3:=aH (E6.out.gr (Gr.trans (Gr.drew (Gr.refl w1)) D0));have O0:=aH (I1.out.trans (Gr.trans (Gr.drew (Gr.refl w1)) D0).toGc);clear D0 h0 h1 h2 hj E6 I1 Mf S3 hd;obtain ⟨i0,hi,O6,N5,D5⟩:=info_parts Tryz.rinfo_rlist_signed;obtain ⟨M,hM⟩:∃M,M=madeCells (Value.int .i64 0).cells ((n:Int).toNat * i0.size):=⟨_,rfl⟩;have Ed:M.size=n * 1:=by rw [hM,size_madeCells,N5];simp
    have Rc:∀V:World,(Instr.makeSlice 24 (.int .u64 (n:Int)) (.int .u64 (n:Int))).run Tryz.prog V=.ok (.slice (some ⟨V.heap.size,0,none⟩) n n) (V.alloc (.cells M 3)):=by
     intro V;have h:=run_make (P:=Tryz.prog) V 24 3 i0 (Value.int .i64 0) Tryz.underlying24 hi O6 .u64 .u64 (n:Int) (n:Int) Q5 Q5 (by rw [D5];omega) Q5;rw [<-hM] at h;simpa using h
    have HM:=aH Ed;clear hM Ed hi O6 N5 D5;go_wp2
    have Ec:B<=w'.heap.size:=Nat.le_trans hB O0.out.size;have O7:w.heap.size<=w'.heap.size:=O0.out.size;go_loopw [27] (fun i wr=>∃(k:Nat) (ys:List Int) (rk:List UInt8),k<=n/\i=.int .i64 k/\ys.length=k/\io wr cb rk e a/\Gc cb w wr/\fT af n r1=iR ys (fT af (n - k) rk)/\w'.heap.size < wr.heap.size/\(∀j,j < n * 1->(∃x,wr.cell? ⟨w'.heap.size,j,none⟩=some x)/\wr.frozen? ⟨w'.heap.size,j,none⟩=false)/\∀j y,ys[j]? =some y->wr.cell? ⟨w'.heap.size,j,none⟩=some (.int .i64 y)) (fun i _=>n - (intOf i).toNat)
    case atStart=>
     refine ⟨0,[],r1,Nat.zero_le _,rfl,rfl,O3.out.gr ((Gr.refl _).alloc _),O0.out.trans ((Gr.refl _).alloc _).toGc,by rw [g_];rfl,Q6,fun j hj=>?_,fun j y hy=>by simp at hy⟩;exact iw w' M 3 j (by rw [HM.out];exact hj)
    case round=>
     obtain ⟨k,ys,rk,hk,rfl,I4,G0,hgc,Ga,R0,T1,S9⟩:=hrel;have HN:=aH Ga;have Sd:=aH S9;have S_:=aH T1;have HG3:=aH hgc;have P6:=aH G0;have Td:=aH I4;clear Ga S9 T1 hgc G0 O3 O0 I4 Rc;by_cases J0:k < n
     · obtain ⟨m,hm⟩:∃m,n - k=m+1:=⟨n - k - 1,Q5⟩;have R9:=aH hm;clear hm;go_wp2_with fail
       refine (l_ cb rk e a _ P6.out).mono ?_;intro x w4 h;cases hf:af rk with
       | none=>
        obtain ⟨rfl,hg⟩:=h.none_ hf;exact ⟨rfl,by rw [HE.out,HN.out,R9.out,fg hf];exact ⟨rfl,HG3.out.trans hg⟩⟩
       | some p=>
        obtain ⟨y,r4⟩:=p;obtain ⟨v,rfl,hy,G0,hg⟩:=h.some_ hf;have G':Hid (fT af n r1=iR (ys++ [y]) (fT af (n - (k+1)) r4)):=aH (by rw [HN.out,R9.out,fd hf,show n - (k+1)=m by have:=R9.out;omega]);have T_:Kp (w'.heap.size) wr w4:=hg.kp Q5;have Y8:w'.heap.size < w4.heap.size:=Nat.lt_of_lt_of_le R0 hg.size;have S2:Hid (∀j,j < n * 1->(∃x,w4.cell? ⟨w'.heap.size,j,none⟩=some x)/\w4.frozen? ⟨w'.heap.size,j,none⟩=false):=aH (gl S_.out T_ R0);have V7:=aH G0;have O1:=aH (HG3.out.trans hg);have Ja:=aH T_;have HY:=aH hy;clear h hf G0 T_;have hv:=HY.out;subst hv;obtain ⟨⟨x0,Ph⟩,O6⟩:=S2.out k Q5;have SC:(0:Int)<=(k:Int):=Q5
        have Xk:(k:Int) < (n:Int):=Q5
        clear hg;go_wp2
        go_roundw
        case rel=>
         have I4:=Td.out;refine ⟨k+1,ys++ [y],r4,Q5,by go_num,by simp [I4],ad V7.out Q5,aT O1.out O7,G'.out,by simpa using Y8,da S2.out,fun j z hj=>?_⟩;rcases ir hj with ⟨h1,h2⟩|⟨h1,h2⟩
         · rw [aI Q5];exact Ja.out.cell (Nat.le_refl _) (Sd.out j z h1)
         · subst h1;subst h2;rw [I4];exact World.cell?_setCell_same _ _ _ Ph
        case measure=>simp [intOf];omega
     · have P7:k=n:=by omega
       subst P7;have V_:Hid (aM af r=some (ys,rk)):=aH (by rw [HE.out,HN.out,Nat.sub_self,iB]);go_wp2
       go_ret
       rw [V_.out];refine ⟨_,rfl,?_,P6.out,HG3.out⟩;have I4:=Td.out;show be B wr (.slice (some ⟨w'.heap.size,0,none⟩) k k) ys
       refine ⟨some ⟨w'.heap.size,0,none⟩,k,by rw [I4],by unfold maxLen;omega,fun i y hi=>?_⟩;have hq:=Sd.out i y hi;exact ⟨w'.heap.size,0,rfl,Ec,by rw [Nat.zero_add];exact hq⟩
  · have HE:Hid (aM af r=none):=aH (by unfold aM;rw [hn];simp only [if_neg hle]);have hd:decide (n<=s.size)=false:=by rw [decide_eq_false_iff_not];omega
    clear h hg hn hs hl hz R0 hle;go_wp2
    go_region_with (first|(go_at_call 64;refine (aV _ _ _).mono ?_;rintro e w' ⟨rfl,D0⟩;refine aR ?_))
    all_goals exact ⟨rfl,by rw [HE.out];exact ⟨rfl,I1.out.trans (Gr.trans (Gr.drew (Gr.refl w1)) D0).toGc⟩⟩
def au(r:List UInt8):Option (List Int×List UInt8):=aM ar r
theorem iu(cb B:Nat)(r:List UInt8)(e a:Int)(w:World)(hc:io w cb r e a)(hb:cb < B)(hB:B<=w.heap.size):
 Calls Tryz.prog 71 #[.pointer (some ⟨cb,0,none⟩)] w (nV cb e a w (fun w' v (y:List Int)=>be B w' v y) (au r)):=by
 have HC:=aH hc;clear hc;go_enter Tryz.func71,Tryz.ntmps71
 go_wp2_with fail
 refine (rG cb B r e a _ HC.out hb hB).mono ?_;intro x w1 h;cases hn:au r with
 | none=>
  obtain ⟨rfl,hg⟩:=h.none_ hn;exact ⟨rfl,by rw [hn];exact ⟨rfl,hg⟩⟩
 | some p=>
  obtain ⟨y,r1⟩:=p;obtain ⟨v,rfl,hy,G0,hg⟩:=h.some_ hn;have H1:=aH hy;have H2:=aH G0;have H3:=aH hg;have H4:=aH hn;clear h hy G0 hg hn;go_wp2
  go_ret
  rw [H4.out];exact ⟨_,rfl,H1.out,H2.out,H3.out⟩
end Go.Proofs.YtkgncijcnlfhiabGreat
