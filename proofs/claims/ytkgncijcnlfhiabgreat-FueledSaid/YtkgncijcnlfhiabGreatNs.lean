import Derived.Test.YtkgncijcnlfhiabGreatZn
namespace Go.Proofs.YtkgncijcnlfhiabGreat
set_option linter.unusedVariables false
set_option linter.unusedSimpArgs false
open Go.RowKit
attribute [local go_sem ↓] Go.wp_at_zero Go.wp_at_succ
def fG(w:World)(b:Nat)(y0 y1 y2 y3 y4 y5 y6:Value):World:=((((((w.setCell ⟨b,0,none⟩ y0).setCell ⟨b,1,none⟩ y1).setCell ⟨b,2,none⟩ y2).setCell ⟨b,3,none⟩ y3).setCell ⟨b,4,none⟩ y4).setCell ⟨b,5,none⟩ y5).setCell ⟨b,6,none⟩ y6
theorem jq(w:World)(b:Nat)(y0 y1 y2 y3 y4 y5 y6:Value):((((((w.setCell ⟨b,0,none⟩ y0).setCell ⟨b,1,none⟩ y1).setCell ⟨b,2,none⟩ y2).setCell ⟨b,3,none⟩ y3).setCell ⟨b,4,none⟩ y4).setCell ⟨b,5,none⟩ y5).setCell ⟨b,6,none⟩ y6=fG w b y0 y1 y2 y3 y4 y5 y6:=rfl
theorem fh{w:World}{b k:Nat}{y0 y1 y2 y3 y4 y5 y6:Value}(h:¬k=b):(fG w b y0 y1 y2 y3 y4 y5 y6).heap[k]? =w.heap[k]? :=by
 unfold fG;rw [Below.heap_setCell _ _ _ _ h,Below.heap_setCell _ _ _ _ h,Below.heap_setCell _ _ _ _ h,Below.heap_setCell _ _ _ _ h,Below.heap_setCell _ _ _ _ h,Below.heap_setCell _ _ _ _ h,Below.heap_setCell _ _ _ _ h]
theorem lh(w:World)(b:Nat)(y0 y1 y2 y3 y4 y5 y6:Value):(fG w b y0 y1 y2 y3 y4 y5 y6).os=w.os/\(fG w b y0 y1 y2 y3 y4 y5 y6).tape=w.tape/\(fG w b y0 y1 y2 y3 y4 y5 y6).output=w.output:=by
 have h1:∀(w:World) (a:Addr) (v:Value),(w.setCell a v).os=w.os:=fun _ _ _=>rfl
 have h2:∀(w:World) (a:Addr) (v:Value),(w.setCell a v).tape=w.tape:=fun _ _ _=>rfl
 have h3:∀(w:World) (a:Addr) (v:Value),(w.setCell a v).output=w.output:=fun _ _ _=>rfl
 unfold fG;simp only [h1,h2,h3,and_self]
theorem gT{w:World}{b:Nat}{y0 y1 y2 y3 y4 y5 y6:Value}:(fG w b y0 y1 y2 y3 y4 y5 y6).heap.size=w.heap.size:=by unfold fG;simp
theorem gZ{w:World}{b:Nat}{y0 y1 y2 y3 y4 y5 y6 z0 z1 z2 z3 z4 z5 z6:Value}{t:TypeId}(h:w.heap[b]? =some (.cells #[z0,z1,z2,z3,z4,z5,z6] t (0,0))):(fG w b y0 y1 y2 y3 y4 y5 y6).heap[b]? =some (.cells #[y0,y1,y2,y3,y4,y5,y6] t (0,0)):=by
 unfold fG;have h0:=heap_setCell_same w b 0 _ t y0 h;have h1:=heap_setCell_same _ b 1 _ t y1 h0;have h2:=heap_setCell_same _ b 2 _ t y2 h1;have h3:=heap_setCell_same _ b 3 _ t y3 h2;have h4:=heap_setCell_same _ b 4 _ t y4 h3;have h5:=heap_setCell_same _ b 5 _ t y5 h4;have h6:=heap_setCell_same _ b 6 _ t y6 h5;exact h6.trans Q6
theorem gR{w:World}{b:Nat}{t:TypeId}(h:w.heap[b]? =some (.cells #[.int .i64 0,.int .i64 0,.int .i64 0,.int .i64 0,.int .i64 0,.slice none 0 0,.int .i64 0] t (0,0))):(w.cell? ⟨b,0,none⟩=some (.int .i64 0)/\w.cell? ⟨b,1,none⟩=some (.int .i64 0)/\w.cell? ⟨b,2,none⟩=some (.int .i64 0)/\w.cell? ⟨b,3,none⟩=some (.int .i64 0)/\w.cell? ⟨b,4,none⟩=some (.int .i64 0)/\w.cell? ⟨b,5,none⟩=some (.slice none 0 0)/\w.cell? ⟨b,6,none⟩=some (.int .i64 0))/\w.frozen? ⟨b,0,none⟩=false/\w.frozen? ⟨b,1,none⟩=false/\w.frozen? ⟨b,2,none⟩=false/\w.frozen? ⟨b,3,none⟩=false/\w.frozen? ⟨b,4,none⟩=false/\w.frozen? ⟨b,5,none⟩=false/\w.frozen? ⟨b,6,none⟩=false:=by
 refine ⟨⟨?_,?_,?_,?_,?_,?_,?_⟩,aS h,aS h,aS h,aS h,aS h,aS h,aS h⟩<;>(rw [aJ h];rfl)
structure LU where
 v1:Value
 v2:Value
 v3:Value
 v4:Value
 v5:Value
 u:aK
def cU(e:LU):List Value:= [e.v1,e.v2,e.v3,e.v4,e.v5]
theorem AL(e:LU):(cU e).length=5:=rfl
def LU.v(e:LU):Value:=.agg #[e.v1,e.v2,e.v3,e.v4,e.v5]
theorem Tryz.infUu:(Tryz.prog.info? 29).map (fun i=>(i.zero,i.size,i.bytes))=some (some (.agg #[.slice none 0 0,.slice none 0 0,.slice none 0 0,.slice none 0 0,.slice none 0 0]),5,120):=Q7
theorem Tryz.uUu:Tryz.prog.underlying 23=some (.slice 29):=Q7
theorem vS{w:World}{B:Nat}{e:TypeId}{v:Value}{es:List LU}(h:w.ownsRow B e 5 v es.length (es.flatMap cU))(hu:∀x∈es,cO w x.v x.u):eS w v (es.map (·.u)):=by
 obtain ⟨ao,cap,rfl⟩:=aL h;refine ⟨ao,cap,Q6,by simpa using iP h,fun i x hi=>?_⟩;simp only [List.getElem?_map,Option.map_eq_some_iff] at hi;obtain ⟨e,he,rfl⟩:=hi;have hl:i < es.length:=(List.getElem?_eq_some_iff.1 he).1;obtain ⟨b,cp,e1,e2⟩:=dT h (j:=i * 5) Q5;simp only [Value.slice.injEq,true_and] at e1;obtain ⟨rfl,rfl⟩:=e1;have hc:∀r,r < 5->w.cell? ⟨b,0+i * 5+r,none⟩=(cU e)[r]? :=fun r hr=>by
  obtain ⟨b',VW,Ni,Pv⟩:=dT h (j:=i * 5+r) Q5;simp only [Value.slice.injEq,Option.some.injEq,Addr.mk.injEq,and_true,true_and] at Ni;obtain ⟨rfl,-⟩:=Ni;rw [Nat.zero_add,Pv];exact de AL es i r e he hr
 exact ⟨b,0,e.v1,e.v2,e.v3,e.v4,e.v5,rfl,hc 0 Q5,hc 1 Q5,hc 2 Q5,hc 3 Q5,hc 4 Q5,hu e (List.mem_of_getElem? he)⟩
theorem xF{t:List UInt8}{e:Int}{p:Nat}(h:dec t=.inr (e,p)):¬e=0:=by
 rintro rfl;unfold dec at h
 (repeat' split at h)<;>simp at h
theorem xB{us:List aK}{e:Int}{k:Nat}(h:cR us=.inr (e,k)):¬e=0:=by
 rintro rfl;cases us with
 | nil=>simp [cR] at h
 | cons a t=>
  rw [cR] at h
  (repeat' split at h)<;>first|(simp at h;done)|(dsimp only at h;split at h<;>simp at h)
def dP(B:Nat)(w:World)(v:Value)(l:List Int):Prop:=
 ∃ao cap,v=.slice ao l.length cap/\(l.length<=maxLen/\l.length<=cap)/\∀i y,l[i]? =some y->∃b off,ao=some ⟨b,off,none⟩/\B<=b/\w.cell? ⟨b,off+i,none⟩=some (.int .i64 y)
theorem dP.f{B:Nat}{w:World}{v:Value}{l:List Int}(h:dP B w v l):be B w v l:=by obtain ⟨a,c,h1,h2,h3⟩:=h;exact ⟨a,c,h1,h2.1,h3⟩
theorem dP.shape{B:Nat}{w:World}{v:Value}{l:List Int}(h:dP B w v l):∃ao cap,v=.slice ao l.length cap:=h.f.shape
theorem dP.of{B:Nat}{w:World}{v:Value}{l:List Int}(h:be B w v l)(hc:∀a n c,v=.slice a n c->n<=c):dP B w v l:=by obtain ⟨a,c,h1,h2,h3⟩:=h;exact ⟨a,c,h1,⟨h2,hc _ _ _ h1⟩,h3⟩
theorem dP.cap{B:Nat}{w:World}{v:Value}{l:List Int}(h:dP B w v l):∀a n c,v=.slice a n c->n<=c:=by
 obtain ⟨a,c,h1,h2,h3⟩:=h;intro a' n' c' e;rw [h1,Value.slice.injEq] at e;obtain ⟨_,rfl,rfl⟩:=e;exact h2.2
theorem dP.kp{B:Nat}{w w':World}{v:Value}{l:List Int}(h:dP B w v l)(g:Kp B w w'):dP B w' v l:=.of (h.f.kp g) h.cap
theorem dP.mono{B B':Nat}{w:World}{v:Value}{l:List Int}(h:dP B' w v l)(hB:B<=B'):dP B w v l:=.of (h.f.mono hB) h.cap
def ti(B:Nat)(w:World)(v:Value)(o:i9):Prop:=∃vt,v=.agg #[.int .i64 o.why,.int .i64 o.unit,.int .i64 o.at_,.int .i64 o.e,.int .i64 o.result,vt,.int .i64 o.steps]/\dP B w vt o.told
def yP(M:aK->i9)(fuel heap:Int)(us:List aK):Prop:=∀(u:aK) (V:World) (v:Value),cR us=.inl u->aY u=(0,0,0)->cO V v u->Calls Tryz.prog 28 #[v,.int .i64 fuel,.int .i64 heap] V fun x w'=>∃vo,x=.returned vo/\ti V.heap.size w' vo (M u)/\Gr V w'
def CD(W:World)(o:i9)(x:Ending)(w':World):Prop:=∃vo,x=.returned vo/\ti W.heap.size w' vo o/\Gr W w'
theorem em{B:Nat}(w:World):dP B w (.slice none 0 0) []:=⟨none,0,rfl,⟨Nat.zero_le _,Nat.zero_le _⟩,fun i y hi=>by simp at hi⟩
theorem pr{u:aK}(h:(aY u).1=0):aY u=(0,0,0):=by
 have hf:∀(l:List aO) (k:Nat),(eU u k l).1=0->eU u k l=(0,0,0):=by
  intro l
  induction l with
  | nil=>intro k _;rfl
  | cons f l ih=>
   intro k h;rw [eU] at h |-;cases hw:e9 u f with
   | none=>rw [hw] at h;exact ih _ h
   | some q=>rw [hw] at h;simp at h
 unfold aY at h |-;by_cases hu:ai u=true
 · rw [if_pos hu] at h |-;exact hf _ _ h
 · rw [if_neg hu] at h;simp at h
set_option maxRecDepth 100000 in
set_option maxHeartbeats 4000000 in
theorem yj(M:aK->i9)(fuel heap:Int)(ss:List (List UInt8))(vl:Value)(W:World)(HT:∀u,lF u)(hR:yO W vl ss)(hM:∀us,dZ 0 ss=.inl us->yP M fuel heap us)(Mf:ss.length<=1000000):
 Calls Tryz.prog 15 #[vl,.int .i64 fuel,.int .i64 heap] W (CD W (li M ss fuel heap)):=by
 obtain ⟨ao,cap,rfl,hm,hc⟩:=hR;have HC:=aH hc;have ID:=aH HT;have HMC:=aH hM;have D4:=heap_alloc_new W (.cells #[.int .i64 0,.int .i64 0,.int .i64 0,.int .i64 0,.int .i64 0,.slice none 0 0,.int .i64 0] 35);have gV:Gr W (W.alloc (.cells #[.int .i64 0,.int .i64 0,.int .i64 0,.int .i64 0,.int .i64 0,.slice none 0 0,.int .i64 0] 35)):=(Gr.refl W).alloc _;have sV:(W.alloc (.cells #[.int .i64 0,.int .i64 0,.int .i64 0,.int .i64 0,.int .i64 0,.slice none 0 0,.int .i64 0] 35)).heap.size=W.heap.size+1:=Q6
 have H6:=aH D4;have F9:=aH gV;have Hl:=aH sV;clear hc HT hM D4 gV sV;by_cases hbad:fuel < 0\/200000 < fuel\/heap < 0\/5000 < heap
 · have HP:Hid (li M ss fuel heap=⟨1,0,0,0,0,[],0⟩):=aH (by unfold li;rw [if_pos hbad]);obtain ⟨⟨o0,o1,o2,o3,o4,o5,o6⟩,f0,f1,f2,f3,f4,f5,f6⟩:=gR H6.out;by_cases h1:fuel < 0
   · have d1:decide (fuel < 0)=true:=by simpa using h1
     clear hbad;go_enter Tryz.func15,Tryz.ntmps15
     go_wp2_with fail
     refine bodyPost_ret (v:=.agg #[.int .i64 1,.int .i64 0,.int .i64 0,.int .i64 0,.int .i64 0,.slice none 0 0,.int .i64 0]) (by simp [results,Tryz.results15,go_sem]) rfl ?_;rw [HP.out];exact ⟨_,rfl,⟨_,rfl,em _⟩,(Gr.refl W).alloc _⟩
   · have d1:decide (fuel < 0)=false:=by simpa using h1
     by_cases h2:200000 < fuel
     · have d2:decide (200000 < fuel)=true:=by simpa using h2
       clear hbad;go_enter Tryz.func15,Tryz.ntmps15
       go_wp2_with fail
       refine bodyPost_ret (v:=.agg #[.int .i64 1,.int .i64 0,.int .i64 0,.int .i64 0,.int .i64 0,.slice none 0 0,.int .i64 0]) (by simp [results,Tryz.results15,go_sem]) rfl ?_;rw [HP.out];exact ⟨_,rfl,⟨_,rfl,em _⟩,(Gr.refl W).alloc _⟩
     · have d2:decide (200000 < fuel)=false:=by simpa using h2
       by_cases h3:heap < 0
       · have d3:decide (heap < 0)=true:=by simpa using h3
         clear hbad;go_enter Tryz.func15,Tryz.ntmps15
         go_wp2_with fail
         refine bodyPost_ret (v:=.agg #[.int .i64 1,.int .i64 0,.int .i64 0,.int .i64 0,.int .i64 0,.slice none 0 0,.int .i64 0]) (by simp [results,Tryz.results15,go_sem]) rfl ?_;rw [HP.out];exact ⟨_,rfl,⟨_,rfl,em _⟩,(Gr.refl W).alloc _⟩
       · have d3:decide (heap < 0)=false:=by simpa using h3
         have h4:5000 < heap:=by rcases hbad with h|h|h|h<;>first|exact absurd h h1|exact absurd h h2|exact absurd h h3|exact h
         have d4:decide (5000 < heap)=true:=by simpa using h4
         clear hbad;go_enter Tryz.func15,Tryz.ntmps15
         go_wp2_with fail
         refine bodyPost_ret (v:=.agg #[.int .i64 1,.int .i64 0,.int .i64 0,.int .i64 0,.int .i64 0,.slice none 0 0,.int .i64 0]) (by simp [results,Tryz.results15,go_sem]) rfl ?_;rw [HP.out];exact ⟨_,rfl,⟨_,rfl,em _⟩,(Gr.refl W).alloc _⟩
 · have h1:¬fuel < 0:=fun h=>hbad (.inl h)
   have h2:¬200000 < fuel:=fun h=>hbad (.inr (.inl h))
   have h3:¬heap < 0:=fun h=>hbad (.inr (.inr (.inl h)))
   have h4:¬5000 < heap:=fun h=>hbad (.inr (.inr (.inr h)))
   have d1:decide (fuel < 0)=false:=by simpa using h1
   have d2:decide (200000 < fuel)=false:=by simpa using h2
   have d3:decide (heap < 0)=false:=by simpa using h3
   have d4:decide (5000 < heap)=false:=by simpa using h4
   have HP:Hid (li M ss fuel heap=match dZ 0 ss with
    | .inr (e,k,p)=>⟨2,(k:Int),(p:Int),e,0,[],0⟩
    | .inl us=>match cR us with
     | .inr (e,k)=>⟨3,(k:Int),0,e,0,[],0⟩
     | .inl u=>if (aY u).1≠0 then ⟨4,((aY u).2.1:Int),((aY u).2.2:Int),(aY u).1,0,[],0⟩ else M u):=aH (by unfold li;rw [if_neg hbad];rfl)
   clear hbad;go_enter Tryz.func15,Tryz.ntmps15
   go_wp2_with fail
   generalize (W.alloc (.cells #[.int .i64 0,.int .i64 0,.int .i64 0,.int .i64 0,.int .i64 0,.slice none 0 0,.int .i64 0] 35))=V at H6 F9 Hl |-;clear h1 h2 h3 h4 d1 d2 d3 d4;go_loopw [7,36] (fun vr i wr=>∃(k:Nat) (es:List LU) (us:List aK),i=.int .i64 (k:Int)/\k<=ss.length/\us.length=k/\es.map (·.u)=us.take 7/\wr.ownsRow V.heap.size 29 5 vr es.length (es.flatMap cU)/\(∀e∈es,cO (kW wr vr.ownBlock) e.v e.u)/\dZ 0 ss=l8 us (dZ k (ss.drop k))/\Gr V wr) (fun _ i _=>ss.length - (intOf i).toNat)
   case atStart=>exact ⟨0,[],[],rfl,Nat.zero_le _,rfl,rfl,World.ownsRow_nil _ _ _ _,Q6,by cases h:dZ 0 ss<;>simp [l8,h],Gr.refl _⟩
   case round=>
    obtain ⟨k,es,us,rfl,hk,Rh,Yd,C1,Nc,hda,M3⟩:=hrel;have Jr:=aH Rh;have TI:=aH Yd;have E9:=aH C1;have HRU:=aH Nc;have MY:=aH hda;have C6:=aH M3;obtain ⟨rao,rcp,rfl⟩:=aL C1;have S9:es.length<=7:=by have:=congrArg List.length Yd;simp at this;omega
    clear Rh Yd C1 Nc hda M3;by_cases J0:k < ss.length
    · obtain ⟨x,hx⟩:=aX J0;obtain ⟨b,off,s,rfl,Gi,Ys,R0⟩:=HC.out k x hx;have Gi:=(F9.out.trans C6.out).cell Gi Q6;have Hf:(k:Int) < (ss.length:Int):=by omega
      have hw:IntKind.i64.wrap ((k:Int)+1)=(k:Int)+1:=Q_;have FQ:Hid (ss.drop k=x :: ss.drop (k+1)):=aH (by
       rw [List.drop_eq_getElem_cons J0];have:ss[k]=x:=by rw [List.getElem?_eq_getElem J0] at hx;exact Option.some.inj hx
       rw [this])
      have VI:=aH (sd s wr R0);rw [Ys] at VI;clear hx Ys;go_wp2_with fail
      refine VI.out.mono ?_;intro z w2 hz;cases hd:dec x with
      | inr q=>
       obtain ⟨e,p⟩:=q;rw [hd] at hz;obtain ⟨rfl,E0⟩:=hz;have hne:¬e=0:=xF hd;have Oe:(e != 0)=true:=by simpa using hne
       have Sm:Hid (li M ss fuel heap=⟨2,(k:Int),(p:Int),e,0,[],0⟩):=aH (by rw [HP.out,MY.out,FQ.out,tE hd]);have O0:=aH (C6.out.trans E0);have Zd:=(((C6.out.trans E0).alloc (.cells #[.slice none 0 0,.slice none 0 0,.slice none 0 0,.slice none 0 0,.slice none 0 0] 29)).block W.heap.size (by have:=Hl.out;omega) Q6).trans H6.out;have Kr:=aH Zd;have X8:=aH ((C6.out.trans E0).alloc (.cells #[.slice none 0 0,.slice none 0 0,.slice none 0 0,.slice none 0 0,.slice none 0 0] 29));obtain ⟨⟨o0,o1,o2,o3,o4,o5,o6⟩,f0,f1,f2,f3,f4,f5,f6⟩:=gR Zd;clear hd E0 Zd VI Gi;go_wp2_with fail
       generalize w2.alloc (.cells #[.slice none 0 0,.slice none 0 0,.slice none 0 0,.slice none 0 0,.slice none 0 0] 29)=wE at Kr X8 |-;rw [jq];have M1:=gZ (y0:=.int .i64 2) (y1:=.int .i64 (k:Int)) (y2:=.int .i64 (p:Int)) (y3:=.int .i64 e) (y4:=.int .i64 0) (y5:=.slice none 0 0) (y6:=.int .i64 0) Kr.out;have hwf:∀q,¬q=W.heap.size->(fG wE W.heap.size (.int .i64 2) (.int .i64 (k:Int)) (.int .i64 (p:Int)) (.int .i64 e) (.int .i64 0) (.slice none 0 0) (.int .i64 0)).heap[q]? =wE.heap[q]? :=fun q hq=>fh hq
       have Y':(fG wE W.heap.size (.int .i64 2) (.int .i64 (k:Int)) (.int .i64 (p:Int)) (.int .i64 e) (.int .i64 0) (.slice none 0 0) (.int .i64 0)).heap.size=wE.heap.size:=gT;have J6:=lh wE W.heap.size (.int .i64 2) (.int .i64 (k:Int)) (.int .i64 (p:Int)) (.int .i64 e) (.int .i64 0) (.slice none 0 0) (.int .i64 0);generalize fG wE W.heap.size (.int .i64 2) (.int .i64 (k:Int)) (.int .i64 (p:Int)) (.int .i64 e) (.int .i64 0) (.slice none 0 0) (.int .i64 0)=WE at M1 hwf Y' J6 |-;have t0:WE.cell? ⟨W.heap.size,0,none⟩=some (.int .i64 2):=by rw [aJ M1];rfl
       have t1:WE.cell? ⟨W.heap.size,1,none⟩=some (.int .i64 (k:Int)):=by rw [aJ M1];rfl
       have t2:WE.cell? ⟨W.heap.size,2,none⟩=some (.int .i64 (p:Int)):=by rw [aJ M1];rfl
       have t3:WE.cell? ⟨W.heap.size,3,none⟩=some (.int .i64 e):=by rw [aJ M1];rfl
       have t4:WE.cell? ⟨W.heap.size,4,none⟩=some (.int .i64 0):=by rw [aJ M1];rfl
       have t5:WE.cell? ⟨W.heap.size,5,none⟩=some (.slice none 0 0):=by rw [aJ M1];rfl
       have t6:WE.cell? ⟨W.heap.size,6,none⟩=some (.int .i64 0):=by rw [aJ M1];rfl
       refine bodyPost_ret (v:=.agg #[.int .i64 2,.int .i64 (k:Int),.int .i64 (p:Int),.int .i64 e,.int .i64 0,.slice none 0 0,.int .i64 0]) (by simp [results,Tryz.results15,go_sem,t0,t1,t2,t3,t4,t5,t6]) rfl ?_;rw [Sm.out];have K8:=F9.out.trans X8.out;exact ⟨_,rfl,⟨_,rfl,em _⟩,⟨J6.1.trans K8.os,J6.2.1.trans K8.tape,J6.2.2.trans K8.output,by rw [Y'];exact K8.size,fun i hi hne=>(hwf i Q5).trans (K8.block i hi hne)⟩⟩
      | inl u=>
       rw [hd] at hz;obtain ⟨v,C,rfl,hC,hF,E0⟩:=hz;obtain ⟨a1,a2,a3,a4,a5,c1,c2,c3,c4,c5,rfl,-⟩:=hF.to.parts;have Gw:Hid (dZ 0 ss=l8 (us++ [u]) (dZ (k+1) (ss.drop (k+1)))):=aH (by rw [MY.out,FQ.out,sN hd]);have HF:=aH hF;have O0:=aH (C6.out.trans E0);have NY:=aH E0;by_cases h6:es.length<=6
       · have i6:(es.length:Int)<=6:=by omega
         have gA:=((Gr.refl w2).alloc (.cells #[.slice a1 u.aA.length c1,.slice a2 u.aD.length c2,.slice a3 u.aE.length c3,.slice a4 u.aB.length c4,.slice a5 u.aC.length c5] 29)).alloc (.cells #[.slice a1 u.aA.length c1,.slice a2 u.aD.length c2,.slice a3 u.aE.length c3,.slice a4 u.aB.length c4,.slice a5 u.aC.length c5] 29);have OY:=dA E9.out (E0.trans gA);obtain ⟨v6,w6,Ma,T9,P2,G9⟩:=dK (ty:=23) 23 29 _ Tryz.infUu Tryz.uUu rfl Q9 Q9 OY (dx (w2.alloc (.cells #[.slice a1 u.aA.length c1,.slice a2 u.aD.length c2,.slice a3 u.aE.length c3,.slice a4 u.aB.length c4,.slice a5 u.aC.length c5] 29)) #[.slice a1 u.aA.length c1,.slice a2 u.aD.length c2,.slice a3 u.aE.length c3,.slice a4 u.aB.length c4,.slice a5 u.aC.length c5] 29 1) rfl (by intro q hq;simp at hq;rcases hq with rfl|rfl|rfl|rfl|rfl<;>rfl) Q5 (by have:=O0.out.size;simp;omega)
         have hsA:(w2.alloc (.cells #[.slice a1 u.aA.length c1,.slice a2 u.aD.length c2,.slice a3 u.aE.length c3,.slice a4 u.aB.length c4,.slice a5 u.aC.length c5] 29)).heap.size=w2.heap.size+1:=Q6
         rw [hsA] at Ma;obtain ⟨PY,QY,rfl⟩:=aL T9;have Sv:Gr V w6:=⟨P2.os.trans (O0.out.trans gA).os,P2.tape.trans (O0.out.trans gA).tape,P2.output.trans (O0.out.trans gA).output,Nat.le_trans (O0.out.trans gA).size P2.size,fun i hi hne=>(P2.block i (Nat.lt_of_lt_of_le hi (O0.out.trans gA).size) (fun e=>by have:=(E9.out.lt i e.symm).1;omega)).trans ((O0.out.trans gA).block i hi hne)⟩;have J9:∀e∈es++ [(⟨.slice a1 u.aA.length c1,.slice a2 u.aD.length c2,.slice a3 u.aE.length c3,.slice a4 u.aB.length c4,.slice a5 u.aC.length c5,u⟩:LU)],cO (kW w6 (Value.slice PY (es.length+1) QY).ownBlock) e.v e.u:=by
          intro e he;have hkc:=uA OY rfl P2 G9;rcases List.mem_append.1 he with he|he
          · exact ((HRU.out e he).gr (tO (E0.trans gA) (fun b hb=>(E9.out.lt b hb).2))).kc hkc
          · simp only [List.mem_singleton] at he;subst he;refine cO.kc ?_ hkc;refine (dX.to (B:=C) (dX.kp (hF.kp gA.kp) (fun q hq JD=>?_)));refine jr _ _ _ (fun e=>?_);have:=(E9.out.lt q e).2
            omega
         have Ce:=aH Ma;have Sf:=aH T9;have HRN:=aH J9;have RY:=aH Sv;clear hd E0 hF gA OY Ma T9 P2 G9 Sv J9 VI Gi hsA;go_wp2_with (at_builtin;refine Lib.wpList_append_run _ rfl _ _ _ _ rfl _ _ rfl rfl _ _ Ce.out ?_)
         refine ⟨⟨k+1,es++ [⟨.slice a1 u.aA.length c1,.slice a2 u.aD.length c2,.slice a3 u.aE.length c3,.slice a4 u.aB.length c4,.slice a5 u.aC.length c5,u⟩],us++ [u],Q6,J0,by simp [Jr.out],?_,?_,HRN.out,Gw.out,RY.out⟩,by simp [intOf];omega⟩
         · have Rh:=congrArg List.length TI.out;simp only [List.length_map,List.length_take] at Rh;rw [List.map_append,TI.out];have:us.length<=6:=by omega
           rw [List.take_of_length_le Q5,List.take_of_length_le gS];rfl
         · rw [List.length_append,List.flatMap_append];exact Sf.out
       · have i6:¬(es.length:Int)<=6:=by omega
         have d6:decide ((es.length:Int)<=6)=false:=by simpa using i6
         have gA:=(Gr.refl w2).alloc (.cells #[.slice a1 u.aA.length c1,.slice a2 u.aD.length c2,.slice a3 u.aE.length c3,.slice a4 u.aB.length c4,.slice a5 u.aC.length c5] 29);have S7:=aH (NY.out.trans gA);clear hd E0 hF gA VI Gi;go_wp2_with fail
         refine ⟨⟨k+1,es,us++ [u],Q6,J0,by simp [Jr.out],?_,dA E9.out S7.out,fun e he=>(HRU.out e he).gr (tO S7.out (fun b hb=>(E9.out.lt b hb).2)),Gw.out,C6.out.trans S7.out⟩,by simp [intOf];omega⟩;have Rh:=congrArg List.length TI.out;simp only [List.length_map,List.length_take] at Rh;rw [TI.out,List.take_append_of_le_length Q5]
    · have L7:k=ss.length:=by omega
      subst L7;have SQ:Hid (dZ 0 ss=.inl us):=aH (by rw [MY.out,List.drop_length];simp [dZ,l8]);have TQ:=aH (wK wr (es.map (·.u)) _ (vS E9.out (fun e he=>(HRU.out e he).kc (zT E9.out rfl))));rw [TI.out] at TQ;clear J0 hk;go_wp2_with fail
      refine TQ.out.mono ?_;rintro z w2 ⟨E0,⟨v,u,hl,rfl,hv⟩|⟨e,kk,hl,rfl⟩⟩
      · rw [nz] at hl;obtain ⟨a1,a2,a3,a4,a5,c1,c2,c3,c4,c5,rfl,-⟩:=hv.runit.parts;have gA:=(Gr.refl w2).alloc (.cells #[.slice a1 u.aA.length c1,.slice a2 u.aD.length c2,.slice a3 u.aE.length c3,.slice a4 u.aB.length c4,.slice a5 u.aC.length c5] 29);have TY:=aH (hv.runit.gr gA);have VY:=aH (ug u (ID.out u) _ _ TY.out);have S7:=aH (C6.out.trans (E0.trans gA));have H9:=aH (heap_alloc_new w2 (.cells #[.slice a1 u.aA.length c1,.slice a2 u.aD.length c2,.slice a3 u.aE.length c3,.slice a4 u.aB.length c4,.slice a5 u.aC.length c5] 29));have HL:=aH hl;clear hl hv E0 gA TQ;go_wp2_with fail
        generalize w2.alloc (.cells #[.slice a1 u.aA.length c1,.slice a2 u.aD.length c2,.slice a3 u.aE.length c3,.slice a4 u.aB.length c4,.slice a5 u.aC.length c5] 29)=w3 at TY VY S7 H9 |-;refine VY.out.mono ?_;rintro z w4 ⟨rfl,Mm⟩;have T4:=nQ Mm;have O1:=aH (S7.out.trans T4);have WY:=aH (TY.out.gr T4);have Zd:=(O1.out.block W.heap.size (by have:=Hl.out;omega) Q6).trans H6.out;have Kr:=aH Zd;have Hr:=(T4.block w2.heap.size (Array.getElem?_eq_some_iff.1 H9.out).1 Q6).trans H9.out;have y1:w4.cell? ⟨w2.heap.size,0,none⟩=some (.slice a1 u.aA.length c1):=by rw [aJ Hr];rfl
        have y2:w4.cell? ⟨w2.heap.size,1,none⟩=some (.slice a2 u.aD.length c2):=by rw [aJ Hr];rfl
        have y3:w4.cell? ⟨w2.heap.size,2,none⟩=some (.slice a3 u.aE.length c3):=by rw [aJ Hr];rfl
        have y4:w4.cell? ⟨w2.heap.size,3,none⟩=some (.slice a4 u.aB.length c4):=by rw [aJ Hr];rfl
        have y5:w4.cell? ⟨w2.heap.size,4,none⟩=some (.slice a5 u.aC.length c5):=by rw [aJ Hr];rfl
        obtain ⟨⟨o0,o1,o2,o3,o4,o5,o6⟩,f0,f1,f2,f3,f4,f5,f6⟩:=gR Zd;clear Mm T4 Zd Hr VY;by_cases KD:(aY u).1=0
        · have YC:=pr KD;have Sm:Hid (li M ss fuel heap=M u):=aH (by
           rw [HP.out,SQ.out];show (match cR us with| .inr (e,k)=>_| .inl u=>_)=_
           rw [HL.out];exact if_neg (by simp [KD]))
          have R9:=aH (HMC.out us SQ.out u w4 _ HL.out YC WY.out);rw [YC];clear YC KD o0 o1 o2 o3 o4 o5 o6 f0 f1 f2 f3 f4 f5 f6;go_wp2_with fail
          refine R9.out.mono ?_;rintro z w5 ⟨vo,rfl,⟨vt,rfl,Hw⟩,P1⟩;obtain ⟨ta,tc,rfl⟩:=Hw.shape;have Zd:=((O1.out.trans P1).block W.heap.size (by have:=Hl.out;omega) Q6).trans H6.out;have XY:=aH Zd;have T5:=aH (O1.out.trans P1);have VQ:=aH Hw;obtain ⟨⟨o0,o1,o2,o3,o4,o5,o6⟩,f0,f1,f2,f3,f4,f5,f6⟩:=gR Zd;clear Zd Hw P1 R9 y1 y2 y3 y4 y5;go_wp2_with fail
          rw [jq];have M1:=gZ (y0:=.int .i64 (M u).why) (y1:=.int .i64 (M u).unit) (y2:=.int .i64 (M u).at_) (y3:=.int .i64 (M u).e) (y4:=.int .i64 (M u).result) (y5:=.slice ta (M u).told.length tc) (y6:=.int .i64 (M u).steps) XY.out;have hwf:∀q,¬q=W.heap.size->(fG w5 W.heap.size (.int .i64 (M u).why) (.int .i64 (M u).unit) (.int .i64 (M u).at_) (.int .i64 (M u).e) (.int .i64 (M u).result) (.slice ta (M u).told.length tc) (.int .i64 (M u).steps)).heap[q]? =w5.heap[q]? :=fun q hq=>fh hq
          have Y':(fG w5 W.heap.size (.int .i64 (M u).why) (.int .i64 (M u).unit) (.int .i64 (M u).at_) (.int .i64 (M u).e) (.int .i64 (M u).result) (.slice ta (M u).told.length tc) (.int .i64 (M u).steps)).heap.size=w5.heap.size:=gT;have J6:=lh w5 W.heap.size (.int .i64 (M u).why) (.int .i64 (M u).unit) (.int .i64 (M u).at_) (.int .i64 (M u).e) (.int .i64 (M u).result) (.slice ta (M u).told.length tc) (.int .i64 (M u).steps);generalize fG w5 W.heap.size (.int .i64 (M u).why) (.int .i64 (M u).unit) (.int .i64 (M u).at_) (.int .i64 (M u).e) (.int .i64 (M u).result) (.slice ta (M u).told.length tc) (.int .i64 (M u).steps)=WE at M1 hwf Y' J6 |-;have t0:WE.cell? ⟨W.heap.size,0,none⟩=some (.int .i64 (M u).why):=by rw [aJ M1];rfl
          have t1:WE.cell? ⟨W.heap.size,1,none⟩=some (.int .i64 (M u).unit):=by rw [aJ M1];rfl
          have t2:WE.cell? ⟨W.heap.size,2,none⟩=some (.int .i64 (M u).at_):=by rw [aJ M1];rfl
          have t3:WE.cell? ⟨W.heap.size,3,none⟩=some (.int .i64 (M u).e):=by rw [aJ M1];rfl
          have t4:WE.cell? ⟨W.heap.size,4,none⟩=some (.int .i64 (M u).result):=by rw [aJ M1];rfl
          have t5:WE.cell? ⟨W.heap.size,5,none⟩=some (.slice ta (M u).told.length tc):=by rw [aJ M1];rfl
          have t6:WE.cell? ⟨W.heap.size,6,none⟩=some (.int .i64 (M u).steps):=by rw [aJ M1];rfl
          refine bodyPost_ret (v:=.agg #[.int .i64 (M u).why,.int .i64 (M u).unit,.int .i64 (M u).at_,.int .i64 (M u).e,.int .i64 (M u).result,.slice ta (M u).told.length tc,.int .i64 (M u).steps]) (by simp [results,Tryz.results15,go_sem,t0,t1,t2,t3,t4,t5,t6]) rfl ?_;have hwi:dP W.heap.size WE (.slice ta (M u).told.length tc) (M u).told:=(VQ.out.kp (fun q hq _=>hwf q (by have:=O1.out.size;have:=Hl.out;omega))).mono (by have:=O1.out.size;have:=Hl.out;omega);rw [Sm.out];have K8:=F9.out.trans T5.out;exact ⟨_,rfl,⟨_,rfl,hwi⟩,⟨J6.1.trans K8.os,J6.2.1.trans K8.tape,J6.2.2.trans K8.output,by rw [Y'];exact K8.size,fun i hi hne=>(hwf i Q5).trans (K8.block i hi hne)⟩⟩
        · have Oe:((aY u).1 != 0)=true:=by simpa using KD
          have Sm:Hid (li M ss fuel heap=⟨4,((aY u).2.1:Int),((aY u).2.2:Int),(aY u).1,0,[],0⟩):=aH (by
           rw [HP.out,SQ.out];show (match cR us with| .inr (e,k)=>_| .inl u=>_)=_
           rw [HL.out];exact if_pos KD)
          generalize (aY u).1=e4 at Oe Sm |-;generalize (aY u).2.1=n4 at Sm |-;generalize (aY u).2.2=p4 at Sm |-;clear KD y1 y2 y3 y4 y5;go_wp2_with fail
          rw [jq];have M1:=gZ (y0:=.int .i64 4) (y1:=.int .i64 (n4:Int)) (y2:=.int .i64 (p4:Int)) (y3:=.int .i64 e4) (y4:=.int .i64 0) (y5:=.slice none 0 0) (y6:=.int .i64 0) Kr.out;have hwf:∀q,¬q=W.heap.size->(fG w4 W.heap.size (.int .i64 4) (.int .i64 (n4:Int)) (.int .i64 (p4:Int)) (.int .i64 e4) (.int .i64 0) (.slice none 0 0) (.int .i64 0)).heap[q]? =w4.heap[q]? :=fun q hq=>fh hq
          have Y':(fG w4 W.heap.size (.int .i64 4) (.int .i64 (n4:Int)) (.int .i64 (p4:Int)) (.int .i64 e4) (.int .i64 0) (.slice none 0 0) (.int .i64 0)).heap.size=w4.heap.size:=gT;have J6:=lh w4 W.heap.size (.int .i64 4) (.int .i64 (n4:Int)) (.int .i64 (p4:Int)) (.int .i64 e4) (.int .i64 0) (.slice none 0 0) (.int .i64 0);generalize fG w4 W.heap.size (.int .i64 4) (.int .i64 (n4:Int)) (.int .i64 (p4:Int)) (.int .i64 e4) (.int .i64 0) (.slice none 0 0) (.int .i64 0)=WE at M1 hwf Y' J6 |-;have t0:WE.cell? ⟨W.heap.size,0,none⟩=some (.int .i64 4):=by rw [aJ M1];rfl
          have t1:WE.cell? ⟨W.heap.size,1,none⟩=some (.int .i64 (n4:Int)):=by rw [aJ M1];rfl
          have t2:WE.cell? ⟨W.heap.size,2,none⟩=some (.int .i64 (p4:Int)):=by rw [aJ M1];rfl
          have t3:WE.cell? ⟨W.heap.size,3,none⟩=some (.int .i64 e4):=by rw [aJ M1];rfl
          have t4:WE.cell? ⟨W.heap.size,4,none⟩=some (.int .i64 0):=by rw [aJ M1];rfl
          have t5:WE.cell? ⟨W.heap.size,5,none⟩=some (.slice none 0 0):=by rw [aJ M1];rfl
          have t6:WE.cell? ⟨W.heap.size,6,none⟩=some (.int .i64 0):=by rw [aJ M1];rfl
          refine bodyPost_ret (v:=.agg #[.int .i64 4,.int .i64 (n4:Int),.int .i64 (p4:Int),.int .i64 e4,.int .i64 0,.slice none 0 0,.int .i64 0]) (by simp [results,Tryz.results15,go_sem,t0,t1,t2,t3,t4,t5,t6]) rfl ?_;rw [Sm.out];have K8:=F9.out.trans O1.out;exact ⟨_,rfl,⟨_,rfl,em _⟩,⟨J6.1.trans K8.os,J6.2.1.trans K8.tape,J6.2.2.trans K8.output,by rw [Y'];exact K8.size,fun i hi hne=>(hwf i Q5).trans (K8.block i hi hne)⟩⟩
      · rw [nz] at hl;have hne:¬e=0:=xB hl;have Oe:(e != 0)=true:=by simpa using hne
        have Sm:Hid (li M ss fuel heap=⟨3,(kk:Int),0,e,0,[],0⟩):=aH (by
         rw [HP.out,SQ.out];show (match cR us with| .inr (e,k)=>_| .inl u=>_)=_
         rw [hl])
        have X8:=aH ((C6.out.trans E0).alloc (.cells #[.slice none 0 0,.slice none 0 0,.slice none 0 0,.slice none 0 0,.slice none 0 0] 29));have Zd:=(X8.out.block W.heap.size (by have:=Hl.out;omega) Q6).trans H6.out;have Kr:=aH Zd;obtain ⟨⟨o0,o1,o2,o3,o4,o5,o6⟩,f0,f1,f2,f3,f4,f5,f6⟩:=gR Zd;clear Zd hl E0 TQ;go_wp2_with fail
        generalize w2.alloc (.cells #[.slice none 0 0,.slice none 0 0,.slice none 0 0,.slice none 0 0,.slice none 0 0] 29)=wE at Kr X8 |-;rw [jq];have M1:=gZ (y0:=.int .i64 3) (y1:=.int .i64 (kk:Int)) (y2:=.int .i64 0) (y3:=.int .i64 e) (y4:=.int .i64 0) (y5:=.slice none 0 0) (y6:=.int .i64 0) Kr.out;have hwf:∀q,¬q=W.heap.size->(fG wE W.heap.size (.int .i64 3) (.int .i64 (kk:Int)) (.int .i64 0) (.int .i64 e) (.int .i64 0) (.slice none 0 0) (.int .i64 0)).heap[q]? =wE.heap[q]? :=fun q hq=>fh hq
        have Y':(fG wE W.heap.size (.int .i64 3) (.int .i64 (kk:Int)) (.int .i64 0) (.int .i64 e) (.int .i64 0) (.slice none 0 0) (.int .i64 0)).heap.size=wE.heap.size:=gT;have J6:=lh wE W.heap.size (.int .i64 3) (.int .i64 (kk:Int)) (.int .i64 0) (.int .i64 e) (.int .i64 0) (.slice none 0 0) (.int .i64 0);generalize fG wE W.heap.size (.int .i64 3) (.int .i64 (kk:Int)) (.int .i64 0) (.int .i64 e) (.int .i64 0) (.slice none 0 0) (.int .i64 0)=WE at M1 hwf Y' J6 |-;have t0:WE.cell? ⟨W.heap.size,0,none⟩=some (.int .i64 3):=by rw [aJ M1];rfl
        have t1:WE.cell? ⟨W.heap.size,1,none⟩=some (.int .i64 (kk:Int)):=by rw [aJ M1];rfl
        have t2:WE.cell? ⟨W.heap.size,2,none⟩=some (.int .i64 0):=by rw [aJ M1];rfl
        have t3:WE.cell? ⟨W.heap.size,3,none⟩=some (.int .i64 e):=by rw [aJ M1];rfl
        have t4:WE.cell? ⟨W.heap.size,4,none⟩=some (.int .i64 0):=by rw [aJ M1];rfl
        have t5:WE.cell? ⟨W.heap.size,5,none⟩=some (.slice none 0 0):=by rw [aJ M1];rfl
        have t6:WE.cell? ⟨W.heap.size,6,none⟩=some (.int .i64 0):=by rw [aJ M1];rfl
        refine bodyPost_ret (v:=.agg #[.int .i64 3,.int .i64 (kk:Int),.int .i64 0,.int .i64 e,.int .i64 0,.slice none 0 0,.int .i64 0]) (by simp [results,Tryz.results15,go_sem,t0,t1,t2,t3,t4,t5,t6]) rfl ?_;rw [Sm.out];have K8:=F9.out.trans X8.out;exact ⟨_,rfl,⟨_,rfl,em _⟩,⟨J6.1.trans K8.os,J6.2.1.trans K8.tape,J6.2.2.trans K8.output,by rw [Y'];exact K8.size,fun i hi hne=>(hwf i Q5).trans (K8.block i hi hne)⟩⟩
end Go.Proofs.YtkgncijcnlfhiabGreat
