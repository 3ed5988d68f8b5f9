import Derived.Test.YtkgncijcnlfhiaaGreatZn
namespace Go.Proofs.YtkgncijcnlfhiaaGreat
set_option linter.unusedVariables false
set_option linter.unusedSimpArgs false
open Go.RowKit
attribute [local go_sem ↓] Go.wp_at_zero Go.wp_at_succ
def eg(w:World)(b:Nat)(y0 y1 y2 y3 y4 y5 y6:Value):World:=((((((w.setCell ⟨b,0,none⟩ y0).setCell ⟨b,1,none⟩ y1).setCell ⟨b,2,none⟩ y2).setCell ⟨b,3,none⟩ y3).setCell ⟨b,4,none⟩ y4).setCell ⟨b,5,none⟩ y5).setCell ⟨b,6,none⟩ y6
theorem BO(w:World)(b:Nat)(y0 y1 y2 y3 y4 y5 y6:Value):((((((w.setCell ⟨b,0,none⟩ y0).setCell ⟨b,1,none⟩ y1).setCell ⟨b,2,none⟩ y2).setCell ⟨b,3,none⟩ y3).setCell ⟨b,4,none⟩ y4).setCell ⟨b,5,none⟩ y5).setCell ⟨b,6,none⟩ y6=eg w b y0 y1 y2 y3 y4 y5 y6:=rfl
theorem ev{w:World}{b k:Nat}{y0 y1 y2 y3 y4 y5 y6:Value}(h:¬k=b):(eg w b y0 y1 y2 y3 y4 y5 y6).heap[k]? =w.heap[k]? :=by
 unfold eg;rw [Below.heap_setCell _ _ _ _ h,Below.heap_setCell _ _ _ _ h,Below.heap_setCell _ _ _ _ h,Below.heap_setCell _ _ _ _ h,Below.heap_setCell _ _ _ _ h,Below.heap_setCell _ _ _ _ h,Below.heap_setCell _ _ _ _ h]
theorem kZ(w:World)(b:Nat)(y0 y1 y2 y3 y4 y5 y6:Value):(eg w b y0 y1 y2 y3 y4 y5 y6).os=w.os∧(eg w b y0 y1 y2 y3 y4 y5 y6).tape=w.tape∧(eg w b y0 y1 y2 y3 y4 y5 y6).output=w.output:=by
 have h1:∀(w:World) (a:Addr) (v:Value),(w.setCell a v).os=w.os:=fun _ _ _=>rfl
 have h2:∀(w:World) (a:Addr) (v:Value),(w.setCell a v).tape=w.tape:=fun _ _ _=>rfl
 have h3:∀(w:World) (a:Addr) (v:Value),(w.setCell a v).output=w.output:=fun _ _ _=>rfl
 unfold eg;simp only [h1,h2,h3,and_self]
theorem ff{w:World}{b:Nat}{y0 y1 y2 y3 y4 y5 y6:Value}:(eg w b y0 y1 y2 y3 y4 y5 y6).heap.size=w.heap.size:=by unfold eg;simp
theorem BE{w:World}{b:Nat}{y0 y1 y2 y3 y4 y5 y6 z0 z1 z2 z3 z4 z5 z6:Value}{t:TypeId}(h:w.heap[b]? =some (.cells #[z0,z1,z2,z3,z4,z5,z6] t (0,0))):(eg w b y0 y1 y2 y3 y4 y5 y6).heap[b]? =some (.cells #[y0,y1,y2,y3,y4,y5,y6] t (0,0)):=by
 unfold eg;have h0:=heap_setCell_same w b 0 _ t y0 h;have h1:=heap_setCell_same _ b 1 _ t y1 h0;have h2:=heap_setCell_same _ b 2 _ t y2 h1;have h3:=heap_setCell_same _ b 3 _ t y3 h2;have h4:=heap_setCell_same _ b 4 _ t y4 h3;have h5:=heap_setCell_same _ b 5 _ t y5 h4;have h6:=heap_setCell_same _ b 6 _ t y6 h5;exact h6.trans (by simp)
theorem fh{w:World}{b:Nat}{t:TypeId}(h:w.heap[b]? =some (.cells #[.int .i64 0,.int .i64 0,.int .i64 0,.int .i64 0,.int .i64 0,.slice none 0 0,.int .i64 0] t (0,0))):(w.cell? ⟨b,0,none⟩=some (.int .i64 0)∧w.cell? ⟨b,1,none⟩=some (.int .i64 0)∧w.cell? ⟨b,2,none⟩=some (.int .i64 0)∧w.cell? ⟨b,3,none⟩=some (.int .i64 0)∧w.cell? ⟨b,4,none⟩=some (.int .i64 0)∧w.cell? ⟨b,5,none⟩=some (.slice none 0 0)∧w.cell? ⟨b,6,none⟩=some (.int .i64 0))∧w.frozen? ⟨b,0,none⟩=false∧w.frozen? ⟨b,1,none⟩=false∧w.frozen? ⟨b,2,none⟩=false∧w.frozen? ⟨b,3,none⟩=false∧w.frozen? ⟨b,4,none⟩=false∧w.frozen? ⟨b,5,none⟩=false∧w.frozen? ⟨b,6,none⟩=false:=by
 refine ⟨⟨?_,?_,?_,?_,?_,?_,?_⟩,aR h,aR h,aR h,aR h,aR h,aR h,aR h⟩<;>(rw [aI h];rfl)
structure LU where
 v1:Value
 v2:Value
 v3:Value
 v4:Value
 v5:Value
 u:aK
def cU(e:LU):List Value:= [e.v1,e.v2,e.v3,e.v4,e.v5]
theorem yV(e:LU):(cU e).length=5:=rfl
def LU.v(e:LU):Value:=.agg #[e.v1,e.v2,e.v3,e.v4,e.v5]
theorem Tryz.infUu:(Tryz.prog.info? 33).map (fun i=>(i.zero,i.size,i.bytes))=some (some (.agg #[.slice none 0 0,.slice none 0 0,.slice none 0 0,.slice none 0 0,.slice none 0 0]),5,120):=by kernel_rfl
theorem Tryz.uUu:Tryz.prog.underlying 42=some (.slice 33):=by kernel_rfl
theorem uL{w:World}{B:Nat}{e:TypeId}{v:Value}{es:List LU}(h:w.ownsRow B e 5 v es.length (es.flatMap cU))(hu:∀x∈es,cD w x.v x.u):dh w v (es.map (·.u)):=by
 obtain ⟨ao,cap,rfl⟩:=aL h;refine ⟨ao,cap,by simp,by simpa using gd h,fun i x hi=>?_⟩;simp only [List.getElem?_map,Option.map_eq_some_iff] at hi;obtain ⟨e,he,rfl⟩:=hi;have hl:i < es.length:=(List.getElem?_eq_some_iff.1 he).1;obtain ⟨b,cp,e1,e2⟩:=dN h (j:=i * 5) (by omega);simp only [Value.slice.injEq,true_and] at e1;obtain ⟨rfl,rfl⟩:=e1;have hc:∀r,r < 5→w.cell? ⟨b,0+i * 5+r,none⟩=(cU e)[r]? :=fun r hr=>by
  obtain ⟨b',cp',e1',e2'⟩:=dN h (j:=i * 5+r) (by omega);simp only [Value.slice.injEq,Option.some.injEq,Addr.mk.injEq,and_true,true_and] at e1';obtain ⟨rfl,-⟩:=e1';rw [Nat.zero_add,e2'];exact dL yV es i r e he hr
 exact ⟨b,0,e.v1,e.v2,e.v3,e.v4,e.v5,rfl,hc 0 (by omega),hc 1 (by omega),hc 2 (by omega),hc 3 (by omega),hc 4 (by omega),hu e (List.mem_of_getElem? he)⟩
theorem uO{t:List UInt8}{e:Int}{p:Nat}(h:dec t=.inr (e,p)):¬e=0:=by
 rintro rfl;unfold dec at h
 (repeat' split at h)<;>simp at h
theorem wN{us:List aK}{e:Int}{k:Nat}(h:bw us=.inr (e,k)):¬e=0:=by
 rintro rfl;cases us with
 | nil=>simp [bw] at h
 | cons a t=>
  rw [bw] at h
  (repeat' split at h)<;>first|(simp at h;done)|(dsimp only at h;split at h<;>simp at h)
def rn(B:Nat)(w:World)(v:Value)(o:i4):Prop:=∃vt,v=.agg #[.int .i64 o.why,.int .i64 o.unit,.int .i64 o.at_,.int .i64 o.e,.int .i64 o.result,vt,.int .i64 o.steps]∧bY B w vt o.told
def uY(M:aK→i4)(fuel heap:Int)(us:List aK):Prop:=∀(u:aK) (V:World) (v:Value),bw us=.inl u→aa u=(0,0,0)→cD V v u→Calls Tryz.prog 31 #[v,.int .i64 fuel,.int .i64 heap] V fun x w'=>∃vo,x=.returned vo∧rn V.heap.size w' vo (M u)∧Gr V w'
def Ac(W:World)(o:i4)(x:Ending)(w':World):Prop:=∃vo,x=.returned vo∧rn W.heap.size w' vo o∧Gr W w'
theorem eQ{B:Nat}(w:World):bY B w (.slice none 0 0) []:=⟨none,0,rfl,Nat.zero_le _,fun i y hi=>by simp at hi⟩
theorem pV{u:aK}(h:(aa u).1=0):aa u=(0,0,0):=by
 have hf:∀(l:List aO) (k:Nat),(fU u k l).1=0→fU u k l=(0,0,0):=by
  intro l
  induction l with
  | nil=>intro k _;rfl
  | cons f l ih=>
   intro k h;rw [fU] at h ⊢;cases hw:et u f with
   | none=>rw [hw] at h;exact ih _ h
   | some q=>rw [hw] at h;simp at h
 unfold aa at h ⊢;by_cases hu:ak u=true
 · rw [if_pos hu] at h ⊢;exact hf _ _ h
 · rw [if_neg hu] at h;simp at h
set_option maxRecDepth 100000 in
set_option maxHeartbeats 4000000 in
theorem xe(M:aK→i4)(fuel heap:Int)(ss:List (List UInt8))(vl:Value)(W:World)(HT:∀u,kF u)(hR:wo W vl ss)(hM:∀us,dS 0 ss=.inl us→uY M fuel heap us)(hss:ss.length≤1000000):
 Calls Tryz.prog 20 #[vl,.int .i64 fuel,.int .i64 heap] W (Ac W (js M ss fuel heap)):=by
 obtain ⟨ao,cap,rfl,hm,hc⟩:=hR;have HC:=aH hc;have HTC:=aH HT;have HMC:=aH hM;have hb0:=heap_alloc_new W (.cells #[.int .i64 0,.int .i64 0,.int .i64 0,.int .i64 0,.int .i64 0,.slice none 0 0,.int .i64 0] 39);have gV:Gr W (W.alloc (.cells #[.int .i64 0,.int .i64 0,.int .i64 0,.int .i64 0,.int .i64 0,.slice none 0 0,.int .i64 0] 39)):=(Gr.refl W).alloc _;have sV:(W.alloc (.cells #[.int .i64 0,.int .i64 0,.int .i64 0,.int .i64 0,.int .i64 0,.slice none 0 0,.int .i64 0] 39)).heap.size=W.heap.size+1:=by simp
 have HB0:=aH hb0;have HGV:=aH gV;have HSV:=aH sV;clear hc HT hM hb0 gV sV;by_cases hbad:fuel < 0∨200000 < fuel∨heap < 0∨5000 < heap
 · have HP:Hid (js M ss fuel heap=⟨1,0,0,0,0,[],0⟩):=aH (by unfold js;rw [if_pos hbad]);obtain ⟨⟨o0,o1,o2,o3,o4,o5,o6⟩,f0,f1,f2,f3,f4,f5,f6⟩:=fh HB0.out;by_cases h1:fuel < 0
   · have d1:decide (fuel < 0)=true:=by simpa using h1
     clear hbad;go_enter Tryz.func20,Tryz.ntmps20
     go_wp2_with fail
     refine bodyPost_ret (v:=.agg #[.int .i64 1,.int .i64 0,.int .i64 0,.int .i64 0,.int .i64 0,.slice none 0 0,.int .i64 0]) (by simp [results,Tryz.results20,go_sem]) rfl ?_;rw [HP.out];exact ⟨_,rfl,⟨_,rfl,eQ _⟩,(Gr.refl W).alloc _⟩
   · have d1:decide (fuel < 0)=false:=by simpa using h1
     by_cases h2:200000 < fuel
     · have d2:decide (200000 < fuel)=true:=by simpa using h2
       clear hbad;go_enter Tryz.func20,Tryz.ntmps20
       go_wp2_with fail
       refine bodyPost_ret (v:=.agg #[.int .i64 1,.int .i64 0,.int .i64 0,.int .i64 0,.int .i64 0,.slice none 0 0,.int .i64 0]) (by simp [results,Tryz.results20,go_sem]) rfl ?_;rw [HP.out];exact ⟨_,rfl,⟨_,rfl,eQ _⟩,(Gr.refl W).alloc _⟩
     · have d2:decide (200000 < fuel)=false:=by simpa using h2
       by_cases h3:heap < 0
       · have d3:decide (heap < 0)=true:=by simpa using h3
         clear hbad;go_enter Tryz.func20,Tryz.ntmps20
         go_wp2_with fail
         refine bodyPost_ret (v:=.agg #[.int .i64 1,.int .i64 0,.int .i64 0,.int .i64 0,.int .i64 0,.slice none 0 0,.int .i64 0]) (by simp [results,Tryz.results20,go_sem]) rfl ?_;rw [HP.out];exact ⟨_,rfl,⟨_,rfl,eQ _⟩,(Gr.refl W).alloc _⟩
       · have d3:decide (heap < 0)=false:=by simpa using h3
         have h4:5000 < heap:=by rcases hbad with h|h|h|h<;>first|exact absurd h h1|exact absurd h h2|exact absurd h h3|exact h
         have d4:decide (5000 < heap)=true:=by simpa using h4
         clear hbad;go_enter Tryz.func20,Tryz.ntmps20
         go_wp2_with fail
         refine bodyPost_ret (v:=.agg #[.int .i64 1,.int .i64 0,.int .i64 0,.int .i64 0,.int .i64 0,.slice none 0 0,.int .i64 0]) (by simp [results,Tryz.results20,go_sem]) rfl ?_;rw [HP.out];exact ⟨_,rfl,⟨_,rfl,eQ _⟩,(Gr.refl W).alloc _⟩
 · have h1:¬fuel < 0:=fun h=>hbad (.inl h)
   have h2:¬200000 < fuel:=fun h=>hbad (.inr (.inl h))
   have h3:¬heap < 0:=fun h=>hbad (.inr (.inr (.inl h)))
   have h4:¬5000 < heap:=fun h=>hbad (.inr (.inr (.inr h)))
   have d1:decide (fuel < 0)=false:=by simpa using h1
   have d2:decide (200000 < fuel)=false:=by simpa using h2
   have d3:decide (heap < 0)=false:=by simpa using h3
   have d4:decide (5000 < heap)=false:=by simpa using h4
   have HP:Hid (js M ss fuel heap=match dS 0 ss with
    | .inr (e,k,p)=>⟨2,(k:Int),(p:Int),e,0,[],0⟩
    | .inl us=>match bw us with
     | .inr (e,k)=>⟨3,(k:Int),0,e,0,[],0⟩
     | .inl u=>if (aa u).1≠0 then ⟨4,((aa u).2.1:Int),((aa u).2.2:Int),(aa u).1,0,[],0⟩ else M u):=aH (by unfold js;rw [if_neg hbad];rfl)
   clear hbad;go_enter Tryz.func20,Tryz.ntmps20
   go_wp2_with fail
   generalize (W.alloc (.cells #[.int .i64 0,.int .i64 0,.int .i64 0,.int .i64 0,.int .i64 0,.slice none 0 0,.int .i64 0] 39))=V at HB0 HGV HSV ⊢;clear h1 h2 h3 h4 d1 d2 d3 d4;go_loopw [7,36] (fun vr i wr=>∃(k:Nat) (es:List LU) (us:List aK),i=.int .i64 (k:Int)∧k≤ss.length∧us.length=k∧es.map (·.u)=us.take 7∧wr.ownsRow V.heap.size 33 5 vr es.length (es.flatMap cU)∧(∀e∈es,cD (jr wr vr.ownBlock) e.v e.u)∧dS 0 ss=kl us (dS k (ss.drop k))∧Gr V wr) (fun _ i _=>ss.length - (intOf i).toNat)
   case atStart=>exact ⟨0,[],[],rfl,Nat.zero_le _,rfl,rfl,World.ownsRow_nil _ _ _ _,by simp,by cases h:dS 0 ss<;>simp [kl,h],Gr.refl _⟩
   case round=>
    obtain ⟨k,es,us,rfl,hk,hul,hes,hown,hru,hda,hgr⟩:=hrel;have HUL:=aH hul;have HES:=aH hes;have HOW:=aH hown;have HRU:=aH hru;have HDA:=aH hda;have HGR:=aH hgr;obtain ⟨rao,rcp,rfl⟩:=aL hown;have hel:es.length≤7:=by have:=congrArg List.length hes;simp at this;omega
    clear hul hes hown hru hda hgr;by_cases hlt:k < ss.length
    · obtain ⟨x,hx⟩:=aY hlt;obtain ⟨b,off,s,rfl,hcs,hsx,hsz⟩:=HC.out k x hx;have hcs:=(HGV.out.trans HGR.out).cell hcs (by simp);have hki:(k:Int) < (ss.length:Int):=by omega
      have hw:IntKind.i64.wrap ((k:Int)+1)=(k:Int)+1:=Go.IntWalk.i64_in _ (by omega);have HDR:Hid (ss.drop k=x :: ss.drop (k+1)):=aH (by
       rw [List.drop_eq_getElem_cons hlt];have:ss[k]=x:=by rw [List.getElem?_eq_getElem hlt] at hx;exact Option.some.inj hx
       rw [this])
      have HDC:=aH (qZ s wr hsz);rw [hsx] at HDC;clear hx hsx;go_wp2_with fail
      refine HDC.out.mono ?_;intro z w2 hz;cases hd:dec x with
      | inr q=>
       obtain ⟨e,p⟩:=q;rw [hd] at hz;obtain ⟨rfl,hg2⟩:=hz;have hne:¬e=0:=uO hd;have hnb:(e != 0)=true:=by simpa using hne
       have HPE:Hid (js M ss fuel heap=⟨2,(k:Int),(p:Int),e,0,[],0⟩):=aH (by rw [HP.out,HDA.out,HDR.out,rX hd]);have HG2:=aH (HGR.out.trans hg2);have hbk:=(((HGR.out.trans hg2).alloc (.cells #[.slice none 0 0,.slice none 0 0,.slice none 0 0,.slice none 0 0,.slice none 0 0] 33)).block W.heap.size (by have:=HSV.out;omega) (by simp)).trans HB0.out;have HBK:=aH hbk;have HGF:=aH ((HGR.out.trans hg2).alloc (.cells #[.slice none 0 0,.slice none 0 0,.slice none 0 0,.slice none 0 0,.slice none 0 0] 33));obtain ⟨⟨o0,o1,o2,o3,o4,o5,o6⟩,f0,f1,f2,f3,f4,f5,f6⟩:=fh hbk;clear hd hg2 hbk HDC hcs;go_wp2_with fail
       generalize w2.alloc (.cells #[.slice none 0 0,.slice none 0 0,.slice none 0 0,.slice none 0 0,.slice none 0 0] 33)=wE at HBK HGF ⊢;rw [BO];have hwb:=BE (y0:=.int .i64 2) (y1:=.int .i64 (k:Int)) (y2:=.int .i64 (p:Int)) (y3:=.int .i64 e) (y4:=.int .i64 0) (y5:=.slice none 0 0) (y6:=.int .i64 0) HBK.out;have hwf:∀q,¬q=W.heap.size→(eg wE W.heap.size (.int .i64 2) (.int .i64 (k:Int)) (.int .i64 (p:Int)) (.int .i64 e) (.int .i64 0) (.slice none 0 0) (.int .i64 0)).heap[q]? =wE.heap[q]? :=fun q hq=>ev hq
       have hws:(eg wE W.heap.size (.int .i64 2) (.int .i64 (k:Int)) (.int .i64 (p:Int)) (.int .i64 e) (.int .i64 0) (.slice none 0 0) (.int .i64 0)).heap.size=wE.heap.size:=ff;have hWEe:=kZ wE W.heap.size (.int .i64 2) (.int .i64 (k:Int)) (.int .i64 (p:Int)) (.int .i64 e) (.int .i64 0) (.slice none 0 0) (.int .i64 0);generalize eg wE W.heap.size (.int .i64 2) (.int .i64 (k:Int)) (.int .i64 (p:Int)) (.int .i64 e) (.int .i64 0) (.slice none 0 0) (.int .i64 0)=WE at hwb hwf hws hWEe ⊢;have t0:WE.cell? ⟨W.heap.size,0,none⟩=some (.int .i64 2):=by rw [aI hwb];rfl
       have t1:WE.cell? ⟨W.heap.size,1,none⟩=some (.int .i64 (k:Int)):=by rw [aI hwb];rfl
       have t2:WE.cell? ⟨W.heap.size,2,none⟩=some (.int .i64 (p:Int)):=by rw [aI hwb];rfl
       have t3:WE.cell? ⟨W.heap.size,3,none⟩=some (.int .i64 e):=by rw [aI hwb];rfl
       have t4:WE.cell? ⟨W.heap.size,4,none⟩=some (.int .i64 0):=by rw [aI hwb];rfl
       have t5:WE.cell? ⟨W.heap.size,5,none⟩=some (.slice none 0 0):=by rw [aI hwb];rfl
       have t6:WE.cell? ⟨W.heap.size,6,none⟩=some (.int .i64 0):=by rw [aI hwb];rfl
       refine bodyPost_ret (v:=.agg #[.int .i64 2,.int .i64 (k:Int),.int .i64 (p:Int),.int .i64 e,.int .i64 0,.slice none 0 0,.int .i64 0]) (by simp [results,Tryz.results20,go_sem,t0,t1,t2,t3,t4,t5,t6]) rfl ?_;rw [HPE.out];have hgf:=HGV.out.trans HGF.out;exact ⟨_,rfl,⟨_,rfl,eQ _⟩,⟨hWEe.1.trans hgf.os,hWEe.2.1.trans hgf.tape,hWEe.2.2.trans hgf.output,by rw [hws];exact hgf.size,fun i hi hne=>(hwf i (by omega)).trans (hgf.block i hi hne)⟩⟩
      | inl u=>
       rw [hd] at hz;obtain ⟨v,C,rfl,hC,hF,hg2⟩:=hz;obtain ⟨a1,a2,a3,a4,a5,c1,c2,c3,c4,c5,rfl,-⟩:=hF.to.parts;have HDN:Hid (dS 0 ss=kl (us++ [u]) (dS (k+1) (ss.drop (k+1)))):=aH (by rw [HDA.out,HDR.out,rN hd]);have HF:=aH hF;have HG2:=aH (HGR.out.trans hg2);have HG2r:=aH hg2;by_cases h6:es.length≤6
       · have i6:(es.length:Int)≤6:=by omega
         have gA:=((Gr.refl w2).alloc (.cells #[.slice a1 u.aA.length c1,.slice a2 u.aD.length c2,.slice a3 u.aE.length c3,.slice a4 u.aB.length c4,.slice a5 u.aC.length c5] 33)).alloc (.cells #[.slice a1 u.aA.length c1,.slice a2 u.aD.length c2,.slice a3 u.aE.length c3,.slice a4 u.aB.length c4,.slice a5 u.aC.length c5] 33);have hoA:=cY HOW.out (hg2.trans gA);obtain ⟨v6,w6,hr6,ho6,hg6,hl6⟩:=dC (ty:=42) 42 33 _ Tryz.infUu Tryz.uUu rfl (by decide) (by decide) hoA (eD (w2.alloc (.cells #[.slice a1 u.aA.length c1,.slice a2 u.aD.length c2,.slice a3 u.aE.length c3,.slice a4 u.aB.length c4,.slice a5 u.aC.length c5] 33)) #[.slice a1 u.aA.length c1,.slice a2 u.aD.length c2,.slice a3 u.aE.length c3,.slice a4 u.aB.length c4,.slice a5 u.aC.length c5] 33 1) rfl (by intro q hq;simp at hq;rcases hq with rfl|rfl|rfl|rfl|rfl<;>rfl) (by omega) (by have:=HG2.out.size;simp;omega)
         have hsA:(w2.alloc (.cells #[.slice a1 u.aA.length c1,.slice a2 u.aD.length c2,.slice a3 u.aE.length c3,.slice a4 u.aB.length c4,.slice a5 u.aC.length c5] 33)).heap.size=w2.heap.size+1:=by simp
         rw [hsA] at hr6;obtain ⟨rao6,rcp6,rfl⟩:=aL ho6;have hgn:Gr V w6:=⟨hg6.os.trans (HG2.out.trans gA).os,hg6.tape.trans (HG2.out.trans gA).tape,hg6.output.trans (HG2.out.trans gA).output,Nat.le_trans (HG2.out.trans gA).size hg6.size,fun i hi hne=>(hg6.block i (Nat.lt_of_lt_of_le hi (HG2.out.trans gA).size) (fun e=>by have:=(HOW.out.lt i e.symm).1;omega)).trans ((HG2.out.trans gA).block i hi hne)⟩;have hrun:∀e∈es++ [(⟨.slice a1 u.aA.length c1,.slice a2 u.aD.length c2,.slice a3 u.aE.length c3,.slice a4 u.aB.length c4,.slice a5 u.aC.length c5,u⟩:LU)],cD (jr w6 (Value.slice rao6 (es.length+1) rcp6).ownBlock) e.v e.u:=by
          intro e he;have hkc:=sQ hoA rfl hg6 hl6;rcases List.mem_append.1 he with he|he
          · exact ((HRU.out e he).gr (sO (hg2.trans gA) (fun b hb=>(HOW.out.lt b hb).2))).kc hkc
          · simp only [List.mem_singleton] at he;subst he;refine cD.kc ?_ hkc;refine (eY.to (B:=C) (eY.kp (hF.kp gA.kp) (fun q hq hql=>?_)));refine jJ _ _ _ (fun e=>?_);have:=(HOW.out.lt q e).2
            omega
         have HR6:=aH hr6;have HO6:=aH ho6;have HRN:=aH hrun;have HGN:=aH hgn;clear hd hg2 hF gA hoA hr6 ho6 hg6 hl6 hgn hrun HDC hcs hsA;go_wp2_with (at_builtin;refine Lib.wpList_append_run _ rfl _ _ _ _ rfl _ _ rfl rfl _ _ HR6.out ?_)
         refine ⟨⟨k+1,es++ [⟨.slice a1 u.aA.length c1,.slice a2 u.aD.length c2,.slice a3 u.aE.length c3,.slice a4 u.aB.length c4,.slice a5 u.aC.length c5,u⟩],us++ [u],by simp,hlt,by simp [HUL.out],?_,?_,HRN.out,HDN.out,HGN.out⟩,by simp [intOf];omega⟩
         · have hul:=congrArg List.length HES.out;simp only [List.length_map,List.length_take] at hul;rw [List.map_append,HES.out];have:us.length≤6:=by omega
           rw [List.take_of_length_le (by omega),List.take_of_length_le (by simp;omega)];rfl
         · rw [List.length_append,List.flatMap_append];exact HO6.out
       · have i6:¬(es.length:Int)≤6:=by omega
         have d6:decide ((es.length:Int)≤6)=false:=by simpa using i6
         have gA:=(Gr.refl w2).alloc (.cells #[.slice a1 u.aA.length c1,.slice a2 u.aD.length c2,.slice a3 u.aE.length c3,.slice a4 u.aB.length c4,.slice a5 u.aC.length c5] 33);have HGA:=aH (HG2r.out.trans gA);clear hd hg2 hF gA HDC hcs;go_wp2_with fail
         refine ⟨⟨k+1,es,us++ [u],by simp,hlt,by simp [HUL.out],?_,cY HOW.out HGA.out,fun e he=>(HRU.out e he).gr (sO HGA.out (fun b hb=>(HOW.out.lt b hb).2)),HDN.out,HGR.out.trans HGA.out⟩,by simp [intOf];omega⟩;have hul:=congrArg List.length HES.out;simp only [List.length_map,List.length_take] at hul;rw [HES.out,List.take_append_of_le_length (by omega)]
    · have hkk:k=ss.length:=by omega
      subst hkk;have HDF:Hid (dS 0 ss=.inl us):=aH (by rw [HDA.out,List.drop_length];simp [dS,kl]);have HLK:=aH (uT wr (es.map (·.u)) _ (uL HOW.out (fun e he=>(HRU.out e he).kc (xN HOW.out rfl))));rw [HES.out] at HLK;clear hlt hk;go_wp2_with fail
      refine HLK.out.mono ?_;rintro z w2 ⟨hg2,⟨v,u,hl,rfl,hv⟩|⟨e,kk,hl,rfl⟩⟩
      · rw [mj] at hl;obtain ⟨a1,a2,a3,a4,a5,c1,c2,c3,c4,c5,rfl,-⟩:=hv.runit.parts;have gA:=(Gr.refl w2).alloc (.cells #[.slice a1 u.aA.length c1,.slice a2 u.aD.length c2,.slice a3 u.aE.length c3,.slice a4 u.aB.length c4,.slice a5 u.aC.length c5] 33);have HRA:=aH (hv.runit.gr gA);have HVF:=aH (ti u (HTC.out u) _ _ HRA.out);have HGA:=aH (HGR.out.trans (hg2.trans gA));have HB2:=aH (heap_alloc_new w2 (.cells #[.slice a1 u.aA.length c1,.slice a2 u.aD.length c2,.slice a3 u.aE.length c3,.slice a4 u.aB.length c4,.slice a5 u.aC.length c5] 33));have HL:=aH hl;clear hl hv hg2 gA HLK;go_wp2_with fail
        generalize w2.alloc (.cells #[.slice a1 u.aA.length c1,.slice a2 u.aD.length c2,.slice a3 u.aE.length c3,.slice a4 u.aB.length c4,.slice a5 u.aC.length c5] 33)=w3 at HRA HVF HGA HB2 ⊢;refine HVF.out.mono ?_;rintro z w4 ⟨rfl,hb4⟩;have hg4:=lq hb4;have HG4:=aH (HGA.out.trans hg4);have HRA4:=aH (HRA.out.gr hg4);have hbk:=(HG4.out.block W.heap.size (by have:=HSV.out;omega) (by simp)).trans HB0.out;have HBK:=aH hbk;have hx4:=(hg4.block w2.heap.size (Array.getElem?_eq_some_iff.1 HB2.out).1 (by simp)).trans HB2.out;have y1:w4.cell? ⟨w2.heap.size,0,none⟩=some (.slice a1 u.aA.length c1):=by rw [aI hx4];rfl
        have y2:w4.cell? ⟨w2.heap.size,1,none⟩=some (.slice a2 u.aD.length c2):=by rw [aI hx4];rfl
        have y3:w4.cell? ⟨w2.heap.size,2,none⟩=some (.slice a3 u.aE.length c3):=by rw [aI hx4];rfl
        have y4:w4.cell? ⟨w2.heap.size,3,none⟩=some (.slice a4 u.aB.length c4):=by rw [aI hx4];rfl
        have y5:w4.cell? ⟨w2.heap.size,4,none⟩=some (.slice a5 u.aC.length c5):=by rw [aI hx4];rfl
        obtain ⟨⟨o0,o1,o2,o3,o4,o5,o6⟩,f0,f1,f2,f3,f4,f5,f6⟩:=fh hbk;clear hb4 hg4 hbk hx4 HVF;by_cases hvz:(aa u).1=0
        · have hzz:=pV hvz;have HPE:Hid (js M ss fuel heap=M u):=aH (by
           rw [HP.out,HDF.out];show (match bw us with| .inr (e,k)=>_| .inl u=>_)=_
           rw [HL.out];exact if_neg (by simp [hvz]))
          have HMM:=aH (HMC.out us HDF.out u w4 _ HL.out hzz HRA4.out);rw [hzz];clear hzz hvz o0 o1 o2 o3 o4 o5 o6 f0 f1 f2 f3 f4 f5 f6;go_wp2_with fail
          refine HMM.out.mono ?_;rintro z w5 ⟨vo,rfl,⟨vt,rfl,hvt⟩,hg5⟩;obtain ⟨ta,tc,rfl⟩:=hvt.shape;have hbk:=((HG4.out.trans hg5).block W.heap.size (by have:=HSV.out;omega) (by simp)).trans HB0.out;have HBK5:=aH hbk;have HG5:=aH (HG4.out.trans hg5);have HVT:=aH hvt;obtain ⟨⟨o0,o1,o2,o3,o4,o5,o6⟩,f0,f1,f2,f3,f4,f5,f6⟩:=fh hbk;clear hbk hvt hg5 HMM y1 y2 y3 y4 y5;go_wp2_with fail
          rw [BO];have hwb:=BE (y0:=.int .i64 (M u).why) (y1:=.int .i64 (M u).unit) (y2:=.int .i64 (M u).at_) (y3:=.int .i64 (M u).e) (y4:=.int .i64 (M u).result) (y5:=.slice ta (M u).told.length tc) (y6:=.int .i64 (M u).steps) HBK5.out;have hwf:∀q,¬q=W.heap.size→(eg w5 W.heap.size (.int .i64 (M u).why) (.int .i64 (M u).unit) (.int .i64 (M u).at_) (.int .i64 (M u).e) (.int .i64 (M u).result) (.slice ta (M u).told.length tc) (.int .i64 (M u).steps)).heap[q]? =w5.heap[q]? :=fun q hq=>ev hq
          have hws:(eg w5 W.heap.size (.int .i64 (M u).why) (.int .i64 (M u).unit) (.int .i64 (M u).at_) (.int .i64 (M u).e) (.int .i64 (M u).result) (.slice ta (M u).told.length tc) (.int .i64 (M u).steps)).heap.size=w5.heap.size:=ff;have hWEe:=kZ w5 W.heap.size (.int .i64 (M u).why) (.int .i64 (M u).unit) (.int .i64 (M u).at_) (.int .i64 (M u).e) (.int .i64 (M u).result) (.slice ta (M u).told.length tc) (.int .i64 (M u).steps);generalize eg w5 W.heap.size (.int .i64 (M u).why) (.int .i64 (M u).unit) (.int .i64 (M u).at_) (.int .i64 (M u).e) (.int .i64 (M u).result) (.slice ta (M u).told.length tc) (.int .i64 (M u).steps)=WE at hwb hwf hws hWEe ⊢;have t0:WE.cell? ⟨W.heap.size,0,none⟩=some (.int .i64 (M u).why):=by rw [aI hwb];rfl
          have t1:WE.cell? ⟨W.heap.size,1,none⟩=some (.int .i64 (M u).unit):=by rw [aI hwb];rfl
          have t2:WE.cell? ⟨W.heap.size,2,none⟩=some (.int .i64 (M u).at_):=by rw [aI hwb];rfl
          have t3:WE.cell? ⟨W.heap.size,3,none⟩=some (.int .i64 (M u).e):=by rw [aI hwb];rfl
          have t4:WE.cell? ⟨W.heap.size,4,none⟩=some (.int .i64 (M u).result):=by rw [aI hwb];rfl
          have t5:WE.cell? ⟨W.heap.size,5,none⟩=some (.slice ta (M u).told.length tc):=by rw [aI hwb];rfl
          have t6:WE.cell? ⟨W.heap.size,6,none⟩=some (.int .i64 (M u).steps):=by rw [aI hwb];rfl
          refine bodyPost_ret (v:=.agg #[.int .i64 (M u).why,.int .i64 (M u).unit,.int .i64 (M u).at_,.int .i64 (M u).e,.int .i64 (M u).result,.slice ta (M u).told.length tc,.int .i64 (M u).steps]) (by simp [results,Tryz.results20,go_sem,t0,t1,t2,t3,t4,t5,t6]) rfl ?_;have hwi:bY W.heap.size WE (.slice ta (M u).told.length tc) (M u).told:=(HVT.out.kp (fun q hq _=>hwf q (by have:=HG4.out.size;have:=HSV.out;omega))).mono (by have:=HG4.out.size;have:=HSV.out;omega);rw [HPE.out];have hgf:=HGV.out.trans HG5.out;exact ⟨_,rfl,⟨_,rfl,hwi⟩,⟨hWEe.1.trans hgf.os,hWEe.2.1.trans hgf.tape,hWEe.2.2.trans hgf.output,by rw [hws];exact hgf.size,fun i hi hne=>(hwf i (by omega)).trans (hgf.block i hi hne)⟩⟩
        · have hnb:((aa u).1 != 0)=true:=by simpa using hvz
          have HPE:Hid (js M ss fuel heap=⟨4,((aa u).2.1:Int),((aa u).2.2:Int),(aa u).1,0,[],0⟩):=aH (by
           rw [HP.out,HDF.out];show (match bw us with| .inr (e,k)=>_| .inl u=>_)=_
           rw [HL.out];exact if_pos hvz)
          generalize (aa u).1=e4 at hnb HPE ⊢;generalize (aa u).2.1=n4 at HPE ⊢;generalize (aa u).2.2=p4 at HPE ⊢;clear hvz y1 y2 y3 y4 y5;go_wp2_with fail
          rw [BO];have hwb:=BE (y0:=.int .i64 4) (y1:=.int .i64 (n4:Int)) (y2:=.int .i64 (p4:Int)) (y3:=.int .i64 e4) (y4:=.int .i64 0) (y5:=.slice none 0 0) (y6:=.int .i64 0) HBK.out;have hwf:∀q,¬q=W.heap.size→(eg w4 W.heap.size (.int .i64 4) (.int .i64 (n4:Int)) (.int .i64 (p4:Int)) (.int .i64 e4) (.int .i64 0) (.slice none 0 0) (.int .i64 0)).heap[q]? =w4.heap[q]? :=fun q hq=>ev hq
          have hws:(eg w4 W.heap.size (.int .i64 4) (.int .i64 (n4:Int)) (.int .i64 (p4:Int)) (.int .i64 e4) (.int .i64 0) (.slice none 0 0) (.int .i64 0)).heap.size=w4.heap.size:=ff;have hWEe:=kZ w4 W.heap.size (.int .i64 4) (.int .i64 (n4:Int)) (.int .i64 (p4:Int)) (.int .i64 e4) (.int .i64 0) (.slice none 0 0) (.int .i64 0);generalize eg w4 W.heap.size (.int .i64 4) (.int .i64 (n4:Int)) (.int .i64 (p4:Int)) (.int .i64 e4) (.int .i64 0) (.slice none 0 0) (.int .i64 0)=WE at hwb hwf hws hWEe ⊢;have t0:WE.cell? ⟨W.heap.size,0,none⟩=some (.int .i64 4):=by rw [aI hwb];rfl
          have t1:WE.cell? ⟨W.heap.size,1,none⟩=some (.int .i64 (n4:Int)):=by rw [aI hwb];rfl
          have t2:WE.cell? ⟨W.heap.size,2,none⟩=some (.int .i64 (p4:Int)):=by rw [aI hwb];rfl
          have t3:WE.cell? ⟨W.heap.size,3,none⟩=some (.int .i64 e4):=by rw [aI hwb];rfl
          have t4:WE.cell? ⟨W.heap.size,4,none⟩=some (.int .i64 0):=by rw [aI hwb];rfl
          have t5:WE.cell? ⟨W.heap.size,5,none⟩=some (.slice none 0 0):=by rw [aI hwb];rfl
          have t6:WE.cell? ⟨W.heap.size,6,none⟩=some (.int .i64 0):=by rw [aI hwb];rfl
          refine bodyPost_ret (v:=.agg #[.int .i64 4,.int .i64 (n4:Int),.int .i64 (p4:Int),.int .i64 e4,.int .i64 0,.slice none 0 0,.int .i64 0]) (by simp [results,Tryz.results20,go_sem,t0,t1,t2,t3,t4,t5,t6]) rfl ?_;rw [HPE.out];have hgf:=HGV.out.trans HG4.out;exact ⟨_,rfl,⟨_,rfl,eQ _⟩,⟨hWEe.1.trans hgf.os,hWEe.2.1.trans hgf.tape,hWEe.2.2.trans hgf.output,by rw [hws];exact hgf.size,fun i hi hne=>(hwf i (by omega)).trans (hgf.block i hi hne)⟩⟩
      · rw [mj] at hl;have hne:¬e=0:=wN hl;have hnb:(e != 0)=true:=by simpa using hne
        have HPE:Hid (js M ss fuel heap=⟨3,(kk:Int),0,e,0,[],0⟩):=aH (by
         rw [HP.out,HDF.out];show (match bw us with| .inr (e,k)=>_| .inl u=>_)=_
         rw [hl])
        have HGF:=aH ((HGR.out.trans hg2).alloc (.cells #[.slice none 0 0,.slice none 0 0,.slice none 0 0,.slice none 0 0,.slice none 0 0] 33));have hbk:=(HGF.out.block W.heap.size (by have:=HSV.out;omega) (by simp)).trans HB0.out;have HBK:=aH hbk;obtain ⟨⟨o0,o1,o2,o3,o4,o5,o6⟩,f0,f1,f2,f3,f4,f5,f6⟩:=fh hbk;clear hbk hl hg2 HLK;go_wp2_with fail
        generalize w2.alloc (.cells #[.slice none 0 0,.slice none 0 0,.slice none 0 0,.slice none 0 0,.slice none 0 0] 33)=wE at HBK HGF ⊢;rw [BO];have hwb:=BE (y0:=.int .i64 3) (y1:=.int .i64 (kk:Int)) (y2:=.int .i64 0) (y3:=.int .i64 e) (y4:=.int .i64 0) (y5:=.slice none 0 0) (y6:=.int .i64 0) HBK.out;have hwf:∀q,¬q=W.heap.size→(eg wE W.heap.size (.int .i64 3) (.int .i64 (kk:Int)) (.int .i64 0) (.int .i64 e) (.int .i64 0) (.slice none 0 0) (.int .i64 0)).heap[q]? =wE.heap[q]? :=fun q hq=>ev hq
        have hws:(eg wE W.heap.size (.int .i64 3) (.int .i64 (kk:Int)) (.int .i64 0) (.int .i64 e) (.int .i64 0) (.slice none 0 0) (.int .i64 0)).heap.size=wE.heap.size:=ff;have hWEe:=kZ wE W.heap.size (.int .i64 3) (.int .i64 (kk:Int)) (.int .i64 0) (.int .i64 e) (.int .i64 0) (.slice none 0 0) (.int .i64 0);generalize eg wE W.heap.size (.int .i64 3) (.int .i64 (kk:Int)) (.int .i64 0) (.int .i64 e) (.int .i64 0) (.slice none 0 0) (.int .i64 0)=WE at hwb hwf hws hWEe ⊢;have t0:WE.cell? ⟨W.heap.size,0,none⟩=some (.int .i64 3):=by rw [aI hwb];rfl
        have t1:WE.cell? ⟨W.heap.size,1,none⟩=some (.int .i64 (kk:Int)):=by rw [aI hwb];rfl
        have t2:WE.cell? ⟨W.heap.size,2,none⟩=some (.int .i64 0):=by rw [aI hwb];rfl
        have t3:WE.cell? ⟨W.heap.size,3,none⟩=some (.int .i64 e):=by rw [aI hwb];rfl
        have t4:WE.cell? ⟨W.heap.size,4,none⟩=some (.int .i64 0):=by rw [aI hwb];rfl
        have t5:WE.cell? ⟨W.heap.size,5,none⟩=some (.slice none 0 0):=by rw [aI hwb];rfl
        have t6:WE.cell? ⟨W.heap.size,6,none⟩=some (.int .i64 0):=by rw [aI hwb];rfl
        refine bodyPost_ret (v:=.agg #[.int .i64 3,.int .i64 (kk:Int),.int .i64 0,.int .i64 e,.int .i64 0,.slice none 0 0,.int .i64 0]) (by simp [results,Tryz.results20,go_sem,t0,t1,t2,t3,t4,t5,t6]) rfl ?_;rw [HPE.out];have hgf:=HGV.out.trans HGF.out;exact ⟨_,rfl,⟨_,rfl,eQ _⟩,⟨hWEe.1.trans hgf.os,hWEe.2.1.trans hgf.tape,hWEe.2.2.trans hgf.output,by rw [hws];exact hgf.size,fun i hi hne=>(hwf i (by omega)).trans (hgf.block i hi hne)⟩⟩
end Go.Proofs.YtkgncijcnlfhiaaGreat
