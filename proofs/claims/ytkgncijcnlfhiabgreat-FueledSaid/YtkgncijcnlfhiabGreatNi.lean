import Derived.Test.YtkgncijcnlfhiabGreatNd
import Derived.Deep.Cut
import Derived.Deep.CutRange
import Derived.Test.YtkgncijcnlfhiabGreatNg
namespace Go.Proofs.YtkgncijcnlfhiabGreat
set_option maxRecDepth 100000
set_option maxHeartbeats 2000000
set_option linter.unusedVariables false
set_option linter.unusedSimpArgs false
open Go.RowKit
attribute [local go_sem ↓] Go.wp_at_zero Go.wp_at_succ
theorem ki{w:World}{base n:Nat}{v vl:Value}{xs:List Value}{l:List Int}(C1:w.ownsRow base 3 1 v n xs)(hR:aW w vl l)(hn:n+l.length<=1000000)(hb:base<=w.heap.size)(ty:TypeId):
 ∃v' w',(Builtin.append_ #[24,24] ty #[v,vl]).run Tryz.prog w=.ok v' w'/\w'.ownsRow base 3 1 v' (n+l.length) (xs++fP l)/\w.grownBy w' v.ownBlock:=by
 obtain ⟨i0,hi,O6,N5,D5⟩:=info_parts Tryz.infF;obtain ⟨ao,cap,rfl,hm,hc⟩:=hR;cases ao with
 | none=>
  have hl:l= []:=by
   cases l with
   | nil=>rfl
   | cons x t=>obtain ⟨b,off,e,_⟩:=hc 0 Q6;cases e
  subst hl;refine ⟨v,w,?_,by simpa [fP] using C1,⟨rfl,rfl,rfl,Nat.le_refl _,fun _ _ _=>rfl⟩⟩;rcases C1.2 with ⟨rfl,rfl⟩|⟨g,cp,cur,rfl,_,_,Gt,_⟩
  · simp [Builtin.append_,run_underlying Tryz.uInts,Go.sizeOf,typeInfo,hi,Builtin.lenOf,Builtin.firstCells]
  · simp [Builtin.append_,run_underlying Tryz.uInts,Go.sizeOf,typeInfo,hi,Builtin.lenOf,Builtin.firstCells,Gt,storeCells]
 | some a=>
  have Yn:∀j u,(fP l)[j]? =some u->w.cell? (a.add j)=some u:=by
   intro j u hj;have D':j < l.length:=by
    rw [<-jv l];exact (List.getElem?_eq_some_iff.1 hj).1
   obtain ⟨b,off,e,Z0⟩:=hc j D';rw [rx D'] at hj;obtain rfl:=Option.some.inj hj;obtain rfl:=Option.some.inj e;have e2:(⟨b,off,none⟩:Addr).add j=⟨b,off+j,none⟩:=by simp [Addr.add]
   rw [e2];exact Z0
  obtain ⟨v',w',hr,h2,h3,_,_⟩:=run_append_own_at (P:=Tryz.prog) w base 24 ty 3 i0 (.int .i64 0) 1 8 Tryz.uInts hi O6 N5 D5 rfl Q9 v n xs C1 a l.length cap (fP l) (by rw [jv];omega) Yn (by intro u hu;simp [fP] at hu;obtain ⟨x,_,rfl⟩:=hu;rfl) (by unfold maxLen;omega) Q5 hb;exact ⟨v',w',hr,h2,h3⟩
def B5(w:World)(l:List Int)(e:Ending)(w':World):Prop:=∃v,e=.returned v/\w'.ownsRow w.heap.size 3 1 v l.length (fP l)/\Gr w w'
theorem aL{w:World}{B:Nat}{e:TypeId}{n len:Nat}{v:Value}{xs:List Value}(h:w.ownsRow B e n v len xs):∃ao cap,v=.slice ao len cap:=by
 obtain ⟨_,h2⟩:=h;rcases h2 with ⟨rfl,rfl⟩|⟨g,cap,cur,rfl,_⟩
 · exact ⟨none,0,rfl⟩
 · exact ⟨_,_,rfl⟩
theorem xl{w w1 w2:World}{v:Value}{n:Nat}{xs:List Value}(h:Gr w w1)(ho:w1.ownsRow w.heap.size 3 1 v n xs)(k:w1.grownBy w2 v.ownBlock):Gr w w2:=
 ⟨k.os.trans h.os,k.tape.trans h.tape,k.output.trans h.output,Nat.le_trans h.size k.size,fun i hi _=>(k.block i (Nat.lt_of_lt_of_le hi h.size) (fun e=>by have:=(ho.lt i e.symm).1;omega)).trans (h.block i hi Q6)⟩
theorem nP(h:Nat)(v1 v2:Value)(l1 l2:List Int)(w:World)(J5:w.cell? ⟨h,0,none⟩=some v1)(S5:w.cell? ⟨h,1,none⟩=some v2)(h1:aW w v1 l1)(h2:aW w v2 l2)(Ib:l1.length<=10000)(M7:l2.length<=10000):
 Calls Tryz.prog 57 #[.slice (some ⟨h,0,none⟩) 2 2] w (B5 w (l1++l2)):=by
 obtain ⟨a1,p1,rfl⟩:=h1.shape;obtain ⟨a2,p2,rfl⟩:=h2.shape;have H1:=aH h1;have H2:=aH h2;have E6:=aH J5;have O3:=aH S5;clear h1 h2;go_enter Tryz.func57,Tryz.ntmps57
 go_wp2_with fail
 go_loopw [3,11] (fun s i wr=>w=wr/\((s=.int .i64 0/\i=.int .i64 0)\/(s=.int .i64 (l1.length:Int)/\i=.int .i64 1)\/(s=.int .i64 ((l1.length:Int)+(l2.length:Int))/\i=.int .i64 2))) (fun _ i _=>2 - (intOf i).toNat)
 case atStart=>exact ⟨rfl,.inl ⟨rfl,rfl⟩⟩
 case round=>
  obtain ⟨rfl,hr⟩:=hrel;have C4:¬(l1.length:Int) < 0:=Q5
  have T6:¬(l1.length:Int)+(l2.length:Int) < 0:=Q5
  have D2:IntKind.i64.wrap (l1.length:Int)=(l1.length:Int):=Q_;have D3:IntKind.i64.wrap ((l1.length:Int)+(l2.length:Int))=(l1.length:Int)+(l2.length:Int):=Q_;rcases hr with ⟨rfl,rfl⟩|⟨rfl,rfl⟩|⟨rfl,rfl⟩
  · go_wp2_with fail
    exact ⟨⟨by first|rfl|trivial,.inr (.inl ⟨by first|rfl|trivial,by first|rfl|trivial⟩)⟩,by simp [intOf]⟩
  · go_wp2_with fail
    exact ⟨⟨by first|rfl|trivial,.inr (.inr ⟨by first|rfl|trivial,by first|rfl|trivial⟩)⟩,by simp [intOf]⟩
  · have Fa:(l1.length:Int)+(l2.length:Int)=((l1.length+l2.length:Nat):Int):=by omega
    have S8:=aH (wO (l1.length+l2.length) Q5 w);rw [<-Fa] at S8;clear Fa;go_wp2_with (go_at_call 104;refine S8.out.mono ?_;rintro e w1 ⟨v3,rfl,Yu,P0⟩;obtain ⟨a3,p3,rfl⟩:=aL Yu)
    have Qc:=aH Yu;have HG3:=aH P0;clear Yu P0 S8 D2 D3 C4 T6;go_loopw [6,27] (fun v i wr=>∃(k:Nat) (l:List Int),i=.int .i64 (k:Int)/\wr.ownsRow w.heap.size 3 1 v l.length (fP l)/\Gr w wr/\((k=0/\l= [])\/(k=1/\l=l1)\/(k=2/\l=l1++l2))) (fun _ i _=>2 - (intOf i).toNat)
    case atStart=>exact ⟨0,[],rfl,Qc.out,HG3.out,.inl ⟨rfl,rfl⟩⟩
    case round=>
     obtain ⟨k,l,rfl,ho,hg,hk⟩:=hrel;obtain ⟨a4,p4,rfl⟩:=aL ho;have HO:=aH ho;have HG:=aH hg;have JP:=hg.cell E6.out Q6;have Lf:=hg.cell O3.out Q6;have hle:w.heap.size<=wr.heap.size:=hg.size;clear ho hg Qc HG3 J5 S5;rcases hk with ⟨rfl,rfl⟩|⟨rfl,rfl⟩|⟨rfl,rfl⟩
     · obtain ⟨v5,w5,Jb,Kb,P1⟩:=ki HO.out (H1.out.gr HG.out) gS hle 24;have Ei:=aH Jb;have N8:=aH Kb;have T5:=aH (xl HG.out HO.out P1);clear Jb Kb P1;go_wp2_with (at_builtin;refine Lib.wpList_append_run _ rfl _ _ _ _ rfl _ _ rfl rfl _ _ Ei.out ?_)
       exact ⟨⟨1,l1,rfl,by simpa [fP] using N8.out,T5.out,.inr (.inl ⟨rfl,rfl⟩)⟩,by simp [intOf]⟩
     · obtain ⟨v5,w5,Jb,Kb,P1⟩:=ki HO.out (H2.out.gr HG.out) Q5 hle 24;have Ei:=aH Jb;have N8:=aH Kb;have T5:=aH (xl HG.out HO.out P1);clear Jb Kb P1;go_wp2_with (at_builtin;refine Lib.wpList_append_run _ rfl _ _ _ _ rfl _ _ rfl rfl _ _ Ei.out ?_)
       exact ⟨⟨2,l++l2,rfl,by simpa [fP] using N8.out,T5.out,.inr (.inr ⟨rfl,rfl⟩)⟩,by simp [intOf]⟩
     · go_wp2_with fail
       go_ret
       exact ⟨_,rfl,HO.out,HG.out⟩
open Go.RowKit
attribute [local go_sem ↓] Go.wp_at_zero Go.wp_at_succ
theorem rK{α:Type}{f:α->List Value}{n:Nat}(hf:∀x,(f x).length=n):∀(l:List α) (j:Nat) (u:Value),(l.flatMap f)[j]? =some u->∃i r x,j=i * n+r/\r < n/\l[i]? =some x/\(f x)[r]? =some u
 | [],j,u,h=>by simp at h
 | y :: l,j,u,h=>by
  rw [List.flatMap_cons] at h;by_cases hj:j < n
  · rw [List.getElem?_append_left (by rw [hf];exact hj)] at h;exact ⟨0,j,y,Q5,hj,rfl,h⟩
  · rw [List.getElem?_append_right (by rw [hf];omega),hf] at h;obtain ⟨i,r,x,e1,e2,e3,e4⟩:=rK hf l (j - n) u h;refine ⟨i+1,r,x,?_,e2,by simpa using e3,e4⟩;rw [Nat.add_mul];omega
theorem de{α:Type}{f:α->List Value}{n:Nat}(hf:∀x,(f x).length=n):∀(l:List α) (i r:Nat) (x:α),l[i]? =some x->r < n->(l.flatMap f)[i * n+r]? =(f x)[r]?
 | [],i,r,x,h,_=>by simp at h
 | y :: l,0,r,x,h,hr=>by
  simp only [List.getElem?_cons_zero,Option.some.injEq] at h;subst h;rw [List.flatMap_cons,List.getElem?_append_left (by rw [hf];omega)];simp
 | y :: l,i+1,r,x,h,hr=>by
  rw [List.flatMap_cons,List.getElem?_append_right (by rw [hf,Nat.add_mul];omega),hf,show (i+1) * n+r - n=i * n+r by rw [Nat.add_mul];omega];exact de hf l i r x (by simpa using h) hr
theorem lq{α:Type}{f:α->List Value}{n:Nat}(hf:∀x,(f x).length=n):∀(l:List α),(l.flatMap f).length=l.length * n
 | []=>by simp
 | x :: l=>by simp [hf x,lq hf l,Nat.add_mul];omega
def cC(i:aw):List Value:= [.int .i64 i.op,.int .i64 i.a,.int .i64 i.b]
theorem jU(i:aw):(cC i).length=3:=rfl
def rR(w:World)(v:Value)(m:Nat)(xs:List Value):Prop:=∃ao cap,v=.slice ao m cap/\∀j u,xs[j]? =some u->∃b off,ao=some ⟨b,off,none⟩/\w.cell? ⟨b,off+j,none⟩=some u
theorem dK{w:World}{base n m size bytes:Nat}{v vx:Value}{xs news:List Value}(t e ty:TypeId)(zero:Value)(inf:(Tryz.prog.info? e).map (fun i=>(i.zero,i.size,i.bytes))=some (some zero,size,bytes))(ht:Tryz.prog.underlying t=some (.slice e))(Zn:zero.cells.size=size)(R0:0 < size)(Pj:bytes<=1000)
 (C1:w.ownsRow base e size v n xs) (hR:rR w vx m news) (hl:news.length=m * size) (h1:∀u∈news,u.oneCell'=true) (hn:n+m<=1000000) (hb:base<=w.heap.size):
 ∃v' w',(Builtin.append_ #[t,t] ty #[v,vx]).run Tryz.prog w=.ok v' w'/\w'.ownsRow base e size v' (n+m) (xs++news)/\w.grownBy w' v.ownBlock/\(v'.ownBlock=v.ownBlock\/v'.ownBlock=some w.heap.size):=by
 obtain ⟨i0,hi,O6,N5,D5⟩:=info_parts inf;obtain ⟨ao,cap,rfl,hc⟩:=hR;cases ao with
 | none=>
  have hx:news= []:=by
   cases news with
   | nil=>rfl
   | cons x t=>obtain ⟨b,off,e,_⟩:=hc 0 x rfl;cases e
  subst hx;have hm:m=0:=by
   simp only [List.length_nil] at hl;rcases Nat.mul_eq_zero.1 hl.symm with h|h
   · exact h
   · omega
  subst hm;refine ⟨v,w,?_,by simpa using C1,⟨rfl,rfl,rfl,Nat.le_refl _,fun _ _ _=>rfl⟩,.inl rfl⟩;rcases C1.2 with ⟨rfl,rfl⟩|⟨g,cp,cur,rfl,_,_,Gt,_⟩
  · simp [Builtin.append_,run_underlying ht,Go.sizeOf,typeInfo,hi,Builtin.lenOf,Builtin.firstCells]
  · simp [Builtin.append_,run_underlying ht,Go.sizeOf,typeInfo,hi,Builtin.lenOf,Builtin.firstCells,Gt,storeCells]
 | some a=>
  have Yn:∀j u,news[j]? =some u->w.cell? (a.add j)=some u:=by
   intro j u hj;obtain ⟨b,off,e,Z0⟩:=hc j u hj;obtain rfl:=Option.some.inj e;have e2:(⟨b,off,none⟩:Addr).add j=⟨b,off+j,none⟩:=by simp [Addr.add]
   rw [e2];exact Z0
  obtain ⟨v',w',hr,h2,h3,_,h5⟩:=run_append_own_at (P:=Tryz.prog) w base t ty e i0 zero size bytes ht hi O6 N5 D5 Zn R0 v n xs C1 a m cap news hl Yn h1 (by unfold maxLen;omega) (Nat.le_trans (Nat.mul_le_mul hn Pj) Q9) hb;exact ⟨v',w',hr,h2,h3,h5⟩
theorem Tryz.infI:(Tryz.prog.info? 3).map (fun i=>(i.zero,i.size,i.bytes))=some (some (.int .i64 0),1,8):=Q7
theorem Tryz.infC:(Tryz.prog.info? 42).map (fun i=>(i.zero,i.size,i.bytes))=some (some (.agg #[.int .i64 0,.int .i64 0,.int .i64 0]),3,24):=Q7
theorem Tryz.uI:Tryz.prog.underlying 24=some (.slice 3):=Q7
theorem Tryz.uC:Tryz.prog.underlying 40=some (.slice 42):=Q7
theorem aW.row{w:World}{v:Value}{l:List Int}(h:aW w v l):rR w v l.length (fP l):=by
 obtain ⟨ao,cap,rfl,hm,hc⟩:=h;refine ⟨ao,cap,rfl,fun j u hj=>?_⟩;have D':j < l.length:=by rw [<-jv l];exact (List.getElem?_eq_some_iff.1 hj).1
 obtain ⟨b,off,e,Z0⟩:=hc j D';refine ⟨b,off,e,Z0.trans ?_⟩;rw [<-hj];simp [fP,D',List.getD_eq_getElem?_getD]
theorem eH.row{w:World}{v:Value}{l:List aw}(h:eH w v l):rR w v l.length (l.flatMap cC):=by
 obtain ⟨ao,cap,rfl,hm,hc⟩:=h;refine ⟨ao,cap,rfl,fun j u hj=>?_⟩;obtain ⟨i,r,x,rfl,hr,hx,hu⟩:=rK jU l j u hj;obtain ⟨b,off,e,h0,h1,h2⟩:=hc i x hx;refine ⟨b,off,e,?_⟩;rcases (show r=0\/r=1\/r=2 by omega) with rfl|rfl|rfl
 · rw [<-hu];exact h0
 · rw [<-hu];exact h1
 · rw [<-hu];exact h2
theorem tN(l:List Int):∀u∈fP l,u.oneCell'=true:=by
 intro u hu;simp only [fP,List.mem_map] at hu;obtain ⟨x,_,rfl⟩:=hu;rfl
theorem Aj(l:List aw):∀u∈l.flatMap cC,u.oneCell'=true:=by
 intro u hu;simp only [List.mem_flatMap,cC,List.mem_cons,List.not_mem_nil,or_false] at hu;obtain ⟨x,_,rfl|rfl|rfl⟩:=hu<;>rfl
def wz(e:TypeId)(size n:Nat)(xs:List Value)(w:World)(x:Ending)(w':World):Prop:=∃v,x=.returned v/\w'.ownsRow w.heap.size e size v n xs/\Gr w w'
theorem jE(v:Value)(l:List Int)(w:World)(hR:aW w v l)(hl:l.length<=100000):
 Calls Tryz.prog 123 #[v] w (wz 3 1 l.length (fP l) w):=by
 obtain ⟨v',w',hr,ho,hg,_⟩:=dK (ty:=24) 24 3 _ Tryz.infI Tryz.uI rfl Q9 Q9 (World.ownsRow_nil w w.heap.size 3 1) hR.row (by rw [jv];omega) (tN l) Q5 (Nat.le_refl _);obtain ⟨ao,cap,rfl⟩:=hR.shape;have HR:=aH hr;have HO:=aH ho;have HG:=aH hg;clear hr ho hg hR;go_enter Tryz.func123,Tryz.ntmps123
 go_wp2_with (at_builtin;refine Lib.wpList_append_run _ rfl _ _ _ _ rfl _ _ rfl rfl _ _ HR.out ?_)
 go_ret
 exact ⟨_,rfl,by simpa using HO.out,HG.out⟩
theorem sw(v:Value)(l:List aw)(w:World)(hR:eH w v l)(hl:l.length<=100000):
 Calls Tryz.prog 143 #[v] w (wz 42 3 l.length (l.flatMap cC) w):=by
 obtain ⟨v',w',hr,ho,hg,_⟩:=dK (ty:=40) 40 42 _ Tryz.infC Tryz.uC rfl Q9 Q9 (World.ownsRow_nil w w.heap.size 42 3) hR.row (lq jU l) (Aj l) Q5 (Nat.le_refl _);obtain ⟨ao,cap,rfl⟩:=hR.shape;have HR:=aH hr;have HO:=aH ho;have HG:=aH hg;clear hr ho hg hR;go_enter Tryz.func143,Tryz.ntmps143
 go_wp2_with (at_builtin;refine Lib.wpList_append_run _ rfl _ _ _ _ rfl _ _ rfl rfl _ _ HR.out ?_)
 go_ret
 exact ⟨_,rfl,by simpa using HO.out,HG.out⟩
structure vh(W w:World)(u:aK)(mb:Nat)(N:List UInt8->Option (aO×Int))(a3:Option Addr)(c3:Nat)(a4:Option Addr)(c4:Nat):Prop where
 gr:Gr W w
 mp:∃n,iq W w mb n N
 fu:dH W (.slice a3 u.aE.length c3) u.aE
 im:bo W (.slice a4 u.aB.length c4) u.aB
 ok:ai u=true
theorem vh.step{W w w':World}{u:aK}{mb:Nat}{N:List UInt8->Option (aO×Int)}{a3:Option Addr}{c3:Nat}{a4:Option Addr}{c4:Nat}(h:vh W w u mb N a3 c3 a4 c4)(g:Gr w w'):vh W w' u mb N a3 c3 a4 c4:=by
 obtain ⟨n,hm⟩:=h.mp;exact ⟨h.gr.trans g,⟨n,hm.gr g⟩,h.fu,h.im,h.ok⟩
def kP(N:List UInt8->Option (aO×Int))(n:List UInt8):Int:=match N n with
 | some (_,k)=>k
 | none=>0
theorem ov(u:aK)(mb c f:Nat)(a1 a2 a3 a4 a5:Option Addr)(c1 c2 c3 c4 c5:Nat)(n:Nat)(w:World)(hc:c<=1000)(hn:n<=65535)(hl:u.aD.length<=1000):
 Calls Tryz.prog 146 #[.agg #[.slice a1 u.aA.length c1,.slice a2 u.aD.length c2,.slice a3 u.aE.length c3,.slice a4 u.aB.length c4,.slice a5 u.aC.length c5,.map (some mb),.int .i64 (c:Int),.int .i64 (f:Int)],.int .i64 (n:Int)] w fun x w'=>x=.returned (.int .i64 (if n < u.aD.length then (c:Int)+(n:Int) else 65535))/\Gr w w':=by
 have hw:IntKind.i64.wrap ((c:Int)+(n:Int))=(c:Int)+(n:Int):=Q_;by_cases h:n < u.aD.length
 · have hi:(n:Int) < (u.aD.length:Int):=by omega
   go_enter Tryz.func146,Tryz.ntmps146
   go_wp2_with fail
   go_ret
   exact ⟨by first|rfl|(rw [if_pos h];rfl),(Gr.refl _).alloc _⟩
 · have hi:¬(n:Int) < (u.aD.length:Int):=by omega
   have hd:decide ((n:Int) < (u.aD.length:Int))=false:=by simpa using hi
   go_enter Tryz.func146,Tryz.ntmps146
   go_wp2_with fail
   go_ret
   exact ⟨by first|rfl|(rw [if_neg h];rfl),(Gr.refl _).alloc _⟩
def kF(N:List UInt8->Option (aO×Int))(u:aK)(f n:Nat):Int:=if n < u.aE.length then (f:Int)+(n:Int) else match u.aB[n - u.aE.length]? with
 | some g=>kP N g.name
 | none=>65535
theorem qQ(W:World)(u:aK)(mb c f:Nat)(N:List UInt8->Option (aO×Int))(a1 a2 a3 a4 a5:Option Addr)(c1 c2 c3 c4 c5:Nat)(n:Nat)(w:World)(hM:vh W w u mb N a3 c3 a4 c4)(hf:f<=1000)(hn:n<=65535):
 Calls Tryz.prog 147 #[.agg #[.slice a1 u.aA.length c1,.slice a2 u.aD.length c2,.slice a3 u.aE.length c3,.slice a4 u.aB.length c4,.slice a5 u.aC.length c5,.map (some mb),.int .i64 (c:Int),.int .i64 (f:Int)],.int .i64 (n:Int)] w fun x w'=>x=.returned (.int .i64 (kF N u f n))/\Gr w w':=by
 have hft:=fun (a b c d e:Value) (w:World)=>Tryz.tgtN a b c d e w
 have G3:=fU hM.ok;have hl:=G3.1;have XU:=G3.2.2.1;clear G3;have hw:IntKind.i64.wrap ((f:Int)+(n:Int))=(f:Int)+(n:Int):=Q_;have D3:IntKind.i64.wrap ((u.aE.length:Int)+(u.aB.length:Int))=(u.aE.length:Int)+(u.aB.length:Int):=Q_;by_cases h:n < u.aE.length
 · have hi:(n:Int) < (u.aE.length:Int):=by omega
   have HE:Hid (kF N u f n=(f:Int)+(n:Int)):=aH (by unfold kF;rw [if_pos h]);clear hM;go_enter Tryz.func147,Tryz.ntmps147
   go_wp2_with fail
   go_ret
   exact ⟨by rw [HE.out];rfl,(Gr.refl _).alloc _⟩
 · have hi:decide ((n:Int) < (u.aE.length:Int))=false:=by rw [decide_eq_false_iff_not];omega
   by_cases h2:n < u.aE.length+u.aB.length
   · have P8:(n:Int) < (u.aE.length:Int)+(u.aB.length:Int):=by omega
     obtain ⟨k,hk⟩:∃k,n - u.aE.length=k:=⟨_,rfl⟩;have Sa:k < u.aB.length:=Q5
     have Hf:(k:Int) < (u.aB.length:Int):=Q5
     have Y':IntKind.i64.wrap ((n:Int) - (u.aE.length:Int))=(k:Int):=by rw [Q_];omega
     obtain ⟨x,hx⟩:=aX Sa;have HE:Hid (kF N u f n=kP N x.name):=aH (by unfold kF;rw [if_neg h,hk,hx]);obtain ⟨ao,cap,he,_,hc⟩:=hM.im;simp only [Value.slice.injEq,true_and] at he;obtain ⟨rfl,rfl⟩:=he;obtain ⟨b,off,vs,vp,rfl,k0,_,_,⟨s,rfl,hs,R0⟩,_⟩:=hc k x hx;have k0:=hM.gr.cell k0 Q6;obtain ⟨nn,hm⟩:=hM.mp;have hv:∃p1 p2 p3 p4:Value,∃kk:Int,kP N x.name=kk/\∀w',Gr w w'->(Instr.lookup 155 (.map (some mb)) (.string s) false).run Tryz.prog w'=.ok (.agg #[p1,p2,p3,p4,.int .i64 kk]) w':=by
      rcases hm.find s R0 with ⟨e1,_,e2⟩|⟨g,kk,v,e1,⟨_,_,_,_,_,_,_,_,rfl,_⟩,_,e2⟩
      · exact ⟨_,_,_,_,0,by unfold kP;rw [<-hs,e1],fun w' g=>e2 w' g⟩
      · exact ⟨_,_,_,_,kk,by unfold kP;rw [<-hs,e1],fun w' g=>e2 w' g⟩
     obtain ⟨p1,p2,p3,p4,kk,L7,Oc⟩:=hv;have Ht:=aH L7;have D4:=heap_alloc_new w (.cells #[.slice a1 u.aA.length c1,.slice a2 u.aD.length c2,.slice a3 u.aE.length c3,.slice (some ⟨b,off,none⟩) u.aB.length c4,.slice a5 u.aC.length c5,.map (some mb),.int .i64 (c:Int),.int .i64 (f:Int)] 209);have KS:Hid (∀w',Gr (w.alloc (.cells #[.slice a1 u.aA.length c1,.slice a2 u.aD.length c2,.slice a3 u.aE.length c3,.slice (some ⟨b,off,none⟩) u.aB.length c4,.slice a5 u.aC.length c5,.map (some mb),.int .i64 (c:Int),.int .i64 (f:Int)] 209)) w'->w'.cell? ⟨w.heap.size,3,none⟩=some (.slice (some ⟨b,off,none⟩) u.aB.length c4)/\w'.cell? ⟨w.heap.size,5,none⟩=some (.map (some mb))/\w'.cell? ⟨b,off+k * 3,none⟩=some (.string s)/\(Instr.lookup 155 (.map (some mb)) (.string s) false).run Tryz.prog w'=.ok (.agg #[p1,p2,p3,p4,.int .i64 kk]) w'):=aH (fun w' g=>by
      have g0:=((Gr.refl w).alloc (.cells #[.slice a1 u.aA.length c1,.slice a2 u.aD.length c2,.slice a3 u.aE.length c3,.slice (some ⟨b,off,none⟩) u.aB.length c4,.slice a5 u.aC.length c5,.map (some mb),.int .i64 (c:Int),.int .i64 (f:Int)] 209)).trans g;have e0:w'.heap[w.heap.size]? =_:=(g.block w.heap.size Q6 Q6).trans D4;exact ⟨by rw [aJ e0];rfl,by rw [aJ e0];rfl,g0.cell k0 Q6,Oc w' g0⟩)
     clear hx hc hM hm hs R0 k0 L7 Oc hk D4;have hi2d:decide ((n:Int) < (u.aE.length:Int)+(u.aB.length:Int))=true:=by simpa using P8
     go_enter Tryz.func147,Tryz.ntmps147
     go_upto_region 5 with fail
     refine wp_region_held_drew (S:=(fun w'=>w'.cell? ⟨w.heap.size,3,none⟩=some (.slice (some ⟨b,off,none⟩) u.aB.length c4)/\w'.cell? ⟨w.heap.size,5,none⟩=some (.map (some mb))/\w'.cell? ⟨b,off+k * 3,none⟩=some (.string s)/\(Instr.lookup 155 (.map (some mb)) (.string s) false).run Tryz.prog w'=.ok (.agg #[p1,p2,p3,p4,.int .i64 kk]) w')) Q7 (KS.out _ (Gr.drew (Gr.refl _))) (fun hH=>?_);refine tL 0 ?_;simp only [Act.put,sA,s0,s1];refine tL 1 ?_;simp only [Act.put,sA,s0,s1];refine tL 2 ?_;simp only [Act.put,sA,s0,s1];refine tL 3 ?_;simp only [Act.put,sA,s0,s1];refine tL 4 ?_;simp only [Act.put,sA,s0,s1];refine tL 5 ?_;simp only [Act.put,sA,s0,s1];refine tL 6 ?_;simp only [Act.put,sA,s0,s1];refine tL 7 ?_;simp only [Act.put,sA,s0,s1];refine tL 8 ?_;simp only [Act.put,sA,s0,s1];refine tL 9 ?_;simp only [Act.put,sA,s0,s1];refine tL 10 ?_;simp only [Act.put,sA,s0,s1];refine tL 11 ?_;simp only [Act.put,sA,s0,s1];refine tL 12 ?_;simp only [Act.put,sA,s0,s1];refine tL 13 ?_;simp only [Act.put,sA,s0,s1];refine wpAnyH_done Q7 ?_ _;clear KS hH;go_wp2_with fail
     go_ret
     exact ⟨by rw [HE.out,Ht.out];rfl,Gr.drew ((Gr.refl _).alloc _)⟩
   · have P8:decide ((n:Int) < (u.aE.length:Int)+(u.aB.length:Int))=false:=by rw [decide_eq_false_iff_not];omega
     have HE:Hid (kF N u f n=65535):=aH (by unfold kF;rw [if_neg h,List.getElem?_eq_none Q5]);clear hM;go_enter Tryz.func147,Tryz.ntmps147
     go_wp2_with fail
     go_ret
     exact ⟨by rw [HE.out];rfl,(Gr.refl _).alloc _⟩
open Go.RowKit
attribute [local go_sem ↓] Go.wp_at_zero Go.wp_at_succ
theorem Tryz.callCn(M0:Array Value)(w:World):(callFunc 146 M0).run Tryz.prog w=.ok (.enter 146 M0) w:=Q7
theorem Tryz.callFn(M0:Array Value)(w:World):(callFunc 147 M0).run Tryz.prog w=.ok (.enter 147 M0) w:=Q7
def tz(N:List UInt8->Option (aO×Int))(u:aK)(c f:Nat)(i:aw):aw:=
 if i.op=0 then { i with a:=if i.a.toNat < u.aD.length then (c:Int)+(i.a.toNat:Int) else 65535 }
 else if i.op=13 then { i with a:=kF N u f i.a.toNat } else i
theorem qy:∀(l:List aw) (k:Nat) (i:aw) (x:Int),l[k]? =some i->(l.flatMap cC).set (k * 3+1) (.int .i64 x)=(l.set k { i with a:=x }).flatMap cC
 | [],k,i,x,h=>by simp at h
 | y :: l,0,i,x,h=>by
  simp only [List.getElem?_cons_zero,Option.some.injEq] at h;subst h;rfl
 | y :: l,k+1,i,x,h=>by
  have e:(y :: l).flatMap cC=.int .i64 y.op :: .int .i64 y.a :: .int .i64 y.b :: l.flatMap cC:=rfl;have e2:(k+1) * 3+1=(k * 3+1)+1+1+1:=Q5
  rw [e,e2];simp only [List.set_cons_succ];rw [qy l k i x (by simpa using h)];rfl
theorem xC{l:List aw}{k:Nat}{i:aw}(h:l[k]? =some i):l.set k i=l:=by
 obtain ⟨hk,rfl⟩:=List.getElem?_eq_some_iff.1 h;exact List.set_getElem_self hk
theorem dA{w w':World}{base:Nat}{e:TypeId}{size:Nat}{v:Value}{n:Nat}{xs:List Value}(h:w.ownsRow base e size v n xs)(g:Gr w w'):w'.ownsRow base e size v n xs:=h.kept g (by cases hv:v.ownBlock<;>simp)
def Aw(B n cap cb:Nat)(l:List aw)(w:World)(x:Ending)(w':World):Prop:=x=.returned (.tuple #[])/\w'.ownsRow B 42 3 (.slice (some ⟨cb,0,none⟩) n cap) n (l.flatMap cC)/\w.grownBy w' (some cb)
theorem o8(W:World)(u:aK)(mb c f:Nat)(N:List UInt8->Option (aO×Int))(a1 a2 a3 a4 a5:Option Addr)(c1 c2 c3 c4 c5:Nat)(B n cap cb k:Nat)(l:List aw)(i:aw)(w:World)(hM:vh W w u mb N a3 c3 a4 c4)(hc:c<=1000)(hf:f<=1000)
 (C1:w.ownsRow B 42 3 (.slice (some ⟨cb,0,none⟩) n cap) n (l.flatMap cC)) (Nx:n=l.length) (hi:l[k]? =some i) (N2:a_ i=true):
 Calls Tryz.prog 144 #[.agg #[.slice a1 u.aA.length c1,.slice a2 u.aD.length c2,.slice a3 u.aE.length c3,.slice a4 u.aB.length c4,.slice a5 u.aC.length c5,.map (some mb),.int .i64 (c:Int),.int .i64 (f:Int)],.pointer (some ⟨cb,k * 3,none⟩)] w (Aw B n cap cb (l.set k (tz N u c f i)) w):=by
 subst Nx;have Sa:k < l.length:=(List.getElem?_eq_some_iff.1 hi).1;have hco:w.cell? ⟨cb,k * 3,none⟩=some (.int .i64 i.op):=by rw [C1.cellAt _ Q5];exact de jU l k 0 i hi Q5
 have IG:w.cell? ⟨cb,k * 3+1,none⟩=some (.int .i64 i.a):=by rw [C1.cellAt _ Q5];exact de jU l k 1 i hi Q5
 have YU:cb < w.heap.size:=World.block_lt_of_cell? w _ hco;have D4:=heap_alloc_new w (.cells #[.slice a1 u.aA.length c1,.slice a2 u.aD.length c2,.slice a3 u.aE.length c3,.slice a4 u.aB.length c4,.slice a5 u.aC.length c5,.map (some mb),.int .i64 (c:Int),.int .i64 (f:Int)] 209);have E':=(Gr.refl w).alloc (.cells #[.slice a1 u.aA.length c1,.slice a2 u.aD.length c2,.slice a3 u.aE.length c3,.slice a4 u.aB.length c4,.slice a5 u.aC.length c5,.map (some mb),.int .i64 (c:Int),.int .i64 (f:Int)] 209);have KS:Hid (∀w',Gr (w.alloc (.cells #[.slice a1 u.aA.length c1,.slice a2 u.aD.length c2,.slice a3 u.aE.length c3,.slice a4 u.aB.length c4,.slice a5 u.aC.length c5,.map (some mb),.int .i64 (c:Int),.int .i64 (f:Int)] 209)) w'->w'.cell? ⟨w.heap.size,0,none⟩=some (.slice a1 u.aA.length c1)/\w'.cell? ⟨w.heap.size,1,none⟩=some (.slice a2 u.aD.length c2)/\w'.cell? ⟨w.heap.size,2,none⟩=some (.slice a3 u.aE.length c3)/\w'.cell? ⟨w.heap.size,3,none⟩=some (.slice a4 u.aB.length c4)/\w'.cell? ⟨w.heap.size,4,none⟩=some (.slice a5 u.aC.length c5)/\w'.cell? ⟨w.heap.size,5,none⟩=some (.map (some mb))/\w'.cell? ⟨w.heap.size,6,none⟩=some (.int .i64 (c:Int))/\w'.cell? ⟨w.heap.size,7,none⟩=some (.int .i64 (f:Int))):=aH (fun w' g=>by
  have e0:w'.heap[w.heap.size]? =_:=(g.block w.heap.size Q6 Q6).trans D4;refine ⟨?_,?_,?_,?_,?_,?_,?_,?_⟩<;>(rw [aJ e0];rfl))
 have GC:Hid (∀w' v,Gr (w.alloc (.cells #[.slice a1 u.aA.length c1,.slice a2 u.aD.length c2,.slice a3 u.aE.length c3,.slice a4 u.aB.length c4,.slice a5 u.aC.length c5,.map (some mb),.int .i64 (c:Int),.int .i64 (f:Int)] 209)) w'->(w'.setCell ⟨cb,k * 3+1,none⟩ v).cell? ⟨w.heap.size,0,none⟩=some (.slice a1 u.aA.length c1)/\(w'.setCell ⟨cb,k * 3+1,none⟩ v).cell? ⟨w.heap.size,1,none⟩=some (.slice a2 u.aD.length c2)/\(w'.setCell ⟨cb,k * 3+1,none⟩ v).cell? ⟨w.heap.size,2,none⟩=some (.slice a3 u.aE.length c3)/\(w'.setCell ⟨cb,k * 3+1,none⟩ v).cell? ⟨w.heap.size,3,none⟩=some (.slice a4 u.aB.length c4)/\(w'.setCell ⟨cb,k * 3+1,none⟩ v).cell? ⟨w.heap.size,4,none⟩=some (.slice a5 u.aC.length c5)/\(w'.setCell ⟨cb,k * 3+1,none⟩ v).cell? ⟨w.heap.size,5,none⟩=some (.map (some mb))/\(w'.setCell ⟨cb,k * 3+1,none⟩ v).cell? ⟨w.heap.size,6,none⟩=some (.int .i64 (c:Int))/\(w'.setCell ⟨cb,k * 3+1,none⟩ v).cell? ⟨w.heap.size,7,none⟩=some (.int .i64 (f:Int))):=aH (fun w' v g=>by
  have e0:(w'.setCell ⟨cb,k * 3+1,none⟩ v).heap[w.heap.size]? =_:=(Below.heap_setCell _ _ _ _ (by show w.heap.size≠cb;omega)).trans ((g.block w.heap.size Q6 Q6).trans D4);refine ⟨?_,?_,?_,?_,?_,?_,?_,?_⟩<;>(rw [aJ e0];rfl))
 have JG:=E'.cell hco Q6;have S8:=aH E';have It:=aH C1;have HM:=aH hM;have HI:=aH hi;have C3:Hid (∀w' x,Gr w w'->Aw B l.length cap cb (l.set k { i with a:=x }) w (.returned (.tuple #[])) (w'.setCell ⟨cb,k * 3+1,none⟩ (.int .i64 x))):=aH (fun w' x g=>by
  obtain ⟨h1,h2⟩:=(dA It.out g).stored (k * 3+1) (.int .i64 x);rw [qy l k i x HI.out] at h1;exact ⟨rfl,h1,nI (tU g) h2⟩)
 obtain ⟨i_op,Co,Ox⟩:=i;have ZU:=(fU hM.ok).2.1;clear hi C1 hM E' D4;by_cases h0:i_op=0
 · subst h0;have G5:0<=Co/\Co<=65535:=by
    simp only [a_,ah,aa,wB] at N2;simp at N2;omega
   obtain ⟨a,rfl⟩:∃a:Nat,Co=(a:Int):=⟨Co.toNat,Q5⟩;obtain ⟨q,hq⟩:∃q:Int,(if a < u.aD.length then (c:Int)+(a:Int) else 65535)=q:=⟨_,rfl⟩;have HE:Hid (tz N u c f ⟨0,(a:Int),Ox⟩=⟨0,q,Ox⟩):=aH (by rw [<-hq];simp [tz]);have TU:Hid (∀w',Calls Tryz.prog 146 #[.agg #[.slice a1 u.aA.length c1,.slice a2 u.aD.length c2,.slice a3 u.aE.length c3,.slice a4 u.aB.length c4,.slice a5 u.aC.length c5,.map (some mb),.int .i64 (c:Int),.int .i64 (f:Int)],.int .i64 (a:Int)] w' fun x w2=>x=.returned (.int .i64 q)/\Gr w' w2):=aH (fun w'=>by rw [<-hq];exact ov u mb c f a1 a2 a3 a4 a5 c1 c2 c3 c4 c5 a w' hc Q5 Q5);clear N2 hq;go_enter Tryz.func144,Tryz.ntmps144
   go_upto_region 3 with fail
   have Px:=S8.out.cell IG Q6;generalize w.alloc (.cells #[.slice a1 u.aA.length c1,.slice a2 u.aD.length c2,.slice a3 u.aE.length c3,.slice a4 u.aB.length c4,.slice a5 u.aC.length c5,.map (some mb),.int .i64 (c:Int),.int .i64 (f:Int)] 209)=W1 at KS GC S8 JG Px |-;refine wp_region_held_drew (S:=(fun w'=>w'.cell? ⟨w.heap.size,0,none⟩=some (.slice a1 u.aA.length c1)/\w'.cell? ⟨w.heap.size,1,none⟩=some (.slice a2 u.aD.length c2)/\w'.cell? ⟨w.heap.size,2,none⟩=some (.slice a3 u.aE.length c3)/\w'.cell? ⟨w.heap.size,3,none⟩=some (.slice a4 u.aB.length c4)/\w'.cell? ⟨w.heap.size,4,none⟩=some (.slice a5 u.aC.length c5)/\w'.cell? ⟨w.heap.size,5,none⟩=some (.map (some mb))/\w'.cell? ⟨w.heap.size,6,none⟩=some (.int .i64 (c:Int))/\w'.cell? ⟨w.heap.size,7,none⟩=some (.int .i64 (f:Int)))) Q7 (KS.out _ (Gr.drew (Gr.refl _))) (fun hH=>?_);refine tL 0 ?_;simp only [Act.put,sA,s0,s1];refine tL 1 ?_;simp only [Act.put,sA,s0,s1];refine tL 2 ?_;simp only [Act.put,sA,s0,s1];refine tL 3 ?_;simp only [Act.put,sA,s0,s1];refine tL 4 ?_;simp only [Act.put,sA,s0,s1];refine aq (i:=5) rfl Q7 (fun K hK=>?_);refine ae cw ?_;have HK:=aH hK;clear hK;go_simp
   refine HK.out _ _ (KS.out _ (Gr.drew (Gr.refl _))) (fun hH=>?_);clear HK;try simp only [Act.put,sA,s0,s1]
   refine aq (i:=6) rfl Q7 (fun K hK=>?_);refine aQ rfl 146 _ _ rfl #[.agg #[.slice a1 u.aA.length c1,.slice a2 u.aD.length c2,.slice a3 u.aE.length c3,.slice a4 u.aB.length c4,.slice a5 u.aC.length c5,.map (some mb),.int .i64 (c:Int),.int .i64 (f:Int)],.int .i64 (a:Int)] fk (Tryz.callCn _ _) ((TU.out _).mono ?_);rintro z w2 ⟨rfl,E0⟩;have O0:=aH ((Gr.drew (Gr.refl W1)).trans E0);clear E0;refine .inl ⟨_,rfl,?_⟩;refine hK.out _ _ (KS.out _ O0.out) (fun hH=>?_);clear hK;try simp only [Act.put,sA,s0,s1]
   refine tL 7 ?_;simp only [Act.put,sA,s0,s1];refine tL 8 ?_;simp only [Act.put,sA,s0,s1];have Fi:=S8.out.trans O0.out;have D5:=(dA It.out Fi).frozenAt (k * 3+1);have S5:=Fi.cell IG Q6;refine aq (i:=9) rfl Q7 (fun K hK=>?_);refine ae cw ?_;have HK:=aH hK;clear hK;go_simp
   refine HK.out _ _ (GC.out _ _ O0.out) (fun hH=>?_);clear HK;try simp only [Act.put,sA,s0,s1]
   refine wpAnyH_done Q7 ?_ _;clear KS GC hH;go_wp2_with fail
   go_end0
   rw [HE.out];exact C3.out _ _ Fi
 · by_cases Jg:i_op=13
   · subst Jg;have G5:0<=Co/\Co<=65535:=by
      simp only [a_,ah,aa,wB] at N2;simp at N2;omega
     obtain ⟨a,rfl⟩:∃a:Nat,Co=(a:Int):=⟨Co.toNat,Q5⟩;have HE:Hid (tz N u c f ⟨13,(a:Int),Ox⟩=⟨13,kF N u f a,Ox⟩):=aH (by simp [tz]);clear N2;go_enter Tryz.func144,Tryz.ntmps144
     go_upto_region 5 with fail
     have Px:=S8.out.cell IG Q6;generalize w.alloc (.cells #[.slice a1 u.aA.length c1,.slice a2 u.aD.length c2,.slice a3 u.aE.length c3,.slice a4 u.aB.length c4,.slice a5 u.aC.length c5,.map (some mb),.int .i64 (c:Int),.int .i64 (f:Int)] 209)=W1 at KS GC S8 JG Px |-;refine wp_region_held_drew (S:=(fun w'=>w'.cell? ⟨w.heap.size,0,none⟩=some (.slice a1 u.aA.length c1)/\w'.cell? ⟨w.heap.size,1,none⟩=some (.slice a2 u.aD.length c2)/\w'.cell? ⟨w.heap.size,2,none⟩=some (.slice a3 u.aE.length c3)/\w'.cell? ⟨w.heap.size,3,none⟩=some (.slice a4 u.aB.length c4)/\w'.cell? ⟨w.heap.size,4,none⟩=some (.slice a5 u.aC.length c5)/\w'.cell? ⟨w.heap.size,5,none⟩=some (.map (some mb))/\w'.cell? ⟨w.heap.size,6,none⟩=some (.int .i64 (c:Int))/\w'.cell? ⟨w.heap.size,7,none⟩=some (.int .i64 (f:Int)))) Q7 (KS.out _ (Gr.drew (Gr.refl _))) (fun hH=>?_);refine tL 0 ?_;simp only [Act.put,sA,s0,s1];refine tL 1 ?_;simp only [Act.put,sA,s0,s1];refine tL 2 ?_;simp only [Act.put,sA,s0,s1];refine tL 3 ?_;simp only [Act.put,sA,s0,s1];refine tL 4 ?_;simp only [Act.put,sA,s0,s1];refine aq (i:=5) rfl Q7 (fun K hK=>?_);refine ae cw ?_;have HK:=aH hK;clear hK;go_simp
     refine HK.out _ _ (KS.out _ (Gr.drew (Gr.refl _))) (fun hH=>?_);clear HK;try simp only [Act.put,sA,s0,s1]
     refine aq (i:=6) rfl Q7 (fun K hK=>?_);refine aQ rfl 147 _ _ rfl #[.agg #[.slice a1 u.aA.length c1,.slice a2 u.aD.length c2,.slice a3 u.aE.length c3,.slice a4 u.aB.length c4,.slice a5 u.aC.length c5,.map (some mb),.int .i64 (c:Int),.int .i64 (f:Int)],.int .i64 (a:Int)] fk (Tryz.callFn _ _) ((qQ W u mb c f N a1 a2 a3 a4 a5 c1 c2 c3 c4 c5 a _ (HM.out.step (S8.out.trans (Gr.drew (Gr.refl _)))) hf Q5).mono ?_);rintro z w2 ⟨rfl,E0⟩;have O0:=aH ((Gr.drew (Gr.refl W1)).trans E0);clear E0;refine .inl ⟨_,rfl,?_⟩;refine hK.out _ _ (KS.out _ O0.out) (fun hH=>?_);clear hK;try simp only [Act.put,sA,s0,s1]
     refine tL 7 ?_;simp only [Act.put,sA,s0,s1];refine tL 8 ?_;simp only [Act.put,sA,s0,s1];have Fi:=S8.out.trans O0.out;have D5:=(dA It.out Fi).frozenAt (k * 3+1);have S5:=Fi.cell IG Q6;refine aq (i:=9) rfl Q7 (fun K hK=>?_);refine ae cw ?_;have HK:=aH hK;clear hK;go_simp
     refine HK.out _ _ (GC.out _ _ O0.out) (fun hH=>?_);clear HK;try simp only [Act.put,sA,s0,s1]
     refine wpAnyH_done Q7 ?_ _;clear KS GC hH;go_wp2_with fail
     go_end0
     rw [HE.out];exact C3.out _ _ Fi
   · have HE:Hid (l.set k (tz N u c f ⟨i_op,Co,Ox⟩)=l):=aH (by
      have:tz N u c f ⟨i_op,Co,Ox⟩=⟨i_op,Co,Ox⟩:=by simp [tz,h0,Jg]
      rw [this];exact xC HI.out)
     have Zu:(i_op == 0)=false:=by simpa using h0
     have hd13:(i_op == 13)=false:=by simpa using Jg
     clear N2;go_enter Tryz.func144,Tryz.ntmps144
     go_wp2_with fail
     go_end0
     rw [HE.out];exact ⟨rfl,dA It.out S8.out,tU S8.out⟩
end Go.Proofs.YtkgncijcnlfhiabGreat
