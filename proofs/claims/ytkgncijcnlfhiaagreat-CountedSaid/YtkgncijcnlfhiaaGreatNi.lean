import Derived.Test.YtkgncijcnlfhiaaGreatNd
import Derived.Deep.Cut
import Derived.Deep.CutRange
import Derived.Test.YtkgncijcnlfhiaaGreatNg
namespace Go.Proofs.YtkgncijcnlfhiaaGreat
set_option maxRecDepth 100000
set_option maxHeartbeats 2000000
set_option linter.unusedVariables false
set_option linter.unusedSimpArgs false
open Go.RowKit
attribute [local go_sem ↓] Go.wp_at_zero Go.wp_at_succ
theorem jx{w:World}{base n:Nat}{v vl:Value}{xs:List Value}{l:List Int}(hown:w.ownsRow base 3 1 v n xs)(hR:aX w vl l)(hn:n+l.length≤1000000)(hb:base≤w.heap.size)(ty:TypeId):
 ∃v' w',(Builtin.append_ #[22,22] ty #[v,vl]).run Tryz.prog w=.ok v' w'∧w'.ownsRow base 3 1 v' (n+l.length) (xs++eh l)∧w.grownBy w' v.ownBlock:=by
 obtain ⟨i0,hi,hz0,hz1,hz2⟩:=info_parts Tryz.infF;obtain ⟨ao,cap,rfl,hm,hc⟩:=hR;cases ao with
 | none=>
  have hl:l= []:=by
   cases l with
   | nil=>rfl
   | cons x t=>obtain ⟨b,off,e,_⟩:=hc 0 (by simp);cases e
  subst hl;refine ⟨v,w,?_,by simpa [eh] using hown,⟨rfl,rfl,rfl,Nat.le_refl _,fun _ _ _=>rfl⟩⟩;rcases hown.2 with ⟨rfl,rfl⟩|⟨g,cp,cur,rfl,_,_,hnc,_⟩
  · simp [Builtin.append_,run_underlying Tryz.uInts,Go.sizeOf,typeInfo,hi,Builtin.lenOf,Builtin.firstCells]
  · simp [Builtin.append_,run_underlying Tryz.uInts,Go.sizeOf,typeInfo,hi,Builtin.lenOf,Builtin.firstCells,hnc,storeCells]
 | some a=>
  have hnews:∀j u,(eh l)[j]? =some u→w.cell? (a.add j)=some u:=by
   intro j u hj;have hjl:j < l.length:=by
    rw [←jH l];exact (List.getElem?_eq_some_iff.1 hj).1
   obtain ⟨b,off,e,hcell⟩:=hc j hjl;rw [qb hjl] at hj;obtain rfl:=Option.some.inj hj;obtain rfl:=Option.some.inj e;have e2:(⟨b,off,none⟩:Addr).add j=⟨b,off+j,none⟩:=by simp [Addr.add]
   rw [e2];exact hcell
  obtain ⟨v',w',hr,h2,h3,_,_⟩:=run_append_own_at (P:=Tryz.prog) w base 22 ty 3 i0 (.int .i64 0) 1 8 Tryz.uInts hi hz0 hz1 hz2 rfl (by decide) v n xs hown a l.length cap (eh l) (by rw [jH];omega) hnews (by intro u hu;simp [eh] at hu;obtain ⟨x,_,rfl⟩:=hu;rfl) (by unfold maxLen;omega) (by omega) hb;exact ⟨v',w',hr,h2,h3⟩
def Af(w:World)(l:List Int)(e:Ending)(w':World):Prop:=∃v,e=.returned v∧w'.ownsRow w.heap.size 3 1 v l.length (eh l)∧Gr w w'
theorem aL{w:World}{B:Nat}{e:TypeId}{n len:Nat}{v:Value}{xs:List Value}(h:w.ownsRow B e n v len xs):∃ao cap,v=.slice ao len cap:=by
 obtain ⟨_,h2⟩:=h;rcases h2 with ⟨rfl,rfl⟩|⟨g,cap,cur,rfl,_⟩
 · exact ⟨none,0,rfl⟩
 · exact ⟨_,_,rfl⟩
theorem wS{w w1 w2:World}{v:Value}{n:Nat}{xs:List Value}(h:Gr w w1)(ho:w1.ownsRow w.heap.size 3 1 v n xs)(k:w1.grownBy w2 v.ownBlock):Gr w w2:=
 ⟨k.os.trans h.os,k.tape.trans h.tape,k.output.trans h.output,Nat.le_trans h.size k.size,fun i hi _=>(k.block i (Nat.lt_of_lt_of_le hi h.size) (fun e=>by have:=(ho.lt i e.symm).1;omega)).trans (h.block i hi (by simp))⟩
theorem lS(h:Nat)(v1 v2:Value)(l1 l2:List Int)(w:World)(hc1:w.cell? ⟨h,0,none⟩=some v1)(hc2:w.cell? ⟨h,1,none⟩=some v2)(h1:aX w v1 l1)(h2:aX w v2 l2)(hl1:l1.length≤10000)(hl2:l2.length≤10000):
 Calls Tryz.prog 47 #[.slice (some ⟨h,0,none⟩) 2 2] w (Af w (l1++l2)):=by
 obtain ⟨a1,p1,rfl⟩:=h1.shape;obtain ⟨a2,p2,rfl⟩:=h2.shape;have H1:=aH h1;have H2:=aH h2;have HC1:=aH hc1;have HC2:=aH hc2;clear h1 h2;go_enter Tryz.func47,Tryz.ntmps47
 go_wp2_with fail
 go_loopw [3,11] (fun s i wr=>w=wr∧((s=.int .i64 0∧i=.int .i64 0)∨(s=.int .i64 (l1.length:Int)∧i=.int .i64 1)∨(s=.int .i64 ((l1.length:Int)+(l2.length:Int))∧i=.int .i64 2))) (fun _ i _=>2 - (intOf i).toNat)
 case atStart=>exact ⟨rfl,.inl ⟨rfl,rfl⟩⟩
 case round=>
  obtain ⟨rfl,hr⟩:=hrel;have hn1:¬(l1.length:Int) < 0:=by omega
  have hn2:¬(l1.length:Int)+(l2.length:Int) < 0:=by omega
  have hw1:IntKind.i64.wrap (l1.length:Int)=(l1.length:Int):=Go.IntWalk.i64_in _ (by omega);have hw2:IntKind.i64.wrap ((l1.length:Int)+(l2.length:Int))=(l1.length:Int)+(l2.length:Int):=Go.IntWalk.i64_in _ (by omega);rcases hr with ⟨rfl,rfl⟩|⟨rfl,rfl⟩|⟨rfl,rfl⟩
  · go_wp2_with fail
    exact ⟨⟨by first|rfl|trivial,.inr (.inl ⟨by first|rfl|trivial,by first|rfl|trivial⟩)⟩,by simp [intOf]⟩
  · go_wp2_with fail
    exact ⟨⟨by first|rfl|trivial,.inr (.inr ⟨by first|rfl|trivial,by first|rfl|trivial⟩)⟩,by simp [intOf]⟩
  · have hcast:(l1.length:Int)+(l2.length:Int)=((l1.length+l2.length:Nat):Int):=by omega
    have HGW:=aH (wG (l1.length+l2.length) (by omega) w);rw [←hcast] at HGW;clear hcast;go_wp2_with (go_at_call 77;refine HGW.out.mono ?_;rintro e w1 ⟨v3,rfl,ho3,hg3⟩;obtain ⟨a3,p3,rfl⟩:=aL ho3)
    have HO3:=aH ho3;have HG3:=aH hg3;clear ho3 hg3 HGW hw1 hw2 hn1 hn2;go_loopw [6,27] (fun v i wr=>∃(k:Nat) (l:List Int),i=.int .i64 (k:Int)∧wr.ownsRow w.heap.size 3 1 v l.length (eh l)∧Gr w wr∧((k=0∧l= [])∨(k=1∧l=l1)∨(k=2∧l=l1++l2))) (fun _ i _=>2 - (intOf i).toNat)
    case atStart=>exact ⟨0,[],rfl,HO3.out,HG3.out,.inl ⟨rfl,rfl⟩⟩
    case round=>
     obtain ⟨k,l,rfl,ho,hg,hk⟩:=hrel;obtain ⟨a4,p4,rfl⟩:=aL ho;have HO:=aH ho;have HG:=aH hg;have hd1:=hg.cell HC1.out (by simp);have hd2:=hg.cell HC2.out (by simp);have hle:w.heap.size≤wr.heap.size:=hg.size;clear ho hg HO3 HG3 hc1 hc2;rcases hk with ⟨rfl,rfl⟩|⟨rfl,rfl⟩|⟨rfl,rfl⟩
     · obtain ⟨v5,w5,hr5,ho5,hg5⟩:=jx HO.out (H1.out.gr HG.out) (by simp;omega) hle 22;have HR5:=aH hr5;have HO5:=aH ho5;have HG5:=aH (wS HG.out HO.out hg5);clear hr5 ho5 hg5;go_wp2_with (at_builtin;refine Lib.wpList_append_run _ rfl _ _ _ _ rfl _ _ rfl rfl _ _ HR5.out ?_)
       exact ⟨⟨1,l1,rfl,by simpa [eh] using HO5.out,HG5.out,.inr (.inl ⟨rfl,rfl⟩)⟩,by simp [intOf]⟩
     · obtain ⟨v5,w5,hr5,ho5,hg5⟩:=jx HO.out (H2.out.gr HG.out) (by omega) hle 22;have HR5:=aH hr5;have HO5:=aH ho5;have HG5:=aH (wS HG.out HO.out hg5);clear hr5 ho5 hg5;go_wp2_with (at_builtin;refine Lib.wpList_append_run _ rfl _ _ _ _ rfl _ _ rfl rfl _ _ HR5.out ?_)
       exact ⟨⟨2,l++l2,rfl,by simpa [eh] using HO5.out,HG5.out,.inr (.inr ⟨rfl,rfl⟩)⟩,by simp [intOf]⟩
     · go_wp2_with fail
       go_ret
       exact ⟨_,rfl,HO.out,HG.out⟩
open Go.RowKit
attribute [local go_sem ↓] Go.wp_at_zero Go.wp_at_succ
theorem pM{α:Type}{f:α→List Value}{n:Nat}(hf:∀x,(f x).length=n):∀(l:List α) (j:Nat) (u:Value),(l.flatMap f)[j]? =some u→∃i r x,j=i * n+r∧r < n∧l[i]? =some x∧(f x)[r]? =some u
 | [],j,u,h=>by simp at h
 | y :: l,j,u,h=>by
  rw [List.flatMap_cons] at h;by_cases hj:j < n
  · rw [List.getElem?_append_left (by rw [hf];exact hj)] at h;exact ⟨0,j,y,by omega,hj,rfl,h⟩
  · rw [List.getElem?_append_right (by rw [hf];omega),hf] at h;obtain ⟨i,r,x,e1,e2,e3,e4⟩:=pM hf l (j - n) u h;refine ⟨i+1,r,x,?_,e2,by simpa using e3,e4⟩;rw [Nat.add_mul];omega
theorem dL{α:Type}{f:α→List Value}{n:Nat}(hf:∀x,(f x).length=n):∀(l:List α) (i r:Nat) (x:α),l[i]? =some x→r < n→(l.flatMap f)[i * n+r]? =(f x)[r]?
 | [],i,r,x,h,_=>by simp at h
 | y :: l,0,r,x,h,hr=>by
  simp only [List.getElem?_cons_zero,Option.some.injEq] at h;subst h;rw [List.flatMap_cons,List.getElem?_append_left (by rw [hf];omega)];simp
 | y :: l,i+1,r,x,h,hr=>by
  rw [List.flatMap_cons,List.getElem?_append_right (by rw [hf,Nat.add_mul];omega),hf,show (i+1) * n+r - n=i * n+r by rw [Nat.add_mul];omega];exact dL hf l i r x (by simpa using h) hr
theorem mx{α:Type}{f:α→List Value}{n:Nat}(hf:∀x,(f x).length=n):∀(l:List α),(l.flatMap f).length=l.length * n
 | []=>by simp
 | x :: l=>by simp [hf x,mx hf l,Nat.add_mul];omega
def cC(i:aw):List Value:= [.int .i64 i.op,.int .i64 i.a,.int .i64 i.b]
theorem iG(i:aw):(cC i).length=3:=rfl
def qs(w:World)(v:Value)(m:Nat)(xs:List Value):Prop:=∃ao cap,v=.slice ao m cap∧∀j u,xs[j]? =some u→∃b off,ao=some ⟨b,off,none⟩∧w.cell? ⟨b,off+j,none⟩=some u
theorem dC{w:World}{base n m size bytes:Nat}{v vx:Value}{xs news:List Value}(t e ty:TypeId)(zero:Value)(inf:(Tryz.prog.info? e).map (fun i=>(i.zero,i.size,i.bytes))=some (some zero,size,bytes))(ht:Tryz.prog.underlying t=some (.slice e))(hzs:zero.cells.size=size)(hsz:0 < size)(hby:bytes≤1000)
 (hown:w.ownsRow base e size v n xs) (hR:qs w vx m news) (hl:news.length=m * size) (h1:∀u∈news,u.oneCell'=true) (hn:n+m≤1000000) (hb:base≤w.heap.size):
 ∃v' w',(Builtin.append_ #[t,t] ty #[v,vx]).run Tryz.prog w=.ok v' w'∧w'.ownsRow base e size v' (n+m) (xs++news)∧w.grownBy w' v.ownBlock∧(v'.ownBlock=v.ownBlock∨v'.ownBlock=some w.heap.size):=by
 obtain ⟨i0,hi,hz0,hz1,hz2⟩:=info_parts inf;obtain ⟨ao,cap,rfl,hc⟩:=hR;cases ao with
 | none=>
  have hx:news= []:=by
   cases news with
   | nil=>rfl
   | cons x t=>obtain ⟨b,off,e,_⟩:=hc 0 x rfl;cases e
  subst hx;have hm:m=0:=by
   simp only [List.length_nil] at hl;rcases Nat.mul_eq_zero.1 hl.symm with h|h
   · exact h
   · omega
  subst hm;refine ⟨v,w,?_,by simpa using hown,⟨rfl,rfl,rfl,Nat.le_refl _,fun _ _ _=>rfl⟩,.inl rfl⟩;rcases hown.2 with ⟨rfl,rfl⟩|⟨g,cp,cur,rfl,_,_,hnc,_⟩
  · simp [Builtin.append_,run_underlying ht,Go.sizeOf,typeInfo,hi,Builtin.lenOf,Builtin.firstCells]
  · simp [Builtin.append_,run_underlying ht,Go.sizeOf,typeInfo,hi,Builtin.lenOf,Builtin.firstCells,hnc,storeCells]
 | some a=>
  have hnews:∀j u,news[j]? =some u→w.cell? (a.add j)=some u:=by
   intro j u hj;obtain ⟨b,off,e,hcell⟩:=hc j u hj;obtain rfl:=Option.some.inj e;have e2:(⟨b,off,none⟩:Addr).add j=⟨b,off+j,none⟩:=by simp [Addr.add]
   rw [e2];exact hcell
  obtain ⟨v',w',hr,h2,h3,_,h5⟩:=run_append_own_at (P:=Tryz.prog) w base t ty e i0 zero size bytes ht hi hz0 hz1 hz2 hzs hsz v n xs hown a m cap news hl hnews h1 (by unfold maxLen;omega) (Nat.le_trans (Nat.mul_le_mul hn hby) (by decide)) hb;exact ⟨v',w',hr,h2,h3,h5⟩
theorem Tryz.infI:(Tryz.prog.info? 3).map (fun i=>(i.zero,i.size,i.bytes))=some (some (.int .i64 0),1,8):=by kernel_rfl
theorem Tryz.infC:(Tryz.prog.info? 26).map (fun i=>(i.zero,i.size,i.bytes))=some (some (.agg #[.int .i64 0,.int .i64 0,.int .i64 0]),3,24):=by kernel_rfl
theorem Tryz.uI:Tryz.prog.underlying 22=some (.slice 3):=by kernel_rfl
theorem Tryz.uC:Tryz.prog.underlying 23=some (.slice 26):=by kernel_rfl
theorem aX.row{w:World}{v:Value}{l:List Int}(h:aX w v l):qs w v l.length (eh l):=by
 obtain ⟨ao,cap,rfl,hm,hc⟩:=h;refine ⟨ao,cap,rfl,fun j u hj=>?_⟩;have hjl:j < l.length:=by rw [←jH l];exact (List.getElem?_eq_some_iff.1 hj).1
 obtain ⟨b,off,e,hcell⟩:=hc j hjl;refine ⟨b,off,e,hcell.trans ?_⟩;rw [←hj];simp [eh,hjl,List.getD_eq_getElem?_getD]
theorem dM.row{w:World}{v:Value}{l:List aw}(h:dM w v l):qs w v l.length (l.flatMap cC):=by
 obtain ⟨ao,cap,rfl,hm,hc⟩:=h;refine ⟨ao,cap,rfl,fun j u hj=>?_⟩;obtain ⟨i,r,x,rfl,hr,hx,hu⟩:=pM iG l j u hj;obtain ⟨b,off,e,h0,h1,h2⟩:=hc i x hx;refine ⟨b,off,e,?_⟩;rcases (show r=0∨r=1∨r=2 by omega) with rfl|rfl|rfl
 · rw [←hu];exact h0
 · rw [←hu];exact h1
 · rw [←hu];exact h2
theorem sS(l:List Int):∀u∈eh l,u.oneCell'=true:=by
 intro u hu;simp only [eh,List.mem_map] at hu;obtain ⟨x,_,rfl⟩:=hu;rfl
theorem zE(l:List aw):∀u∈l.flatMap cC,u.oneCell'=true:=by
 intro u hu;simp only [List.mem_flatMap,cC,List.mem_cons,List.not_mem_nil,or_false] at hu;obtain ⟨x,_,rfl|rfl|rfl⟩:=hu<;>rfl
def vd(e:TypeId)(size n:Nat)(xs:List Value)(w:World)(x:Ending)(w':World):Prop:=∃v,x=.returned v∧w'.ownsRow w.heap.size e size v n xs∧Gr w w'
theorem iT(v:Value)(l:List Int)(w:World)(hR:aX w v l)(hl:l.length≤100000):
 Calls Tryz.prog 69 #[v] w (vd 3 1 l.length (eh l) w):=by
 obtain ⟨v',w',hr,ho,hg,_⟩:=dC (ty:=22) 22 3 _ Tryz.infI Tryz.uI rfl (by decide) (by decide) (World.ownsRow_nil w w.heap.size 3 1) hR.row (by rw [jH];omega) (sS l) (by omega) (Nat.le_refl _);obtain ⟨ao,cap,rfl⟩:=hR.shape;have HR:=aH hr;have HO:=aH ho;have HG:=aH hg;clear hr ho hg hR;go_enter Tryz.func69,Tryz.ntmps69
 go_wp2_with (at_builtin;refine Lib.wpList_append_run _ rfl _ _ _ _ rfl _ _ rfl rfl _ _ HR.out ?_)
 go_ret
 exact ⟨_,rfl,by simpa using HO.out,HG.out⟩
theorem qg(v:Value)(l:List aw)(w:World)(hR:dM w v l)(hl:l.length≤100000):
 Calls Tryz.prog 109 #[v] w (vd 26 3 l.length (l.flatMap cC) w):=by
 obtain ⟨v',w',hr,ho,hg,_⟩:=dC (ty:=23) 23 26 _ Tryz.infC Tryz.uC rfl (by decide) (by decide) (World.ownsRow_nil w w.heap.size 26 3) hR.row (mx iG l) (zE l) (by omega) (Nat.le_refl _);obtain ⟨ao,cap,rfl⟩:=hR.shape;have HR:=aH hr;have HO:=aH ho;have HG:=aH hg;clear hr ho hg hR;go_enter Tryz.func109,Tryz.ntmps109
 go_wp2_with (at_builtin;refine Lib.wpList_append_run _ rfl _ _ _ _ rfl _ _ rfl rfl _ _ HR.out ?_)
 go_ret
 exact ⟨_,rfl,by simpa using HO.out,HG.out⟩
structure uG(W w:World)(u:aK)(mb:Nat)(N:List UInt8→Option (aO×Int))(a3:Option Addr)(c3:Nat)(a4:Option Addr)(c4:Nat):Prop where
 gr:Gr W w
 mp:∃n,g8 W w mb n N
 fu:cG W (.slice a3 u.aE.length c3) u.aE
 im:bK W (.slice a4 u.aB.length c4) u.aB
 ok:ak u=true
theorem uG.step{W w w':World}{u:aK}{mb:Nat}{N:List UInt8→Option (aO×Int)}{a3:Option Addr}{c3:Nat}{a4:Option Addr}{c4:Nat}(h:uG W w u mb N a3 c3 a4 c4)(g:Gr w w'):uG W w' u mb N a3 c3 a4 c4:=by
 obtain ⟨n,hm⟩:=h.mp;exact ⟨h.gr.trans g,⟨n,hm.gr g⟩,h.fu,h.im,h.ok⟩
def jf(N:List UInt8→Option (aO×Int))(n:List UInt8):Int:=match N n with
 | some (_,k)=>k
 | none=>0
theorem nN(u:aK)(mb c f:Nat)(a1 a2 a3 a4 a5:Option Addr)(c1 c2 c3 c4 c5:Nat)(n:Nat)(w:World)(hc:c≤1000)(hn:n≤65535)(hl:u.aD.length≤1000):
 Calls Tryz.prog 139 #[.agg #[.slice a1 u.aA.length c1,.slice a2 u.aD.length c2,.slice a3 u.aE.length c3,.slice a4 u.aB.length c4,.slice a5 u.aC.length c5,.map (some mb),.int .i64 (c:Int),.int .i64 (f:Int)],.int .i64 (n:Int)] w fun x w'=>x=.returned (.int .i64 (if n < u.aD.length then (c:Int)+(n:Int) else 65535))∧Gr w w':=by
 have hw:IntKind.i64.wrap ((c:Int)+(n:Int))=(c:Int)+(n:Int):=Go.IntWalk.i64_in _ (by omega);by_cases h:n < u.aD.length
 · have hi:(n:Int) < (u.aD.length:Int):=by omega
   go_enter Tryz.func139,Tryz.ntmps139
   go_wp2_with fail
   go_ret
   exact ⟨by first|rfl|(rw [if_pos h];rfl),(Gr.refl _).alloc _⟩
 · have hi:¬(n:Int) < (u.aD.length:Int):=by omega
   have hd:decide ((n:Int) < (u.aD.length:Int))=false:=by simpa using hi
   go_enter Tryz.func139,Tryz.ntmps139
   go_wp2_with fail
   go_ret
   exact ⟨by first|rfl|(rw [if_neg h];rfl),(Gr.refl _).alloc _⟩
def jS(N:List UInt8→Option (aO×Int))(u:aK)(f n:Nat):Int:=if n < u.aE.length then (f:Int)+(n:Int) else match u.aB[n - u.aE.length]? with
 | some g=>jf N g.name
 | none=>65535
theorem pm(W:World)(u:aK)(mb c f:Nat)(N:List UInt8→Option (aO×Int))(a1 a2 a3 a4 a5:Option Addr)(c1 c2 c3 c4 c5:Nat)(n:Nat)(w:World)(hM:uG W w u mb N a3 c3 a4 c4)(hf:f≤1000)(hn:n≤65535):
 Calls Tryz.prog 140 #[.agg #[.slice a1 u.aA.length c1,.slice a2 u.aD.length c2,.slice a3 u.aE.length c3,.slice a4 u.aB.length c4,.slice a5 u.aC.length c5,.map (some mb),.int .i64 (c:Int),.int .i64 (f:Int)],.int .i64 (n:Int)] w fun x w'=>x=.returned (.int .i64 (jS N u f n))∧Gr w w':=by
 have hft:=fun (a b c d e:Value) (w:World)=>Tryz.tgtN a b c d e w
 have hfit:=ey hM.ok;have hl:=hfit.1;have hli:=hfit.2.2.1;clear hfit;have hw:IntKind.i64.wrap ((f:Int)+(n:Int))=(f:Int)+(n:Int):=Go.IntWalk.i64_in _ (by omega);have hw2:IntKind.i64.wrap ((u.aE.length:Int)+(u.aB.length:Int))=(u.aE.length:Int)+(u.aB.length:Int):=Go.IntWalk.i64_in _ (by omega);by_cases h:n < u.aE.length
 · have hi:(n:Int) < (u.aE.length:Int):=by omega
   have HE:Hid (jS N u f n=(f:Int)+(n:Int)):=aH (by unfold jS;rw [if_pos h]);clear hM;go_enter Tryz.func140,Tryz.ntmps140
   go_wp2_with fail
   go_ret
   exact ⟨by rw [HE.out];rfl,(Gr.refl _).alloc _⟩
 · have hi:decide ((n:Int) < (u.aE.length:Int))=false:=by rw [decide_eq_false_iff_not];omega
   by_cases h2:n < u.aE.length+u.aB.length
   · have hi2:(n:Int) < (u.aE.length:Int)+(u.aB.length:Int):=by omega
     obtain ⟨k,hk⟩:∃k,n - u.aE.length=k:=⟨_,rfl⟩;have hkl:k < u.aB.length:=by omega
     have hki:(k:Int) < (u.aB.length:Int):=by omega
     have hws:IntKind.i64.wrap ((n:Int) - (u.aE.length:Int))=(k:Int):=by rw [Go.IntWalk.i64_in _ (by omega)];omega
     obtain ⟨x,hx⟩:=aY hkl;have HE:Hid (jS N u f n=jf N x.name):=aH (by unfold jS;rw [if_neg h,hk,hx]);obtain ⟨ao,cap,he,_,hc⟩:=hM.im;simp only [Value.slice.injEq,true_and] at he;obtain ⟨rfl,rfl⟩:=he;obtain ⟨b,off,vs,vp,rfl,k0,_,_,⟨s,rfl,hs,hsz⟩,_⟩:=hc k x hx;have k0:=hM.gr.cell k0 (by simp);obtain ⟨nn,hm⟩:=hM.mp;have hv:∃p1 p2 p3 p4:Value,∃kk:Int,jf N x.name=kk∧∀w',Gr w w'→(Instr.lookup 85 (.map (some mb)) (.string s) false).run Tryz.prog w'=.ok (.agg #[p1,p2,p3,p4,.int .i64 kk]) w':=by
      rcases hm.find s hsz with ⟨e1,_,e2⟩|⟨g,kk,v,e1,⟨_,_,_,_,_,_,_,_,rfl,_⟩,_,e2⟩
      · exact ⟨_,_,_,_,0,by unfold jf;rw [←hs,e1],fun w' g=>e2 w' g⟩
      · exact ⟨_,_,_,_,kk,by unfold jf;rw [←hs,e1],fun w' g=>e2 w' g⟩
     obtain ⟨p1,p2,p3,p4,kk,hkk,hlk⟩:=hv;have HKK:=aH hkk;have hb0:=heap_alloc_new w (.cells #[.slice a1 u.aA.length c1,.slice a2 u.aD.length c2,.slice a3 u.aE.length c3,.slice (some ⟨b,off,none⟩) u.aB.length c4,.slice a5 u.aC.length c5,.map (some mb),.int .i64 (c:Int),.int .i64 (f:Int)] 130);have KS:Hid (∀w',Gr (w.alloc (.cells #[.slice a1 u.aA.length c1,.slice a2 u.aD.length c2,.slice a3 u.aE.length c3,.slice (some ⟨b,off,none⟩) u.aB.length c4,.slice a5 u.aC.length c5,.map (some mb),.int .i64 (c:Int),.int .i64 (f:Int)] 130)) w'→w'.cell? ⟨w.heap.size,3,none⟩=some (.slice (some ⟨b,off,none⟩) u.aB.length c4)∧w'.cell? ⟨w.heap.size,5,none⟩=some (.map (some mb))∧w'.cell? ⟨b,off+k * 3,none⟩=some (.string s)∧(Instr.lookup 85 (.map (some mb)) (.string s) false).run Tryz.prog w'=.ok (.agg #[p1,p2,p3,p4,.int .i64 kk]) w'):=aH (fun w' g=>by
      have g0:=((Gr.refl w).alloc (.cells #[.slice a1 u.aA.length c1,.slice a2 u.aD.length c2,.slice a3 u.aE.length c3,.slice (some ⟨b,off,none⟩) u.aB.length c4,.slice a5 u.aC.length c5,.map (some mb),.int .i64 (c:Int),.int .i64 (f:Int)] 130)).trans g;have e0:w'.heap[w.heap.size]? =_:=(g.block w.heap.size (by simp) (by simp)).trans hb0;exact ⟨by rw [aI e0];rfl,by rw [aI e0];rfl,g0.cell k0 (by simp),hlk w' g0⟩)
     clear hx hc hM hm hs hsz k0 hkk hlk hk hb0;have hi2d:decide ((n:Int) < (u.aE.length:Int)+(u.aB.length:Int))=true:=by simpa using hi2
     go_enter Tryz.func140,Tryz.ntmps140
     go_upto_region 5 with fail
     refine wp_region_held_drew (S:=(fun w'=>w'.cell? ⟨w.heap.size,3,none⟩=some (.slice (some ⟨b,off,none⟩) u.aB.length c4)∧w'.cell? ⟨w.heap.size,5,none⟩=some (.map (some mb))∧w'.cell? ⟨b,off+k * 3,none⟩=some (.string s)∧(Instr.lookup 85 (.map (some mb)) (.string s) false).run Tryz.prog w'=.ok (.agg #[p1,p2,p3,p4,.int .i64 kk]) w')) (by kernel_rfl) (KS.out _ (Gr.drew (Gr.refl _))) (fun hH=>?_);refine tL 0 ?_;simp only [Act.put,sA,s0,s1];refine tL 1 ?_;simp only [Act.put,sA,s0,s1];refine tL 2 ?_;simp only [Act.put,sA,s0,s1];refine tL 3 ?_;simp only [Act.put,sA,s0,s1];refine tL 4 ?_;simp only [Act.put,sA,s0,s1];refine tL 5 ?_;simp only [Act.put,sA,s0,s1];refine tL 6 ?_;simp only [Act.put,sA,s0,s1];refine tL 7 ?_;simp only [Act.put,sA,s0,s1];refine tL 8 ?_;simp only [Act.put,sA,s0,s1];refine tL 9 ?_;simp only [Act.put,sA,s0,s1];refine tL 10 ?_;simp only [Act.put,sA,s0,s1];refine tL 11 ?_;simp only [Act.put,sA,s0,s1];refine tL 12 ?_;simp only [Act.put,sA,s0,s1];refine tL 13 ?_;simp only [Act.put,sA,s0,s1];refine wpAnyH_done (by kernel_rfl) ?_ _;clear KS hH;go_wp2_with fail
     go_ret
     exact ⟨by rw [HE.out,HKK.out];rfl,Gr.drew ((Gr.refl _).alloc _)⟩
   · have hi2:decide ((n:Int) < (u.aE.length:Int)+(u.aB.length:Int))=false:=by rw [decide_eq_false_iff_not];omega
     have HE:Hid (jS N u f n=65535):=aH (by unfold jS;rw [if_neg h,List.getElem?_eq_none (by omega)]);clear hM;go_enter Tryz.func140,Tryz.ntmps140
     go_wp2_with fail
     go_ret
     exact ⟨by rw [HE.out];rfl,(Gr.refl _).alloc _⟩
open Go.RowKit
attribute [local go_sem ↓] Go.wp_at_zero Go.wp_at_succ
theorem Tryz.callCn(vals:Array Value)(w:World):(callFunc 139 vals).run Tryz.prog w=.ok (.enter 139 vals) w:=by kernel_rfl
theorem Tryz.callFn(vals:Array Value)(w:World):(callFunc 140 vals).run Tryz.prog w=.ok (.enter 140 vals) w:=by kernel_rfl
def rZ(N:List UInt8→Option (aO×Int))(u:aK)(c f:Nat)(i:aw):aw:=
 if i.op=0 then { i with a:=if i.a.toNat < u.aD.length then (c:Int)+(i.a.toNat:Int) else 65535 }
 else if i.op=13 then { i with a:=jS N u f i.a.toNat } else i
theorem pH:∀(l:List aw) (k:Nat) (i:aw) (x:Int),l[k]? =some i→(l.flatMap cC).set (k * 3+1) (.int .i64 x)=(l.set k { i with a:=x }).flatMap cC
 | [],k,i,x,h=>by simp at h
 | y :: l,0,i,x,h=>by
  simp only [List.getElem?_cons_zero,Option.some.injEq] at h;subst h;rfl
 | y :: l,k+1,i,x,h=>by
  have e:(y :: l).flatMap cC=.int .i64 y.op :: .int .i64 y.a :: .int .i64 y.b :: l.flatMap cC:=rfl;have e2:(k+1) * 3+1=(k * 3+1)+1+1+1:=by omega
  rw [e,e2];simp only [List.set_cons_succ];rw [pH l k i x (by simpa using h)];rfl
theorem wi{l:List aw}{k:Nat}{i:aw}(h:l[k]? =some i):l.set k i=l:=by
 obtain ⟨hk,rfl⟩:=List.getElem?_eq_some_iff.1 h;exact List.set_getElem_self hk
theorem cY{w w':World}{base:Nat}{e:TypeId}{size:Nat}{v:Value}{n:Nat}{xs:List Value}(h:w.ownsRow base e size v n xs)(g:Gr w w'):w'.ownsRow base e size v n xs:=h.kept g (by cases hv:v.ownBlock<;>simp)
def zS(B n cap cb:Nat)(l:List aw)(w:World)(x:Ending)(w':World):Prop:=x=.returned (.tuple #[])∧w'.ownsRow B 26 3 (.slice (some ⟨cb,0,none⟩) n cap) n (l.flatMap cC)∧w.grownBy w' (some cb)
theorem oC(W:World)(u:aK)(mb c f:Nat)(N:List UInt8→Option (aO×Int))(a1 a2 a3 a4 a5:Option Addr)(c1 c2 c3 c4 c5:Nat)(B n cap cb k:Nat)(l:List aw)(i:aw)(w:World)(hM:uG W w u mb N a3 c3 a4 c4)(hc:c≤1000)(hf:f≤1000)
 (hown:w.ownsRow B 26 3 (.slice (some ⟨cb,0,none⟩) n cap) n (l.flatMap cC)) (hnl:n=l.length) (hi:l[k]? =some i) (hok:bH i=true):
 Calls Tryz.prog 110 #[.agg #[.slice a1 u.aA.length c1,.slice a2 u.aD.length c2,.slice a3 u.aE.length c3,.slice a4 u.aB.length c4,.slice a5 u.aC.length c5,.map (some mb),.int .i64 (c:Int),.int .i64 (f:Int)],.pointer (some ⟨cb,k * 3,none⟩)] w (zS B n cap cb (l.set k (rZ N u c f i)) w):=by
 subst hnl;have hkl:k < l.length:=(List.getElem?_eq_some_iff.1 hi).1;have hco:w.cell? ⟨cb,k * 3,none⟩=some (.int .i64 i.op):=by rw [hown.cellAt _ (by omega)];exact dL iG l k 0 i hi (by omega)
 have hca:w.cell? ⟨cb,k * 3+1,none⟩=some (.int .i64 i.a):=by rw [hown.cellAt _ (by omega)];exact dL iG l k 1 i hi (by omega)
 have hcb:cb < w.heap.size:=World.block_lt_of_cell? w _ hco;have hb0:=heap_alloc_new w (.cells #[.slice a1 u.aA.length c1,.slice a2 u.aD.length c2,.slice a3 u.aE.length c3,.slice a4 u.aB.length c4,.slice a5 u.aC.length c5,.map (some mb),.int .i64 (c:Int),.int .i64 (f:Int)] 130);have hgw:=(Gr.refl w).alloc (.cells #[.slice a1 u.aA.length c1,.slice a2 u.aD.length c2,.slice a3 u.aE.length c3,.slice a4 u.aB.length c4,.slice a5 u.aC.length c5,.map (some mb),.int .i64 (c:Int),.int .i64 (f:Int)] 130);have KS:Hid (∀w',Gr (w.alloc (.cells #[.slice a1 u.aA.length c1,.slice a2 u.aD.length c2,.slice a3 u.aE.length c3,.slice a4 u.aB.length c4,.slice a5 u.aC.length c5,.map (some mb),.int .i64 (c:Int),.int .i64 (f:Int)] 130)) w'→w'.cell? ⟨w.heap.size,0,none⟩=some (.slice a1 u.aA.length c1)∧w'.cell? ⟨w.heap.size,1,none⟩=some (.slice a2 u.aD.length c2)∧w'.cell? ⟨w.heap.size,2,none⟩=some (.slice a3 u.aE.length c3)∧w'.cell? ⟨w.heap.size,3,none⟩=some (.slice a4 u.aB.length c4)∧w'.cell? ⟨w.heap.size,4,none⟩=some (.slice a5 u.aC.length c5)∧w'.cell? ⟨w.heap.size,5,none⟩=some (.map (some mb))∧w'.cell? ⟨w.heap.size,6,none⟩=some (.int .i64 (c:Int))∧w'.cell? ⟨w.heap.size,7,none⟩=some (.int .i64 (f:Int))):=aH (fun w' g=>by
  have e0:w'.heap[w.heap.size]? =_:=(g.block w.heap.size (by simp) (by simp)).trans hb0;refine ⟨?_,?_,?_,?_,?_,?_,?_,?_⟩<;>(rw [aI e0];rfl))
 have KSS:Hid (∀w' v,Gr (w.alloc (.cells #[.slice a1 u.aA.length c1,.slice a2 u.aD.length c2,.slice a3 u.aE.length c3,.slice a4 u.aB.length c4,.slice a5 u.aC.length c5,.map (some mb),.int .i64 (c:Int),.int .i64 (f:Int)] 130)) w'→(w'.setCell ⟨cb,k * 3+1,none⟩ v).cell? ⟨w.heap.size,0,none⟩=some (.slice a1 u.aA.length c1)∧(w'.setCell ⟨cb,k * 3+1,none⟩ v).cell? ⟨w.heap.size,1,none⟩=some (.slice a2 u.aD.length c2)∧(w'.setCell ⟨cb,k * 3+1,none⟩ v).cell? ⟨w.heap.size,2,none⟩=some (.slice a3 u.aE.length c3)∧(w'.setCell ⟨cb,k * 3+1,none⟩ v).cell? ⟨w.heap.size,3,none⟩=some (.slice a4 u.aB.length c4)∧(w'.setCell ⟨cb,k * 3+1,none⟩ v).cell? ⟨w.heap.size,4,none⟩=some (.slice a5 u.aC.length c5)∧(w'.setCell ⟨cb,k * 3+1,none⟩ v).cell? ⟨w.heap.size,5,none⟩=some (.map (some mb))∧(w'.setCell ⟨cb,k * 3+1,none⟩ v).cell? ⟨w.heap.size,6,none⟩=some (.int .i64 (c:Int))∧(w'.setCell ⟨cb,k * 3+1,none⟩ v).cell? ⟨w.heap.size,7,none⟩=some (.int .i64 (f:Int))):=aH (fun w' v g=>by
  have e0:(w'.setCell ⟨cb,k * 3+1,none⟩ v).heap[w.heap.size]? =_:=(Below.heap_setCell _ _ _ _ (by show w.heap.size≠cb;omega)).trans ((g.block w.heap.size (by simp) (by simp)).trans hb0);refine ⟨?_,?_,?_,?_,?_,?_,?_,?_⟩<;>(rw [aI e0];rfl))
 have hcoA:=hgw.cell hco (by simp);have HGW:=aH hgw;have HOWN:=aH hown;have HM:=aH hM;have HI:=aH hi;have HEND:Hid (∀w' x,Gr w w'→zS B l.length cap cb (l.set k { i with a:=x }) w (.returned (.tuple #[])) (w'.setCell ⟨cb,k * 3+1,none⟩ (.int .i64 x))):=aH (fun w' x g=>by
  obtain ⟨h1,h2⟩:=(cY HOWN.out g).stored (k * 3+1) (.int .i64 x);rw [pH l k i x HI.out] at h1;exact ⟨rfl,h1,mR (ro g) h2⟩)
 obtain ⟨i_op,i_a,i_b⟩:=i;have hlc:=(ey hM.ok).2.1;clear hi hown hM hgw hb0;by_cases h0:i_op=0
 · subst h0;have hab:0≤i_a∧i_a≤65535:=by
    simp only [bH,a9,ah,wB] at hok;simp at hok;omega
   obtain ⟨a,rfl⟩:∃a:Nat,i_a=(a:Int):=⟨i_a.toNat,by omega⟩;obtain ⟨q,hq⟩:∃q:Int,(if a < u.aD.length then (c:Int)+(a:Int) else 65535)=q:=⟨_,rfl⟩;have HE:Hid (rZ N u c f ⟨0,(a:Int),i_b⟩=⟨0,q,i_b⟩):=aH (by rw [←hq];simp [rZ]);have HCN:Hid (∀w',Calls Tryz.prog 139 #[.agg #[.slice a1 u.aA.length c1,.slice a2 u.aD.length c2,.slice a3 u.aE.length c3,.slice a4 u.aB.length c4,.slice a5 u.aC.length c5,.map (some mb),.int .i64 (c:Int),.int .i64 (f:Int)],.int .i64 (a:Int)] w' fun x w2=>x=.returned (.int .i64 q)∧Gr w' w2):=aH (fun w'=>by rw [←hq];exact nN u mb c f a1 a2 a3 a4 a5 c1 c2 c3 c4 c5 a w' hc (by omega) (by omega));clear hok hq;go_enter Tryz.func110,Tryz.ntmps110
   go_upto_region 3 with fail
   have hcaW:=HGW.out.cell hca (by simp);generalize w.alloc (.cells #[.slice a1 u.aA.length c1,.slice a2 u.aD.length c2,.slice a3 u.aE.length c3,.slice a4 u.aB.length c4,.slice a5 u.aC.length c5,.map (some mb),.int .i64 (c:Int),.int .i64 (f:Int)] 130)=W1 at KS KSS HGW hcoA hcaW ⊢;refine wp_region_held_drew (S:=(fun w'=>w'.cell? ⟨w.heap.size,0,none⟩=some (.slice a1 u.aA.length c1)∧w'.cell? ⟨w.heap.size,1,none⟩=some (.slice a2 u.aD.length c2)∧w'.cell? ⟨w.heap.size,2,none⟩=some (.slice a3 u.aE.length c3)∧w'.cell? ⟨w.heap.size,3,none⟩=some (.slice a4 u.aB.length c4)∧w'.cell? ⟨w.heap.size,4,none⟩=some (.slice a5 u.aC.length c5)∧w'.cell? ⟨w.heap.size,5,none⟩=some (.map (some mb))∧w'.cell? ⟨w.heap.size,6,none⟩=some (.int .i64 (c:Int))∧w'.cell? ⟨w.heap.size,7,none⟩=some (.int .i64 (f:Int)))) (by kernel_rfl) (KS.out _ (Gr.drew (Gr.refl _))) (fun hH=>?_);refine tL 0 ?_;simp only [Act.put,sA,s0,s1];refine tL 1 ?_;simp only [Act.put,sA,s0,s1];refine tL 2 ?_;simp only [Act.put,sA,s0,s1];refine tL 3 ?_;simp only [Act.put,sA,s0,s1];refine tL 4 ?_;simp only [Act.put,sA,s0,s1];refine au (i:=5) rfl (by kernel_rfl) (fun K hK=>?_);refine ae (by rfl) ?_;have HK:=aH hK;clear hK;go_simp
   refine HK.out _ _ (KS.out _ (Gr.drew (Gr.refl _))) (fun hH=>?_);clear HK;try simp only [Act.put,sA,s0,s1]
   refine au (i:=6) rfl (by kernel_rfl) (fun K hK=>?_);refine aS rfl 139 _ _ rfl #[.agg #[.slice a1 u.aA.length c1,.slice a2 u.aD.length c2,.slice a3 u.aE.length c3,.slice a4 u.aB.length c4,.slice a5 u.aC.length c5,.map (some mb),.int .i64 (c:Int),.int .i64 (f:Int)],.int .i64 (a:Int)] (by simp [Act.eval]) (Tryz.callCn _ _) ((HCN.out _).mono ?_);rintro z w2 ⟨rfl,hg2⟩;have HG2:=aH ((Gr.drew (Gr.refl W1)).trans hg2);clear hg2;refine .inl ⟨_,rfl,?_⟩;refine hK.out _ _ (KS.out _ HG2.out) (fun hH=>?_);clear hK;try simp only [Act.put,sA,s0,s1]
   refine tL 7 ?_;simp only [Act.put,sA,s0,s1];refine tL 8 ?_;simp only [Act.put,sA,s0,s1];have hg02:=HGW.out.trans HG2.out;have hz2:=(cY HOWN.out hg02).frozenAt (k * 3+1);have hc2:=hg02.cell hca (by simp);refine au (i:=9) rfl (by kernel_rfl) (fun K hK=>?_);refine ae (by rfl) ?_;have HK:=aH hK;clear hK;go_simp
   refine HK.out _ _ (KSS.out _ _ HG2.out) (fun hH=>?_);clear HK;try simp only [Act.put,sA,s0,s1]
   refine wpAnyH_done (by kernel_rfl) ?_ _;clear KS KSS hH;go_wp2_with fail
   go_end0
   rw [HE.out];exact HEND.out _ _ hg02
 · by_cases h13:i_op=13
   · subst h13;have hab:0≤i_a∧i_a≤65535:=by
      simp only [bH,a9,ah,wB] at hok;simp at hok;omega
     obtain ⟨a,rfl⟩:∃a:Nat,i_a=(a:Int):=⟨i_a.toNat,by omega⟩;have HE:Hid (rZ N u c f ⟨13,(a:Int),i_b⟩=⟨13,jS N u f a,i_b⟩):=aH (by simp [rZ]);clear hok;go_enter Tryz.func110,Tryz.ntmps110
     go_upto_region 5 with fail
     have hcaW:=HGW.out.cell hca (by simp);generalize w.alloc (.cells #[.slice a1 u.aA.length c1,.slice a2 u.aD.length c2,.slice a3 u.aE.length c3,.slice a4 u.aB.length c4,.slice a5 u.aC.length c5,.map (some mb),.int .i64 (c:Int),.int .i64 (f:Int)] 130)=W1 at KS KSS HGW hcoA hcaW ⊢;refine wp_region_held_drew (S:=(fun w'=>w'.cell? ⟨w.heap.size,0,none⟩=some (.slice a1 u.aA.length c1)∧w'.cell? ⟨w.heap.size,1,none⟩=some (.slice a2 u.aD.length c2)∧w'.cell? ⟨w.heap.size,2,none⟩=some (.slice a3 u.aE.length c3)∧w'.cell? ⟨w.heap.size,3,none⟩=some (.slice a4 u.aB.length c4)∧w'.cell? ⟨w.heap.size,4,none⟩=some (.slice a5 u.aC.length c5)∧w'.cell? ⟨w.heap.size,5,none⟩=some (.map (some mb))∧w'.cell? ⟨w.heap.size,6,none⟩=some (.int .i64 (c:Int))∧w'.cell? ⟨w.heap.size,7,none⟩=some (.int .i64 (f:Int)))) (by kernel_rfl) (KS.out _ (Gr.drew (Gr.refl _))) (fun hH=>?_);refine tL 0 ?_;simp only [Act.put,sA,s0,s1];refine tL 1 ?_;simp only [Act.put,sA,s0,s1];refine tL 2 ?_;simp only [Act.put,sA,s0,s1];refine tL 3 ?_;simp only [Act.put,sA,s0,s1];refine tL 4 ?_;simp only [Act.put,sA,s0,s1];refine au (i:=5) rfl (by kernel_rfl) (fun K hK=>?_);refine ae (by rfl) ?_;have HK:=aH hK;clear hK;go_simp
     refine HK.out _ _ (KS.out _ (Gr.drew (Gr.refl _))) (fun hH=>?_);clear HK;try simp only [Act.put,sA,s0,s1]
     refine au (i:=6) rfl (by kernel_rfl) (fun K hK=>?_);refine aS rfl 140 _ _ rfl #[.agg #[.slice a1 u.aA.length c1,.slice a2 u.aD.length c2,.slice a3 u.aE.length c3,.slice a4 u.aB.length c4,.slice a5 u.aC.length c5,.map (some mb),.int .i64 (c:Int),.int .i64 (f:Int)],.int .i64 (a:Int)] (by simp [Act.eval]) (Tryz.callFn _ _) ((pm W u mb c f N a1 a2 a3 a4 a5 c1 c2 c3 c4 c5 a _ (HM.out.step (HGW.out.trans (Gr.drew (Gr.refl _)))) hf (by omega)).mono ?_);rintro z w2 ⟨rfl,hg2⟩;have HG2:=aH ((Gr.drew (Gr.refl W1)).trans hg2);clear hg2;refine .inl ⟨_,rfl,?_⟩;refine hK.out _ _ (KS.out _ HG2.out) (fun hH=>?_);clear hK;try simp only [Act.put,sA,s0,s1]
     refine tL 7 ?_;simp only [Act.put,sA,s0,s1];refine tL 8 ?_;simp only [Act.put,sA,s0,s1];have hg02:=HGW.out.trans HG2.out;have hz2:=(cY HOWN.out hg02).frozenAt (k * 3+1);have hc2:=hg02.cell hca (by simp);refine au (i:=9) rfl (by kernel_rfl) (fun K hK=>?_);refine ae (by rfl) ?_;have HK:=aH hK;clear hK;go_simp
     refine HK.out _ _ (KSS.out _ _ HG2.out) (fun hH=>?_);clear HK;try simp only [Act.put,sA,s0,s1]
     refine wpAnyH_done (by kernel_rfl) ?_ _;clear KS KSS hH;go_wp2_with fail
     go_end0
     rw [HE.out];exact HEND.out _ _ hg02
   · have HE:Hid (l.set k (rZ N u c f ⟨i_op,i_a,i_b⟩)=l):=aH (by
      have:rZ N u c f ⟨i_op,i_a,i_b⟩=⟨i_op,i_a,i_b⟩:=by simp [rZ,h0,h13]
      rw [this];exact wi HI.out)
     have hd0:(i_op == 0)=false:=by simpa using h0
     have hd13:(i_op == 13)=false:=by simpa using h13
     clear hok;go_enter Tryz.func110,Tryz.ntmps110
     go_wp2_with fail
     go_end0
     rw [HE.out];exact ⟨rfl,cY HOWN.out HGW.out,ro HGW.out⟩
end Go.Proofs.YtkgncijcnlfhiaaGreat
