import Derived.Deep.AppendLies
import Derived.Deep.RegionLaw
import Derived.Test.YtkgncijcnlfhiabGreatZc
import Derived.Test.YtkgncijcnlfhiabGreatNi
import Derived.Test.YtkgncijcnlfhiabGreatT1
import Derived.Test.YtkgncijcnlfhiabGreatZ3
namespace Go.Proofs.YtkgncijcnlfhiabGreat
set_option maxRecDepth 100000
set_option maxHeartbeats 2000000
set_option linter.unusedVariables false
set_option linter.unusedSimpArgs false
open Go.RowKit
attribute [local go_sem ↓] Go.wp_at_zero Go.wp_at_succ
theorem yy(w:World)(ys:Array Value)(t:TypeId):∀j u,ys.toList[j]? =some u->(w.alloc (.cells ys t)).cell? ((⟨w.heap.size,0,none⟩:Addr).add j)=some u:=by
 intro j u hj;have e:(⟨w.heap.size,0,none⟩:Addr).add j=⟨w.heap.size,j,none⟩:=by simp [Addr.add];try (intro h;exact h.symm)
 rw [e];have h:=World.cell?_alloc_mark w ys t (0,0) j;exact h.trans (by rw [<-Array.getElem?_toList];exact hj)
theorem Tryz.infZ:(Tryz.prog.info? 3).map (fun i=>(i.zero,i.size,i.bytes))=some (some (Value.int .i64 0),1,8):=Q7
theorem Tryz.uIs:Tryz.prog.underlying 83=some (.slice 3):=Q7
theorem ni{ops:Array Oper}{o:Oper}{a:Act}{K:Act->World->Prop}{Q:Exit->Act->World->Prop}{E:Prop}(w:World)(Z':o.guard=none)(s x:Operand)
 (ho:o.op=.call { callee:=.builtin .append,args:=#[s,x],argTypes:=#[83,83] })
 (base:Nat) (v:Value) (l:List Int) (y:Int) (hs:a.eval s=v) (C1:cr w base v l) (H:Nat) (hx:a.eval x=.slice (some ⟨H,0,none⟩) 1 1) (hH:w.heap.size=H) (hlen:l.length<=1000000) (C_:base<=w.heap.size)
 (h:∀ao cap w',cr w' base (.slice ao (l.length+1) cap) (l++ [y])->w.grownBy w' v.ownBlock->(∀k,(Value.slice ao (l.length+1) cap).ownBlock=some k->v.ownBlock=some k\/w.heap.size<=k)->K (a.put o.dst (.slice ao (l.length+1) cap)) w'):
 if Region.wanted o (yielded ops a.tmps)=true then Oper.wp Tryz.prog o a (w.alloc (.cells #[.int .i64 y] 3)) K Q else E:=by
 subst hH;obtain ⟨i0,hi,O6,N5,D5⟩:=info_parts Tryz.infZ;refine step_append_lies (w.alloc (.cells #[.int .i64 y] 3)) Z' s x 83 ho base 3 i0 (.int .i64 0) 1 8 Tryz.uIs hi O6 N5 D5 rfl Q9 v l.length (fP l) hs (World.ownsRow.alloc C1 _) ⟨w.heap.size,0,none⟩ 1 1 [.int .i64 y] hx rfl (yy _ #[.int .i64 y] _) (by intro u hu;simp at hu;subst hu;rfl) Q9 (by unfold maxLen;omega) Q5 gS _ rfl ?_;intro g cap w' k1 k2 k3 _;refine h (some ⟨g,0,none⟩) cap w' ?_ ((World.grownBy_alloc w _ _).trans k2) (fun k hk=>?_)
 · unfold cr;have e1:(l++ [y]).length=l.length+1:=by simp
   have e2:fP (l++ [y])=fP l++ [.int .i64 y]:=by simp [fP]
   rw [e1,e2];exact k1
 · simp only [Value.ownBlock,Option.some.injEq] at hk;subst hk;rcases k3 with e|e
   · exact .inl e
   · right;simp at e;omega
structure kJ(w:World)(lb lo B:Nat)(v:Value)(l:List Int):Prop where
 cell:w.cell? ⟨lb,lo,none⟩=some v
 fz:w.frozen? ⟨lb,lo,none⟩=false
 row:cr w B v l
 lb:lb < B
 bs:B<=w.heap.size
 small:l.length<=100000
structure pu(w w':World)(lb lo:Nat)(v v':Value):Prop where
 os:w'.os=w.os
 tape:w'.tape=w.tape
 output:w'.output=w.output
 size:w.heap.size<=w'.heap.size
 box:w'.heap[lb]? =(w.setCell ⟨lb,lo,none⟩ v').heap[lb]?
 rest:∀b,b < w.heap.size->¬b=lb->¬v.ownBlock=some b->w'.heap[b]? =w.heap[b]?
 lies:∀b,v'.ownBlock=some b->v.ownBlock=some b\/w.heap.size<=b
theorem uD{w1 w2:World}{lb lo:Nat}{v:Value}(h:w1.heap[lb]? =w2.heap[lb]?):(w1.setCell ⟨lb,lo,none⟩ v).heap[lb]? =(w2.setCell ⟨lb,lo,none⟩ v).heap[lb]? :=by
 cases hb:w2.heap[lb]? with
 | none=>
  rw [hb] at h;have e1:¬lb < w1.heap.size:=fun hl=>by rw [Array.getElem?_eq_getElem hl] at h;cases h
  have e2:¬lb < w2.heap.size:=fun hl=>by rw [Array.getElem?_eq_getElem hl] at hb;cases hb
  rw [Array.getElem?_eq_none gS,Array.getElem?_eq_none gS]
 | some o=>
  rw [hb] at h;unfold World.setCell;simp [Array.getElem?_modify,h,hb]
theorem qF(v:Value)(w:World):(Instr.typeAssert (.iface 3 v) 20 3 false).run Tryz.prog w=.ok v w:=Q7
def BV(w:World)(lb lo B:Nat)(v:Value)(l:List Int)(x:Int)(e:Ending)(w':World):Prop:=∃v',e=.returned (.tuple #[])/\kJ w' lb lo B v' (l++ [x])/\pu w w' lb lo v v'
theorem uo(lb lo B:Nat)(v:Value)(l:List Int)(x:Int)(w:World)(h:kJ w lb lo B v l)(hl:l.length < 100000):
 Calls Tryz.prog 168 #[.pointer (some ⟨lb,lo,none⟩),.iface 3 (.int .i64 x)] w (BV w lb lo B v l x):=by
 have HH:=aH h;obtain ⟨⟨ao,cap,rfl⟩,_⟩:=h.row.form;have hc:=h.cell;have hz:=h.fz;have has:=fun (v:Value) (w:World)=>qF v w
 have Hh:B<=w.drew.heap.size:=h.bs;have HR:Hid (cr w.drew B (.slice ao l.length cap) l):=aH h.row;have Ib:l.length<=1000000:=Q5
 have hne:some lb≠(Value.slice ao l.length cap).ownBlock:=fun e=>by have:=(World.ownsRow.lt h.row lb e.symm).1;have:=h.lb;omega
 have HFz:∀w3:World,w.drew.grownBy w3 (Value.slice ao l.length cap).ownBlock->w3.cell? ⟨lb,lo,none⟩=some (.slice ao l.length cap)/\w3.frozen? ⟨lb,lo,none⟩=false/\w3.heap[lb]? =w.heap[lb]? :=fun w3 hg=>
  ⟨hg.cell (a:=⟨lb,lo,none⟩) hc hne,(World.frozen?_of_block (a:=⟨lb,lo,none⟩) (hg.block lb (World.block_lt_of_cell? w _ hc) hne)).trans hz,hg.block lb (World.block_lt_of_cell? w _ hc) hne⟩
 have HFH:=aH HFz;have IG:(w.alloc (.cells #[.int .i64 x] 3)).cell? ⟨lb,lo,none⟩=some (.slice ao l.length cap):=(World.grownBy_alloc w _ none).cell hc Q6;clear h HFz;go_enter Tryz.func168,Tryz.ntmps168
 go_wp2_with fail
 go_region_law (refine ni w.drew rfl _ _ rfl B (.slice ao l.length cap) l x rfl HR.out w.heap.size rfl rfl Ib Hh ?_;intro a3 c3 w3 Lr P0 Dz;obtain ⟨Pd,hz3,_⟩:=HFH.out w3 P0)
 all_goals go_end0
 all_goals
  have O':=(HFH.out w3 P0).2.2;have Sh:=HH.out.lb;have hvne:¬(Value.slice a3 (l.length+1) c3).ownBlock=some lb:=fun e=>by have:=(World.ownsRow.lt Lr lb e).1;omega
  have hset:∀b,¬b=lb->(w3.setCell ⟨lb,lo,none⟩ (.slice a3 (l.length+1) c3)).heap[b]? =w3.heap[b]? :=fun b hb=>Below.heap_setCell _ _ _ _ hb
  have N3:(w3.setCell ⟨lb,lo,none⟩ (.slice a3 (l.length+1) c3)).heap[lb]? =(w.setCell ⟨lb,lo,none⟩ (.slice a3 (l.length+1) c3)).heap[lb]? :=uD O';exact ⟨.slice a3 (l.length+1) c3,rfl,⟨World.cell?_setCell_same _ _ _ Pd,by rw [World.frozen?_setCell];exact hz3,Lr.keep (fun b hb=>hset b (fun e=>hvne (e▸hb))),Sh,by have:=P0.size;have:=HH.out.bs;simp at this |-;exact Nat.le_trans HH.out.bs P0.size,by simp;omega⟩,⟨P0.os,P0.tape,P0.output,by simpa using P0.size,N3,fun b hb h1 h2=>(hset b h1).trans (P0.block b hb (fun e=>h2 e.symm)),Dz⟩⟩
open Go.RowKit
attribute [local go_sem ↓] Go.wp_at_zero Go.wp_at_succ
theorem Hp.congr{a b:Nat->Int}{n:Nat}(h:Hp a n)(e:∀k,k < n->a k=b k):Hp b n:=fun i h0 hi=>by
 rw [<-e i hi,<-e ((i - 1) / 2) Q5];exact h i h0 hi
theorem gH.congr{a b c:Nat->Int}{n:Nat}(h:gH a b n)(e:∀k,k < n->b k=c k):gH a c n:=
 ⟨fun x=>(h.mem x).trans ⟨fun ⟨i,hi,hx⟩=>⟨i,hi,(e i hi).symm.trans hx⟩,fun ⟨i,hi,hx⟩=>⟨i,hi,(e i hi).trans hx⟩⟩,fun GF i j hi hj hx=>h.inj GF i j hi hj (by rw [e i hi,e j hj];exact hx)⟩
def B6(w:World)(lb lo B:Nat)(v:Value)(l:List Int)(e:Ending)(w':World):Prop:=∃v',e=.returned (.iface 3 (.int .i64 (bW l (l.length - 1))))/\kJ w' lb lo B v' (l.take (l.length - 1))/\pu w w' lb lo v v'
theorem xK(lb lo B:Nat)(v:Value)(l:List Int)(w:World)(h:kJ w lb lo B v l)(hl:0 < l.length):
 Calls Tryz.prog 167 #[.pointer (some ⟨lb,lo,none⟩)] w (B6 w lb lo B v l):=by
 have HH:=aH h;obtain ⟨g,cap,rfl,hBg,Rg,Gi,Zn⟩:=h.row.at hl;have hc:=h.cell;have hz:=h.fz;have Ra:=h.small;have hlbB:=h.lb;obtain ⟨n,hn⟩:∃n:Nat,n+1=l.length:=⟨l.length - 1,Q5⟩;have hx:=Gi n Q5;have HX:Hid (bW l (l.length - 1)=bW l n):=aH (by rw [show l.length - 1=n by omega]);have Il:l.length<=cap:=by
  rcases h.row.2 with ⟨e,_⟩|⟨g',c',cur,e,_,_,h4,_⟩
  · simp at e
  · simp only [Value.slice.injEq,Option.some.injEq,Addr.mk.injEq,and_true,true_and] at e;omega
 generalize bW l n=y at hx HX;have NO:=aH (h.row.cut (n:=n) Q5);have Mh:Hid (l.take (l.length - 1)=l.take n):=aH (by rw [show l.length - 1=n by omega]);have HN:=aH hn;have hw:IntKind.i64.wrap ((l.length:Int) - 1)=(n:Int):=by rw [Q_];omega
 have Y0:(n:Int) < (l.length:Int):=Q5
 have E5:(n:Int)<=(cap:Int):=Q5
 have O':n<=cap:=Q5
 clear h Gi Zn hn;go_enter Tryz.func167,Tryz.ntmps167
 go_wp2_with (go_at_call 59;refine (ie _ _ _ _).mono ?_;rintro e w' ⟨rfl,Xt⟩;obtain rfl:=Xt.symm)
 go_ret
 have Sh:=HH.out.lb;have hset:∀b,¬b=lb->(w.setCell ⟨lb,lo,none⟩ (.slice (some ⟨g,0,none⟩) n cap)).heap[b]? =w.heap[b]? :=fun b hb=>Below.heap_setCell _ _ _ _ hb
 refine ⟨.slice (some ⟨g,0,none⟩) n cap,by rw [HX.out];rfl,⟨World.cell?_setCell_same _ _ _ hc,by rw [World.frozen?_setCell];exact hz,?_,Sh,by simpa using HH.out.bs,by simp;omega⟩,⟨rfl,rfl,rfl,Q6,rfl,fun b _ h1 _=>hset b h1,fun b hb=>.inl hb⟩⟩;rw [Mh.out];refine NO.out.keep (fun b hb=>hset b (fun e=>?_));simp only [Value.ownBlock,Option.some.injEq] at hb;omega
def yY(w:World)(lb lo B:Nat)(v:Value)(l:List Int)(x:Int)(e:Ending)(w':World):Prop:=∃v' l',e=.returned (.tuple #[])/\kJ w' lb lo B v' l'/\l'.length=l.length+1/\Hp (bW l') (l.length+1)/\gH (fun k=>if k=l.length then x else bW l k) (bW l') (l.length+1)/\pu w w' lb lo v v'
def zm(w:World)(lb lo B:Nat)(v:Value)(l:List Int)(n:Nat)(e:Ending)(w':World):Prop:=∃v' l',e=.returned (.iface 3 (.int .i64 (bW l 0)))/\kJ w' lb lo B v' l'/\l'.length=n/\Hp (bW l') n/\gH (j7 (bW l) 0 n) (bW l') n/\pu w w' lb lo v v'
theorem kJ.hp{w:World}{lb lo B:Nat}{v:Value}{l:List Int}(h:kJ w lb lo B v l)(hl:0 < l.length):∃g cap,v=.slice (some ⟨g,0,none⟩) l.length cap/\i_ w lb lo B g cap l.length l:=by
 obtain ⟨g,cap,rfl,_⟩:=h.row.at hl;exact ⟨g,cap,rfl,h.cell,rfl,h.row,h.lb,by have:=h.small;omega⟩
theorem pu.row{w w1 w2:World}{lb lo g n cap B:Nat}{v:Value}{l l':List Int}(h:pu w w1 lb lo v (.slice (some ⟨g,0,none⟩) n cap))(ha:i_ w1 lb lo B g cap n l)(k:w1.grownBy w2 (some g)):pu w w2 lb lo v (.slice (some ⟨g,0,none⟩) n cap):=by
 have Wt:=ha.ge;have Sh:=ha.lb;have Ib:lb < w1.heap.size:=World.block_lt_of_cell? w1 _ ha.cell;refine ⟨k.os.trans h.os,k.tape.trans h.tape,k.output.trans h.output,Nat.le_trans h.size k.size,(k.block lb Ib gS).trans h.box,fun b hb h1 h2=>(k.block b (Nat.lt_of_lt_of_le hb h.size) (fun e=>?_)).trans (h.rest b hb h1 h2),h.lies⟩;simp only [Option.some.injEq] at e;rcases h.lies g rfl with e2|e2
 · exact h2 (e▸e2)
 · omega
theorem i_.wt{w w1:World}{lb lo B g cap n:Nat}{l:List Int}(h:i_ w1 lb lo B g cap n l)(hz:w1.frozen? ⟨lb,lo,none⟩=false)(Hh:B<=w1.heap.size)(hs:n<=100000):kJ w1 lb lo B (.slice (some ⟨g,0,none⟩) n cap) l:=
 ⟨h.cell,hz,h.row,h.lb,Hh,by rw [h.len];exact hs⟩
theorem vA(lb lo B:Nat)(v:Value)(l:List Int)(x:Int)(w:World)(h:kJ w lb lo B v l)(hl:l.length < 100000)(hp:Hp (bW l) l.length):
 Calls Tryz.prog 106 #[.iface 123 (.pointer (some ⟨lb,lo,none⟩)),.iface 3 (.int .i64 x)] w (yY w lb lo B v l x):=by
 have HH:=aH h;have HP:=aH hp;have P5:=z' w lb lo;clear h hp;go_enter Tryz.func106,Tryz.ntmps106
 go_wp2_with fail
 refine (uo lb lo B v l x w HH.out hl).mono ?_;rintro e w1 ⟨v1,rfl,IZ,Ro⟩;have hlen:(l++ [x]).length=l.length+1:=Q6
 obtain ⟨g,cap,rfl,J2⟩:=IZ.hp Q5;have HT1:=aH IZ;have Oh:=aH Ro;have Nr:=aH J2;have O4:=zw w1 lb lo _ J2.cell ⟨_,_,_,rfl⟩;clear P5 IZ Ro J2;rw [hlen] at Nr O4 Oh;have hw:IntKind.i64.wrap (((l.length+1:Nat):Int) - 1)=(l.length:Int):=by rw [Q_];omega
 have D3:IntKind.i64.wrap ((l.length:Int)+1 - 1)=(l.length:Int):=by rw [Q_];omega
 go_wp2_with (go_at_call 59;refine (ie _ _ _ _).mono ?_;rintro e w' ⟨rfl,Xt⟩;obtain rfl:=Xt.symm)
 refine (z_ lb lo B g cap (l.length+1) l.length (l++ [x]) w1 Nr.out Q5 (by rw [qV];exact HP.out.push x)).mono ?_;rintro e w2 ⟨rfl,l2,Eh,To,E8,E0⟩;rw [qV] at E8;have D5:w2.frozen? ⟨lb,lo,none⟩=false:=(World.frozen?_of_block (a:=⟨lb,lo,none⟩) (E0.block lb (World.block_lt_of_cell? w1 _ Nr.out.cell) (by have:=Nr.out.ge;have:=Nr.out.lb;simp;omega))).trans HT1.out.fz;have HR:Hid (yY w lb lo B v l x (.returned (.tuple #[])) w2):=aH ⟨_,l2,rfl,Eh.wt (w:=w) D5 (Nat.le_trans HT1.out.bs E0.size) Q5,Eh.len,To,E8,Oh.out.row (l':=l2) Nr.out E0⟩;clear Eh To E8 E0 D5 Nr HT1 Oh O4;go_wp2_with fail
 go_end0
 exact HR.out
theorem wV(lb lo B:Nat)(v:Value)(l:List Int)(n:Nat)(w:World)(h:kJ w lb lo B v l)(hl:l.length=n+1)(hp:Hp (bW l) (n+1)):
 Calls Tryz.prog 61 #[.iface 123 (.pointer (some ⟨lb,lo,none⟩))] w (zm w lb lo B v l n):=by
 have HH:=aH h;have HP:=aH hp;obtain ⟨g,cap,rfl,ha⟩:=h.hp Q5;rw [hl] at ha;have HA:=aH ha;have Ra:=h.small;have P5:=zw w lb lo _ ha.cell ⟨_,_,_,rfl⟩;have O4:=nC w lb lo _ ha.cell ⟨_,_,_,rfl⟩;have HL:=aH hl;have hn:n<=99999:=Q5
 clear h hp ha;rw [hl];clear hl Ra;have hw:IntKind.i64.wrap (((n+1:Nat):Int) - 1)=(n:Int):=by rw [Q_];omega
 have D3:IntKind.i64.wrap ((n:Int)+1 - 1)=(n:Int):=by rw [Q_];omega
 have V5:IntKind.i64.wrap (n:Int)=(n:Int):=Q_;go_enter Tryz.func61,Tryz.ntmps61
 go_wp2_with (go_at_call 59;refine (ie _ _ _ _).mono ?_;rintro e w' ⟨rfl,Xt⟩;obtain rfl:=Xt.symm)
 refine (jY (i:=0) (j:=n) HA.out.len HA.out.row Q5 Q5).mono ?_;rintro e w1 ⟨rfl,Ez,hg1⟩;have e1:bW (ek l 0 n)=j7 (bW l) 0 n:=jQ (by rw [HL.out];omega) (by rw [HL.out];omega);have Nr:=aH (HA.out.swap hg1 Ez (iZ _ _ _));have I1:=aH hg1;clear Ez hg1 P5 O4;go_wp2_with fail
 refine (wg lb lo B g cap (n+1) n (ek l 0 n) w1 Nr.out Q5 (by rw [e1];exact HP.out.pop)).mono ?_;rintro e w2 ⟨b,rfl,l2,Eh,To,E8,M7,E0⟩;rw [e1] at E8 M7;have Fb:=aH Eh;have F':=aH E8;have PQ:=aH To;have O0:=aH (gq I1.out E0);have Nb:Hid (bW l2 n=bW l 0):=aH (by
  rw [M7];unfold j7;by_cases h0:n=0
  · subst h0;simp
  · rw [if_neg h0,if_pos rfl])
 have Hb:=Bc w2 lb lo;clear Eh To E8 M7 E0 I1 Nr;go_wp2_with fail
 have Yt:lb < w.heap.size:=World.block_lt_of_cell? w _ HH.out.cell;have ZI:some lb≠some g:=by have:=HA.out.ge;have:=HA.out.lb;simp;omega
 have D5:w2.frozen? ⟨lb,lo,none⟩=false:=(World.frozen?_of_block (a:=⟨lb,lo,none⟩) (O0.out.block lb Yt ZI)).trans HH.out.fz;have DJ:kJ w2 lb lo B (.slice (some ⟨g,0,none⟩) (n+1) cap) l2:=Fb.out.wt (w:=w) D5 (Nat.le_trans HH.out.bs O0.out.size) Q5;refine (xK lb lo B _ l2 w2 DJ (by rw [Fb.out.len];omega)).mono ?_;rintro e w3 ⟨v3,rfl,JZ,Ot⟩;have KZ:l2.length=n+1:=Fb.out.len;have HR:Hid (zm w lb lo B (.slice (some ⟨g,0,none⟩) (n+1) cap) l n (.returned (.iface 3 (.int .i64 (bW l 0)))) w3):=aH (by
  rw [show l2.length - 1=n by omega] at JZ;have hk:∀k,k < n->bW l2 k=bW (l2.take n) k:=fun k hk=>(wh hk).symm
  refine ⟨v3,l2.take n,rfl,JZ,by rw [List.length_take];omega,PQ.out.congr hk,F'.out.congr hk,⟨Ot.os.trans O0.out.os,Ot.tape.trans O0.out.tape,Ot.output.trans O0.out.output,Nat.le_trans O0.out.size Ot.size,Ot.box.trans (uD (O0.out.block lb Yt ZI)),fun b hb h1 h2=>(Ot.rest b (Nat.lt_of_lt_of_le hb O0.out.size) h1 h2).trans (O0.out.block b hb (fun e=>h2 e.symm)),fun b hb=>?_⟩⟩;rcases Ot.lies b hb with e|e
  · exact .inl e
  · exact .inr (Nat.le_trans O0.out.size e))
 have HX:Hid (bW l2 (l2.length - 1)=bW l 0):=aH (by rw [show l2.length - 1=n by omega];exact Nb.out);clear JZ Ot DJ D5 KZ;go_wp2_with fail
 go_ret
 have h5:=HR.out;rw [<-HX.out] at h5;exact h5
open Go.RowKit
attribute [local go_sem ↓] Go.wp_at_zero Go.wp_at_succ
def dS(P:Nat->Prop)(w:World)(v:Value)(l:List Int):Prop:=
 ∃ao cap,v=.slice ao l.length cap/\(l.length<=maxLen/\l.length<=cap)/\∀i,i < l.length->∃b off,ao=some ⟨b,off,none⟩/\P b/\w.cell? ⟨b,off+i,none⟩=some (.int .i64 (l.getD i 0))
theorem dS.to{P:Nat->Prop}{w:World}{v:Value}{l:List Int}(h:dS P w v l):aW w v l:=by
 obtain ⟨ao,cap,h1,h2,h3⟩:=h;exact ⟨ao,cap,h1,h2.1,fun i hi=>by obtain ⟨b,off,e1,_,e3⟩:=h3 i hi;exact ⟨b,off,e1,e3⟩⟩
theorem dS.cap{P:Nat->Prop}{w:World}{l:List Int}{ao:Option Addr}{n c:Nat}(h:dS P w (.slice ao n c) l):l.length<=c:=by
 obtain ⟨ao',cap,h1,h2,h3⟩:=h;simp only [Value.slice.injEq] at h1;obtain ⟨_,_,rfl⟩:=h1;exact h2.2
theorem dS.mono{P P':Nat->Prop}{w w':World}{v:Value}{l:List Int}(h:dS P w v l)(g:∀b,P b->b < w.heap.size->w'.heap[b]? =w.heap[b]? /\P' b):dS P' w' v l:=by
 obtain ⟨ao,cap,h1,h2,h3⟩:=h;refine ⟨ao,cap,h1,h2,fun i hi=>?_⟩;obtain ⟨b,off,e1,e2,e3⟩:=h3 i hi;have hb:=World.block_lt_of_cell? w _ e3;obtain ⟨g1,g2⟩:=g b e2 hb;exact ⟨b,off,e1,g2,(World.cell?_of_block (a:=⟨b,off+i,none⟩) g1).trans e3⟩
theorem mg(P:Nat->Prop)(w:World):dS P w (.slice none 0 0) []:=⟨none,0,rfl,⟨by decide,by decide⟩,fun i h=>by simp at h⟩
def Sb(B:Nat)(vw:Value)(b:Nat):Prop:=B<=b/\¬vw.ownBlock=some b
def zq(v1 v2 v3 v4 v5 vs:Value)(N res:Int)(n:Nat)(vc:Value)(mb:Nat)(vw:Value):Array Value:=#[v1,v2,v3,v4,v5,vs,.int .i64 N,.int .i64 res,.int .i64 (n:Int),vc,.map (some mb),vw]
structure kR(W0 w:World)(lb mb B:Nat)(v1 v2 v3 v4 v5 vs:Value)(sl:List Int)(N:Nat)(res:Int)(n:Nat)(vc vw:Value)(st:Nat->Option (List Int))(dn:Nat->Bool)(m:Nat->Option Value)(l:List Int)(k:Nat):Prop where
 box:w.heap[lb]? =some (.cells (zq v1 v2 v3 v4 v5 vs (N:Int) res n vc mb vw) 87 (0,0))
 row:cr w B vw l
 lbB:lb < B
 bs:B<=w.heap.size
 mp:e_ w mb k m
 mbB:mb < B
 mbl:¬mb=lb
 sts:∀j s,st j=some s->∃v,m j=some v/\dS (Sb B vw) w v s
 len:∀j s,st j=some s->s.length<=20
 non:∀j,st j=none->m j=none
 wait:lB N (bW l) l.length st dn
 bound:k+ci N (fun j=>(st j).isSome)<=N
 small:N<=1000
 wl:l.length<=k
 slt:dS (fun b=>¬b=lb/\¬b=mb/\b < B) w vs sl
 low:Below W0.heap.size W0 w
 w0l:W0.heap.size<=lb
 w0m:W0.heap.size<=mb
structure Bv(w w':World)(lb mb:Nat)(vw:Value):Prop where
 size:w.heap.size<=w'.heap.size
 rest:∀b,b < w.heap.size->¬b=lb->¬b=mb->¬vw.ownBlock=some b->w'.heap[b]? =w.heap[b]?
theorem aU{w:World}{b:Nat}{arr:Array Value}{t:TypeId}{o:Nat}{f:Nat×Nat}(h:w.heap[b]? =some (.cells arr t f)):w.cell? ⟨b,o,none⟩=arr[o]? :=by
 simp [World.cell?,h]
theorem bH{w:World}{b:Nat}{arr:Array Value}{t:TypeId}{o:Nat}(h:w.heap[b]? =some (.cells arr t (0,0))):w.frozen? ⟨b,o,none⟩=false:=by
 simp [World.frozen?,h]
theorem kR.wt{W0 w:World}{lb mb B:Nat}{v1 v2 v3 v4 v5 vs:Value}{sl:List Int}{N:Nat}{res:Int}{n:Nat}{vc vw:Value}{st:Nat->Option (List Int)}{dn:Nat->Bool}{m:Nat->Option Value}{l:List Int}{k:Nat}(h:kR W0 w lb mb B v1 v2 v3 v4 v5 vs sl N res n vc vw st dn m l k):kJ w lb 11 B vw l:=
 ⟨by rw [aU h.box];rfl,bH h.box,h.row,h.lbB,h.bs,by have:=h.wl;have:=h.small;have:=h.bound;omega⟩
theorem kR.gr{W0 w w':World}{lb mb B:Nat}{v1 v2 v3 v4 v5 vs:Value}{sl:List Int}{N:Nat}{res:Int}{n:Nat}{vc vw:Value}{st:Nat->Option (List Int)}{dn:Nat->Bool}{m:Nat->Option Value}{l:List Int}{k:Nat}(h:kR W0 w lb mb B v1 v2 v3 v4 v5 vs sl N res n vc vw st dn m l k)(g:Gr w w'):kR W0 w' lb mb B v1 v2 v3 v4 v5 vs sl N res n vc vw st dn m l k:=by
 have Sh:lb < w.heap.size:=by have:=h.lbB;have:=h.bs;omega
 have Rf:mb < w.heap.size:=h.mp.lt;refine ⟨(g.block lb Sh Q6).trans h.box,h.row.keep fun b hb=>g.block b (World.ownsRow.lt h.row b hb).2 Q6,h.lbB,Nat.le_trans h.bs g.size,h.mp.kept (g.block mb Rf Q6),h.mbB,h.mbl,fun j s hs=>?_,h.len,h.non,h.wait,h.bound,h.small,h.wl,h.slt.mono fun b hb hl=>⟨g.block b hl Q6,hb⟩,h.low.grown g h.low.size Q6,h.w0l,h.w0m⟩;obtain ⟨v,e1,e2⟩:=h.sts j s hs;exact ⟨v,e1,e2.mono fun b hb hl=>⟨g.block b hl Q6,hb⟩⟩
theorem nx(lb n at_:Nat)(w:World)(hc:w.cell? ⟨lb,8,none⟩=some (.int .i64 (n:Int))):
 Calls Tryz.prog 105 #[.pointer (some ⟨lb,0,none⟩),.int .i64 (at_:Int)] w fun x w'=>x=.returned (.agg #[.int .i64 10,.int .i64 (n:Int),.int .i64 (at_:Int)])/\Gr w w':=by
 have J5:=(World.grownBy_alloc w (.cells #[.int .i64 0,.int .i64 0,.int .i64 0] 62) none).cell hc Q6;go_enter Tryz.func105,Tryz.ntmps105
 go_wp2_with fail
 exact bodyPost_ret (v:=.agg #[.int .i64 10,.int .i64 (n:Int),.int .i64 (at_:Int)]) (by simp [results,Tryz.results105,go_sem]) rfl ⟨rfl,(Gr.refl w).alloc _⟩
open Go.RowKit
attribute [local go_sem ↓] Go.wp_at_zero Go.wp_at_succ
theorem Sb.of{B:Nat}{vw Vg:Value}{b:Nat}(h:Sb B vw b){w:World}(hl:b < w.heap.size)(g:∀b,Vg.ownBlock=some b->vw.ownBlock=some b\/w.heap.size<=b):Sb B Vg b:=
 ⟨h.1,fun e=>by
  rcases g b e with e2|e2
  · exact h.2 e2
  · omega⟩
def zr(W0 w:World)(lb mb B:Nat)(v1 v2 v3 v4 v5 vs:Value)(sl:List Int)(N:Nat)(res:Int)(n:Nat)(vc vw:Value)(st:Nat->Option (List Int))(dn:Nat->Bool)(t:Nat)(s:List Int)(x:Ending)(w':World):Prop:=
 (∃s0,st t=some s0/\¬s0=s/\x=.panicked (kC 10 n t)/\Below W0.heap.size W0 w')\/
 (x=.returned (.tuple #[])/\∃Vg m' l' k',kR W0 w' lb mb B v1 v2 v3 v4 v5 vs sl N res n vc Vg (fun j=>if j=t then some s else st j) dn m' l' k'/\Bv w w' lb mb vw/\(∀b,Vg.ownBlock=some b->vw.ownBlock=some b\/w.heap.size<=b)/\(st t=none\/st t=some s))
theorem lN(W0 w:World)(lb mb B:Nat)(v1 v2 v3 v4 v5 vs:Value)(sl:List Int)(N:Nat)(res:Int)(n:Nat)(vc vw:Value)(st:Nat->Option (List Int))(dn:Nat->Bool)(m:Nat->Option Value)(l:List Int)(k:Nat)(t:Nat)(s:List Int)(v:Value)
 (h:kR W0 w lb mb B v1 v2 v3 v4 v5 vs sl N res n vc vw st dn m l k) (ht:t < N) (hs:dS (Sb B vw) w v s) (hsl:s.length<=20):
 Calls Tryz.prog 58 #[.pointer (some ⟨lb,0,none⟩),.int .i64 (t:Int),v] w (zr W0 w lb mb B v1 v2 v3 v4 v5 vs sl N res n vc vw st dn t s):=by
 have HH:=aH h;have HS:=aH hs;obtain ⟨av,cv,rfl⟩:=hs.to.shape;have hN:=h.small;have hc8:w.cell? ⟨lb,8,none⟩=some (.int .i64 (n:Int)):=by rw [aU h.box];rfl
 have LZ:w.cell? ⟨lb,10,none⟩=some (.map (some mb)):=by rw [aU h.box];rfl
 have Oc:=h.mp.look t Q5;cases T0:st t with
 | some s0=>
  obtain ⟨v0,LD,MZ⟩:=h.sts t s0 T0;rw [LD] at Oc;obtain ⟨a0,c0,rfl⟩:=MZ.to.shape;simp only [Option.getD_some,Option.isSome_some] at Oc;have HR0:=aH MZ.to;have J7:=aH T0;have Zt:=aH (nx lb n t w hc8);clear h hs MZ T0 LD;go_enter Tryz.func58,Tryz.ntmps58
  go_wp2_with fail
  refine Zt.out.mono ?_;rintro x w1 ⟨rfl,hg1⟩;have I1:=aH hg1;clear hg1 Oc hc8 LZ;go_wp2_with fail
  refine (j6 _ _ s s0 w1 (HS.out.to.gr I1.out) (HR0.out.gr I1.out)).mono ?_;rintro x w2 ⟨rfl,E0⟩;have O0:=aH (I1.out.trans E0);clear E0;by_cases he:s=s0
  · have hd:decide (s=s0)=true:=by simpa using he
    rw [hd];have HE:=aH he;clear hd he;go_wp2_with fail
    refine (bP _ _ _ _).mono ?_;rintro x w3 ⟨rfl,P0⟩;have HG3:=aH (O0.out.trans P0);clear P0;go_wp2_with fail
    go_end0
    refine .inr ⟨rfl,vw,m,l,k,?_,⟨HG3.out.size,fun b hb _ _ _=>HG3.out.block b hb Q6⟩,fun b hb=>.inl hb,.inr (by rw [J7.out,HE.out])⟩;have e:(fun j=>if j=t then some s else st j)=st:=by
     funext j
     by_cases hj:j=t
     · rw [if_pos hj,hj,J7.out,HE.out]
     · rw [if_neg hj]
    rw [e];exact HH.out.gr HG3.out
  · have hd:decide (s=s0)=false:=by simpa using he
    rw [hd];have HE:=aH he;clear hd he;go_wp2_with fail
    refine (bk _ _ _ _).mono ?_;rintro x w3 ⟨rfl,P0⟩;have HG3:=aH (O0.out.trans P0);clear P0;exact ⟨rfl,.inl ⟨s0,J7.out,fun e=>HE.out e.symm,rfl,HH.out.low.grown HG3.out HH.out.low.size Q6⟩⟩
 | none=>
  rw [h.non t T0] at Oc;simp only [Option.getD_none,Option.isSome_none] at Oc;unfold sY at Oc;obtain ⟨w1,J9,P5,hg1⟩:=h.mp.store t Q5 (by have:=h.bound;omega) (.slice av s.length cv);have J7:=aH T0;have V9:=aH P5;have I1:=aH hg1;have Fz:kJ w1 lb 11 B vw l:=by
   have hw:=h.wt;have Yt:lb < w.heap.size:=by have:=h.lbB;have:=h.bs;omega
   have Y0:w1.heap[lb]? =w.heap[lb]? :=hg1.block lb Yt (by have:=h.mbl;simp;omega);exact ⟨(World.cell?_of_block (a:=⟨lb,11,none⟩) Y0).trans hw.cell,(World.frozen?_of_block (a:=⟨lb,11,none⟩) Y0).trans hw.fz,hw.row.keep fun b hb=>hg1.block b (World.ownsRow.lt hw.row b hb).2 (by have:=(World.ownsRow.lt hw.row b hb).1;have:=h.mbB;simp;omega),hw.lb,Nat.le_trans hw.bs hg1.size,hw.small⟩
  have HW1:=aH Fz;have hln:l.length < 100000:=by have:=h.wl;have:=h.bound;omega
  have HP:=aH (vA lb 11 B vw l (t:Int) w1 Fz hln h.wait.hp);clear h hs T0 P5 hg1 Fz;go_enter Tryz.func58,Tryz.ntmps58
  go_wp2_with fail
  refine HP.out.mono ?_;rintro x w2 ⟨Vg,l2,rfl,Gz,Jw,EJ,Nd,L9⟩;have HR:Hid (zr W0 w lb mb B v1 v2 v3 v4 v5 vs sl N res n vc vw st dn t s (.returned (.tuple #[])) w2):=aH (by
   have h:=HH.out;have hg1:=I1.out;have Nk:=hg1.size;have MH:=L9.size;have Sh:=h.lbB;have Hh:=h.bs;have Rf:=h.mbB;have FJ:=h.mbl;have hbd:=h.bound;have QP:=h.wl;have NZ:mb < w.heap.size:=h.mp.lt;have Tm:∀b,vw.ownBlock=some b->B<=b/\b < w.heap.size:=fun b hb=>World.ownsRow.lt h.row b hb
   have Y0:w1.heap[lb]? =some (.cells (zq v1 v2 v3 v4 v5 vs (N:Int) res n vc mb vw) 87 (0,0)):=(hg1.block lb Q5 gS).trans h.box;have VF:∀b,b < w.heap.size->Sb B vw b->w2.heap[b]? =w.heap[b]? :=fun b hb hs=>(L9.rest b Q5 (by have:=hs.1;omega) hs.2).trans (hg1.block b hb (by have:=hs.1;simp;omega))
   have PC:∀b,b < w.heap.size->¬b=lb->¬b=mb->¬vw.ownBlock=some b->w2.heap[b]? =w.heap[b]? :=fun b hb e1 e2 e3=>(L9.rest b Q5 e1 e3).trans (hg1.block b hb gS)
   have Kg:∀b,Vg.ownBlock=some b->vw.ownBlock=some b\/w.heap.size<=b:=fun b hb=>by
    rcases L9.lies b hb with e|e
    · exact .inl e
    · right;omega
   refine .inr ⟨rfl,Vg,_,l2,k+1,⟨?_,Gz.row,Sh,Gz.bs,V9.out.kept (L9.rest mb Q5 FJ (fun e=>by have:=(Tm mb e).1;omega)),Rf,FJ,fun j s' hj=>?_,fun j s' hj=>?_,fun j hj=>?_,?_,?_,h.small,Q5,h.slt.mono fun b hb hl=>⟨PC b hl hb.1 hb.2.1 (fun e=>by have:=(Tm b e).1;have:=hb.2.2;omega),hb⟩,?_,h.w0l,h.w0m⟩,⟨Q5,PC⟩,Kg,.inl J7.out⟩
   · rw [L9.box,heap_setCell_same w1 lb 11 _ _ Vg Y0];rfl
   · by_cases e:j=t
     · subst e;rw [if_pos rfl] at hj;obtain rfl:=Option.some.inj hj;exact ⟨_,if_pos rfl,HS.out.mono fun b hb hl=>⟨VF b hl hb,hb.of hl Kg⟩⟩
     · rw [if_neg e] at hj;obtain ⟨v0,e1,e2⟩:=h.sts j s' hj;exact ⟨v0,by rw [if_neg e];exact e1,e2.mono fun b hb hl=>⟨VF b hl hb,hb.of hl Kg⟩⟩
   · by_cases e:j=t
     · rw [if_pos e] at hj;obtain rfl:=Option.some.inj hj;exact hsl
     · rw [if_neg e] at hj;exact h.len j s' hj
   · by_cases e:j=t
     · rw [if_pos e] at hj;cases hj
     · rw [if_neg e] at hj |-;exact h.non j hj
   · rw [Jw];exact h.wait.push ht J7.out EJ Nd
   · have e:(fun j=>(if j=t then some s else st j).isSome)=fun j=>decide (j=t) ||(st j).isSome:=by
      funext j
      by_cases hj:j=t<;>simp [hj]
     rw [e];have:=iK N t (fun j=>(st j).isSome) ht (by simp only [J7.out];rfl)
     omega
   · refine ⟨L9.os.trans (hg1.os.trans h.low.os),L9.tape.trans (hg1.tape.trans h.low.tape),L9.output.trans (hg1.output.trans h.low.output),?_,?_⟩
     · have:=h.low.size;omega
     · intro b hb;have:=h.w0l
       have:=h.w0m
       exact (PC b (by have:=h.low.size;omega) Q5 Q5 (fun e=>by have:=(Tm b e).1;omega)).trans (h.low.block b hb))
  clear Gz Jw EJ Nd L9 J9 Oc;go_wp2_with fail
  go_end0
  exact HR.out
open Go.RowKit
attribute [local go_sem ↓] Go.wp_at_zero Go.wp_at_succ
theorem ju{W0 w:World}(h:Below W0.heap.size W0 w):Gr W0 w:=⟨h.os,h.tape,h.output,h.size,fun k hk _=>h.block k hk⟩
def zo(W0:World)(lb mb B:Nat)(v1 v2 v3 v4 v5 vs:Value)(sl:List Int)(N:Nat)(res:Int)(n:Nat)(vc:Value)(dn:Nat->Bool)(o:Nat ⊕ (Nat->Option (List Int)))(x:Ending)(w':World):Prop:=match o with
 | .inl t=>x=.panicked (kC 10 n t)/\Below W0.heap.size W0 w'
 | .inr I9=>x=.returned (.tuple #[])/\∃vw m l k,kR W0 w' lb mb B v1 v2 v3 v4 v5 vs sl N res n vc vw I9 dn m l k
def eE(u:aK)(f:aO)(q:Nat)(i:aw)(s:List Int)(st:Nat->Option (List Int)):Nat ⊕ (Nat->Option (List Int)):=
 match gJ u f i s with
 | none=>.inl q
 | some s'=>b7 s' q (eO f q i) st
theorem xT{u:aK}{f:aO}{q:Nat}{i:aw}{s:List Int}{st:Nat->Option (List Int)}(hu:ai u=true)(hf:f∈u.aE):eE u f q i s st=mM u f q i s st:=by
 unfold eE mM;rw [wj s (Ad hu hf)];cases g8 u f i s<;>rfl
def zt(W0:World)(lb mb B:Nat)(v1 v2 v3 v4 v5 vs:Value)(sl:List Int)(u:aK)(f:aO)(n:Nat)(vc:Value):Prop:=∀(w:World) (vw:Value) (st:Nat->Option (List Int)) (dn:Nat->Bool) (m:Nat->Option Value) (l:List Int) (k q:Nat) (i:aw) (s:List Int),
 kR W0 w lb mb B v1 v2 v3 v4 v5 vs sl f.code.length f.result n vc vw st dn m l k->f.code[q]? =some i->st q=some s->
 Calls Tryz.prog 60 #[.pointer (some ⟨lb,0,none⟩),.int .i64 (q:Int)] w (zo W0 lb mb B v1 v2 v3 v4 v5 vs sl f.code.length f.result n vc dn (eE u f q i s st))
def zz(W0:World)(n:Nat)(o:Option Nat)(x:Ending)(w':World):Prop:=Below W0.heap.size W0 w'/\match o with
 | some t=>x=.panicked (kC 10 n t)
 | none=>x=.returned (.tuple #[])
theorem iL:∀n,ci n (fun _=>false)=n
 | 0=>rfl
 | n+1=>by rw [ci,iL n];simp
theorem kR.popped{W0 w w':World}{lb mb B:Nat}{v1 v2 v3 v4 v5 vs:Value}{sl:List Int}{N:Nat}{res:Int}{n:Nat}{vc vw Vg:Value}{st:Nat->Option (List Int)}{dn:Nat->Bool}{m:Nat->Option Value}{l l':List Int}{k nn q:Nat}(h:kR W0 w lb mb B v1 v2 v3 v4 v5 vs sl N res n vc vw st dn m l k)(hl:l.length=nn+1)(hq:bW l 0=(q:Int))(O9:kJ w' lb 11 B Vg l')(Qx:l'.length=nn)(hp:Hp (bW l') nn)(hs:gH (j7 (bW l) 0 nn) (bW l') nn)(hf:pu w w' lb 11 vw Vg):
 kR W0 w' lb mb B v1 v2 v3 v4 v5 vs sl N res n vc Vg st (fun j=>decide (j=q) || dn j) m l' k:=by
 have Sh:=h.lbB;have Hh:=h.bs;have Rf:=h.mbB;have Tm:∀b,vw.ownBlock=some b->B<=b/\b < w.heap.size:=fun b hb=>World.ownsRow.lt h.row b hb
 have Kw:=h.wait;rw [hl] at Kw;refine ⟨?_,O9.row,Sh,O9.bs,h.mp.kept (hf.rest mb h.mp.lt h.mbl (fun e=>by have:=(Tm mb e).1;omega)),Rf,h.mbl,fun j s hj=>?_,h.len,h.non,?_,h.bound,h.small,by have:=h.wl;omega,h.slt.mono fun b hb hl=>⟨hf.rest b hl hb.1 (fun e=>by have:=(Tm b e).1;have:=hb.2.2;omega),hb⟩,?_,h.w0l,h.w0m⟩
 · rw [hf.box,heap_setCell_same w lb 11 _ _ Vg h.box];rfl
 · obtain ⟨v,e1,e2⟩:=h.sts j s hj;exact ⟨v,e1,e2.mono fun b hb J0=>⟨hf.rest b J0 (by have:=hb.1;omega) hb.2,hb.of J0 hf.lies⟩⟩
 · rw [Qx];exact Kw.pop hq hp hs
 · refine ⟨hf.os.trans h.low.os,hf.tape.trans h.low.tape,hf.output.trans h.low.output,by have:=h.low.size;have:=hf.size;omega,fun b hb=>?_⟩;have:=h.w0l
   exact (hf.rest b (by have:=h.low.size;omega) Q5 (fun e=>by have:=(Tm b e).1;omega)).trans (h.low.block b hb)
theorem sZ(W0 w:World)(lb mb B:Nat)(v1 v2 v3 v4 v5 vs:Value)(sl:List Int)(u:aK)(f:aO)(n:Nat)(vc:Value)(HL:zt W0 lb mb B v1 v2 v3 v4 v5 vs sl u f n vc)(hu:ai u=true)(hf:f∈u.aE)(hN:0 < f.code.length)
 (h:kR W0 w lb mb B v1 v2 v3 v4 v5 vs sl f.code.length f.result n vc (.slice none 0 0) (fun _=>none) (fun _=>false) (fun _=>none) [] 0):
 Calls Tryz.prog 33 #[.pointer (some ⟨lb,0,none⟩)] w (zz W0 n (e9 u f)):=by
 have HH:=aH h;have HLC:=aH HL;have HCM:=aH (lN W0 w lb mb B v1 v2 v3 v4 v5 vs sl f.code.length f.result n vc (.slice none 0 0) (fun _=>none) (fun _=>false) (fun _=>none) [] 0 0 [] (.slice none 0 0) h hN (mg _ _) Q6);have HW:Hid (e9 u f=i7 u f (ci f.code.length (fun _=>false)+1) (fun j=>if j=0 then some [] else none) (fun _=>false)):=aH (by rw [iL];rfl);clear h HL;go_enter Tryz.func33,Tryz.ntmps33
 go_wp2_with fail
 refine HCM.out.mono ?_;rintro x w1 (⟨s0,e1,_⟩|⟨rfl,vw1,m1,l1,k1,Ib,_⟩)
 · cases e1
 have Xc:=aH Ib;clear Ib HCM;go_wp2_with fail
 go_loopg [4] (f.code.length+1) (fun gk _ wr=>∃(vw:Value) (st:Nat->Option (List Int)) (dn:Nat->Bool) (m:Nat->Option Value) (l:List Int) (k:Nat),gk=ci f.code.length dn+1/\kR W0 wr lb mb B v1 v2 v3 v4 v5 vs sl f.code.length f.result n vc vw st dn m l k/\e9 u f=i7 u f (ci f.code.length dn+1) st dn)
 case atStart=>exact ⟨vw1,_,_,m1,l1,k1,by rw [iL],Xc.out,HW.out⟩
 case round=>
  obtain ⟨vw,st,dn,m,l,k,rfl,hl,hw⟩:=hrel;have Nb:=aH hl;have XQ:=aH hw;have hN2:=hl.small;obtain ⟨⟨ao,cap,rfl⟩,_⟩:=hl.row.form;have hc:=hl.wt.cell;clear hl hw Xc HW;have has:=fun (v:Value) (w:World)=>qF v w
  by_cases Km:l.length=0
  · have Ip:l= []:=List.length_eq_zero_iff.1 Km;have HNo:Hid (e9 u f=none):=aH (by
     have O9:=Nb.out.wait;rw [Km] at O9;rw [XQ.out,sU O9.nothing])
    rw [Km] at hc;have Yx:=aH Nb.out.low;clear Ip Km Nb XQ;go_wp2_with (go_at_call 59;refine (ie _ _ _ _).mono ?_;rintro e w' ⟨rfl,Xt⟩;obtain rfl:=Xt.symm)
    go_end0
    exact ⟨Yx.out,by rw [HNo.out]⟩
  · obtain ⟨nn,YQ⟩:∃nn,l.length=nn+1:=⟨l.length - 1,Q5⟩;have Lw:=aH Nb.out.wait;obtain ⟨q,GJ,OZ,Kx,FU,hle⟩:=Lw.out.top Q5;obtain ⟨s,Kx⟩:=Option.isSome_iff_exists.1 Kx;obtain ⟨i,PZ⟩:=aX OZ;have IJ:=aH (wV lb 11 B _ l nn wr Nb.out.wt YQ (by have:=Lw.out.hp;rw [YQ] at this;exact this));have HQ:=aH GJ;have EG:=aH YQ;have J7:=aH Kx;have HI:=aH PZ;have HU:=aH (iK f.code.length q dn OZ FU);have DH:Hid (e9 u f=match mM u f q i s st with| .inl t=>some t| .inr I9=>i7 u f (ci f.code.length dn) I9 (fun j=>decide (j=q) || dn j)):=aH (by rw [XQ.out,rh hle PZ Kx];cases mM u f q i s st<;>rfl)
    have JV:(0:Int) < (l.length:Int):=Q5
    clear Km YQ Kx PZ hle FU XQ;go_wp2_with (go_at_call 59;refine (ie _ _ _ _).mono ?_;rintro e w' ⟨rfl,Xt⟩;obtain rfl:=Xt.symm)
    refine IJ.out.mono ?_;rintro x w2 ⟨Hz,l2,rfl,DJ,M7,To,E8,Qk⟩;rw [HQ.out];have Yq:=aH (Nb.out.popped EG.out HQ.out DJ M7 To E8 Qk);clear DJ M7 To E8 Qk IJ hc GJ;go_wp2_with fail
    refine (HLC.out w2 Hz st _ m l2 k q i s Yq.out HI.out J7.out).mono ?_;intro x w3 h3;unfold zo at h3;rw [xT hu hf] at h3;generalize QZ:mM u f q i s st=SP at h3 DH;clear QZ;cases SP with
    | inl t=>
     obtain ⟨rfl,hb⟩:=h3;exact ⟨rfl,hb,by rw [DH.out]⟩
    | inr I9=>
     obtain ⟨rfl,vw4,m4,l4,k4,JJ⟩:=h3;have OC:=aH JJ;clear JJ;go_wp2_with fail
     go_roundg (ci f.code.length (fun j=>decide (j=q) || dn j)+1)
     case measure=>have:=HU.out;omega
     case rel=>exact ⟨vw4,I9,_,m4,l4,k4,rfl,OC.out,by rw [DH.out,HU.out]⟩
open Go.RowKit
attribute [local go_sem ↓] Go.wp_at_zero Go.wp_at_succ
theorem sr(v:Value)(w:World):Calls Tryz.prog 134 #[v] w fun x w'=>x=.returned v/\w'=w:=by
 go_enter Tryz.func134,Tryz.ntmps134
 go_wp2
 go_ret
 exact ⟨rfl,rfl⟩
def r9(w:World)(x0 x1 x2 x3 x4 x5 x6 x7:Value)(n a:Int):World:=(w.alloc (.cells #[x0,x1,x2,x3,x4,x5,x6,x7] 80)).alloc (.cells #[.int .i64 10,.int .i64 n,.int .i64 a] 62)
theorem sk(w:World)(x0 x1 x2 x3 x4 x5 x6 x7:Value)(n a:Int):Gr w (r9 w x0 x1 x2 x3 x4 x5 x6 x7 n a):=((Gr.refl w).alloc _).alloc _
theorem qr(sl:List Int)(k:Nat)(x0 x1 x2 x3 x4 vs x6 x7:Value)(n a:Int)(w:World)(hR:aW w vs sl):
 Calls Tryz.prog 135 #[.agg #[x0,x1,x2,x3,x4,vs,x6,x7],.int .i64 (k:Int),.agg #[.int .i64 10,.int .i64 n,.int .i64 a]] w fun x w'=>x=xv sl[k]? n a/\Gr w w':=by
 obtain ⟨ao,cap,rfl,hm,hc⟩:=hR;unfold maxLen at hm;have HC:=aH hc;clear hc;by_cases hl:k < sl.length
 · obtain ⟨b,off,rfl,Z0⟩:=HC.out k hl;have HS:Hid (sl[k]? =some (sl.getD k 0)):=aH (by rw [List.getD_eq_getElem?_getD,List.getElem?_eq_getElem hl];rfl);generalize sl.getD k 0=y at Z0 HS;have hd:(k:Int) < (sl.length:Int):=by omega
   have hk:∀w',Gr (r9 w x0 x1 x2 x3 x4 (.slice (some ⟨b,off,none⟩) sl.length cap) x6 x7 n a) w'->w'.cell? ⟨b,off+k,none⟩=some (.int .i64 y)/\w'.cell? ⟨w.heap.size,5,none⟩=some (.slice (some ⟨b,off,none⟩) sl.length cap):=fun w' h=>⟨h.cell ((sk w x0 x1 x2 x3 x4 (.slice (some ⟨b,off,none⟩) sl.length cap) x6 x7 n a).cell Z0 Q6) Q6,h.cell (by simp [r9,go_sem]) Q6⟩
   unfold r9 at hk;clear HC Z0;go_enter Tryz.func135,Tryz.ntmps135
   go_wp2_with ((go_at_call 64;refine (bP _ _ _ _).mono ?_;rintro e w' ⟨rfl,D0⟩);obtain ⟨J5,S5⟩:=hk w' D0)
   go_ret
   exact ⟨by rw [HS.out];rfl,Q0⟩
 · have HS:Hid (sl[k]? =none):=aH (List.getElem?_eq_none Q5);have hd:¬(k:Int) < (sl.length:Int):=by omega
   clear HC;go_enter Tryz.func135,Tryz.ntmps135
   go_wp2_with ((go_at_call 64;refine (bk _ _ _ _).mono ?_;rintro e w' ⟨rfl,D0⟩))
   exact ⟨rfl,by rw [HS.out];rfl,Q0⟩
def BW(o:Option (List Int))(n a:Int)(W w:World)(x:Ending)(w':World):Prop:=Gr w w'/\match o with
 | none=>x=.panicked (kC 10 n a)
 | some l=>∃v,x=.returned v/\aW W v l
def dE(u:aK)(k:Int):Option (List Int):=if 1<=k then u.aA[(k - 1).toNat]? else none
theorem kI(u:aK)(k:Int)(Je:0<=k)(M6:k<=65535)(v1 x1 x2 x3 x4 x5 x6 x7:Value)(n a:Int)(W w:World)(hR:bM W v1 u.aA)(hW:Gr W w):
 Calls Tryz.prog 138 #[.agg #[v1,x1,x2,x3,x4,x5,x6,x7],.int .i64 k,.agg #[.int .i64 10,.int .i64 n,.int .i64 a]] w (BW (dE u k) n a W w):=by
 obtain ⟨ao,cap,rfl,hm,hc⟩:=hR;unfold maxLen at hm;have HC:=aH hc;clear hc;by_cases h1:1<=k
 · obtain ⟨j,rfl⟩:∃j:Nat,k=(j:Int)+1:=⟨(k - 1).toNat,Q5⟩;have JP:decide ((1:Int)<=(j:Int)+1)=true:=by simp;omega
   by_cases hl:j < u.aA.length
   · obtain ⟨s,hs⟩:=aX hl;have HS:Hid (dE u ((j:Int)+1)=some s):=aH (by unfold dE;rw [if_pos h1,<-hs];congr 1;omega);obtain ⟨b,off,vx,rfl,Z0,Tu⟩:=HC.out j s hs;obtain ⟨ax,cx,rfl⟩:=Tu.shape;have HRx:=aH Tu;have Lf:decide ((j:Int)+1<=(u.aA.length:Int))=true:=by simp;omega
     have Iz:(j:Int) < (u.aA.length:Int):=Q5
     have hw:IntKind.i64.wrap ((j:Int)+1 - 1)=(j:Int):=by rw [Q_];omega
     have hk:∀w',Gr (r9 w (.slice (some ⟨b,off,none⟩) u.aA.length cap) x1 x2 x3 x4 x5 x6 x7 n a) w'->w'.cell? ⟨b,off+j,none⟩=some (.slice ax s.length cx)/\w'.cell? ⟨w.heap.size,0,none⟩=some (.slice (some ⟨b,off,none⟩) u.aA.length cap):=fun w' h=>⟨h.cell ((sk w (.slice (some ⟨b,off,none⟩) u.aA.length cap) x1 x2 x3 x4 x5 x6 x7 n a).cell (hW.cell Z0 Q6) Q6) Q6,h.cell (by simp [r9,go_sem]) Q6⟩
     unfold r9 at hk;clear HC Z0 hs Tu;go_enter Tryz.func138,Tryz.ntmps138
     go_wp2_with ((go_at_call 64;refine (bP _ _ _ _).mono ?_;rintro e w' ⟨rfl,D0⟩);obtain ⟨J5,S5⟩:=hk w' D0)
     go_ret
     have HW:=aH hW;clear hW;have hG:Gr w w':=Q0;exact ⟨hG,by rw [HS.out];exact ⟨_,rfl,HRx.out⟩⟩
   · have HS:Hid (dE u ((j:Int)+1)=none):=aH (by unfold dE;rw [if_pos h1,List.getElem?_eq_none Q5]);have Lf:decide ((j:Int)+1<=(u.aA.length:Int))=false:=by simp;omega
     clear HC;go_enter Tryz.func138,Tryz.ntmps138
     go_wp2_with ((go_at_call 64;refine (bk _ _ _ _).mono ?_;rintro e w' ⟨rfl,D0⟩))
     clear hW;exact ⟨rfl,Q0,by rw [HS.out]⟩
 · have HS:Hid (dE u k=none):=aH (by unfold dE;rw [if_neg h1]);have JP:decide ((1:Int)<=k)=false:=by simp;omega
   clear HC;go_enter Tryz.func138,Tryz.ntmps138
   go_wp2_with ((go_at_call 64;refine (bk _ _ _ _).mono ?_;rintro e w' ⟨rfl,D0⟩))
   clear hW;exact ⟨rfl,Q0,by rw [HS.out]⟩
open Go.RowKit
attribute [local go_sem ↓] Go.wp_at_zero Go.wp_at_succ
def AC(w:World)(x0 x1 x2 x3 x4 x5 x6 x7:Value)(i:aw)(n a:Int):World:=((w.alloc (.cells #[x0,x1,x2,x3,x4,x5,x6,x7] 80)).alloc (.cells #[.int .i64 i.op,.int .i64 i.a,.int .i64 i.b] 42)).alloc (.cells #[.int .i64 10,.int .i64 n,.int .i64 a] 62)
theorem yJ(w:World)(x0 x1 x2 x3 x4 x5 x6 x7:Value)(i:aw)(n a:Int):Gr w (AC w x0 x1 x2 x3 x4 x5 x6 x7 i n a):=(((Gr.refl w).alloc _).alloc _).alloc _
def iA(u:aK)(i:aw):Option Int:=(dE u i.a).bind fun s=>s[i.b.toNat]?
theorem oU(u:aK)(i:aw)(KJ:0<=i.a)(J2:i.a<=65535)(D4:0<=i.b)(Y0:i.b<=65535)(v1 x1 x2 x3 x4 x5 x6 x7:Value)(n a:Int)(W w:World)(hR:bM W v1 u.aA)(hW:Gr W w):
 Calls Tryz.prog 139 #[.agg #[v1,x1,x2,x3,x4,x5,x6,x7],.agg #[.int .i64 i.op,.int .i64 i.a,.int .i64 i.b],.agg #[.int .i64 10,.int .i64 n,.int .i64 a]] w fun x w'=>x=xv (iA u i) n a/\Gr w w':=by
 have HR:=aH hR;obtain ⟨ao,cap,rfl⟩:=hR.shape;have HF:=aH (kI u i.a KJ J2 (.slice ao u.aA.length cap) x1 x2 x3 x4 x5 x6 x7 n a W _ HR.out (hW.trans (yJ w (.slice ao u.aA.length cap) x1 x2 x3 x4 x5 x6 x7 i n a)));have hk:∀w',Gr (AC w (.slice ao u.aA.length cap) x1 x2 x3 x4 x5 x6 x7 i n a) w'->w'.cell? ⟨w.heap.size+1,2,none⟩=some (.int .i64 i.b)/\w'.cell? ⟨w.heap.size+2,0,none⟩=some (.int .i64 10)/\w'.cell? ⟨w.heap.size+2,1,none⟩=some (.int .i64 n)/\w'.cell? ⟨w.heap.size+2,2,none⟩=some (.int .i64 a):=fun w' h=>⟨h.cell (by simp [AC,go_sem]) Q6,h.cell (by simp [AC,go_sem]) Q6,h.cell (by simp [AC,go_sem]) Q6,h.cell (by simp [AC,go_sem]) Q6⟩
 have D7:=aH (yJ w (.slice ao u.aA.length cap) x1 x2 x3 x4 x5 x6 x7 i n a);have HQ:Hid (iA u i=(dE u i.a).bind fun s=>s[i.b.toNat]?):=aH rfl;generalize QZ:dE u i.a=S at HF HQ;clear QZ hR;unfold AC at HF hk D7;obtain ⟨j,hj⟩:∃j:Nat,i.b=(j:Int):=⟨i.b.toNat,Q5⟩;rw [hj] at HQ HF hk D7 |-;simp only [Int.toNat_natCast] at HQ;generalize iA u i=R at HQ |-;have hjb:(j:Int)<=65535:=Q5
 clear hj D4 Y0;cases S with
 | none=>
  go_enter Tryz.func139,Tryz.ntmps139
  go_wp2_with fail
  refine HF.out.mono ?_;rintro x w1 ⟨hg,rfl⟩;exact ⟨rfl,by rw [HQ.out];rfl,D7.out.trans hg⟩
 | some s=>
  go_enter Tryz.func139,Tryz.ntmps139
  go_wp2_with fail
  refine HF.out.mono ?_;rintro x w1 ⟨hg,v,rfl,Tf⟩;obtain ⟨c2,e0,e1,e2⟩:=hk w1 hg;have LJ:=D7.out.trans hg;clear HF D7 hk hg;obtain ⟨ax,cx,rfl,hm,hc⟩:=Tf.gr (hW.trans LJ);clear Tf;unfold maxLen at hm;have HC:=aH hc;clear hc;by_cases hl:j < s.length
  · obtain ⟨b,off,rfl,Z0⟩:=HC.out j hl;have HS:Hid (R=some (s.getD j 0)):=aH (by rw [HQ.out,List.getD_eq_getElem?_getD];simp [List.getElem?_eq_getElem hl]);generalize s.getD j 0=y at Z0 HS;have hd:(j:Int) < (s.length:Int):=by omega
    have M6:∀w',Gr w1 w'->w'.cell? ⟨b,off+j,none⟩=some (.int .i64 y)/\w'.cell? ⟨w.heap.size+1,2,none⟩=some (.int .i64 (j:Int)):=fun w' h=>⟨h.cell Z0 Q6,h.cell c2 Q6⟩
    have Vd:=aH LJ;clear HC Z0 LJ;go_wp2_with ((go_at_call 64;refine (bP _ _ _ _).mono ?_;rintro e w' ⟨rfl,D0⟩);obtain ⟨J5,S5⟩:=M6 w' D0)
    go_ret
    exact ⟨by rw [HS.out];rfl,Vd.out.trans D0⟩
  · have HS:Hid (R=none):=aH (by rw [HQ.out];simp [List.getElem?_eq_none (show s.length<=j by omega)]);have hd:¬(j:Int) < (s.length:Int):=by omega
    have Vd:=aH LJ;clear HC LJ;go_wp2_with ((go_at_call 64;refine (bk _ _ _ _).mono ?_;rintro e w' ⟨rfl,D0⟩))
    exact ⟨rfl,by rw [HS.out];rfl,Vd.out.trans D0⟩
theorem oY{w w':World}(h:Gr w w')(n:Nat):Gr w (w'.drewN n):=⟨h.os,h.tape,h.output,h.size,h.block⟩
def mD(u:aK)(k:Nat):Option (List Int×Int):=match u.aE[k]? with
 | some g=>some (g.aF,g.result)
 | none=>u.aB[k - u.aE.length]?.map fun g=>(g.aF,g.result)
def BQ(o:Option (List Int×Int))(n a:Int)(W w:World)(x:Ending)(w':World):Prop:=Gr w w'/\match o with
 | none=>x=.panicked (kC 10 n a)
 | some (l,r)=>∃v,x=.returned (.tuple #[v,.int .i64 r])/\aW W v l
theorem k_(u:aK)(k:Nat)(M6:k<=65535)(x0 x1 v3 v4 x4 x5 x6 x7:Value)(n a:Int)(W w:World)(hF:dH W v3 u.aE)(hI:bo W v4 u.aB)(hW:Gr W w)(Ie:u.aE.length<=1000000)(Pr:u.aB.length<=1000000):
 Calls Tryz.prog 137 #[.agg #[x0,x1,v3,v4,x4,x5,x6,x7],.int .i64 (k:Int),.agg #[.int .i64 10,.int .i64 n,.int .i64 a]] w (BQ (mD u k) n a W w):=by
 obtain ⟨a3,c3,rfl,Hb,Pd⟩:=hF;obtain ⟨a4,c4,rfl,Gb,Mk⟩:=hI;have P6:=aH Pd;have V7:=aH Mk;have D7:=aH (sk w x0 x1 (.slice a3 u.aE.length c3) (.slice a4 u.aB.length c4) x4 x5 x6 x7 n a);have hk:∀w',Gr (r9 w x0 x1 (.slice a3 u.aE.length c3) (.slice a4 u.aB.length c4) x4 x5 x6 x7 n a) w'->w'.cell? ⟨w.heap.size,2,none⟩=some (.slice a3 u.aE.length c3)/\w'.cell? ⟨w.heap.size,3,none⟩=some (.slice a4 u.aB.length c4):=fun w' h=>⟨h.cell (by simp [r9,go_sem]) Q6,h.cell (by simp [r9,go_sem]) Q6⟩
 have hw:IntKind.i64.wrap ((u.aE.length:Int)+(u.aB.length:Int))=(u.aE.length:Int)+(u.aB.length:Int):=Q_;clear Pd Mk Hb Gb;by_cases h1:k < u.aE.length
 · obtain ⟨f,hf⟩:=aX h1;have HS:Hid (mD u k=some (f.aF,f.result)):=aH (by unfold mD;rw [hf]);obtain ⟨b,off,vp,vl,vc,rfl,f0,f1,_,_,M',_,_⟩:=P6.out k f hf;have MJ:=aH M';obtain ⟨ap,cp,rfl⟩:=M'.shape;have hd:decide ((k:Int) < (u.aE.length:Int)+(u.aB.length:Int))=true:=by simp;omega
   have Lf:decide ((k:Int) < (u.aE.length:Int))=true:=by simp;omega
   have Iz:(k:Int) < (u.aE.length:Int):=Q5
   have P7:∀w',Gr (r9 w x0 x1 (.slice (some ⟨b,off,none⟩) u.aE.length c3) (.slice a4 u.aB.length c4) x4 x5 x6 x7 n a) w'->w'.cell? ⟨b,off+k * 4,none⟩=some (.slice ap f.aF.length cp)/\w'.cell? ⟨b,off+k * 4+1,none⟩=some (.int .i64 f.result):=fun w' h=>⟨h.cell (D7.out.cell (hW.cell f0 Q6) Q6) Q6,h.cell (D7.out.cell (hW.cell f1 Q6) Q6) Q6⟩
   unfold r9 at hk P7 D7;clear P6 V7 f0 f1 hf M';go_enter Tryz.func137,Tryz.ntmps137
   go_wp2_with ((go_at_call 64;refine (bP _ _ _ _).mono ?_;rintro e w' ⟨rfl,D0⟩);obtain ⟨J5,S5⟩:=hk w' D0;obtain ⟨Pd,Mk⟩:=P7 w' D0)
   go_quiet (fail)
   go_wp2_with fail
   go_ret2
   exact ⟨by first|exact D7.out.trans D0|exact oY (D7.out.trans D0) _,by rw [HS.out];exact ⟨_,rfl,MJ.out⟩⟩
 · have Lf:decide ((k:Int) < (u.aE.length:Int))=false:=by simp;omega
   have MD:u.aE[k]? =none:=List.getElem?_eq_none Q5;by_cases h2:k - u.aE.length < u.aB.length
   · obtain ⟨j,rfl⟩:∃j,k=u.aE.length+j:=⟨k - u.aE.length,Q5⟩;have h3:j < u.aB.length:=by omega
     obtain ⟨f,hf⟩:=aX h3;have HS:Hid (mD u (u.aE.length+j)=some (f.aF,f.result)):=aH (by unfold mD;rw [MD];simp only;rw [show u.aE.length+j - u.aE.length=j by omega,hf];rfl);obtain ⟨b,off,vs,vp,rfl,f0,f1,f2,Ck,M'⟩:=V7.out j f hf;have MJ:=aH M';obtain ⟨ap,cp,rfl⟩:=M'.shape;obtain ⟨ns,rfl,_,_⟩:=Ck;have Fa:((u.aE.length+j:Nat):Int)=(u.aE.length:Int)+(j:Int):=Q5
     have hd:decide ((u.aE.length:Int)+(j:Int) < (u.aE.length:Int)+(u.aB.length:Int))=true:=by simp;omega
     rw [Fa] at Lf |-;have D3:IntKind.i64.wrap ((u.aE.length:Int)+(j:Int) - (u.aE.length:Int))=(j:Int):=by rw [Q_];omega
     have Iz:(j:Int) < (u.aB.length:Int):=Q5
     have P7:∀w',Gr (r9 w x0 x1 (.slice a3 u.aE.length c3) (.slice (some ⟨b,off,none⟩) u.aB.length c4) x4 x5 x6 x7 n a) w'->w'.cell? ⟨b,off+j * 3,none⟩=some (.string ns)/\w'.cell? ⟨b,off+j * 3+1,none⟩=some (.slice ap f.aF.length cp)/\w'.cell? ⟨b,off+j * 3+2,none⟩=some (.int .i64 f.result):=fun w' h=>⟨h.cell (D7.out.cell (hW.cell f0 Q6) Q6) Q6,h.cell (D7.out.cell (hW.cell f1 Q6) Q6) Q6,h.cell (D7.out.cell (hW.cell f2 Q6) Q6) Q6⟩
     unfold r9 at hk P7 D7;clear P6 V7 f0 f1 f2 hf M' Fa MD h1 h2 h3 M6;go_enter Tryz.func137,Tryz.ntmps137
     go_wp2_with ((go_at_call 64;refine (bP _ _ _ _).mono ?_;rintro e w' ⟨rfl,D0⟩);obtain ⟨J5,S5⟩:=hk w' D0;obtain ⟨Pd,Mk,hc5⟩:=P7 w' D0)
     go_quiet (fail)
     go_wp2_with fail
     go_ret2
     have hG1:=Gr.alloc (D7.out.trans D0) (.cells #[.string ns,.slice ap f.aF.length cp,.int .i64 f.result] 71);exact ⟨by first|exact hG1|exact oY hG1 _,by rw [HS.out];exact ⟨_,rfl,MJ.out⟩⟩
   · have HS:Hid (mD u k=none):=aH (by unfold mD;rw [MD];simp only;rw [List.getElem?_eq_none Q5];rfl);have hd:decide ((k:Int) < (u.aE.length:Int)+(u.aB.length:Int))=false:=by simp;omega
     unfold r9 at D7;clear P6 V7 hk MD;go_enter Tryz.func137,Tryz.ntmps137
     go_wp2_with ((go_at_call 64;refine (bk _ _ _ _).mono ?_;rintro e w' ⟨rfl,D0⟩))
     exact ⟨rfl,D7.out.trans D0,by rw [HS.out]⟩
end Go.Proofs.YtkgncijcnlfhiabGreat
