import Derived.Deep.AppendLies
import Derived.Deep.RegionLaw
import Derived.Test.YtkgncijcnlfhiaaGreatZc
import Derived.Test.YtkgncijcnlfhiaaGreatNi
import Derived.Test.YtkgncijcnlfhiaaGreatT1
namespace Go.Proofs.YtkgncijcnlfhiaaGreat
set_option maxRecDepth 100000
set_option maxHeartbeats 2000000
set_option linter.unusedVariables false
set_option linter.unusedSimpArgs false
open Go.RowKit
attribute [local go_sem ↓] Go.wp_at_zero Go.wp_at_succ
theorem xq(w:World)(ys:Array Value)(t:TypeId):∀j u,ys.toList[j]? =some u→(w.alloc (.cells ys t)).cell? ((⟨w.heap.size,0,none⟩:Addr).add j)=some u:=by
 intro j u hj;have e:(⟨w.heap.size,0,none⟩:Addr).add j=⟨w.heap.size,j,none⟩:=by simp [Addr.add];try (intro h;exact h.symm)
 rw [e];have h:=World.cell?_alloc_mark w ys t (0,0) j;exact h.trans (by rw [←Array.getElem?_toList];exact hj)
theorem Tryz.infZ:(Tryz.prog.info? 3).map (fun i=>(i.zero,i.size,i.bytes))=some (some (Value.int .i64 0),1,8):=by kernel_rfl
theorem Tryz.uIs:Tryz.prog.underlying 72=some (.slice 3):=by kernel_rfl
theorem mX{ops:Array Oper}{o:Oper}{a:Act}{K:Act→World→Prop}{Q:Exit→Act→World→Prop}{E:Prop}(w:World)(hgd:o.guard=none)(s x:Operand)
 (ho:o.op=.call { callee:=.builtin .append,args:=#[s,x],argTypes:=#[72,72] })
 (base:Nat) (v:Value) (l:List Int) (y:Int) (hs:a.eval s=v) (hown:ce w base v l) (H:Nat) (hx:a.eval x=.slice (some ⟨H,0,none⟩) 1 1) (hH:w.heap.size=H) (hlen:l.length≤1000000) (hbase:base≤w.heap.size)
 (h:∀ao cap w',ce w' base (.slice ao (l.length+1) cap) (l++ [y])→w.grownBy w' v.ownBlock→(∀k,(Value.slice ao (l.length+1) cap).ownBlock=some k→v.ownBlock=some k∨w.heap.size≤k)→K (a.put o.dst (.slice ao (l.length+1) cap)) w'):
 if Region.wanted o (yielded ops a.tmps)=true then Oper.wp Tryz.prog o a (w.alloc (.cells #[.int .i64 y] 3)) K Q else E:=by
 subst hH;obtain ⟨i0,hi,hz0,hz1,hz2⟩:=info_parts Tryz.infZ;refine step_append_lies (w.alloc (.cells #[.int .i64 y] 3)) hgd s x 72 ho base 3 i0 (.int .i64 0) 1 8 Tryz.uIs hi hz0 hz1 hz2 rfl (by decide) v l.length (eh l) hs (World.ownsRow.alloc hown _) ⟨w.heap.size,0,none⟩ 1 1 [.int .i64 y] hx rfl (xq _ #[.int .i64 y] _) (by intro u hu;simp at hu;subst hu;rfl) (by decide) (by unfold maxLen;omega) (by omega) (by simp;omega) _ rfl ?_;intro g cap w' k1 k2 k3 _;refine h (some ⟨g,0,none⟩) cap w' ?_ ((World.grownBy_alloc w _ _).trans k2) (fun k hk=>?_)
 · unfold ce;have e1:(l++ [y]).length=l.length+1:=by simp
   have e2:eh (l++ [y])=eh l++ [.int .i64 y]:=by simp [eh]
   rw [e1,e2];exact k1
 · simp only [Value.ownBlock,Option.some.injEq] at hk;subst hk;rcases k3 with e|e
   · exact .inl e
   · right;simp at e;omega
structure ji(w:World)(lb lo B:Nat)(v:Value)(l:List Int):Prop where
 cell:w.cell? ⟨lb,lo,none⟩=some v
 fz:w.frozen? ⟨lb,lo,none⟩=false
 row:ce w B v l
 lb:lb < B
 bs:B≤w.heap.size
 small:l.length≤100000
structure oU(w w':World)(lb lo:Nat)(v v':Value):Prop where
 os:w'.os=w.os
 tape:w'.tape=w.tape
 output:w'.output=w.output
 size:w.heap.size≤w'.heap.size
 box:w'.heap[lb]? =(w.setCell ⟨lb,lo,none⟩ v').heap[lb]?
 rest:∀b,b < w.heap.size→¬b=lb→¬v.ownBlock=some b→w'.heap[b]? =w.heap[b]?
 lies:∀b,v'.ownBlock=some b→v.ownBlock=some b∨w.heap.size≤b
theorem CT{w1 w2:World}{lb lo:Nat}{v:Value}(h:w1.heap[lb]? =w2.heap[lb]?):(w1.setCell ⟨lb,lo,none⟩ v).heap[lb]? =(w2.setCell ⟨lb,lo,none⟩ v).heap[lb]? :=by
 cases hb:w2.heap[lb]? with
 | none=>
  rw [hb] at h;have e1:¬lb < w1.heap.size:=fun hl=>by rw [Array.getElem?_eq_getElem hl] at h;cases h
  have e2:¬lb < w2.heap.size:=fun hl=>by rw [Array.getElem?_eq_getElem hl] at hb;cases hb
  rw [Array.getElem?_eq_none (by simp;omega),Array.getElem?_eq_none (by simp;omega)]
 | some o=>
  rw [hb] at h;unfold World.setCell;simp [Array.getElem?_modify,h,hb]
theorem oN(v:Value)(w:World):(Instr.typeAssert (.iface 3 v) 20 3 false).run Tryz.prog w=.ok v w:=by kernel_rfl
def zY(w:World)(lb lo B:Nat)(v:Value)(l:List Int)(x:Int)(e:Ending)(w':World):Prop:=∃v',e=.returned (.tuple #[])∧ji w' lb lo B v' (l++ [x])∧oU w w' lb lo v v'
theorem td(lb lo B:Nat)(v:Value)(l:List Int)(x:Int)(w:World)(h:ji w lb lo B v l)(hl:l.length < 100000):
 Calls Tryz.prog 164 #[.pointer (some ⟨lb,lo,none⟩),.iface 3 (.int .i64 x)] w (zY w lb lo B v l x):=by
 have HH:=aH h;obtain ⟨⟨ao,cap,rfl⟩,_⟩:=h.row.form;have hc:=h.cell;have hz:=h.fz;have has:=fun (v:Value) (w:World)=>oN v w
 have hbs:B≤w.drew.heap.size:=h.bs;have HR:Hid (ce w.drew B (.slice ao l.length cap) l):=aH h.row;have hl1:l.length≤1000000:=by omega
 have hne:some lb≠(Value.slice ao l.length cap).ownBlock:=fun e=>by have:=(World.ownsRow.lt h.row lb e.symm).1;have:=h.lb;omega
 have HFz:∀w3:World,w.drew.grownBy w3 (Value.slice ao l.length cap).ownBlock→w3.cell? ⟨lb,lo,none⟩=some (.slice ao l.length cap)∧w3.frozen? ⟨lb,lo,none⟩=false∧w3.heap[lb]? =w.heap[lb]? :=fun w3 hg=>
  ⟨hg.cell (a:=⟨lb,lo,none⟩) hc hne,(World.frozen?_of_block (a:=⟨lb,lo,none⟩) (hg.block lb (World.block_lt_of_cell? w _ hc) hne)).trans hz,hg.block lb (World.block_lt_of_cell? w _ hc) hne⟩
 have HFH:=aH HFz;have hca:(w.alloc (.cells #[.int .i64 x] 3)).cell? ⟨lb,lo,none⟩=some (.slice ao l.length cap):=(World.grownBy_alloc w _ none).cell hc (by simp);clear h HFz;go_enter Tryz.func164,Tryz.ntmps164
 go_wp2_with fail
 go_region_law (refine mX w.drew rfl _ _ rfl B (.slice ao l.length cap) l x rfl HR.out w.heap.size rfl rfl hl1 hbs ?_;intro a3 c3 w3 hr3 hg3 hl3;obtain ⟨hc3,hz3,_⟩:=HFH.out w3 hg3)
 all_goals go_end0
 all_goals
  have hb3:=(HFH.out w3 hg3).2.2;have hlb:=HH.out.lb;have hvne:¬(Value.slice a3 (l.length+1) c3).ownBlock=some lb:=fun e=>by have:=(World.ownsRow.lt hr3 lb e).1;omega
  have hset:∀b,¬b=lb→(w3.setCell ⟨lb,lo,none⟩ (.slice a3 (l.length+1) c3)).heap[b]? =w3.heap[b]? :=fun b hb=>Below.heap_setCell _ _ _ _ hb
  have hbox:(w3.setCell ⟨lb,lo,none⟩ (.slice a3 (l.length+1) c3)).heap[lb]? =(w.setCell ⟨lb,lo,none⟩ (.slice a3 (l.length+1) c3)).heap[lb]? :=CT hb3;exact ⟨.slice a3 (l.length+1) c3,rfl,⟨World.cell?_setCell_same _ _ _ hc3,by rw [World.frozen?_setCell];exact hz3,hr3.keep (fun b hb=>hset b (fun e=>hvne (e▸hb))),hlb,by have:=hg3.size;have:=HH.out.bs;simp at this ⊢;exact Nat.le_trans HH.out.bs hg3.size,by simp;omega⟩,⟨hg3.os,hg3.tape,hg3.output,by simpa using hg3.size,hbox,fun b hb h1 h2=>(hset b h1).trans (hg3.block b hb (fun e=>h2 e.symm)),hl3⟩⟩
open Go.RowKit
attribute [local go_sem ↓] Go.wp_at_zero Go.wp_at_succ
theorem Hp.congr{a b:Nat→Int}{n:Nat}(h:Hp a n)(e:∀k,k < n→a k=b k):Hp b n:=fun i h0 hi=>by
 rw [←e i hi,←e ((i - 1) / 2) (by omega)];exact h i h0 hi
theorem fX.congr{a b c:Nat→Int}{n:Nat}(h:fX a b n)(e:∀k,k < n→b k=c k):fX a c n:=
 ⟨fun x=>(h.mem x).trans ⟨fun ⟨i,hi,hx⟩=>⟨i,hi,(e i hi).symm.trans hx⟩,fun ⟨i,hi,hx⟩=>⟨i,hi,(e i hi).trans hx⟩⟩,fun hin i j hi hj hx=>h.inj hin i j hi hj (by rw [e i hi,e j hj];exact hx)⟩
def Ag(w:World)(lb lo B:Nat)(v:Value)(l:List Int)(e:Ending)(w':World):Prop:=∃v',e=.returned (.iface 3 (.int .i64 (bZ l (l.length - 1))))∧ji w' lb lo B v' (l.take (l.length - 1))∧oU w w' lb lo v v'
theorem wI(lb lo B:Nat)(v:Value)(l:List Int)(w:World)(h:ji w lb lo B v l)(hl:0 < l.length):
 Calls Tryz.prog 163 #[.pointer (some ⟨lb,lo,none⟩)] w (Ag w lb lo B v l):=by
 have HH:=aH h;obtain ⟨g,cap,rfl,hBg,hgs,hcs,hzs⟩:=h.row.at hl;have hc:=h.cell;have hz:=h.fz;have hsm:=h.small;have hlbB:=h.lb;obtain ⟨n,hn⟩:∃n:Nat,n+1=l.length:=⟨l.length - 1,by omega⟩;have hx:=hcs n (by omega);have HX:Hid (bZ l (l.length - 1)=bZ l n):=aH (by rw [show l.length - 1=n by omega]);have hcap:l.length≤cap:=by
  rcases h.row.2 with ⟨e,_⟩|⟨g',c',cur,e,_,_,h4,_⟩
  · simp at e
  · simp only [Value.slice.injEq,Option.some.injEq,Addr.mk.injEq,and_true,true_and] at e;omega
 generalize bZ l n=y at hx HX;have HRC:=aH (h.row.cut (n:=n) (by omega));have HTK:Hid (l.take (l.length - 1)=l.take n):=aH (by rw [show l.length - 1=n by omega]);have HN:=aH hn;have hw:IntKind.i64.wrap ((l.length:Int) - 1)=(n:Int):=by rw [Go.IntWalk.i64_in _ (by omega)];omega
 have hb1:(n:Int) < (l.length:Int):=by omega
 have hb2:(n:Int)≤(cap:Int):=by omega
 have hb3:n≤cap:=by omega
 clear h hcs hzs hn;go_enter Tryz.func163,Tryz.ntmps163
 go_wp2_with (go_at_call 49;refine (iC _ _ _ _).mono ?_;rintro e w' ⟨rfl,hw'⟩;obtain rfl:=hw'.symm)
 go_ret
 have hlb:=HH.out.lb;have hset:∀b,¬b=lb→(w.setCell ⟨lb,lo,none⟩ (.slice (some ⟨g,0,none⟩) n cap)).heap[b]? =w.heap[b]? :=fun b hb=>Below.heap_setCell _ _ _ _ hb
 refine ⟨.slice (some ⟨g,0,none⟩) n cap,by rw [HX.out];rfl,⟨World.cell?_setCell_same _ _ _ hc,by rw [World.frozen?_setCell];exact hz,?_,hlb,by simpa using HH.out.bs,by simp;omega⟩,⟨rfl,rfl,rfl,by simp,rfl,fun b _ h1 _=>hset b h1,fun b hb=>.inl hb⟩⟩;rw [HTK.out];refine HRC.out.keep (fun b hb=>hset b (fun e=>?_));simp only [Value.ownBlock,Option.some.injEq] at hb;omega
def wP(w:World)(lb lo B:Nat)(v:Value)(l:List Int)(x:Int)(e:Ending)(w':World):Prop:=∃v' l',e=.returned (.tuple #[])∧ji w' lb lo B v' l'∧l'.length=l.length+1∧Hp (bZ l') (l.length+1)∧fX (fun k=>if k=l.length then x else bZ l k) (bZ l') (l.length+1)∧oU w w' lb lo v v'
def yF(w:World)(lb lo B:Nat)(v:Value)(l:List Int)(n:Nat)(e:Ending)(w':World):Prop:=∃v' l',e=.returned (.iface 3 (.int .i64 (bZ l 0)))∧ji w' lb lo B v' l'∧l'.length=n∧Hp (bZ l') n∧fX (jN (bZ l) 0 n) (bZ l') n∧oU w w' lb lo v v'
theorem ji.hp{w:World}{lb lo B:Nat}{v:Value}{l:List Int}(h:ji w lb lo B v l)(hl:0 < l.length):∃g cap,v=.slice (some ⟨g,0,none⟩) l.length cap∧iP w lb lo B g cap l.length l:=by
 obtain ⟨g,cap,rfl,_⟩:=h.row.at hl;exact ⟨g,cap,rfl,h.cell,rfl,h.row,h.lb,by have:=h.small;omega⟩
theorem oU.row{w w1 w2:World}{lb lo g n cap B:Nat}{v:Value}{l l':List Int}(h:oU w w1 lb lo v (.slice (some ⟨g,0,none⟩) n cap))(ha:iP w1 lb lo B g cap n l)(k:w1.grownBy w2 (some g)):oU w w2 lb lo v (.slice (some ⟨g,0,none⟩) n cap):=by
 have hge:=ha.ge;have hlb:=ha.lb;have hl1:lb < w1.heap.size:=World.block_lt_of_cell? w1 _ ha.cell;refine ⟨k.os.trans h.os,k.tape.trans h.tape,k.output.trans h.output,Nat.le_trans h.size k.size,(k.block lb hl1 (by simp;omega)).trans h.box,fun b hb h1 h2=>(k.block b (Nat.lt_of_lt_of_le hb h.size) (fun e=>?_)).trans (h.rest b hb h1 h2),h.lies⟩;simp only [Option.some.injEq] at e;rcases h.lies g rfl with e2|e2
 · exact h2 (e▸e2)
 · omega
theorem iP.wt{w w1:World}{lb lo B g cap n:Nat}{l:List Int}(h:iP w1 lb lo B g cap n l)(hz:w1.frozen? ⟨lb,lo,none⟩=false)(hbs:B≤w1.heap.size)(hs:n≤100000):ji w1 lb lo B (.slice (some ⟨g,0,none⟩) n cap) l:=
 ⟨h.cell,hz,h.row,h.lb,hbs,by rw [h.len];exact hs⟩
theorem CV(lb lo B:Nat)(v:Value)(l:List Int)(x:Int)(w:World)(h:ji w lb lo B v l)(hl:l.length < 100000)(hp:Hp (bZ l) l.length):
 Calls Tryz.prog 79 #[.iface 101 (.pointer (some ⟨lb,lo,none⟩)),.iface 3 (.int .i64 x)] w (wP w lb lo B v l x):=by
 have HH:=aH h;have HP:=aH hp;have hm1:=yf w lb lo;clear h hp;go_enter Tryz.func79,Tryz.ntmps79
 go_wp2_with fail
 refine (td lb lo B v l x w HH.out hl).mono ?_;rintro e w1 ⟨v1,rfl,ht1,hf1⟩;have hlen:(l++ [x]).length=l.length+1:=by simp
 obtain ⟨g,cap,rfl,ha1⟩:=ht1.hp (by omega);have HT1:=aH ht1;have HF1:=aH hf1;have HA1:=aH ha1;have hm2:=yI w1 lb lo _ ha1.cell ⟨_,_,_,rfl⟩;clear hm1 ht1 hf1 ha1;rw [hlen] at HA1 hm2 HF1;have hw:IntKind.i64.wrap (((l.length+1:Nat):Int) - 1)=(l.length:Int):=by rw [Go.IntWalk.i64_in _ (by omega)];omega
 have hw2:IntKind.i64.wrap ((l.length:Int)+1 - 1)=(l.length:Int):=by rw [Go.IntWalk.i64_in _ (by omega)];omega
 go_wp2_with (go_at_call 49;refine (iC _ _ _ _).mono ?_;rintro e w' ⟨rfl,hw'⟩;obtain rfl:=hw'.symm)
 refine (yt lb lo B g cap (l.length+1) l.length (l++ [x]) w1 HA1.out (by omega) (by rw [o9];exact HP.out.push x)).mono ?_;rintro e w2 ⟨rfl,l2,ha2,hp2,hs2,hg2⟩;rw [o9] at hs2;have hz2:w2.frozen? ⟨lb,lo,none⟩=false:=(World.frozen?_of_block (a:=⟨lb,lo,none⟩) (hg2.block lb (World.block_lt_of_cell? w1 _ HA1.out.cell) (by have:=HA1.out.ge;have:=HA1.out.lb;simp;omega))).trans HT1.out.fz;have HR:Hid (wP w lb lo B v l x (.returned (.tuple #[])) w2):=aH ⟨_,l2,rfl,ha2.wt (w:=w) hz2 (Nat.le_trans HT1.out.bs hg2.size) (by omega),ha2.len,hp2,hs2,HF1.out.row (l':=l2) HA1.out hg2⟩;clear ha2 hp2 hs2 hg2 hz2 HA1 HT1 HF1 hm2;go_wp2_with fail
 go_end0
 exact HR.out
theorem wZ(lb lo B:Nat)(v:Value)(l:List Int)(n:Nat)(w:World)(h:ji w lb lo B v l)(hl:l.length=n+1)(hp:Hp (bZ l) (n+1)):
 Calls Tryz.prog 51 #[.iface 101 (.pointer (some ⟨lb,lo,none⟩))] w (yF w lb lo B v l n):=by
 have HH:=aH h;have HP:=aH hp;obtain ⟨g,cap,rfl,ha⟩:=h.hp (by omega);rw [hl] at ha;have HA:=aH ha;have hsm:=h.small;have hm1:=yI w lb lo _ ha.cell ⟨_,_,_,rfl⟩;have hm2:=lv w lb lo _ ha.cell ⟨_,_,_,rfl⟩;have HL:=aH hl;have hn:n≤99999:=by omega
 clear h hp ha;rw [hl];clear hl hsm;have hw:IntKind.i64.wrap (((n+1:Nat):Int) - 1)=(n:Int):=by rw [Go.IntWalk.i64_in _ (by omega)];omega
 have hw2:IntKind.i64.wrap ((n:Int)+1 - 1)=(n:Int):=by rw [Go.IntWalk.i64_in _ (by omega)];omega
 have hw3:IntKind.i64.wrap (n:Int)=(n:Int):=Go.IntWalk.i64_in _ (by omega);go_enter Tryz.func51,Tryz.ntmps51
 go_wp2_with (go_at_call 49;refine (iC _ _ _ _).mono ?_;rintro e w' ⟨rfl,hw'⟩;obtain rfl:=hw'.symm)
 refine (iq (i:=0) (j:=n) HA.out.len HA.out.row (by omega) (by omega)).mono ?_;rintro e w1 ⟨rfl,hr1,hg1⟩;have e1:bZ (eS l 0 n)=jN (bZ l) 0 n:=ik (by rw [HL.out];omega) (by rw [HL.out];omega);have HA1:=aH (HA.out.swap hg1 hr1 (hO _ _ _));have HG1:=aH hg1;clear hr1 hg1 hm1 hm2;go_wp2_with fail
 refine (vF lb lo B g cap (n+1) n (eS l 0 n) w1 HA1.out (by omega) (by rw [e1];exact HP.out.pop)).mono ?_;rintro e w2 ⟨b,rfl,l2,ha2,hp2,hs2,hl2,hg2⟩;rw [e1] at hs2 hl2;have HA2:=aH ha2;have HS2:=aH hs2;have HP2:=aH hp2;have HG2:=aH (f_ HG1.out hg2);have HL2:Hid (bZ l2 n=bZ l 0):=aH (by
  rw [hl2];unfold jN;by_cases h0:n=0
  · subst h0;simp
  · rw [if_neg h0,if_pos rfl])
 have hm3:=za w2 lb lo;clear ha2 hp2 hs2 hl2 hg2 HG1 HA1;go_wp2_with fail
 have hlbw:lb < w.heap.size:=World.block_lt_of_cell? w _ HH.out.cell;have hgne:some lb≠some g:=by have:=HA.out.ge;have:=HA.out.lb;simp;omega
 have hz2:w2.frozen? ⟨lb,lo,none⟩=false:=(World.frozen?_of_block (a:=⟨lb,lo,none⟩) (HG2.out.block lb hlbw hgne)).trans HH.out.fz;have ht2:ji w2 lb lo B (.slice (some ⟨g,0,none⟩) (n+1) cap) l2:=HA2.out.wt (w:=w) hz2 (Nat.le_trans HH.out.bs HG2.out.size) (by omega);refine (wI lb lo B _ l2 w2 ht2 (by rw [HA2.out.len];omega)).mono ?_;rintro e w3 ⟨v3,rfl,ht3,hf3⟩;have hl2n:l2.length=n+1:=HA2.out.len;have HR:Hid (yF w lb lo B (.slice (some ⟨g,0,none⟩) (n+1) cap) l n (.returned (.iface 3 (.int .i64 (bZ l 0)))) w3):=aH (by
  rw [show l2.length - 1=n by omega] at ht3;have hk:∀k,k < n→bZ l2 k=bZ (l2.take n) k:=fun k hk=>(wm hk).symm
  refine ⟨v3,l2.take n,rfl,ht3,by rw [List.length_take];omega,HP2.out.congr hk,HS2.out.congr hk,⟨hf3.os.trans HG2.out.os,hf3.tape.trans HG2.out.tape,hf3.output.trans HG2.out.output,Nat.le_trans HG2.out.size hf3.size,hf3.box.trans (CT (HG2.out.block lb hlbw hgne)),fun b hb h1 h2=>(hf3.rest b (Nat.lt_of_lt_of_le hb HG2.out.size) h1 h2).trans (HG2.out.block b hb (fun e=>h2 e.symm)),fun b hb=>?_⟩⟩;rcases hf3.lies b hb with e|e
  · exact .inl e
  · exact .inr (Nat.le_trans HG2.out.size e))
 have HX:Hid (bZ l2 (l2.length - 1)=bZ l 0):=aH (by rw [show l2.length - 1=n by omega];exact HL2.out);clear ht3 hf3 ht2 hz2 hl2n;go_wp2_with fail
 go_ret
 have h5:=HR.out;rw [←HX.out] at h5;exact h5
open Go.RowKit
attribute [local go_sem ↓] Go.wp_at_zero Go.wp_at_succ
def dP(P:Nat→Prop)(w:World)(v:Value)(l:List Int):Prop:=
 ∃ao cap,v=.slice ao l.length cap∧(l.length≤maxLen∧l.length≤cap)∧∀i,i < l.length→∃b off,ao=some ⟨b,off,none⟩∧P b∧w.cell? ⟨b,off+i,none⟩=some (.int .i64 (l.getD i 0))
theorem dP.to{P:Nat→Prop}{w:World}{v:Value}{l:List Int}(h:dP P w v l):aX w v l:=by
 obtain ⟨ao,cap,h1,h2,h3⟩:=h;exact ⟨ao,cap,h1,h2.1,fun i hi=>by obtain ⟨b,off,e1,_,e3⟩:=h3 i hi;exact ⟨b,off,e1,e3⟩⟩
theorem dP.cap{P:Nat→Prop}{w:World}{l:List Int}{ao:Option Addr}{n c:Nat}(h:dP P w (.slice ao n c) l):l.length≤c:=by
 obtain ⟨ao',cap,h1,h2,h3⟩:=h;simp only [Value.slice.injEq] at h1;obtain ⟨_,_,rfl⟩:=h1;exact h2.2
theorem dP.mono{P P':Nat→Prop}{w w':World}{v:Value}{l:List Int}(h:dP P w v l)(g:∀b,P b→b < w.heap.size→w'.heap[b]? =w.heap[b]? ∧P' b):dP P' w' v l:=by
 obtain ⟨ao,cap,h1,h2,h3⟩:=h;refine ⟨ao,cap,h1,h2,fun i hi=>?_⟩;obtain ⟨b,off,e1,e2,e3⟩:=h3 i hi;have hb:=World.block_lt_of_cell? w _ e3;obtain ⟨g1,g2⟩:=g b e2 hb;exact ⟨b,off,e1,g2,(World.cell?_of_block (a:=⟨b,off+i,none⟩) g1).trans e3⟩
theorem ld(P:Nat→Prop)(w:World):dP P w (.slice none 0 0) []:=⟨none,0,rfl,⟨by decide,by decide⟩,fun i h=>by simp at h⟩
def Sb(B:Nat)(vw:Value)(b:Nat):Prop:=B≤b∧¬vw.ownBlock=some b
def yE(v1 v2 v3 v4 v5 vs:Value)(N res:Int)(n:Nat)(vc:Value)(mb:Nat)(vw:Value):Array Value:=#[v1,v2,v3,v4,v5,vs,.int .i64 N,.int .i64 res,.int .i64 (n:Int),vc,.map (some mb),vw]
structure jj(W0 w:World)(lb mb B:Nat)(v1 v2 v3 v4 v5 vs:Value)(sl:List Int)(N:Nat)(res:Int)(n:Nat)(vc vw:Value)(st:Nat→Option (List Int))(dn:Nat→Bool)(m:Nat→Option Value)(l:List Int)(k:Nat):Prop where
 box:w.heap[lb]? =some (.cells (yE v1 v2 v3 v4 v5 vs (N:Int) res n vc mb vw) 76 (0,0))
 row:ce w B vw l
 lbB:lb < B
 bs:B≤w.heap.size
 mp:eX w mb k m
 mbB:mb < B
 mbl:¬mb=lb
 sts:∀j s,st j=some s→∃v,m j=some v∧dP (Sb B vw) w v s
 len:∀j s,st j=some s→s.length≤20
 non:∀j,st j=none→m j=none
 wait:kG N (bZ l) l.length st dn
 bound:k+cV N (fun j=>(st j).isSome)≤N
 small:N≤1000
 wl:l.length≤k
 slt:dP (fun b=>¬b=lb∧¬b=mb∧b < B) w vs sl
 low:Below W0.heap.size W0 w
 w0l:W0.heap.size≤lb
 w0m:W0.heap.size≤mb
structure AR(w w':World)(lb mb:Nat)(vw:Value):Prop where
 size:w.heap.size≤w'.heap.size
 rest:∀b,b < w.heap.size→¬b=lb→¬b=mb→¬vw.ownBlock=some b→w'.heap[b]? =w.heap[b]?
theorem aU{w:World}{b:Nat}{arr:Array Value}{t:TypeId}{o:Nat}{f:Nat×Nat}(h:w.heap[b]? =some (.cells arr t f)):w.cell? ⟨b,o,none⟩=arr[o]? :=by
 simp [World.cell?,h]
theorem bJ{w:World}{b:Nat}{arr:Array Value}{t:TypeId}{o:Nat}(h:w.heap[b]? =some (.cells arr t (0,0))):w.frozen? ⟨b,o,none⟩=false:=by
 simp [World.frozen?,h]
theorem jj.wt{W0 w:World}{lb mb B:Nat}{v1 v2 v3 v4 v5 vs:Value}{sl:List Int}{N:Nat}{res:Int}{n:Nat}{vc vw:Value}{st:Nat→Option (List Int)}{dn:Nat→Bool}{m:Nat→Option Value}{l:List Int}{k:Nat}(h:jj W0 w lb mb B v1 v2 v3 v4 v5 vs sl N res n vc vw st dn m l k):ji w lb 11 B vw l:=
 ⟨by rw [aU h.box];rfl,bJ h.box,h.row,h.lbB,h.bs,by have:=h.wl;have:=h.small;have:=h.bound;omega⟩
theorem jj.gr{W0 w w':World}{lb mb B:Nat}{v1 v2 v3 v4 v5 vs:Value}{sl:List Int}{N:Nat}{res:Int}{n:Nat}{vc vw:Value}{st:Nat→Option (List Int)}{dn:Nat→Bool}{m:Nat→Option Value}{l:List Int}{k:Nat}(h:jj W0 w lb mb B v1 v2 v3 v4 v5 vs sl N res n vc vw st dn m l k)(g:Gr w w'):jj W0 w' lb mb B v1 v2 v3 v4 v5 vs sl N res n vc vw st dn m l k:=by
 have hlb:lb < w.heap.size:=by have:=h.lbB;have:=h.bs;omega
 have hmb:mb < w.heap.size:=h.mp.lt;refine ⟨(g.block lb hlb (by simp)).trans h.box,h.row.keep fun b hb=>g.block b (World.ownsRow.lt h.row b hb).2 (by simp),h.lbB,Nat.le_trans h.bs g.size,h.mp.kept (g.block mb hmb (by simp)),h.mbB,h.mbl,fun j s hs=>?_,h.len,h.non,h.wait,h.bound,h.small,h.wl,h.slt.mono fun b hb hl=>⟨g.block b hl (by simp),hb⟩,h.low.grown g h.low.size (by simp),h.w0l,h.w0m⟩;obtain ⟨v,e1,e2⟩:=h.sts j s hs;exact ⟨v,e1,e2.mono fun b hb hl=>⟨g.block b hl (by simp),hb⟩⟩
theorem my(lb n at_:Nat)(w:World)(hc:w.cell? ⟨lb,8,none⟩=some (.int .i64 (n:Int))):
 Calls Tryz.prog 78 #[.pointer (some ⟨lb,0,none⟩),.int .i64 (at_:Int)] w fun x w'=>x=.returned (.agg #[.int .i64 10,.int .i64 (n:Int),.int .i64 (at_:Int)])∧Gr w w':=by
 have hc1:=(World.grownBy_alloc w (.cells #[.int .i64 0,.int .i64 0,.int .i64 0] 58) none).cell hc (by simp);go_enter Tryz.func78,Tryz.ntmps78
 go_wp2_with fail
 exact bodyPost_ret (v:=.agg #[.int .i64 10,.int .i64 (n:Int),.int .i64 (at_:Int)]) (by simp [results,Tryz.results78,go_sem]) rfl ⟨rfl,(Gr.refl w).alloc _⟩
open Go.RowKit
attribute [local go_sem ↓] Go.wp_at_zero Go.wp_at_succ
theorem Sb.of{B:Nat}{vw vw':Value}{b:Nat}(h:Sb B vw b){w:World}(hl:b < w.heap.size)(g:∀b,vw'.ownBlock=some b→vw.ownBlock=some b∨w.heap.size≤b):Sb B vw' b:=
 ⟨h.1,fun e=>by
  rcases g b e with e2|e2
  · exact h.2 e2
  · omega⟩
def yP(W0 w:World)(lb mb B:Nat)(v1 v2 v3 v4 v5 vs:Value)(sl:List Int)(N:Nat)(res:Int)(n:Nat)(vc vw:Value)(st:Nat→Option (List Int))(dn:Nat→Bool)(t:Nat)(s:List Int)(x:Ending)(w':World):Prop:=
 (∃s0,st t=some s0∧¬s0=s∧x=.panicked (jM 10 n t)∧Below W0.heap.size W0 w')∨
 (x=.returned (.tuple #[])∧∃vw' m' l' k',jj W0 w' lb mb B v1 v2 v3 v4 v5 vs sl N res n vc vw' (fun j=>if j=t then some s else st j) dn m' l' k'∧AR w w' lb mb vw∧(∀b,vw'.ownBlock=some b→vw.ownBlock=some b∨w.heap.size≤b)∧(st t=none∨st t=some s))
theorem kA(W0 w:World)(lb mb B:Nat)(v1 v2 v3 v4 v5 vs:Value)(sl:List Int)(N:Nat)(res:Int)(n:Nat)(vc vw:Value)(st:Nat→Option (List Int))(dn:Nat→Bool)(m:Nat→Option Value)(l:List Int)(k:Nat)(t:Nat)(s:List Int)(v:Value)
 (h:jj W0 w lb mb B v1 v2 v3 v4 v5 vs sl N res n vc vw st dn m l k) (ht:t < N) (hs:dP (Sb B vw) w v s) (hsl:s.length≤20):
 Calls Tryz.prog 48 #[.pointer (some ⟨lb,0,none⟩),.int .i64 (t:Int),v] w (yP W0 w lb mb B v1 v2 v3 v4 v5 vs sl N res n vc vw st dn t s):=by
 have HH:=aH h;have HS:=aH hs;obtain ⟨av,cv,rfl⟩:=hs.to.shape;have hN:=h.small;have hc8:w.cell? ⟨lb,8,none⟩=some (.int .i64 (n:Int)):=by rw [aU h.box];rfl
 have hc10:w.cell? ⟨lb,10,none⟩=some (.map (some mb)):=by rw [aU h.box];rfl
 have hlk:=h.mp.look t (by omega);cases hst:st t with
 | some s0=>
  obtain ⟨v0,hm0,hr0⟩:=h.sts t s0 hst;rw [hm0] at hlk;obtain ⟨a0,c0,rfl⟩:=hr0.to.shape;simp only [Option.getD_some,Option.isSome_some] at hlk;have HR0:=aH hr0.to;have HST:=aH hst;have HWR:=aH (my lb n t w hc8);clear h hs hr0 hst hm0;go_enter Tryz.func48,Tryz.ntmps48
  go_wp2_with fail
  refine HWR.out.mono ?_;rintro x w1 ⟨rfl,hg1⟩;have HG1:=aH hg1;clear hg1 hlk hc8 hc10;go_wp2_with fail
  refine (BQ _ _ s s0 w1 (HS.out.to.gr HG1.out) (HR0.out.gr HG1.out)).mono ?_;rintro x w2 ⟨rfl,hg2⟩;have HG2:=aH (HG1.out.trans hg2);clear hg2;by_cases he:s=s0
  · have hd:decide (s=s0)=true:=by simpa using he
    rw [hd];have HE:=aH he;clear hd he;go_wp2_with fail
    refine (bU _ _ _ _).mono ?_;rintro x w3 ⟨rfl,hg3⟩;have HG3:=aH (HG2.out.trans hg3);clear hg3;go_wp2_with fail
    go_end0
    refine .inr ⟨rfl,vw,m,l,k,?_,⟨HG3.out.size,fun b hb _ _ _=>HG3.out.block b hb (by simp)⟩,fun b hb=>.inl hb,.inr (by rw [HST.out,HE.out])⟩;have e:(fun j=>if j=t then some s else st j)=st:=by
     funext j
     by_cases hj:j=t
     · rw [if_pos hj,hj,HST.out,HE.out]
     · rw [if_neg hj]
    rw [e];exact HH.out.gr HG3.out
  · have hd:decide (s=s0)=false:=by simpa using he
    rw [hd];have HE:=aH he;clear hd he;go_wp2_with fail
    refine (bk _ _ _ _).mono ?_;rintro x w3 ⟨rfl,hg3⟩;have HG3:=aH (HG2.out.trans hg3);clear hg3;exact ⟨rfl,.inl ⟨s0,HST.out,fun e=>HE.out e.symm,rfl,HH.out.low.grown HG3.out HH.out.low.size (by simp)⟩⟩
 | none=>
  rw [h.non t hst] at hlk;simp only [Option.getD_none,Option.isSome_none] at hlk;unfold rW at hlk;obtain ⟨w1,hrun,hm1,hg1⟩:=h.mp.store t (by omega) (by have:=h.bound;omega) (.slice av s.length cv);have HST:=aH hst;have HM1:=aH hm1;have HG1:=aH hg1;have hwt1:ji w1 lb 11 B vw l:=by
   have hw:=h.wt;have hlbw:lb < w.heap.size:=by have:=h.lbB;have:=h.bs;omega
   have hb1:w1.heap[lb]? =w.heap[lb]? :=hg1.block lb hlbw (by have:=h.mbl;simp;omega);exact ⟨(World.cell?_of_block (a:=⟨lb,11,none⟩) hb1).trans hw.cell,(World.frozen?_of_block (a:=⟨lb,11,none⟩) hb1).trans hw.fz,hw.row.keep fun b hb=>hg1.block b (World.ownsRow.lt hw.row b hb).2 (by have:=(World.ownsRow.lt hw.row b hb).1;have:=h.mbB;simp;omega),hw.lb,Nat.le_trans hw.bs hg1.size,hw.small⟩
  have HW1:=aH hwt1;have hln:l.length < 100000:=by have:=h.wl;have:=h.bound;omega
  have HP:=aH (CV lb 11 B vw l (t:Int) w1 hwt1 hln h.wait.hp);clear h hs hst hm1 hg1 hwt1;go_enter Tryz.func48,Tryz.ntmps48
  go_wp2_with fail
  refine HP.out.mono ?_;rintro x w2 ⟨vw',l2,rfl,hwt2,hlen2,hhp2,hsm2,hfr2⟩;have HR:Hid (yP W0 w lb mb B v1 v2 v3 v4 v5 vs sl N res n vc vw st dn t s (.returned (.tuple #[])) w2):=aH (by
   have h:=HH.out;have hg1:=HG1.out;have hsz1:=hg1.size;have hsz2:=hfr2.size;have hlb:=h.lbB;have hbs:=h.bs;have hmb:=h.mbB;have hmbl:=h.mbl;have hbd:=h.bound;have hwl:=h.wl;have hmw:mb < w.heap.size:=h.mp.lt;have hvw:∀b,vw.ownBlock=some b→B≤b∧b < w.heap.size:=fun b hb=>World.ownsRow.lt h.row b hb
   have hb1:w1.heap[lb]? =some (.cells (yE v1 v2 v3 v4 v5 vs (N:Int) res n vc mb vw) 76 (0,0)):=(hg1.block lb (by omega) (by simp;omega)).trans h.box;have hnt:∀b,b < w.heap.size→Sb B vw b→w2.heap[b]? =w.heap[b]? :=fun b hb hs=>(hfr2.rest b (by omega) (by have:=hs.1;omega) hs.2).trans (hg1.block b hb (by have:=hs.1;simp;omega))
   have hmt:∀b,b < w.heap.size→¬b=lb→¬b=mb→¬vw.ownBlock=some b→w2.heap[b]? =w.heap[b]? :=fun b hb e1 e2 e3=>(hfr2.rest b (by omega) e1 e3).trans (hg1.block b hb (by simp;omega))
   have hlies:∀b,vw'.ownBlock=some b→vw.ownBlock=some b∨w.heap.size≤b:=fun b hb=>by
    rcases hfr2.lies b hb with e|e
    · exact .inl e
    · right;omega
   refine .inr ⟨rfl,vw',_,l2,k+1,⟨?_,hwt2.row,hlb,hwt2.bs,HM1.out.kept (hfr2.rest mb (by omega) hmbl (fun e=>by have:=(hvw mb e).1;omega)),hmb,hmbl,fun j s' hj=>?_,fun j s' hj=>?_,fun j hj=>?_,?_,?_,h.small,by omega,h.slt.mono fun b hb hl=>⟨hmt b hl hb.1 hb.2.1 (fun e=>by have:=(hvw b e).1;have:=hb.2.2;omega),hb⟩,?_,h.w0l,h.w0m⟩,⟨by omega,hmt⟩,hlies,.inl HST.out⟩
   · rw [hfr2.box,heap_setCell_same w1 lb 11 _ _ vw' hb1];rfl
   · by_cases e:j=t
     · subst e;rw [if_pos rfl] at hj;obtain rfl:=Option.some.inj hj;exact ⟨_,if_pos rfl,HS.out.mono fun b hb hl=>⟨hnt b hl hb,hb.of hl hlies⟩⟩
     · rw [if_neg e] at hj;obtain ⟨v0,e1,e2⟩:=h.sts j s' hj;exact ⟨v0,by rw [if_neg e];exact e1,e2.mono fun b hb hl=>⟨hnt b hl hb,hb.of hl hlies⟩⟩
   · by_cases e:j=t
     · rw [if_pos e] at hj;obtain rfl:=Option.some.inj hj;exact hsl
     · rw [if_neg e] at hj;exact h.len j s' hj
   · by_cases e:j=t
     · rw [if_pos e] at hj;cases hj
     · rw [if_neg e] at hj ⊢;exact h.non j hj
   · rw [hlen2];exact h.wait.push ht HST.out hhp2 hsm2
   · have e:(fun j=>(if j=t then some s else st j).isSome)=fun j=>decide (j=t) ||(st j).isSome:=by
      funext j
      by_cases hj:j=t<;>simp [hj]
     rw [e];have:=gP N t (fun j=>(st j).isSome) ht (by simp only [HST.out];rfl)
     omega
   · refine ⟨hfr2.os.trans (hg1.os.trans h.low.os),hfr2.tape.trans (hg1.tape.trans h.low.tape),hfr2.output.trans (hg1.output.trans h.low.output),?_,?_⟩
     · have:=h.low.size;omega
     · intro b hb;have:=h.w0l
       have:=h.w0m
       exact (hmt b (by have:=h.low.size;omega) (by omega) (by omega) (fun e=>by have:=(hvw b e).1;omega)).trans (h.low.block b hb))
  clear hwt2 hlen2 hhp2 hsm2 hfr2 hrun hlk;go_wp2_with fail
  go_end0
  exact HR.out
end Go.Proofs.YtkgncijcnlfhiaaGreat
