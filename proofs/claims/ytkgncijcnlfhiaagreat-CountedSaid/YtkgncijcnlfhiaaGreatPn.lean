import Derived.Test.YtkgncijcnlfhiaaGreatPm
import Derived.Test.YtkgncijcnlfhiaaGreatNj
namespace Go.Proofs.YtkgncijcnlfhiaaGreat
set_option linter.unusedVariables false
set_option linter.unusedSimpArgs false
open Go.RowKit
structure CW(V:World)(v3 v4 v5:Value)(P:List aw)(S K:List Int)(w:World):Prop where
 c:w.ownsRow V.heap.size 26 3 v3 P.length (P.flatMap cC)
 s:w.ownsRow V.heap.size 3 1 v4 S.length (eh S)
 k:w.ownsRow V.heap.size 3 1 v5 K.length (eh K)
 cs:wv v3 v4
 ck:wv v3 v5
 sk:wv v4 v5
 gr:Gr V w
section
variable {V w w':World} {v v' vy v3 v4 v5 vx:Value} {P:List aw} {S K:List Int}
theorem CW.mv(h:CW V v3 v4 v5 P S K w)(g:Gr w w'):CW V v3 v4 v5 P S K w':=⟨cY h.c g,cY h.s g,cY h.k g,h.cs,h.ck,h.sk,h.gr.trans g⟩
theorem Bi{ob:Option Nat}(g:Gr V w)(h:w.grownBy w' ob)(hb:∀b,ob=some b→V.heap.size≤b):Gr V w':=
 ⟨h.os.trans g.os,h.tape.trans g.tape,h.output.trans g.output,Nat.le_trans g.size h.size,fun i hi hne=>(h.block i (Nat.lt_of_lt_of_le hi g.size) (fun e=>by have:=hb i e.symm;omega)).trans (g.block i hi hne)⟩
theorem BB{B n len:Nat}{e:TypeId}{xs:List Value}(h:w.ownsRow B e n vy len xs)(g:w.grownBy w' v.ownBlock)(ha:wv v vy):w'.ownsRow B e n vy len xs:=
 bX h (fun k hk=>g.block k (h.lt k hk).2 (fun e=>ha k e.symm hk))
theorem wv.sy(h:wv v v'):wv v' v:=fun k h1 h2=>h k h2 h1
theorem BP{B n len:Nat}{e:TypeId}{xs:List Value}(hl:v'.ownBlock=v.ownBlock∨v'.ownBlock=some w.heap.size)(ha:wv v vy)(h:w.ownsRow B e n vy len xs):wv v' vy:=fun k h1 h2=>by
 rcases hl with e|e
 · exact ha k (e▸h1) h2
 · rw [e] at h1;have:=(h.lt k h2).2
   have:=Option.some.inj h1
   omega
theorem CW.putC(h:CW V v3 v4 v5 P S K w){Q:List aw}(hR:qs w vx Q.length (Q.flatMap cC))(hn:P.length+Q.length≤1000):
 ∃v' w',(Builtin.append_ #[23,23] 23 #[v3,vx]).run Tryz.prog w=.ok v' w'∧CW V v' v4 v5 (P++Q) S K w':=by
 obtain ⟨v',w',hr,ho,hg,hl⟩:=dC (ty:=23) 23 26 _ Tryz.infC Tryz.uC rfl (by decide) (by decide) h.c hR (mx iG Q) (zE Q) (by omega) h.gr.size;refine ⟨v',w',hr,?_,BB h.s hg h.cs,BB h.k hg h.ck,BP hl h.cs h.s,BP hl h.ck h.k,h.sk,Bi h.gr hg (fun b hb=>(h.c.lt b hb).1)⟩;rw [List.length_append,List.flatMap_append];exact ho
theorem CW.putK(h:CW V v3 v4 v5 P S K w){x:Int}(hR:qs w vx 1 [.int .i64 x])(hn:K.length≤1000):
 ∃v' w',(Builtin.append_ #[22,22] 22 #[v5,vx]).run Tryz.prog w=.ok v' w'∧CW V v3 v4 v' P S (K++ [x]) w':=by
 obtain ⟨v',w',hr,ho,hg,hl⟩:=dC (ty:=22) 22 3 _ Tryz.infI Tryz.uI rfl (by decide) (by decide) h.k hR rfl (by intro q hq;rw [List.mem_singleton.1 hq];rfl) (by omega) h.gr.size;refine ⟨v',w',hr,BB h.c hg h.ck.sy,BB h.s hg h.sk.sy,?_,h.cs,(BP hl h.ck.sy h.c).sy,(BP hl h.sk.sy h.s).sy,Bi h.gr hg (fun b hb=>(h.k.lt b hb).1)⟩;rw [List.length_append,show eh (K++ [x])=eh K++ [.int .i64 x] by simp [eh]];exact ho
theorem CW.putS(h:CW V v3 v4 v5 P S K w){x:Int}(hR:qs w vx 1 [.int .i64 x])(hn:S.length≤1000):
 ∃v' w',(Builtin.append_ #[22,22] 22 #[v4,vx]).run Tryz.prog w=.ok v' w'∧CW V v3 v' v5 P (S++ [x]) K w':=by
 obtain ⟨v',w',hr,ho,hg,hl⟩:=dC (ty:=22) 22 3 _ Tryz.infI Tryz.uI rfl (by decide) (by decide) h.s hR rfl (by intro q hq;rw [List.mem_singleton.1 hq];rfl) (by omega) h.gr.size;refine ⟨v',w',hr,BB h.c hg h.cs.sy,?_,BB h.k hg h.sk,(BP hl h.cs.sy h.c).sy,h.ck,BP hl h.sk h.k,Bi h.gr hg (fun b hb=>(h.s.lt b hb).1)⟩;rw [List.length_append,show eh (S++ [x])=eh S++ [.int .i64 x] by simp [eh]];exact ho
theorem CW.cut{a:Option Addr}{n m cap:Nat}{T:List Int}(h:CW V v3 (.slice a m cap) v5 P (S++T) K w)(hn:n=S.length)(hT:0 < T.length):CW V v3 (.slice a n cap) v5 P S K w:=by
 refine ⟨h.c,?_,h.k,?_,h.ck,?_,h.gr⟩
 · rcases h.s.2 with ⟨e,h0⟩|⟨g,cp,cur,e,h1,h2,h3,h4,h5,h6⟩
   · rw [List.length_append] at h0;omega
   · rw [Value.slice.injEq] at e;obtain ⟨rfl,e2,rfl⟩:=e;rw [List.length_append] at h3;refine ⟨by simp [eh],.inr ⟨g,cap,cur,by rw [hn],h1,h2,by omega,h4,h5,?_⟩⟩;have e3:eh S=(eh (S++T)).take (S.length * 1):=by simp [eh]
     rw [e3,←h6,List.take_take,List.length_append];congr 1
     omega
 · cases a with
   | none=>exact fun k h1 h2=>by simp [Value.ownBlock] at h2
   | some a=>exact h.cs
 · cases a with
   | none=>exact fun k h1 h2=>by simp [Value.ownBlock] at h1
   | some a=>exact h.sk
end
theorem CU(w:World)(x:Int):qs (w.alloc (.cells #[.int .i64 x] 3)) (.slice (some ⟨w.heap.size,0,none⟩) 1 1) 1 [.int .i64 x]:=eD w #[.int .i64 x] 3 1
theorem Cn(w:World)(o a:Int):qs (w.alloc (.cells #[.int .i64 o,.int .i64 a,.int .i64 0] 26)) (.slice (some ⟨w.heap.size,0,none⟩) 1 1) [o1 o a].length ([o1 o a].flatMap cC):=eD w #[.int .i64 o,.int .i64 a,.int .i64 0] 26 1
def B_(x:Int):Prop:=-9223372036854775808≤x∧x≤9223372036854775807
structure CI(V:World)(N:Nat)(v3 v4 v5:Value)(P:List aw)(S K:List Int)(w:World):Prop where
 lin:BI K P S
 lp:P.length≤N
 lk:K.length≤40
 ls:S.length≤12
 fs:∀x∈S,B_ x
 fk:∀x∈K,B_ x
 cw:CW V v3 v4 v5 P S K w
 s3:∃a c,v3=.slice a P.length c
 s4:∃a c,v4=.slice a S.length c
 s5:∃a c,v5=.slice a K.length c
theorem CI.mk'{V:World}{N:Nat}{v3 v4 v5:Value}{P:List aw}{S K:List Int}{w:World}(lin:BI K P S)(lp:P.length≤N)(lk:K.length≤40)(ls:S.length≤12)(fs:∀x∈S,B_ x)(fk:∀x∈K,B_ x)(cw:CW V v3 v4 v5 P S K w):CI V N v3 v4 v5 P S K w:=
 ⟨lin,lp,lk,ls,fs,fk,cw,aL cw.c,aL cw.s,aL cw.k⟩
theorem CI.mv{V:World}{N:Nat}{v3 v4 v5:Value}{P:List aw}{S K:List Int}{w w':World}(h:CI V N v3 v4 v5 P S K w)(g:Gr w w'):CI V N v3 v4 v5 P S K w':=CI.mk' h.lin h.lp h.lk h.ls h.fs h.fk (h.cw.mv g)
def Cz(w:World)(a b v':Value)(w':World):Prop:=(Builtin.append_ #[22,22] 22 #[a,b]).run Tryz.prog w=.ok v' w'
def C8(w:World)(a b v':Value)(w':World):Prop:=(Builtin.append_ #[23,23] 23 #[a,b]).run Tryz.prog w=.ok v' w'
theorem CI.put{V:World}{N:Nat}{v3 v4 v5:Value}{P:List aw}{S K:List Int}{w:World}(h:CI V N v3 v4 v5 P S K w)(hk:K.length < 40)(hs:S.length < 12)(hN:N≤100){x:Int}(hx:B_ x):∀w1,Gr w w1→∃a3 c3 w2,C8 (w1.alloc (.cells #[.int .i64 0,.int .i64 (K.length:Int),.int .i64 0] 26)) v3 (.slice (some ⟨w1.heap.size,0,none⟩) 1 1) (.slice a3 (P.length+1) c3) w2∧
 ∃a5 c5 w3,Cz (w2.alloc (.cells #[.int .i64 x] 3)) v5 (.slice (some ⟨w2.heap.size,0,none⟩) 1 1) (.slice a5 (K.length+1) c5) w3∧
 ∃a4 c4 w4,Cz (w3.alloc (.cells #[.int .i64 x] 3)) v4 (.slice (some ⟨w3.heap.size,0,none⟩) 1 1) (.slice a4 (S.length+1) c4) w4∧CI V (N+1) (.slice a3 (P.length+1) c3) (.slice a4 (S.length+1) c4) (.slice a5 (K.length+1) c5) (P++ [o1 0 K.length]) (S++ [x]) (K++ [x]) w4∧Gr V w2∧Gr V w3:=by
 intro w1 g;have lp:=h.lp;obtain ⟨v3',w2,hr3,h3⟩:=((h.cw.mv g).mv ((Gr.refl w1).alloc _)).putC (Cn w1 0 K.length) (by show P.length+1≤1000;omega);obtain ⟨v5',w3,hr5,h5⟩:=(h3.mv ((Gr.refl w2).alloc _)).putK (CU w2 x) (by omega);obtain ⟨v4',w4,hr4,h4⟩:=(h5.mv ((Gr.refl w3).alloc _)).putS (CU w3 x) (by omega);obtain ⟨a3,c3,e3⟩:=aL h4.c;obtain ⟨a4,c4,e4⟩:=aL h4.s;obtain ⟨a5,c5,e5⟩:=aL h4.k;rw [List.length_append] at e3 e4 e5;subst e3 e4 e5;refine ⟨a3,c3,w2,hr3,a5,c5,w3,hr5,a4,c4,w4,hr4,CI.mk' ?_ (by simp;omega) (by simp;omega) (by simp;omega) ?_ ?_ h4,h3.gr,h5.gr⟩
 · exact .put K.length (h.lin.more x) (by omega) (by simp)
 · intro y hy;rcases List.mem_append.1 hy with hy|hy
   · exact h.fs y hy
   · rw [List.mem_singleton.1 hy];exact hx
 · intro y hy;rcases List.mem_append.1 hy with hy|hy
   · exact h.fk y hy
   · rw [List.mem_singleton.1 hy];exact hx
theorem Cp{o x y:Int}:B_ (gh o x y):=by
 unfold B_ gh;have ht:∀b,0≤eJ b∧eJ b≤1:=by intro b;cases b<;>decide
 have hw:∀n,-9223372036854775808≤wrap64 n∧wrap64 n≤9223372036854775807:=by intro n;unfold wrap64;omega
 split
 · exact hw _
 · split
   · exact hw _
   · split
     · exact hw _
     · split
       · have:=ht (decide (x < y));omega
       · have:=ht (decide (x=y));omega
theorem CI.two{V:World}{N:Nat}{v3 v5:Value}{a:Option Addr}{m cap:Nat}{P:List aw}{S K:List Int}{x y:Int}{w:World}(h:CI V N v3 (.slice a m cap) v5 P (S++ [x,y]) K w)(hN:N≤100)(o:Int)(h6:6≤o)(h10:o≤10):∀w1,Gr w w1→∃a3 c3 w2,C8 (w1.alloc (.cells #[.int .i64 o,.int .i64 0,.int .i64 0] 26)) v3 (.slice (some ⟨w1.heap.size,0,none⟩) 1 1) (.slice a3 (P.length+1) c3) w2∧CW V (.slice a3 (P.length+1) c3) (.slice a m cap) v5 (P++ [o1 o 0]) (S++ [x,y]) K w2∧
 ∀w3,Gr w2 w3→∃a4 c4 w4,Cz (w3.alloc (.cells #[.int .i64 (gh o x y)] 3)) (.slice a S.length cap) (.slice (some ⟨w3.heap.size,0,none⟩) 1 1) (.slice a4 (S.length+1) c4) w4∧CI V (N+1) (.slice a3 (P.length+1) c3) (.slice a4 (S.length+1) c4) v5 (P++ [o1 o 0]) (S++ [gh o x y]) K w4:=by
 intro w1 g;have lp:=h.lp;have ls:=h.ls;rw [List.length_append] at ls;obtain ⟨v3',w2,hr3,h3⟩:=((h.cw.mv g).mv ((Gr.refl w1).alloc _)).putC (Cn w1 o 0) (by show P.length+1≤1000;omega);obtain ⟨a3,c3,e3⟩:=aL h3.c;rw [List.length_append] at e3;subst e3;refine ⟨a3,c3,w2,hr3,h3,fun w3 g3=>?_⟩;obtain ⟨v4',w4,hr4,h4⟩:=((h3.cut (n:=S.length) rfl (by simp)).mv (g3.alloc _)).putS (CU w3 (gh o x y)) (by omega);obtain ⟨a4,c4,e4⟩:=aL h4.s;rw [List.length_append] at e4;subst e4;refine ⟨a4,c4,w4,hr4,CI.mk' (.two o h.lin h6 h10) (by simp;omega) h.lk (by simp at ls ⊢;omega) ?_ h.fk h4⟩;intro z hz;rcases List.mem_append.1 hz with hz|hz
 · exact h.fs z (List.mem_append_left _ hz)
 · rw [List.mem_singleton.1 hz];exact Cp
end Go.Proofs.YtkgncijcnlfhiaaGreat
