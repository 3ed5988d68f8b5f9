import Derived.Test.YtkgncijcnlfhiabGreatUc
import Derived.Test.YtkgncijcnlfhiabGreatN1
import Derived.Test.YtkgncijcnlfhiabGreatPb
namespace Go.Proofs.YtkgncijcnlfhiabGreat
set_option linter.unusedVariables false
set_option linter.unusedSimpArgs false
open Go.RowKit
theorem cells5{w:World}{b:Nat}{v0 v1 v2 v3 v4:Value}{t:TypeId}(h:w.heap[b]? =some (.cells #[v0,v1,v2,v3,v4] t (0,0))):w.cell? ⟨b,0,none⟩=some v0/\w.cell? ⟨b,1,none⟩=some v1/\w.cell? ⟨b,2,none⟩=some v2/\w.cell? ⟨b,3,none⟩=some v3/\w.cell? ⟨b,4,none⟩=some v4:=
 ⟨by rw [aJ h];rfl,by rw [aJ h];rfl,by rw [aJ h];rfl,by rw [aJ h];rfl,by rw [aJ h];rfl⟩
structure UE where
 y0:Value
 y1:Value
 y2:Value
 y3:Value
 y4:Value
 u:aK
def zH(e:UE):List Value:= [e.y0,e.y1,e.y2,e.y3,e.y4]
theorem tI(e:UE):(zH e).length=5:=rfl
def kM(X:Option Nat)(w:World)(v:Value)(u:aK):Prop:=∀wq,(∀b (o:Obj),some b≠X->w.heap[b]? =some o->wq.heap[b]? =some o)->cO wq v u
theorem kM.gr{X:Option Nat}{w w':World}{v:Value}{u:aK}(h:kM X w v u)(g:Gr w w'):kM X w' v u:=fun wq hk=>h wq fun b o hb ho=>hk b o hb ((g.block b (Array.getElem?_eq_some_iff.1 ho).1 Q6).trans ho)
theorem kM.app{w w':World}{v v' x:Value}{u:aK}(h:kM v.ownBlock w x u)(g:w.grownBy w' v.ownBlock)(hl:v'.ownBlock=v.ownBlock\/v'.ownBlock=some w.heap.size):kM v'.ownBlock w' x u:=fun wq hk=>h wq fun b o hb ho=>by
 have J0:=(Array.getElem?_eq_some_iff.1 ho).1;refine hk b o ?_ ((g.block b J0 hb).trans ho);rcases hl with e|e
 · rw [e];exact hb
 · rw [e];intro e2;have:=Option.some.inj e2;omega
theorem kM.new{X:Option Nat}{B:Nat}{w:World}{v:Value}{u:aK}(h:dX B w v u)(hX:∀k,X=some k->k < B):kM X w v u:=fun wq hk=>by
 have g:Kp B w wq:=fun k hB P7=>(hk k _ (fun e=>by have:=hX k e.symm;omega) (Array.getElem?_eq_getElem P7)).trans (Array.getElem?_eq_getElem P7).symm
 exact (h.kp g).to
structure UL(V:World)(v9:Value)(es:List UE)(w:World):Prop where
 o:w.ownsRow V.heap.size 29 5 v9 es.length (es.flatMap zH)
 s:∀e∈es,kM v9.ownBlock w (.agg #[e.y0,e.y1,e.y2,e.y3,e.y4]) e.u
 wr:∀e∈es,sS e.u
 gr:Gr V w
theorem UL.mv{V w w':World}{v9:Value}{es:List UE}(h:UL V v9 es w)(g:Gr w w'):UL V v9 es w':=⟨dA h.o g,fun e he=>(h.s e he).gr g,h.wr,h.gr.trans g⟩
theorem Tryz.infUniF:∃z,(Tryz.prog.info? 29).map (fun i=>(i.zero,i.size,i.bytes))=some (some (.agg #[.slice none 0 0,.slice none 0 0,.slice none 0 0,.slice none 0 0,.slice none 0 0]),5,z)/\z<=1000:=⟨120,Q7,by decide⟩
theorem Tryz.uUniF:Tryz.prog.underlying 23=some (.slice 29):=Q7
theorem UL.put{V w:World}{v9 vx:Value}{es:List UE}{e:UE}(h:UL V v9 es w)(hs:kM v9.ownBlock w (.agg #[e.y0,e.y1,e.y2,e.y3,e.y4]) e.u)(hw:sS e.u)(h1:∀y∈zH e,y.oneCell'=true)(hR:rR w vx 1 (zH e))(hn:es.length<=100):
 ∃a c w',(Builtin.append_ #[23,23] 23 #[v9,vx]).run Tryz.prog w=.ok (.slice a (es.length+1) c) w'/\UL V (.slice a (es.length+1) c) (es++ [e]) w':=by
 obtain ⟨z,hz,D5⟩:=Tryz.infUniF;obtain ⟨v',w',hr,ho,hg,hl⟩:=dK (ty:=23) 23 29 _ hz Tryz.uUniF rfl Q9 D5 h.o hR rfl h1 Q5 h.gr.size;obtain ⟨a,c,e1⟩:=aL ho;subst e1;refine ⟨a,c,w',hr,?_,?_,?_,?_⟩
 · rw [List.length_append,List.flatMap_append];simpa using ho
 · intro x hx;rcases List.mem_append.1 hx with hx|hx
   · exact (h.s x hx).app hg hl
   · rw [List.mem_singleton.1 hx];exact hs.app hg hl
 · intro x hx;rcases List.mem_append.1 hx with hx|hx
   · exact h.wr x hx
   · rw [List.mem_singleton.1 hx];exact hw
 · exact ⟨hg.os.trans h.gr.os,hg.tape.trans h.gr.tape,hg.output.trans h.gr.output,Nat.le_trans h.gr.size hg.size,fun i hi hne=>(hg.block i (Nat.lt_of_lt_of_le hi h.gr.size) (fun e=>by have:=(h.o.lt i e.symm).1;omega)).trans (h.gr.block i hi hne)⟩
theorem UL.units{V w:World}{v9:Value}{es:List UE}(h:UL V v9 es w):eS w v9 (es.map (·.u)):=by
 obtain ⟨ao,cap,e⟩:=aL h.o;subst e;refine ⟨ao,cap,Q6,?_,fun i u hu=>?_⟩
 · rw [List.length_map];rcases h.o.2 with ⟨_,h0⟩|⟨g,cp,cur,e,_,_,hn,hm,_⟩
   · omega
   · rw [Value.slice.injEq] at e;omega
 · rw [List.getElem?_map] at hu;cases he:es[i]? with
   | none=>rw [he] at hu;cases hu
   | some x=>
    rw [he] at hu;obtain rfl:=Option.some.inj hu;have hi:=(List.getElem?_eq_some_iff.1 he).1;have hlen:(es.flatMap zH).length=es.length * 5:=lq tI es;have Z0:∀r,r < 5->∃g,ao=some ⟨g,0,none⟩/\w.cell? ⟨g,i * 5+r,none⟩=(zH x)[r]? :=fun r hr=>by
     rcases h.o.2 with ⟨_,h0⟩|⟨g,cp,cur,e,_,hb,hn,hm,R0,Rp⟩
     · omega
     · rw [Value.slice.injEq] at e;refine ⟨g,e.1,?_⟩;rw [aJ hb,<-Array.getElem?_toList];have e1:(cur.toList.take (es.length * 5))[i * 5+r]? =cur.toList[i * 5+r]? :=by
        rw [List.getElem?_take,if_pos Q5]
       rw [<-e1,Rp];exact de tI es i r x he hr
    obtain ⟨g,e0,c0⟩:=Z0 0 Q5;have same:∀r,r < 5->w.cell? ⟨g,i * 5+r,none⟩=(zH x)[r]? :=fun r hr=>by
     obtain ⟨g',e',c'⟩:=Z0 r hr;rw [e0] at e';have:g=g':=by simpa using e'
     rw [this];exact c'
    refine ⟨g,0,x.y0,x.y1,x.y2,x.y3,x.y4,e0,?_,?_,?_,?_,?_,?_⟩
    · rw [Nat.zero_add];exact c0
    · rw [Nat.zero_add];exact same 1 Q5
    · rw [Nat.zero_add];exact same 2 Q5
    · rw [Nat.zero_add];exact same 3 Q5
    · rw [Nat.zero_add];exact same 4 Q5
    · exact h.s x (List.mem_of_getElem? he) w (fun b o _ ho=>ho)
end Go.Proofs.YtkgncijcnlfhiabGreat
