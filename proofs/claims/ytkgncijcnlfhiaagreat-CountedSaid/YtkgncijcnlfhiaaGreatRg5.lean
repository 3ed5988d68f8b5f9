import Derived.Test.YtkgncijcnlfhiaaGreatMe
import Derived.Test.YtkgncijcnlfhiaaGreatMj
import Derived.Test.YtkgncijcnlfhiaaGreatNl
namespace Go.Proofs.YtkgncijcnlfhiaaGreat
set_option linter.unusedVariables false
set_option linter.unusedSimpArgs false
open Go.RowKit
inductive bC where
 | no|mach|frs|tol
 | fb (i:Nat)|fsl (i:Nat)|fst (i:Nat)|bb (j:Nat)|bf (j:Nat)
def de(nm:Nat→Nat)(b:Option Nat):Option Addr:=b.map fun j=>⟨nm j,0,none⟩
def dV(nm:Nat→Nat):List PV→List Value
 | []=> []
 | v :: l=>.int .i64 v.num :: .pointer (de nm v.blk) :: dV nm l
theorem lz(nm:Nat→Nat):∀l,(dV nm l).length=l.length * 2
 | []=>rfl
 | v :: l=>by simp only [dV,List.length_cons,lz nm l];omega
theorem ip(nm:Nat→Nat):∀a b,dV nm (a++b)=dV nm a++dV nm b
 | [],b=>rfl
 | v :: a,b=>by simp only [List.cons_append,dV,ip nm a b]
theorem py(nm:Nat→Nat):∀l,∀u∈dV nm l,u.oneCell'=true
 | [],u,h=>by cases h
 | v :: l,u,h=>by
  simp only [dV,List.mem_cons] at h;rcases h with rfl|rfl|h
  · rfl
  · rfl
  · exact py nm l u h
theorem jz(nm:Nat→Nat):∀(l:List PV) (j:Nat) (v:PV),l[j]? =some v→(dV nm l)[j * 2]? =some (.int .i64 v.num)∧(dV nm l)[j * 2+1]? =some (.pointer (de nm v.blk))
 | [],j,v,h=>by simp at h
 | x :: l,0,v,h=>by cases h;exact ⟨rfl,rfl⟩
 | x :: l,j+1,v,h=>by
  have:=jz nm l j v h
  rw [show (j+1) * 2=j * 2+2 by omega];exact this
theorem mK(nm:Nat→Nat):∀(l:List PV) (j:Nat) (v:PV),((dV nm l).set (j * 2) (.int .i64 v.num)).set (j * 2+1) (.pointer (de nm v.blk))=dV nm (l.set j v)
 | [],j,v=>rfl
 | x :: l,0,v=>rfl
 | x :: l,j+1,v=>by
  have:=mK nm l j v
  rw [show (j+1) * 2=j * 2+2 by omega,show j * 2+2+1=(j * 2+1)+2 by omega];simp only [dV,List.set_cons_succ];rw [this]
theorem vH(nm:Nat→Nat):∀k,zV k=dV nm (fS k)
 | 0=>rfl
 | k+1=>by
  have:=vH nm k
  unfold fS at this ⊢;rw [List.replicate_succ];simp only [zV,dV,this];rfl
def Bd(n:Nat)(l:List PV):Prop:=∀v∈l,∀j,v.blk=some j→j < n
theorem gD{nm nm':Nat→Nat}{n:Nat}(h:∀j,j < n→nm' j=nm j):∀l,Bd n l→dV nm' l=dV nm l
 | [],_=>rfl
 | v :: l,hb=>by
  have e:de nm' v.blk=de nm v.blk:=by
   cases hv:v.blk with
   | none=>rfl
   | some j=>simp only [de,Option.map_some];rw [h j (hb v List.mem_cons_self j hv)]
  simp only [dV,e,gD h l (fun x hx=>hb x (List.mem_cons_of_mem _ hx))]
theorem e_.bd{σ ks:List Int}{l:List PV}(h:e_ σ ks l):Bd σ.length l:=fun v hv j hj=>by
 obtain ⟨i,hi,e⟩:=List.getElem_of_mem hv;have hk:i < ks.length:=h.1▸hi;have:=h.2 i _ v (List.getElem?_eq_getElem hk) (by rw [List.getElem?_eq_getElem hi,e])
 exact (List.getElem?_eq_some_iff.1 (this j hj).2).1
def kM(fbn:Nat→Nat)(n:Nat):List Value:=(List.range n).map fun i=>.pointer (some ⟨fbn i,0,none⟩)
theorem nA(fbn:Nat→Nat)(n:Nat):kM fbn (n+1)=kM fbn n++ [.pointer (some ⟨fbn n,0,none⟩)]:=by simp [kM,List.range_succ]
theorem sE(fbn:Nat→Nat){n i:Nat}(h:i < n):(kM fbn n)[i]? =some (.pointer (some ⟨fbn i,0,none⟩)):=by
 simp [kM,h]
theorem qS{fbn fbn':Nat→Nat}{n:Nat}(h:∀i,i < n→fbn' i=fbn i):kM fbn' n=kM fbn n:=
 List.map_congr_left fun i hi=>by rw [h i (List.mem_range.1 hi)]
structure MC where
 V:World
 u:aK
 v1:Value
 v2:Value
 v3:Value
 v4:Value
 v5:Value
 mb:Nat
 heap:Nat
structure j7(C:MC)(w:World)(ρ:Nat→bC)(nm:Nat→Nat)(i fb:Nat)(x:dA)(vc vs vk:Value)(f:aO):Prop where
 func:C.u.aE[x.fn]? =some f
 code:dM C.V vc f.code
 box:kd w fb vc (x.pos:Int) vs vk
 sl:w.ownsRow 0 183 2 vs x.slots.length (dV nm x.slots)
 st:w.ownsRow 0 183 2 vk x.stack.length (dV nm x.stack)
 rb:ρ fb=.fb i
 rsl:∀b,vs.ownBlock=some b→ρ b=.fsl i
 rst:∀b,vk.ownBlock=some b→ρ b=.fst i
def Ai(C:MC)(w:World)(ρ:Nat→bC)(nm fbn:Nat→Nat)(i:Nat)(x:dA):Prop:=∃vc vs vk f,j7 C w ρ nm i (fbn i) x vc vs vk f
def kX(C:MC)(w:World)(ρ:Nat→bC)(nm fbn:Nat→Nat):List dA→Prop
 | []=>True
 | x :: l=>Ai C w ρ nm fbn l.length x∧kX C w ρ nm fbn l
structure mW(w:World)(ρ:Nat→bC)(nm:Nat→Nat)(j:Nat)(c:Int)(fs:List PV)(vf:Value):Prop where
 box:w.heap[nm j]? =some (.cells #[vf,.int .i64 c] 224 (0,0))
 fl:w.ownsRow 0 183 2 vf fs.length (dV nm fs)
 rb:ρ (nm j)=.bb j
 rf:∀b,vf.ownBlock=some b→ρ b=.bf j
def A2(w:World)(ρ:Nat→bC)(nm:Nat→Nat)(j:Nat)(c:Int)(fs:List PV):Prop:=∃vf,mW w ρ nm j c fs vf
structure wu(C:MC)(w:World)(ρ:Nat→bC)(fbn:Nat→Nat)(n:Nat)(tk ct:Int)(told:List Int)(vf vt:Value):Prop where
 box:nW w C.mb C.v1 C.v2 C.v3 C.v4 C.v5 vf (C.heap:Int) tk ct vt
 fr:w.ownsRow 0 122 1 vf n (kM fbn n)
 tl:w.ownsRow 0 3 1 vt told.length (eh told)
 rm:ρ C.mb=.mach
 rf:∀b,vf.ownBlock=some b→ρ b=.frs
 rt:∀b,vt.ownBlock=some b→ρ b=.tol
structure MW(C:MC)(w:World)(ρ:Nat→bC)(nm fbn:Nat→Nat)(cs:Nat→Int)(ct:Int)(L:List dA)(bs:List (List PV))(tk:Nat)(told:List Int):Prop where
 gr:Gr C.V w
 lo:∀b,ρ b≠.no→C.V.heap.size≤b∧b < w.heap.size
 mb:∃vf vt,wu C w ρ fbn L.length (tk:Int) ct told vf vt
 frs:kX C w ρ nm fbn L
 blks:∀(j:Nat) (fs:List PV),bs[j]? =some fs→A2 w ρ nm j (cs j) fs∧0≤cs j∧cs j≤ct
def f8(S:bC→Prop)(w w':World)(ρ ρ':Nat→bC):Prop:=∀b,b < w.heap.size→S (ρ b)→w'.heap[b]? =w.heap[b]? ∧ρ' b=ρ b
structure an(w w':World)(ρ ρ':Nat→bC):Prop where
 os:w'.os=w.os
 tape:w'.tape=w.tape
 output:w'.output=w.output
 size:w.heap.size≤w'.heap.size
 role:∀b,b < w.heap.size→ρ' b=ρ b
 keep:∀b,b < w.heap.size→ρ b=.no→w'.heap[b]? =w.heap[b]?
theorem an.refl(w:World)(ρ:Nat→bC):an w w ρ ρ:=⟨rfl,rfl,rfl,Nat.le_refl _,fun _ _=>rfl,fun _ _ _=>rfl⟩
theorem an.trans{a b c:World}{ρ ρ' ρ'':Nat→bC}(h:an a b ρ ρ')(k:an b c ρ' ρ''):an a c ρ ρ'':=
 ⟨k.os.trans h.os,k.tape.trans h.tape,k.output.trans h.output,Nat.le_trans h.size k.size,fun i hi=>(k.role i (Nat.lt_of_lt_of_le hi h.size)).trans (h.role i hi),fun i hi e=>(k.keep i (Nat.lt_of_lt_of_le hi h.size) ((h.role i hi).trans e)).trans (h.keep i hi e)⟩
theorem an.of_gr{w w':World}{ρ:Nat→bC}(g:Gr w w'):an w w' ρ ρ:=⟨g.os,g.tape,g.output,g.size,fun _ _=>rfl,fun i hi _=>g.block i hi (by simp)⟩
theorem an.gr{V w w':World}{ρ ρ':Nat→bC}(k:an w w' ρ ρ')(g:Gr V w)(lo:∀b,ρ b≠.no→V.heap.size≤b∧b < w.heap.size):Gr V w':=
 ⟨k.os.trans g.os,k.tape.trans g.tape,k.output.trans g.output,Nat.le_trans g.size k.size,fun i hi hne=>(k.keep i (Nat.lt_of_lt_of_le hi g.size) (Classical.byContradiction fun e=>by have:=(lo i e).1;omega)).trans (g.block i hi hne)⟩
theorem dZ{S:bC→Prop}{w w':World}{ρ ρ':Nat→bC}{r:bC}{B:Nat}{e:TypeId}{n len:Nat}{v:Value}{xs:List Value}(h:w.ownsRow B e n v len xs)(hr:∀b,v.ownBlock=some b→ρ b=r)(s:f8 S w w' ρ ρ')(hS:S r):w'.ownsRow B e n v len xs∧∀b,v.ownBlock=some b→ρ' b=r:=
 ⟨bX h fun k hk=>(s k (h.lt k hk).2 (by rw [hr k hk];exact hS)).1,fun b hb=>by rw [(s b (h.lt b hb).2 (by rw [hr b hb];exact hS)).2];exact hr b hb⟩
theorem j7.lt{C:MC}{w:World}{ρ:Nat→bC}{nm:Nat→Nat}{i fb:Nat}{x:dA}{vc vs vk:Value}{f:aO}(h:j7 C w ρ nm i fb x vc vs vk f):fb < w.heap.size:=(Array.getElem?_eq_some_iff.1 h.box).1
theorem j7.mv{S:bC→Prop}{C:MC}{w w':World}{ρ ρ':Nat→bC}{nm:Nat→Nat}{i fb:Nat}{x:dA}{vc vs vk:Value}{f:aO}(h:j7 C w ρ nm i fb x vc vs vk f)(s:f8 S w w' ρ ρ')(h1:S (.fb i))(h2:S (.fsl i))(h3:S (.fst i)):j7 C w' ρ' nm i fb x vc vs vk f:=by
 have hb:=s fb h.lt (by rw [h.rb];exact h1);obtain ⟨a1,a2⟩:=dZ h.sl h.rsl s h2;obtain ⟨b1,b2⟩:=dZ h.st h.rst s h3;exact ⟨h.func,h.code,hb.1.trans h.box,a1,b1,hb.2.trans h.rb,a2,b2⟩
theorem kX.mv{S:bC→Prop}{C:MC}{w w':World}{ρ ρ':Nat→bC}{nm fbn fbn':Nat→Nat}(s:f8 S w w' ρ ρ'):∀{L:List dA},kX C w ρ nm fbn L→(∀i,i < L.length→S (.fb i)∧S (.fsl i)∧S (.fst i)∧fbn' i=fbn i)→kX C w' ρ' nm fbn' L
 | [],_,_=>trivial
 | x :: l,h,hS=>by
  obtain ⟨vc,vs,vk,f,h0⟩:=h.1;obtain ⟨s1,s2,s3,s4⟩:=hS l.length (by simp);refine ⟨⟨vc,vs,vk,f,?_⟩,kX.mv s h.2 fun i hi=>hS i (by simp;omega)⟩;rw [s4];exact h0.mv s s1 s2 s3
theorem mW.lt{w:World}{ρ:Nat→bC}{nm:Nat→Nat}{j:Nat}{c:Int}{fs:List PV}{vf:Value}(h:mW w ρ nm j c fs vf):nm j < w.heap.size:=(Array.getElem?_eq_some_iff.1 h.box).1
theorem mW.mv{S:bC→Prop}{w w':World}{ρ ρ':Nat→bC}{nm:Nat→Nat}{j:Nat}{c:Int}{fs:List PV}{vf:Value}(h:mW w ρ nm j c fs vf)(s:f8 S w w' ρ ρ')(h1:S (.bb j))(h2:S (.bf j)):mW w' ρ' nm j c fs vf:=by
 have hb:=s (nm j) h.lt (by rw [h.rb];exact h1);obtain ⟨a1,a2⟩:=dZ h.fl h.rf s h2;exact ⟨hb.1.trans h.box,a1,hb.2.trans h.rb,a2⟩
theorem wu.lt{C:MC}{w:World}{ρ:Nat→bC}{fbn:Nat→Nat}{n:Nat}{tk ct:Int}{told:List Int}{vf vt:Value}(h:wu C w ρ fbn n tk ct told vf vt):C.mb < w.heap.size:=(Array.getElem?_eq_some_iff.1 h.box).1
theorem wu.mv{S:bC→Prop}{C:MC}{w w':World}{ρ ρ':Nat→bC}{fbn:Nat→Nat}{n:Nat}{tk ct:Int}{told:List Int}{vf vt:Value}(h:wu C w ρ fbn n tk ct told vf vt)(s:f8 S w w' ρ ρ')(h1:S .mach)(h2:S .frs)(h3:S .tol):wu C w' ρ' fbn n tk ct told vf vt:=by
 have hb:=s C.mb h.lt (by rw [h.rm];exact h1);obtain ⟨a1,a2⟩:=dZ h.fr h.rf s h2;obtain ⟨b1,b2⟩:=dZ h.tl h.rt s h3;exact ⟨hb.1.trans h.box,a1,b1,hb.2.trans h.rm,a2,b2⟩
def upd(ρ:Nat→bC)(v:Value)(r:bC):Nat→bC:=fun b=>if v.ownBlock=some b then r else ρ b
theorem mB{ρ:Nat→bC}{v:Value}{r:bC}(h:∀b,v.ownBlock=some b→ρ b=r):upd ρ v r=ρ:=by
 funext b
 unfold upd;split
 · rename_i e;exact (h b e).symm
 · rfl
theorem v_{ρ:Nat→bC}{v:Value}{r:bC}{b:Nat}(h:v.ownBlock=some b):upd ρ v r b=r:=if_pos h
theorem u_{ρ:Nat→bC}{v:Value}{r:bC}{b:Nat}(h:¬v.ownBlock=some b):upd ρ v r b=ρ b:=if_neg h
section
variable {C:MC} {w w':World} {ρ:Nat→bC} {nm fbn:Nat→Nat} {cs:Nat→Int} {ct:Int} {L:List dA} {bs:List (List PV)} {tk:Nat} {told:List Int}
theorem MW.other(h:MW C w ρ nm fbn cs ct L bs tk told)(ho:w'.os=w.os)(ht:w'.tape=w.tape)(hu:w'.output=w.output)(hs:w.heap.size≤w'.heap.size)(hb:∀b,b < w.heap.size→ρ b≠.no∨b < C.V.heap.size→w'.heap[b]? =w.heap[b]?):MW C w' ρ nm fbn cs ct L bs tk told:=by
 have s:f8 (fun r=>r≠.no) w w' ρ ρ:=fun b hl hr=>⟨hb b hl (.inl hr),rfl⟩
 obtain ⟨vf,vt,hm⟩:=h.mb;refine ⟨⟨ho.trans h.gr.os,ht.trans h.gr.tape,hu.trans h.gr.output,Nat.le_trans h.gr.size hs,fun i hi hne=>(hb i (Nat.lt_of_lt_of_le hi h.gr.size) (.inr hi)).trans (h.gr.block i hi hne)⟩,fun b hr=>⟨(h.lo b hr).1,Nat.lt_of_lt_of_le (h.lo b hr).2 hs⟩,⟨vf,vt,hm.mv s nofun nofun nofun⟩,h.frs.mv s fun i _=>⟨nofun,nofun,nofun,rfl⟩,fun j fs hj=>?_⟩;obtain ⟨⟨v,hB⟩,hc⟩:=h.blks j fs hj;exact ⟨⟨v,hB.mv s nofun nofun⟩,hc⟩
theorem MW.of_gr(h:MW C w ρ nm fbn cs ct L bs tk told)(g:Gr w w'):MW C w' ρ nm fbn cs ct L bs tk told:=h.other g.os g.tape g.output g.size fun b hb _=>g.block b hb (by simp)
theorem MW.new_no(h:MW C w ρ nm fbn cs ct L bs tk told){b:Nat}(hb:w.heap.size≤b):ρ b=.no:=Classical.byContradiction fun e=>by have:=(h.lo b e).2;omega
theorem MW.top_upd{x x':dA}{vc vs vk vk':Value}{f:aO}(h:MW C w ρ nm fbn cs ct (x :: L) bs tk told)(ht:j7 C w ρ nm L.length (fbn L.length) x vc vs vk f)(hfn:x'.fn=x.fn)(hF:kd w' (fbn L.length) vc (x'.pos:Int) vs vk')(hs:w'.ownsRow 0 183 2 vs x'.slots.length (dV nm x'.slots))(hk:w'.ownsRow 0 183 2 vk' x'.stack.length (dV nm x'.stack))
 (hob:vk'.ownBlock=vk.ownBlock∨∃k,vk'.ownBlock=some k∧w.heap.size≤k) (hos:w'.os=w.os) (htp:w'.tape=w.tape) (hou:w'.output=w.output) (hsz:w.heap.size≤w'.heap.size) (hblk:∀b,b < w.heap.size→ρ b≠.fb L.length→ρ b≠.fsl L.length→ρ b≠.fst L.length→w'.heap[b]? =w.heap[b]?):
 MW C w' (upd ρ vk' (.fst L.length)) nm fbn cs ct (x' :: L) bs tk told∧an w w' ρ (upd ρ vk' (.fst L.length)):=by
 have hr:∀b,b < w.heap.size→upd ρ vk' (.fst L.length) b=ρ b:=fun b hb=>by
  unfold upd;split
  · rename_i e
    rcases hob with h1|⟨k,h1,h2⟩
    · exact (ht.rst b (h1▸e)).symm
    · rw [h1] at e;cases e;omega
  · rfl
 have s:f8 (fun r=>r≠.fb L.length∧r≠.fsl L.length∧r≠.fst L.length) w w' ρ (upd ρ vk' (.fst L.length)):=fun b hb hS=>⟨hblk b hb hS.1 hS.2.1 hS.2.2,hr b hb⟩
 have K:an w w' ρ (upd ρ vk' (.fst L.length)):=⟨hos,htp,hou,hsz,hr,fun b hb e=>hblk b hb (by rw [e];nofun) (by rw [e];nofun) (by rw [e];nofun)⟩;obtain ⟨vf,vt,hm⟩:=h.mb;refine ⟨⟨K.gr h.gr h.lo,fun b hb=>?_,⟨vf,vt,hm.mv s ⟨nofun,nofun,nofun⟩ ⟨nofun,nofun,nofun⟩ ⟨nofun,nofun,nofun⟩⟩,⟨⟨vc,vs,vk',f,?_⟩,h.frs.2.mv s fun i hi=>⟨⟨by simp;omega,nofun,nofun⟩,⟨nofun,by simp;omega,nofun⟩,⟨nofun,nofun,by simp;omega⟩,rfl⟩⟩,fun j fs hj=>?_⟩,K⟩
 · by_cases e:vk'.ownBlock=some b
   · have hl:=(hk.lt b e).2;rcases hob with h1|⟨k,h1,h2⟩
     · exact ⟨(h.lo b (by rw [ht.rst b (h1▸e)];nofun)).1,hl⟩
     · rw [h1] at e;cases e;have:=h.gr.size;exact ⟨by omega,hl⟩
   · rw [u_ e] at hb;have:=h.lo b hb
     exact ⟨this.1,by omega⟩
 · refine ⟨by rw [hfn];exact ht.func,ht.code,hF,hs,hk,?_,fun b hb=>?_,fun b hb=>v_ hb⟩
   · rw [hr _ ht.lt];exact ht.rb
   · rw [hr b (ht.sl.lt b hb).2];exact ht.rsl b hb
 · obtain ⟨⟨v,hB⟩,hc⟩:=h.blks j fs hj;exact ⟨⟨v,hB.mv s ⟨nofun,nofun,nofun⟩ ⟨nofun,nofun,nofun⟩⟩,hc⟩
end
def qJ(C:MC)(w:World)(ρ:Nat→bC)(nm fbn:Nat→Nat)(cs:Nat→Int)(ct:Int)(L:List dA)(bs:List (List PV))(tk:Nat)(told:List Int)(w':World):Prop:=∃ρ',MW C w' ρ' nm fbn cs ct L bs tk told∧an w w' ρ ρ'
def dA.st(x:dA)(s:List PV):dA:=⟨x.fn,x.pos,x.slots,s⟩
def dA.go(x:dA)(p:Nat):dA:=⟨x.fn,p,x.slots,x.stack⟩
section
variable {C:MC} {w w':World} {ρ:Nat→bC} {nm fbn:Nat→Nat} {cs:Nat→Int} {ct:Int} {L:List dA} {bs:List (List PV)} {tk:Nat} {told:List Int}
theorem j7.ne_st{i fb:Nat}{x:dA}{vc vs vk:Value}{f:aO}(h:j7 C w ρ nm i fb x vc vs vk f):¬vk.ownBlock=some fb:=fun e=>by have:=h.rst fb e;rw [h.rb] at this;cases this
theorem j7.ne_sl{i fb:Nat}{x:dA}{vc vs vk:Value}{f:aO}(h:j7 C w ρ nm i fb x vc vs vk f):¬vs.ownBlock=some fb:=fun e=>by have:=h.rsl fb e;rw [h.rb] at this;cases this
theorem j7.ne_ss{i fb:Nat}{x:dA}{vc vs vk:Value}{f:aO}(h:j7 C w ρ nm i fb x vc vs vk f){b:Nat}(h1:vs.ownBlock=some b)(h2:vk.ownBlock=some b):False:=by have:=h.rsl b h1;rw [h.rst b h2] at this;cases this
theorem fF{x:dA}(v:PV)(h:MW C w ρ nm fbn cs ct (x :: L) bs tk told)(hn:x.stack.length≤1000):
 Calls Tryz.prog 103 #[.pointer (some ⟨fbn L.length,0,none⟩),.agg #[.int .i64 v.num,.pointer (de nm v.blk)]] w fun e w'=>e=.returned (.tuple #[])∧qJ C w ρ nm fbn cs ct (x.st (x.stack++ [v]) :: L) bs tk told w':=by
 obtain ⟨vc,vs,vk,f,ht⟩:=h.frs.1;refine (wT w _ vc _ vs vk _ _ v.num (de nm v.blk) ht.box ht.st ht.ne_st (by omega)).mono ?_;rintro e w' ⟨vk',rfl,hF,ho,hob,T⟩;have hu:=h.top_upd (w':=w') (x':=x.st (x.stack++ [v])) (vk':=vk') ht rfl hF (bX ht.sl fun k hk=>T.blk k (ht.sl.lt k hk).2 (fun e=>ht.ne_sl (e▸hk)) (fun e=>ht.ne_ss hk e)) (by
  show w'.ownsRow 0 _ 2 vk' (x.stack++ [v]).length (dV nm (x.stack++ [v]))
  rw [ip,List.length_append];exact ho) hob T.os T.tape T.output T.size (fun b hb h1 _ h3=>T.blk b hb (fun e=>h1 (e▸ht.rb)) (fun e=>h3 (ht.rst b e)))
 exact ⟨rfl,_,hu.1,hu.2⟩
theorem eU{x:dA}{s:List PV}{v:PV}(h:MW C w ρ nm fbn cs ct (x :: L) bs tk told)(hx:x.stack=s++ [v])(hn:x.stack.length≤1000):
 Calls Tryz.prog 100 #[.pointer (some ⟨fbn L.length,0,none⟩)] w fun e w'=>e=.returned (.agg #[.int .i64 v.num,.pointer (de nm v.blk)])∧qJ C w ρ nm fbn cs ct (x.st s :: L) bs tk told w':=by
 obtain ⟨vc,vs,vk,f,ht⟩:=h.frs.1;have ho:=ht.st;have hB:=ht.box;have hne:=ht.ne_st;have hro:=ht.rst;rw [hx,List.length_append,ip] at ho;obtain ⟨g,cap,rfl⟩:∃g cap,vk=.slice (some ⟨g,0,none⟩) (s.length+1) cap:=by
  rcases ho.2 with ⟨_,h⟩|⟨g,cap,cur,e,_⟩
  · simp at h
  · exact ⟨g,cap,e⟩
 rw [hx,List.length_append] at hn;simp at hn
 refine (xk w _ vc _ vs g s.length cap (dV nm s) v.num (de nm v.blk) hB ho (lz _ _) (fun e=>hne (by rw [←e];rfl)) (by omega)).mono ?_;rintro e w' ⟨rfl,hF,ho',T⟩;have hu:=h.top_upd (w':=w') (x':=x.st s) (vk':=.slice (some ⟨g,0,none⟩) s.length cap) ht rfl hF (bX ht.sl fun k hk=>T.blk k (ht.sl.lt k hk).2 (fun e=>ht.ne_sl (e▸hk)) nofun) ho' (.inl rfl) T.os T.tape T.output T.size (fun b hb h1 _ h3=>T.blk b hb (fun e=>h1 (e▸ht.rb)) nofun);exact ⟨rfl,_,hu.1,hu.2⟩
theorem pQ{x:dA}{a b:List PV}(h:MW C w ρ nm fbn cs ct (x :: L) bs tk told)(hx:x.stack=a++b)(hn:x.stack.length≤1000):
 Calls Tryz.prog 101 #[.pointer (some ⟨fbn L.length,0,none⟩),.int .i64 (b.length:Int)] w fun e w'=>∃v,e=.returned v∧w'.ownsRow w.heap.size 183 2 v b.length (dV nm b)∧MW C w' ρ nm fbn cs ct (x.st a :: L) bs tk told∧an w w' ρ ρ:=by
 obtain ⟨vc,vs,vk,f,ht⟩:=h.frs.1;have ho:=ht.st;rw [hx,List.length_append,ip] at ho;rw [hx,List.length_append] at hn;refine (tH w _ vc _ vs vk a.length b.length (dV nm a) (dV nm b) ht.box ho (lz _ _) (py _ _) ht.ne_st (by omega)).mono ?_;rintro e w' ⟨v,vk',rfl,hv,hF,ho',hob,T⟩;have hu:=h.top_upd (w':=w') (x':=x.st a) (vk':=vk') ht rfl hF (bX ht.sl fun k hk=>T.blk k (ht.sl.lt k hk).2 (fun e=>ht.ne_sl (e▸hk)) nofun) ho' (.inl hob) T.os T.tape T.output T.size (fun b hb h1 _ h3=>T.blk b hb (fun e=>h1 (e▸ht.rb)) nofun);rw [mB (fun b hb=>ht.rst b (hob▸hb))] at hu;exact ⟨v,rfl,hv,hu.1,hu.2⟩
theorem MW.setPos{x:dA}(p:Nat)(h:MW C w ρ nm fbn cs ct (x :: L) bs tk told):MW C (w.setCell ⟨fbn L.length,1,none⟩ (.int .i64 (p:Int))) ρ nm fbn cs ct (x.go p :: L) bs tk told∧an w (w.setCell ⟨fbn L.length,1,none⟩ (.int .i64 (p:Int))) ρ ρ:=by
 obtain ⟨vc,vs,vk,f,ht⟩:=h.frs.1;have hu:=h.top_upd (w':=w.setCell ⟨fbn L.length,1,none⟩ (.int .i64 (p:Int))) (x':=x.go p) (vk':=vk) ht rfl ((heap_setCell_same w _ 1 _ _ _ ht.box).trans (by simp [dA.go])) (bX ht.sl fun k hk=>Below.heap_setCell _ _ _ _ (by show k≠fbn L.length;exact fun e=>ht.ne_sl (e▸hk))) (bX ht.st fun k hk=>Below.heap_setCell _ _ _ _ (by show k≠fbn L.length;exact fun e=>ht.ne_st (e▸hk))) (.inl rfl) rfl rfl rfl (by simp) (fun b hb h1 _ _=>Below.heap_setCell _ _ _ _ (by show b≠fbn L.length;exact fun e=>h1 (e▸ht.rb)));rw [mB ht.rst] at hu;exact hu
end
theorem oh{w:World}{B g n cap:Nat}{e:TypeId}{xs:List Value}(h:w.ownsRow B e 2 (.slice (some ⟨g,0,none⟩) n cap) n xs)(j:Nat)(p q:Value):((w.setCell ⟨g,j * 2,none⟩ p).setCell ⟨g,j * 2+1,none⟩ q).ownsRow B e 2 (.slice (some ⟨g,0,none⟩) n cap) n ((xs.set (j * 2) p).set (j * 2+1) q):=by
 obtain ⟨h1,h2⟩:=h;refine ⟨by simpa using h1,.inr ?_⟩;rcases h2 with ⟨h,_⟩|⟨g',cap',cur,he,a1,a2,a3,a4,a5,a6⟩
 · cases h
 · cases he
   refine ⟨g,cap,_,rfl,a1,heap_setCell_same _ g _ _ _ _ (heap_setCell_same w g _ _ _ _ a2),a3,a4,by simpa using a5,?_⟩;rw [←a6];simp [List.take_set]
open Go.RowKit
section
variable {C:MC} {w w':World} {ρ:Nat→bC} {nm fbn:Nat→Nat} {cs:Nat→Int} {ct:Int} {L:List dA} {bs:List (List PV)} {tk:Nat} {told:List Int}
theorem o_{w0:World}{ρ0:Nat→bC}{g:aO}{q:Nat}{ps:List PV}{vp:Value}(h:MW C w ρ nm fbn cs ct L bs tk told)(h0:an w0 w ρ0 ρ)(hV:C.V.heap.size≤w0.heap.size)(hR:cG C.V C.v3 C.u.aE)(hg:C.u.aE[q]? =some g)(hfl:C.u.aE.length≤30)(hp:w.ownsRow w0.heap.size 183 2 vp ps.length (dV nm ps))(hρ:∀k,vp.ownBlock=some k→ρ k=.no)(hL:L.length≤1000)(hn:ps.length+g.aG.length≤1000):
 Calls Tryz.prog 66 #[.pointer (some ⟨C.mb,0,none⟩),.int .i64 (q:Int),vp] w fun e w'=>∃ρ' fbn',e=.returned (.pointer (some ⟨fbn' L.length,0,none⟩))∧MW C w' ρ' nm fbn' cs ct (⟨q,0,ps++fS g.aG.length,[]⟩ :: L) bs tk told∧an w0 w' ρ0 ρ':=by
 obtain ⟨vf,vt,hm⟩:=h.mb;obtain ⟨ao,fcp,hv3,hml,hc⟩:=hR;obtain ⟨b,off,vpp,vl,vc,hao,k0,k1,k2,k3,r1,r2,r3⟩:=hc q g hg;subst hao;have hql:=(List.getElem?_eq_some_iff.1 hg).1;obtain ⟨fa,fc,rfl,_⟩:=r1;obtain ⟨la,lc,rfl,_⟩:=r2;have r3':=r3;obtain ⟨ca,cc,rfl,_⟩:=r3;obtain ⟨pa,pc,rfl⟩:=aL hp;have hM:=hm.box;rw [hv3] at hM;refine (tt w C.mb C.v1 C.v2 C.v4 C.v5 vf _ _ ct vt L.length (kM fbn L.length) b off C.u.aE.length fcp q fa la ca pa g.aF.length fc g.aG.length lc g.code.length cc ps.length pc g.result (dV nm ps) hM hql (by omega) (h.gr.cell k0 (by simp)) (h.gr.cell k1 (by simp)) (h.gr.cell k2 (by simp)) (h.gr.cell k3 (by simp)) hm.fr (fun e=>by have:=hm.rf _ e;rw [hm.rm] at this;cases this) hL ⟨hp.1,hp.2.imp id (fun ⟨g,c,cur,e1,e2,e3⟩=>⟨g,c,cur,e1,Nat.zero_le _,e3⟩)⟩ (fun e=>by have:=hρ _ e;rw [hm.rm] at this;cases this) (fun b e1 e2=>by have:=hρ b e1;rw [hm.rf b e2] at this;cases this) (by omega)).mono ?_;rintro e w' ⟨nb,vs,vf',rfl,hF,hs,hso,hnb,hsn,hM',hf',hfo,hos,htp,hou,hsz,hblk⟩;have hnb':nb < w'.heap.size:=(Array.getElem?_eq_some_iff.1 hF).1;have hws:=h.gr.size;have h0s:=h0.size;have hsrole:∀b,vs.ownBlock=some b→b < w.heap.size→ρ b=.no∧w0.heap.size≤b:=fun b hb hl=>by
  rcases hso with e|⟨k,e,hk⟩
  · exact ⟨hρ b (e▸hb),(hp.lt b (e▸hb)).1⟩
  · rw [hb] at e;cases e;omega
 have hfrole:∀b,vf'.ownBlock=some b→b < w.heap.size→ρ b=.frs:=fun b hb hl=>by
  rcases hfo with e|⟨k,e,hk,_⟩
  · exact hm.rf b (e▸hb)
  · rw [hb] at e;cases e;omega
 let ρ':Nat→bC:=fun b=>if b=nb then .fb L.length else if vs.ownBlock=some b then .fsl L.length else if vf'.ownBlock=some b then .frs else ρ b
 have hr1:ρ' nb=.fb L.length:=if_pos rfl;have hr2:∀b,vs.ownBlock=some b→ρ' b=.fsl L.length:=fun b hb=>by
  have e1:¬b=nb:=fun e=>hsn (e▸hb)
  show (if b=nb then _ else _)=_
  rw [if_neg e1,if_pos hb]
 have hr3:∀b,vf'.ownBlock=some b→ρ' b=.frs:=fun b hb=>by
  have e1:¬b=nb:=fun e=>by
   rcases hfo with e2|⟨k,e2,hk,hk2,_⟩
   · have:=(hm.fr.lt b (e2▸hb)).2;omega
   · rw [hb] at e2;cases e2;exact hk2 e
  have e2:¬vs.ownBlock=some b:=fun e=>by
   rcases hfo with e2|⟨k,e2,hk,hk2,hk3⟩
   · have hl:=(hm.fr.lt b (e2▸hb)).2;have:=(hsrole b e hl).1
     rw [hm.rf b (e2▸hb)] at this;cases this
   · rw [hb] at e2;cases e2;exact hk3 e
  show (if b=nb then _ else _)=_
  rw [if_neg e1,if_neg e2,if_pos hb]
 have hr4:∀b,b < w.heap.size→(ρ b≠.no∨b < w0.heap.size)→ρ' b=ρ b:=fun b hb hn=>by
  show (if b=nb then _ else _)=_
  have e1:¬b=nb:=by omega
  have e2:¬vs.ownBlock=some b:=fun e=>by
   have:=hsrole b e hb
   rcases hn with hn|hn
   · exact hn this.1
   · omega
  rw [if_neg e1,if_neg e2];split
  · rename_i e;exact (hfrole b e hb).symm
  · rfl
 have hpb:∀b,(Value.slice pa ps.length pc).ownBlock=some b→ρ b=.no∧w0.heap.size≤b:=fun b hb=>⟨hρ b hb,(hp.lt b hb).1⟩
 have s:f8 (fun r=>r≠.no∧r≠.mach∧r≠.frs) w w' ρ ρ':=fun b hb hS=>⟨hblk b hb (fun e=>hS.2.1 (e▸hm.rm)) (fun e=>hS.1 (hpb b e).1) (fun e=>hS.2.2 (hm.rf b e)),hr4 b hb (.inl hS.1)⟩
 have K:an w0 w' ρ0 ρ':=⟨hos.trans h0.os,htp.trans h0.tape,hou.trans h0.output,by omega,fun b hb=>(hr4 b (by omega) (.inr hb)).trans (h0.role b hb),fun b hb e=>by
  have eb:ρ b=.no:=(h0.role b hb).trans e;exact (hblk b (by omega) (fun e=>by rw [e,hm.rm] at eb;cases eb) (fun e=>by have:=(hpb b e).2;omega) (fun e=>by have:=hm.rf b e;rw [eb] at this;cases this)).trans (h0.keep b hb e)⟩
 have K2:Gr C.V w':=⟨hos.trans h.gr.os,htp.trans h.gr.tape,hou.trans h.gr.output,by omega,fun b hb hne=>by
  have eb:ρ b=.no:=Classical.byContradiction fun e=>by have:=(h.lo b e).1;omega
  exact (hblk b (by omega) (fun e=>by rw [e,hm.rm] at eb;cases eb) (fun e=>by have:=(hpb b e).2;omega) (fun e=>by have:=hm.rf b e;rw [eb] at this;cases this)).trans (h.gr.block b hb hne)⟩
 obtain ⟨t1,t2⟩:=dZ hm.tl hm.rt s ⟨nofun,nofun,nofun⟩;have hfb:∀i,i < L.length→(fun i=>if i=L.length then nb else fbn i) i=fbn i:=fun i hi=>if_neg (by omega)
 refine ⟨ρ',fun i=>if i=L.length then nb else fbn i,by simp,⟨K2,fun b hb=>?_,⟨vf',vt,⟨by rw [hv3];exact hM',?_,t1,?_,hr3,t2⟩⟩,⟨⟨.slice ca g.code.length cc,vs,.slice none 0 0,g,⟨hg,r3',?_,?_,World.ownsRow_nil _ _ _ _,?_,hr2,fun b hb=>by cases hb⟩⟩,h.frs.mv s fun i hi=>⟨⟨nofun,nofun,nofun⟩,⟨nofun,nofun,nofun⟩,⟨nofun,nofun,nofun⟩,hfb i hi⟩⟩,fun j fs hj=>?_⟩,K⟩
 · by_cases e1:b=nb
   · subst e1;exact ⟨by omega,hnb'⟩
   · by_cases e2:vs.ownBlock=some b
     · refine ⟨?_,(hs.lt b e2).2⟩;by_cases hl:b < w.heap.size
       · have:=(hsrole b e2 hl).2;omega
       · omega
     · by_cases e3:vf'.ownBlock=some b
       · refine ⟨?_,(hf'.lt b e3).2⟩;by_cases hl:b < w.heap.size
         · exact (h.lo b (by rw [hfrole b e3 hl];nofun)).1
         · omega
       · have e4:ρ' b=ρ b:=by
          show (if b=nb then _ else _)=_
          rw [if_neg e1,if_neg e2,if_neg e3]
         rw [e4] at hb;have:=h.lo b hb
         exact ⟨this.1,by omega⟩
 · show w'.ownsRow 0 _ 1 vf' (L.length+1) _
   rw [List.length_cons,nA,qS hfb];simpa using hf'
 · rw [hr4 _ hm.lt (.inl (by rw [hm.rm];nofun))];exact hm.rm
 · simpa using hF
 · rw [List.length_append,ip,←vH];simpa [fS] using hs
 · simpa using hr1
 · obtain ⟨⟨v,hB⟩,hc⟩:=h.blks j fs hj;exact ⟨⟨v,hB.mv s ⟨nofun,nofun,nofun⟩ ⟨nofun,nofun,nofun⟩⟩,hc⟩
theorem oY{x:dA}(h:MW C w ρ nm fbn cs ct (x :: L) bs tk told)(hL:L.length≤1000):
 Calls Tryz.prog 102 #[.pointer (some ⟨C.mb,0,none⟩)] w fun e w'=>e=.returned (if L.length=0 then .pointer none else .pointer (some ⟨fbn (L.length - 1),0,none⟩))∧MW C w' ρ nm fbn cs ct L bs tk told∧an w w' ρ ρ:=by
 obtain ⟨vf,vt,hm⟩:=h.mb;have ho:=hm.fr;have hM:=hm.box;have hrf:=hm.rf;obtain ⟨g,cap,rfl⟩:∃g cap,vf=.slice (some ⟨g,0,none⟩) (L.length+1) cap:=by
  rcases ho.2 with ⟨_,h⟩|⟨g,cap,cur,e,_⟩
  · simp at h
  · exact ⟨g,cap,e⟩
 rw [List.length_cons,nA] at ho;refine (tD w C.mb C.v1 C.v2 C.v3 C.v4 C.v5 _ _ ct vt g L.length cap (kM fbn L.length) _ hM ho (fun e=>by have:=hrf g rfl;rw [e,hm.rm] at this;cases this) hL (fun u hu=>?_)).mono ?_
 · simp only [kM,List.mem_map] at hu;obtain ⟨i,_,rfl⟩:=hu;exact ⟨_,rfl⟩
 rintro e w' ⟨rfl,hM',hf',T⟩;have s:f8 (fun r=>r≠.mach∧r≠.frs) w w' ρ ρ:=fun b hb hS=>⟨T.blk b hb (fun e=>hS.1 (e▸hm.rm)) nofun,rfl⟩
 have K:an w w' ρ ρ:=⟨T.os,T.tape,T.output,T.size,fun _ _=>rfl,fun b hb e=>T.blk b hb (fun e2=>by rw [e2,hm.rm] at e;cases e) nofun⟩;obtain ⟨t1,t2⟩:=dZ hm.tl hm.rt s ⟨nofun,nofun⟩;refine ⟨?_,⟨K.gr h.gr h.lo,fun b hb=>⟨(h.lo b hb).1,Nat.lt_of_lt_of_le (h.lo b hb).2 T.size⟩,⟨_,vt,⟨hM',hf',t1,hm.rm,fun b hb=>hrf b hb,t2⟩⟩,h.frs.2.mv s fun i hi=>⟨⟨nofun,nofun⟩,⟨nofun,nofun⟩,⟨nofun,nofun⟩,rfl⟩,fun j fs hj=>?_⟩,K⟩
 · by_cases e:L.length=0
   · rw [if_pos e,if_pos e]
   · rw [if_neg e,if_neg e,List.getD_eq_getElem?_getD,sE fbn (show L.length - 1 < L.length by omega)];rfl
 · obtain ⟨⟨v,hB⟩,hc⟩:=h.blks j fs hj;exact ⟨⟨v,hB.mv s ⟨nofun,nofun⟩ ⟨nofun,nofun⟩⟩,hc⟩
theorem xj(x:Int)(h:MW C w ρ nm fbn cs ct L bs tk told)(hl:told.length≤1000):
 Calls Tryz.prog 107 #[.pointer (some ⟨C.mb,0,none⟩),.int .i64 x] w fun e w'=>e=.returned (.tuple #[])∧qJ C w ρ nm fbn cs ct L bs tk (jR told x) w':=by
 obtain ⟨vf,vt,hm⟩:=h.mb;refine (uc w C.mb C.v1 C.v2 C.v3 C.v4 C.v5 vf _ _ ct vt told x hm.box hm.tl (fun e=>by have:=hm.rt _ e;rw [hm.rm] at this;cases this) hl).mono ?_;rintro e w' ⟨vt',rfl,hM',ht',hob,T⟩;have hr:∀b,b < w.heap.size→upd ρ vt' .tol b=ρ b:=fun b hb=>by
  unfold upd;split
  · rename_i e
    rcases hob with h1|⟨k,h1,h2⟩
    · exact (hm.rt b (h1▸e)).symm
    · rw [h1] at e;cases e;omega
  · rfl
 have s:f8 (fun r=>r≠.mach∧r≠.tol) w w' ρ (upd ρ vt' .tol):=fun b hb hS=>⟨T.blk b hb (fun e=>hS.1 (e▸hm.rm)) (fun e=>hS.2 (hm.rt b e)),hr b hb⟩
 have K:an w w' ρ (upd ρ vt' .tol):=⟨T.os,T.tape,T.output,T.size,hr,fun b hb e=>T.blk b hb (fun e2=>by rw [e2,hm.rm] at e;cases e) (fun e2=>by rw [hm.rt b e2] at e;cases e)⟩;obtain ⟨t1,t2⟩:=dZ hm.fr hm.rf s ⟨nofun,nofun⟩;refine ⟨rfl,_,⟨K.gr h.gr h.lo,fun b hb=>?_,⟨vf,vt',⟨hM',t1,ht',by rw [hr _ hm.lt];exact hm.rm,t2,fun b hb=>v_ hb⟩⟩,h.frs.mv s fun i hi=>⟨⟨nofun,nofun⟩,⟨nofun,nofun⟩,⟨nofun,nofun⟩,rfl⟩,fun j fs hj=>?_⟩,K⟩
 · by_cases e:vt'.ownBlock=some b
   · refine ⟨?_,(ht'.lt b e).2⟩;rcases hob with h1|⟨k,h1,h2⟩
     · exact (h.lo b (by rw [hm.rt b (h1▸e)];nofun)).1
     · rw [h1] at e;cases e;have:=h.gr.size;omega
   · rw [u_ e] at hb;have:=h.lo b hb
     exact ⟨this.1,Nat.lt_of_lt_of_le this.2 T.size⟩
 · obtain ⟨⟨v,hB⟩,hc⟩:=h.blks j fs hj;exact ⟨⟨v,hB.mv s ⟨nofun,nofun⟩ ⟨nofun,nofun⟩⟩,hc⟩
theorem MW.setSlot{x:dA}{vc vs vk:Value}{f:aO}{g n cap a:Nat}(v:PV)(h:MW C w ρ nm fbn cs ct (x :: L) bs tk told)(ht:j7 C w ρ nm L.length (fbn L.length) x vc vs vk f)(hvs:vs=.slice (some ⟨g,0,none⟩) n cap):
 MW C ((w.setCell ⟨g,a * 2,none⟩ (.int .i64 v.num)).setCell ⟨g,a * 2+1,none⟩ (.pointer (de nm v.blk))) ρ nm fbn cs ct (⟨x.fn,x.pos,x.slots.set a v,x.stack⟩ :: L) bs tk told∧an w ((w.setCell ⟨g,a * 2,none⟩ (.int .i64 v.num)).setCell ⟨g,a * 2+1,none⟩ (.pointer (de nm v.blk))) ρ ρ:=by
 subst hvs;have hsl:=ht.sl;have hn:n=x.slots.length:=by
  obtain ⟨ao,cp,e⟩:=aL hsl;cases e;rfl
 subst hn;have hoth:∀b,¬b=g→((w.setCell ⟨g,a * 2,none⟩ (.int .i64 v.num)).setCell ⟨g,a * 2+1,none⟩ (.pointer (de nm v.blk))).heap[b]? =w.heap[b]? :=fun b hb=>(Below.heap_setCell _ _ _ _ hb).trans (Below.heap_setCell _ _ _ _ hb)
 have hg:=ht.rsl g rfl;have hu:=h.top_upd (w':=(w.setCell ⟨g,a * 2,none⟩ (.int .i64 v.num)).setCell ⟨g,a * 2+1,none⟩ (.pointer (de nm v.blk))) (x':=⟨x.fn,x.pos,x.slots.set a v,x.stack⟩) (vk':=vk) ht rfl ((hoth _ (fun e=>by have:=ht.rb;rw [e,hg] at this;cases this)).trans ht.box) (by
  have:=oh hsl a (.int .i64 v.num) (.pointer (de nm v.blk))
  rw [mK] at this;simpa using this) (bX ht.st fun k hk=>hoth k (fun e=>by have:=ht.rst k hk;rw [e,hg] at this;cases this)) (.inl rfl) rfl rfl rfl (by simp) (fun b hb _ h2 _=>hoth b (fun e=>h2 (e▸hg)))
 rw [mB ht.rst] at hu;exact hu
theorem MW.bk_upd{j:Nat}{fs fs':List PV}{c':Int}{vf:Value}(h:MW C w ρ nm fbn cs ct L bs tk told)(hj:bs[j]? =some fs)(hB:mW w ρ nm j (cs j) fs vf)(hB':mW w' ρ nm j c' fs' vf)(hc:0≤c'∧c'≤ct)(hos:w'.os=w.os)(htp:w'.tape=w.tape)(hou:w'.output=w.output)(hsz:w.heap.size≤w'.heap.size)(hblk:∀b,b < w.heap.size→ρ b≠.bb j→ρ b≠.bf j→w'.heap[b]? =w.heap[b]?):
 MW C w' ρ nm fbn (fun k=>if k=j then c' else cs k) ct L (bs.set j fs') tk told∧an w w' ρ ρ:=by
 have s:f8 (fun r=>r≠.bb j∧r≠.bf j) w w' ρ ρ:=fun b hb hS=>⟨hblk b hb hS.1 hS.2,rfl⟩
 have K:an w w' ρ ρ:=⟨hos,htp,hou,hsz,fun _ _=>rfl,fun b hb e=>hblk b hb (by rw [e];nofun) (by rw [e];nofun)⟩;obtain ⟨vf1,vt,hm⟩:=h.mb;refine ⟨⟨K.gr h.gr h.lo,fun b hb=>⟨(h.lo b hb).1,Nat.lt_of_lt_of_le (h.lo b hb).2 hsz⟩,⟨vf1,vt,hm.mv s ⟨nofun,nofun⟩ ⟨nofun,nofun⟩ ⟨nofun,nofun⟩⟩,h.frs.mv s fun i hi=>⟨⟨nofun,nofun⟩,⟨nofun,nofun⟩,⟨nofun,nofun⟩,rfl⟩,fun k gs hk=>?_⟩,K⟩;by_cases e:k=j
 · subst e;have hl:=(List.getElem?_eq_some_iff.1 hj).1;rw [List.getElem?_set_self hl] at hk;cases hk
   simp only [if_true];exact ⟨⟨vf,hB'⟩,hc⟩
 · rw [List.getElem?_set_ne (fun e2=>e e2.symm)] at hk;simp only [e,if_false];obtain ⟨⟨v,hK⟩,hc2⟩:=h.blks k gs hk;exact ⟨⟨v,hK.mv s ⟨by simp;omega,nofun⟩ ⟨nofun,by simp;omega⟩⟩,hc2⟩
theorem MW.setField{j a g n cap:Nat}{fs:List PV}(v:PV)(h:MW C w ρ nm fbn cs ct L bs tk told)(hj:bs[j]? =some fs)(hB:mW w ρ nm j (cs j) fs (.slice (some ⟨g,0,none⟩) n cap)):
 MW C ((w.setCell ⟨g,a * 2,none⟩ (.int .i64 v.num)).setCell ⟨g,a * 2+1,none⟩ (.pointer (de nm v.blk))) ρ nm fbn cs ct L (bs.set j (fs.set a v)) tk told∧an w ((w.setCell ⟨g,a * 2,none⟩ (.int .i64 v.num)).setCell ⟨g,a * 2+1,none⟩ (.pointer (de nm v.blk))) ρ ρ:=by
 have hfl:=hB.fl;have hn:n=fs.length:=by
  obtain ⟨ao,cp,e⟩:=aL hfl;cases e;rfl
 subst hn;have hoth:∀b,¬b=g→((w.setCell ⟨g,a * 2,none⟩ (.int .i64 v.num)).setCell ⟨g,a * 2+1,none⟩ (.pointer (de nm v.blk))).heap[b]? =w.heap[b]? :=fun b hb=>(Below.heap_setCell _ _ _ _ hb).trans (Below.heap_setCell _ _ _ _ hb)
 have hg:=hB.rf g rfl;have hc:=(h.blks j fs hj).2;have e:(fun k=>if k=j then cs j else cs k)=cs:=by
  funext k
  split
  · rename_i e;rw [e]
  · rfl
 have hu:=h.bk_upd (w':=(w.setCell ⟨g,a * 2,none⟩ (.int .i64 v.num)).setCell ⟨g,a * 2+1,none⟩ (.pointer (de nm v.blk))) (fs':=fs.set a v) (c':=cs j) hj hB ⟨(hoth _ (fun e=>by have:=hB.rb;rw [e,hg] at this;cases this)).trans hB.box,by
  have:=oh hfl a (.int .i64 v.num) (.pointer (de nm v.blk))
  rw [mK] at this;simpa using this,hB.rb,hB.rf⟩ hc rfl rfl rfl (by simp) (fun b hb _ h2=>hoth b (fun e=>h2 (e▸hg)))
 rw [e] at hu;exact hu
theorem MW.mark{j:Nat}{fs:List PV}{vf:Value}(c:Int)(h:MW C w ρ nm fbn cs ct L bs tk told)(hj:bs[j]? =some fs)(hB:mW w ρ nm j (cs j) fs vf)(hc:0≤c∧c≤ct):
 MW C (w.setCell ⟨nm j,1,none⟩ (.int .i64 c)) ρ nm fbn (fun k=>if k=j then c else cs k) ct L bs tk told∧an w (w.setCell ⟨nm j,1,none⟩ (.int .i64 c)) ρ ρ:=by
 have hoth:∀b,¬b=nm j→(w.setCell ⟨nm j,1,none⟩ (.int .i64 c)).heap[b]? =w.heap[b]? :=fun b hb=>Below.heap_setCell _ _ _ _ hb
 have hu:=h.bk_upd (w':=w.setCell ⟨nm j,1,none⟩ (.int .i64 c)) (fs':=fs) (c':=c) hj hB ⟨(heap_setCell_same w _ 1 _ _ _ hB.box).trans (by simp),bX hB.fl fun k hk=>hoth k (fun e=>by have:=hB.rf k hk;rw [e,hB.rb] at this;cases this),hB.rb,hB.rf⟩ hc rfl rfl rfl (by simp) (fun b hb h1 _=>hoth b (fun e=>h1 (e▸hB.rb)));have e:bs.set j fs=bs:=by
  apply List.ext_getElem?
  intro k;by_cases e:j=k
  · subst e;rw [List.getElem?_set_self (List.getElem?_eq_some_iff.1 hj).1,hj]
  · rw [List.getElem?_set_ne e]
 rw [e] at hu;exact hu
end
open Go.RowKit
section
variable {P:Program} {ops:Array Oper} {Q:Exit→Act→World→Prop} {md:Region.Mode} {S:World→Prop}
inductive iv(md:Region.Mode)(ops:Array Oper)(listed:Array Bool)(i:Nat):Nat→Prop
 | one {z:Nat} {oz:Oper} (hz:ops[z]? =some oz) (hi:∃e∈oz.after,Region.binds md e=true∧e.on=i) (hl:listed.getD i true=false):iv md ops listed i z
 | more {z d:Nat} {oz:Oper} (hz:ops[z]? =some oz) (hi:∃e∈oz.after,Region.binds md e=true∧e.on=d) (hl:listed.getD d true=false) (h:iv md ops listed i d):iv md ops listed i z
theorem not_ready{listed:Array Bool}{z d:Nat}{oz:Oper}(hz:ops[z]? =some oz)(hi:∃e∈oz.after,Region.binds md e=true∧e.on=d)(hl:listed.getD d true=false):¬z∈Region.ready md ops listed:=fun hr=>by
 obtain ⟨_,o,ho,hall⟩:=mem_ready.1 hr;rw [hz] at ho;cases ho
 obtain ⟨e,he,hb,rfl⟩:=hi;have h1:=hall e he hb;rcases Nat.lt_or_ge e.on listed.size with h'|h'
 · simp [h'] at hl h1;rw [hl] at h1;cases h1
 · simp [Array.getElem?_eq_none h'] at h1
theorem iv.not_ready{listed:Array Bool}{i z:Nat}(h:iv md ops listed i z):¬z∈Region.ready md ops listed:=by
 cases h with
 | one hz hi hl=>exact Go.Proofs.YtkgncijcnlfhiaaGreat.not_ready hz hi hl
 | more hz hi hl _=>exact Go.Proofs.YtkgncijcnlfhiaaGreat.not_ready hz hi hl
theorem iv.list{listed:Array Bool}{i z j:Nat}(hj:j∈Region.ready md ops listed)(hji:j≠i)(h:iv md ops listed i z):iv md ops (listed.setIfInBounds j true) i z:=by
 induction h with
 | one hz hi hl=>exact .one hz hi (by rw [getD_set_ne true hji];exact hl)
 | @more z d oz hz hi hl h ih=>
  have hjd:j≠d:=fun e=>h.not_ready (e▸hj)
  exact .more hz hi (by rw [getD_set_ne true hjd];exact hl) ih
theorem ny{z i:Nat}{oi:Oper}{v:Value}(hi:ops[i]? =some oi)(hsel:∀(j:Nat) (o:Oper) cs b,ops[j]? =some o→o.op≠.select cs b)
 (hQ:∀c a w,Q (.panic c) (a.put oi.dst v) w→Q (.panic c) a w):
 ∀(fuel:Nat) (listed:Array Bool) (a:Act) (w:World),iv md ops listed i z→
  (∀j oj,ops[j]? =some oj→j≠i→listed.getD j true=false→(∀e∈oj.after,Region.binds md e=true→e.on≠i)→oi.apart ops oj=true)→
  i∈Region.ready md ops listed→YieldsIf P ops S oi v a→S w→
  df P md ops Q S z fuel (listed.setIfInBounds i true) (a.put oi.dst v) w→df P md ops Q S z (fuel+1) listed a w:=by
 intro fuel
 induction fuel with
 | zero=>
  intro listed a w hw _ hr hy hS H;refine ⟨fun h=>(by rw [h] at hr;cases hr),fun j hj=>?_⟩;by_cases hji:j=i
  · subst hji;exact hy.wpOp hi hS ⟨fun _=>hS,H⟩
  · have:=ready_mono hj hji
    rw [H.1] at this;cases this
 | succ fuel ih=>
  intro listed a w hw hfree hr hy hS H;refine ⟨fun h=>(by rw [h] at hr;cases hr),fun j hj=>?_⟩;by_cases hji:j=i
  · subst hji;exact hy.wpOp hi hS ⟨fun _=>hS,H⟩
  · have h1:=H.2 j (ready_mono hj hji);obtain ⟨hjun,oj,hoj,hall⟩:=mem_ready.1 hj;have hnot:∀e∈oj.after,Region.binds md e=true→e.on≠i:=fun e he hb heq=>by
     have h1:=hall e he hb;have h0:=(mem_ready.1 hr).1;rw [heq] at h1;rcases Nat.lt_or_ge i listed.size with h'|h'
     · simp [h'] at h0 h1;rw [h0] at h1;cases h1
     · simp [Array.getElem?_eq_none h'] at h1
    have hjz:j≠z:=fun e=>hw.not_ready (e▸hj)
    have h2:=wpOp_putIf hoj (hfree j oj hoj hji hjun hnot) (fun cs b=>hsel i oi cs b hi) (fun cs b=>hsel j oj cs b hoj) hQ hy h1;have hfree':∀k ok,ops[k]? =some ok→k≠i→(listed.setIfInBounds j true).getD k true=false→
     (∀e∈ok.after,Region.binds md e=true→e.on≠i)→oi.apart ops ok=true:=fun k ok hk hki hun hno=>by
     refine hfree k ok hk hki ?_ hno;by_cases hjk:j=k
     · subst hjk;exact hjun
     · rw [getD_set_ne true hjk] at hun;exact hun
    refine wpOp_mono (fun a' w' h3=>⟨h3.2.1,ih (listed.setIfInBounds j true) a' w' (hw.list hj hji) hfree' (ready_mono hr (Ne.symm hji)) h3.1 (h3.2.1 hjz) ?_⟩) h2;rw [Array.setIfInBounds_comm _ _ hji];exact h3.2.2
end
section
variable {P:Program} {l:List Oper} {md:Region.Mode} {Q:Exit→Act→World→Prop} {S:World→Prop}
def jk(md:Region.Mode)(l:List Oper)(listed:Array Bool)(i:Nat):Nat→Nat→Bool
 | 0,_=>false
 | n+1,z=>match l[z]? with
  | some oz=>oz.after.toList.any fun e=>Region.binds md e && (!listed.getD e.on true && (Nat.beq e.on i || jk md l listed i n e.on))
  | none=>false
theorem iz{listed:Array Bool}{i:Nat}:∀{n z:Nat},jk md l listed i n z=true→iv md l.toArray listed i z
 | 0,z,h=>by cases h
 | n+1,z,h=>by
  unfold jk at h;cases hz:l[z]? with
  | none=>rw [hz] at h;cases h
  | some oz=>
   rw [hz] at h;simp only [List.any_eq_true,Bool.and_eq_true,Bool.or_eq_true,Bool.not_eq_true',Nat.beq_eq] at h;obtain ⟨e,he,h1,h2,h3⟩:=h;have he':e∈oz.after:=by simpa using he
   rcases h3 with h3|h3
   · exact .one (by simpa using hz) ⟨e,he',h1,h3⟩ (h3▸h2)
   · exact .more (by simpa using hz) ⟨e,he',h1,rfl⟩ h2 (iz h3)
theorem zc{z:Nat}{i:Nat}{oi:Oper}{v:Value}{fuel:Nat}{listed:Array Bool}{a:Act}{w:World}(hi:l[i]? =some oi)(hzw:jk md l listed i 20 z=true)
 (hs:Region.noSelect l.toArray=true) (hf:Region.free md l.toArray listed i=true) (hr:(Region.ready md l.toArray listed).contains i=true)
 (hQ:∀c a w,Q (.panic c) (a.put oi.dst v) w→Q (.panic c) a w) (hw:Region.wanted oi (yielded l.toArray a.tmps)=true) (hy:∀w,S w→(execOp a.eval oi).run P w=.ok (.value v) w) (hS:S w)
 (h:df P md l.toArray Q S z fuel (listed.setIfInBounds i true) (a.put oi.dst v) w):df P md l.toArray Q S z (fuel+1) listed a w:=
 ny (by simpa using hi) (Region.noSelect_spec hs) hQ fuel listed a w (iz hzw) (Region.free_spec (by simpa using hi) hf) (by simpa using hr) (.inl ⟨hw,hy⟩) hS h
theorem tY{P:Program}{l:List Oper}{md:Region.Mode}{Q:Exit→Act→World→Prop}{S:World→Prop}{z:Nat}(i:Nat){oi:Oper}{v:Value}{fuel:Nat}{listed:Array Bool}{a:Act}{w:World}(h:df P md l.toArray Q S z fuel (listed.setIfInBounds i true) (a.put oi.dst v) w)(hi:l[i]? =some oi:=by rfl)(hy:∀w,S w→(execOp a.eval oi).run P w=.ok (.value v) w:=by intro w hS;go_simp<;>rfl)(hS:S w:=by assumption)(hzw:jk md l listed i 20 z=true:=by kernel_rfl)(hs:Region.noSelect l.toArray=true:=by kernel_rfl)(hf:Region.free md l.toArray listed i=true:=by kernel_rfl)(hr:(Region.ready md l.toArray listed).contains i=true:=by kernel_rfl)(hQ:∀c a w,Q (.panic c) (a.put oi.dst v) w→Q (.panic c) a w:=by intro c a w h;exact h)(hw:Region.wanted oi (yielded l.toArray a.tmps)=true:=by rfl):df P md l.toArray Q S z (fuel+1) listed a w:=zc hi hzw hs hf hr hQ hw hy hS h
end
end Go.Proofs.YtkgncijcnlfhiaaGreat
