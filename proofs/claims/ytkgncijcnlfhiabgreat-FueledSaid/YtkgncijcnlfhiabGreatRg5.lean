import Derived.Test.YtkgncijcnlfhiabGreatMj
import Derived.Test.YtkgncijcnlfhiabGreatNl
namespace Go.Proofs.YtkgncijcnlfhiabGreat
set_option linter.unusedVariables false
set_option linter.unusedSimpArgs false
open Go.RowKit
inductive bD where
 | no|mach|frs|tol
 | fb (i:Nat)|fsl (i:Nat)|fst (i:Nat)|bb (j:Nat)|bf (j:Nat)
def di(nm:Nat->Nat)(b:Option Nat):Option Addr:=b.map fun j=>⟨nm j,0,none⟩
def dc(nm:Nat->Nat):List PV->List Value
 | []=> []
 | v :: l=>.int .i64 v.num :: .pointer (di nm v.blk) :: dc nm l
theorem ml(nm:Nat->Nat):∀l,(dc nm l).length=l.length * 2
 | []=>rfl
 | v :: l=>by simp only [dc,List.length_cons,ml nm l];omega
theorem jT(nm:Nat->Nat):∀a b,dc nm (a++b)=dc nm a++dc nm b
 | [],b=>rfl
 | v :: a,b=>by simp only [List.cons_append,dc,jT nm a b]
theorem qM(nm:Nat->Nat):∀l,∀u∈dc nm l,u.oneCell'=true
 | [],u,h=>by cases h
 | v :: l,u,h=>by
  simp only [dc,List.mem_cons] at h;rcases h with rfl|rfl|h
  · rfl
  · rfl
  · exact qM nm l u h
theorem lA(nm:Nat->Nat):∀(l:List PV) (j:Nat) (v:PV),l[j]? =some v->(dc nm l)[j * 2]? =some (.int .i64 v.num)/\(dc nm l)[j * 2+1]? =some (.pointer (di nm v.blk))
 | [],j,v,h=>by simp at h
 | x :: l,0,v,h=>by cases h;exact ⟨rfl,rfl⟩
 | x :: l,j+1,v,h=>by
  have:=lA nm l j v h
  rw [show (j+1) * 2=j * 2+2 by omega];exact this
theorem mV(nm:Nat->Nat):∀(l:List PV) (j:Nat) (v:PV),((dc nm l).set (j * 2) (.int .i64 v.num)).set (j * 2+1) (.pointer (di nm v.blk))=dc nm (l.set j v)
 | [],j,v=>rfl
 | x :: l,0,v=>rfl
 | x :: l,j+1,v=>by
  have:=mV nm l j v
  rw [show (j+1) * 2=j * 2+2 by omega,show j * 2+2+1=(j * 2+1)+2 by omega];simp only [dc,List.set_cons_succ];rw [this]
theorem wY(nm:Nat->Nat):∀k,zV k=dc nm (fQ k)
 | 0=>rfl
 | k+1=>by
  have:=wY nm k
  unfold fQ at this |-;rw [List.replicate_succ];simp only [zV,dc,this];rfl
def Bd(n:Nat)(l:List PV):Prop:=∀v∈l,∀j,v.blk=some j->j < n
theorem gu{nm Pa:Nat->Nat}{n:Nat}(h:∀j,j < n->Pa j=nm j):∀l,Bd n l->dc Pa l=dc nm l
 | [],_=>rfl
 | v :: l,hb=>by
  have e:di Pa v.blk=di nm v.blk:=by
   cases hv:v.blk with
   | none=>rfl
   | some j=>simp only [di,Option.map_some];rw [h j (hb v List.mem_cons_self j hv)]
  simp only [dc,e,gu h l (fun x hx=>hb x (List.mem_cons_of_mem _ hx))]
theorem fJ.bd{σ ks:List Int}{l:List PV}(h:fJ σ ks l):Bd σ.length l:=fun v hv j hj=>by
 obtain ⟨i,hi,e⟩:=List.getElem_of_mem hv;have hk:i < ks.length:=h.1▸hi;have:=h.2 i _ v (List.getElem?_eq_getElem hk) (by rw [List.getElem?_eq_getElem hi,e])
 exact (List.getElem?_eq_some_iff.1 (this j hj).2).1
def ko(I0:Nat->Nat)(n:Nat):List Value:=(List.range n).map fun i=>.pointer (some ⟨I0 i,0,none⟩)
theorem oP(I0:Nat->Nat)(n:Nat):ko I0 (n+1)=ko I0 n++ [.pointer (some ⟨I0 n,0,none⟩)]:=by simp [ko,List.range_succ]
theorem tP(I0:Nat->Nat){n i:Nat}(h:i < n):(ko I0 n)[i]? =some (.pointer (some ⟨I0 i,0,none⟩)):=by
 simp [ko,h]
theorem rv{I0 C9:Nat->Nat}{n:Nat}(h:∀i,i < n->C9 i=I0 i):ko C9 n=ko I0 n:=
 List.map_congr_left fun i hi=>by rw [h i (List.mem_range.1 hi)]
structure MC where
 V:World
 u:aK
 v1:Value
 v2:Value
 v3:Value
 v4:Value
 v5:Value
 mb:Nat
 heap:Nat
structure lD(C:MC)(w:World)(ρ:Nat->bD)(nm:Nat->Nat)(i fb:Nat)(x:ch)(vc vs vk:Value)(f:aO):Prop where
 func:C.u.aE[x.fn]? =some f
 code:eH C.V vc f.code
 box:lW w fb vc (x.pos:Int) vs vk
 sl:w.ownsRow 0 166 2 vs x.slots.length (dc nm x.slots)
 st:w.ownsRow 0 166 2 vk x.stack.length (dc nm x.stack)
 rb:ρ fb=.fb i
 rsl:∀b,vs.ownBlock=some b->ρ b=.fsl i
 rst:∀b,vk.ownBlock=some b->ρ b=.fst i
def CL(C:MC)(w:World)(ρ:Nat->bD)(nm I0:Nat->Nat)(i:Nat)(x:ch):Prop:=∃vc vs vk f,lD C w ρ nm i (I0 i) x vc vs vk f
def lr(C:MC)(w:World)(ρ:Nat->bD)(nm I0:Nat->Nat):List ch->Prop
 | []=>True
 | x :: l=>CL C w ρ nm I0 l.length x/\lr C w ρ nm I0 l
structure ng(w:World)(ρ:Nat->bD)(nm:Nat->Nat)(j:Nat)(c:Int)(fs:List PV)(vf:Value):Prop where
 box:w.heap[nm j]? =some (.cells #[vf,.int .i64 c] 216 (0,0))
 fl:w.ownsRow 0 166 2 vf fs.length (dc nm fs)
 rb:ρ (nm j)=.bb j
 rf:∀b,vf.ownBlock=some b->ρ b=.bf j
def Ca(w:World)(ρ:Nat->bD)(nm:Nat->Nat)(j:Nat)(c:Int)(fs:List PV):Prop:=∃vf,ng w ρ nm j c fs vf
structure ya(C:MC)(w:World)(ρ:Nat->bD)(I0:Nat->Nat)(n:Nat)(tk ct:Int)(told:List Int)(vf vt:Value):Prop where
 box:pN w C.mb C.v1 C.v2 C.v3 C.v4 C.v5 vf (C.heap:Int) tk ct vt
 fr:w.ownsRow 0 109 1 vf n (ko I0 n)
 tl:w.ownsRow 0 3 1 vt told.length (fP told)
 rm:ρ C.mb=.mach
 rf:∀b,vf.ownBlock=some b->ρ b=.frs
 rt:∀b,vt.ownBlock=some b->ρ b=.tol
structure MW(C:MC)(w:World)(ρ:Nat->bD)(nm I0:Nat->Nat)(cs:Nat->Int)(ct:Int)(L:List ch)(bs:List (List PV))(tk:Nat)(told:List Int):Prop where
 gr:Gr C.V w
 lo:∀b,ρ b≠.no->C.V.heap.size<=b/\b < w.heap.size
 mb:∃vf vt,ya C w ρ I0 L.length (tk:Int) ct told vf vt
 frs:lr C w ρ nm I0 L
 blks:∀(j:Nat) (fs:List PV),bs[j]? =some fs->Ca w ρ nm j (cs j) fs/\0<=cs j/\cs j<=ct
def iC(S:bD->Prop)(w w':World)(ρ ρ':Nat->bD):Prop:=∀b,b < w.heap.size->S (ρ b)->w'.heap[b]? =w.heap[b]? /\ρ' b=ρ b
structure am(w w':World)(ρ ρ':Nat->bD):Prop where
 os:w'.os=w.os
 tape:w'.tape=w.tape
 output:w'.output=w.output
 size:w.heap.size<=w'.heap.size
 role:∀b,b < w.heap.size->ρ' b=ρ b
 keep:∀b,b < w.heap.size->ρ b=.no->w'.heap[b]? =w.heap[b]?
theorem am.refl(w:World)(ρ:Nat->bD):am w w ρ ρ:=⟨rfl,rfl,rfl,Nat.le_refl _,fun _ _=>rfl,fun _ _ _=>rfl⟩
theorem am.trans{a b c:World}{ρ ρ' ρ'':Nat->bD}(h:am a b ρ ρ')(k:am b c ρ' ρ''):am a c ρ ρ'':=
 ⟨k.os.trans h.os,k.tape.trans h.tape,k.output.trans h.output,Nat.le_trans h.size k.size,fun i hi=>(k.role i (Nat.lt_of_lt_of_le hi h.size)).trans (h.role i hi),fun i hi e=>(k.keep i (Nat.lt_of_lt_of_le hi h.size) ((h.role i hi).trans e)).trans (h.keep i hi e)⟩
theorem am.of_gr{w w':World}{ρ:Nat->bD}(g:Gr w w'):am w w' ρ ρ:=⟨g.os,g.tape,g.output,g.size,fun _ _=>rfl,fun i hi _=>g.block i hi Q6⟩
theorem am.gr{V w w':World}{ρ ρ':Nat->bD}(k:am w w' ρ ρ')(g:Gr V w)(lo:∀b,ρ b≠.no->V.heap.size<=b/\b < w.heap.size):Gr V w':=
 ⟨k.os.trans g.os,k.tape.trans g.tape,k.output.trans g.output,Nat.le_trans g.size k.size,fun i hi hne=>(k.keep i (Nat.lt_of_lt_of_le hi g.size) (Classical.byContradiction fun e=>by have:=(lo i e).1;omega)).trans (g.block i hi hne)⟩
theorem dj{S:bD->Prop}{w w':World}{ρ ρ':Nat->bD}{r:bD}{B:Nat}{e:TypeId}{n len:Nat}{v:Value}{xs:List Value}(h:w.ownsRow B e n v len xs)(hr:∀b,v.ownBlock=some b->ρ b=r)(s:iC S w w' ρ ρ')(hS:S r):w'.ownsRow B e n v len xs/\∀b,v.ownBlock=some b->ρ' b=r:=
 ⟨bS h fun k hk=>(s k (h.lt k hk).2 (by rw [hr k hk];exact hS)).1,fun b hb=>by rw [(s b (h.lt b hb).2 (by rw [hr b hb];exact hS)).2];exact hr b hb⟩
theorem lD.lt{C:MC}{w:World}{ρ:Nat->bD}{nm:Nat->Nat}{i fb:Nat}{x:ch}{vc vs vk:Value}{f:aO}(h:lD C w ρ nm i fb x vc vs vk f):fb < w.heap.size:=(Array.getElem?_eq_some_iff.1 h.box).1
theorem lD.mv{S:bD->Prop}{C:MC}{w w':World}{ρ ρ':Nat->bD}{nm:Nat->Nat}{i fb:Nat}{x:ch}{vc vs vk:Value}{f:aO}(h:lD C w ρ nm i fb x vc vs vk f)(s:iC S w w' ρ ρ')(h1:S (.fb i))(h2:S (.fsl i))(h3:S (.fst i)):lD C w' ρ' nm i fb x vc vs vk f:=by
 have hb:=s fb h.lt (by rw [h.rb];exact h1);obtain ⟨a1,a2⟩:=dj h.sl h.rsl s h2;obtain ⟨b1,b2⟩:=dj h.st h.rst s h3;exact ⟨h.func,h.code,hb.1.trans h.box,a1,b1,hb.2.trans h.rb,a2,b2⟩
theorem lr.mv{S:bD->Prop}{C:MC}{w w':World}{ρ ρ':Nat->bD}{nm I0 C9:Nat->Nat}(s:iC S w w' ρ ρ'):∀{L:List ch},lr C w ρ nm I0 L->(∀i,i < L.length->S (.fb i)/\S (.fsl i)/\S (.fst i)/\C9 i=I0 i)->lr C w' ρ' nm C9 L
 | [],_,_=>trivial
 | x :: l,h,hS=>by
  obtain ⟨vc,vs,vk,f,h0⟩:=h.1;obtain ⟨s1,s2,s3,s4⟩:=hS l.length Q6;refine ⟨⟨vc,vs,vk,f,?_⟩,lr.mv s h.2 fun i hi=>hS i gS⟩;rw [s4];exact h0.mv s s1 s2 s3
theorem ng.lt{w:World}{ρ:Nat->bD}{nm:Nat->Nat}{j:Nat}{c:Int}{fs:List PV}{vf:Value}(h:ng w ρ nm j c fs vf):nm j < w.heap.size:=(Array.getElem?_eq_some_iff.1 h.box).1
theorem ng.mv{S:bD->Prop}{w w':World}{ρ ρ':Nat->bD}{nm:Nat->Nat}{j:Nat}{c:Int}{fs:List PV}{vf:Value}(h:ng w ρ nm j c fs vf)(s:iC S w w' ρ ρ')(h1:S (.bb j))(h2:S (.bf j)):ng w' ρ' nm j c fs vf:=by
 have hb:=s (nm j) h.lt (by rw [h.rb];exact h1);obtain ⟨a1,a2⟩:=dj h.fl h.rf s h2;exact ⟨hb.1.trans h.box,a1,hb.2.trans h.rb,a2⟩
theorem ya.lt{C:MC}{w:World}{ρ:Nat->bD}{I0:Nat->Nat}{n:Nat}{tk ct:Int}{told:List Int}{vf vt:Value}(h:ya C w ρ I0 n tk ct told vf vt):C.mb < w.heap.size:=(Array.getElem?_eq_some_iff.1 h.box).1
theorem ya.mv{S:bD->Prop}{C:MC}{w w':World}{ρ ρ':Nat->bD}{I0:Nat->Nat}{n:Nat}{tk ct:Int}{told:List Int}{vf vt:Value}(h:ya C w ρ I0 n tk ct told vf vt)(s:iC S w w' ρ ρ')(h1:S .mach)(h2:S .frs)(h3:S .tol):ya C w' ρ' I0 n tk ct told vf vt:=by
 have hb:=s C.mb h.lt (by rw [h.rm];exact h1);obtain ⟨a1,a2⟩:=dj h.fr h.rf s h2;obtain ⟨b1,b2⟩:=dj h.tl h.rt s h3;exact ⟨hb.1.trans h.box,a1,b1,hb.2.trans h.rm,a2,b2⟩
def upd(ρ:Nat->bD)(v:Value)(r:bD):Nat->bD:=fun b=>if v.ownBlock=some b then r else ρ b
theorem mu{ρ:Nat->bD}{v:Value}{r:bD}(h:∀b,v.ownBlock=some b->ρ b=r):upd ρ v r=ρ:=by
 funext b
 unfold upd;split
 · rename_i e;exact (h b e).symm
 · rfl
theorem xn{ρ:Nat->bD}{v:Value}{r:bD}{b:Nat}(h:v.ownBlock=some b):upd ρ v r b=r:=if_pos h
theorem xI{ρ:Nat->bD}{v:Value}{r:bD}{b:Nat}(h:¬v.ownBlock=some b):upd ρ v r b=ρ b:=if_neg h
section
variable {C:MC} {w w':World} {ρ:Nat->bD} {nm I0:Nat->Nat} {cs:Nat->Int} {ct:Int} {L:List ch} {bs:List (List PV)} {tk:Nat} {told:List Int}
theorem MW.other(h:MW C w ρ nm I0 cs ct L bs tk told)(ho:w'.os=w.os)(ht:w'.tape=w.tape)(hu:w'.output=w.output)(hs:w.heap.size<=w'.heap.size)(hb:∀b,b < w.heap.size->ρ b≠.no\/b < C.V.heap.size->w'.heap[b]? =w.heap[b]?):MW C w' ρ nm I0 cs ct L bs tk told:=by
 have s:iC (fun r=>r≠.no) w w' ρ ρ:=fun b hl hr=>⟨hb b hl (.inl hr),rfl⟩
 obtain ⟨vf,vt,hm⟩:=h.mb;refine ⟨⟨ho.trans h.gr.os,ht.trans h.gr.tape,hu.trans h.gr.output,Nat.le_trans h.gr.size hs,fun i hi hne=>(hb i (Nat.lt_of_lt_of_le hi h.gr.size) (.inr hi)).trans (h.gr.block i hi hne)⟩,fun b hr=>⟨(h.lo b hr).1,Nat.lt_of_lt_of_le (h.lo b hr).2 hs⟩,⟨vf,vt,hm.mv s nofun nofun nofun⟩,h.frs.mv s fun i _=>⟨nofun,nofun,nofun,rfl⟩,fun j fs hj=>?_⟩;obtain ⟨⟨v,hB⟩,hc⟩:=h.blks j fs hj;exact ⟨⟨v,hB.mv s nofun nofun⟩,hc⟩
theorem MW.of_gr(h:MW C w ρ nm I0 cs ct L bs tk told)(g:Gr w w'):MW C w' ρ nm I0 cs ct L bs tk told:=h.other g.os g.tape g.output g.size fun b hb _=>g.block b hb Q6
theorem MW.new_no(h:MW C w ρ nm I0 cs ct L bs tk told){b:Nat}(hb:w.heap.size<=b):ρ b=.no:=Classical.byContradiction fun e=>by have:=(h.lo b e).2;omega
theorem MW.top_upd{x x':ch}{vc vs vk vk':Value}{f:aO}(h:MW C w ρ nm I0 cs ct (x :: L) bs tk told)(ht:lD C w ρ nm L.length (I0 L.length) x vc vs vk f)(MD:x'.fn=x.fn)(hF:lW w' (I0 L.length) vc (x'.pos:Int) vs vk')(hs:w'.ownsRow 0 166 2 vs x'.slots.length (dc nm x'.slots))(hk:w'.ownsRow 0 166 2 vk' x'.stack.length (dc nm x'.stack))
 (R':vk'.ownBlock=vk.ownBlock\/∃k,vk'.ownBlock=some k/\w.heap.size<=k) (Gn:w'.os=w.os) (Qw:w'.tape=w.tape) (Rw:w'.output=w.output) (R0:w.heap.size<=w'.heap.size) (hblk:∀b,b < w.heap.size->ρ b≠.fb L.length->ρ b≠.fsl L.length->ρ b≠.fst L.length->w'.heap[b]? =w.heap[b]?):
 MW C w' (upd ρ vk' (.fst L.length)) nm I0 cs ct (x' :: L) bs tk told/\am w w' ρ (upd ρ vk' (.fst L.length)):=by
 have hr:∀b,b < w.heap.size->upd ρ vk' (.fst L.length) b=ρ b:=fun b hb=>by
  unfold upd;split
  · rename_i e
    rcases R' with h1|⟨k,h1,h2⟩
    · exact (ht.rst b (h1▸e)).symm
    · rw [h1] at e;cases e;omega
  · rfl
 have s:iC (fun r=>r≠.fb L.length/\r≠.fsl L.length/\r≠.fst L.length) w w' ρ (upd ρ vk' (.fst L.length)):=fun b hb hS=>⟨hblk b hb hS.1 hS.2.1 hS.2.2,hr b hb⟩
 have K:am w w' ρ (upd ρ vk' (.fst L.length)):=⟨Gn,Qw,Rw,R0,hr,fun b hb e=>hblk b hb (by rw [e];nofun) (by rw [e];nofun) (by rw [e];nofun)⟩;obtain ⟨vf,vt,hm⟩:=h.mb;refine ⟨⟨K.gr h.gr h.lo,fun b hb=>?_,⟨vf,vt,hm.mv s ⟨nofun,nofun,nofun⟩ ⟨nofun,nofun,nofun⟩ ⟨nofun,nofun,nofun⟩⟩,⟨⟨vc,vs,vk',f,?_⟩,h.frs.2.mv s fun i hi=>⟨⟨by simp;omega,nofun,nofun⟩,⟨nofun,by simp;omega,nofun⟩,⟨nofun,nofun,by simp;omega⟩,rfl⟩⟩,fun j fs hj=>?_⟩,K⟩
 · by_cases e:vk'.ownBlock=some b
   · have hl:=(hk.lt b e).2;rcases R' with h1|⟨k,h1,h2⟩
     · exact ⟨(h.lo b (by rw [ht.rst b (h1▸e)];nofun)).1,hl⟩
     · rw [h1] at e;cases e;have:=h.gr.size;exact ⟨Q5,hl⟩
   · rw [xI e] at hb;have:=h.lo b hb
     exact ⟨this.1,Q5⟩
 · refine ⟨by rw [MD];exact ht.func,ht.code,hF,hs,hk,?_,fun b hb=>?_,fun b hb=>xn hb⟩
   · rw [hr _ ht.lt];exact ht.rb
   · rw [hr b (ht.sl.lt b hb).2];exact ht.rsl b hb
 · obtain ⟨⟨v,hB⟩,hc⟩:=h.blks j fs hj;exact ⟨⟨v,hB.mv s ⟨nofun,nofun,nofun⟩ ⟨nofun,nofun,nofun⟩⟩,hc⟩
end
def ra(C:MC)(w:World)(ρ:Nat->bD)(nm I0:Nat->Nat)(cs:Nat->Int)(ct:Int)(L:List ch)(bs:List (List PV))(tk:Nat)(told:List Int)(w':World):Prop:=∃ρ',MW C w' ρ' nm I0 cs ct L bs tk told/\am w w' ρ ρ'
def ch.st(x:ch)(s:List PV):ch:=⟨x.fn,x.pos,x.slots,s⟩
def ch.go(x:ch)(p:Nat):ch:=⟨x.fn,p,x.slots,x.stack⟩
section
variable {C:MC} {w w':World} {ρ:Nat->bD} {nm I0:Nat->Nat} {cs:Nat->Int} {ct:Int} {L:List ch} {bs:List (List PV)} {tk:Nat} {told:List Int}
theorem lD.ne_st{i fb:Nat}{x:ch}{vc vs vk:Value}{f:aO}(h:lD C w ρ nm i fb x vc vs vk f):¬vk.ownBlock=some fb:=fun e=>by have:=h.rst fb e;rw [h.rb] at this;cases this
theorem lD.ne_sl{i fb:Nat}{x:ch}{vc vs vk:Value}{f:aO}(h:lD C w ρ nm i fb x vc vs vk f):¬vs.ownBlock=some fb:=fun e=>by have:=h.rsl fb e;rw [h.rb] at this;cases this
theorem lD.ne_ss{i fb:Nat}{x:ch}{vc vs vk:Value}{f:aO}(h:lD C w ρ nm i fb x vc vs vk f){b:Nat}(h1:vs.ownBlock=some b)(h2:vk.ownBlock=some b):False:=by have:=h.rsl b h1;rw [h.rst b h2] at this;cases this
theorem fo{x:ch}(v:PV)(h:MW C w ρ nm I0 cs ct (x :: L) bs tk told)(hn:x.stack.length<=1000):
 Calls Tryz.prog 93 #[.pointer (some ⟨I0 L.length,0,none⟩),.agg #[.int .i64 v.num,.pointer (di nm v.blk)]] w fun e w'=>e=.returned (.tuple #[])/\ra C w ρ nm I0 cs ct (x.st (x.stack++ [v]) :: L) bs tk told w':=by
 obtain ⟨vc,vs,vk,f,ht⟩:=h.frs.1;refine (xo w _ vc _ vs vk _ _ v.num (di nm v.blk) ht.box ht.st ht.ne_st Q5).mono ?_;rintro e w' ⟨vk',rfl,hF,ho,R',T⟩;have hu:=h.top_upd (w':=w') (x':=x.st (x.stack++ [v])) (vk':=vk') ht rfl hF (bS ht.sl fun k hk=>T.blk k (ht.sl.lt k hk).2 (fun e=>ht.ne_sl (e▸hk)) (fun e=>ht.ne_ss hk e)) (by
  show w'.ownsRow 0 _ 2 vk' (x.stack++ [v]).length (dc nm (x.stack++ [v]))
  rw [jT,List.length_append];exact ho) R' T.os T.tape T.output T.size (fun b hb h1 _ h3=>T.blk b hb (fun e=>h1 (e▸ht.rb)) (fun e=>h3 (ht.rst b e)))
 exact ⟨rfl,_,hu.1,hu.2⟩
theorem er{x:ch}{s:List PV}{v:PV}(h:MW C w ρ nm I0 cs ct (x :: L) bs tk told)(hx:x.stack=s++ [v])(hn:x.stack.length<=1000):
 Calls Tryz.prog 90 #[.pointer (some ⟨I0 L.length,0,none⟩)] w fun e w'=>e=.returned (.agg #[.int .i64 v.num,.pointer (di nm v.blk)])/\ra C w ρ nm I0 cs ct (x.st s :: L) bs tk told w':=by
 obtain ⟨vc,vs,vk,f,ht⟩:=h.frs.1;have ho:=ht.st;have hB:=ht.box;have hne:=ht.ne_st;have PD:=ht.rst;rw [hx,List.length_append,jT] at ho;obtain ⟨g,cap,rfl⟩:∃g cap,vk=.slice (some ⟨g,0,none⟩) (s.length+1) cap:=by
  rcases ho.2 with ⟨_,h⟩|⟨g,cap,cur,e,_⟩
  · simp at h
  · exact ⟨g,cap,e⟩
 rw [hx,List.length_append] at hn;simp at hn
 refine (zD w _ vc _ vs g s.length cap (dc nm s) v.num (di nm v.blk) hB ho (ml _ _) (fun e=>hne (by rw [<-e];rfl)) Q5).mono ?_;rintro e w' ⟨rfl,hF,Xz,T⟩;have hu:=h.top_upd (w':=w') (x':=x.st s) (vk':=.slice (some ⟨g,0,none⟩) s.length cap) ht rfl hF (bS ht.sl fun k hk=>T.blk k (ht.sl.lt k hk).2 (fun e=>ht.ne_sl (e▸hk)) nofun) Xz (.inl rfl) T.os T.tape T.output T.size (fun b hb h1 _ h3=>T.blk b hb (fun e=>h1 (e▸ht.rb)) nofun);exact ⟨rfl,_,hu.1,hu.2⟩
theorem qx{x:ch}{a b:List PV}(h:MW C w ρ nm I0 cs ct (x :: L) bs tk told)(hx:x.stack=a++b)(hn:x.stack.length<=1000):
 Calls Tryz.prog 91 #[.pointer (some ⟨I0 L.length,0,none⟩),.int .i64 (b.length:Int)] w fun e w'=>∃v,e=.returned v/\w'.ownsRow w.heap.size 166 2 v b.length (dc nm b)/\MW C w' ρ nm I0 cs ct (x.st a :: L) bs tk told/\am w w' ρ ρ:=by
 obtain ⟨vc,vs,vk,f,ht⟩:=h.frs.1;have ho:=ht.st;rw [hx,List.length_append,jT] at ho;rw [hx,List.length_append] at hn;refine (vH w _ vc _ vs vk a.length b.length (dc nm a) (dc nm b) ht.box ho (ml _ _) (qM _ _) ht.ne_st Q5).mono ?_;rintro e w' ⟨v,vk',rfl,hv,hF,Xz,R',T⟩;have hu:=h.top_upd (w':=w') (x':=x.st a) (vk':=vk') ht rfl hF (bS ht.sl fun k hk=>T.blk k (ht.sl.lt k hk).2 (fun e=>ht.ne_sl (e▸hk)) nofun) Xz (.inl R') T.os T.tape T.output T.size (fun b hb h1 _ h3=>T.blk b hb (fun e=>h1 (e▸ht.rb)) nofun);rw [mu (fun b hb=>ht.rst b (R'▸hb))] at hu;exact ⟨v,rfl,hv,hu.1,hu.2⟩
theorem MW.setPos{x:ch}(p:Nat)(h:MW C w ρ nm I0 cs ct (x :: L) bs tk told):MW C (w.setCell ⟨I0 L.length,1,none⟩ (.int .i64 (p:Int))) ρ nm I0 cs ct (x.go p :: L) bs tk told/\am w (w.setCell ⟨I0 L.length,1,none⟩ (.int .i64 (p:Int))) ρ ρ:=by
 obtain ⟨vc,vs,vk,f,ht⟩:=h.frs.1;have hu:=h.top_upd (w':=w.setCell ⟨I0 L.length,1,none⟩ (.int .i64 (p:Int))) (x':=x.go p) (vk':=vk) ht rfl ((heap_setCell_same w _ 1 _ _ _ ht.box).trans (by simp [ch.go])) (bS ht.sl fun k hk=>Below.heap_setCell _ _ _ _ (by show k≠I0 L.length;exact fun e=>ht.ne_sl (e▸hk))) (bS ht.st fun k hk=>Below.heap_setCell _ _ _ _ (by show k≠I0 L.length;exact fun e=>ht.ne_st (e▸hk))) (.inl rfl) rfl rfl rfl Q6 (fun b hb h1 _ _=>Below.heap_setCell _ _ _ _ (by show b≠I0 L.length;exact fun e=>h1 (e▸ht.rb)));rw [mu ht.rst] at hu;exact hu
end
theorem rO{w:World}{B g n cap:Nat}{e:TypeId}{xs:List Value}(h:w.ownsRow B e 2 (.slice (some ⟨g,0,none⟩) n cap) n xs)(j:Nat)(p q:Value):((w.setCell ⟨g,j * 2,none⟩ p).setCell ⟨g,j * 2+1,none⟩ q).ownsRow B e 2 (.slice (some ⟨g,0,none⟩) n cap) n ((xs.set (j * 2) p).set (j * 2+1) q):=by
 obtain ⟨h1,h2⟩:=h;refine ⟨by simpa using h1,.inr ?_⟩;rcases h2 with ⟨h,_⟩|⟨g',Se,cur,he,a1,a2,a3,a4,a5,a6⟩
 · cases h
 · cases he
   refine ⟨g,cap,_,rfl,a1,heap_setCell_same _ g _ _ _ _ (heap_setCell_same w g _ _ _ _ a2),a3,a4,by simpa using a5,?_⟩;rw [<-a6];simp [List.take_set]
open Go.RowKit
section
variable {C:MC} {w w':World} {ρ:Nat->bD} {nm I0:Nat->Nat} {cs:Nat->Int} {ct:Int} {L:List ch} {bs:List (List PV)} {tk:Nat} {told:List Int}
theorem qH{w0:World}{ρ0:Nat->bD}{g:aO}{q:Nat}{ps:List PV}{vp:Value}(h:MW C w ρ nm I0 cs ct L bs tk told)(h0:am w0 w ρ0 ρ)(hV:C.V.heap.size<=w0.heap.size)(hR:dH C.V C.v3 C.u.aE)(hg:C.u.aE[q]? =some g)(Ie:C.u.aE.length<=30)(hp:w.ownsRow w0.heap.size 166 2 vp ps.length (dc nm ps))(hρ:∀k,vp.ownBlock=some k->ρ k=.no)(hL:L.length<=1000)(hn:ps.length+g.aG.length<=1000):
 Calls Tryz.prog 50 #[.pointer (some ⟨C.mb,0,none⟩),.int .i64 (q:Int),vp] w fun e w'=>∃ρ' C9,e=.returned (.pointer (some ⟨C9 L.length,0,none⟩))/\MW C w' ρ' nm C9 cs ct (⟨q,0,ps++fQ g.aG.length,[]⟩ :: L) bs tk told/\am w0 w' ρ0 ρ':=by
 obtain ⟨vf,vt,hm⟩:=h.mb;obtain ⟨ao,Ob,N7,Pq,hc⟩:=hR;obtain ⟨b,off,vpp,vl,vc,K_,k0,k1,k2,k3,r1,r2,r3⟩:=hc q g hg;subst K_;have JD:=(List.getElem?_eq_some_iff.1 hg).1;obtain ⟨fa,fc,rfl,_⟩:=r1;obtain ⟨la,lc,rfl,_⟩:=r2;have r3':=r3;obtain ⟨ca,cc,rfl,_⟩:=r3;obtain ⟨pa,pc,rfl⟩:=aL hp;have hM:=hm.box;rw [N7] at hM;refine (uF w C.mb C.v1 C.v2 C.v4 C.v5 vf _ _ ct vt L.length (ko I0 L.length) b off C.u.aE.length Ob q fa la ca pa g.aF.length fc g.aG.length lc g.code.length cc ps.length pc g.result (dc nm ps) hM JD Q5 (h.gr.cell k0 Q6) (h.gr.cell k1 Q6) (h.gr.cell k2 Q6) (h.gr.cell k3 Q6) hm.fr (fun e=>by have:=hm.rf _ e;rw [hm.rm] at this;cases this) hL ⟨hp.1,hp.2.imp id (fun ⟨g,c,cur,e1,e2,e3⟩=>⟨g,c,cur,e1,Nat.zero_le _,e3⟩)⟩ (fun e=>by have:=hρ _ e;rw [hm.rm] at this;cases this) (fun b e1 e2=>by have:=hρ b e1;rw [hm.rf b e2] at this;cases this) Q5).mono ?_;rintro e w' ⟨nb,vs,Tp,rfl,hF,hs,Wy,Oe,hsn,FA,DS,hfo,Gn,Qw,Rw,R0,hblk⟩;have hnb':nb < w'.heap.size:=(Array.getElem?_eq_some_iff.1 hF).1;have Y':=h.gr.size;have h0s:=h0.size;have Yi:∀b,vs.ownBlock=some b->b < w.heap.size->ρ b=.no/\w0.heap.size<=b:=fun b hb hl=>by
  rcases Wy with e|⟨k,e,hk⟩
  · exact ⟨hρ b (e▸hb),(hp.lt b (e▸hb)).1⟩
  · rw [hb] at e;cases e;omega
 have Vp:∀b,Tp.ownBlock=some b->b < w.heap.size->ρ b=.frs:=fun b hb hl=>by
  rcases hfo with e|⟨k,e,hk,_⟩
  · exact hm.rf b (e▸hb)
  · rw [hb] at e;cases e;omega
 let ρ':Nat->bD:=fun b=>if b=nb then .fb L.length else if vs.ownBlock=some b then .fsl L.length else if Tp.ownBlock=some b then .frs else ρ b
 have Ez:ρ' nb=.fb L.length:=if_pos rfl;have F6:∀b,vs.ownBlock=some b->ρ' b=.fsl L.length:=fun b hb=>by
  have e1:¬b=nb:=fun e=>hsn (e▸hb)
  show (if b=nb then _ else _)=_
  rw [if_neg e1,if_pos hb]
 have Lr:∀b,Tp.ownBlock=some b->ρ' b=.frs:=fun b hb=>by
  have e1:¬b=nb:=fun e=>by
   rcases hfo with e2|⟨k,e2,hk,P7,_⟩
   · have:=(hm.fr.lt b (e2▸hb)).2;omega
   · rw [hb] at e2;cases e2;exact P7 e
  have e2:¬vs.ownBlock=some b:=fun e=>by
   rcases hfo with e2|⟨k,e2,hk,P7,Ti⟩
   · have hl:=(hm.fr.lt b (e2▸hb)).2;have:=(Yi b e hl).1
     rw [hm.rf b (e2▸hb)] at this;cases this
   · rw [hb] at e2;cases e2;exact Ti e
  show (if b=nb then _ else _)=_
  rw [if_neg e1,if_neg e2,if_pos hb]
 have hr4:∀b,b < w.heap.size->(ρ b≠.no\/b < w0.heap.size)->ρ' b=ρ b:=fun b hb hn=>by
  show (if b=nb then _ else _)=_
  have e1:¬b=nb:=Q5
  have e2:¬vs.ownBlock=some b:=fun e=>by
   have:=Yi b e hb
   rcases hn with hn|hn
   · exact hn this.1
   · omega
  rw [if_neg e1,if_neg e2];split
  · rename_i e;exact (Vp b e hb).symm
  · rfl
 have QD:∀b,(Value.slice pa ps.length pc).ownBlock=some b->ρ b=.no/\w0.heap.size<=b:=fun b hb=>⟨hρ b hb,(hp.lt b hb).1⟩
 have s:iC (fun r=>r≠.no/\r≠.mach/\r≠.frs) w w' ρ ρ':=fun b hb hS=>⟨hblk b hb (fun e=>hS.2.1 (e▸hm.rm)) (fun e=>hS.1 (QD b e).1) (fun e=>hS.2.2 (hm.rf b e)),hr4 b hb (.inl hS.1)⟩
 have K:am w0 w' ρ0 ρ':=⟨Gn.trans h0.os,Qw.trans h0.tape,Rw.trans h0.output,Q5,fun b hb=>(hr4 b Q5 (.inr hb)).trans (h0.role b hb),fun b hb e=>by
  have eb:ρ b=.no:=(h0.role b hb).trans e;exact (hblk b Q5 (fun e=>by rw [e,hm.rm] at eb;cases eb) (fun e=>by have:=(QD b e).2;omega) (fun e=>by have:=hm.rf b e;rw [eb] at this;cases this)).trans (h0.keep b hb e)⟩
 have K2:Gr C.V w':=⟨Gn.trans h.gr.os,Qw.trans h.gr.tape,Rw.trans h.gr.output,Q5,fun b hb hne=>by
  have eb:ρ b=.no:=Classical.byContradiction fun e=>by have:=(h.lo b e).1;omega
  exact (hblk b Q5 (fun e=>by rw [e,hm.rm] at eb;cases eb) (fun e=>by have:=(QD b e).2;omega) (fun e=>by have:=hm.rf b e;rw [eb] at this;cases this)).trans (h.gr.block b hb hne)⟩
 obtain ⟨t1,t2⟩:=dj hm.tl hm.rt s ⟨nofun,nofun,nofun⟩;have I_:∀i,i < L.length->(fun i=>if i=L.length then nb else I0 i) i=I0 i:=fun i hi=>if_neg Q5
 refine ⟨ρ',fun i=>if i=L.length then nb else I0 i,Q6,⟨K2,fun b hb=>?_,⟨Tp,vt,⟨by rw [N7];exact FA,?_,t1,?_,Lr,t2⟩⟩,⟨⟨.slice ca g.code.length cc,vs,.slice none 0 0,g,⟨hg,r3',?_,?_,World.ownsRow_nil _ _ _ _,?_,F6,fun b hb=>by cases hb⟩⟩,h.frs.mv s fun i hi=>⟨⟨nofun,nofun,nofun⟩,⟨nofun,nofun,nofun⟩,⟨nofun,nofun,nofun⟩,I_ i hi⟩⟩,fun j fs hj=>?_⟩,K⟩
 · by_cases e1:b=nb
   · subst e1;exact ⟨Q5,hnb'⟩
   · by_cases e2:vs.ownBlock=some b
     · refine ⟨?_,(hs.lt b e2).2⟩;by_cases hl:b < w.heap.size
       · have:=(Yi b e2 hl).2;omega
       · omega
     · by_cases e3:Tp.ownBlock=some b
       · refine ⟨?_,(DS.lt b e3).2⟩;by_cases hl:b < w.heap.size
         · exact (h.lo b (by rw [Vp b e3 hl];nofun)).1
         · omega
       · have e4:ρ' b=ρ b:=by
          show (if b=nb then _ else _)=_
          rw [if_neg e1,if_neg e2,if_neg e3]
         rw [e4] at hb;have:=h.lo b hb
         exact ⟨this.1,Q5⟩
 · show w'.ownsRow 0 _ 1 Tp (L.length+1) _
   rw [List.length_cons,oP,rv I_];simpa using DS
 · rw [hr4 _ hm.lt (.inl (by rw [hm.rm];nofun))];exact hm.rm
 · simpa using hF
 · rw [List.length_append,jT,<-wY];simpa [fQ] using hs
 · simpa using Ez
 · obtain ⟨⟨v,hB⟩,hc⟩:=h.blks j fs hj;exact ⟨⟨v,hB.mv s ⟨nofun,nofun,nofun⟩ ⟨nofun,nofun,nofun⟩⟩,hc⟩
theorem qq{x:ch}(h:MW C w ρ nm I0 cs ct (x :: L) bs tk told)(hL:L.length<=1000):
 Calls Tryz.prog 92 #[.pointer (some ⟨C.mb,0,none⟩)] w fun e w'=>e=.returned (if L.length=0 then .pointer none else .pointer (some ⟨I0 (L.length - 1),0,none⟩))/\MW C w' ρ nm I0 cs ct L bs tk told/\am w w' ρ ρ:=by
 obtain ⟨vf,vt,hm⟩:=h.mb;have ho:=hm.fr;have hM:=hm.box;have hrf:=hm.rf;obtain ⟨g,cap,rfl⟩:∃g cap,vf=.slice (some ⟨g,0,none⟩) (L.length+1) cap:=by
  rcases ho.2 with ⟨_,h⟩|⟨g,cap,cur,e,_⟩
  · simp at h
  · exact ⟨g,cap,e⟩
 rw [List.length_cons,oP] at ho;refine (uK w C.mb C.v1 C.v2 C.v3 C.v4 C.v5 _ _ ct vt g L.length cap (ko I0 L.length) _ hM ho (fun e=>by have:=hrf g rfl;rw [e,hm.rm] at this;cases this) hL (fun u hu=>?_)).mono ?_
 · simp only [ko,List.mem_map] at hu;obtain ⟨i,_,rfl⟩:=hu;exact ⟨_,rfl⟩
 rintro e w' ⟨rfl,FA,DS,T⟩;have s:iC (fun r=>r≠.mach/\r≠.frs) w w' ρ ρ:=fun b hb hS=>⟨T.blk b hb (fun e=>hS.1 (e▸hm.rm)) nofun,rfl⟩
 have K:am w w' ρ ρ:=⟨T.os,T.tape,T.output,T.size,fun _ _=>rfl,fun b hb e=>T.blk b hb (fun e2=>by rw [e2,hm.rm] at e;cases e) nofun⟩;obtain ⟨t1,t2⟩:=dj hm.tl hm.rt s ⟨nofun,nofun⟩;refine ⟨?_,⟨K.gr h.gr h.lo,fun b hb=>⟨(h.lo b hb).1,Nat.lt_of_lt_of_le (h.lo b hb).2 T.size⟩,⟨_,vt,⟨FA,DS,t1,hm.rm,fun b hb=>hrf b hb,t2⟩⟩,h.frs.2.mv s fun i hi=>⟨⟨nofun,nofun⟩,⟨nofun,nofun⟩,⟨nofun,nofun⟩,rfl⟩,fun j fs hj=>?_⟩,K⟩
 · by_cases e:L.length=0
   · rw [if_pos e,if_pos e]
   · rw [if_neg e,if_neg e,List.getD_eq_getElem?_getD,tP I0 (show L.length - 1 < L.length by omega)];rfl
 · obtain ⟨⟨v,hB⟩,hc⟩:=h.blks j fs hj;exact ⟨⟨v,hB.mv s ⟨nofun,nofun⟩ ⟨nofun,nofun⟩⟩,hc⟩
theorem zY(x:Int)(h:MW C w ρ nm I0 cs ct L bs tk told)(hl:told.length<=1000):
 Calls Tryz.prog 97 #[.pointer (some ⟨C.mb,0,none⟩),.int .i64 x] w fun e w'=>e=.returned (.tuple #[])/\ra C w ρ nm I0 cs ct L bs tk (kG told x) w':=by
 obtain ⟨vf,vt,hm⟩:=h.mb;refine (xw w C.mb C.v1 C.v2 C.v3 C.v4 C.v5 vf _ _ ct vt told x hm.box hm.tl (fun e=>by have:=hm.rt _ e;rw [hm.rm] at this;cases this) hl).mono ?_;rintro e w' ⟨Vr,rfl,FA,ht',R',T⟩;have hr:∀b,b < w.heap.size->upd ρ Vr .tol b=ρ b:=fun b hb=>by
  unfold upd;split
  · rename_i e
    rcases R' with h1|⟨k,h1,h2⟩
    · exact (hm.rt b (h1▸e)).symm
    · rw [h1] at e;cases e;omega
  · rfl
 have s:iC (fun r=>r≠.mach/\r≠.tol) w w' ρ (upd ρ Vr .tol):=fun b hb hS=>⟨T.blk b hb (fun e=>hS.1 (e▸hm.rm)) (fun e=>hS.2 (hm.rt b e)),hr b hb⟩
 have K:am w w' ρ (upd ρ Vr .tol):=⟨T.os,T.tape,T.output,T.size,hr,fun b hb e=>T.blk b hb (fun e2=>by rw [e2,hm.rm] at e;cases e) (fun e2=>by rw [hm.rt b e2] at e;cases e)⟩;obtain ⟨t1,t2⟩:=dj hm.fr hm.rf s ⟨nofun,nofun⟩;refine ⟨rfl,_,⟨K.gr h.gr h.lo,fun b hb=>?_,⟨vf,Vr,⟨FA,t1,ht',by rw [hr _ hm.lt];exact hm.rm,t2,fun b hb=>xn hb⟩⟩,h.frs.mv s fun i hi=>⟨⟨nofun,nofun⟩,⟨nofun,nofun⟩,⟨nofun,nofun⟩,rfl⟩,fun j fs hj=>?_⟩,K⟩
 · by_cases e:Vr.ownBlock=some b
   · refine ⟨?_,(ht'.lt b e).2⟩;rcases R' with h1|⟨k,h1,h2⟩
     · exact (h.lo b (by rw [hm.rt b (h1▸e)];nofun)).1
     · rw [h1] at e;cases e;have:=h.gr.size;omega
   · rw [xI e] at hb;have:=h.lo b hb
     exact ⟨this.1,Nat.lt_of_lt_of_le this.2 T.size⟩
 · obtain ⟨⟨v,hB⟩,hc⟩:=h.blks j fs hj;exact ⟨⟨v,hB.mv s ⟨nofun,nofun⟩ ⟨nofun,nofun⟩⟩,hc⟩
theorem MW.setSlot{x:ch}{vc vs vk:Value}{f:aO}{g n cap a:Nat}(v:PV)(h:MW C w ρ nm I0 cs ct (x :: L) bs tk told)(ht:lD C w ρ nm L.length (I0 L.length) x vc vs vk f)(Jz:vs=.slice (some ⟨g,0,none⟩) n cap):
 MW C ((w.setCell ⟨g,a * 2,none⟩ (.int .i64 v.num)).setCell ⟨g,a * 2+1,none⟩ (.pointer (di nm v.blk))) ρ nm I0 cs ct (⟨x.fn,x.pos,x.slots.set a v,x.stack⟩ :: L) bs tk told/\am w ((w.setCell ⟨g,a * 2,none⟩ (.int .i64 v.num)).setCell ⟨g,a * 2+1,none⟩ (.pointer (di nm v.blk))) ρ ρ:=by
 subst Jz;have hsl:=ht.sl;have hn:n=x.slots.length:=by
  obtain ⟨ao,cp,e⟩:=aL hsl;cases e;rfl
 subst hn;have hoth:∀b,¬b=g->((w.setCell ⟨g,a * 2,none⟩ (.int .i64 v.num)).setCell ⟨g,a * 2+1,none⟩ (.pointer (di nm v.blk))).heap[b]? =w.heap[b]? :=fun b hb=>(Below.heap_setCell _ _ _ _ hb).trans (Below.heap_setCell _ _ _ _ hb)
 have hg:=ht.rsl g rfl;have hu:=h.top_upd (w':=(w.setCell ⟨g,a * 2,none⟩ (.int .i64 v.num)).setCell ⟨g,a * 2+1,none⟩ (.pointer (di nm v.blk))) (x':=⟨x.fn,x.pos,x.slots.set a v,x.stack⟩) (vk':=vk) ht rfl ((hoth _ (fun e=>by have:=ht.rb;rw [e,hg] at this;cases this)).trans ht.box) (by
  have:=rO hsl a (.int .i64 v.num) (.pointer (di nm v.blk))
  rw [mV] at this;simpa using this) (bS ht.st fun k hk=>hoth k (fun e=>by have:=ht.rst k hk;rw [e,hg] at this;cases this)) (.inl rfl) rfl rfl rfl Q6 (fun b hb _ h2 _=>hoth b (fun e=>h2 (e▸hg)))
 rw [mu ht.rst] at hu;exact hu
theorem MW.bk_upd{j:Nat}{fs fs':List PV}{c':Int}{vf:Value}(h:MW C w ρ nm I0 cs ct L bs tk told)(hj:bs[j]? =some fs)(hB:ng w ρ nm j (cs j) fs vf)(Hn:ng w' ρ nm j c' fs' vf)(hc:0<=c'/\c'<=ct)(Gn:w'.os=w.os)(Qw:w'.tape=w.tape)(Rw:w'.output=w.output)(R0:w.heap.size<=w'.heap.size)(hblk:∀b,b < w.heap.size->ρ b≠.bb j->ρ b≠.bf j->w'.heap[b]? =w.heap[b]?):
 MW C w' ρ nm I0 (fun k=>if k=j then c' else cs k) ct L (bs.set j fs') tk told/\am w w' ρ ρ:=by
 have s:iC (fun r=>r≠.bb j/\r≠.bf j) w w' ρ ρ:=fun b hb hS=>⟨hblk b hb hS.1 hS.2,rfl⟩
 have K:am w w' ρ ρ:=⟨Gn,Qw,Rw,R0,fun _ _=>rfl,fun b hb e=>hblk b hb (by rw [e];nofun) (by rw [e];nofun)⟩;obtain ⟨vf1,vt,hm⟩:=h.mb;refine ⟨⟨K.gr h.gr h.lo,fun b hb=>⟨(h.lo b hb).1,Nat.lt_of_lt_of_le (h.lo b hb).2 R0⟩,⟨vf1,vt,hm.mv s ⟨nofun,nofun⟩ ⟨nofun,nofun⟩ ⟨nofun,nofun⟩⟩,h.frs.mv s fun i hi=>⟨⟨nofun,nofun⟩,⟨nofun,nofun⟩,⟨nofun,nofun⟩,rfl⟩,fun k gs hk=>?_⟩,K⟩;by_cases e:k=j
 · subst e;have hl:=(List.getElem?_eq_some_iff.1 hj).1;rw [List.getElem?_set_self hl] at hk;cases hk
   simp only [if_true];exact ⟨⟨vf,Hn⟩,hc⟩
 · rw [List.getElem?_set_ne (fun e2=>e e2.symm)] at hk;simp only [e,if_false];obtain ⟨⟨v,hK⟩,S5⟩:=h.blks k gs hk;exact ⟨⟨v,hK.mv s ⟨by simp;omega,nofun⟩ ⟨nofun,by simp;omega⟩⟩,S5⟩
theorem MW.setField{j a g n cap:Nat}{fs:List PV}(v:PV)(h:MW C w ρ nm I0 cs ct L bs tk told)(hj:bs[j]? =some fs)(hB:ng w ρ nm j (cs j) fs (.slice (some ⟨g,0,none⟩) n cap)):
 MW C ((w.setCell ⟨g,a * 2,none⟩ (.int .i64 v.num)).setCell ⟨g,a * 2+1,none⟩ (.pointer (di nm v.blk))) ρ nm I0 cs ct L (bs.set j (fs.set a v)) tk told/\am w ((w.setCell ⟨g,a * 2,none⟩ (.int .i64 v.num)).setCell ⟨g,a * 2+1,none⟩ (.pointer (di nm v.blk))) ρ ρ:=by
 have Ie:=hB.fl;have hn:n=fs.length:=by
  obtain ⟨ao,cp,e⟩:=aL Ie;cases e;rfl
 subst hn;have hoth:∀b,¬b=g->((w.setCell ⟨g,a * 2,none⟩ (.int .i64 v.num)).setCell ⟨g,a * 2+1,none⟩ (.pointer (di nm v.blk))).heap[b]? =w.heap[b]? :=fun b hb=>(Below.heap_setCell _ _ _ _ hb).trans (Below.heap_setCell _ _ _ _ hb)
 have hg:=hB.rf g rfl;have hc:=(h.blks j fs hj).2;have e:(fun k=>if k=j then cs j else cs k)=cs:=by
  funext k
  split
  · rename_i e;rw [e]
  · rfl
 have hu:=h.bk_upd (w':=(w.setCell ⟨g,a * 2,none⟩ (.int .i64 v.num)).setCell ⟨g,a * 2+1,none⟩ (.pointer (di nm v.blk))) (fs':=fs.set a v) (c':=cs j) hj hB ⟨(hoth _ (fun e=>by have:=hB.rb;rw [e,hg] at this;cases this)).trans hB.box,by
  have:=rO Ie a (.int .i64 v.num) (.pointer (di nm v.blk))
  rw [mV] at this;simpa using this,hB.rb,hB.rf⟩ hc rfl rfl rfl Q6 (fun b hb _ h2=>hoth b (fun e=>h2 (e▸hg)))
 rw [e] at hu;exact hu
theorem MW.mark{j:Nat}{fs:List PV}{vf:Value}(c:Int)(h:MW C w ρ nm I0 cs ct L bs tk told)(hj:bs[j]? =some fs)(hB:ng w ρ nm j (cs j) fs vf)(hc:0<=c/\c<=ct):
 MW C (w.setCell ⟨nm j,1,none⟩ (.int .i64 c)) ρ nm I0 (fun k=>if k=j then c else cs k) ct L bs tk told/\am w (w.setCell ⟨nm j,1,none⟩ (.int .i64 c)) ρ ρ:=by
 have hoth:∀b,¬b=nm j->(w.setCell ⟨nm j,1,none⟩ (.int .i64 c)).heap[b]? =w.heap[b]? :=fun b hb=>Below.heap_setCell _ _ _ _ hb
 have hu:=h.bk_upd (w':=w.setCell ⟨nm j,1,none⟩ (.int .i64 c)) (fs':=fs) (c':=c) hj hB ⟨(heap_setCell_same w _ 1 _ _ _ hB.box).trans Q6,bS hB.fl fun k hk=>hoth k (fun e=>by have:=hB.rf k hk;rw [e,hB.rb] at this;cases this),hB.rb,hB.rf⟩ hc rfl rfl rfl Q6 (fun b hb h1 _=>hoth b (fun e=>h1 (e▸hB.rb)));have e:bs.set j fs=bs:=by
  apply List.ext_getElem?
  intro k;by_cases e:j=k
  · subst e;rw [List.getElem?_set_self (List.getElem?_eq_some_iff.1 hj).1,hj]
  · rw [List.getElem?_set_ne e]
 rw [e] at hu;exact hu
end
open Go.RowKit
section
variable {P:Program} {ops:Array Oper} {Q:Exit->Act->World->Prop} {md:Region.Mode} {S:World->Prop}
inductive jX(md:Region.Mode)(ops:Array Oper)(C0:Array Bool)(i:Nat):Nat->Prop
 | one {z:Nat} {oz:Oper} (hz:ops[z]? =some oz) (hi:∃e∈oz.after,Region.binds md e=true/\e.on=i) (hl:C0.getD i true=false):jX md ops C0 i z
 | more {z d:Nat} {oz:Oper} (hz:ops[z]? =some oz) (hi:∃e∈oz.after,Region.binds md e=true/\e.on=d) (hl:C0.getD d true=false) (h:jX md ops C0 i d):jX md ops C0 i z
theorem not_ready{C0:Array Bool}{z d:Nat}{oz:Oper}(hz:ops[z]? =some oz)(hi:∃e∈oz.after,Region.binds md e=true/\e.on=d)(hl:C0.getD d true=false):¬z∈Region.ready md ops C0:=fun hr=>by
 obtain ⟨_,o,ho,C2⟩:=mem_ready.1 hr;rw [hz] at ho;cases ho
 obtain ⟨e,he,hb,rfl⟩:=hi;have h1:=C2 e he hb;rcases Nat.lt_or_ge e.on C0.size with h'|h'
 · simp [h'] at hl h1;rw [hl] at h1;cases h1
 · simp [Array.getElem?_eq_none h'] at h1
theorem jX.not_ready{C0:Array Bool}{i z:Nat}(h:jX md ops C0 i z):¬z∈Region.ready md ops C0:=by
 cases h with
 | one hz hi hl=>exact Go.Proofs.YtkgncijcnlfhiabGreat.not_ready hz hi hl
 | more hz hi hl _=>exact Go.Proofs.YtkgncijcnlfhiabGreat.not_ready hz hi hl
theorem jX.list{C0:Array Bool}{i z j:Nat}(hj:j∈Region.ready md ops C0)(T8:j≠i)(h:jX md ops C0 i z):jX md ops (C0.setIfInBounds j true) i z:=by
 induction h with
 | one hz hi hl=>exact .one hz hi (by rw [getD_set_ne true T8];exact hl)
 | @more z d oz hz hi hl h ih=>
  have hjd:j≠d:=fun e=>h.not_ready (e▸hj)
  exact .more hz hi (by rw [getD_set_ne true hjd];exact hl) ih
theorem pG{z i:Nat}{oi:Oper}{v:Value}(hi:ops[i]? =some oi)(hsel:∀(j:Nat) (o:Oper) cs b,ops[j]? =some o->o.op≠.select cs b)
 (hQ:∀c a w,Q (.panic c) (a.put oi.dst v) w->Q (.panic c) a w):
 ∀(fuel:Nat) (C0:Array Bool) (a:Act) (w:World),jX md ops C0 i z->
  (∀j oj,ops[j]? =some oj->j≠i->C0.getD j true=false->(∀e∈oj.after,Region.binds md e=true->e.on≠i)->oi.apart ops oj=true)->
  i∈Region.ready md ops C0->YieldsIf P ops S oi v a->S w->
  dr P md ops Q S z fuel (C0.setIfInBounds i true) (a.put oi.dst v) w->dr P md ops Q S z (fuel+1) C0 a w:=by
 intro fuel
 induction fuel with
 | zero=>
  intro C0 a w hw _ hr hy hS H;refine ⟨fun h=>(by rw [h] at hr;cases hr),fun j hj=>?_⟩;by_cases T8:j=i
  · subst T8;exact hy.wpOp hi hS ⟨fun _=>hS,H⟩
  · have:=ready_mono hj T8
    rw [H.1] at this;cases this
 | succ fuel ih=>
  intro C0 a w hw Ia hr hy hS H;refine ⟨fun h=>(by rw [h] at hr;cases hr),fun j hj=>?_⟩;by_cases T8:j=i
  · subst T8;exact hy.wpOp hi hS ⟨fun _=>hS,H⟩
  · have h1:=H.2 j (ready_mono hj T8);obtain ⟨Lg,oj,Pk,C2⟩:=mem_ready.1 hj;have I8:∀e∈oj.after,Region.binds md e=true->e.on≠i:=fun e he hb heq=>by
     have h1:=C2 e he hb;have h0:=(mem_ready.1 hr).1;rw [heq] at h1;rcases Nat.lt_or_ge i C0.size with h'|h'
     · simp [h'] at h0 h1;rw [h0] at h1;cases h1
     · simp [Array.getElem?_eq_none h'] at h1
    have OG:j≠z:=fun e=>hw.not_ready (e▸hj)
    have h2:=wpOp_putIf Pk (Ia j oj Pk T8 Lg I8) (fun cs b=>hsel i oi cs b hi) (fun cs b=>hsel j oj cs b Pk) hQ hy h1;have Xb:∀k ok,ops[k]? =some ok->k≠i->(C0.setIfInBounds j true).getD k true=false->
     (∀e∈ok.after,Region.binds md e=true->e.on≠i)->oi.apart ops ok=true:=fun k ok hk Hf Jo Rj=>by
     refine Ia k ok hk Hf ?_ Rj;by_cases Wq:j=k
     · subst Wq;exact Lg
     · rw [getD_set_ne true Wq] at Jo;exact Jo
    refine wpOp_mono (fun a' w' h3=>⟨h3.2.1,ih (C0.setIfInBounds j true) a' w' (hw.list hj T8) Xb (ready_mono hr (Ne.symm T8)) h3.1 (h3.2.1 OG) ?_⟩) h2;rw [Array.setIfInBounds_comm _ _ T8];exact h3.2.2
end
section
variable {P:Program} {l:List Oper} {md:Region.Mode} {Q:Exit->Act->World->Prop} {S:World->Prop}
def kK(md:Region.Mode)(l:List Oper)(C0:Array Bool)(i:Nat):Nat->Nat->Bool
 | 0,_=>false
 | n+1,z=>match l[z]? with
  | some oz=>oz.after.toList.any fun e=>Region.binds md e && (!C0.getD e.on true && (Nat.beq e.on i || kK md l C0 i n e.on))
  | none=>false
theorem jZ{C0:Array Bool}{i:Nat}:∀{n z:Nat},kK md l C0 i n z=true->jX md l.toArray C0 i z
 | 0,z,h=>by cases h
 | n+1,z,h=>by
  unfold kK at h;cases hz:l[z]? with
  | none=>rw [hz] at h;cases h
  | some oz=>
   rw [hz] at h;simp only [List.any_eq_true,Bool.and_eq_true,Bool.or_eq_true,Bool.not_eq_true',Nat.beq_eq] at h;obtain ⟨e,he,h1,h2,h3⟩:=h;have he':e∈oz.after:=by simpa using he
   rcases h3 with h3|h3
   · exact .one (by simpa using hz) ⟨e,he',h1,h3⟩ (h3▸h2)
   · exact .more (by simpa using hz) ⟨e,he',h1,rfl⟩ h2 (jZ h3)
theorem BK{z:Nat}{i:Nat}{oi:Oper}{v:Value}{fuel:Nat}{C0:Array Bool}{a:Act}{w:World}(hi:l[i]? =some oi)(Ko:kK md l C0 i 20 z=true)
 (hs:Region.noSelect l.toArray=true) (hf:Region.free md l.toArray C0 i=true) (hr:(Region.ready md l.toArray C0).contains i=true)
 (hQ:∀c a w,Q (.panic c) (a.put oi.dst v) w->Q (.panic c) a w) (hw:Region.wanted oi (yielded l.toArray a.tmps)=true) (hy:∀w,S w->(execOp a.eval oi).run P w=.ok (.value v) w) (hS:S w)
 (h:dr P md l.toArray Q S z fuel (C0.setIfInBounds i true) (a.put oi.dst v) w):dr P md l.toArray Q S z (fuel+1) C0 a w:=
 pG (by simpa using hi) (Region.noSelect_spec hs) hQ fuel C0 a w (jZ Ko) (Region.free_spec (by simpa using hi) hf) (by simpa using hr) (.inl ⟨hw,hy⟩) hS h
theorem tY{P:Program}{l:List Oper}{md:Region.Mode}{Q:Exit->Act->World->Prop}{S:World->Prop}{z:Nat}(i:Nat){oi:Oper}{v:Value}{fuel:Nat}{C0:Array Bool}{a:Act}{w:World}(h:dr P md l.toArray Q S z fuel (C0.setIfInBounds i true) (a.put oi.dst v) w)(hi:l[i]? =some oi:=by rfl)(hy:∀w,S w->(execOp a.eval oi).run P w=.ok (.value v) w:=by intro w hS;go_simp<;>rfl)(hS:S w:=by assumption)(Ko:kK md l C0 i 20 z=true:=by kernel_rfl)(hs:Region.noSelect l.toArray=true:=by kernel_rfl)(hf:Region.free md l.toArray C0 i=true:=by kernel_rfl)(hr:(Region.ready md l.toArray C0).contains i=true:=by kernel_rfl)(hQ:∀c a w,Q (.panic c) (a.put oi.dst v) w->Q (.panic c) a w:=by intro c a w h;exact h)(hw:Region.wanted oi (yielded l.toArray a.tmps)=true:=by rfl):dr P md l.toArray Q S z (fuel+1) C0 a w:=BK hi Ko hs hf hr hQ hw hy hS h
end
end Go.Proofs.YtkgncijcnlfhiabGreat
