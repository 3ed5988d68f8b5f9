import Derived.Test.YtkgncijcnlfhiaaGreatMl
namespace Go.Proofs.YtkgncijcnlfhiaaGreat
set_option maxRecDepth 100000
set_option maxHeartbeats 2000000
set_option linter.unusedVariables false
set_option linter.unusedSimpArgs false
structure lF(u:aK)(Ts:Nat→Nat→Option (List Int))(σ:List Int)(x:dA)(f:aO)(i:aw)(base ts ps:List Int)(a b:List PV):Prop where
 func:u.aE[x.fn]? =some f
 code:f.code[x.pos]? =some i
 ins:gn u f i ts ps
 tab:Ts x.fn x.pos=some (base++ts)
 short:(base++ts).length≤20
 short':(base++ps).length≤20
 stack:x.stack=a++b
 below:e_ σ base a
 upon:e_ σ ts b
 slots:e_ σ (f.aF++f.aG) x.slots
 next:∀t∈eA f x.pos i,∃t',t=some t'∧Ts x.fn t'=some (base++ps)
 ret:i.op=14→base= []
theorem e_.split{σ base ts:List Int}{vs:List PV}(h:e_ σ (base++ts) vs):∃a b,vs=a++b∧e_ σ base a∧e_ σ ts b:=by
 refine ⟨vs.take base.length,vs.drop base.length,(List.take_append_drop _ _).symm,?_,?_⟩
 · have:=h.take base.length;rwa [List.take_left] at this
 · have:=h.drop base.length;rwa [List.drop_left] at this
theorem rv{u:aK}{Ts:Nat→Nat→Option (List Int)}{σ:List Int}{x:dA}(hu:vL u)(him:u.aB= [])(hT:∀n f,u.aE[n]? =some f→yG u f (Ts n))(h:pS u Ts σ x):∃f i base ts ps a b,lF u Ts σ x f i base ts ps a b:=by
 obtain ⟨f,s,h1,h2,h3,h4,h5⟩:=h.fn;obtain ⟨i,s',hi,hd,hn⟩:=(hT _ _ h1).step _ _ h2;obtain ⟨base,ts,ps,hI,e1,e2,h6,h7⟩:=sT hu him (List.mem_of_getElem? h1) (List.mem_of_getElem? hi) hd;subst e1 e2;obtain ⟨a,b,e3,h8,h9⟩:=h4.split;exact ⟨f,i,base,ts,ps,a,b,⟨h1,hi,hI,h2,h5,h6,e3,h8,h9,h3,hn,h7⟩⟩
theorem e_.of_one{σ:List Int}{k:Int}{b:List PV}(h:e_ σ [k] b):∃v,b= [v]∧qG σ k v:=by
 obtain ⟨v,rfl⟩:=lU (l:=b) h.1.symm;exact ⟨v,rfl,h.2 0 k v rfl rfl⟩
theorem e_.of_two{σ:List Int}{k l:Int}{b:List PV}(h:e_ σ [k,l] b):∃v v',b= [v,v']∧qG σ k v∧qG σ l v':=by
 match b,h with
 | [v,v'],h=>exact ⟨v,v',rfl,h.2 0 k v rfl rfl,h.2 1 l v' rfl rfl⟩
 | [],h=>have:=h.1;simp at this
 | [_],h=>have:=h.1;simp at this
 | _ :: _ :: _ :: _,h=>have:=h.1;simp at this
theorem e_.of_nil{σ:List Int}{b:List PV}(h:e_ σ [] b):b= []:=List.eq_nil_of_length_eq_zero h.1.symm
theorem lF.behind{u:aK}{Ts:Nat→Nat→Option (List Int)}{σ σ':List Int}{x:dA}{f:aO}{i:aw}{base ts ps:List Int}{a b:List PV}(h:lF u Ts σ x f i base ts ps a b)(h11:¬i.op=11)(h14:¬i.op=14){sl st:List PV}(hsl:e_ σ' (f.aF++f.aG) sl)(hst:e_ σ' (base++ps) st):pS u Ts σ' ⟨x.fn,x.pos+1,sl,st⟩:=by
 have hm:(if x.pos+1 < f.code.length then some (x.pos+1) else none)∈eA f x.pos i:=by
  unfold eA;by_cases h12:i.op=12<;>simp [h11,h14,h12]
 obtain ⟨t',e1,e2⟩:=h.next _ hm;have e3:t'=x.pos+1:=by
  split at e1
  · exact (Option.some.inj e1).symm
  · cases e1
 subst e3;exact ⟨f,_,h.func,e2,hsl,hst,h.short'⟩
theorem lF.jump{u:aK}{Ts:Nat→Nat→Option (List Int)}{σ σ':List Int}{x:dA}{f:aO}{i:aw}{base ts ps:List Int}{a b:List PV}(h:lF u Ts σ x f i base ts ps a b)(h11:i.op=11∨i.op=12){sl st:List PV}(hsl:e_ σ' (f.aF++f.aG) sl)(hst:e_ σ' (base++ps) st):pS u Ts σ' ⟨x.fn,i.a.toNat,sl,st⟩:=by
 have hm:some i.a.toNat∈eA f x.pos i:=by
  unfold eA;rcases h11 with e|e<;>simp [e]
 obtain ⟨t',e1,e2⟩:=h.next _ hm;cases e1
 exact ⟨f,_,h.func,e2,hsl,hst,h.short'⟩
theorem be(a:List PV)(v:PV):(a++ [v]).getD ((a++ [v]).length - 1) i_=v:=by
 simp [List.getD_eq_getElem?_getD]
theorem cN(a:List PV)(v:PV):(a++ [v]).take ((a++ [v]).length - 1)=a:=by simp
theorem BF(a:List PV)(v v':PV):(a++ [v,v']).getD ((a++ [v,v']).length - 1) i_=v':=by
 simp [List.getD_eq_getElem?_getD,List.getElem?_append_right]
theorem fJ(a:List PV)(v v':PV):(a++ [v,v']).getD ((a++ [v,v']).length - 2) i_=v:=by
 simp [List.getD_eq_getElem?_getD]
theorem gL(a:List PV)(v v':PV):(a++ [v,v']).take ((a++ [v,v']).length - 2)=a:=by simp
theorem jG(a b:List PV)(n:Nat)(h:b.length=n):(a++b).take ((a++b).length - n)=a:=by subst h;simp
theorem jC(a b:List PV)(n:Nat)(h:b.length=n):(a++b).drop ((a++b).length - n)=b:=by subst h;simp
def zO(u:aK)(Ts:Nat→Nat→Option (List Int))(heap:Nat)(m:PM):vS→Prop
 | .go m'=>∃σ',wq u Ts σ' m'∧m'.blks.length≤m.blks.length+1
 | .stop why _ m'=>m'=m∧(why=6∨why=8∨why=9∨why=10)
theorem wq.upd{u:aK}{Ts:Nat→Nat→Option (List Int)}{σ:List Int}{m:PM}(h:wq u Ts σ m){x:dA}(hx:pS u Ts σ x)(hf:x.fn=m.top.fn):wq u Ts σ ⟨x,m.low,m.blks,m.taken,m.told⟩:=⟨hx,by show jv u Ts σ x.fn m.low;rw [hf];exact h.low,by show ∃f,u.aE[rI x.fn m.low]? =some f∧f.result=0;rw [hf];exact h.main,h.deep,h.aA,h.blks,h.told⟩
theorem xC{u:aK}{Ts:Nat→Nat→Option (List Int)}{σ:List Int}{m:PM}(heap:Nat)(hu:vL u)(him:u.aB= [])(hT:∀n f,u.aE[n]? =some f→yG u f (Ts n))(h:wq u Ts σ m):zO u Ts heap m (dI u heap m):=by
 obtain ⟨f,i,base,ts,ps,a,b,hh⟩:=rv hu him hT h.top;have hia:oa u m.top=some i:=by unfold oa;rw [hh.func];exact hh.code
 unfold dI;rw [hia];simp only;have hS:=hh.stack;have hB:=hh.below;have hU:=hh.upon;have hL:=hh.slots;unfold fP;cases hh.ins with
 | const e h0 hc=>
  simp only [e,if_true];exact ⟨σ,h.upd (hh.behind (by omega) (by omega) hL (by rw [hS,hU.of_nil,List.append_nil];exact hB.push (.num _ _ _))) rfl,Nat.le_succ _⟩
 | small e=>
  simp [e]
  exact ⟨σ,h.upd (hh.behind (by omega) (by omega) hL (by rw [hS,hU.of_nil,List.append_nil];exact hB.push (.num _ _ _))) rfl,Nat.le_succ _⟩
 | load k e h0 hk=>
  simp only [e];refine ⟨σ,h.upd (hh.behind (by omega) (by omega) hL (by rw [hS,hU.of_nil,List.append_nil];exact hB.push (hL.getD hk))) rfl,Nat.le_succ _⟩
 | store k e h0 hk=>
  obtain ⟨v,rfl,hv⟩:=hU.of_one;simp only [e,hS,be,cN];exact ⟨σ,h.upd (hh.behind (by omega) (by omega) (hL.set hk hv) (by rw [List.append_nil];exact hB)) rfl,Nat.le_succ _⟩
 | pop k e=>
  obtain ⟨v,rfl,hv⟩:=hU.of_one;simp only [e,hS,be,cN];exact ⟨σ,h.upd (hh.behind (by omega) (by omega) hL (by rw [List.append_nil];exact hB)) rfl,Nat.le_succ _⟩
 | dup k e=>
  obtain ⟨v,rfl,hv⟩:=hU.of_one;simp only [e,hS,be,cN];exact ⟨σ,h.upd (hh.behind (by omega) (by omega) hL (by rw [show base++ [k,k]=base++ [k]++ [k] by simp];exact (hB.push hv).push hv)) rfl,Nat.le_succ _⟩
 | reck e1 e2=>
  obtain ⟨v,v',rfl,hv,hv'⟩:=hU.of_two;have n0:¬i.op=0:=by omega
  have n1:¬i.op=1:=by omega
  have n2:¬i.op=2:=by omega
  have n3:¬i.op=3:=by omega
  have n4:¬i.op=4:=by omega
  have n5:¬i.op=5:=by omega
  have n6:¬i.op=11:=by omega
  have n7:¬i.op=12:=by omega
  have n8:¬i.op=13:=by omega
  have n9:¬i.op=14:=by omega
  have n10:¬i.op=15:=by omega
  have n11:¬i.op=16:=by omega
  have n12:¬i.op=17:=by omega
  have n13:¬i.op=18:=by omega
  have n14:¬i.op=19:=by omega
  have n15:¬i.op=20:=by omega
  simp only [n0,n1,n2,n3,n4,n5,n6,n7,n8,n9,n10,n11,n12,n13,n14,n15,if_false,hS,BF,fJ,gL];exact ⟨σ,h.upd (hh.behind (by omega) (by omega) hL (hB.push (.num _ _ _))) rfl,Nat.le_succ _⟩
 | jump e h0 h1=>
  simp only [e];exact ⟨σ,h.upd (hh.jump (.inl e) hL (by rw [hS,hU.of_nil];simpa using hB)) rfl,Nat.le_succ _⟩
 | zero e h0 h1=>
  obtain ⟨v,rfl,hv⟩:=hU.of_one;simp only [e,hS,be,cN];by_cases hz:v.num=0
  · simp only [hz,if_true];exact ⟨σ,h.upd (hh.jump (.inr e) hL (by simpa using hB)) rfl,Nat.le_succ _⟩
  · simp only [hz,if_false];exact ⟨σ,h.upd (hh.behind (by omega) (by omega) hL (by rw [List.append_nil];exact hB)) rfl,Nat.le_succ _⟩
 | call g e h0 hg=>
  simp only [e,hS,hg];by_cases hd:m.low.length=99
  · simp only [hd,if_true];exact ⟨rfl,by simp⟩
  · simp only [hd,if_false];rw [jC a b _ hU.1.symm,jG a b _ hU.1.symm];have hgT:=(hT _ _ hg).zero;refine ⟨σ,⟨⟨g,[],hg,hgT,hU.app (.zeros σ _),.nil σ,by simp⟩,⟨⟨f,i,g,_,hh.func,hh.code,e,rfl,hg,hh.tab,hL,?_,hh.short⟩,h.low⟩,h.main,?_,h.aA,h.blks,h.told⟩,Nat.le_succ _⟩
    · rw [show (base++g.aF).take ((base++g.aF).length - g.aF.length)=base by simp];exact hB
    · have:=h.deep
      show m.low.length+1≤99
      omega
 | ret e=>
  obtain ⟨v,rfl,hv⟩:=hU.of_one;simp only [e,hS,be];cases hlow:m.low with
  | nil=>exact ⟨rfl,by simp⟩
  | cons y l=>
   have hw:=h.low;rw [hlow] at hw;obtain ⟨⟨fy,iy,g,s,k1,k2,k3,k4,k5,k6,k7,k8,k9⟩,hl2⟩:=hw;have hgf:g=f:=by have:=hh.func;rw [this] at k5;exact (Option.some.inj k5).symm
   subst hgf;have hty:=(hT _ _ k1).step _ _ k6;obtain ⟨i2,s2,hi2,hd2,hn2⟩:=hty;rw [k2] at hi2;cases hi2;obtain ⟨base2,ts2,ps2,hI2,e1,e2,h6,h7⟩:=sT hu him (List.mem_of_getElem? k1) (List.mem_of_getElem? k2) hd2;have hIc:ts2=g.aF∧ps2= [g.result]:=by
    have hc:u.aE[iy.a.toNat]? =some g:=by rw [k4];exact k5
    cases hI2 with
    | call g' _ _ hg'=>rw [hc] at hg';cases hg';exact ⟨rfl,rfl⟩
    | reck e1 e2=>omega
    | _=>omega
   obtain ⟨rfl,rfl⟩:=hIc;subst e1 e2;have hbs:(base2++g.aF).take ((base2++g.aF).length - g.aF.length)=base2:=by simp
   rw [hbs] at k8;have hm:(if y.pos+1 < fy.code.length then some (y.pos+1) else none)∈eA fy y.pos iy:=by
    unfold eA;simp [k3]
   obtain ⟨t',f1,f2⟩:=hn2 _ hm;have f3:t'=y.pos+1:=by
    split at f1
    · exact (Option.some.inj f1).symm
    · cases f1
   subst f3;have hmain:=h.main;rw [hlow] at hmain;refine ⟨σ,⟨⟨fy,_,k1,f2,k7,k8.push hv,h6⟩,hl2,hmain,?_,h.aA,h.blks,h.told⟩,Nat.le_succ _⟩;have:=h.deep
   rw [hlow] at this;simp at this
   show l.length≤99
   omega
 | new _ e h1 hs=>
  have hgd:u.aA.getD (i.a - 1).toNat []=ts:=by rw [List.getD_eq_getElem?_getD,hs];rfl
  simp only [e,hS,hgd];rw [jC a b _ hU.1.symm,jG a b _ hU.1.symm];simp only [show ¬(15:Int)=0 by decide,show ¬(15:Int)=1 by decide,show ¬(15:Int)=2 by decide,show ¬(15:Int)=3 by decide,show ¬(15:Int)=4 by decide,show ¬(15:Int)=5 by decide,show ¬(15:Int)=11 by decide,show ¬(15:Int)=12 by decide,show ¬(15:Int)=13 by decide,show ¬(15:Int)=14 by decide,if_false,if_true];generalize (if m.taken+(ts.length+1) > heap then oM m else m.taken)=tk;by_cases hr:tk+(ts.length+1)≤heap
  · rw [if_pos hr];have hlen:=h.aA;refine ⟨σ++ [i.a],⟨hh.behind (by omega) (by omega) (hL.more _) ((hB.more _).push (fun j hj=>?_)),h.low.more _,h.main,h.deep,by simp [hlen],fun j k fs hk hj=>?_,h.told⟩,?_⟩
    · cases hj
      exact ⟨by omega,by rw [←hlen];simp⟩
    · by_cases hj2:j < σ.length
      · rw [List.getElem?_append_left hj2] at hk;rw [List.getElem?_append_left (hlen▸hj2)] at hj;obtain ⟨s2,q1,q2,q3⟩:=h.blks j k fs hk hj;exact ⟨s2,q1,q2,q3.more _⟩
      · rw [List.getElem?_append_right (by omega)] at hk;rw [List.getElem?_append_right (by omega),←hlen] at hj;have hj0:j - σ.length=0:=by
         have:=(List.getElem?_eq_some_iff.1 hk).1
         simp at this;omega
        rw [hj0] at hk hj;simp at hk hj
        subst hk hj;exact ⟨ts,h1,hs,hU.more _⟩
    · show (m.blks++ [b]).length≤_
      simp
  · rw [if_neg hr];exact ⟨rfl,by simp⟩
 | get s k e h1 h0 hs hk=>
  obtain ⟨v,rfl,hv⟩:=hU.of_one;simp only [e,hS,be,cN];cases hb:v.blk with
  | none=>exact ⟨rfl,by simp⟩
  | some j=>
   obtain ⟨q1,q2⟩:=hv j hb;have hjl:j < m.blks.length:=by rw [←h.aA];exact (List.getElem?_eq_some_iff.1 q2).1
   obtain ⟨s2,p1,p2,p3⟩:=h.blks j _ _ q2 (List.getElem?_eq_getElem hjl);rw [hs] at p2;cases p2;have hgd:m.blks.getD j []=m.blks[j]:=by rw [List.getD_eq_getElem?_getD,List.getElem?_eq_getElem hjl];rfl
   refine ⟨σ,h.upd (hh.behind (by omega) (by omega) hL (hB.push ?_)) rfl,Nat.le_succ _⟩;rw [hgd];exact p3.getD hk
 | set s k e h1 h0 hs hk=>
  obtain ⟨v,v',rfl,hv,hv'⟩:=hU.of_two;simp only [e,hS,BF,fJ,gL];cases hb:v.blk with
  | none=>exact ⟨rfl,by simp⟩
  | some j=>
   obtain ⟨q1,q2⟩:=hv j hb;have hjl:j < m.blks.length:=by rw [←h.aA];exact (List.getElem?_eq_some_iff.1 q2).1
   obtain ⟨s2,p1,p2,p3⟩:=h.blks j _ _ q2 (List.getElem?_eq_getElem hjl);rw [hs] at p2;cases p2;have hgd:m.blks.getD j []=m.blks[j]:=by rw [List.getD_eq_getElem?_getD,List.getElem?_eq_getElem hjl];rfl
   refine ⟨σ,⟨hh.behind (by omega) (by omega) hL (by rw [List.append_nil];exact hB),h.low,h.main,h.deep,by simp [h.aA],fun j2 k2 fs hk2 hj2=>?_,h.told⟩,by simp⟩;simp only [List.getElem?_set] at hj2;by_cases ej:j=j2
   · subst ej;simp only [hjl,if_true] at hj2;rw [hgd] at hj2;cases hj2
     rw [q2] at hk2;cases hk2;exact ⟨s,h1,hs,p3.set hk hv'⟩
   · simp only [ej,if_false] at hj2;exact h.blks j2 k2 fs hk2 hj2
 | nil e h1=>
  simp only [e];exact ⟨σ,h.upd (hh.behind (by omega) (by omega) hL (by rw [hS,hU.of_nil,List.append_nil];exact hB.push (.zero _ _))) rfl,Nat.le_succ _⟩
 | isnil e h1=>
  obtain ⟨v,rfl,hv⟩:=hU.of_one;simp only [e,hS,be,cN];exact ⟨σ,h.upd (hh.behind (by omega) (by omega) hL (hB.push (.num _ _ _))) rfl,Nat.le_succ _⟩
 | out e=>
  obtain ⟨v,rfl,hv⟩:=hU.of_one;simp only [e,hS,be,cN];refine ⟨σ,⟨hh.behind (by omega) (by omega) hL (by rw [List.append_nil];exact hB),h.low,h.main,h.deep,h.aA,h.blks,?_⟩,Nat.le_succ _⟩;have:=h.told
  show (if m.told.length < 1000 then m.told++ [v.num] else m.told).length≤1000
  split
  · simp;omega
  · omega
open Go.RowKit
attribute [local go_sem ↓] Go.wp_at_zero Go.wp_at_succ
theorem Tryz.sliceNe(a:Addr)(n c:Nat)(w:World):(binOp .eql 177 (.slice (some a) n c) (.slice none 0 0)).run Tryz.prog w=.ok (.bool false) w:=by kernel_rfl
theorem Tryz.sliceEq(w:World):(binOp .eql 177 (.slice none 0 0) (.slice none 0 0)).run Tryz.prog w=.ok (.bool true) w:=by kernel_rfl
theorem lQ(g off n cap:Nat)(ys:List Value)(w:World)(hR:qs w (.slice (some ⟨g,off,none⟩) n cap) n ys)(hl:ys.length=n * 2)(h1:∀u∈ys,u.oneCell'=true)(hn:n≤100000):
 Calls Tryz.prog 134 #[.slice (some ⟨g,off,none⟩) n cap] w (vd 183 2 n ys w):=by
 have g1:=(Gr.refl w).alloc (.cells #[] 183);have ho:(w.alloc (.cells #[] 183)).ownsRow w.heap.size 183 2 (.slice (some ⟨w.heap.size,0,none⟩) 0 0) 0 []:=World.ownsRow_lit (e:=183) (size:=2) w #[] 0 (Nat.le_refl _) (Nat.zero_le _) rfl;have hR1:qs (w.alloc (.cells #[] 183)) (.slice (some ⟨g,off,none⟩) n cap) n ys:=by
  obtain ⟨ao,cp,e,hc⟩:=hR;refine ⟨ao,cp,e,fun j u hj=>?_⟩;obtain ⟨b,o,e1,e2⟩:=hc j u hj;exact ⟨b,o,e1,g1.cell e2 (by simp)⟩
 obtain ⟨v6,w6,hr6,ho6,hg6,hl6⟩:=dC (ty:=177) 177 183 _ Tryz.infVal Tryz.uVal rfl (by decide) (by decide) ho hR1 hl h1 (by omega) (by simp);obtain ⟨ka6,kc6,rfl⟩:=aL ho6;have HR6:=aH hr6;have HO6:=aH ho6;have HG6:Hid (Gr w w6):=aH ⟨hg6.os.trans g1.os,hg6.tape.trans g1.tape,hg6.output.trans g1.output,Nat.le_trans g1.size hg6.size,fun i hi hne=>(hg6.block i (Nat.lt_of_lt_of_le hi g1.size) (by simp [Value.ownBlock];omega)).trans (g1.block i hi hne)⟩;clear g1 ho hR1 hr6 ho6 hg6 hl6 hR;have hse:=fun (a:Addr) (n c:Nat) (w:World)=>Tryz.sliceNe a n c w
 go_enter Tryz.func134,Tryz.ntmps134
 go_wp2_with (at_builtin;refine Lib.wpList_append_run _ rfl _ _ _ _ rfl _ _ rfl rfl _ _ HR6.out ?_)
 go_ret
 exact ⟨_,rfl,by simpa using HO6.out,HG6.out⟩
theorem rM(w:World):Calls Tryz.prog 134 #[.slice none 0 0] w (vd 183 2 0 [] w):=by
 have hse:=fun (w:World)=>Tryz.sliceEq w
 go_enter Tryz.func134,Tryz.ntmps134
 go_wp2_with fail
 go_ret
 exact ⟨_,rfl,World.ownsRow_nil _ _ _ _,Gr.refl _⟩
def AU(w:World)(fb:Nat)(vc:Value)(pos:Int)(vs vk:Value)(m c:Nat)(xs ys:List Value)(x:Ending)(w':World):Prop:=∃v vk',x=.returned v∧w'.ownsRow w.heap.size 183 2 v c ys∧kd w' fb vc pos vs vk'∧w'.ownsRow 0 183 2 vk' m xs∧vk'.ownBlock=vk.ownBlock∧zH w w' fb none
theorem tN(w:World)(fb:Nat)(vc:Value)(pos:Int)(vs:Value)(g m c cap:Nat)(xs ys:List Value)(hF:kd w fb vc pos vs (.slice (some ⟨g,0,none⟩) (m+c) cap))(ho:w.ownsRow 0 183 2 (.slice (some ⟨g,0,none⟩) (m+c) cap) (m+c) (xs++ys))(hx:xs.length=m * 2)(h1:∀u∈ys,u.oneCell'=true)(hne:¬g=fb)(hn:m+c≤100000):
 Calls Tryz.prog 101 #[.pointer (some ⟨fb,0,none⟩),.int .i64 (c:Int)] w (AU w fb vc pos vs (.slice (some ⟨g,0,none⟩) (m+c) cap) m c xs ys):=by
 have hfb:fb < w.heap.size:=(Array.getElem?_eq_some_iff.1 hF).1;obtain ⟨cur,hgh,hcap,hcm,hcs,htk⟩:∃cur,w.heap[g]? =some (.cells cur 183 (0,0))∧m+c≤cap∧cap≤maxLen∧cur.size=cap * 2∧cur.toList.take ((m+c) * 2)=xs++ys:=by
  rcases ho.2 with ⟨h,_⟩|⟨g',cap',cur,e,_,h2,h3,h4,h5,h6⟩
  · cases h
  · simp only [Value.slice.injEq,Option.some.injEq,Addr.mk.injEq,and_true,true_and] at e;obtain ⟨rfl,rfl⟩:=e;exact ⟨cur,h2,h3,h4,h5,h6⟩
 have hyl:ys.length=c * 2:=by have:=ho.1;rw [List.length_append,hx] at this;omega
 have hRR:qs w (.slice (some ⟨g,m * 2,none⟩) c (cap - m)) c ys:=⟨_,_,rfl,fun j u hj=>⟨g,m * 2,rfl,by
  have hjl:j < ys.length:=(List.getElem?_eq_some_iff.1 hj).1;rw [ho.cellAt _ (by omega),List.getElem?_append_right (by omega),hx,show m * 2+j - m * 2=j by omega];exact hj⟩⟩
 have how:w.ownsRow 0 183 2 (.slice (some ⟨g,0,none⟩) m cap) m xs:=⟨hx,.inr ⟨g,cap,cur,rfl,Nat.zero_le _,hgh,by omega,hcm,hcs,by
  have:(cur.toList.take ((m+c) * 2)).take (m * 2)=(xs++ys).take (m * 2):=by rw [htk]
  rw [List.take_take,Nat.min_eq_left (by omega)] at this;rw [this,←hx,List.take_left]⟩⟩
 have HCL:=aH (lQ g (m * 2) c (cap - m) ys w hRR hyl h1 (by omega));have HCZ:Hid (cap=m→Calls Tryz.prog 134 #[.slice (some ⟨g,0,none⟩) c 0] w (vd 183 2 c ys w)):=aH (fun e=>by
  have hc0:c=0:=by omega
  have hy0:ys= []:=List.eq_nil_of_length_eq_zero (by omega);subst hc0 hy0;exact lQ g 0 0 0 [] w ⟨_,_,rfl,fun j u hj=>by simp at hj⟩ rfl (by simp) (by omega))
 have HF:=aH hF;have HOW:=aH how;have hgl:g < w.heap.size:=(Array.getElem?_eq_some_iff.1 hgh).1;have f3:w.cell? ⟨fb,3,none⟩=some (.slice (some ⟨g,0,none⟩) (m+c) cap):=by rw [aI hF];rfl
 have hw1:IntKind.i64.wrap ((m:Int)+(c:Int) - (c:Int))=(m:Int):=by rw [Go.IntWalk.i64_in _ (by omega)];omega
 have hw2:IntKind.i64.wrap (((m+c:Nat):Int) - (c:Int))=(m:Int):=by rw [Go.IntWalk.i64_in _ (by omega)];omega
 have hw3:IntKind.i64.wrap (m:Int)=(m:Int):=Go.IntWalk.i64_in _ (by omega);have b1:(m:Int)≤(m:Int)+(c:Int):=by omega
 have b2:m≤m+c:=by omega
 have b3:(m:Int)≤(cap:Int):=by omega
 have b4:m≤cap:=by omega
 have b5:m+c - m=c:=by omega
 clear hF ho hgh hcm hcs htk hRR how hx h1 hyl;go_enter Tryz.func101,Tryz.ntmps101
 go_wp2_with fail
 all_goals
  first|refine HCL.out.mono ?_|refine (HCZ.out (by assumption)).mono ?_
  rintro x w2 ⟨v,rfl,hov,hg2⟩;obtain ⟨va,vcp,rfl⟩:=aL hov;have hfr:=(hg2.block fb hfb (by simp)).trans HF.out;have m3:w2.cell? ⟨fb,3,none⟩=some (.slice (some ⟨g,0,none⟩) (m+c) cap):=by rw [aI hfr];rfl
  have mz:w2.frozen? ⟨fb,3,none⟩=false:=aR hfr;have HFR:=aH hfr;have HOV:=aH hov;have HG2:=aH hg2;clear hfr hov hg2 f3;go_wp2_with fail
  go_ret
  refine ⟨.slice va c vcp,.slice (some ⟨g,0,none⟩) m cap,rfl,?_,?_,?_,rfl,⟨HG2.out.os,HG2.out.tape,HG2.out.output,by simpa using HG2.out.size,fun b hb h1 _=>(Below.heap_setCell _ _ _ _ h1).trans (HG2.out.block b hb (by simp))⟩⟩
  · exact bX HOV.out (fun q hq=>Below.heap_setCell _ _ _ _ (by show q≠fb;have:=(HOV.out.lt q hq).1;omega))
  · exact (heap_setCell_same w2 fb 3 _ _ _ HFR.out).trans (by first|(simp;done)|(simp;omega))
  · refine bX HOW.out (fun q hq=>?_);have hqg:g=q:=by simpa [Value.ownBlock] using hq
    subst hqg;exact (Below.heap_setCell _ _ _ _ hne).trans (HG2.out.block g hgl (by simp))
theorem uz(w:World)(fb:Nat)(vc:Value)(pos:Int)(vs:Value)(hF:kd w fb vc pos vs (.slice none 0 0)):
 Calls Tryz.prog 101 #[.pointer (some ⟨fb,0,none⟩),.int .i64 0] w (AU w fb vc pos vs (.slice none 0 0) 0 0 [] []):=by
 have hfb:fb < w.heap.size:=(Array.getElem?_eq_some_iff.1 hF).1;have f3:w.cell? ⟨fb,3,none⟩=some (.slice none 0 0):=by rw [aI hF];rfl
 have HF:=aH hF;clear hF;go_enter Tryz.func101,Tryz.ntmps101
 go_wp2_with fail
 refine (rM _).mono ?_;rintro x w2 ⟨v,rfl,hov,hg2⟩;obtain ⟨va,vcp,rfl⟩:=aL hov;have hfr:=(hg2.block fb hfb (by simp)).trans HF.out;have m3:w2.cell? ⟨fb,3,none⟩=some (.slice none 0 0):=by rw [aI hfr];rfl
 have mz:w2.frozen? ⟨fb,3,none⟩=false:=aR hfr;have HFR:=aH hfr;have HOV:=aH hov;have HG2:=aH hg2;clear hfr hov hg2 f3;go_wp2_with fail
 go_ret
 refine ⟨.slice va 0 vcp,.slice none 0 0,rfl,?_,?_,World.ownsRow_nil _ _ _ _,rfl,⟨HG2.out.os,HG2.out.tape,HG2.out.output,by simpa using HG2.out.size,fun b hb h1 _=>(Below.heap_setCell _ _ _ _ h1).trans (HG2.out.block b hb (by simp))⟩⟩
 · exact bX HOV.out (fun q hq=>Below.heap_setCell _ _ _ _ (by show q≠fb;have:=(HOV.out.lt q hq).1;omega))
 · exact (heap_setCell_same w2 fb 3 _ _ _ HFR.out).trans (by simp)
theorem tH(w:World)(fb:Nat)(vc:Value)(pos:Int)(vs vk:Value)(m c:Nat)(xs ys:List Value)(hF:kd w fb vc pos vs vk)(ho:w.ownsRow 0 183 2 vk (m+c) (xs++ys))(hx:xs.length=m * 2)(h1:∀u∈ys,u.oneCell'=true)(hne:¬vk.ownBlock=some fb)(hn:m+c≤100000):
 Calls Tryz.prog 101 #[.pointer (some ⟨fb,0,none⟩),.int .i64 (c:Int)] w (AU w fb vc pos vs vk m c xs ys):=by
 have ho':=ho;rcases ho.2 with ⟨h,h2⟩|⟨g,cap,cur,e,_⟩
 · have h3:=ho.1;have hl:m+c=0:=by simpa using h2
   have hm0:m=0:=by omega
   have hc0:c=0:=by omega
   subst hm0 hc0;obtain rfl:xs= []:=List.eq_nil_of_length_eq_zero (by omega);obtain rfl:ys= []:=List.eq_nil_of_length_eq_zero (by simpa using h3);subst h;exact uz w fb vc pos vs hF
 · subst e;exact tN w fb vc pos vs g m c cap xs ys hF ho' hx h1 (fun e=>hne (by rw [e];rfl)) hn
end Go.Proofs.YtkgncijcnlfhiaaGreat
