import Derived.Test.YtkgncijcnlfhiabGreatMl
import Derived.Lib.AppendZerosOnto
namespace Go.Proofs.YtkgncijcnlfhiabGreat
set_option maxRecDepth 100000
set_option maxHeartbeats 2000000
set_option linter.unusedVariables false
set_option linter.unusedSimpArgs false
structure mE(u:aK)(Ts:Nat->Nat->Option (List Int))(σ:List Int)(x:ch)(f:aO)(i:aw)(base ts ps:List Int)(a b:List PV):Prop where
 func:u.aE[x.fn]? =some f
 code:f.code[x.pos]? =some i
 ins:iS u f i ts ps
 tab:Ts x.fn x.pos=some (base++ts)
 short:(base++ts).length<=20
 short':(base++ps).length<=20
 stack:x.stack=a++b
 below:fJ σ base a
 upon:fJ σ ts b
 slots:fJ σ (f.aF++f.aG) x.slots
 next:∀t∈eO f x.pos i,∃t',t=some t'/\Ts x.fn t'=some (base++ps)
 ret:i.op=14->base= []
theorem fJ.split{σ base ts:List Int}{vs:List PV}(h:fJ σ (base++ts) vs):∃a b,vs=a++b/\fJ σ base a/\fJ σ ts b:=by
 refine ⟨vs.take base.length,vs.drop base.length,(List.take_append_drop _ _).symm,?_,?_⟩
 · have:=h.take base.length;rwa [List.take_left] at this
 · have:=h.drop base.length;rwa [List.drop_left] at this
theorem pI{u:aK}{Ts:Nat->Nat->Option (List Int)}{σ:List Int}{x:ch}(hu:rZ u)(P9:u.aB= [])(hT:∀n f,u.aE[n]? =some f->tf u f (Ts n))(h:pn u Ts σ x):∃f i base ts ps a b,mE u Ts σ x f i base ts ps a b:=by
 obtain ⟨f,s,h1,h2,h3,h4,h5⟩:=h.fn;obtain ⟨i,s',hi,hd,hn⟩:=(hT _ _ h1).step _ _ h2;obtain ⟨base,ts,ps,hI,e1,e2,h6,h7⟩:=tM hu P9 (List.mem_of_getElem? h1) (List.mem_of_getElem? hi) hd;subst e1 e2;obtain ⟨a,b,e3,h8,h9⟩:=h4.split;exact ⟨f,i,base,ts,ps,a,b,⟨h1,hi,hI,h2,h5,h6,e3,h8,h9,h3,hn,h7⟩⟩
theorem fJ.of_one{σ:List Int}{k:Int}{b:List PV}(h:fJ σ [k] b):∃v,b= [v]/\re σ k v:=by
 obtain ⟨v,rfl⟩:=m8 (l:=b) h.1.symm;exact ⟨v,rfl,h.2 0 k v rfl rfl⟩
theorem fJ.of_two{σ:List Int}{k l:Int}{b:List PV}(h:fJ σ [k,l] b):∃v v',b= [v,v']/\re σ k v/\re σ l v':=by
 match b,h with
 | [v,v'],h=>exact ⟨v,v',rfl,h.2 0 k v rfl rfl,h.2 1 l v' rfl rfl⟩
 | [],h=>have:=h.1;simp at this
 | [_],h=>have:=h.1;simp at this
 | _ :: _ :: _ :: _,h=>have:=h.1;simp at this
theorem fJ.of_nil{σ:List Int}{b:List PV}(h:fJ σ [] b):b= []:=List.eq_nil_of_length_eq_zero h.1.symm
theorem mE.behind{u:aK}{Ts:Nat->Nat->Option (List Int)}{σ σ':List Int}{x:ch}{f:aO}{i:aw}{base ts ps:List Int}{a b:List PV}(h:mE u Ts σ x f i base ts ps a b)(V8:¬i.op=11)(Z9:¬i.op=14){sl st:List PV}(hsl:fJ σ' (f.aF++f.aG) sl)(T0:fJ σ' (base++ps) st):pn u Ts σ' ⟨x.fn,x.pos+1,sl,st⟩:=by
 have hm:(if x.pos+1 < f.code.length then some (x.pos+1) else none)∈eO f x.pos i:=by
  unfold eO;by_cases O_:i.op=12<;>simp [V8,Z9,O_]
 obtain ⟨t',e1,e2⟩:=h.next _ hm;have e3:t'=x.pos+1:=by
  split at e1
  · exact (Option.some.inj e1).symm
  · cases e1
 subst e3;exact ⟨f,_,h.func,e2,hsl,T0,h.short'⟩
theorem mE.jump{u:aK}{Ts:Nat->Nat->Option (List Int)}{σ σ':List Int}{x:ch}{f:aO}{i:aw}{base ts ps:List Int}{a b:List PV}(h:mE u Ts σ x f i base ts ps a b)(V8:i.op=11\/i.op=12){sl st:List PV}(hsl:fJ σ' (f.aF++f.aG) sl)(T0:fJ σ' (base++ps) st):pn u Ts σ' ⟨x.fn,i.a.toNat,sl,st⟩:=by
 have hm:some i.a.toNat∈eO f x.pos i:=by
  unfold eO;rcases V8 with e|e<;>simp [e]
 obtain ⟨t',e1,e2⟩:=h.next _ hm;cases e1
 exact ⟨f,_,h.func,e2,hsl,T0,h.short'⟩
theorem bY(a:List PV)(v:PV):(a++ [v]).getD ((a++ [v]).length - 1) oQ=v:=by
 simp [List.getD_eq_getElem?_getD]
theorem cS(a:List PV)(v:PV):(a++ [v]).take ((a++ [v]).length - 1)=a:=Q6
theorem gj(a:List PV)(v v':PV):(a++ [v,v']).getD ((a++ [v,v']).length - 1) oQ=v':=by
 simp [List.getD_eq_getElem?_getD,List.getElem?_append_right]
theorem fq(a:List PV)(v v':PV):(a++ [v,v']).getD ((a++ [v,v']).length - 2) oQ=v:=by
 simp [List.getD_eq_getElem?_getD]
theorem iE(a:List PV)(v v':PV):(a++ [v,v']).take ((a++ [v,v']).length - 2)=a:=Q6
theorem jx(a b:List PV)(n:Nat)(h:b.length=n):(a++b).take ((a++b).length - n)=a:=by subst h;simp
theorem jt(a b:List PV)(n:Nat)(h:b.length=n):(a++b).drop ((a++b).length - n)=b:=by subst h;simp
def BJ(u:aK)(Ts:Nat->Nat->Option (List Int))(heap:Nat)(m:PM):fZ->Prop
 | .go m'=>∃σ',oD u Ts σ' m'/\m'.blks.length<=m.blks.length+1
 | .stop why _ m'=>m'=m/\(why=6\/why=8\/why=9\/why=10)
theorem oD.upd{u:aK}{Ts:Nat->Nat->Option (List Int)}{σ:List Int}{m:PM}(h:oD u Ts σ m){x:ch}(hx:pn u Ts σ x)(hf:x.fn=m.top.fn):oD u Ts σ ⟨x,m.low,m.blks,m.taken,m.told⟩:=⟨hx,by show kE u Ts σ x.fn m.low;rw [hf];exact h.low,by show ∃f,u.aE[rn x.fn m.low]? =some f/\f.result=0;rw [hf];exact h.main,h.deep,h.aA,h.blks,h.told⟩
theorem ku{u:aK}{Ts:Nat->Nat->Option (List Int)}{σ:List Int}{m:PM}(heap:Nat)(hu:rZ u)(P9:u.aB= [])(hT:∀n f,u.aE[n]? =some f->tf u f (Ts n))(h:oD u Ts σ m):BJ u Ts heap m (bh u heap m):=by
 obtain ⟨f,i,base,ts,ps,a,b,hh⟩:=pI hu P9 hT h.top;have Zm:kD u m.top=some i:=by unfold kD;rw [hh.func];exact hh.code
 unfold bh;rw [Zm];simp only;have hS:=hh.stack;have hB:=hh.below;have hU:=hh.upon;have hL:=hh.slots;unfold eB;cases hh.ins with
 | const e h0 hc=>
  simp only [e,if_true];exact ⟨σ,h.upd (hh.behind Q5 Q5 hL (by rw [hS,hU.of_nil,List.append_nil];exact hB.push (.num _ _ _))) rfl,Nat.le_succ _⟩
 | small e=>
  simp [e]
  exact ⟨σ,h.upd (hh.behind Q5 Q5 hL (by rw [hS,hU.of_nil,List.append_nil];exact hB.push (.num _ _ _))) rfl,Nat.le_succ _⟩
 | load k e h0 hk=>
  simp only [e];refine ⟨σ,h.upd (hh.behind Q5 Q5 hL (by rw [hS,hU.of_nil,List.append_nil];exact hB.push (hL.getD hk))) rfl,Nat.le_succ _⟩
 | store k e h0 hk=>
  obtain ⟨v,rfl,hv⟩:=hU.of_one;simp only [e,hS,bY,cS];exact ⟨σ,h.upd (hh.behind Q5 Q5 (hL.set hk hv) (by rw [List.append_nil];exact hB)) rfl,Nat.le_succ _⟩
 | pop k e=>
  obtain ⟨v,rfl,hv⟩:=hU.of_one;simp only [e,hS,bY,cS];exact ⟨σ,h.upd (hh.behind Q5 Q5 hL (by rw [List.append_nil];exact hB)) rfl,Nat.le_succ _⟩
 | dup k e=>
  obtain ⟨v,rfl,hv⟩:=hU.of_one;simp only [e,hS,bY,cS];exact ⟨σ,h.upd (hh.behind Q5 Q5 hL (by rw [show base++ [k,k]=base++ [k]++ [k] by simp];exact (hB.push hv).push hv)) rfl,Nat.le_succ _⟩
 | reck e1 e2=>
  obtain ⟨v,v',rfl,hv,QR⟩:=hU.of_two;have n0:¬i.op=0:=Q5
  have n1:¬i.op=1:=Q5
  have n2:¬i.op=2:=Q5
  have n3:¬i.op=3:=Q5
  have n4:¬i.op=4:=Q5
  have n5:¬i.op=5:=Q5
  have n6:¬i.op=11:=Q5
  have n7:¬i.op=12:=Q5
  have n8:¬i.op=13:=Q5
  have n9:¬i.op=14:=Q5
  have n10:¬i.op=15:=Q5
  have RR:¬i.op=16:=Q5
  have SR:¬i.op=17:=Q5
  have TR:¬i.op=18:=Q5
  have VR:¬i.op=19:=Q5
  have WR:¬i.op=20:=Q5
  simp only [n0,n1,n2,n3,n4,n5,n6,n7,n8,n9,n10,RR,SR,TR,VR,WR,if_false,hS,gj,fq,iE];exact ⟨σ,h.upd (hh.behind Q5 Q5 hL (hB.push (.num _ _ _))) rfl,Nat.le_succ _⟩
 | jump e h0 h1=>
  simp only [e];exact ⟨σ,h.upd (hh.jump (.inl e) hL (by rw [hS,hU.of_nil];simpa using hB)) rfl,Nat.le_succ _⟩
 | zero e h0 h1=>
  obtain ⟨v,rfl,hv⟩:=hU.of_one;simp only [e,hS,bY,cS];by_cases hz:v.num=0
  · simp only [hz,if_true];exact ⟨σ,h.upd (hh.jump (.inr e) hL (by simpa using hB)) rfl,Nat.le_succ _⟩
  · simp only [hz,if_false];exact ⟨σ,h.upd (hh.behind Q5 Q5 hL (by rw [List.append_nil];exact hB)) rfl,Nat.le_succ _⟩
 | call g e h0 hg=>
  simp only [e,hS,hg];by_cases hd:m.low.length=99
  · simp only [hd,if_true];exact ⟨rfl,Q6⟩
  · simp only [hd,if_false];rw [jt a b _ hU.1.symm,jx a b _ hU.1.symm];have hgT:=(hT _ _ hg).zero;refine ⟨σ,⟨⟨g,[],hg,hgT,hU.app (.zeros σ _),.nil σ,Q6⟩,⟨⟨f,i,g,_,hh.func,hh.code,e,rfl,hg,hh.tab,hL,?_,hh.short⟩,h.low⟩,h.main,?_,h.aA,h.blks,h.told⟩,Nat.le_succ _⟩
    · rw [show (base++g.aF).take ((base++g.aF).length - g.aF.length)=base by simp];exact hB
    · have:=h.deep
      show m.low.length+1<=99
      omega
 | ret e=>
  obtain ⟨v,rfl,hv⟩:=hU.of_one;simp only [e,hS,bY];cases D1:m.low with
  | nil=>exact ⟨rfl,Q6⟩
  | cons y l=>
   have hw:=h.low;rw [D1] at hw;obtain ⟨⟨fy,iy,g,s,k1,k2,k3,k4,k5,k6,k7,k8,k9⟩,M7⟩:=hw;have K8:g=f:=by have:=hh.func;rw [this] at k5;exact (Option.some.inj k5).symm
   subst K8;have hty:=(hT _ _ k1).step _ _ k6;obtain ⟨i2,s2,P8,Lf,T6⟩:=hty;rw [k2] at P8;cases P8;obtain ⟨F8,ts2,ps2,XR,e1,e2,h6,h7⟩:=tM hu P9 (List.mem_of_getElem? k1) (List.mem_of_getElem? k2) Lf;have hIc:ts2=g.aF/\ps2= [g.result]:=by
    have hc:u.aE[iy.a.toNat]? =some g:=by rw [k4];exact k5
    cases XR with
    | call g' _ _ D0=>rw [hc] at D0;cases D0;exact ⟨rfl,rfl⟩
    | reck e1 e2=>omega
    | _=>omega
   obtain ⟨rfl,rfl⟩:=hIc;subst e1 e2;have Hh:(F8++g.aF).take ((F8++g.aF).length - g.aF.length)=F8:=Q6
   rw [Hh] at k8;have hm:(if y.pos+1 < fy.code.length then some (y.pos+1) else none)∈eO fy y.pos iy:=by
    unfold eO;simp [k3]
   obtain ⟨t',f1,f2⟩:=T6 _ hm;have f3:t'=y.pos+1:=by
    split at f1
    · exact (Option.some.inj f1).symm
    · cases f1
   subst f3;have Pw:=h.main;rw [D1] at Pw;refine ⟨σ,⟨⟨fy,_,k1,f2,k7,k8.push hv,h6⟩,M7,Pw,?_,h.aA,h.blks,h.told⟩,Nat.le_succ _⟩;have:=h.deep
   rw [D1] at this;simp at this
   show l.length<=99
   omega
 | new _ e h1 hs=>
  have Z':u.aA.getD (i.a - 1).toNat []=ts:=by rw [List.getD_eq_getElem?_getD,hs];rfl
  simp only [e,hS,Z'];rw [jt a b _ hU.1.symm,jx a b _ hU.1.symm];simp only [show ¬(15:Int)=0 by decide,show ¬(15:Int)=1 by decide,show ¬(15:Int)=2 by decide,show ¬(15:Int)=3 by decide,show ¬(15:Int)=4 by decide,show ¬(15:Int)=5 by decide,show ¬(15:Int)=11 by decide,show ¬(15:Int)=12 by decide,show ¬(15:Int)=13 by decide,show ¬(15:Int)=14 by decide,if_false,if_true];generalize (if m.taken+(ts.length+1) > heap then bR m else m.taken)=tk;by_cases hr:tk+(ts.length+1)<=heap
  · rw [if_pos hr];have hlen:=h.aA;refine ⟨σ++ [i.a],⟨hh.behind Q5 Q5 (hL.more _) ((hB.more _).push (fun j hj=>?_)),h.low.more _,h.main,h.deep,by simp [hlen],fun j k fs hk hj=>?_,h.told⟩,?_⟩
    · cases hj
      exact ⟨Q5,by rw [<-hlen];simp⟩
    · by_cases Fc:j < σ.length
      · rw [List.getElem?_append_left Fc] at hk;rw [List.getElem?_append_left (hlen▸Fc)] at hj;obtain ⟨s2,q1,q2,q3⟩:=h.blks j k fs hk hj;exact ⟨s2,q1,q2,q3.more _⟩
      · rw [List.getElem?_append_right Q5] at hk;rw [List.getElem?_append_right Q5,<-hlen] at hj;have Ny:j - σ.length=0:=by
         have:=(List.getElem?_eq_some_iff.1 hk).1
         simp at this;omega
        rw [Ny] at hk hj;simp at hk hj
        subst hk hj;exact ⟨ts,h1,hs,hU.more _⟩
    · show (m.blks++ [b]).length<=_
      simp
  · rw [if_neg hr];exact ⟨rfl,Q6⟩
 | get s k e h1 h0 hs hk=>
  obtain ⟨v,rfl,hv⟩:=hU.of_one;simp only [e,hS,bY,cS];cases hb:v.blk with
  | none=>exact ⟨rfl,Q6⟩
  | some j=>
   obtain ⟨q1,q2⟩:=hv j hb;have D':j < m.blks.length:=by rw [<-h.aA];exact (List.getElem?_eq_some_iff.1 q2).1
   obtain ⟨s2,p1,p2,p3⟩:=h.blks j _ _ q2 (List.getElem?_eq_getElem D');rw [hs] at p2;cases p2;have Z':m.blks.getD j []=m.blks[j]:=by rw [List.getD_eq_getElem?_getD,List.getElem?_eq_getElem D'];rfl
   refine ⟨σ,h.upd (hh.behind Q5 Q5 hL (hB.push ?_)) rfl,Nat.le_succ _⟩;rw [Z'];exact p3.getD hk
 | set s k e h1 h0 hs hk=>
  obtain ⟨v,v',rfl,hv,QR⟩:=hU.of_two;simp only [e,hS,gj,fq,iE];cases hb:v.blk with
  | none=>exact ⟨rfl,Q6⟩
  | some j=>
   obtain ⟨q1,q2⟩:=hv j hb;have D':j < m.blks.length:=by rw [<-h.aA];exact (List.getElem?_eq_some_iff.1 q2).1
   obtain ⟨s2,p1,p2,p3⟩:=h.blks j _ _ q2 (List.getElem?_eq_getElem D');rw [hs] at p2;cases p2;have Z':m.blks.getD j []=m.blks[j]:=by rw [List.getD_eq_getElem?_getD,List.getElem?_eq_getElem D'];rfl
   refine ⟨σ,⟨hh.behind Q5 Q5 hL (by rw [List.append_nil];exact hB),h.low,h.main,h.deep,by simp [h.aA],fun j2 k2 fs P7 Fc=>?_,h.told⟩,Q6⟩;simp only [List.getElem?_set] at Fc;by_cases ej:j=j2
   · subst ej;simp only [D',if_true] at Fc;rw [Z'] at Fc;cases Fc
     rw [q2] at P7;cases P7;exact ⟨s,h1,hs,p3.set hk QR⟩
   · simp only [ej,if_false] at Fc;exact h.blks j2 k2 fs P7 Fc
 | nil e h1=>
  simp only [e];exact ⟨σ,h.upd (hh.behind Q5 Q5 hL (by rw [hS,hU.of_nil,List.append_nil];exact hB.push (.zero _ _))) rfl,Nat.le_succ _⟩
 | isnil e h1=>
  obtain ⟨v,rfl,hv⟩:=hU.of_one;simp only [e,hS,bY,cS];exact ⟨σ,h.upd (hh.behind Q5 Q5 hL (hB.push (.num _ _ _))) rfl,Nat.le_succ _⟩
 | out e=>
  obtain ⟨v,rfl,hv⟩:=hU.of_one;simp only [e,hS,bY,cS];refine ⟨σ,⟨hh.behind Q5 Q5 hL (by rw [List.append_nil];exact hB),h.low,h.main,h.deep,h.aA,h.blks,?_⟩,Nat.le_succ _⟩;have:=h.told
  show (if m.told.length < 1000 then m.told++ [v.num] else m.told).length<=1000
  split
  · simp;omega
  · omega
open Go.RowKit
attribute [local go_sem ↓] Go.wp_at_zero Go.wp_at_succ
theorem Tryz.sliceNe(a:Addr)(n c:Nat)(w:World):(binOp .eql 160 (.slice (some a) n c) (.slice none 0 0)).run Tryz.prog w=.ok (.bool false) w:=Q7
theorem Tryz.sliceEq(w:World):(binOp .eql 160 (.slice none 0 0) (.slice none 0 0)).run Tryz.prog w=.ok (.bool true) w:=Q7
theorem mY(g off n cap:Nat)(ys:List Value)(w:World)(hR:rR w (.slice (some ⟨g,off,none⟩) n cap) n ys)(hl:ys.length=n * 2)(h1:∀u∈ys,u.oneCell'=true)(hn:n<=100000):
 Calls Tryz.prog 126 #[.slice (some ⟨g,off,none⟩) n cap] w (wz 166 2 n ys w):=by
 have g1:=(Gr.refl w).alloc (.cells #[] 166);have ho:(w.alloc (.cells #[] 166)).ownsRow w.heap.size 166 2 (.slice (some ⟨w.heap.size,0,none⟩) 0 0) 0 []:=World.ownsRow_lit (e:=166) (size:=2) w #[] 0 (Nat.le_refl _) (Nat.zero_le _) rfl;have hR1:rR (w.alloc (.cells #[] 166)) (.slice (some ⟨g,off,none⟩) n cap) n ys:=by
  obtain ⟨ao,cp,e,hc⟩:=hR;refine ⟨ao,cp,e,fun j u hj=>?_⟩;obtain ⟨b,o,e1,e2⟩:=hc j u hj;exact ⟨b,o,e1,g1.cell e2 Q6⟩
 obtain ⟨v6,w6,Ma,T9,P2,G9⟩:=dK (ty:=160) 160 166 _ Tryz.infVal Tryz.uVal rfl Q9 Q9 ho hR1 hl h1 Q5 Q6;obtain ⟨MK,NK,rfl⟩:=aL T9;have Ce:=aH Ma;have Sf:=aH T9;have Wa:Hid (Gr w w6):=aH ⟨P2.os.trans g1.os,P2.tape.trans g1.tape,P2.output.trans g1.output,Nat.le_trans g1.size P2.size,fun i hi hne=>(P2.block i (Nat.lt_of_lt_of_le hi g1.size) (by simp [Value.ownBlock];omega)).trans (g1.block i hi hne)⟩;clear g1 ho hR1 Ma T9 P2 G9 hR;have Ri:=fun (a:Addr) (n c:Nat) (w:World)=>Tryz.sliceNe a n c w
 go_enter Tryz.func126,Tryz.ntmps126
 go_wp2_with (at_builtin;refine Lib.wpList_append_run _ rfl _ _ _ _ rfl _ _ rfl rfl _ _ Ce.out ?_)
 go_ret
 exact ⟨_,rfl,by simpa using Sf.out,Wa.out⟩
theorem sO(w:World):Calls Tryz.prog 126 #[.slice none 0 0] w (wz 166 2 0 [] w):=by
 have Ri:=fun (w:World)=>Tryz.sliceEq w
 go_enter Tryz.func126,Tryz.ntmps126
 go_wp2_with fail
 go_ret
 exact ⟨_,rfl,World.ownsRow_nil _ _ _ _,Gr.refl _⟩
def B_(w:World)(fb:Nat)(vc:Value)(pos:Int)(vs vk:Value)(m c:Nat)(xs ys:List Value)(x:Ending)(w':World):Prop:=∃v vk',x=.returned v/\w'.ownsRow w.heap.size 166 2 v c ys/\lW w' fb vc pos vs vk'/\w'.ownsRow 0 166 2 vk' m xs/\vk'.ownBlock=vk.ownBlock/\At w w' fb none
theorem vG(w:World)(fb:Nat)(vc:Value)(pos:Int)(vs:Value)(g m c cap:Nat)(xs ys:List Value)(hF:lW w fb vc pos vs (.slice (some ⟨g,0,none⟩) (m+c) cap))(ho:w.ownsRow 0 166 2 (.slice (some ⟨g,0,none⟩) (m+c) cap) (m+c) (xs++ys))(hx:xs.length=m * 2)(h1:∀u∈ys,u.oneCell'=true)(hne:¬g=fb)(hn:m+c<=100000):
 Calls Tryz.prog 91 #[.pointer (some ⟨fb,0,none⟩),.int .i64 (c:Int)] w (B_ w fb vc pos vs (.slice (some ⟨g,0,none⟩) (m+c) cap) m c xs ys):=by
 have I_:fb < w.heap.size:=(Array.getElem?_eq_some_iff.1 hF).1;obtain ⟨cur,Qp,Il,Kt,Gi,Rp⟩:∃cur,w.heap[g]? =some (.cells cur 166 (0,0))/\m+c<=cap/\cap<=maxLen/\cur.size=cap * 2/\cur.toList.take ((m+c) * 2)=xs++ys:=by
  rcases ho.2 with ⟨h,_⟩|⟨g',Se,cur,e,_,h2,h3,h4,h5,h6⟩
  · cases h
  · simp only [Value.slice.injEq,Option.some.injEq,Addr.mk.injEq,and_true,true_and] at e;obtain ⟨rfl,rfl⟩:=e;exact ⟨cur,h2,h3,h4,h5,h6⟩
 have I4:ys.length=c * 2:=by have:=ho.1;rw [List.length_append,hx] at this;omega
 have hRR:rR w (.slice (some ⟨g,m * 2,none⟩) c (cap - m)) c ys:=⟨_,_,rfl,fun j u hj=>⟨g,m * 2,rfl,by
  have D':j < ys.length:=(List.getElem?_eq_some_iff.1 hj).1;rw [ho.cellAt _ Q5,List.getElem?_append_right Q5,hx,show m * 2+j - m * 2=j by omega];exact hj⟩⟩
 have how:w.ownsRow 0 166 2 (.slice (some ⟨g,0,none⟩) m cap) m xs:=⟨hx,.inr ⟨g,cap,cur,rfl,Nat.zero_le _,Qp,Q5,Kt,Gi,by
  have:(cur.toList.take ((m+c) * 2)).take (m * 2)=(xs++ys).take (m * 2):=by rw [Rp]
  rw [List.take_take,Nat.min_eq_left Q5] at this;rw [this,<-hx,List.take_left]⟩⟩
 have Tt:=aH (mY g (m * 2) c (cap - m) ys w hRR I4 h1 Q5);have HCZ:Hid (cap=m->Calls Tryz.prog 126 #[.slice (some ⟨g,0,none⟩) c 0] w (wz 166 2 c ys w)):=aH (fun e=>by
  have L8:c=0:=Q5
  have hy0:ys= []:=List.eq_nil_of_length_eq_zero Q5;subst L8 hy0;exact mY g 0 0 0 [] w ⟨_,_,rfl,fun j u hj=>by simp at hj⟩ rfl Q6 Q5)
 have HF:=aH hF;have E9:=aH how;have Gd:g < w.heap.size:=(Array.getElem?_eq_some_iff.1 Qp).1;have f3:w.cell? ⟨fb,3,none⟩=some (.slice (some ⟨g,0,none⟩) (m+c) cap):=by rw [aJ hF];rfl
 have D2:IntKind.i64.wrap ((m:Int)+(c:Int) - (c:Int))=(m:Int):=by rw [Q_];omega
 have D3:IntKind.i64.wrap (((m+c:Nat):Int) - (c:Int))=(m:Int):=by rw [Q_];omega
 have V5:IntKind.i64.wrap (m:Int)=(m:Int):=Q_;have b1:(m:Int)<=(m:Int)+(c:Int):=Q5
 have b2:m<=m+c:=Q5
 have b3:(m:Int)<=(cap:Int):=Q5
 have b4:m<=cap:=Q5
 have b5:m+c - m=c:=Q5
 clear hF ho Qp Kt Gi Rp hRR how hx h1 I4;go_enter Tryz.func91,Tryz.ntmps91
 go_wp2_with fail
 all_goals
  first|refine Tt.out.mono ?_|refine (HCZ.out Q8).mono ?_
  rintro x w2 ⟨v,rfl,Wz,E0⟩;obtain ⟨va,Sp,rfl⟩:=aL Wz;have Cn:=(E0.block fb I_ Q6).trans HF.out;have m3:w2.cell? ⟨fb,3,none⟩=some (.slice (some ⟨g,0,none⟩) (m+c) cap):=by rw [aJ Cn];rfl
  have mz:w2.frozen? ⟨fb,3,none⟩=false:=aS Cn;have Dn:=aH Cn;have PK:=aH Wz;have O0:=aH E0;clear Cn Wz E0 f3;go_wp2_with fail
  go_ret
  refine ⟨.slice va c Sp,.slice (some ⟨g,0,none⟩) m cap,rfl,?_,?_,?_,rfl,⟨O0.out.os,O0.out.tape,O0.out.output,by simpa using O0.out.size,fun b hb h1 _=>(Below.heap_setCell _ _ _ _ h1).trans (O0.out.block b hb Q6)⟩⟩
  · exact bS PK.out (fun q hq=>Below.heap_setCell _ _ _ _ (by show q≠fb;have:=(PK.out.lt q hq).1;omega))
  · exact (heap_setCell_same w2 fb 3 _ _ _ Dn.out).trans (by first|(simp;done)|(simp;omega))
  · refine bS E9.out (fun q hq=>?_);have OK:g=q:=by simpa [Value.ownBlock] using hq
    subst OK;exact (Below.heap_setCell _ _ _ _ hne).trans (O0.out.block g Gd Q6)
theorem yE(w:World)(fb:Nat)(vc:Value)(pos:Int)(vs:Value)(hF:lW w fb vc pos vs (.slice none 0 0)):
 Calls Tryz.prog 91 #[.pointer (some ⟨fb,0,none⟩),.int .i64 0] w (B_ w fb vc pos vs (.slice none 0 0) 0 0 [] []):=by
 have I_:fb < w.heap.size:=(Array.getElem?_eq_some_iff.1 hF).1;have f3:w.cell? ⟨fb,3,none⟩=some (.slice none 0 0):=by rw [aJ hF];rfl
 have HF:=aH hF;clear hF;go_enter Tryz.func91,Tryz.ntmps91
 go_wp2_with fail
 refine (sO _).mono ?_;rintro x w2 ⟨v,rfl,Wz,E0⟩;obtain ⟨va,Sp,rfl⟩:=aL Wz;have Cn:=(E0.block fb I_ Q6).trans HF.out;have m3:w2.cell? ⟨fb,3,none⟩=some (.slice none 0 0):=by rw [aJ Cn];rfl
 have mz:w2.frozen? ⟨fb,3,none⟩=false:=aS Cn;have Dn:=aH Cn;have PK:=aH Wz;have O0:=aH E0;clear Cn Wz E0 f3;go_wp2_with fail
 go_ret
 refine ⟨.slice va 0 Sp,.slice none 0 0,rfl,?_,?_,World.ownsRow_nil _ _ _ _,rfl,⟨O0.out.os,O0.out.tape,O0.out.output,by simpa using O0.out.size,fun b hb h1 _=>(Below.heap_setCell _ _ _ _ h1).trans (O0.out.block b hb Q6)⟩⟩
 · exact bS PK.out (fun q hq=>Below.heap_setCell _ _ _ _ (by show q≠fb;have:=(PK.out.lt q hq).1;omega))
 · exact (heap_setCell_same w2 fb 3 _ _ _ Dn.out).trans Q6
theorem vH(w:World)(fb:Nat)(vc:Value)(pos:Int)(vs vk:Value)(m c:Nat)(xs ys:List Value)(hF:lW w fb vc pos vs vk)(ho:w.ownsRow 0 166 2 vk (m+c) (xs++ys))(hx:xs.length=m * 2)(h1:∀u∈ys,u.oneCell'=true)(hne:¬vk.ownBlock=some fb)(hn:m+c<=100000):
 Calls Tryz.prog 91 #[.pointer (some ⟨fb,0,none⟩),.int .i64 (c:Int)] w (B_ w fb vc pos vs vk m c xs ys):=by
 have Xz:=ho;rcases ho.2 with ⟨h,h2⟩|⟨g,cap,cur,e,_⟩
 · have h3:=ho.1;have hl:m+c=0:=by simpa using h2
   have LD:m=0:=Q5
   have L8:c=0:=Q5
   subst LD L8;obtain rfl:xs= []:=List.eq_nil_of_length_eq_zero Q5;obtain rfl:ys= []:=List.eq_nil_of_length_eq_zero (by simpa using h3);subst h;exact yE w fb vc pos vs hF
 · subst e;exact vG w fb vc pos vs g m c cap xs ys hF Xz hx h1 (fun e=>hne (by rw [e];rfl)) hn
open Go.RowKit
theorem mP{P:Program}(w:World)(t tn ty e:TypeId)(i:TypeInfo)(z:Value)(kq kn:IntKind)(ht:P.underlying t=some (.slice e))(YJ:P.underlying tn=some (.int kn))(hi:P.info? e=some i)(hz:i.zero=some z)
 (g Xi Yz:Nat) (cur:Array Value) (hg:w.heap[g]? =some (.cells cur e (0,0))) (k:Nat) (h0:0 < k) (hs:0 < i.size) (Zn:z.cells.size=i.size) (h1:∀u∈(Builtin.zeroCells z.cells k).toList,u.oneCell'=true)
 (Rd:Xi+k<=Yz) (G3:Xi * i.size+k * i.size<=cur.size) (h63:(k:Int)<=9223372036854775807) (h48:k * i.bytes<=281474976710656):
 (Builtin.append_ #[t,tn] ty #[.slice (some ⟨g,0,none⟩) Xi Yz,.int kq k]).run P w =
  .ok (.slice (some ⟨g,0,none⟩) (Xi+k) Yz) (w.setRow g (cur.toList.take (Xi * i.size)++(Builtin.zeroCells z.cells k).toList++cur.toList.drop (Xi * i.size+(Builtin.zeroCells z.cells k).toList.length)).toArray):=by
 have hk:k≠0:=Q5
 have hw:IntKind.i64.wrap (k:Int)=k:=by rw [IntKind.wrap_i64];omega
 have Jt:¬((k:Int) < 0):=Q5
 have hns:¬(k * i.size=0):=Nat.mul_ne_zero hk Q5;have h48i:¬(281474976710656 < (k:Int) * (i.bytes:Int)):=by
  rw [<-Int.natCast_mul];omega
 have T0:=run_storeCells_at P g (Xi * i.size) e (Builtin.zeroCells z.cells k).toList 0 cur w hg (by rw [Array.length_toList,size_zeroCells,Zn];simpa using G3) h1;simp only [Nat.add_zero] at T0;simp [Builtin.append_,run_underlying ht,run_underlying YJ,sizeOf,typeInfo,zeroValue,hi,hz,asInt,asIntOf,hw,Jt,hns,h48i,Rd,Addr.add_lit,T0]
def zV:Nat->List Value
 | 0=> []
 | k+1=>.int .i64 0 :: .pointer none :: zV k
theorem pC:∀k,(zV k).length=k * 2
 | 0=>rfl
 | k+1=>by simp only [zV,List.length_cons,pC k];omega
theorem zu:∀(k j:Nat),j < k * 2->(zV k)[j]? =some (if j % 2=0 then .int .i64 0 else .pointer none)
 | 0,j,h=>by omega
 | k+1,0,h=>rfl
 | k+1,1,h=>rfl
 | k+1,j+2,h=>by
  have e:(zV (k+1))[j+2]? =(zV k)[j]? :=rfl;rw [e,zu k j Q5,show (j+2) % 2=j % 2 by omega]
theorem pJ(k:Nat):(Builtin.zeroCells (Value.agg #[.int .i64 0,.pointer none]).cells k).toList=zV k:=by
 have hs:(Value.agg #[.int .i64 0,.pointer none]:Value).cells=#[.int .i64 0,.pointer none]:=rfl;apply List.ext_getElem?
 intro j;by_cases hj:j < k * 2
 · rw [zu k j hj,hs,Array.getElem?_toList];unfold Builtin.zeroCells;have h2:(#[.int .i64 0,.pointer none]:Array Value).size=2:=rfl;simp only [h2,Array.getElem?_map,Array.getElem?_range,hj,if_true,Option.map_some];rcases (show j % 2=0\/j % 2=1 by omega) with e|e
   · rw [e];rfl
   · rw [e];rfl
 · have a:(zV k)[j]? =none:=List.getElem?_eq_none (by rw [pC];omega);have b:(Builtin.zeroCells (Value.agg #[.int .i64 0,.pointer none]).cells k).toList[j]? =none:=List.getElem?_eq_none (by rw [Array.length_toList,size_zeroCells,hs];show k * 2<=j;omega);rw [a,b]
theorem AX(k:Nat):∀u∈zV k,u.oneCell'=true:=by
 induction k with
 | zero=>intro u hu;cases hu
 | succ k ih=>
  intro u hu;simp only [zV,List.mem_cons] at hu;rcases hu with rfl|rfl|hu
  · rfl
  · rfl
  · exact ih u hu
theorem Tryz.uInt_:Tryz.prog.underlying 3=some (.int .i64):=Q7
theorem vV{w:World}{base n k:Nat}{v:Value}{xs:List Value}(ty:TypeId)(C1:w.ownsRow base 166 2 v n xs)(hn:n+k<=100000)(hb:base<=w.heap.size):
 ∃v' w',(Builtin.append_ #[160,3] ty #[v,.int .i64 (k:Int)]).run Tryz.prog w=.ok v' w'/\w'.ownsRow base 166 2 v' (n+k) (xs++zV k)/\w.grownBy w' v.ownBlock/\(v'.ownBlock=v.ownBlock\/v'.ownBlock=some w.heap.size):=by
 obtain ⟨i,hi,hz,R0,Pj⟩:=info_parts Tryz.infVal;have hw:IntKind.i64.wrap (k:Int)=k:=by rw [IntKind.wrap_i64];omega
 have hlen:(xs++zV k).length=(n+k) * 2:=by rw [List.length_append,C1.1,pC,Nat.add_mul]
 by_cases hk:k=0
 · subst hk;have J_:IntKind.i64.wrap 0=0:=by decide
   refine ⟨v,w,?_,by simpa [zV] using C1,⟨rfl,rfl,rfl,Nat.le_refl _,fun _ _ _=>rfl⟩,.inl rfl⟩;rcases C1.2 with ⟨rfl,rfl⟩|⟨g,cp,cur,rfl,_,_,Gt,_⟩
   · simp [Builtin.append_,run_underlying Tryz.uVal,run_underlying Tryz.uInt_,Go.sizeOf,typeInfo,hi,asInt,asIntOf,J_]
   · simp [Builtin.append_,run_underlying Tryz.uVal,run_underlying Tryz.uInt_,Go.sizeOf,typeInfo,hi,asInt,asIntOf,J_,Gt,storeCells]
 · have grown:∀(old:Nat) (row:Option Nat),
    (w.drew.alloc (.cells (xs.toArray++Builtin.zeroCells (Value.agg #[.int .i64 0,.pointer none]).cells k++Builtin.zeroCells (Value.agg #[.int .i64 0,.pointer none]).cells (grownCap w (n+k) old 166 - (n+k))) 166)).ownsRow base 166 2 (.slice (some ⟨w.heap.size,0,none⟩) (n+k) (grownCap w (n+k) old 166)) (n+k) (xs++zV k)/\
    w.grownBy (w.drew.alloc (.cells (xs.toArray++Builtin.zeroCells (Value.agg #[.int .i64 0,.pointer none]).cells k++Builtin.zeroCells (Value.agg #[.int .i64 0,.pointer none]).cells (grownCap w (n+k) old 166 - (n+k))) 166)) row:=by
    intro old row;have Wt:=grownCap_ge w (n+k) old 166;have Kt:grownCap w (n+k) old 166<=maxLen:=grownCap_le_maxLen w (n+k) old 166 (by unfold maxLen;omega);have Zn:(Value.agg #[.int .i64 0,.pointer none]:Value).cells.size=2:=rfl;refine ⟨⟨hlen,.inr ⟨w.heap.size,_,_,rfl,hb,heap_alloc_new w.drew _,Wt,Kt,?_,?_⟩⟩,⟨rfl,rfl,rfl,Q6,fun q hq _=>(World.grownBy_alloc w.drew _ none).block q hq Q6⟩⟩
    · simp only [Array.size_append,List.size_toArray,size_zeroCells,Zn,C1.1];generalize grownCap w (n+k) old 166=q at Wt;omega
    · simp only [Array.toList_append,pJ];generalize zV (grownCap w (n+k) old 166 - (n+k))=r;rw [<-hlen];exact List.take_left
   rcases C1.2 with ⟨rfl,rfl⟩|⟨g,cap,cur,rfl,hbg,hg,Gt,Kt,Gi,Cv⟩
   · have hx:xs= []:=List.eq_nil_of_length_eq_zero (by simpa using C1.1);subst hx;have hr:=Lib.run_append_nil_zeros (P:=Tryz.prog) w 160 3 ty 166 i _ .i64 .i64 Tryz.uVal Tryz.uInt_ hi hz k Q5 Q5 Q5 (by rw [Pj];omega);have M3:=grown 0 (Value.ownBlock (.slice none 0 0));simp only [Nat.zero_add,List.nil_append,Array.empty_append] at M3 |-;exact ⟨_,_,hr,M3.1,M3.2,Or.inr rfl⟩
   · by_cases Rd:n+k<=cap
     · have hr:=mP (P:=Tryz.prog) w 160 3 ty 166 i _ .i64 .i64 Tryz.uVal Tryz.uInt_ hi hz g n cap cur hg k Q5 Q5 (by rw [R0];rfl) (by rw [pJ];exact AX k) Rd (by rw [R0,Gi];omega) Q5 (by rw [Pj];omega);rw [pJ,R0] at hr;refine ⟨_,_,hr,⟨hlen,.inr ⟨g,cap,_,rfl,hbg,setRow_heap w g cur _ _ _ hg,Rd,Kt,?_,?_⟩⟩,⟨rfl,rfl,rfl,Q6,fun q _ hq=>setRow_other w g q _ (fun e=>hq (by simp [Value.ownBlock,e]))⟩,Or.inl rfl⟩
       · simp only [List.size_toArray,List.length_append,List.length_take,List.length_drop,Array.length_toList,pC];omega
       · rw [Cv,<-hlen];exact List.take_left
     · have holds:∀j u,xs[j]? =some u->w.drew.cell? ((⟨g,0,none⟩:Addr).add j)=some u:=C1.cells (g:=g) rfl;have hf:=run_firstCells_some (P:=Tryz.prog) w.drew i.size n ⟨g,0,none⟩ n cap xs (by rw [R0];exact C1.1) holds;have hr:=Lib.run_append_grow_zeros (P:=Tryz.prog) w 160 3 ty 166 i _ .i64 .i64 Tryz.uVal Tryz.uInt_ hi hz (some ⟨g,0,none⟩) n cap xs hf k Q5 Q5 Q5 Q5 (by rw [Pj];omega) (growslice_fits Q5 (by rw [Pj];omega));have M3:=grown cap (Value.ownBlock (.slice (some ⟨g,0,none⟩) n cap));exact ⟨_,_,hr,M3.1,M3.2,Or.inr rfl⟩
open Go.RowKit
attribute [local go_sem ↓] Go.wp_at_zero Go.wp_at_succ
def CR(w:World)(B:Nat)(vc vp:Value)(n:Nat)(xs:List Value)(x:Ending)(w':World):Prop:=∃nb vs,x=.returned (.pointer (some ⟨nb,0,none⟩))/\lW w' nb vc 0 vs (.slice none 0 0)/\w'.ownsRow B 166 2 vs n xs/\(vs.ownBlock=vp.ownBlock\/∃k,vs.ownBlock=some k/\w.heap.size<=k)/\w.heap.size<=nb/\¬vs.ownBlock=some nb/\w.grownBy w' vp.ownBlock
theorem pA(w:World)(B:Nat)(fa la ca pa:Option Addr)(fn Ob nl lc cn cc n pc:Nat)(res:Int)(xs:List Value)(ho:w.ownsRow B 166 2 (.slice pa n pc) n xs)(hB:B<=w.heap.size)(hn:n+nl<=100000):
 Calls Tryz.prog 89 #[.agg #[.slice fa fn Ob,.int .i64 res,.slice la nl lc,.slice ca cn cc],.slice pa n pc] w (CR w B (.slice ca cn cc) (.slice pa n pc) (n+nl) (xs++zV nl)):=by
 have g1:=(Gr.refl w).alloc (.cells #[.slice fa fn Ob,.int .i64 res,.slice la nl lc,.slice ca cn cc] 47);have Y0:=heap_alloc_new w (.cells #[.slice fa fn Ob,.int .i64 res,.slice la nl lc,.slice ca cn cc] 47);have I6:(w.alloc (.cells #[.slice fa fn Ob,.int .i64 res,.slice la nl lc,.slice ca cn cc] 47)).heap.size=w.heap.size+1:=Q6
 have HO:=aH ho;have I1:=aH g1;have W_:=aH I6;have KS:Hid (∀w':World,w'.heap[w.heap.size]? =some (.cells #[.slice fa fn Ob,.int .i64 res,.slice la nl lc,.slice ca cn cc] 47 (0,0))->w'.cell? ⟨w.heap.size,3,none⟩=some (.slice ca cn cc)/\w'.cell? ⟨w.heap.size,2,none⟩=some (.slice la nl lc)):=aH (fun w' e=>⟨by rw [aJ e];rfl,by rw [aJ e];rfl⟩);have S6:=aH Y0;clear g1 Y0 ho I6;go_enter Tryz.func89,Tryz.ntmps89
 go_upto_region 1 with fail
 generalize w.alloc (.cells #[.slice fa fn Ob,.int .i64 res,.slice la nl lc,.slice ca cn cc] 47)=W1 at I1 W_ S6 |-;refine wp_region_held_drew (S:=(fun w'=>w'.cell? ⟨w.heap.size,3,none⟩=some (.slice ca cn cc)/\w'.cell? ⟨w.heap.size,2,none⟩=some (.slice la nl lc))) Q7 (KS.out _ S6.out) (fun hH=>?_);refine tL 0 ?_;simp only [Act.put,sA,s0,s1];refine tL 1 ?_;simp only [Act.put,sA,s0,s1];refine tL 2 ?_;simp only [Act.put,sA,s0,s1];refine tL 3 ?_;simp only [Act.put,sA,s0,s1];refine tL 4 ?_;simp only [Act.put,sA,s0,s1];refine tL 5 ?_;simp only [Act.put,sA,s0,s1];obtain ⟨v6,w6,Ma,T9,P2,G9⟩:=vV (k:=nl) (w:=W1.drew) 160 (dA HO.out (I1.out.drew)) hn (Nat.le_trans hB I1.out.size);obtain ⟨MK,NK,rfl⟩:=aL T9;have Sf:=aH T9;have Wa:=aH P2;have Zq:=aH G9;have Dl:Hid (w.heap.size < w6.heap.size):=aH (by have h7:W1.heap.size<=w6.heap.size:=P2.size;have:=W_.out;omega);have P4:w6.heap[w.heap.size]? =_:=(P2.block w.heap.size (by show w.heap.size < W1.heap.size;have:=W_.out;omega) (fun e=>by have:=(HO.out.lt _ e.symm).2;omega)).trans S6.out;have Rm:=aH P4;refine aq (i:=6) rfl Q7 (fun K hK=>?_);refine ae cw (Lib.wp_append_run _ _ _ _ _ rfl (.slice pa n pc) (.int .i64 (nl:Int)) fk fk _ _ Ma ?_);refine hK.out _ _ (KS.out _ Rm.out) (fun hH=>?_);clear hK;try simp only [Act.put,sA,s0,s1]
 clear Ma P4 T9 P2 G9;refine tL 7 ?_;simp only [Act.put,sA,s0,s1];refine aq (i:=8) rfl Q7 (fun K hK=>?_);refine ae cw ?_;have HK:=aH hK;clear hK;go_simp
 refine HK.out _ _ (KS.out _ (((World.grownBy_alloc w6 _ none).block w.heap.size Dl.out Q6).trans Rm.out)) (fun hH=>?_);clear HK;try simp only [Act.put,sA,s0,s1]
 refine tL 9 ?_;simp only [Act.put,sA,s0,s1];refine wpAnyH_done Q7 ?_ _;clear hH KS;go_wp2_with fail
 go_ret
 have hs6:=Dl.out;refine ⟨w6.heap.size,.slice MK (n+nl) NK,rfl,heap_alloc_new w6 _,dA Sf.out ((Gr.refl w6).alloc _),?_,Q5,?_,?_⟩
 · rcases Zq.out with e|e
   · exact .inl e
   · exact .inr ⟨_,e,by have:=I1.out.size;show w.heap.size<=W1.heap.size;omega⟩
 · exact fun e=>by have:=(Sf.out.lt _ e).2;omega
 · have h6:=Wa.out;exact ⟨h6.os.trans I1.out.os,h6.tape.trans I1.out.tape,h6.output.trans I1.out.output,by have:=I1.out.size;have:=h6.size;simp;have h7:W1.heap.size<=w6.heap.size:=h6.size;omega,fun q hq hne=>((World.grownBy_alloc w6 _ none).block q (by have h7:W1.heap.size<=w6.heap.size:=h6.size;have:=I1.out.size;omega) Q6).trans ((h6.block q (Nat.lt_of_lt_of_le hq I1.out.size) hne).trans (I1.out.block q hq Q6))⟩
open Go.RowKit
attribute [local go_sem ↓] Go.wp_at_zero Go.wp_at_succ
def pN(w:World)(mb:Nat)(v1 v2 v3 v4 v5 vf:Value)(hp tk ct:Int)(vt:Value):Prop:=w.heap[mb]? =some (.cells #[v1,v2,v3,v4,v5,vf,.int .i64 hp,.int .i64 tk,.int .i64 ct,vt] 108 (0,0))
def kG(l:List Int)(x:Int):List Int:=if l.length < 1000 then l++ [x] else l
def CY(w:World)(mb:Nat)(v1 v2 v3 v4 v5 vf:Value)(hp tk ct:Int)(vt:Value)(l:List Int)(x:Ending)(w':World):Prop:=∃Vr,x=.returned (.tuple #[])/\pN w' mb v1 v2 v3 v4 v5 vf hp tk ct Vr/\w'.ownsRow 0 3 1 Vr l.length (fP l)/\(Vr.ownBlock=vt.ownBlock\/∃k,Vr.ownBlock=some k/\w.heap.size<=k)/\At w w' mb vt.ownBlock
theorem xw(w:World)(mb:Nat)(v1 v2 v3 v4 v5 vf:Value)(hp tk ct:Int)(vt:Value)(l:List Int)(x:Int)(hM:pN w mb v1 v2 v3 v4 v5 vf hp tk ct vt)(ho:w.ownsRow 0 3 1 vt l.length (fP l))(hne:¬vt.ownBlock=some mb)(hl:l.length<=1000):
 Calls Tryz.prog 97 #[.pointer (some ⟨mb,0,none⟩),.int .i64 x] w (CY w mb v1 v2 v3 v4 v5 vf hp tk ct vt (kG l x)):=by
 obtain ⟨ta,tc,rfl⟩:=aL ho;have Rf:mb < w.heap.size:=(Array.getElem?_eq_some_iff.1 hM).1;have c9:w.cell? ⟨mb,9,none⟩=some (.slice ta l.length tc):=by rw [aJ hM];rfl
 by_cases h:l.length < 1000
 · have hi:(l.length:Int) < 1000:=by omega
   have HT:Hid (kG l x=l++ [x]):=aH (by unfold kG;rw [if_pos h]);have gA:=(Gr.refl w).alloc (.cells #[.int .i64 x] 3);obtain ⟨v6,w6,Ma,T9,P2,G9⟩:=dK (ty:=24) 24 3 _ Tryz.infI Tryz.uI rfl Q9 Q9 (dA ho gA) (dx w #[.int .i64 x] 3 1) rfl (by intro q hq;simp at hq;subst hq;rfl) Q5 (Nat.zero_le _);obtain ⟨ta6,tc6,rfl⟩:=aL T9;have hB6:∀b,b < w.heap.size->¬(Value.slice ta l.length tc).ownBlock=some b->w6.heap[b]? =w.heap[b]? :=fun b hb h2=>(P2.block b (Nat.lt_of_lt_of_le hb gA.size) (fun e=>h2 e.symm)).trans (gA.block b hb Q6)
   have Mi:=(hB6 mb Rf hne).trans hM;have d9:w6.cell? ⟨mb,9,none⟩=some (.slice ta l.length tc):=by rw [aJ Mi];rfl
   have z9:w6.frozen? ⟨mb,9,none⟩=false:=aS Mi;have Ce:=aH Ma;have Sf:=aH T9;have Sr:=aH hB6;have Zz:=aH Mi;have Zq:=aH G9;have Nl:=aH (And.intro (P2.os.trans gA.os) (And.intro (P2.tape.trans gA.tape) (And.intro (P2.output.trans gA.output) (Nat.le_trans gA.size P2.size))));have HN6:Hid (¬(Value.slice ta6 (l.length+1) tc6).ownBlock=some mb):=aH (fun e=>by
    rcases G9 with h|h
    · exact hne (h.symm.trans e)
    · rw [e] at h;have:=Option.some.inj h;simp at this;omega)
   have HSA:Hid ((w.alloc (.cells #[.int .i64 x] 3)).heap.size=w.heap.size+1):=aH Q6;have ZJ:=gA.cell c9 Q6;clear hM ho gA Ma T9 P2 G9 hB6 Mi;go_enter Tryz.func97,Tryz.ntmps97
   go_wp2_with (at_builtin;refine Lib.wpList_append_run _ rfl _ _ _ _ rfl _ _ rfl rfl _ _ Ce.out ?_)
   go_end0
   rw [HT.out];refine ⟨.slice ta6 (l.length+1) tc6,rfl,?_,?_,?_,⟨Nl.out.1,Nl.out.2.1,Nl.out.2.2.1,by have:=Nl.out.2.2.2;simpa using this,fun b hb h1 h2=>(Below.heap_setCell _ _ _ _ h1).trans (Sr.out b hb h2)⟩⟩
   · exact (heap_setCell_same w6 mb 9 _ _ _ Zz.out).trans Q6
   · have:=bS Sf.out (w':=w6.setCell ⟨mb,9,none⟩ (.slice ta6 (l.length+1) tc6)) (fun q hq=>Below.heap_setCell _ _ _ _ (by show q≠mb;exact fun e=>HN6.out (e▸hq)))
     simpa [fP] using this
   · rcases Zq.out with e|e
     · exact .inl e
     · exact .inr ⟨_,e,by have:=HSA.out;omega⟩
 · have hd:decide ((l.length:Int) < 1000)=false:=by rw [decide_eq_false_iff_not];omega
   have HT:Hid (kG l x=l):=aH (by unfold kG;rw [if_neg h]);have HM:=aH hM;have HO:=aH ho;clear hM ho;go_enter Tryz.func97,Tryz.ntmps97
   go_wp2_with fail
   go_end0
   rw [HT.out];exact ⟨_,rfl,HM.out,HO.out,.inl rfl,⟨rfl,rfl,rfl,Nat.le_refl _,fun _ _ _ _=>rfl⟩⟩
open Go.RowKit
attribute [local go_sem ↓] Go.wp_at_zero Go.wp_at_succ
theorem Tryz.infPf:(Tryz.prog.info? 109).map (fun i=>(i.zero,i.size,i.bytes))=some (some (.pointer none),1,8):=Q7
theorem Tryz.uPf:Tryz.prog.underlying 106=some (.slice 109):=Q7
def CN(w:World)(mb:Nat)(v1 v2 v3 v4 v5:Value)(hp tk ct:Int)(vt:Value)(g n cap:Nat)(ps:List Value)(x:Ending)(w':World):Prop:=x=.returned (if n=0 then .pointer none else ps.getD (n - 1) undef)/\pN w' mb v1 v2 v3 v4 v5 (.slice (some ⟨g,0,none⟩) n cap) hp tk ct vt/\w'.ownsRow 0 109 1 (.slice (some ⟨g,0,none⟩) n cap) n ps/\At w w' mb none
theorem uK(w:World)(mb:Nat)(v1 v2 v3 v4 v5:Value)(hp tk ct:Int)(vt:Value)(g n cap:Nat)(ps:List Value)(pl:Value)(hM:pN w mb v1 v2 v3 v4 v5 (.slice (some ⟨g,0,none⟩) (n+1) cap) hp tk ct vt)(ho:w.ownsRow 0 109 1 (.slice (some ⟨g,0,none⟩) (n+1) cap) (n+1) (ps++ [pl]))(hne:¬g=mb)(hn:n<=1000)(Mg:∀u∈ps,∃a,u=.pointer (some a)):
 Calls Tryz.prog 92 #[.pointer (some ⟨mb,0,none⟩)] w (CN w mb v1 v2 v3 v4 v5 hp tk ct vt g n cap ps):=by
 have Rf:mb < w.heap.size:=(Array.getElem?_eq_some_iff.1 hM).1;have Om:ps.length=n:=by have:=ho.1;simp at this;omega
 have DA:=ownsRow_pop (xs:=ps) (last:= [pl]) Q5 ho;have Il:n+1<=cap:=by
  rcases ho.2 with ⟨h,_⟩|⟨g',Se,cur,e,_,_,h,_⟩
  · cases h
  · simp only [Value.slice.injEq,true_and] at e;omega
 have c5:w.cell? ⟨mb,5,none⟩=some (.slice (some ⟨g,0,none⟩) (n+1) cap):=by rw [aJ hM];rfl
 have z5:w.frozen? ⟨mb,5,none⟩=false:=aS hM;have HM:=aH hM;have HPO:=aH DA;have Gd:g < w.heap.size:=(DA.lt g rfl).2;have D2:IntKind.i64.wrap ((n:Int)+1 - 1)=(n:Int):=by rw [Q_];omega
 have D3:IntKind.i64.wrap (((n+1:Nat):Int) - 1)=(n:Int):=by rw [Q_];omega
 have V5:IntKind.i64.wrap (n:Int)=(n:Int):=Q_;have b1:(n:Int)<=(n:Int)+1:=Q5
 have b3:(n:Int)<=(cap:Int):=Q5
 have b4:n<=cap:=Q5
 have C3:Hid (pN (w.setCell ⟨mb,5,none⟩ (.slice (some ⟨g,0,none⟩) n cap)) mb v1 v2 v3 v4 v5 (.slice (some ⟨g,0,none⟩) n cap) hp tk ct vt/\(w.setCell ⟨mb,5,none⟩ (.slice (some ⟨g,0,none⟩) n cap)).ownsRow 0 109 1 (.slice (some ⟨g,0,none⟩) n cap) n ps/\At w (w.setCell ⟨mb,5,none⟩ (.slice (some ⟨g,0,none⟩) n cap)) mb none):=aH (by
  refine ⟨(heap_setCell_same w mb 5 _ _ _ hM).trans Q6,bS DA (fun q hq=>?_),⟨rfl,rfl,rfl,Q6,fun b hb h1 _=>Below.heap_setCell _ _ _ _ h1⟩⟩;have OK:g=q:=by simpa [Value.ownBlock] using hq
  subst OK;exact Below.heap_setCell _ _ _ _ hne)
 by_cases h0:n=0
 · subst h0;clear hM ho DA;go_enter Tryz.func92,Tryz.ntmps92
   go_wp2_with fail
   go_ret
   exact ⟨Q6,C3.out⟩
 · obtain ⟨j,hj⟩:∃j,n=j+1:=⟨n - 1,Q5⟩;obtain ⟨pv,YR⟩:=aX (show j < ps.length by omega);obtain ⟨a,rfl⟩:=Mg pv (List.mem_of_getElem? YR);have Vm:Hid ((if n=0 then Value.pointer none else ps.getD (n - 1) undef)=.pointer (some a)):=aH (by rw [if_neg h0,hj,Nat.add_sub_cancel,List.getD_eq_getElem?_getD,YR];rfl);have cj:(w.setCell ⟨mb,5,none⟩ (.slice (some ⟨g,0,none⟩) n cap)).cell? ⟨g,j,none⟩=some (.pointer (some a)):=by
    rw [C3.out.2.1.cellAt _ Q5];exact YR
   have WC:IntKind.i64.wrap ((n:Int) - 1)=(j:Int):=by rw [Q_];omega
   have D4:((n:Int) == 0)=false:=by simpa using h0
   have Qo:(j:Int) < (n:Int):=Q5
   have hjn2:j < n:=Q5
   have c5':(w.setCell ⟨mb,5,none⟩ (.slice (some ⟨g,0,none⟩) n cap)).cell? ⟨mb,5,none⟩=some (.slice (some ⟨g,0,none⟩) n cap):=World.cell?_setCell_same _ _ _ c5;have HJ:=aH hj;clear hM ho DA YR hj;go_enter Tryz.func92,Tryz.ntmps92
   go_upto_region 3 with fail
   generalize w.setCell ⟨mb,5,none⟩ (.slice (some ⟨g,0,none⟩) n cap)=W2 at C3 cj c5' |-;go_wp2_with fail
   go_ret
   refine ⟨?_,C3.out⟩;rw [Vm.out];rfl
open Go.RowKit
attribute [local go_sem ↓] Go.wp_at_zero Go.wp_at_succ
def CM(w:World)(mb:Nat)(v1 v2 v3 v4 v5:Value)(hp tk ct:Int)(vt vf:Value)(m:Nat)(ps:List Value)(vc vp:Value)(n:Nat)(xs:List Value)(x:Ending)(w':World):Prop:=∃nb vs Tp,x=.returned (.pointer (some ⟨nb,0,none⟩))/\lW w' nb vc 0 vs (.slice none 0 0)/\w'.ownsRow 0 166 2 vs n xs/\(vs.ownBlock=vp.ownBlock\/∃k,vs.ownBlock=some k/\w.heap.size<=k)/\w.heap.size<=nb/\¬vs.ownBlock=some nb/\
 pN w' mb v1 v2 v3 v4 v5 Tp hp tk ct vt/\w'.ownsRow 0 109 1 Tp (m+1) (ps++ [.pointer (some ⟨nb,0,none⟩)])/\(Tp.ownBlock=vf.ownBlock\/∃k,Tp.ownBlock=some k/\w.heap.size<=k/\¬k=nb/\¬vs.ownBlock=some k)/\
 w'.os=w.os/\w'.tape=w.tape/\w'.output=w.output/\w.heap.size<=w'.heap.size/\∀b,b < w.heap.size->¬b=mb->¬vp.ownBlock=some b->¬vf.ownBlock=some b->w'.heap[b]? =w.heap[b]?
theorem uF(w:World)(mb:Nat)(v1 v2 v4 v5 vf:Value)(hp tk ct:Int)(vt:Value)(m:Nat)(ps:List Value)(fb off fl Ob q:Nat)(fa la ca pa:Option Addr)(fn fc nl lc cn cc n pc:Nat)(res:Int)(xs:List Value)
 (hM:pN w mb v1 v2 (.slice (some ⟨fb,off,none⟩) fl Ob) v4 v5 vf hp tk ct vt) (hq:q < fl) (Ie:fl<=100000)
 (k0:w.cell? ⟨fb,off+q * 4,none⟩=some (.slice fa fn fc)) (k1:w.cell? ⟨fb,off+q * 4+1,none⟩=some (.int .i64 res)) (k2:w.cell? ⟨fb,off+q * 4+2,none⟩=some (.slice la nl lc)) (k3:w.cell? ⟨fb,off+q * 4+3,none⟩=some (.slice ca cn cc))
 (ho:w.ownsRow 0 109 1 vf m ps) (hne:¬vf.ownBlock=some mb) (hm:m<=1000)
 (Mg:w.ownsRow 0 166 2 (.slice pa n pc) n xs) (hpn:¬(Value.slice pa n pc).ownBlock=some mb) (QK:∀b,(Value.slice pa n pc).ownBlock=some b->¬vf.ownBlock=some b) (hn:n+nl<=100000):
 Calls Tryz.prog 50 #[.pointer (some ⟨mb,0,none⟩),.int .i64 (q:Int),.slice pa n pc] w (CM w mb v1 v2 (.slice (some ⟨fb,off,none⟩) fl Ob) v4 v5 hp tk ct vt vf m ps (.slice ca cn cc) (.slice pa n pc) (n+nl) (xs++zV nl)):=by
 obtain ⟨Xr,Yr,rfl⟩:=aL ho;have Rf:mb < w.heap.size:=(Array.getElem?_eq_some_iff.1 hM).1;have c2:w.cell? ⟨mb,2,none⟩=some (.slice (some ⟨fb,off,none⟩) fl Ob):=by rw [aJ hM];rfl
 have Nj:(q:Int) < (fl:Int):=Q5
 have HM:=aH hM;have HO:=aH ho;have HP:=aH Mg;have HPF:=aH QK;clear hM ho Mg QK;go_enter Tryz.func50,Tryz.ntmps50
 go_wp2_with fail
 refine (pA w 0 fa la ca pa fn fc nl lc cn cc n pc res xs HP.out (Nat.zero_le _) hn).mono ?_;rintro z w1 ⟨nb,vs,rfl,hF1,OD,ZR,hN1,hS1,g1⟩;have hB1:∀b,b < w.heap.size->¬(Value.slice pa n pc).ownBlock=some b->w1.heap[b]? =w.heap[b]? :=fun b hb h2=>g1.block b hb (fun e=>h2 e.symm)
 have P5:=(hB1 mb Rf hpn).trans HM.out;have d5:w1.cell? ⟨mb,5,none⟩=some (.slice Xr m Yr):=by rw [aJ P5];rfl
 have RK:w1.ownsRow 0 109 1 (.slice Xr m Yr) m ps:=bS HO.out (fun b hb=>hB1 b ((HO.out.lt b hb).2) (fun e=>HPF.out b e hb));have Oe:nb < w1.heap.size:=(Array.getElem?_eq_some_iff.1 hF1).1;have gA:=(Gr.refl w1).alloc (.cells #[.pointer (some ⟨nb,0,none⟩)] 109);obtain ⟨v6,w6,Ma,T9,P2,G9⟩:=dK (ty:=106) 106 109 _ Tryz.infPf Tryz.uPf rfl Q9 Q9 (dA RK gA) (dx w1 #[.pointer (some ⟨nb,0,none⟩)] 109 1) rfl (by intro q hq;simp at hq;subst hq;rfl) Q5 (Nat.zero_le _);obtain ⟨Eu,Fu,rfl⟩:=aL T9;have hB6:∀b,b < w1.heap.size->¬(Value.slice Xr m Yr).ownBlock=some b->w6.heap[b]? =w1.heap[b]? :=fun b hb h2=>(P2.block b (Nat.lt_of_lt_of_le hb gA.size) (fun e=>h2 e.symm)).trans (gA.block b hb Q6)
 have I6:w.heap.size<=w1.heap.size:=g1.size;have Mi:=(hB6 mb Q5 hne).trans P5;have d5':=gA.cell d5 Q6;have z5:w6.cell? ⟨mb,5,none⟩=some (.slice Xr m Yr):=by rw [aJ Mi];rfl
 have z9:w6.frozen? ⟨mb,5,none⟩=false:=aS Mi;have Ce:=aH Ma;have Dn:Hid (∀b,(Value.slice Xr m Yr).ownBlock=some b->b < w.heap.size):=aH (fun b hb=>(HO.out.lt b hb).2);have HF6:Hid (lW w6 nb (.slice ca cn cc) 0 vs (.slice none 0 0)):=aH ((hB6 nb Oe (fun e=>by have:=Dn.out nb e;omega)).trans hF1);have EA:Hid (∀b,vs.ownBlock=some b->b < w1.heap.size/\¬(Value.slice Xr m Yr).ownBlock=some b/\¬b=mb):=aH (fun b hb=>by
  refine ⟨(OD.lt b hb).2,fun e=>?_,fun e=>?_⟩
  · rcases ZR with h|⟨k,h,hk⟩
    · exact HPF.out b (h.symm.trans hb) e
    · have e1:=Dn.out b e;rw [hb] at h;have:=Option.some.inj h;omega
  · subst e;rcases ZR with h|⟨k,h,hk⟩
    · exact hpn (h.symm.trans hb)
    · rw [hb] at h;have:=Option.some.inj h;omega)
 have HO6v:Hid (w6.ownsRow 0 166 2 vs (n+nl) (xs++zV nl)):=aH (bS OD (fun b hb=>hB6 b (EA.out b hb).1 (EA.out b hb).2.1));have HN6:Hid (¬(Value.slice Eu (m+1) Fu).ownBlock=some mb/\((Value.slice Eu (m+1) Fu).ownBlock=(Value.slice Xr m Yr).ownBlock\/(Value.slice Eu (m+1) Fu).ownBlock=some (w1.heap.size+1))):=aH (by
  have e8:(w1.alloc (.cells #[.pointer (some ⟨nb,0,none⟩)] 109)).heap.size=w1.heap.size+1:=Q6
  rw [e8] at G9;refine ⟨fun e=>?_,G9⟩;rcases G9 with h|h
  · exact hne (h.symm.trans e)
  · rw [e] at h;have:=Option.some.inj h;omega)
 have Sf:=aH T9;have Zz:=aH Mi;have Kd:Hid (∀b,b < w.heap.size->¬(Value.slice pa n pc).ownBlock=some b->¬(Value.slice Xr m Yr).ownBlock=some b->w6.heap[b]? =w.heap[b]?):=aH (fun b hb h1 h2=>(hB6 b Q5 h2).trans (hB1 b hb h1));have Nl:=aH (And.intro (P2.os.trans (gA.os.trans g1.os)) (And.intro (P2.tape.trans (gA.tape.trans g1.tape)) (And.intro (P2.output.trans (gA.output.trans g1.output)) (Nat.le_trans I6 (Nat.le_trans gA.size P2.size)))));have En:=aH ZR;have Oa:=aH hN1;have W_:=aH hS1;have LK:=aH Oe;have Ig:=aH I6;clear hF1 OD ZR hN1 hS1 g1 hB1 P5 RK gA Ma T9 P2 G9 hB6 Mi Oe I6;go_wp2_with (at_builtin;refine Lib.wpList_append_run _ rfl _ _ _ _ rfl _ _ rfl rfl _ _ Ce.out ?_)
 go_ret
 refine ⟨nb,vs,.slice Eu (m+1) Fu,rfl,?_,?_,En.out,Oa.out,W_.out,?_,?_,?_,Nl.out.1,Nl.out.2.1,Nl.out.2.2.1,by have:=Nl.out.2.2.2;simpa using this,fun b hb h1 h2 h3=>(Below.heap_setCell _ _ _ _ h1).trans (Kd.out b hb h2 h3)⟩
 · exact (Below.heap_setCell _ _ _ _ (by show nb≠mb;have:=Oa.out;omega)).trans HF6.out
 · exact bS HO6v.out (fun b hb=>Below.heap_setCell _ _ _ _ (EA.out b hb).2.2)
 · exact (heap_setCell_same w6 mb 5 _ _ _ Zz.out).trans Q6
 · exact bS Sf.out (fun b hb=>Below.heap_setCell _ _ _ _ (by show b≠mb;exact fun e=>HN6.out.1 (e▸hb)))
 · rcases HN6.out.2 with e|e
   · exact .inl e
   · exact .inr ⟨_,e,by have:=Ig.out;omega,by have:=LK.out;omega,fun e2=>by have:=(EA.out _ e2).1;omega⟩
end Go.Proofs.YtkgncijcnlfhiabGreat
