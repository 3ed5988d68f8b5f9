import Derived.ArgAppend
import Derived.Deep.Onto
import Derived.Test.YtkgncijcnlfhiaaGreatT1
import Derived.Test.YtkgncijcnlfhiaaGreatB4
namespace Go.Proofs.YtkgncijcnlfhiaaGreat
set_option maxHeartbeats 2000000
set_option linter.unusedVariables false
set_option linter.unusedSimpArgs false
open Go.RowKit
section
variable {ops:Array Oper} {rest:List Oper} {o:Oper} {a:Act} {Q:Exit→Act→World→Prop}
theorem wpList_append_bytes(w:World)(hgd:o.guard=none)(s x:Operand)(ho:o.op=.call { callee:=.builtin .append,args:=#[s,x],argTypes:=#[102,102] })
 (base:Nat) (v:Value) (l:List UInt8) (hs:a.eval s=v) (hown:w.ownsRow base 5 1 v l.length (bc l)) (base2 g cap:Nat) (m:List UInt8)
 (hx:a.eval x=.slice (some ⟨g,0,none⟩) m.length cap) (hm:w.ownsRow base2 5 1 (.slice (some ⟨g,0,none⟩) m.length cap) m.length (bc m)) (hlen:(l++m).length≤100000000) (hbase:base≤w.heap.size)
 (h:∀v' w',App base w v w' v' (l++m)→wpList Tryz.prog ops Q rest (a.put o.dst v') w'):
 wpList Tryz.prog ops Q (o :: rest) a w:=by
 obtain ⟨i0,hi,hz0,hz1,hz2⟩:=info_parts Tryz.info5;rw [List.length_append] at hlen;refine wpList_append_own_at _ hgd s x 102 ho base 5 i0 (.int .u8 0) 1 1 Tryz.underlying102 hi hz0 hz1 hz2 rfl (by decide) v l.length (bc l) hs hown ⟨g,0,none⟩ m.length cap (bc m) hx (by rw [bc_len,Nat.mul_one]) (hm.cells (g:=g) rfl) (bc_one m) (by unfold maxLen;omega) (by omega) hbase ?_;intro v' w' h1 h2 _ h4;refine h v' w' ⟨?_,h2,fun k hk=>?_⟩
 · rw [bc_app,List.length_append];exact h1
 · rcases h4 with e|e
   · exact .inl (e▸hk)
   · rw [hk] at e;simp at e;right;omega
end
def Own0(base:Nat)(w:World)(v:Value)(l:List UInt8):Prop:=
 w.ownsRow base 5 1 v l.length (bc l)∨∃b,base≤b∧b < w.heap.size∧v=.slice (some ⟨b,0,none⟩) l.length l.length∧∀j u,(bc l)[j]? =some u→w.cell? ((⟨b,0,none⟩:Addr).add j)=some u
theorem Own0.lt{base:Nat}{w:World}{v:Value}{l:List UInt8}(h:Own0 base w v l):∀k,v.ownBlock=some k→base≤k∧k < w.heap.size:=by
 rcases h with h|⟨b,h1,h2,rfl,_⟩
 · exact h.lt
 · intro k hk;simp [Value.ownBlock] at hk;subst hk;exact ⟨h1,h2⟩
structure Wr0(W w:World)(v:Value)(l:List UInt8):Prop where
 low:Below W.heap.size W w
 own:Own0 W.heap.size w v l
theorem Wr.to0{W w:World}{v:Value}{l:List UInt8}(h:Wr W w v l):Wr0 W w v l:=⟨h.low,.inl h.own⟩
theorem Wr0.base{W w:World}{v:Value}{l:List UInt8}(h:Wr0 W w v l):W.heap.size≤w.heap.size:=h.low.size
theorem Wr0.app{W w w':World}{v v':Value}{l l':List UInt8}(h:Wr0 W w v l)(k:App W.heap.size w v w' v' l'):Wr W w' v' l':=
 ⟨h.low.trans ((Below.refl _ _).grown k.frm h.base fun i hi=>(h.own.lt i hi).1),k.own⟩
theorem Wr0.gr{W w w':World}{v:Value}{l:List UInt8}(h:Wr0 W w v l)(g:Gr w w'):Wr0 W w' v l:=by
 refine ⟨h.low.grown g h.base (by simp),?_⟩;rcases h.own with ho|⟨b,h1,h2,rfl,h3⟩
 · exact .inl (ho.kept g (by cases v.ownBlock<;>simp))
 · exact .inr ⟨b,h1,Nat.lt_of_lt_of_le h2 g.size,rfl,fun j u hu=>g.cell (h3 j u hu) (by simp)⟩
theorem Wr0.apart{W w:World}{v:Value}{l:List UInt8}(h:Wr0 W w v l){g:Nat}(hg:w.heap.size≤g):v.ownBlock≠some g:=fun e=>by have:=(h.own.lt g e).2;omega
section
variable {ops:Array Oper} {rest:List Oper} {o:Oper} {a:Act} {Q:Exit→Act→World→Prop}
theorem wpList_append_byte0(w:World)(hgd:o.guard=none)(s x:Operand)(ho:o.op=.call { callee:=.builtin .append,args:=#[s,x],argTypes:=#[102,102] })
 (base:Nat) (v:Value) (l:List UInt8) (hs:a.eval s=v) (hown:Own0 base w v l) (y:UInt8) (val:Int) (hy:val=y.toNat)
 (H:Nat) (hx:a.eval x=.slice (some ⟨H,0,none⟩) 1 1) (hH:w.heap.size=H) (hlen:l.length≤100000000) (hbase:base≤w.heap.size)
 (h:∀v' w',App base w v w' v' (l++ [y])→wpList Tryz.prog ops Q rest (a.put o.dst v') w'):
 wpList Tryz.prog ops Q (o :: rest) a (w.alloc (.cells #[.int .u8 val] 5)):=by
 rcases hown with hown|⟨b,h1,h2,rfl,h3⟩
 · exact wpList_append_byte w hgd s x ho base v l hs hown y val hy H hx hH hlen hbase h
 · subst hy;subst hH;obtain ⟨i0,hi,hz0,hz1,hz2⟩:=info_parts Tryz.info5;refine wpList_append_grows _ hgd s x 102 ho 5 i0 (.int .u8 0) 1 1 Tryz.underlying102 hi hz0 hz1 hz2 rfl (by decide) (some ⟨b,0,none⟩) l.length l.length (bc l) hs (by simp) (by rw [bc_len,Nat.mul_one]) (fun b' hb' j u hu=>by simp only [Option.some.injEq] at hb';subst hb';exact (World.grownBy_alloc w _ none).cell (h3 j u hu) (by simp)) ⟨w.heap.size,0,none⟩ 1 1 [.int .u8 y.toNat] hx rfl (cell_one_new _ _ _) (by intro u hu;simp at hu;subst hu;rfl) (by omega) (by unfold maxLen;omega) (by omega) ?_;intro v' w' h4 h5;refine h v' w' ⟨?_,?_,fun k hk=>?_⟩
   · have h6:=h4.mono (base':=base) (by simp;omega);simpa [bc] using h6
   · have h7:=(World.grownBy_alloc w (.cells #[.int .u8 y.toNat] 5) none).trans h5;exact ⟨h7.os,h7.tape,h7.output,h7.size,fun k hk _=>h7.block k hk (by simp)⟩
   · have:=(h4.lt k hk).1
     simp at this;right;omega
end
theorem run_conv(w:World)(base g cap:Nat)(m:List UInt8)(hm:w.ownsRow base 5 1 (.slice (some ⟨g,0,none⟩) m.length cap) m.length (bc m)):
 (convert 102 9 (.slice (some ⟨g,0,none⟩) m.length cap)).run Tryz.prog w=.ok (.string ⟨m.toArray⟩) w:=by
 rw [run_convert_bytes_string w 102 9 5 _ _ _ Tryz.underlying102 Tryz.underlying5 Tryz.underlying9];have hl:=run_loadCells_list (P:=Tryz.prog) (w:=w) ⟨g,0,none⟩ (bc m) (hm.cells (g:=g) rfl);rw [bc_len] at hl;have e:bc m=(m.map (fun b=>(b.toNat:Int))).map (Value.int .u8):=by simp [bc]
 rw [e] at hl;rw [run_bytesToString w _ _ _ _ hl,foldl_push_byteCells];simp
def leK(c k:Nat):List UInt8:=(List.range k).map fun j=>UInt8.ofNat (c / 256 ^ j % 256)
theorem leK_succ(c k:Nat):leK c (k+1)=leK c k++ [UInt8.ofNat (c / 256 ^ k % 256)]:=by simp [leK,List.range_succ]
theorem leK_len(c k:Nat):(leK c k).length=k:=by simp [leK]
def sect(n:Nat)(b:List UInt8):List UInt8:= [UInt8.ofNat n]++num b.length++b++leK (crc b) 4
theorem byte_sec{n:Nat}(h:n≤5):(n:Int)=(UInt8.ofNat n).toNat:=by simp [UInt8.toNat_ofNat'];omega
theorem byte_mod(q:Nat):(q:Int) % 256=(UInt8.ofNat (q % 256)).toNat:=by simp [UInt8.toNat_ofNat']
theorem App.keeps{base:Nat}{w w':World}{v v':Value}{l':List UInt8}(k:App base w v w' v' l'){b2 g c n:Nat}{xs:List Value}(h:w.ownsRow b2 5 1 (.slice (some ⟨g,0,none⟩) n c) n xs)(hne:v.ownBlock≠some g):w'.ownsRow b2 5 1 (.slice (some ⟨g,0,none⟩) n c) n xs:=
 h.kept k.frm (.inr (by simp [Value.ownBlock];exact fun e=>hne e.symm))
theorem own_shape{w:World}{base:Nat}{e:TypeId}{v:Value}{n:Nat}{xs:List Value}(h:w.ownsRow base e 1 v n xs):∃ao co,v=.slice ao n co:=by
 rcases h.2 with ⟨h1,h2⟩|⟨g2,c2,_,h1,_⟩
 · exact ⟨none,0,by rw [h1,h2]⟩
 · exact ⟨_,c2,h1⟩
set_option maxRecDepth 100000 in
theorem section_write(W:World)(v:Value)(l:List UInt8)(n:Nat)(g cap base2:Nat)(m:List UInt8)(w:World)(hn:n≤5)(hw:Wr0 W w v l)
 (hm:w.ownsRow base2 5 1 (.slice (some ⟨g,0,none⟩) m.length cap) m.length (bc m)) (hne:v.ownBlock≠some g) (hlen:l.length+m.length≤5000000):
 Calls Tryz.prog 52 #[v,.int .u8 n,.slice (some ⟨g,0,none⟩) m.length cap] w fun x w'=>
  ((l++sect n m).length≤20000∧∃v',x=.returned v'∧App W.heap.size w v w' v' (l++sect n m))∨
  (¬(l++sect n m).length≤20000∧x=.panicked (thrown 3 0)∧Below W.heap.size W w'):=by
 have hl11:=num_len m.length;have hc:=crc_lt m;have hgl:g < w.heap.size:=(hm.lt g rfl).2;have HG:=hide hne;have HM:=hide hm;clear hne hm;go_enter Tryz.func52,Tryz.ntmps52
 go_wp2_with (first
  |(at_builtin;refine wpList_append_byte0 _ rfl (.tmp 8) (.tmp 10) rfl W.heap.size v l rfl hw.own (UInt8.ofNat n) _ (by exact byte_sec hn) _ rfl (by simp) (by omega) hw.base ?_;intro v1 w1 happ1;have hw1:=hw.app happ1)
  |(go_at_call 82;refine (appendNumber_any W.heap.size _ (l++ [UInt8.ofNat n]) m.length _ (by omega) (by exact hw1.own) (by simp;omega) (by exact hw1.base)).mono ?_;rintro e w2 ⟨v2,rfl,happ2⟩;have hw2:=hw1.app happ2;have happ12:=happ1.trans happ2;have hm2:=hide (happ12.keeps HM.out HG.out))
  |(at_builtin;refine wpList_append_bytes _ rfl (.tmp 17) (.tmp 18) rfl W.heap.size v2 (l++ [UInt8.ofNat n]++num m.length) rfl hw2.own base2 g cap m rfl hm2.out (by simp;omega) hw2.base ?_;intro v3 w3 happ3;have hw3:=hw2.app happ3;have happ13:=happ12.trans happ3;have hconv:=run_conv w3 base2 g cap m (happ13.keeps HM.out HG.out))
  |(go_at_call 83;refine (check_any _ _ (by unfold maxLen;simp [ByteArray.size];omega)).mono ?_;rintro e w4 ⟨rfl,e4⟩;subst e4))
 have HS:Hid (l++sect n m=l++ [UInt8.ofNat n]++num m.length++m++leK (crc m) 4):=hide (by simp [sect]);have hlm:(l++ [UInt8.ofNat n]++num m.length++m).length≤5000020:=by simp only [List.length_append,List.length_cons,List.length_nil];omega
 generalize l++ [UInt8.ofNat n]++num m.length++m=l3 at HS happ13 hw3 hlm;have H13:=hide happ13;clear happ1 happ2 happ12 happ13 happ3 hw1 hw2 hm2 hconv hw3;go_loopw [0,7,23] (fun vo c i wr=>∃k:Nat,k≤4∧i=.int .i64 k∧c=.int .u32 ((crc m / 256 ^ k:Nat):Int)∧App W.heap.size w v wr vo (l3++leK (crc m) k)) (fun _ _ i _=>4 - (intOf i).toNat)
 case atStart=>exact ⟨0,Nat.zero_le _,rfl,by simp,by simp [leK];exact H13.out⟩
 case round=>
  obtain ⟨k,hk,rfl,rfl,happ⟩:=hrel;have hwr:=hw.app happ;have H2:=hide happ;clear happ;by_cases hlt:k < 4
  · have HD:Hid (crc m / 256 ^ (k+1)=crc m / 256 ^ k / 256):=hide (by rw [Nat.pow_succ,Nat.div_div_eq_div_mul]);have HK:=hide (leK_succ (crc m) k);have hq:crc m / 256 ^ k < 4294967296:=Nat.lt_of_le_of_lt (Nat.div_le_self _ _) hc;have hlk:(l3++leK (crc m) k).length≤100000000:=by rw [List.length_append,leK_len];omega
    generalize crc m / 256 ^ k=q at HD HK hq;go_wp2_with (at_builtin;refine wpList_append_byte _ rfl (.tmp 25) (.tmp 28) rfl W.heap.size _ (l3++leK (crc m) k) rfl hwr.own (UInt8.ofNat (q % 256)) _ (by exact byte_mod q) _ rfl (by simp) hlk hwr.base ?_;intro v5 w5 happ5)
    have H5:=hide happ5;clear happ5;go_roundw
    case rel=>exact ⟨k+1,by omega,by go_num,by rw [HD.out];go_num,by rw [HK.out,←List.append_assoc];exact H2.out.trans H5.out⟩
    case measure=>simp [intOf];omega
  · have hk4:k=4:=by omega
    subst hk4;have HS2:=HS.out;rw [←HS2] at H2 hwr;obtain ⟨ao,co,hv0⟩:=own_shape hwr.own;subst hv0;have HLow:=hide hwr.low;clear hwr HS2;by_cases hN:(l++sect n m).length≤20000
    · have H20:=hide hN;have hd:(((l++sect n m).length:Nat):Int)≤20000:=by omega
      clear hN;generalize (l++sect n m).length=N at hd ⊢ H2;go_wp2_with (go_at_call 32;refine (unless_yes _ _ _).mono ?_;rintro e w' ⟨rfl,hg'⟩)
      go_ret
      refine .inl ⟨H20.out,_,rfl,?_⟩;exact H2.out.thenGr hg'
    · have H20:=hide hN;have hd:¬(((l++sect n m).length:Nat):Int)≤20000:=by omega
      clear hN;generalize (l++sect n m).length=N at hd ⊢ H2;go_wp2_with (go_at_call 32;refine (unless_no _ _ _).mono ?_;rintro e w' ⟨rfl,hg'⟩)
      exact ⟨rfl,.inr ⟨H20.out,rfl,HLow.out.grown hg' HLow.out.size (by simp)⟩⟩
open Go.RowKit
def FuncFit(f:PFunc):Prop:=(∀x∈f.params,0≤x∧x≤9223372036854775807)∧(0≤f.result∧f.result≤9223372036854775807)∧(∀x∈f.locals,0≤x∧x≤9223372036854775807)∧∀i∈f.code,insOk i=true
def ImpFit(f:PImp):Prop:=f.name.length≤1000000∧(∀x∈f.params,0≤x∧x≤9223372036854775807)∧(0≤f.result∧f.result≤9223372036854775807)
def ExpFit(f:PExp):Prop:=f.name.length≤1000000∧(0≤f.func∧f.func≤9223372036854775807)
theorem list_ins(W:World)(v:Value)(l:List UInt8)(xs:List PIns)(vx:Value)(w:World)(hR:RCode W vx xs)(hneed:∀x∈xs,insOk x=true)(hw:Wr W w v l)(hlen:(l++encs encIns xs).length≤10000000):
 Calls Tryz.prog 85 #[v,vx,.func (.func 86) #[] #[]] w fun x w'=>∃v',x=.returned v'∧App W.heap.size w v w' v' (l++encs encIns xs):=by
 obtain ⟨ao,cap,rfl,hm,hc⟩:=hR;unfold maxLen at hm;have HC:=hide hc;clear hc;have hl1:l.length≤10000000:=by simp only [List.length_append] at hlen;omega
 have HLen:=hide hlen;clear hlen;go_enter Tryz.func85,Tryz.ntmps85
 go_wp2_with (go_at_call 84;refine (whole_any W _ l xs.length _ (by omega) (by omega) (by exact hw) hl1).mono ?_;rintro e w1 ⟨v1,rfl,happ⟩;rw [Int.toNat_natCast] at happ;have hw1:=hw.app happ)
 have H1:=hide happ;clear happ;go_loopw [0,15] (fun vo i wr=>∃k:Nat,k≤xs.length∧i=.int .i64 k∧App W.heap.size w v wr vo (l++encTo encIns xs k)) (fun _ i _=>xs.length - (intOf i).toNat)
 case atStart=>exact ⟨0,Nat.zero_le _,rfl,by rw [encTo_zero];exact H1.out⟩
 case round=>
  obtain ⟨k,hk,rfl,happ⟩:=hrel;have hwr:=hw.app happ;have H2:=hide happ;clear happ hw1;by_cases hlt:k < xs.length
  · obtain ⟨x,hx⟩:=getElem?_lt hlt;obtain ⟨b,off,hao,hc0,hc1,hc2⟩:=HC.out k x hx;subst hao;have hc0':=below_cell hwr.low hc0;have hc1':=below_cell hwr.low hc1;have hc2':=below_cell hwr.low hc2;have HNX:=hide (hneed x (List.mem_of_getElem? hx));clear hc0 hc1 hc2;have HX:=hide hx;clear hx;go_wp2_with (go_at_call 86;refine (ins_write W _ _ x _ HNX.out (by exact hwr.gr (World.grownBy_alloc _ _ none)) (encTo_bd2 HX.out HLen.out)).mono ?_;rintro e w2 ⟨v2,rfl,happ2⟩)
    have H3:=hide happ2;clear happ2;go_roundw
    case rel=>exact ⟨k+1,by omega,by go_num,by rw [encTo_succ HX.out,←List.append_assoc];exact H2.out.trans (App.gr (World.grownBy_alloc _ _ none) H3.out)⟩
    case measure=>simp [intOf];omega
  · go_wp2
    go_ret
    refine ⟨_,rfl,?_⟩;rw [encs_end hlt];exact H2.out
theorem func_boxed(w:World)(v0 v1 v2 v3:Value):(w.alloc (.cells #[v0,v1,v2,v3] 48)).cell? ⟨w.heap.size,0,none⟩=some v0∧(w.alloc (.cells #[v0,v1,v2,v3] 48)).cell? ⟨w.heap.size,1,none⟩=some v1∧(w.alloc (.cells #[v0,v1,v2,v3] 48)).cell? ⟨w.heap.size,2,none⟩=some v2∧(w.alloc (.cells #[v0,v1,v2,v3] 48)).cell? ⟨w.heap.size,3,none⟩=some v3:=by
 refine ⟨?_,?_,?_,?_⟩<;>simp [go_sem]
theorem imp_boxed(w:World)(v0 v1 v2:Value):(w.alloc (.cells #[v0,v1,v2] 53)).cell? ⟨w.heap.size,0,none⟩=some v0∧(w.alloc (.cells #[v0,v1,v2] 53)).cell? ⟨w.heap.size,1,none⟩=some v1∧(w.alloc (.cells #[v0,v1,v2] 53)).cell? ⟨w.heap.size,2,none⟩=some v2:=by
 refine ⟨?_,?_,?_⟩<;>simp [go_sem]
theorem exp_boxed(w:World)(v0 v1:Value):(w.alloc (.cells #[v0,v1] 50)).cell? ⟨w.heap.size,0,none⟩=some v0∧(w.alloc (.cells #[v0,v1] 50)).cell? ⟨w.heap.size,1,none⟩=some v1:=by
 refine ⟨?_,?_⟩<;>simp [go_sem]
theorem func_write(W:World)(v:Value)(l:List UInt8)(x:PFunc)(vp vl vc:Value)(w:World)(hp:RInts W vp x.params)(hl:RInts W vl x.locals)(hc:RCode W vc x.code)(hfit:FuncFit x)(hw:Wr W w v l)(hlen:(l++encFunc x).length≤10000000):
 Calls Tryz.prog 58 #[v,.agg #[vp,.int .i64 x.result,vl,vc]] w fun y w'=>∃v',y=.returned v'∧App W.heap.size w v w' v' (l++encFunc x):=by
 obtain ⟨ap,cp,rfl⟩:=hp.shape;obtain ⟨al,cl,rfl⟩:=hl.shape;obtain ⟨ac,cc,rfl⟩:=hc.shape;obtain ⟨f1,f2,f3,f4⟩:=hfit;obtain ⟨hi0,hi1,hi2,hi3⟩:=func_boxed w (.slice ap x.params.length cp) (.int .i64 x.result) (.slice al x.locals.length cl) (.slice ac x.code.length cc);have hwb:=hw.gr (World.grownBy_alloc w (.cells #[.slice ap x.params.length cp,.int .i64 x.result,.slice al x.locals.length cl,.slice ac x.code.length cc] 48) none);have HV:=hide (fun i hi=>(hw.own.lt i hi).2:∀i,v.ownBlock=some i→i < w.heap.size);have HP:=hide hp;have HL:=hide hl;have HC:=hide hc;have F1:=hide f1;have F3:=hide f3;have F4:=hide f4;have L1:Hid ((l++encKinds x.params).length≤10000000):=hide (by unfold encFunc at hlen;simp only [List.length_append] at hlen ⊢;omega);have L2:Hid ((l++encKinds x.params++encKinds x.locals).length≤10000000):=hide (by unfold encFunc at hlen;simp only [List.length_append] at hlen ⊢;omega);have L3:Hid ((l++encKinds x.params++encKinds x.locals++num x.result.toNat++encs encIns x.code).length≤10000000):=hide (by unfold encFunc at hlen;simp only [List.length_append] at hlen ⊢;omega);have HE:Hid (l++encFunc x=l++encKinds x.params++encKinds x.locals++num x.result.toNat++encs encIns x.code):=hide (by unfold encFunc;simp only [List.append_assoc]);clear hp hl hc f1 f3 f4 hlen;go_enter Tryz.func58,Tryz.ntmps58
 go_wp2_with fail
 refine (kinds_write W _ l x.params _ _ HP.out F1.out (by exact hwb) L1.out).mono ?_;rintro e w1 ⟨v1,rfl,happ1⟩;have hw1:=hwb.app happ1;have hj2:=happ1.box hi2 HV.out;go_wp2_with fail
 refine (kinds_write W _ _ x.locals _ _ HL.out F3.out (by exact hw1) L2.out).mono ?_;rintro e w2 ⟨v2,rfl,happ2⟩;have hw2:=hw1.app happ2;have happ12:=happ1.trans happ2;have hj1:=happ12.box hi1 HV.out;go_wp2_with fail
 refine (whole_any W _ _ x.result _ f2.1 f2.2 (by exact hw2) L2.out).mono ?_;rintro e w3 ⟨v3,rfl,happ3⟩;have hw3:=hw2.app happ3;have happ13:=happ12.trans happ3;have hj3:=happ13.box hi3 HV.out;go_wp2_with fail
 refine (list_ins W _ _ x.code _ _ HC.out F4.out (by exact hw3) L3.out).mono ?_;rintro e w4 ⟨v4,rfl,happ4⟩;go_wp2
 go_ret
 refine ⟨v4,rfl,?_⟩;rw [HE.out];exact App.gr (World.grownBy_alloc w _ none) (happ13.trans happ4)
theorem imp_write(W:World)(v:Value)(l:List UInt8)(x:PImp)(vs vp:Value)(w:World)(hs:RText vs x.name)(hp:RInts W vp x.params)(hfit:ImpFit x)(hw:Wr W w v l)(hlen:(l++encImp x).length≤10000000):
 Calls Tryz.prog 60 #[v,.agg #[vs,vp,.int .i64 x.result]] w fun y w'=>∃v',y=.returned v'∧App W.heap.size w v w' v' (l++encImp x):=by
 obtain ⟨ap,cp,rfl⟩:=hp.shape;obtain ⟨s,rfl,hsl,hsm⟩:=hs;have hsz:s.size=x.name.length:=by rw [←hsl,Array.length_toList];rfl
 obtain ⟨f1,f2,f3⟩:=hfit;obtain ⟨hi0,hi1,hi2⟩:=imp_boxed w (.string s) (.slice ap x.params.length cp) (.int .i64 x.result);have hwb:=hw.gr (World.grownBy_alloc w (.cells #[.string s,.slice ap x.params.length cp,.int .i64 x.result] 53) none);have HV:=hide (fun i hi=>(hw.own.lt i hi).2:∀i,v.ownBlock=some i→i < w.heap.size);have HP:=hide hp;have F2:=hide f2;have ET:Hid (num s.size++s.data.toList=encText x.name):=hide (by unfold encText;rw [hsl,hsz]);have L1:Hid (l.length≤10000000):=hide (by simp only [List.length_append] at hlen;omega);have L0:Hid (s.size≤1000000):=hide (by omega);have L2:Hid ((l++encText x.name++encKinds x.params).length≤10000000):=hide (by unfold encImp at hlen;simp only [List.length_append] at hlen ⊢;omega);have HE:Hid (l++encImp x=l++encText x.name++encKinds x.params++num x.result.toNat):=hide (by unfold encImp;simp only [List.append_assoc]);clear hp f2 hlen hsz hsl hsm f1;go_enter Tryz.func60,Tryz.ntmps60
 go_wp2_with fail
 refine (text_any W _ l s _ L0.out (by exact hwb) L1.out).mono ?_;rintro e w1 ⟨v1,rfl,happ1⟩;rw [ET.out] at happ1;have hw1:=hwb.app happ1;have hj1:=happ1.box hi1 HV.out;go_wp2_with fail
 refine (kinds_write W _ _ x.params _ _ HP.out F2.out (by exact hw1) L2.out).mono ?_;rintro e w2 ⟨v2,rfl,happ2⟩;have hw2:=hw1.app happ2;have happ12:=happ1.trans happ2;have hj2:=happ12.box hi2 HV.out;go_wp2_with fail
 refine (whole_any W _ _ x.result _ f3.1 f3.2 (by exact hw2) L2.out).mono ?_;rintro e w3 ⟨v3,rfl,happ3⟩;go_wp2
 go_ret
 refine ⟨v3,rfl,?_⟩;rw [HE.out];exact App.gr (World.grownBy_alloc w _ none) (happ12.trans happ3)
theorem exp_write(W:World)(v:Value)(l:List UInt8)(x:PExp)(vs:Value)(w:World)(hs:RText vs x.name)(hfit:ExpFit x)(hw:Wr W w v l)(hlen:(l++encExp x).length≤10000000):
 Calls Tryz.prog 62 #[v,.agg #[vs,.int .i64 x.func]] w fun y w'=>∃v',y=.returned v'∧App W.heap.size w v w' v' (l++encExp x):=by
 obtain ⟨s,rfl,hsl,hsm⟩:=hs;have hsz:s.size=x.name.length:=by rw [←hsl,Array.length_toList];rfl
 obtain ⟨f1,f3⟩:=hfit;obtain ⟨hi0,hi1⟩:=exp_boxed w (.string s) (.int .i64 x.func);have hwb:=hw.gr (World.grownBy_alloc w (.cells #[.string s,.int .i64 x.func] 50) none);have HV:=hide (fun i hi=>(hw.own.lt i hi).2:∀i,v.ownBlock=some i→i < w.heap.size);have ET:Hid (num s.size++s.data.toList=encText x.name):=hide (by unfold encText;rw [hsl,hsz]);have L1:Hid (l.length≤10000000):=hide (by simp only [List.length_append] at hlen;omega);have L0:Hid (s.size≤1000000):=hide (by omega);have L2:Hid ((l++encText x.name).length≤10000000):=hide (by unfold encExp at hlen;simp only [List.length_append] at hlen ⊢;omega);have HE:Hid (l++encExp x=l++encText x.name++num x.func.toNat):=hide (by unfold encExp;simp only [List.append_assoc]);clear hlen hsz hsl hsm f1;go_enter Tryz.func62,Tryz.ntmps62
 go_wp2_with fail
 refine (text_any W _ l s _ L0.out (by exact hwb) L1.out).mono ?_;rintro e w1 ⟨v1,rfl,happ1⟩;rw [ET.out] at happ1;have hw1:=hwb.app happ1;have hj1:=happ1.box hi1 HV.out;go_wp2_with fail
 refine (whole_any W _ _ x.func _ f3.1 f3.2 (by exact hw1) L2.out).mono ?_;rintro e w3 ⟨v3,rfl,happ3⟩;go_wp2
 go_ret
 refine ⟨v3,rfl,?_⟩;rw [HE.out];exact App.gr (World.grownBy_alloc w _ none) (happ1.trans happ3)
open Go.RowKit
theorem list_func(W:World)(v:Value)(l:List UInt8)(xs:List PFunc)(vx:Value)(w:World)(hR:RFuncs W vx xs)(hneed:∀x∈xs,FuncFit x)(hw:Wr W w v l)(hlen:(l++encs encFunc xs).length≤10000000):
 Calls Tryz.prog 57 #[v,vx,.func (.func 58) #[] #[]] w fun x w'=>∃v',x=.returned v'∧App W.heap.size w v w' v' (l++encs encFunc xs):=by
 obtain ⟨ao,cap,rfl,hm,hc⟩:=hR;unfold maxLen at hm;have HC:=hide hc;clear hc;have hl1:l.length≤10000000:=by simp only [List.length_append] at hlen;omega
 have HLen:=hide hlen;clear hlen;go_enter Tryz.func57,Tryz.ntmps57
 go_wp2_with (go_at_call 84;refine (whole_any W _ l xs.length _ (by omega) (by omega) (by exact hw) hl1).mono ?_;rintro e w1 ⟨v1,rfl,happ⟩;rw [Int.toNat_natCast] at happ;have hw1:=hw.app happ)
 have H1:=hide happ;clear happ;go_loopw [0,15] (fun vo i wr=>∃k:Nat,k≤xs.length∧i=.int .i64 k∧App W.heap.size w v wr vo (l++encTo encFunc xs k)) (fun _ i _=>xs.length - (intOf i).toNat)
 case atStart=>exact ⟨0,Nat.zero_le _,rfl,by rw [encTo_zero];exact H1.out⟩
 case round=>
  obtain ⟨k,hk,rfl,happ⟩:=hrel;have hwr:=hw.app happ;have H2:=hide happ;clear happ hw1;by_cases hlt:k < xs.length
  · obtain ⟨x,hx⟩:=getElem?_lt hlt;obtain ⟨b,off,vp,vl,vc,hao,hc0,hc1,hc2,hc3,hRp,hRl,hRc⟩:=HC.out k x hx;subst hao;have hc0':=below_cell hwr.low hc0;have hc1':=below_cell hwr.low hc1;have hc2':=below_cell hwr.low hc2;have hc3':=below_cell hwr.low hc3;have HNX:=hide (hneed x (List.mem_of_getElem? hx));have HP:=hide hRp;have HL:=hide hRl;have HCC:=hide hRc;obtain ⟨ap,cp,rfl⟩:=hRp.shape;obtain ⟨al,cl,rfl⟩:=hRl.shape;obtain ⟨ac,cc,rfl⟩:=hRc.shape;clear hc0 hc1 hc2 hc3 hRp hRl hRc;have HX:=hide hx;clear hx;go_wp2_with (go_at_call 58;refine (func_write W _ _ x _ _ _ _ HP.out HL.out HCC.out HNX.out (by exact hwr.gr (World.grownBy_alloc _ _ none)) (encTo_bd2 HX.out HLen.out)).mono ?_;rintro e w2 ⟨v2,rfl,happ2⟩)
    have H3:=hide happ2;clear happ2;go_roundw
    case rel=>exact ⟨k+1,by omega,by go_num,by rw [encTo_succ HX.out,←List.append_assoc];exact H2.out.trans (App.gr (World.grownBy_alloc _ _ none) H3.out)⟩
    case measure=>simp [intOf];omega
  · go_wp2
    go_ret
    refine ⟨_,rfl,?_⟩;rw [encs_end hlt];exact H2.out
theorem list_imp(W:World)(v:Value)(l:List UInt8)(xs:List PImp)(vx:Value)(w:World)(hR:RImports W vx xs)(hneed:∀x∈xs,ImpFit x)(hw:Wr W w v l)(hlen:(l++encs encImp xs).length≤10000000):
 Calls Tryz.prog 59 #[v,vx,.func (.func 60) #[] #[]] w fun x w'=>∃v',x=.returned v'∧App W.heap.size w v w' v' (l++encs encImp xs):=by
 obtain ⟨ao,cap,rfl,hm,hc⟩:=hR;unfold maxLen at hm;have HC:=hide hc;clear hc;have hl1:l.length≤10000000:=by simp only [List.length_append] at hlen;omega
 have HLen:=hide hlen;clear hlen;go_enter Tryz.func59,Tryz.ntmps59
 go_wp2_with (go_at_call 84;refine (whole_any W _ l xs.length _ (by omega) (by omega) (by exact hw) hl1).mono ?_;rintro e w1 ⟨v1,rfl,happ⟩;rw [Int.toNat_natCast] at happ;have hw1:=hw.app happ)
 have H1:=hide happ;clear happ;go_loopw [0,15] (fun vo i wr=>∃k:Nat,k≤xs.length∧i=.int .i64 k∧App W.heap.size w v wr vo (l++encTo encImp xs k)) (fun _ i _=>xs.length - (intOf i).toNat)
 case atStart=>exact ⟨0,Nat.zero_le _,rfl,by rw [encTo_zero];exact H1.out⟩
 case round=>
  obtain ⟨k,hk,rfl,happ⟩:=hrel;have hwr:=hw.app happ;have H2:=hide happ;clear happ hw1;by_cases hlt:k < xs.length
  · obtain ⟨x,hx⟩:=getElem?_lt hlt;obtain ⟨b,off,vs,vp,hao,hc0,hc1,hc2,hRs,hRp⟩:=HC.out k x hx;subst hao;have hc0':=below_cell hwr.low hc0;have hc1':=below_cell hwr.low hc1;have hc2':=below_cell hwr.low hc2;have HNX:=hide (hneed x (List.mem_of_getElem? hx));have HP:=hide hRp;have HS:=hide hRs;obtain ⟨ap,cp,rfl⟩:=hRp.shape;obtain ⟨s,rfl,hsl,hsm⟩:=hRs;clear hc0 hc1 hc2 hRp hsl hsm;have HX:=hide hx;clear hx;go_wp2_with (go_at_call 60;refine (imp_write W _ _ x _ _ _ HS.out HP.out HNX.out (by exact hwr.gr (World.grownBy_alloc _ _ none)) (encTo_bd2 HX.out HLen.out)).mono ?_;rintro e w2 ⟨v2,rfl,happ2⟩)
    have H3:=hide happ2;clear happ2;go_roundw
    case rel=>exact ⟨k+1,by omega,by go_num,by rw [encTo_succ HX.out,←List.append_assoc];exact H2.out.trans (App.gr (World.grownBy_alloc _ _ none) H3.out)⟩
    case measure=>simp [intOf];omega
  · go_wp2
    go_ret
    refine ⟨_,rfl,?_⟩;rw [encs_end hlt];exact H2.out
theorem list_exp(W:World)(v:Value)(l:List UInt8)(xs:List PExp)(vx:Value)(w:World)(hR:RExports W vx xs)(hneed:∀x∈xs,ExpFit x)(hw:Wr W w v l)(hlen:(l++encs encExp xs).length≤10000000):
 Calls Tryz.prog 61 #[v,vx,.func (.func 62) #[] #[]] w fun x w'=>∃v',x=.returned v'∧App W.heap.size w v w' v' (l++encs encExp xs):=by
 obtain ⟨ao,cap,rfl,hm,hc⟩:=hR;unfold maxLen at hm;have HC:=hide hc;clear hc;have hl1:l.length≤10000000:=by simp only [List.length_append] at hlen;omega
 have HLen:=hide hlen;clear hlen;go_enter Tryz.func61,Tryz.ntmps61
 go_wp2_with (go_at_call 84;refine (whole_any W _ l xs.length _ (by omega) (by omega) (by exact hw) hl1).mono ?_;rintro e w1 ⟨v1,rfl,happ⟩;rw [Int.toNat_natCast] at happ;have hw1:=hw.app happ)
 have H1:=hide happ;clear happ;go_loopw [0,15] (fun vo i wr=>∃k:Nat,k≤xs.length∧i=.int .i64 k∧App W.heap.size w v wr vo (l++encTo encExp xs k)) (fun _ i _=>xs.length - (intOf i).toNat)
 case atStart=>exact ⟨0,Nat.zero_le _,rfl,by rw [encTo_zero];exact H1.out⟩
 case round=>
  obtain ⟨k,hk,rfl,happ⟩:=hrel;have hwr:=hw.app happ;have H2:=hide happ;clear happ hw1;by_cases hlt:k < xs.length
  · obtain ⟨x,hx⟩:=getElem?_lt hlt;obtain ⟨b,off,vs,hao,hc0,hc1,hRs⟩:=HC.out k x hx;subst hao;have hc0':=below_cell hwr.low hc0;have hc1':=below_cell hwr.low hc1;have HNX:=hide (hneed x (List.mem_of_getElem? hx));have HS:=hide hRs;obtain ⟨s,rfl,hsl,hsm⟩:=hRs;clear hc0 hc1 hsl hsm;have HX:=hide hx;clear hx;go_wp2_with (go_at_call 62;refine (exp_write W _ _ x _ _ HS.out HNX.out (by exact hwr.gr (World.grownBy_alloc _ _ none)) (encTo_bd2 HX.out HLen.out)).mono ?_;rintro e w2 ⟨v2,rfl,happ2⟩)
    have H3:=hide happ2;clear happ2;go_roundw
    case rel=>exact ⟨k+1,by omega,by go_num,by rw [encTo_succ HX.out,←List.append_assoc];exact H2.out.trans (App.gr (World.grownBy_alloc _ _ none) H3.out)⟩
    case measure=>simp [intOf];omega
  · go_wp2
    go_ret
    refine ⟨_,rfl,?_⟩;rw [encs_end hlt];exact H2.out
theorem list_shape(W:World)(v:Value)(l:List UInt8)(xs:List (List Int))(vx:Value)(w:World)(hR:RShapes W vx xs)(hneed:∀x∈xs,∀y∈x,0≤y∧y≤9223372036854775807)(hw:Wr W w v l)(hlen:(l++encs encKinds xs).length≤10000000):
 Calls Tryz.prog 53 #[v,vx,.func (.func 54) #[] #[]] w fun x w'=>∃v',x=.returned v'∧App W.heap.size w v w' v' (l++encs encKinds xs):=by
 obtain ⟨ao,cap,rfl,hm,hc⟩:=hR;unfold maxLen at hm;have HC:=hide hc;clear hc;have hl1:l.length≤10000000:=by simp only [List.length_append] at hlen;omega
 have HLen:=hide hlen;clear hlen;go_enter Tryz.func53,Tryz.ntmps53
 go_wp2_with (go_at_call 84;refine (whole_any W _ l xs.length _ (by omega) (by omega) (by exact hw) hl1).mono ?_;rintro e w1 ⟨v1,rfl,happ⟩;rw [Int.toNat_natCast] at happ;have hw1:=hw.app happ)
 have H1:=hide happ;clear happ;go_loopw [0,15] (fun vo i wr=>∃k:Nat,k≤xs.length∧i=.int .i64 k∧App W.heap.size w v wr vo (l++encTo encKinds xs k)) (fun _ i _=>xs.length - (intOf i).toNat)
 case atStart=>exact ⟨0,Nat.zero_le _,rfl,by rw [encTo_zero];exact H1.out⟩
 case round=>
  obtain ⟨k,hk,rfl,happ⟩:=hrel;have hwr:=hw.app happ;have H2:=hide happ;clear happ hw1;by_cases hlt:k < xs.length
  · obtain ⟨x,hx⟩:=getElem?_lt hlt;obtain ⟨b,off,vk,hao,hc0,hRp⟩:=HC.out k x hx;subst hao;have hc0':=below_cell hwr.low hc0;have HNX:=hide (hneed x (List.mem_of_getElem? hx));have HP:=hide hRp;clear hc0 hRp;have HX:=hide hx;clear hx;go_wp2_with (go_at_call 54;refine (kinds_write W _ _ x _ _ HP.out HNX.out (by exact hwr) (encTo_bd2 HX.out HLen.out)).mono ?_;rintro e w2 ⟨v2,rfl,happ2⟩)
    have H3:=hide happ2;clear happ2;go_roundw
    case rel=>exact ⟨k+1,by omega,by go_num,by rw [encTo_succ HX.out,←List.append_assoc];exact H2.out.trans H3.out⟩
    case measure=>simp [intOf];omega
  · go_wp2
    go_ret
    refine ⟨_,rfl,?_⟩;rw [encs_end hlt];exact H2.out
def magic:List UInt8:= [75,73,76,78,1]
def body1(u:PUnit):List UInt8:=encs encKinds u.shapes
def body2(u:PUnit):List UInt8:=encs encSigned u.consts
def body3(u:PUnit):List UInt8:=encs encFunc u.funcs
def body4(u:PUnit):List UInt8:=encs encImp u.imports
def body5(u:PUnit):List UInt8:=encs encExp u.exports
def enc1(u:PUnit):List UInt8:=magic++sect 1 (body1 u)
def enc2(u:PUnit):List UInt8:=enc1 u++sect 2 (body2 u)
def enc3(u:PUnit):List UInt8:=enc2 u++sect 3 (body3 u)
def enc4(u:PUnit):List UInt8:=enc3 u++sect 4 (body4 u)
def enc(u:PUnit):List UInt8:=enc4 u++sect 5 (body5 u)
def Fits(u:PUnit):Prop:=∀x∈u.consts,-9223372036854775808≤x∧x≤9223372036854775807
theorem flat_len{α:Type}{f:α→List UInt8}{B:Nat}:∀{xs:List α},(∀x∈xs,(f x).length≤B)→(xs.flatMap f).length≤xs.length * B
 | [],_=>by simp
 | x :: xs,h=>by
  have h1:=h x (by simp);have h2:=flat_len (xs:=xs) fun y hy=>h y (by simp [hy])
  simp only [List.flatMap_cons,List.length_append,List.length_cons,Nat.add_mul];omega
theorem encs_len{α:Type}{f:α→List UInt8}{B N:Nat}{xs:List α}(h:∀x∈xs,(f x).length≤B)(hN:xs.length≤N):(encs f xs).length≤11+N * B:=by
 have h1:=num_len xs.length;have h2:=flat_len h;have h3:xs.length * B≤N * B:=Nat.mul_le_mul_right B hN;unfold encs;rw [List.length_append];omega
theorem encs_pos{α:Type}{f:α→List UInt8}{xs:List α}:1≤(encs f xs).length:=by
 have:=(numF_len 10 xs.length).2
 unfold encs num;rw [List.length_append];omega
theorem encKinds_len{l:List Int}{N:Nat}(h:l.length≤N):(encKinds l).length≤11+N * 11:=encs_len (fun x _=>num_len _) h
theorem encIns_len(i:PIns):(encIns i).length≤23:=by
 have h1:=num_len (zig i.a);have h2:=num_len i.a.toNat;have h3:=num_len i.b.toNat;unfold encIns;rw [List.length_cons];split
 · omega
 · rw [List.length_append];split<;>split<;>simp<;>omega
theorem wB_iff{v l m:Int}:wB v l m=true↔l≤v∧v≤m:=by simp [wB]
theorem inB_all{n:Int}{l:List Int}(h:l.all (inB n)=true)(hn:n≤1000):∀x∈l,0≤x∧x≤9223372036854775807:=by
 intro x hx;have:=List.all_eq_true.1 h x hx
 simp only [inB,wB,decide_eq_true_eq] at this;omega
structure Room(u:PUnit):Prop where
 b1:(body1 u).length≤1000000
 b2:(body2 u).length≤1000000
 b3:(body3 u).length≤1000000
 b4:(body4 u).length≤1000000
 b5:(body5 u).length≤1000000
 f1:∀x∈u.shapes,∀y∈x,0≤y∧y≤9223372036854775807
 f3:∀x∈u.funcs,FuncFit x
 f4:∀x∈u.imports,ImpFit x
 f5:∀x∈u.exports,ExpFit x
theorem funcOk_room{n:Int}{f:PFunc}(hn:n≤1000)(h:funcOk n f=true):FuncFit f∧(encFunc f).length≤5000:=by
 simp only [funcOk,sigOk,codeOk,Bool.and_eq_true] at h;obtain ⟨⟨h1,h2,h3⟩,h4,h5,h6,h7⟩:=h;simp only [wB_iff,inB] at h1 h3 h4 h6;refine ⟨⟨inB_all h2 hn,⟨h3.1,by omega⟩,inB_all h5 hn,fun i hi=>List.all_eq_true.1 h7 i hi⟩,?_⟩;have a1:=encKinds_len (l:=f.params) (N:=6) (by omega);have a2:=encKinds_len (l:=f.locals) (N:=10) (by omega);have a3:=num_len f.result.toNat;have a4:=encs_len (f:=encIns) (B:=23) (N:=200) (xs:=f.code) (fun x _=>encIns_len x) (by omega);unfold encFunc;simp only [List.length_append];omega
theorem impOk_room{n:Int}{f:PImp}(hn:n≤1000)(h:impOk n f=true):ImpFit f∧(encImp f).length≤5000:=by
 simp only [impOk,sigOk,nameOk,Bool.and_eq_true] at h;obtain ⟨h0,h1,h2,h3⟩:=h;simp only [wB_iff,inB] at h0 h1 h3;refine ⟨⟨by omega,inB_all h2 hn,⟨h3.1,by omega⟩⟩,?_⟩;have a1:=encKinds_len (l:=f.params) (N:=6) (by omega);have a3:=num_len f.result.toNat;have a4:=num_len f.name.length;unfold encImp encText;simp only [List.length_append];omega
theorem expOk_room{n:Int}{f:PExp}(hn:n≤1000)(h:expOk n f=true):ExpFit f∧(encExp f).length≤5000:=by
 simp only [expOk,nameOk,Bool.and_eq_true] at h;obtain ⟨h0,h1⟩:=h;simp only [wB_iff] at h0 h1;refine ⟨⟨by omega,⟨h1.1,by omega⟩⟩,?_⟩;have a3:=num_len f.func.toNat;have a4:=num_len f.name.length;unfold encExp encText;simp only [List.length_append];omega
theorem unitOk_room{u:PUnit}(h:unitOk u=true):Room u:=by
 simp only [unitOk,shapesOk,constsOk,funcsOk,importsOk,exportsOk,Bool.and_eq_true] at h;obtain ⟨⟨s1,s2⟩,c1,⟨f1,f2⟩,⟨i1,i2⟩,e1,e2⟩:=h;simp only [wB_iff] at s1 c1 f1 i1 e1;have S:∀x∈u.shapes,shapeOk u.shapes.length x=true:=fun x hx=>List.all_eq_true.1 s2 x hx
 have F:∀x∈u.funcs,FuncFit x∧(encFunc x).length≤5000:=fun x hx=>funcOk_room (by omega) (List.all_eq_true.1 f2 x hx)
 have I:∀x∈u.imports,ImpFit x∧(encImp x).length≤5000:=fun x hx=>impOk_room (by omega) (List.all_eq_true.1 i2 x hx)
 have E:∀x∈u.exports,ExpFit x∧(encExp x).length≤5000:=fun x hx=>expOk_room (by omega) (List.all_eq_true.1 e2 x hx)
 have S1:∀x∈u.shapes,x.length≤8∧∀y∈x,0≤y∧y≤9223372036854775807:=by
  intro x hx;have:=S x hx
  simp only [shapeOk,Bool.and_eq_true,wB_iff] at this;exact ⟨by omega,inB_all this.2 (by omega)⟩
 refine ⟨?_,?_,?_,?_,?_,fun x hx=>(S1 x hx).2,fun x hx=>(F x hx).1,fun x hx=>(I x hx).1,fun x hx=>(E x hx).1⟩
 · have:=encs_len (f:=encKinds) (B:=99) (N:=20) (xs:=u.shapes) (fun x hx=>encKinds_len (S1 x hx).1) (by omega)
   unfold body1;omega
 · have:=encs_len (f:=encSigned) (B:=11) (N:=50) (xs:=u.consts) (fun x hx=>num_len _) (by omega)
   unfold body2;omega
 · have:=encs_len (N:=30) (fun x hx=>(F x hx).2) (by omega)
   unfold body3;omega
 · have:=encs_len (N:=20) (fun x hx=>(I x hx).2) (by omega)
   unfold body4;omega
 · have:=encs_len (N:=20) (fun x hx=>(E x hx).2) (by omega)
   unfold body5;omega
end Go.Proofs.YtkgncijcnlfhiaaGreat
