import Derived.ArgAppend
import Derived.Deep.Onto
import Derived.Test.YtkgncijcnlfhiaaGreatT1
import Derived.Test.YtkgncijcnlfhiaaGreatV4
namespace Go.Proofs.YtkgncijcnlfhiaaGreat
set_option maxHeartbeats 2000000
set_option linter.unusedVariables false
set_option linter.unusedSimpArgs false
open Go.RowKit
section
variable {ops:Array Oper} {rest:List Oper} {o:Oper} {a:Act} {Q:Exit→Act→World→Prop}
theorem jP(w:World)(hgd:o.guard=none)(s x:Operand)(ho:o.op=.call { callee:=.builtin .append,args:=#[s,x],argTypes:=#[102,102] })
 (base:Nat) (v:Value) (l:List UInt8) (hs:a.eval s=v) (hown:w.ownsRow base 5 1 v l.length (bc l)) (base2 g cap:Nat) (m:List UInt8)
 (hx:a.eval x=.slice (some ⟨g,0,none⟩) m.length cap) (hm:w.ownsRow base2 5 1 (.slice (some ⟨g,0,none⟩) m.length cap) m.length (bc m)) (hlen:(l++m).length≤100000000) (hbase:base≤w.heap.size)
 (h:∀v' w',db base w v w' v' (l++m)→wpList Tryz.prog ops Q rest (a.put o.dst v') w'):
 wpList Tryz.prog ops Q (o :: rest) a w:=by
 obtain ⟨i0,hi,hz0,hz1,hz2⟩:=info_parts Tryz.info5;rw [List.length_append] at hlen;refine wpList_append_own_at _ hgd s x 102 ho base 5 i0 (.int .u8 0) 1 1 Tryz.underlying102 hi hz0 hz1 hz2 rfl (by decide) v l.length (bc l) hs hown ⟨g,0,none⟩ m.length cap (bc m) hx (by rw [ll,Nat.mul_one]) (hm.cells (g:=g) rfl) (yn m) (by unfold maxLen;omega) (by omega) hbase ?_;intro v' w' h1 h2 _ h4;refine h v' w' ⟨?_,h2,fun k hk=>?_⟩
 · rw [ue,List.length_append];exact h1
 · rcases h4 with e|e
   · exact .inl (e▸hk)
   · rw [hk] at e;simp at e;right;omega
end
def vj(base:Nat)(w:World)(v:Value)(l:List UInt8):Prop:=
 w.ownsRow base 5 1 v l.length (bc l)∨∃b,base≤b∧b < w.heap.size∧v=.slice (some ⟨b,0,none⟩) l.length l.length∧∀j u,(bc l)[j]? =some u→w.cell? ((⟨b,0,none⟩:Addr).add j)=some u
theorem vj.lt{base:Nat}{w:World}{v:Value}{l:List UInt8}(h:vj base w v l):∀k,v.ownBlock=some k→base≤k∧k < w.heap.size:=by
 rcases h with h|⟨b,h1,h2,rfl,_⟩
 · exact h.lt
 · intro k hk;simp [Value.ownBlock] at hk;subst hk;exact ⟨h1,h2⟩
structure tT(W w:World)(v:Value)(l:List UInt8):Prop where
 low:Below W.heap.size W w
 own:vj W.heap.size w v l
theorem Wr.to0{W w:World}{v:Value}{l:List UInt8}(h:Wr W w v l):tT W w v l:=⟨h.low,.inl h.own⟩
theorem tT.base{W w:World}{v:Value}{l:List UInt8}(h:tT W w v l):W.heap.size≤w.heap.size:=h.low.size
theorem tT.app{W w w':World}{v v':Value}{l l':List UInt8}(h:tT W w v l)(k:db W.heap.size w v w' v' l'):Wr W w' v' l':=
 ⟨h.low.trans ((Below.refl _ _).grown k.frm h.base fun i hi=>(h.own.lt i hi).1),k.own⟩
theorem tT.gr{W w w':World}{v:Value}{l:List UInt8}(h:tT W w v l)(g:Gr w w'):tT W w' v l:=by
 refine ⟨h.low.grown g h.base (by simp),?_⟩;rcases h.own with ho|⟨b,h1,h2,rfl,h3⟩
 · exact .inl (ho.kept g (by cases v.ownBlock<;>simp))
 · exact .inr ⟨b,h1,Nat.lt_of_lt_of_le h2 g.size,rfl,fun j u hu=>g.cell (h3 j u hu) (by simp)⟩
theorem tT.apart{W w:World}{v:Value}{l:List UInt8}(h:tT W w v l){g:Nat}(hg:w.heap.size≤g):v.ownBlock≠some g:=fun e=>by have:=(h.own.lt g e).2;omega
section
variable {ops:Array Oper} {rest:List Oper} {o:Oper} {a:Act} {Q:Exit→Act→World→Prop}
theorem jQ(w:World)(hgd:o.guard=none)(s x:Operand)(ho:o.op=.call { callee:=.builtin .append,args:=#[s,x],argTypes:=#[102,102] })
 (base:Nat) (v:Value) (l:List UInt8) (hs:a.eval s=v) (hown:vj base w v l) (y:UInt8) (val:Int) (hy:val=y.toNat)
 (H:Nat) (hx:a.eval x=.slice (some ⟨H,0,none⟩) 1 1) (hH:w.heap.size=H) (hlen:l.length≤100000000) (hbase:base≤w.heap.size)
 (h:∀v' w',db base w v w' v' (l++ [y])→wpList Tryz.prog ops Q rest (a.put o.dst v') w'):
 wpList Tryz.prog ops Q (o :: rest) a (w.alloc (.cells #[.int .u8 val] 5)):=by
 rcases hown with hown|⟨b,h1,h2,rfl,h3⟩
 · exact bS w hgd s x ho base v l hs hown y val hy H hx hH hlen hbase h
 · subst hy;subst hH;obtain ⟨i0,hi,hz0,hz1,hz2⟩:=info_parts Tryz.info5;refine wpList_append_grows _ hgd s x 102 ho 5 i0 (.int .u8 0) 1 1 Tryz.underlying102 hi hz0 hz1 hz2 rfl (by decide) (some ⟨b,0,none⟩) l.length l.length (bc l) hs (by simp) (by rw [ll,Nat.mul_one]) (fun b' hb' j u hu=>by simp only [Option.some.injEq] at hb';subst hb';exact (World.grownBy_alloc w _ none).cell (h3 j u hu) (by simp)) ⟨w.heap.size,0,none⟩ 1 1 [.int .u8 y.toNat] hx rfl (cell_one_new _ _ _) (by intro u hu;simp at hu;subst hu;rfl) (by omega) (by unfold maxLen;omega) (by omega) ?_;intro v' w' h4 h5;refine h v' w' ⟨?_,?_,fun k hk=>?_⟩
   · have h6:=h4.mono (base':=base) (by simp;omega);simpa [bc] using h6
   · have h7:=(World.grownBy_alloc w (.cells #[.int .u8 y.toNat] 5) none).trans h5;exact ⟨h7.os,h7.tape,h7.output,h7.size,fun k hk _=>h7.block k hk (by simp)⟩
   · have:=(h4.lt k hk).1
     simp at this;right;omega
end
theorem oV(w:World)(base g cap:Nat)(m:List UInt8)(hm:w.ownsRow base 5 1 (.slice (some ⟨g,0,none⟩) m.length cap) m.length (bc m)):
 (convert 102 9 (.slice (some ⟨g,0,none⟩) m.length cap)).run Tryz.prog w=.ok (.string ⟨m.toArray⟩) w:=by
 rw [run_convert_bytes_string w 102 9 5 _ _ _ Tryz.underlying102 Tryz.underlying5 Tryz.underlying9];have hl:=run_loadCells_list (P:=Tryz.prog) (w:=w) ⟨g,0,none⟩ (bc m) (hm.cells (g:=g) rfl);rw [ll] at hl;have e:bc m=(m.map (fun b=>(b.toNat:Int))).map (Value.int .u8):=by simp [bc]
 rw [e] at hl;rw [run_bytesToString w _ _ _ _ hl,foldl_push_byteCells];simp
def lH(c k:Nat):List UInt8:=(List.range k).map fun j=>UInt8.ofNat (c / 256 ^ j % 256)
theorem we(c k:Nat):lH c (k+1)=lH c k++ [UInt8.ofNat (c / 256 ^ k % 256)]:=by simp [lH,List.range_succ]
theorem r_(c k:Nat):(lH c k).length=k:=by simp [lH]
def cS(n:Nat)(b:List UInt8):List UInt8:= [UInt8.ofNat n]++num b.length++b++lH (lJ b) 4
theorem Cs{n:Nat}(h:n≤5):(n:Int)=(UInt8.ofNat n).toNat:=by simp [UInt8.toNat_ofNat'];omega
theorem ug(q:Nat):(q:Int) % 256=(UInt8.ofNat (q % 256)).toNat:=by simp [UInt8.toNat_ofNat']
theorem db.keeps{base:Nat}{w w':World}{v v':Value}{l':List UInt8}(k:db base w v w' v' l'){b2 g c n:Nat}{xs:List Value}(h:w.ownsRow b2 5 1 (.slice (some ⟨g,0,none⟩) n c) n xs)(hne:v.ownBlock≠some g):w'.ownsRow b2 5 1 (.slice (some ⟨g,0,none⟩) n c) n xs:=
 h.kept k.frm (.inr (by simp [Value.ownBlock];exact fun e=>hne e.symm))
theorem tU{w:World}{base:Nat}{e:TypeId}{v:Value}{n:Nat}{xs:List Value}(h:w.ownsRow base e 1 v n xs):∃ao co,v=.slice ao n co:=by
 rcases h.2 with ⟨h1,h2⟩|⟨g2,c2,_,h1,_⟩
 · exact ⟨none,0,by rw [h1,h2]⟩
 · exact ⟨_,c2,h1⟩
set_option maxRecDepth 100000 in
theorem ma(W:World)(v:Value)(l:List UInt8)(n:Nat)(g cap base2:Nat)(m:List UInt8)(w:World)(hn:n≤5)(hw:tT W w v l)
 (hm:w.ownsRow base2 5 1 (.slice (some ⟨g,0,none⟩) m.length cap) m.length (bc m)) (hne:v.ownBlock≠some g) (hlen:l.length+m.length≤5000000):
 Calls Tryz.prog 52 #[v,.int .u8 n,.slice (some ⟨g,0,none⟩) m.length cap] w fun x w'=>
  ((l++cS n m).length≤20000∧∃v',x=.returned v'∧db W.heap.size w v w' v' (l++cS n m))∨
  (¬(l++cS n m).length≤20000∧x=.panicked (dF 3 0)∧Below W.heap.size W w'):=by
 have hl11:=bO m.length;have hc:=uk m;have hgl:g < w.heap.size:=(hm.lt g rfl).2;have HG:=aH hne;have HM:=aH hm;clear hne hm;go_enter Tryz.func52,Tryz.ntmps52
 go_wp2_with (first
  |(at_builtin;refine jQ _ rfl (.tmp 8) (.tmp 10) rfl W.heap.size v l rfl hw.own (UInt8.ofNat n) _ (by exact Cs hn) _ rfl (by simp) (by omega) hw.base ?_;intro v1 w1 happ1;have hw1:=hw.app happ1)
  |(go_at_call 82;refine (dw W.heap.size _ (l++ [UInt8.ofNat n]) m.length _ (by omega) (by exact hw1.own) (by simp;omega) (by exact hw1.base)).mono ?_;rintro e w2 ⟨v2,rfl,happ2⟩;have hw2:=hw1.app happ2;have happ12:=happ1.trans happ2;have hm2:=aH (happ12.keeps HM.out HG.out))
  |(at_builtin;refine jP _ rfl (.tmp 17) (.tmp 18) rfl W.heap.size v2 (l++ [UInt8.ofNat n]++num m.length) rfl hw2.own base2 g cap m rfl hm2.out (by simp;omega) hw2.base ?_;intro v3 w3 happ3;have hw3:=hw2.app happ3;have happ13:=happ12.trans happ3;have hconv:=oV w3 base2 g cap m (happ13.keeps HM.out HG.out))
  |(go_at_call 83;refine (nF _ _ (by unfold maxLen;simp [ByteArray.size];omega)).mono ?_;rintro e w4 ⟨rfl,e4⟩;subst e4))
 have HS:Hid (l++cS n m=l++ [UInt8.ofNat n]++num m.length++m++lH (lJ m) 4):=aH (by simp [cS]);have hlm:(l++ [UInt8.ofNat n]++num m.length++m).length≤5000020:=by simp only [List.length_append,List.length_cons,List.length_nil];omega
 generalize l++ [UInt8.ofNat n]++num m.length++m=l3 at HS happ13 hw3 hlm;have H13:=aH happ13;clear happ1 happ2 happ12 happ13 happ3 hw1 hw2 hm2 hconv hw3;go_loopw [0,7,23] (fun vo c i wr=>∃k:Nat,k≤4∧i=.int .i64 k∧c=.int .u32 ((lJ m / 256 ^ k:Nat):Int)∧db W.heap.size w v wr vo (l3++lH (lJ m) k)) (fun _ _ i _=>4 - (intOf i).toNat)
 case atStart=>exact ⟨0,Nat.zero_le _,rfl,by simp,by simp [lH];exact H13.out⟩
 case round=>
  obtain ⟨k,hk,rfl,rfl,happ⟩:=hrel;have hwr:=hw.app happ;have H2:=aH happ;clear happ;by_cases hlt:k < 4
  · have HD:Hid (lJ m / 256 ^ (k+1)=lJ m / 256 ^ k / 256):=aH (by rw [Nat.pow_succ,Nat.div_div_eq_div_mul]);have HK:=aH (we (lJ m) k);have hq:lJ m / 256 ^ k < 4294967296:=Nat.lt_of_le_of_lt (Nat.div_le_self _ _) hc;have hlk:(l3++lH (lJ m) k).length≤100000000:=by rw [List.length_append,r_];omega
    generalize lJ m / 256 ^ k=q at HD HK hq;go_wp2_with (at_builtin;refine bS _ rfl (.tmp 25) (.tmp 28) rfl W.heap.size _ (l3++lH (lJ m) k) rfl hwr.own (UInt8.ofNat (q % 256)) _ (by exact ug q) _ rfl (by simp) hlk hwr.base ?_;intro v5 w5 happ5)
    have H5:=aH happ5;clear happ5;go_roundw
    case rel=>exact ⟨k+1,by omega,by go_num,by rw [HD.out];go_num,by rw [HK.out,←List.append_assoc];exact H2.out.trans H5.out⟩
    case measure=>simp [intOf];omega
  · have hk4:k=4:=by omega
    subst hk4;have HS2:=HS.out;rw [←HS2] at H2 hwr;obtain ⟨ao,co,hv0⟩:=tU hwr.own;subst hv0;have HLow:=aH hwr.low;clear hwr HS2;by_cases hN:(l++cS n m).length≤20000
    · have H20:=aH hN;have hd:(((l++cS n m).length:Nat):Int)≤20000:=by omega
      clear hN;generalize (l++cS n m).length=N at hd ⊢ H2;go_wp2_with (go_at_call 32;refine (aP _ _ _).mono ?_;rintro e w' ⟨rfl,hg'⟩)
      go_ret
      refine .inl ⟨H20.out,_,rfl,?_⟩;exact H2.out.thenGr hg'
    · have H20:=aH hN;have hd:¬(((l++cS n m).length:Nat):Int)≤20000:=by omega
      clear hN;generalize (l++cS n m).length=N at hd ⊢ H2;go_wp2_with (go_at_call 32;refine (aV _ _ _).mono ?_;rintro e w' ⟨rfl,hg'⟩)
      exact ⟨rfl,.inr ⟨H20.out,rfl,HLow.out.grown hg' HLow.out.size (by simp)⟩⟩
open Go.RowKit
def kN(f:aO):Prop:=(∀x∈f.aF,0≤x∧x≤9223372036854775807)∧(0≤f.result∧f.result≤9223372036854775807)∧(∀x∈f.aG,0≤x∧x≤9223372036854775807)∧∀i∈f.code,bH i=true
def lr(f:fQ):Prop:=f.name.length≤1000000∧(∀x∈f.aF,0≤x∧x≤9223372036854775807)∧(0≤f.result∧f.result≤9223372036854775807)
def lX(f:du):Prop:=f.name.length≤1000000∧(0≤f.func∧f.func≤9223372036854775807)
theorem uW(W:World)(v:Value)(l:List UInt8)(xs:List aw)(vx:Value)(w:World)(hR:dM W vx xs)(hneed:∀x∈xs,bH x=true)(hw:Wr W w v l)(hlen:(l++dY bh xs).length≤10000000):
 Calls Tryz.prog 85 #[v,vx,.func (.func 86) #[] #[]] w fun x w'=>∃v',x=.returned v'∧db W.heap.size w v w' v' (l++dY bh xs):=by
 obtain ⟨ao,cap,rfl,hm,hc⟩:=hR;unfold maxLen at hm;have HC:=aH hc;clear hc;have hl1:l.length≤10000000:=by simp only [List.length_append] at hlen;omega
 have HLen:=aH hlen;clear hlen;go_enter Tryz.func85,Tryz.ntmps85
 go_wp2_with (go_at_call 84;refine (cA W _ l xs.length _ (by omega) (by omega) (by exact hw) hl1).mono ?_;rintro e w1 ⟨v1,rfl,happ⟩;rw [Int.toNat_natCast] at happ;have hw1:=hw.app happ)
 have H1:=aH happ;clear happ;go_loopw [0,15] (fun vo i wr=>∃k:Nat,k≤xs.length∧i=.int .i64 k∧db W.heap.size w v wr vo (l++ei bh xs k)) (fun _ i _=>xs.length - (intOf i).toNat)
 case atStart=>exact ⟨0,Nat.zero_le _,rfl,by rw [eI];exact H1.out⟩
 case round=>
  obtain ⟨k,hk,rfl,happ⟩:=hrel;have hwr:=hw.app happ;have H2:=aH happ;clear happ hw1;by_cases hlt:k < xs.length
  · obtain ⟨x,hx⟩:=aY hlt;obtain ⟨b,off,hao,hc0,hc1,hc2⟩:=HC.out k x hx;subst hao;have hc0':=aT hwr.low hc0;have hc1':=aT hwr.low hc1;have hc2':=aT hwr.low hc2;have HNX:=aH (hneed x (List.mem_of_getElem? hx));clear hc0 hc1 hc2;have HX:=aH hx;clear hx;go_wp2_with (go_at_call 86;refine (sY W _ _ x _ HNX.out (by exact hwr.gr (World.grownBy_alloc _ _ none)) (gx HX.out HLen.out)).mono ?_;rintro e w2 ⟨v2,rfl,happ2⟩)
    have H3:=aH happ2;clear happ2;go_roundw
    case rel=>exact ⟨k+1,by omega,by go_num,by rw [dq HX.out,←List.append_assoc];exact H2.out.trans (db.gr (World.grownBy_alloc _ _ none) H3.out)⟩
    case measure=>simp [intOf];omega
  · go_wp2
    go_ret
    refine ⟨_,rfl,?_⟩;rw [gG hlt];exact H2.out
theorem rU(w:World)(v0 v1 v2 v3:Value):(w.alloc (.cells #[v0,v1,v2,v3] 48)).cell? ⟨w.heap.size,0,none⟩=some v0∧(w.alloc (.cells #[v0,v1,v2,v3] 48)).cell? ⟨w.heap.size,1,none⟩=some v1∧(w.alloc (.cells #[v0,v1,v2,v3] 48)).cell? ⟨w.heap.size,2,none⟩=some v2∧(w.alloc (.cells #[v0,v1,v2,v3] 48)).cell? ⟨w.heap.size,3,none⟩=some v3:=by
 refine ⟨?_,?_,?_,?_⟩<;>simp [go_sem]
theorem uB(w:World)(v0 v1 v2:Value):(w.alloc (.cells #[v0,v1,v2] 53)).cell? ⟨w.heap.size,0,none⟩=some v0∧(w.alloc (.cells #[v0,v1,v2] 53)).cell? ⟨w.heap.size,1,none⟩=some v1∧(w.alloc (.cells #[v0,v1,v2] 53)).cell? ⟨w.heap.size,2,none⟩=some v2:=by
 refine ⟨?_,?_,?_⟩<;>simp [go_sem]
theorem sW(w:World)(v0 v1:Value):(w.alloc (.cells #[v0,v1] 50)).cell? ⟨w.heap.size,0,none⟩=some v0∧(w.alloc (.cells #[v0,v1] 50)).cell? ⟨w.heap.size,1,none⟩=some v1:=by
 refine ⟨?_,?_⟩<;>simp [go_sem]
theorem rE(W:World)(v:Value)(l:List UInt8)(x:aO)(vp vl vc:Value)(w:World)(hp:aX W vp x.aF)(hl:aX W vl x.aG)(hc:dM W vc x.code)(hfit:kN x)(hw:Wr W w v l)(hlen:(l++bq x).length≤10000000):
 Calls Tryz.prog 58 #[v,.agg #[vp,.int .i64 x.result,vl,vc]] w fun y w'=>∃v',y=.returned v'∧db W.heap.size w v w' v' (l++bq x):=by
 obtain ⟨ap,cp,rfl⟩:=hp.shape;obtain ⟨al,cl,rfl⟩:=hl.shape;obtain ⟨ac,cc,rfl⟩:=hc.shape;obtain ⟨f1,f2,f3,f4⟩:=hfit;obtain ⟨hi0,hi1,hi2,hi3⟩:=rU w (.slice ap x.aF.length cp) (.int .i64 x.result) (.slice al x.aG.length cl) (.slice ac x.code.length cc);have hwb:=hw.gr (World.grownBy_alloc w (.cells #[.slice ap x.aF.length cp,.int .i64 x.result,.slice al x.aG.length cl,.slice ac x.code.length cc] 48) none);have HV:=aH (fun i hi=>(hw.own.lt i hi).2:∀i,v.ownBlock=some i→i < w.heap.size);have HP:=aH hp;have HL:=aH hl;have HC:=aH hc;have F1:=aH f1;have F3:=aH f3;have F4:=aH f4;have L1:Hid ((l++bE x.aF).length≤10000000):=aH (by unfold bq at hlen;simp only [List.length_append] at hlen ⊢;omega);have L2:Hid ((l++bE x.aF++bE x.aG).length≤10000000):=aH (by unfold bq at hlen;simp only [List.length_append] at hlen ⊢;omega);have L3:Hid ((l++bE x.aF++bE x.aG++num x.result.toNat++dY bh x.code).length≤10000000):=aH (by unfold bq at hlen;simp only [List.length_append] at hlen ⊢;omega);have HE:Hid (l++bq x=l++bE x.aF++bE x.aG++num x.result.toNat++dY bh x.code):=aH (by unfold bq;simp only [List.append_assoc]);clear hp hl hc f1 f3 f4 hlen;go_enter Tryz.func58,Tryz.ntmps58
 go_wp2_with fail
 refine (gY W _ l x.aF _ _ HP.out F1.out (by exact hwb) L1.out).mono ?_;rintro e w1 ⟨v1,rfl,happ1⟩;have hw1:=hwb.app happ1;have hj2:=happ1.box hi2 HV.out;go_wp2_with fail
 refine (gY W _ _ x.aG _ _ HL.out F3.out (by exact hw1) L2.out).mono ?_;rintro e w2 ⟨v2,rfl,happ2⟩;have hw2:=hw1.app happ2;have happ12:=happ1.trans happ2;have hj1:=happ12.box hi1 HV.out;go_wp2_with fail
 refine (cA W _ _ x.result _ f2.1 f2.2 (by exact hw2) L2.out).mono ?_;rintro e w3 ⟨v3,rfl,happ3⟩;have hw3:=hw2.app happ3;have happ13:=happ12.trans happ3;have hj3:=happ13.box hi3 HV.out;go_wp2_with fail
 refine (uW W _ _ x.code _ _ HC.out F4.out (by exact hw3) L3.out).mono ?_;rintro e w4 ⟨v4,rfl,happ4⟩;go_wp2
 go_ret
 refine ⟨v4,rfl,?_⟩;rw [HE.out];exact db.gr (World.grownBy_alloc w _ none) (happ13.trans happ4)
theorem sZ(W:World)(v:Value)(l:List UInt8)(x:fQ)(vs vp:Value)(w:World)(hs:ii vs x.name)(hp:aX W vp x.aF)(hfit:lr x)(hw:Wr W w v l)(hlen:(l++dR x).length≤10000000):
 Calls Tryz.prog 60 #[v,.agg #[vs,vp,.int .i64 x.result]] w fun y w'=>∃v',y=.returned v'∧db W.heap.size w v w' v' (l++dR x):=by
 obtain ⟨ap,cp,rfl⟩:=hp.shape;obtain ⟨s,rfl,hsl,hsm⟩:=hs;have hsz:s.size=x.name.length:=by rw [←hsl,Array.length_toList];rfl
 obtain ⟨f1,f2,f3⟩:=hfit;obtain ⟨hi0,hi1,hi2⟩:=uB w (.string s) (.slice ap x.aF.length cp) (.int .i64 x.result);have hwb:=hw.gr (World.grownBy_alloc w (.cells #[.string s,.slice ap x.aF.length cp,.int .i64 x.result] 53) none);have HV:=aH (fun i hi=>(hw.own.lt i hi).2:∀i,v.ownBlock=some i→i < w.heap.size);have HP:=aH hp;have F2:=aH f2;have ET:Hid (num s.size++s.data.toList=b6 x.name):=aH (by unfold b6;rw [hsl,hsz]);have L1:Hid (l.length≤10000000):=aH (by simp only [List.length_append] at hlen;omega);have L0:Hid (s.size≤1000000):=aH (by omega);have L2:Hid ((l++b6 x.name++bE x.aF).length≤10000000):=aH (by unfold dR at hlen;simp only [List.length_append] at hlen ⊢;omega);have HE:Hid (l++dR x=l++b6 x.name++bE x.aF++num x.result.toNat):=aH (by unfold dR;simp only [List.append_assoc]);clear hp f2 hlen hsz hsl hsm f1;go_enter Tryz.func60,Tryz.ntmps60
 go_wp2_with fail
 refine (pP W _ l s _ L0.out (by exact hwb) L1.out).mono ?_;rintro e w1 ⟨v1,rfl,happ1⟩;rw [ET.out] at happ1;have hw1:=hwb.app happ1;have hj1:=happ1.box hi1 HV.out;go_wp2_with fail
 refine (gY W _ _ x.aF _ _ HP.out F2.out (by exact hw1) L2.out).mono ?_;rintro e w2 ⟨v2,rfl,happ2⟩;have hw2:=hw1.app happ2;have happ12:=happ1.trans happ2;have hj2:=happ12.box hi2 HV.out;go_wp2_with fail
 refine (cA W _ _ x.result _ f3.1 f3.2 (by exact hw2) L2.out).mono ?_;rintro e w3 ⟨v3,rfl,happ3⟩;go_wp2
 go_ret
 refine ⟨v3,rfl,?_⟩;rw [HE.out];exact db.gr (World.grownBy_alloc w _ none) (happ12.trans happ3)
theorem t8(W:World)(v:Value)(l:List UInt8)(x:du)(vs:Value)(w:World)(hs:ii vs x.name)(hfit:lX x)(hw:Wr W w v l)(hlen:(l++dT x).length≤10000000):
 Calls Tryz.prog 62 #[v,.agg #[vs,.int .i64 x.func]] w fun y w'=>∃v',y=.returned v'∧db W.heap.size w v w' v' (l++dT x):=by
 obtain ⟨s,rfl,hsl,hsm⟩:=hs;have hsz:s.size=x.name.length:=by rw [←hsl,Array.length_toList];rfl
 obtain ⟨f1,f3⟩:=hfit;obtain ⟨hi0,hi1⟩:=sW w (.string s) (.int .i64 x.func);have hwb:=hw.gr (World.grownBy_alloc w (.cells #[.string s,.int .i64 x.func] 50) none);have HV:=aH (fun i hi=>(hw.own.lt i hi).2:∀i,v.ownBlock=some i→i < w.heap.size);have ET:Hid (num s.size++s.data.toList=b6 x.name):=aH (by unfold b6;rw [hsl,hsz]);have L1:Hid (l.length≤10000000):=aH (by simp only [List.length_append] at hlen;omega);have L0:Hid (s.size≤1000000):=aH (by omega);have L2:Hid ((l++b6 x.name).length≤10000000):=aH (by unfold dT at hlen;simp only [List.length_append] at hlen ⊢;omega);have HE:Hid (l++dT x=l++b6 x.name++num x.func.toNat):=aH (by unfold dT;simp only [List.append_assoc]);clear hlen hsz hsl hsm f1;go_enter Tryz.func62,Tryz.ntmps62
 go_wp2_with fail
 refine (pP W _ l s _ L0.out (by exact hwb) L1.out).mono ?_;rintro e w1 ⟨v1,rfl,happ1⟩;rw [ET.out] at happ1;have hw1:=hwb.app happ1;have hj1:=happ1.box hi1 HV.out;go_wp2_with fail
 refine (cA W _ _ x.func _ f3.1 f3.2 (by exact hw1) L2.out).mono ?_;rintro e w3 ⟨v3,rfl,happ3⟩;go_wp2
 go_ret
 refine ⟨v3,rfl,?_⟩;rw [HE.out];exact db.gr (World.grownBy_alloc w _ none) (happ1.trans happ3)
open Go.RowKit
theorem sU(W:World)(v:Value)(l:List UInt8)(xs:List aO)(vx:Value)(w:World)(hR:cG W vx xs)(hneed:∀x∈xs,kN x)(hw:Wr W w v l)(hlen:(l++dY bq xs).length≤10000000):
 Calls Tryz.prog 57 #[v,vx,.func (.func 58) #[] #[]] w fun x w'=>∃v',x=.returned v'∧db W.heap.size w v w' v' (l++dY bq xs):=by
 obtain ⟨ao,cap,rfl,hm,hc⟩:=hR;unfold maxLen at hm;have HC:=aH hc;clear hc;have hl1:l.length≤10000000:=by simp only [List.length_append] at hlen;omega
 have HLen:=aH hlen;clear hlen;go_enter Tryz.func57,Tryz.ntmps57
 go_wp2_with (go_at_call 84;refine (cA W _ l xs.length _ (by omega) (by omega) (by exact hw) hl1).mono ?_;rintro e w1 ⟨v1,rfl,happ⟩;rw [Int.toNat_natCast] at happ;have hw1:=hw.app happ)
 have H1:=aH happ;clear happ;go_loopw [0,15] (fun vo i wr=>∃k:Nat,k≤xs.length∧i=.int .i64 k∧db W.heap.size w v wr vo (l++ei bq xs k)) (fun _ i _=>xs.length - (intOf i).toNat)
 case atStart=>exact ⟨0,Nat.zero_le _,rfl,by rw [eI];exact H1.out⟩
 case round=>
  obtain ⟨k,hk,rfl,happ⟩:=hrel;have hwr:=hw.app happ;have H2:=aH happ;clear happ hw1;by_cases hlt:k < xs.length
  · obtain ⟨x,hx⟩:=aY hlt;obtain ⟨b,off,vp,vl,vc,hao,hc0,hc1,hc2,hc3,hRp,hRl,hRc⟩:=HC.out k x hx;subst hao;have hc0':=aT hwr.low hc0;have hc1':=aT hwr.low hc1;have hc2':=aT hwr.low hc2;have hc3':=aT hwr.low hc3;have HNX:=aH (hneed x (List.mem_of_getElem? hx));have HP:=aH hRp;have HL:=aH hRl;have HCC:=aH hRc;obtain ⟨ap,cp,rfl⟩:=hRp.shape;obtain ⟨al,cl,rfl⟩:=hRl.shape;obtain ⟨ac,cc,rfl⟩:=hRc.shape;clear hc0 hc1 hc2 hc3 hRp hRl hRc;have HX:=aH hx;clear hx;go_wp2_with (go_at_call 58;refine (rE W _ _ x _ _ _ _ HP.out HL.out HCC.out HNX.out (by exact hwr.gr (World.grownBy_alloc _ _ none)) (gx HX.out HLen.out)).mono ?_;rintro e w2 ⟨v2,rfl,happ2⟩)
    have H3:=aH happ2;clear happ2;go_roundw
    case rel=>exact ⟨k+1,by omega,by go_num,by rw [dq HX.out,←List.append_assoc];exact H2.out.trans (db.gr (World.grownBy_alloc _ _ none) H3.out)⟩
    case measure=>simp [intOf];omega
  · go_wp2
    go_ret
    refine ⟨_,rfl,?_⟩;rw [gG hlt];exact H2.out
theorem ut(W:World)(v:Value)(l:List UInt8)(xs:List fQ)(vx:Value)(w:World)(hR:bK W vx xs)(hneed:∀x∈xs,lr x)(hw:Wr W w v l)(hlen:(l++dY dR xs).length≤10000000):
 Calls Tryz.prog 59 #[v,vx,.func (.func 60) #[] #[]] w fun x w'=>∃v',x=.returned v'∧db W.heap.size w v w' v' (l++dY dR xs):=by
 obtain ⟨ao,cap,rfl,hm,hc⟩:=hR;unfold maxLen at hm;have HC:=aH hc;clear hc;have hl1:l.length≤10000000:=by simp only [List.length_append] at hlen;omega
 have HLen:=aH hlen;clear hlen;go_enter Tryz.func59,Tryz.ntmps59
 go_wp2_with (go_at_call 84;refine (cA W _ l xs.length _ (by omega) (by omega) (by exact hw) hl1).mono ?_;rintro e w1 ⟨v1,rfl,happ⟩;rw [Int.toNat_natCast] at happ;have hw1:=hw.app happ)
 have H1:=aH happ;clear happ;go_loopw [0,15] (fun vo i wr=>∃k:Nat,k≤xs.length∧i=.int .i64 k∧db W.heap.size w v wr vo (l++ei dR xs k)) (fun _ i _=>xs.length - (intOf i).toNat)
 case atStart=>exact ⟨0,Nat.zero_le _,rfl,by rw [eI];exact H1.out⟩
 case round=>
  obtain ⟨k,hk,rfl,happ⟩:=hrel;have hwr:=hw.app happ;have H2:=aH happ;clear happ hw1;by_cases hlt:k < xs.length
  · obtain ⟨x,hx⟩:=aY hlt;obtain ⟨b,off,vs,vp,hao,hc0,hc1,hc2,hRs,hRp⟩:=HC.out k x hx;subst hao;have hc0':=aT hwr.low hc0;have hc1':=aT hwr.low hc1;have hc2':=aT hwr.low hc2;have HNX:=aH (hneed x (List.mem_of_getElem? hx));have HP:=aH hRp;have HS:=aH hRs;obtain ⟨ap,cp,rfl⟩:=hRp.shape;obtain ⟨s,rfl,hsl,hsm⟩:=hRs;clear hc0 hc1 hc2 hRp hsl hsm;have HX:=aH hx;clear hx;go_wp2_with (go_at_call 60;refine (sZ W _ _ x _ _ _ HS.out HP.out HNX.out (by exact hwr.gr (World.grownBy_alloc _ _ none)) (gx HX.out HLen.out)).mono ?_;rintro e w2 ⟨v2,rfl,happ2⟩)
    have H3:=aH happ2;clear happ2;go_roundw
    case rel=>exact ⟨k+1,by omega,by go_num,by rw [dq HX.out,←List.append_assoc];exact H2.out.trans (db.gr (World.grownBy_alloc _ _ none) H3.out)⟩
    case measure=>simp [intOf];omega
  · go_wp2
    go_ret
    refine ⟨_,rfl,?_⟩;rw [gG hlt];exact H2.out
theorem wJ(W:World)(v:Value)(l:List UInt8)(xs:List du)(vx:Value)(w:World)(hR:b8 W vx xs)(hneed:∀x∈xs,lX x)(hw:Wr W w v l)(hlen:(l++dY dT xs).length≤10000000):
 Calls Tryz.prog 61 #[v,vx,.func (.func 62) #[] #[]] w fun x w'=>∃v',x=.returned v'∧db W.heap.size w v w' v' (l++dY dT xs):=by
 obtain ⟨ao,cap,rfl,hm,hc⟩:=hR;unfold maxLen at hm;have HC:=aH hc;clear hc;have hl1:l.length≤10000000:=by simp only [List.length_append] at hlen;omega
 have HLen:=aH hlen;clear hlen;go_enter Tryz.func61,Tryz.ntmps61
 go_wp2_with (go_at_call 84;refine (cA W _ l xs.length _ (by omega) (by omega) (by exact hw) hl1).mono ?_;rintro e w1 ⟨v1,rfl,happ⟩;rw [Int.toNat_natCast] at happ;have hw1:=hw.app happ)
 have H1:=aH happ;clear happ;go_loopw [0,15] (fun vo i wr=>∃k:Nat,k≤xs.length∧i=.int .i64 k∧db W.heap.size w v wr vo (l++ei dT xs k)) (fun _ i _=>xs.length - (intOf i).toNat)
 case atStart=>exact ⟨0,Nat.zero_le _,rfl,by rw [eI];exact H1.out⟩
 case round=>
  obtain ⟨k,hk,rfl,happ⟩:=hrel;have hwr:=hw.app happ;have H2:=aH happ;clear happ hw1;by_cases hlt:k < xs.length
  · obtain ⟨x,hx⟩:=aY hlt;obtain ⟨b,off,vs,hao,hc0,hc1,hRs⟩:=HC.out k x hx;subst hao;have hc0':=aT hwr.low hc0;have hc1':=aT hwr.low hc1;have HNX:=aH (hneed x (List.mem_of_getElem? hx));have HS:=aH hRs;obtain ⟨s,rfl,hsl,hsm⟩:=hRs;clear hc0 hc1 hsl hsm;have HX:=aH hx;clear hx;go_wp2_with (go_at_call 62;refine (t8 W _ _ x _ _ HS.out HNX.out (by exact hwr.gr (World.grownBy_alloc _ _ none)) (gx HX.out HLen.out)).mono ?_;rintro e w2 ⟨v2,rfl,happ2⟩)
    have H3:=aH happ2;clear happ2;go_roundw
    case rel=>exact ⟨k+1,by omega,by go_num,by rw [dq HX.out,←List.append_assoc];exact H2.out.trans (db.gr (World.grownBy_alloc _ _ none) H3.out)⟩
    case measure=>simp [intOf];omega
  · go_wp2
    go_ret
    refine ⟨_,rfl,?_⟩;rw [gG hlt];exact H2.out
theorem rA(W:World)(v:Value)(l:List UInt8)(xs:List (List Int))(vx:Value)(w:World)(hR:bG W vx xs)(hneed:∀x∈xs,∀y∈x,0≤y∧y≤9223372036854775807)(hw:Wr W w v l)(hlen:(l++dY bE xs).length≤10000000):
 Calls Tryz.prog 53 #[v,vx,.func (.func 54) #[] #[]] w fun x w'=>∃v',x=.returned v'∧db W.heap.size w v w' v' (l++dY bE xs):=by
 obtain ⟨ao,cap,rfl,hm,hc⟩:=hR;unfold maxLen at hm;have HC:=aH hc;clear hc;have hl1:l.length≤10000000:=by simp only [List.length_append] at hlen;omega
 have HLen:=aH hlen;clear hlen;go_enter Tryz.func53,Tryz.ntmps53
 go_wp2_with (go_at_call 84;refine (cA W _ l xs.length _ (by omega) (by omega) (by exact hw) hl1).mono ?_;rintro e w1 ⟨v1,rfl,happ⟩;rw [Int.toNat_natCast] at happ;have hw1:=hw.app happ)
 have H1:=aH happ;clear happ;go_loopw [0,15] (fun vo i wr=>∃k:Nat,k≤xs.length∧i=.int .i64 k∧db W.heap.size w v wr vo (l++ei bE xs k)) (fun _ i _=>xs.length - (intOf i).toNat)
 case atStart=>exact ⟨0,Nat.zero_le _,rfl,by rw [eI];exact H1.out⟩
 case round=>
  obtain ⟨k,hk,rfl,happ⟩:=hrel;have hwr:=hw.app happ;have H2:=aH happ;clear happ hw1;by_cases hlt:k < xs.length
  · obtain ⟨x,hx⟩:=aY hlt;obtain ⟨b,off,vk,hao,hc0,hRp⟩:=HC.out k x hx;subst hao;have hc0':=aT hwr.low hc0;have HNX:=aH (hneed x (List.mem_of_getElem? hx));have HP:=aH hRp;clear hc0 hRp;have HX:=aH hx;clear hx;go_wp2_with (go_at_call 54;refine (gY W _ _ x _ _ HP.out HNX.out (by exact hwr) (gx HX.out HLen.out)).mono ?_;rintro e w2 ⟨v2,rfl,happ2⟩)
    have H3:=aH happ2;clear happ2;go_roundw
    case rel=>exact ⟨k+1,by omega,by go_num,by rw [dq HX.out,←List.append_assoc];exact H2.out.trans H3.out⟩
    case measure=>simp [intOf];omega
  · go_wp2
    go_ret
    refine ⟨_,rfl,?_⟩;rw [gG hlt];exact H2.out
def dW:List UInt8:= [75,73,76,78,1]
def fH(u:aK):List UInt8:=dY bE u.aA
def fL(u:aK):List UInt8:=dY A' u.aD
def fN(u:aK):List UInt8:=dY bq u.aE
def fO(u:aK):List UInt8:=dY dR u.aB
def fZ(u:aK):List UInt8:=dY dT u.aC
def mY(u:aK):List UInt8:=dW++cS 1 (fH u)
def lV(u:aK):List UInt8:=mY u++cS 2 (fL u)
def lG(u:aK):List UInt8:=lV u++cS 3 (fN u)
def iV(u:aK):List UInt8:=lG u++cS 4 (fO u)
def enc(u:aK):List UInt8:=iV u++cS 5 (fZ u)
def mf(u:aK):Prop:=∀x∈u.aD,-9223372036854775808≤x∧x≤9223372036854775807
theorem qD{α:Type}{f:α→List UInt8}{B:Nat}:∀{xs:List α},(∀x∈xs,(f x).length≤B)→(xs.flatMap f).length≤xs.length * B
 | [],_=>by simp
 | x :: xs,h=>by
  have h1:=h x (by simp);have h2:=qD (xs:=xs) fun y hy=>h y (by simp [hy])
  simp only [List.flatMap_cons,List.length_append,List.length_cons,Nat.add_mul];omega
theorem br{α:Type}{f:α→List UInt8}{B N:Nat}{xs:List α}(h:∀x∈xs,(f x).length≤B)(hN:xs.length≤N):(dY f xs).length≤11+N * B:=by
 have h1:=bO xs.length;have h2:=qD h;have h3:xs.length * B≤N * B:=Nat.mul_le_mul_right B hN;unfold dY;rw [List.length_append];omega
theorem dX{α:Type}{f:α→List UInt8}{xs:List α}:1≤(dY f xs).length:=by
 have:=(ix 10 xs.length).2
 unfold dY num;rw [List.length_append];omega
theorem bg{l:List Int}{N:Nat}(h:l.length≤N):(bE l).length≤11+N * 11:=br (fun x _=>bO _) h
theorem jc(i:aw):(bh i).length≤23:=by
 have h1:=bO (oL i.a);have h2:=bO i.a.toNat;have h3:=bO i.b.toNat;unfold bh;rw [List.length_cons];split
 · omega
 · rw [List.length_append];split<;>split<;>simp<;>omega
theorem mD{v l m:Int}:wB v l m=true↔l≤v∧v≤m:=by simp [wB]
theorem lL{n:Int}{l:List Int}(h:l.all (jT n)=true)(hn:n≤1000):∀x∈l,0≤x∧x≤9223372036854775807:=by
 intro x hx;have:=List.all_eq_true.1 h x hx
 simp only [jT,wB,decide_eq_true_eq] at this;omega
structure AX(u:aK):Prop where
 b1:(fH u).length≤1000000
 b2:(fL u).length≤1000000
 b3:(fN u).length≤1000000
 b4:(fO u).length≤1000000
 b5:(fZ u).length≤1000000
 f1:∀x∈u.aA,∀y∈x,0≤y∧y≤9223372036854775807
 f3:∀x∈u.aE,kN x
 f4:∀x∈u.aB,lr x
 f5:∀x∈u.aC,lX x
theorem CJ{n:Int}{f:aO}(hn:n≤1000)(h:c_ n f=true):kN f∧(bq f).length≤5000:=by
 simp only [c_,fG,gI,Bool.and_eq_true] at h;obtain ⟨⟨h1,h2,h3⟩,h4,h5,h6,h7⟩:=h;simp only [mD,jT] at h1 h3 h4 h6;refine ⟨⟨lL h2 hn,⟨h3.1,by omega⟩,lL h5 hn,fun i hi=>List.all_eq_true.1 h7 i hi⟩,?_⟩;have a1:=bg (l:=f.aF) (N:=6) (by omega);have a2:=bg (l:=f.aG) (N:=10) (by omega);have a3:=bO f.result.toNat;have a4:=br (f:=bh) (B:=23) (N:=200) (xs:=f.code) (fun x _=>jc x) (by omega);unfold bq;simp only [List.length_append];omega
theorem qR{n:Int}{f:fQ}(hn:n≤1000)(h:gQ n f=true):lr f∧(dR f).length≤5000:=by
 simp only [gQ,fG,fB,Bool.and_eq_true] at h;obtain ⟨h0,h1,h2,h3⟩:=h;simp only [mD,jT] at h0 h1 h3;refine ⟨⟨by omega,lL h2 hn,⟨h3.1,by omega⟩⟩,?_⟩;have a1:=bg (l:=f.aF) (N:=6) (by omega);have a3:=bO f.result.toNat;have a4:=bO f.name.length;unfold dR b6;simp only [List.length_append];omega
theorem qi{n:Int}{f:du}(hn:n≤1000)(h:gi n f=true):lX f∧(dT f).length≤5000:=by
 simp only [gi,fB,Bool.and_eq_true] at h;obtain ⟨h0,h1⟩:=h;simp only [mD] at h0 h1;refine ⟨⟨by omega,⟨h1.1,by omega⟩⟩,?_⟩;have a3:=bO f.func.toNat;have a4:=bO f.name.length;unfold dT b6;simp only [List.length_append];omega
theorem pZ{u:aK}(h:ak u=true):AX u:=by
 simp only [ak,A9,dE,cL,bm,b_,Bool.and_eq_true] at h;obtain ⟨⟨s1,s2⟩,c1,⟨f1,f2⟩,⟨i1,i2⟩,e1,e2⟩:=h;simp only [mD] at s1 c1 f1 i1 e1;have S:∀x∈u.aA,dj u.aA.length x=true:=fun x hx=>List.all_eq_true.1 s2 x hx
 have F:∀x∈u.aE,kN x∧(bq x).length≤5000:=fun x hx=>CJ (by omega) (List.all_eq_true.1 f2 x hx)
 have I:∀x∈u.aB,lr x∧(dR x).length≤5000:=fun x hx=>qR (by omega) (List.all_eq_true.1 i2 x hx)
 have E:∀x∈u.aC,lX x∧(dT x).length≤5000:=fun x hx=>qi (by omega) (List.all_eq_true.1 e2 x hx)
 have S1:∀x∈u.aA,x.length≤8∧∀y∈x,0≤y∧y≤9223372036854775807:=by
  intro x hx;have:=S x hx
  simp only [dj,Bool.and_eq_true,mD] at this;exact ⟨by omega,lL this.2 (by omega)⟩
 refine ⟨?_,?_,?_,?_,?_,fun x hx=>(S1 x hx).2,fun x hx=>(F x hx).1,fun x hx=>(I x hx).1,fun x hx=>(E x hx).1⟩
 · have:=br (f:=bE) (B:=99) (N:=20) (xs:=u.aA) (fun x hx=>bg (S1 x hx).1) (by omega)
   unfold fH;omega
 · have:=br (f:=A') (B:=11) (N:=50) (xs:=u.aD) (fun x hx=>bO _) (by omega)
   unfold fL;omega
 · have:=br (N:=30) (fun x hx=>(F x hx).2) (by omega)
   unfold fN;omega
 · have:=br (N:=20) (fun x hx=>(I x hx).2) (by omega)
   unfold fO;omega
 · have:=br (N:=20) (fun x hx=>(E x hx).2) (by omega)
   unfold fZ;omega
end Go.Proofs.YtkgncijcnlfhiaaGreat
