import Derived.ArgAppend
import Derived.Deep.Onto
import Derived.Test.YtkgncijcnlfhiabGreatT1
import Derived.Test.YtkgncijcnlfhiabGreatV4
namespace Go.Proofs.YtkgncijcnlfhiabGreat
set_option maxHeartbeats 2000000
set_option linter.unusedVariables false
set_option linter.unusedSimpArgs false
open Go.RowKit
section
variable {ops:Array Oper} {rest:List Oper} {o:Oper} {a:Act} {Q:Exit->Act->World->Prop}
theorem j8(w:World)(Z':o.guard=none)(s x:Operand)(ho:o.op=.call { callee:=.builtin .append,args:=#[s,x],argTypes:=#[88,88] })
 (base:Nat) (v:Value) (l:List UInt8) (hs:a.eval s=v) (C1:w.ownsRow base 5 1 v l.length (bc l)) (F8 g cap:Nat) (m:List UInt8)
 (hx:a.eval x=.slice (some ⟨g,0,none⟩) m.length cap) (hm:w.ownsRow F8 5 1 (.slice (some ⟨g,0,none⟩) m.length cap) m.length (bc m)) (hlen:(l++m).length<=100000000) (C_:base<=w.heap.size)
 (h:∀v' w',dt base w v w' v' (l++m)->wpList Tryz.prog ops Q rest (a.put o.dst v') w'):
 wpList Tryz.prog ops Q (o :: rest) a w:=by
 obtain ⟨i0,hi,O6,N5,D5⟩:=info_parts Tryz.info5;rw [List.length_append] at hlen;refine wpList_append_own_at _ Z' s x 88 ho base 5 i0 (.int .u8 0) 1 1 Tryz.underlying88 hi O6 N5 D5 rfl Q9 v l.length (bc l) hs C1 ⟨g,0,none⟩ m.length cap (bc m) hx (by rw [nS,Nat.mul_one]) (hm.cells (g:=g) rfl) (AN m) (by unfold maxLen;omega) Q5 C_ ?_;intro v' w' h1 h2 _ h4;refine h v' w' ⟨?_,h2,fun k hk=>?_⟩
 · rw [xk,List.length_append];exact h1
 · rcases h4 with e|e
   · exact .inl (e▸hk)
   · rw [hk] at e;simp at e;right;omega
end
def wZ(base:Nat)(w:World)(v:Value)(l:List UInt8):Prop:=
 w.ownsRow base 5 1 v l.length (bc l)\/∃b,base<=b/\b < w.heap.size/\v=.slice (some ⟨b,0,none⟩) l.length l.length/\∀j u,(bc l)[j]? =some u->w.cell? ((⟨b,0,none⟩:Addr).add j)=some u
theorem wZ.lt{base:Nat}{w:World}{v:Value}{l:List UInt8}(h:wZ base w v l):∀k,v.ownBlock=some k->base<=k/\k < w.heap.size:=by
 rcases h with h|⟨b,h1,h2,rfl,_⟩
 · exact h.lt
 · intro k hk;simp [Value.ownBlock] at hk;subst hk;exact ⟨h1,h2⟩
structure vE(W w:World)(v:Value)(l:List UInt8):Prop where
 low:Below W.heap.size W w
 own:wZ W.heap.size w v l
theorem Wr.to0{W w:World}{v:Value}{l:List UInt8}(h:Wr W w v l):vE W w v l:=⟨h.low,.inl h.own⟩
theorem vE.base{W w:World}{v:Value}{l:List UInt8}(h:vE W w v l):W.heap.size<=w.heap.size:=h.low.size
theorem vE.app{W w w':World}{v v':Value}{l l':List UInt8}(h:vE W w v l)(k:dt W.heap.size w v w' v' l'):Wr W w' v' l':=
 ⟨h.low.trans ((Below.refl _ _).grown k.frm h.base fun i hi=>(h.own.lt i hi).1),k.own⟩
theorem vE.gr{W w w':World}{v:Value}{l:List UInt8}(h:vE W w v l)(g:Gr w w'):vE W w' v l:=by
 refine ⟨h.low.grown g h.base Q6,?_⟩;rcases h.own with ho|⟨b,h1,h2,rfl,h3⟩
 · exact .inl (ho.kept g (by cases v.ownBlock<;>simp))
 · exact .inr ⟨b,h1,Nat.lt_of_lt_of_le h2 g.size,rfl,fun j u hu=>g.cell (h3 j u hu) Q6⟩
theorem vE.apart{W w:World}{v:Value}{l:List UInt8}(h:vE W w v l){g:Nat}(hg:w.heap.size<=g):v.ownBlock≠some g:=fun e=>by have:=(h.own.lt g e).2;omega
section
variable {ops:Array Oper} {rest:List Oper} {o:Oper} {a:Act} {Q:Exit->Act->World->Prop}
theorem j9(w:World)(Z':o.guard=none)(s x:Operand)(ho:o.op=.call { callee:=.builtin .append,args:=#[s,x],argTypes:=#[88,88] })
 (base:Nat) (v:Value) (l:List UInt8) (hs:a.eval s=v) (C1:wZ base w v l) (y:UInt8) (val:Int) (hy:val=y.toNat)
 (H:Nat) (hx:a.eval x=.slice (some ⟨H,0,none⟩) 1 1) (hH:w.heap.size=H) (hlen:l.length<=100000000) (C_:base<=w.heap.size)
 (h:∀v' w',dt base w v w' v' (l++ [y])->wpList Tryz.prog ops Q rest (a.put o.dst v') w'):
 wpList Tryz.prog ops Q (o :: rest) a (w.alloc (.cells #[.int .u8 val] 5)):=by
 rcases C1 with C1|⟨b,h1,h2,rfl,h3⟩
 · exact bQ w Z' s x ho base v l hs C1 y val hy H hx hH hlen C_ h
 · subst hy;subst hH;obtain ⟨i0,hi,O6,N5,D5⟩:=info_parts Tryz.info5;refine wpList_append_grows _ Z' s x 88 ho 5 i0 (.int .u8 0) 1 1 Tryz.underlying88 hi O6 N5 D5 rfl Q9 (some ⟨b,0,none⟩) l.length l.length (bc l) hs Q6 (by rw [nS,Nat.mul_one]) (fun b' Er j u hu=>by simp only [Option.some.injEq] at Er;subst Er;exact (World.grownBy_alloc w _ none).cell (h3 j u hu) Q6) ⟨w.heap.size,0,none⟩ 1 1 [.int .u8 y.toNat] hx rfl (cell_one_new _ _ _) (by intro u hu;simp at hu;subst hu;rfl) Q5 (by unfold maxLen;omega) Q5 ?_;intro v' w' h4 h5;refine h v' w' ⟨?_,?_,fun k hk=>?_⟩
   · have h6:=h4.mono (base':=base) gS;simpa [bc] using h6
   · have h7:=(World.grownBy_alloc w (.cells #[.int .u8 y.toNat] 5) none).trans h5;exact ⟨h7.os,h7.tape,h7.output,h7.size,fun k hk _=>h7.block k hk Q6⟩
   · have:=(h4.lt k hk).1
     simp at this;right;omega
end
theorem q_(w:World)(base g cap:Nat)(m:List UInt8)(hm:w.ownsRow base 5 1 (.slice (some ⟨g,0,none⟩) m.length cap) m.length (bc m)):
 (convert 88 9 (.slice (some ⟨g,0,none⟩) m.length cap)).run Tryz.prog w=.ok (.string ⟨m.toArray⟩) w:=by
 rw [run_convert_bytes_string w 88 9 5 _ _ _ Tryz.underlying88 Tryz.underlying5 Tryz.underlying9];have hl:=run_loadCells_list (P:=Tryz.prog) (w:=w) ⟨g,0,none⟩ (bc m) (hm.cells (g:=g) rfl);rw [nS] at hl;have e:bc m=(m.map (fun b=>(b.toNat:Int))).map (Value.int .u8):=by simp [bc]
 rw [e] at hl;rw [run_bytesToString w _ _ _ _ hl,foldl_push_byteCells];simp
def nU(c k:Nat):List UInt8:=(List.range k).map fun j=>UInt8.ofNat (c / 256 ^ j % 256)
theorem yB(c k:Nat):nU c (k+1)=nU c k++ [UInt8.ofNat (c / 256 ^ k % 256)]:=by simp [nU,List.range_succ]
theorem pV(c k:Nat):(nU c k).length=k:=by simp [nU]
def cZ(n:Nat)(b:List UInt8):List UInt8:= [UInt8.ofNat n]++num b.length++b++nU (mL b) 4
theorem wD{n:Nat}(h:n<=5):(n:Int)=(UInt8.ofNat n).toNat:=by simp [UInt8.toNat_ofNat'];omega
theorem xX(q:Nat):(q:Int) % 256=(UInt8.ofNat (q % 256)).toNat:=by simp [UInt8.toNat_ofNat']
theorem dt.keeps{base:Nat}{w w':World}{v v':Value}{l':List UInt8}(k:dt base w v w' v' l'){b2 g c n:Nat}{xs:List Value}(h:w.ownsRow b2 5 1 (.slice (some ⟨g,0,none⟩) n c) n xs)(hne:v.ownBlock≠some g):w'.ownsRow b2 5 1 (.slice (some ⟨g,0,none⟩) n c) n xs:=
 h.kept k.frm (.inr (by simp [Value.ownBlock];exact fun e=>hne e.symm))
theorem oB{w:World}{base:Nat}{e:TypeId}{v:Value}{n:Nat}{xs:List Value}(h:w.ownsRow base e 1 v n xs):∃ao co,v=.slice ao n co:=by
 rcases h.2 with ⟨h1,h2⟩|⟨g2,c2,_,h1,_⟩
 · exact ⟨none,0,by rw [h1,h2]⟩
 · exact ⟨_,c2,h1⟩
set_option maxRecDepth 100000 in
theorem nh(W:World)(v:Value)(l:List UInt8)(n:Nat)(g cap F8:Nat)(m:List UInt8)(w:World)(hn:n<=5)(hw:vE W w v l)
 (hm:w.ownsRow F8 5 1 (.slice (some ⟨g,0,none⟩) m.length cap) m.length (bc m)) (hne:v.ownBlock≠some g) (hlen:l.length+m.length<=5000000):
 Calls Tryz.prog 34 #[v,.int .u8 n,.slice (some ⟨g,0,none⟩) m.length cap] w fun x w'=>
  ((l++cZ n m).length<=20000/\∃v',x=.returned v'/\dt W.heap.size w v w' v' (l++cZ n m))\/
  (¬(l++cZ n m).length<=20000/\x=.panicked (dM 3 0)/\Below W.heap.size W w'):=by
 have hl11:=bK m.length;have hc:=xy m;have Gd:g < w.heap.size:=(hm.lt g rfl).2;have HG:=aH hne;have HM:=aH hm;clear hne hm;go_enter Tryz.func34,Tryz.ntmps34
 go_wp2_with (first
  |(at_builtin;refine j9 _ rfl (.tmp 8) (.tmp 10) rfl W.heap.size v l rfl hw.own (UInt8.ofNat n) _ (by exact wD hn) _ rfl Q6 Q5 hw.base ?_;intro v1 w1 G1;have D2:=hw.app G1)
  |(go_at_call 62;refine (eC W.heap.size _ (l++ [UInt8.ofNat n]) m.length _ Q5 (by exact D2.own) gS (by exact D2.base)).mono ?_;rintro e w2 ⟨v2,rfl,N1⟩;have D3:=D2.app N1;have D6:=G1.trans N1;have O4:=aH (D6.keeps HM.out HG.out))
  |(at_builtin;refine j8 _ rfl (.tmp 17) (.tmp 18) rfl W.heap.size v2 (l++ [UInt8.ofNat n]++num m.length) rfl D3.own F8 g cap m rfl O4.out gS D3.base ?_;intro v3 w3 D8;have V5:=D3.app D8;have I':=D6.trans D8;have Tv:=q_ w3 F8 g cap m (I'.keeps HM.out HG.out))
  |(go_at_call 63;refine (ny _ _ (by unfold maxLen;simp [ByteArray.size];omega)).mono ?_;rintro e w4 ⟨rfl,e4⟩;subst e4))
 have HS:Hid (l++cZ n m=l++ [UInt8.ofNat n]++num m.length++m++nU (mL m) 4):=aH (by simp [cZ]);have Xy:(l++ [UInt8.ofNat n]++num m.length++m).length<=5000020:=by simp only [List.length_append,List.length_cons,List.length_nil];omega
 generalize l++ [UInt8.ofNat n]++num m.length++m=l3 at HS I' V5 Xy;have H13:=aH I';clear G1 N1 D6 I' D8 D2 D3 O4 Tv V5;go_loopw [0,7,23] (fun vo c i wr=>∃k:Nat,k<=4/\i=.int .i64 k/\c=.int .u32 ((mL m / 256 ^ k:Nat):Int)/\dt W.heap.size w v wr vo (l3++nU (mL m) k)) (fun _ _ i _=>4 - (intOf i).toNat)
 case atStart=>exact ⟨0,Nat.zero_le _,rfl,Q6,by simp [nU];exact H13.out⟩
 case round=>
  obtain ⟨k,hk,rfl,rfl,V0⟩:=hrel;have S3:=hw.app V0;have H2:=aH V0;clear V0;by_cases J0:k < 4
  · have HD:Hid (mL m / 256 ^ (k+1)=mL m / 256 ^ k / 256):=aH (by rw [Nat.pow_succ,Nat.div_div_eq_div_mul]);have HK:=aH (yB (mL m) k);have hq:mL m / 256 ^ k < 4294967296:=Nat.lt_of_le_of_lt (Nat.div_le_self _ _) hc;have Oc:(l3++nU (mL m) k).length<=100000000:=by rw [List.length_append,pV];omega
    generalize mL m / 256 ^ k=q at HD HK hq;go_wp2_with (at_builtin;refine bQ _ rfl (.tmp 25) (.tmp 28) rfl W.heap.size _ (l3++nU (mL m) k) rfl S3.own (UInt8.ofNat (q % 256)) _ (by exact xX q) _ rfl Q6 Oc S3.base ?_;intro v5 w5 Vv)
    have H5:=aH Vv;clear Vv;go_roundw
    case rel=>exact ⟨k+1,Q5,by go_num,by rw [HD.out];go_num,by rw [HK.out,<-List.append_assoc];exact H2.out.trans H5.out⟩
    case measure=>simp [intOf];omega
  · have MQ:k=4:=by omega
    subst MQ;have F':=HS.out;rw [<-F'] at H2 S3;obtain ⟨ao,co,hv0⟩:=oB S3.own;subst hv0;have Dd:=aH S3.low;clear S3 F';by_cases hN:(l++cZ n m).length<=20000
    · have ZX:=aH hN;have hd:(((l++cZ n m).length:Nat):Int)<=20000:=by omega
      clear hN;generalize (l++cZ n m).length=N at hd |- H2;go_wp2_with (go_at_call 64;refine (aP _ _ _).mono ?_;rintro e w' ⟨rfl,D0⟩)
      go_ret
      refine .inl ⟨ZX.out,_,rfl,?_⟩;exact H2.out.thenGr D0
    · have ZX:=aH hN;have hd:¬(((l++cZ n m).length:Nat):Int)<=20000:=by omega
      clear hN;generalize (l++cZ n m).length=N at hd |- H2;go_wp2_with (go_at_call 64;refine (aV _ _ _).mono ?_;rintro e w' ⟨rfl,D0⟩)
      exact ⟨rfl,.inr ⟨ZX.out,rfl,Dd.out.grown D0 Dd.out.size Q6⟩⟩
open Go.RowKit
def lM(f:aO):Prop:=(∀x∈f.aF,0<=x/\x<=9223372036854775807)/\(0<=f.result/\f.result<=9223372036854775807)/\(∀x∈f.aG,0<=x/\x<=9223372036854775807)/\∀i∈f.code,a_ i=true
def mS(f:fK):Prop:=f.name.length<=1000000/\(∀x∈f.aF,0<=x/\x<=9223372036854775807)/\(0<=f.result/\f.result<=9223372036854775807)
def nB(f:dq):Prop:=f.name.length<=1000000/\(0<=f.func/\f.func<=9223372036854775807)
theorem yZ(W:World)(v:Value)(l:List UInt8)(xs:List aw)(vx:Value)(w:World)(hR:eH W vx xs)(G6:∀x∈xs,a_ x=true)(hw:Wr W w v l)(hlen:(l++df bl xs).length<=10000000):
 Calls Tryz.prog 66 #[v,vx,.func (.func 67) #[] #[]] w fun x w'=>∃v',x=.returned v'/\dt W.heap.size w v w' v' (l++df bl xs):=by
 obtain ⟨ao,cap,rfl,hm,hc⟩:=hR;unfold maxLen at hm;have HC:=aH hc;clear hc;have Ib:l.length<=10000000:=by simp only [List.length_append] at hlen;omega
 have N6:=aH hlen;clear hlen;go_enter Tryz.func66,Tryz.ntmps66
 go_wp2_with (go_at_call 65;refine (cG W _ l xs.length _ Q5 Q5 (by exact hw) Ib).mono ?_;rintro e w1 ⟨v1,rfl,V0⟩;rw [Int.toNat_natCast] at V0;have D2:=hw.app V0)
 have H1:=aH V0;clear V0;go_loopw [0,15] (fun vo i wr=>∃k:Nat,k<=xs.length/\i=.int .i64 k/\dt W.heap.size w v wr vo (l++fN bl xs k)) (fun _ i _=>xs.length - (intOf i).toNat)
 case atStart=>exact ⟨0,Nat.zero_le _,rfl,by rw [eW];exact H1.out⟩
 case round=>
  obtain ⟨k,hk,rfl,V0⟩:=hrel;have S3:=hw.app V0;have H2:=aH V0;clear V0 D2;by_cases J0:k < xs.length
  · obtain ⟨x,hx⟩:=aX J0;obtain ⟨b,off,K_,L8,J5,S5⟩:=HC.out k x hx;subst K_;have Xf:=ak S3.low L8;have Vh:=ak S3.low J5;have Nn:=ak S3.low S5;have Fl:=aH (G6 x (List.mem_of_getElem? hx));clear L8 J5 S5;have HX:=aH hx;clear hx;go_wp2_with (go_at_call 67;refine (vJ W _ _ x _ Fl.out (by exact S3.gr (World.grownBy_alloc _ _ none)) (ij HX.out N6.out)).mono ?_;rintro e w2 ⟨v2,rfl,N1⟩)
    have H3:=aH N1;clear N1;go_roundw
    case rel=>exact ⟨k+1,Q5,by go_num,by rw [du HX.out,<-List.append_assoc];exact H2.out.trans (dt.gr (World.grownBy_alloc _ _ none) H3.out)⟩
    case measure=>simp [intOf];omega
  · go_wp2
    go_ret
    refine ⟨_,rfl,?_⟩;rw [g9 J0];exact H2.out
theorem r_(w:World)(v0 v1 v2 v3:Value):(w.alloc (.cells #[v0,v1,v2,v3] 47)).cell? ⟨w.heap.size,0,none⟩=some v0/\(w.alloc (.cells #[v0,v1,v2,v3] 47)).cell? ⟨w.heap.size,1,none⟩=some v1/\(w.alloc (.cells #[v0,v1,v2,v3] 47)).cell? ⟨w.heap.size,2,none⟩=some v2/\(w.alloc (.cells #[v0,v1,v2,v3] 47)).cell? ⟨w.heap.size,3,none⟩=some v3:=by
 refine ⟨?_,?_,?_,?_⟩<;>simp [go_sem]
theorem uP(w:World)(v0 v1 v2:Value):(w.alloc (.cells #[v0,v1,v2] 71)).cell? ⟨w.heap.size,0,none⟩=some v0/\(w.alloc (.cells #[v0,v1,v2] 71)).cell? ⟨w.heap.size,1,none⟩=some v1/\(w.alloc (.cells #[v0,v1,v2] 71)).cell? ⟨w.heap.size,2,none⟩=some v2:=by
 refine ⟨?_,?_,?_⟩<;>simp [go_sem]
theorem ul(w:World)(v0 v1:Value):(w.alloc (.cells #[v0,v1] 60)).cell? ⟨w.heap.size,0,none⟩=some v0/\(w.alloc (.cells #[v0,v1] 60)).cell? ⟨w.heap.size,1,none⟩=some v1:=by
 refine ⟨?_,?_⟩<;>simp [go_sem]
theorem rj(W:World)(v:Value)(l:List UInt8)(x:aO)(vp vl vc:Value)(w:World)(hp:aW W vp x.aF)(hl:aW W vl x.aG)(hc:eH W vc x.code)(G3:lM x)(hw:Wr W w v l)(hlen:(l++b8 x).length<=10000000):
 Calls Tryz.prog 40 #[v,.agg #[vp,.int .i64 x.result,vl,vc]] w fun y w'=>∃v',y=.returned v'/\dt W.heap.size w v w' v' (l++b8 x):=by
 obtain ⟨ap,cp,rfl⟩:=hp.shape;obtain ⟨al,cl,rfl⟩:=hl.shape;obtain ⟨ac,cc,rfl⟩:=hc.shape;obtain ⟨f1,f2,f3,f4⟩:=G3;obtain ⟨Kj,Fe,P8,OO⟩:=r_ w (.slice ap x.aF.length cp) (.int .i64 x.result) (.slice al x.aG.length cl) (.slice ac x.code.length cc);have M1:=hw.gr (World.grownBy_alloc w (.cells #[.slice ap x.aF.length cp,.int .i64 x.result,.slice al x.aG.length cl,.slice ac x.code.length cc] 47) none);have HV:=aH (fun i hi=>(hw.own.lt i hi).2:∀i,v.ownBlock=some i->i < w.heap.size);have HP:=aH hp;have HL:=aH hl;have HC:=aH hc;have F1:=aH f1;have F3:=aH f3;have F4:=aH f4;have L1:Hid ((l++bG x.aF).length<=10000000):=aH (by unfold b8 at hlen;simp only [List.length_append] at hlen |-;omega);have L2:Hid ((l++bG x.aF++bG x.aG).length<=10000000):=aH (by unfold b8 at hlen;simp only [List.length_append] at hlen |-;omega);have L3:Hid ((l++bG x.aF++bG x.aG++num x.result.toNat++df bl x.code).length<=10000000):=aH (by unfold b8 at hlen;simp only [List.length_append] at hlen |-;omega);have HE:Hid (l++b8 x=l++bG x.aF++bG x.aG++num x.result.toNat++df bl x.code):=aH (by unfold b8;simp only [List.append_assoc]);clear hp hl hc f1 f3 f4 hlen;go_enter Tryz.func40,Tryz.ntmps40
 go_wp2_with fail
 refine (iO W _ l x.aF _ _ HP.out F1.out (by exact M1) L1.out).mono ?_;rintro e w1 ⟨v1,rfl,G1⟩;have D2:=M1.app G1;have Fc:=G1.box P8 HV.out;go_wp2_with fail
 refine (iO W _ _ x.aG _ _ HL.out F3.out (by exact D2) L2.out).mono ?_;rintro e w2 ⟨v2,rfl,N1⟩;have D3:=D2.app N1;have D6:=G1.trans N1;have Lb:=D6.box Fe HV.out;go_wp2_with fail
 refine (cG W _ _ x.result _ f2.1 f2.2 (by exact D3) L2.out).mono ?_;rintro e w3 ⟨v3,rfl,D8⟩;have V5:=D3.app D8;have I':=D6.trans D8;have hj3:=I'.box OO HV.out;go_wp2_with fail
 refine (yZ W _ _ x.code _ _ HC.out F4.out (by exact V5) L3.out).mono ?_;rintro e w4 ⟨v4,rfl,NH⟩;go_wp2
 go_ret
 refine ⟨v4,rfl,?_⟩;rw [HE.out];exact dt.gr (World.grownBy_alloc w _ none) (I'.trans NH)
theorem vd(W:World)(v:Value)(l:List UInt8)(x:fK)(vs vp:Value)(w:World)(hs:ei vs x.name)(hp:aW W vp x.aF)(G3:mS x)(hw:Wr W w v l)(hlen:(l++dW x).length<=10000000):
 Calls Tryz.prog 42 #[v,.agg #[vs,vp,.int .i64 x.result]] w fun y w'=>∃v',y=.returned v'/\dt W.heap.size w v w' v' (l++dW x):=by
 obtain ⟨ap,cp,rfl⟩:=hp.shape;obtain ⟨s,rfl,hsl,Ra⟩:=hs;have R0:s.size=x.name.length:=by rw [<-hsl,Array.length_toList];rfl
 obtain ⟨f1,f2,f3⟩:=G3;obtain ⟨Kj,Fe,P8⟩:=uP w (.string s) (.slice ap x.aF.length cp) (.int .i64 x.result);have M1:=hw.gr (World.grownBy_alloc w (.cells #[.string s,.slice ap x.aF.length cp,.int .i64 x.result] 71) none);have HV:=aH (fun i hi=>(hw.own.lt i hi).2:∀i,v.ownBlock=some i->i < w.heap.size);have HP:=aH hp;have F2:=aH f2;have ET:Hid (num s.size++s.data.toList=b_ x.name):=aH (by unfold b_;rw [hsl,R0]);have L1:Hid (l.length<=10000000):=aH (by simp only [List.length_append] at hlen;omega);have L0:Hid (s.size<=1000000):=aH Q5;have L2:Hid ((l++b_ x.name++bG x.aF).length<=10000000):=aH (by unfold dW at hlen;simp only [List.length_append] at hlen |-;omega);have HE:Hid (l++dW x=l++b_ x.name++bG x.aF++num x.result.toNat):=aH (by unfold dW;simp only [List.append_assoc]);clear hp f2 hlen R0 hsl Ra f1;go_enter Tryz.func42,Tryz.ntmps42
 go_wp2_with fail
 refine (rN W _ l s _ L0.out (by exact M1) L1.out).mono ?_;rintro e w1 ⟨v1,rfl,G1⟩;rw [ET.out] at G1;have D2:=M1.app G1;have Lb:=G1.box Fe HV.out;go_wp2_with fail
 refine (iO W _ _ x.aF _ _ HP.out F2.out (by exact D2) L2.out).mono ?_;rintro e w2 ⟨v2,rfl,N1⟩;have D3:=D2.app N1;have D6:=G1.trans N1;have Fc:=D6.box P8 HV.out;go_wp2_with fail
 refine (cG W _ _ x.result _ f3.1 f3.2 (by exact D3) L2.out).mono ?_;rintro e w3 ⟨v3,rfl,D8⟩;go_wp2
 go_ret
 refine ⟨v3,rfl,?_⟩;rw [HE.out];exact dt.gr (World.grownBy_alloc w _ none) (D6.trans D8)
theorem uJ(W:World)(v:Value)(l:List UInt8)(x:dq)(vs:Value)(w:World)(hs:ei vs x.name)(G3:nB x)(hw:Wr W w v l)(hlen:(l++db x).length<=10000000):
 Calls Tryz.prog 44 #[v,.agg #[vs,.int .i64 x.func]] w fun y w'=>∃v',y=.returned v'/\dt W.heap.size w v w' v' (l++db x):=by
 obtain ⟨s,rfl,hsl,Ra⟩:=hs;have R0:s.size=x.name.length:=by rw [<-hsl,Array.length_toList];rfl
 obtain ⟨f1,f3⟩:=G3;obtain ⟨Kj,Fe⟩:=ul w (.string s) (.int .i64 x.func);have M1:=hw.gr (World.grownBy_alloc w (.cells #[.string s,.int .i64 x.func] 60) none);have HV:=aH (fun i hi=>(hw.own.lt i hi).2:∀i,v.ownBlock=some i->i < w.heap.size);have ET:Hid (num s.size++s.data.toList=b_ x.name):=aH (by unfold b_;rw [hsl,R0]);have L1:Hid (l.length<=10000000):=aH (by simp only [List.length_append] at hlen;omega);have L0:Hid (s.size<=1000000):=aH Q5;have L2:Hid ((l++b_ x.name).length<=10000000):=aH (by unfold db at hlen;simp only [List.length_append] at hlen |-;omega);have HE:Hid (l++db x=l++b_ x.name++num x.func.toNat):=aH (by unfold db;simp only [List.append_assoc]);clear hlen R0 hsl Ra f1;go_enter Tryz.func44,Tryz.ntmps44
 go_wp2_with fail
 refine (rN W _ l s _ L0.out (by exact M1) L1.out).mono ?_;rintro e w1 ⟨v1,rfl,G1⟩;rw [ET.out] at G1;have D2:=M1.app G1;have Lb:=G1.box Fe HV.out;go_wp2_with fail
 refine (cG W _ _ x.func _ f3.1 f3.2 (by exact D2) L2.out).mono ?_;rintro e w3 ⟨v3,rfl,D8⟩;go_wp2
 go_ret
 refine ⟨v3,rfl,?_⟩;rw [HE.out];exact dt.gr (World.grownBy_alloc w _ none) (G1.trans D8)
open Go.RowKit
theorem up(W:World)(v:Value)(l:List UInt8)(xs:List aO)(vx:Value)(w:World)(hR:dH W vx xs)(G6:∀x∈xs,lM x)(hw:Wr W w v l)(hlen:(l++df b8 xs).length<=10000000):
 Calls Tryz.prog 39 #[v,vx,.func (.func 40) #[] #[]] w fun x w'=>∃v',x=.returned v'/\dt W.heap.size w v w' v' (l++df b8 xs):=by
 obtain ⟨ao,cap,rfl,hm,hc⟩:=hR;unfold maxLen at hm;have HC:=aH hc;clear hc;have Ib:l.length<=10000000:=by simp only [List.length_append] at hlen;omega
 have N6:=aH hlen;clear hlen;go_enter Tryz.func39,Tryz.ntmps39
 go_wp2_with (go_at_call 65;refine (cG W _ l xs.length _ Q5 Q5 (by exact hw) Ib).mono ?_;rintro e w1 ⟨v1,rfl,V0⟩;rw [Int.toNat_natCast] at V0;have D2:=hw.app V0)
 have H1:=aH V0;clear V0;go_loopw [0,15] (fun vo i wr=>∃k:Nat,k<=xs.length/\i=.int .i64 k/\dt W.heap.size w v wr vo (l++fN b8 xs k)) (fun _ i _=>xs.length - (intOf i).toNat)
 case atStart=>exact ⟨0,Nat.zero_le _,rfl,by rw [eW];exact H1.out⟩
 case round=>
  obtain ⟨k,hk,rfl,V0⟩:=hrel;have S3:=hw.app V0;have H2:=aH V0;clear V0 D2;by_cases J0:k < xs.length
  · obtain ⟨x,hx⟩:=aX J0;obtain ⟨b,off,vp,vl,vc,K_,L8,J5,S5,Pd,M',Em,Rn⟩:=HC.out k x hx;subst K_;have Xf:=ak S3.low L8;have Vh:=ak S3.low J5;have Nn:=ak S3.low S5;have MT:=ak S3.low Pd;have Fl:=aH (G6 x (List.mem_of_getElem? hx));have HP:=aH M';have HL:=aH Em;have IC:=aH Rn;obtain ⟨ap,cp,rfl⟩:=M'.shape;obtain ⟨al,cl,rfl⟩:=Em.shape;obtain ⟨ac,cc,rfl⟩:=Rn.shape;clear L8 J5 S5 Pd M' Em Rn;have HX:=aH hx;clear hx;go_wp2_with (go_at_call 40;refine (rj W _ _ x _ _ _ _ HP.out HL.out IC.out Fl.out (by exact S3.gr (World.grownBy_alloc _ _ none)) (ij HX.out N6.out)).mono ?_;rintro e w2 ⟨v2,rfl,N1⟩)
    have H3:=aH N1;clear N1;go_roundw
    case rel=>exact ⟨k+1,Q5,by go_num,by rw [du HX.out,<-List.append_assoc];exact H2.out.trans (dt.gr (World.grownBy_alloc _ _ none) H3.out)⟩
    case measure=>simp [intOf];omega
  · go_wp2
    go_ret
    refine ⟨_,rfl,?_⟩;rw [g9 J0];exact H2.out
theorem xH(W:World)(v:Value)(l:List UInt8)(xs:List fK)(vx:Value)(w:World)(hR:bo W vx xs)(G6:∀x∈xs,mS x)(hw:Wr W w v l)(hlen:(l++df dW xs).length<=10000000):
 Calls Tryz.prog 41 #[v,vx,.func (.func 42) #[] #[]] w fun x w'=>∃v',x=.returned v'/\dt W.heap.size w v w' v' (l++df dW xs):=by
 obtain ⟨ao,cap,rfl,hm,hc⟩:=hR;unfold maxLen at hm;have HC:=aH hc;clear hc;have Ib:l.length<=10000000:=by simp only [List.length_append] at hlen;omega
 have N6:=aH hlen;clear hlen;go_enter Tryz.func41,Tryz.ntmps41
 go_wp2_with (go_at_call 65;refine (cG W _ l xs.length _ Q5 Q5 (by exact hw) Ib).mono ?_;rintro e w1 ⟨v1,rfl,V0⟩;rw [Int.toNat_natCast] at V0;have D2:=hw.app V0)
 have H1:=aH V0;clear V0;go_loopw [0,15] (fun vo i wr=>∃k:Nat,k<=xs.length/\i=.int .i64 k/\dt W.heap.size w v wr vo (l++fN dW xs k)) (fun _ i _=>xs.length - (intOf i).toNat)
 case atStart=>exact ⟨0,Nat.zero_le _,rfl,by rw [eW];exact H1.out⟩
 case round=>
  obtain ⟨k,hk,rfl,V0⟩:=hrel;have S3:=hw.app V0;have H2:=aH V0;clear V0 D2;by_cases J0:k < xs.length
  · obtain ⟨x,hx⟩:=aX J0;obtain ⟨b,off,vs,vp,K_,L8,J5,S5,Ck,M'⟩:=HC.out k x hx;subst K_;have Xf:=ak S3.low L8;have Vh:=ak S3.low J5;have Nn:=ak S3.low S5;have Fl:=aH (G6 x (List.mem_of_getElem? hx));have HP:=aH M';have HS:=aH Ck;obtain ⟨ap,cp,rfl⟩:=M'.shape;obtain ⟨s,rfl,hsl,Ra⟩:=Ck;clear L8 J5 S5 M' hsl Ra;have HX:=aH hx;clear hx;go_wp2_with (go_at_call 42;refine (vd W _ _ x _ _ _ HS.out HP.out Fl.out (by exact S3.gr (World.grownBy_alloc _ _ none)) (ij HX.out N6.out)).mono ?_;rintro e w2 ⟨v2,rfl,N1⟩)
    have H3:=aH N1;clear N1;go_roundw
    case rel=>exact ⟨k+1,Q5,by go_num,by rw [du HX.out,<-List.append_assoc];exact H2.out.trans (dt.gr (World.grownBy_alloc _ _ none) H3.out)⟩
    case measure=>simp [intOf];omega
  · go_wp2
    go_ret
    refine ⟨_,rfl,?_⟩;rw [g9 J0];exact H2.out
theorem xW(W:World)(v:Value)(l:List UInt8)(xs:List dq)(vx:Value)(w:World)(hR:dJ W vx xs)(G6:∀x∈xs,nB x)(hw:Wr W w v l)(hlen:(l++df db xs).length<=10000000):
 Calls Tryz.prog 43 #[v,vx,.func (.func 44) #[] #[]] w fun x w'=>∃v',x=.returned v'/\dt W.heap.size w v w' v' (l++df db xs):=by
 obtain ⟨ao,cap,rfl,hm,hc⟩:=hR;unfold maxLen at hm;have HC:=aH hc;clear hc;have Ib:l.length<=10000000:=by simp only [List.length_append] at hlen;omega
 have N6:=aH hlen;clear hlen;go_enter Tryz.func43,Tryz.ntmps43
 go_wp2_with (go_at_call 65;refine (cG W _ l xs.length _ Q5 Q5 (by exact hw) Ib).mono ?_;rintro e w1 ⟨v1,rfl,V0⟩;rw [Int.toNat_natCast] at V0;have D2:=hw.app V0)
 have H1:=aH V0;clear V0;go_loopw [0,15] (fun vo i wr=>∃k:Nat,k<=xs.length/\i=.int .i64 k/\dt W.heap.size w v wr vo (l++fN db xs k)) (fun _ i _=>xs.length - (intOf i).toNat)
 case atStart=>exact ⟨0,Nat.zero_le _,rfl,by rw [eW];exact H1.out⟩
 case round=>
  obtain ⟨k,hk,rfl,V0⟩:=hrel;have S3:=hw.app V0;have H2:=aH V0;clear V0 D2;by_cases J0:k < xs.length
  · obtain ⟨x,hx⟩:=aX J0;obtain ⟨b,off,vs,K_,L8,J5,Ck⟩:=HC.out k x hx;subst K_;have Xf:=ak S3.low L8;have Vh:=ak S3.low J5;have Fl:=aH (G6 x (List.mem_of_getElem? hx));have HS:=aH Ck;obtain ⟨s,rfl,hsl,Ra⟩:=Ck;clear L8 J5 hsl Ra;have HX:=aH hx;clear hx;go_wp2_with (go_at_call 44;refine (uJ W _ _ x _ _ HS.out Fl.out (by exact S3.gr (World.grownBy_alloc _ _ none)) (ij HX.out N6.out)).mono ?_;rintro e w2 ⟨v2,rfl,N1⟩)
    have H3:=aH N1;clear N1;go_roundw
    case rel=>exact ⟨k+1,Q5,by go_num,by rw [du HX.out,<-List.append_assoc];exact H2.out.trans (dt.gr (World.grownBy_alloc _ _ none) H3.out)⟩
    case measure=>simp [intOf];omega
  · go_wp2
    go_ret
    refine ⟨_,rfl,?_⟩;rw [g9 J0];exact H2.out
theorem sC(W:World)(v:Value)(l:List UInt8)(xs:List (List Int))(vx:Value)(w:World)(hR:bM W vx xs)(G6:∀x∈xs,∀y∈x,0<=y/\y<=9223372036854775807)(hw:Wr W w v l)(hlen:(l++df bG xs).length<=10000000):
 Calls Tryz.prog 35 #[v,vx,.func (.func 36) #[] #[]] w fun x w'=>∃v',x=.returned v'/\dt W.heap.size w v w' v' (l++df bG xs):=by
 obtain ⟨ao,cap,rfl,hm,hc⟩:=hR;unfold maxLen at hm;have HC:=aH hc;clear hc;have Ib:l.length<=10000000:=by simp only [List.length_append] at hlen;omega
 have N6:=aH hlen;clear hlen;go_enter Tryz.func35,Tryz.ntmps35
 go_wp2_with (go_at_call 65;refine (cG W _ l xs.length _ Q5 Q5 (by exact hw) Ib).mono ?_;rintro e w1 ⟨v1,rfl,V0⟩;rw [Int.toNat_natCast] at V0;have D2:=hw.app V0)
 have H1:=aH V0;clear V0;go_loopw [0,15] (fun vo i wr=>∃k:Nat,k<=xs.length/\i=.int .i64 k/\dt W.heap.size w v wr vo (l++fN bG xs k)) (fun _ i _=>xs.length - (intOf i).toNat)
 case atStart=>exact ⟨0,Nat.zero_le _,rfl,by rw [eW];exact H1.out⟩
 case round=>
  obtain ⟨k,hk,rfl,V0⟩:=hrel;have S3:=hw.app V0;have H2:=aH V0;clear V0 D2;by_cases J0:k < xs.length
  · obtain ⟨x,hx⟩:=aX J0;obtain ⟨b,off,vk,K_,L8,M'⟩:=HC.out k x hx;subst K_;have Xf:=ak S3.low L8;have Fl:=aH (G6 x (List.mem_of_getElem? hx));have HP:=aH M';clear L8 M';have HX:=aH hx;clear hx;go_wp2_with (go_at_call 36;refine (iO W _ _ x _ _ HP.out Fl.out (by exact S3) (ij HX.out N6.out)).mono ?_;rintro e w2 ⟨v2,rfl,N1⟩)
    have H3:=aH N1;clear N1;go_roundw
    case rel=>exact ⟨k+1,Q5,by go_num,by rw [du HX.out,<-List.append_assoc];exact H2.out.trans H3.out⟩
    case measure=>simp [intOf];omega
  · go_wp2
    go_ret
    refine ⟨_,rfl,?_⟩;rw [g9 J0];exact H2.out
def dg:List UInt8:= [75,73,76,78,1]
def f9(u:aK):List UInt8:=df bG u.aA
def f8(u:aK):List UInt8:=df dl u.aD
def f_(u:aK):List UInt8:=df b8 u.aE
def fx(u:aK):List UInt8:=df dW u.aB
def gK(u:aK):List UInt8:=df db u.aC
def na(u:aK):List UInt8:=dg++cZ 1 (f9 u)
def mf(u:aK):List UInt8:=na u++cZ 2 (f8 u)
def mG(u:aK):List UInt8:=mf u++cZ 3 (f_ u)
def jL(u:aK):List UInt8:=mG u++cZ 4 (fx u)
def enc(u:aK):List UInt8:=jL u++cZ 5 (gK u)
def mn(u:aK):Prop:=∀x∈u.aD,-9223372036854775808<=x/\x<=9223372036854775807
theorem pg{α:Type}{f:α->List UInt8}{B:Nat}:∀{xs:List α},(∀x∈xs,(f x).length<=B)->(xs.flatMap f).length<=xs.length * B
 | [],_=>by simp
 | x :: xs,h=>by
  have h1:=h x Q6;have h2:=pg (xs:=xs) fun y hy=>h y (by simp [hy])
  simp only [List.flatMap_cons,List.length_append,List.length_cons,Nat.add_mul];omega
theorem bu{α:Type}{f:α->List UInt8}{B N:Nat}{xs:List α}(h:∀x∈xs,(f x).length<=B)(hN:xs.length<=N):(df f xs).length<=11+N * B:=by
 have h1:=bK xs.length;have h2:=pg h;have h3:xs.length * B<=N * B:=Nat.mul_le_mul_right B hN;unfold df;rw [List.length_append];omega
theorem dh{α:Type}{f:α->List UInt8}{xs:List α}:1<=(df f xs).length:=by
 have:=(jS 10 xs.length).2
 unfold df num;rw [List.length_append];omega
theorem bg{l:List Int}{N:Nat}(h:l.length<=N):(bG l).length<=11+N * 11:=bu (fun x _=>bK _) h
theorem kf(i:aw):(bl i).length<=23:=by
 have h1:=bK (pf i.a);have h2:=bK i.a.toNat;have h3:=bK i.b.toNat;unfold bl;rw [List.length_cons];split
 · omega
 · rw [List.length_append];split<;>split<;>simp<;>omega
theorem nK{v l m:Int}:wB v l m=true↔l<=v/\v<=m:=by simp [wB]
theorem mI{n:Int}{l:List Int}(h:l.all (gD n)=true)(hn:n<=1000):∀x∈l,0<=x/\x<=9223372036854775807:=by
 intro x hx;have:=List.all_eq_true.1 h x hx
 simp only [gD,wB,decide_eq_true_eq] at this;omega
structure CE(u:aK):Prop where
 b1:(f9 u).length<=1000000
 b2:(f8 u).length<=1000000
 b3:(f_ u).length<=1000000
 b4:(fx u).length<=1000000
 b5:(gK u).length<=1000000
 f1:∀x∈u.aA,∀y∈x,0<=y/\y<=9223372036854775807
 f3:∀x∈u.aE,lM x
 f4:∀x∈u.aB,mS x
 f5:∀x∈u.aC,nB x
theorem rH{n:Int}{f:aO}(hn:n<=1000)(h:dD n f=true):lM f/\(b8 f).length<=5000:=by
 simp only [dD,fL,gG,Bool.and_eq_true] at h;obtain ⟨⟨h1,h2,h3⟩,h4,h5,h6,h7⟩:=h;simp only [nK,gD] at h1 h3 h4 h6;refine ⟨⟨mI h2 hn,⟨h3.1,Q5⟩,mI h5 hn,fun i hi=>List.all_eq_true.1 h7 i hi⟩,?_⟩;have a1:=bg (l:=f.aF) (N:=6) Q5;have a2:=bg (l:=f.aG) (N:=10) Q5;have a3:=bK f.result.toNat;have a4:=bu (f:=bl) (B:=23) (N:=200) (xs:=f.code) (fun x _=>kf x) Q5;unfold b8;simp only [List.length_append];omega
theorem sE{n:Int}{f:fK}(hn:n<=1000)(h:iM n f=true):mS f/\(dW f).length<=5000:=by
 simp only [iM,fL,ee,Bool.and_eq_true] at h;obtain ⟨h0,h1,h2,h3⟩:=h;simp only [nK,gD] at h0 h1 h3;refine ⟨⟨Q5,mI h2 hn,⟨h3.1,Q5⟩⟩,?_⟩;have a1:=bg (l:=f.aF) (N:=6) Q5;have a3:=bK f.result.toNat;have a4:=bK f.name.length;unfold dW b_;simp only [List.length_append];omega
theorem ro{n:Int}{f:dq}(hn:n<=1000)(h:hO n f=true):nB f/\(db f).length<=5000:=by
 simp only [hO,ee,Bool.and_eq_true] at h;obtain ⟨h0,h1⟩:=h;simp only [nK] at h0 h1;refine ⟨⟨Q5,⟨h1.1,Q5⟩⟩,?_⟩;have a3:=bK f.func.toNat;have a4:=bK f.name.length;unfold db b_;simp only [List.length_append];omega
theorem rY{u:aK}(h:ai u=true):CE u:=by
 simp only [ai,cL,cV,b9,bZ,bm,Bool.and_eq_true] at h;obtain ⟨⟨s1,s2⟩,c1,⟨f1,f2⟩,⟨i1,i2⟩,e1,e2⟩:=h;simp only [nK] at s1 c1 f1 i1 e1;have S:∀x∈u.aA,dY u.aA.length x=true:=fun x hx=>List.all_eq_true.1 s2 x hx
 have F:∀x∈u.aE,lM x/\(b8 x).length<=5000:=fun x hx=>rH Q5 (List.all_eq_true.1 f2 x hx)
 have I:∀x∈u.aB,mS x/\(dW x).length<=5000:=fun x hx=>sE Q5 (List.all_eq_true.1 i2 x hx)
 have E:∀x∈u.aC,nB x/\(db x).length<=5000:=fun x hx=>ro Q5 (List.all_eq_true.1 e2 x hx)
 have S1:∀x∈u.aA,x.length<=8/\∀y∈x,0<=y/\y<=9223372036854775807:=by
  intro x hx;have:=S x hx
  simp only [dY,Bool.and_eq_true,nK] at this;exact ⟨Q5,mI this.2 Q5⟩
 refine ⟨?_,?_,?_,?_,?_,fun x hx=>(S1 x hx).2,fun x hx=>(F x hx).1,fun x hx=>(I x hx).1,fun x hx=>(E x hx).1⟩
 · have:=bu (f:=bG) (B:=99) (N:=20) (xs:=u.aA) (fun x hx=>bg (S1 x hx).1) Q5
   unfold f9;omega
 · have:=bu (f:=dl) (B:=11) (N:=50) (xs:=u.aD) (fun x hx=>bK _) Q5
   unfold f8;omega
 · have:=bu (N:=30) (fun x hx=>(F x hx).2) Q5
   unfold f_;omega
 · have:=bu (N:=20) (fun x hx=>(I x hx).2) Q5
   unfold fx;omega
 · have:=bu (N:=20) (fun x hx=>(E x hx).2) Q5
   unfold gK;omega
end Go.Proofs.YtkgncijcnlfhiabGreat
