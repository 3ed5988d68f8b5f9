import Derived.Test.YtghjmnlapcpbiaaGreatDoorW4c
import Derived.Lib.BufferWrite
import Derived.Lib.UnsafeStr
import Derived.Lib.Strings
import Derived.Lib.Hide
namespace Go.Proofs.YtghjmnlapcpbiaaGreatDoor
open _root_ renaming Option.some->Y,Option.none->G,Go.Value.int->O,Go.IntKind.i64->Z,Go.Value.slice->J,List->I,Nat->R,Int->A,Go.World.cell?->H,List.length->D,Go.Obj.cells->X,Go.Value->M,Go.World->T,Go.Addr.mk->Q,Go.RowKit.Hid->U,UInt8->AI,Bool.false->AS,Bool.true->AT,Option->By
open Go.Proofs.Tryz
open Go.RowKit
set_option linter.defProp false
variable{a e:A}{l:I A}{r:I AI}{B B' c cb g k m n o q:R}{w w':T}
def dp:=@Below.heap_setCell
def iI:=@World.frozen?_setCell
def jZ:=@heap_alloc_new
def qN:=@Option.some.injEq.{0}
def so:=@World.cell?_of_block
def tO:=@World.cell?_setCell_same
def zc:=@World.frozen?_of_block
def ze:=@List.getElem?_append_left.{0}
def zG:=@decide_eq_false_iff_not
def Ag:=@List.getElem?_append_right.{0}
def Aq:=@Nat.zero_add
def AK:=@List.getElem?_eq_none.{0}
def Cn:=@World.cell?_setCell_other
def H9:=@Prod.mk.injEq.{0,0}
def Ij:=@Addr.mk.injEq
def Ir:=@List.append_nil.{0}
def IL:=@beq_eq_false_iff_ne.{0}
def J2:=@List.length_drop.{0}
def J6:=@List.take_length.{0}
def Kg:=@setRow_heap
def Kj:=@List.nil_append.{0}
def Kk:=@setRow_other
def KZ:=@Bool.eq_iff_iff
def Lf:=@Nat.sub_self
def Lt:=@info_parts
def Lv:=@size_madeCells
def Mn:=@Nat.min_eq_left
def Mp:=@Nat.pow_le_pow_right
def Mt:=@Below.refl
def Mz:=@ByteArray.data_extract
def MA:=@Nat.mul_comm
def M4:=@Nat.xor_lt_two_pow
def M6:=@Nat.eq_zero_or_pos
def Nf:=@Nat.one_mul
def Ng:=@run_make
set_option maxRecDepth 100000
set_option maxHeartbeats 2000000
set_option linter.unusedVariables false
set_option linter.unusedSimpArgs false
open Go.RowKit
attribute [local go_sem ↓] Go.wp_at_zero Go.wp_at_succ
def lR(w:T):Prop:=∀j:R,j<21->H w (Q 0 j G)=Y (O Z (ah j))
theorem lR.gr(h:lR w)(g:Gr w w'):lR w':=λj d=>g.cell (h j d) Q6
theorem OL{p:Prop}(h:p:=by
 unfold ah;split
 · exact .inr (.inr rfl)
 split
 · exact .inr (.inl rfl)
 exact .inl rfl):p:=h
theorem uc(op:A):ah op=0\/ah op=1\/ah op=2:=by
 exact OL
theorem Pd{p:Prop}(h:p:=by
 have HF:U (l.all (iH n)=AS):=aJ (bN UP (by simp[iH,wB];omega));go_wp2_with fail;go_ret
 exact⟨R',rfl⟩):p:=h
theorem oE(v:M)(l:I A)(n most:A)(w:T)(hR:aY w v l):
 Calls prog 97 #[v,O Z n,O Z most] w λx w'=>x=.returned (.bool (l.all (iH n)&&decide ((D l:A)<=most)))/\w'=w:=by
 have HR:=aJ hR;obtain⟨a1,c1,rfl,hm,_⟩:=hR;unfold maxLen at hm;go_enter func97,ntmps97
 go_wp2_with fail;go_loopw[7] (λi wr=>∃k:R,i=O Z k/\k<=D l/\(l.take k).all (iH n)=AT/\wr=w) λi _=>D l-(intOf i).toNat
 case atStart=>exact⟨0,rfl,Lz,Q6,rfl⟩
 obtain⟨k,rfl,hk,Tc,rfl⟩:=hrel;have HA:=aJ Tc;by_cases IN:k<D l
 · obtain⟨ai,ak,F,_,ae⟩:=HR.j;simp only[jj,Bt]at F;obtain⟨b1,o1,rfl,ad⟩:=ae k IN;obtain⟨rfl,rfl⟩:=F;have d:l[k]? =Y (l.getD k 0):=by simp[mh,IN]
   generalize l.getD k 0=x at ad d;have UP:=aJ d;by_cases h0:x<0
   · exact Pd
   by_cases h1:n<x
   · exact Pd
   have HT:U ((l.take _).all _=AT):=aJ (by rw[dV UP,HA];simp[iH,wB];omega);go_wp2_with fail;exact⟨⟨_,Q6,IN,HT,trivial⟩,Qh⟩
 have af:k=D l:=by omega
 subst af;have HE:=aJ (by have h:=HA.j;rwa [J6]at h);go_wp2_with fail;go_ret
 exact⟨by rw[HE];rfl,rfl⟩
theorem Nq{p:Prop}(h:p:=by
 clear HN hr UC;go_enter func139,ntmps139
 go_wp2_with fail
 all_goals go_ret
 all_goals refine⟨?_,(Gr.refl w).alloc _⟩
 all_goals show Ending.returned (Value.bool _)=Ending.returned (Value.bool _)
 all_goals refine congrArg (λt=>Ending.returned (Value.bool t)) ?_
 all_goals rw[UF.j,KZ]
 all_goals simp[wB,bR]
 all_goals omega):p:=h
theorem Oc{p:Prop}(h:p:=by
 go_wp2_with fail;go_ret
 exact⟨SL,HG.j⟩):p:=h
theorem G2(i:bP)(w:T)(hT:lR w):
 Calls prog 139 #[.agg #[O Z i.op,O Z i.a,O Z i.b]] w λx w'=>x=.returned (.bool (bl i))/\Gr w w':=by
 obtain⟨op,a,b⟩:=i;have d:=Gr.alloc (Gr.refl w) (X #[O Z op,O Z a,O Z b] 87);have HG:=aJ d;by_cases hr:0<=op/\op<=20
 · obtain⟨j,rfl⟩:∃j:R,op=(j:A):=⟨op.toNat,Q5⟩;have hj:j<21:=by omega
   have ht:=d.cell (hT j hj) Q6;by_cases h1:j=1
   · subst h1;go_enter func139,ntmps139
     go_wp2_with fail
     all_goals go_ret
     all_goals refine⟨?_,(Gr.refl w).alloc _⟩
     all_goals show Ending.returned (Value.bool _)=Ending.returned (Value.bool _)
     all_goals refine congrArg (λt=>Ending.returned (Value.bool t)) ?_
     all_goals rw[KZ]
     all_goals simp[bl,wB,bR,ah]
     all_goals omega
   have UC:¬(j:A)=1:=by omega
   have Vy:((j:A)==1)=AS:=by simpa using UC
   have UF:U (∀a b,bl ⟨j,a,b⟩=(bR a (decide (1<=ah j))&&bR b (decide (2<=ah j)))):=aJ (by
    intro a b;unfold bl;simp only[eP UC];rw[show wB (j:A) 0 20=AT by simp[wB];omega];simp)
   have HN:=aJ (uc (j:A));generalize ah (j:A)=n at ht UF HN;have af:(0:A)<=(j:A):=Q5;have Vq:(j:A)<21:=Q5;by_cases F:b=0
   · subst F;rcases HN.j with rfl|rfl|rfl
     · exact Nq
     · exact Nq
     exact Nq
   have ad:(b !=0)=AT:=by simpa using F
   rcases HN.j with rfl|rfl|rfl
   · exact Nq
   · exact Nq
   exact Nq
 have HF:U (bl ⟨op,a,b⟩=AS):=aJ (by unfold bl;rw[show wB op 0 20=AS by simp[wB];omega];rfl);by_cases h0:op<0
 · go_enter func139,ntmps139
   exact Oc
 have ae:20<op:=by omega
 go_enter func139,ntmps139
 exact Oc
def li(c:R):R:=if c%2=1 then (c/2)^^^3988292384 else c/2
def ju:R->R->R
 | 0,c=>c
 | k+1,c=>li (ju k c)
def n'(c:R)(b:AI):R:=ju 8 (c^^^b.toNat)
def pC(l:I AI):R:=l.foldl n' 4294967295
def ri(l:I AI):R:=4294967295-pC l
theorem Ca(h:c<4294967296):li c<4294967296:=by
 unfold li;split
 · exact M4 (n:=32) Q5 Q9
 omega
theorem og(h:c<4294967296):∀k,ju k c<4294967296
 | 0=>h
 | k+1=>Ca (og h k)
theorem qo(h:c<4294967296)(b:AI):c^^^b.toNat<4294967296:=
 M4 (n:=32) h (by have:=b.toNat_lt;omega)
theorem zZ(h:c<4294967296)(b:AI):n' c b<4294967296:=og (qo h b) 8
theorem xP:∀(l:I AI) (c:R),c<4294967296->l.foldl n' c<4294967296
 | [],_,h=>h
 | b::l,_,h=>xP l _ (zZ h b)
theorem wZ(l:I AI):pC l<4294967296:=xP l _ Q9
theorem IG(l:I AI):ri l<4294967296:=by unfold ri;omega
theorem uf(l:I AI)(b:AI):pC (l++[b])=n' (pC l) b:=by unfold pC;rw[List.foldl_append];rfl
theorem Cl{x:R}(hx:x<4294967296):4294967295^^^x=4294967295-x:=by
 have h:=congrArg BitVec.toNat (BitVec.allOnes_xor (x:=BitVec.ofNat 32 x));exact PG
theorem vE(s:ByteArray)(k:R)(h:k<s.size):s.data.toList.take (k+1)=s.data.toList.take k++[s[k]]:=by
 rw[AB RY];rfl
theorem I9(h:c<4294967296):bits BinOp.and IntKind.u32 (c:A) 1=((c%2:R):A):=by
 have:=u32_and_nat c 1 h Q9
 rw[Nat.and_one_is_mod]at this;exact this
theorem JL(h:c<4294967296):bits BinOp.xor IntKind.u32 ((c:A)/2) 3988292384=((c/2^^^3988292384:R):A):=by
 have:=u32_xor_nat (c/2) 3988292384 Q5 Q9
 rw[<-this];congr 1
theorem IX(h:c<4294967296)(b:AI):bits BinOp.xor IntKind.u32 (c:A) (b.toNat:A)=((c^^^b.toNat:R):A):=
 u32_xor_nat c b.toNat h (by have:=b.toNat_lt;omega)
theorem I8(h:c<4294967296):bits BinOp.xor IntKind.u32 IntKind.u32.max (c:A)=((4294967295-c:R):A):=by
 have:=u32_xor_nat 4294967295 c Q9 h
 rw[Cl h]at this;exact this
theorem Rp{p:Prop}(h:p:=by rw[IL];omega):p:=h
theorem DC(s:ByteArray)(w:T)(hs:s.size<=maxLen):
 Calls prog 147 #[.string s] w λx w'=>x=.returned (.int .u32 (ri s.data.toList))/\w'=w:=by
 unfold maxLen at hs;go_enter func147,ntmps147
 go_wp2;go_loop [3,7] (λc i=>∃k:R,k<=s.size/\i=O Z k/\c=.int .u32 (pC (s.data.toList.take k))) λ_ i=>s.size-(intOf i).toNat
 case atStart=>exact⟨0,Lz,rfl,rfl⟩
 obtain⟨k,hk,rfl,rfl⟩:=hrel;have F:=wZ (s.data.toList.take k);by_cases IN:k<s.size
 · have HS:=aJ (uf (s.data.toList.take k) s[k]);have HT:=aJ (vE s k IN);generalize hb:s[k]=b at HS HT;have ai:=IX F b;generalize pC _=c at F HS ai;have ak:=qo F b;go_wp2;go_loop [3,16] (λd j=>∃m:R,m<=8/\j=O Z m/\d=.int .u32 (ju m (c^^^b.toNat))) (λ_ j=>8-(intOf j).toNat)
   case atStart=>
    have TQ:=b.toNat_lt;exact⟨0,Lz,rfl,by rw[show((b.toNat:A)%4294967296)=b.toNat from by omega,ai];rfl⟩
   case round=>
    obtain⟨m,hm,rfl,rfl⟩:=hrel;have ae:=og ak m;by_cases av:m<8
    · have HN:U (ju (m+1) (c^^^b.toNat)=li _):=aJ rfl;generalize ju m _=d at ae HN;have hand:=I9 ae;have al:=JL ae;by_cases ad:d%2=1
      · have HC:U (li d=d/2^^^3988292384):=aJ (by unfold li;rw[mI ad]);have S9:(((d%2:R):A)==1)=AT:=by rw[ad];rfl
        go_wp2;go_round
        case rel=>exact⟨m+1,Q5,QZ,by rw[HN,HC]⟩
        case measure=>exact Qh
      have HC:U (li d=d/2):=aJ (by unfold li;rw[eP ad]);have S9:(((d%2:R):A)==1)=AS:=Rp
      go_wp2;go_round
      case rel=>exact⟨m+1,Q5,QZ,by rw[HN,HC];go_num⟩
      case measure=>exact Qh
    have h8:m=8:=by omega
    subst h8;go_wp2;go_round
    case rel=>exact⟨k+1,Q5,QZ,by rw[HT,HS];rfl⟩
    case measure=>exact Qh
 have af:=I8 F;have HE:U (ri _=4294967295-pC (s.data.toList.take k)):=aJ (by unfold ri;rw[JH jB]);generalize pC _=c at F af HE;go_wp2;go_ret
 exact⟨by rw[HE];rfl,rfl⟩
def mE(w:T)(cb:R)(r:I AI)(e a:A):Prop:=
 (∃s:ByteArray,H w (Q cb 0 G)=Y (.string s)/\s.data.toList=r)/\D r<=1000000/\H w (Q cb 1 G)=Y (O Z e)/\H w (Q cb 3 G)=Y (O Z a)/\w.frozen? ⟨cb,0,G⟩=AS/\H w (Q cb 2 G)=Y (O Z 0)
abbrev Gc(cb:R)(w w':T):Prop:=w.grownBy w' (Y cb)
theorem Gc.refl(cb:R)(w:T):Gc cb w w:=World.grownBy.refl w _
theorem Gr.toGc(h:Gr w w'):Gc cb w w':=⟨h.os,h.tape,h.output,h.size,λi hi _=>h.block i hi Q6⟩
theorem Rh{p:Prop}(h:p:=by simpa using h.size):p:=h
theorem Gc.set(h:Gc cb w w')(o:R)(v:M):Gc cb w (w'.setCell (Q cb o G) v):=
 ⟨h.os,h.tape,h.output,Rh,λi hi No=>by rw[dp _ _ _ _ λe=>No (by rw[e])];exact h.block i hi No⟩
theorem Gc.drew{a b:T}(h:Gc cb a b):Gc cb a b.drew:=⟨h.os,h.tape,h.output,h.size,h.block⟩
theorem mE.gr(h:mE w cb r e a)(g:Gr w w'):mE w' cb r e a:=by
 obtain⟨⟨s,d,F⟩,h2,h3,h4,h5,h6⟩:=h;exact⟨⟨s,g.cell d Q6,F⟩,h2,g.cell h3 Q6,g.cell h4 Q6,(zc (g.block cb (wI w _ h3) Q6)).trans h5,g.cell h6 Q6⟩
def tX{α:Type}(cb:R)(e a:A)(w:T)(RRq:T->M->α->Prop):By (α×I AI)->Ending->T->Prop
 | some (y,r'),x,w'=>∃v,x=.returned v/\RRq w' v y/\mE w' cb r' e a/\Gc cb w w'
 | none,x,w'=>x=.panicked (iT e a)/\Gc cb w w'
def fV(n:R)(r:I AI):By (I AI×I AI):=if n<=D r then Y (r.take n,r.drop n) else G
theorem GE{s':ByteArray}{l:I AI}(F:∃x,H w (Q cb 0 G)=Y x)(hs:s'.data.toList=l)(hl:D l<=1000000)(h1:H w (Q cb 1 G)=Y (O Z e))(h2:H w (Q cb 3 G)=Y (O Z a))(hz:w.frozen? ⟨cb,0,G⟩=AS)(hj:H w (Q cb 2 G)=Y (O Z 0)):
 mE (w.setCell (Q cb 0 G) (.string s')) cb l e a:=by
 obtain⟨x,d⟩:=F;refine⟨⟨_,tO w _ _ d,hs⟩,hl,?_,?_,?_,?_⟩
 · exact(Cn w _ _ _ (by intro h;cases h)).trans h1
 · exact(Cn w _ _ _ (by intro h;cases h)).trans h2
 · rw[iI];exact hz
 exact(Cn w _ _ _ (by intro h;cases h)).trans hj
theorem sE(s:ByteArray)(n:R):s.extract 0 n=⟨(s.data.toList.take n).toArray⟩:=by
 have h:(s.extract 0 n).data.toList=s.data.toList.take n:=by simp[Mz]
 rw[<-h]
theorem sD(s:ByteArray)(n:R):(s.extract n s.size).data.toList=s.data.toList.drop n:=by
 simp[Mz]
 rw[JH Q6]
theorem RB{p:Prop}(h:p:=by rw[<-hs,Aj];rfl):p:=h
theorem Si{p:Prop}(h:p:=by rw[zG];omega):p:=h
theorem pS(cb:R)(r:I AI)(e a:A)(n:R)(hn:n<18446744073709551616)(w:T)(hc:mE w cb r e a):
 Calls prog 146 #[.pointer (Y (Q cb 0 G)),.int .u64 n] w (tX cb e a w (λ_ v y=>v=.string ⟨y.toArray⟩) (fV n r)):=by
 obtain⟨⟨s,h0,hs⟩,hl,h1,h2,hz,hj⟩:=hc;have S7:s.size=D r:=RB
 by_cases hle:n<=D r
 · have d:U (fV n r=Y (r.take n,r.drop n)):=aJ (by simp[fV,hle]);have hd:(n:A)<=s.size:=by omega
   have ak:(0:A)<=n:=Q5;have ai:s.size<=1000000:=Q5;have ad:IntKind.u64.wrap _=s.size:=FP _ Q5;have HS:=aJ hs;clear hs S7 hle;go_enter func146,ntmps146
   go_wp2;go_region_held3 (λw'=>H w' (Q cb 0 G)=Y (.string s)/\H w' (Q cb 1 G)=Y (O Z e)/\H w' (Q cb 3 G)=Y (O Z a)/\H w' (Q cb 2 G)=Y (O Z 0)) (first|go_keep|(refine⟨?_,?_,?_,?_⟩<;>exact BY.cell Q8 Q6)) (first|(go_at_call 53;refine(aj _ _ _).mono ?_;rintro e w' ⟨rfl,BY⟩))
   have ae:=BY.cell h0 Q6;have TC:=BY.cell h1 Q6;have F:=BY.cell h2 Q6;have UC:=BY.cell hj Q6;have Ty:=(zc (BY.block cb (wI w _ h1) Q6)).trans hz;have af:Gc cb w _:=(Gr.trans (Gr.drew (Gr.refl w)) BY).toGc;clear BY h0 h1 h2 hz hj;go_wp2_with fail;go_ret
   rw[d];have IS:=GE (l:=r.drop n) ⟨_,ae⟩ (by rw[<-HS];exact sD s n) (by rw[J2];omega) TC F Ty UC;refine⟨_,rfl,?_,IS,af.set 0 _⟩;show Value.string _=_
   rw[sE s n,HS]
 have d:U (fV n r=G):=aJ (by simp[fV,hle]);have hd:decide (n<=s.size)=AS:=Si
 have ai:s.size<=1000000:=Q5;have ad:IntKind.u64.wrap _=s.size:=FP _ Q5;clear hs S7 hle;go_enter func146,ntmps146
 go_wp2;go_region_with (first|(go_at_call 53;refine(bA _ _ _).mono ?_;rintro e w' ⟨rfl,BY⟩;refine an ?_))
 all_goals exact⟨rfl,by rw[d.j];exact⟨rfl,(Gr.trans (Gr.drew (Gr.refl w)) BY).toGc⟩⟩
def fI:I AI->By (AI×I AI)
 | []=>G
 | b::r=>Y (b,r)
theorem tX.some_{α:Type}{RRq:T->M->α->Prop}{o:By (α×I AI)}{y:α}{r':I AI}(d:o=Y (y,r')){x:Ending}{w':T}(h:tX cb e a w RRq o x w'):∃v,x=.returned v/\RRq w' v y/\mE w' cb r' e a/\Gc cb w w':=by subst d;exact h
theorem tX.none_{α:Type}{RRq:T->M->α->Prop}{o:By (α×I AI)}(d:o=G){x:Ending}{w':T}(h:tX cb e a w RRq o x w'):x=.panicked (iT e a)/\Gc cb w w':=by subst d;exact h
theorem m_(cb:R)(r:I AI)(e a:A)(w:T)(hc:mE w cb r e a):
 Calls prog 145 #[.pointer (Y (Q cb 0 G))] w (tX cb e a w (λ_ v y=>v=.int .u8 (y.toNat:A)) (fI r)):=by
 cases r with
 | nil=>
  have d:=aJ hc;go_enter func145,ntmps145
  go_wp2_with fail;refine(pS _ _ e a 1 Q9 _ d).mono ?_;intro x w1 h;obtain⟨rfl,F⟩:=h.none_ (by simp[fV]);exact⟨rfl,rfl,F⟩
 | cons b r=>
  have d:=aJ hc;go_enter func145,ntmps145
  go_wp2_with fail;refine(pS _ _ e a 1 Q9 _ d).mono ?_;intro x w1 h;obtain⟨v,rfl,rfl,IS,F⟩:=h.some_ (y:=[b]) (r':=r) (by simp[fV]);have H1:=aJ IS;have H2:=aJ F;go_wp2;go_ret
  exact⟨_,rfl,rfl,H1,H2⟩
theorem Ge:∀a:Fin 256,a.val&&&127=a.val%128:=by decide+kernel
theorem IM(b:AI):bits BinOp.and IntKind.u8 (b.toNat:A) 127=((b.toNat%128:R):A):=by
 have h:=u8_and_nat _ 127 b.toNat_lt Q9;rw[Ge ⟨_,b.toNat_lt⟩]at h;exact h
def cW:R->R->I AI->By (R×I AI)
 | _,_,[]=>G
 | k,v,b::r=>
  if b.toNat%128*2 ^ (7*k)<18446744073709551616 then
   if b.toNat<128 then (if b.toNat≠0\/k=0 then Y (v+b.toNat%128*2 ^ (7*k),r) else G)
   else cW (k+1) (v+b.toNat%128*2 ^ (7*k)) r
  else G
theorem su(k:R):(7*(k:A)).toNat=7*k:=Q5
theorem Dz{s:R}(h:s<=64):(2:R) ^ s*2 ^ (64-s)=18446744073709551616:=by rw[<-Nat.pow_add,show s+(64-s)=64 by omega]
theorem Om{p:Prop}(h:p:=by
 rcases M6 low with h0|h0
 · exact h0
 have:2 ^ 64<=2 ^ (7*k):=Mp Q9 Q5
 have h2:1*2 ^ (7*k)<=low*2 ^ (7*k):=Jl _ h0;omega):p:=h
theorem F_{low:R}(h:low*2 ^ (7*k)<18446744073709551616):IntKind.u64.wrap ((low:A)*2 ^ min (7*(k:A)).toNat 64)=((low*2 ^ (7*k):R):A):=by
 rw[su];by_cases hs:7*k<=64
 · rw[Mn hs];have e:low*2 ^ (7*k)=((low*2 ^ (7*k):R):A):=by simp
   rw[e,FP _ Q5]
 have d:low=0:=by
  exact Om
 subst d;simp[IntKind.wrap_u64]
theorem Ga{low:R}(h:low*2 ^ (7*k)<18446744073709551616):(((low*2 ^ (7*k):R):A)/2 ^ min (7*(k:A)).toNat 64==(low:A))=AT:=by
 rw[su,beq_iff_eq];by_cases hs:7*k<=64
 · rw[Mn hs];have e:(((low*2 ^ (7*k):R):A)/2 ^ (7*k))=((low*2 ^ (7*k)/2 ^ (7*k):R):A):=by simp
   rw[e,Nat.mul_div_cancel _ (Nat.two_pow_pos _)]
 have d:low=0:=by
  exact Om
 subst d;simp
theorem Jh{low:R}(h:¬low*2 ^ (7*k)<18446744073709551616):(IntKind.u64.wrap ((low:A)*2 ^ min (7*(k:A)).toNat 64)/2 ^ min (7*(k:A)).toNat 64==(low:A))=AS:=by
 rw[su,IL,IntKind.wrap_u64];by_cases hs:7*k<=64
 · rw[Mn hs];have e:(low*2 ^ (7*k)%18446744073709551616)/2 ^ (7*k)=((low*2 ^ (7*k)%18446744073709551616/2 ^ (7*k):R):A):=by simp
   rw[e];intro d;have h1:low*2 ^ (7*k)%18446744073709551616<18446744073709551616:=Nat.mod_lt _ Q9;have F:low*2 ^ (7*k)%18446744073709551616<low*2 ^ (7*k):=Q5;have h3:=(MH (Nat.two_pow_pos _)).2 F;omega
 rw[Nat.min_eq_right Q5];intro d;have e:((low:A)*2 ^ 64%18446744073709551616)=0:=by omega
 rw[e]at d;have:low=0:=by simp at d;omega
 subst this;simp at h
theorem Gx{v low:R}(hq:q=low*2 ^ (7*k))(hv:v<2 ^ (7*k))(d:v<18446744073709551616)(F:q<18446744073709551616):bits BinOp.or IntKind.u64 (v:A) (q:A)=((v+q:R):A):=by
 rw[u64_or_nat v q d F,Nat.or_comm,nat_join _ q v (by rw[hq];simp) hv,Nat.add_comm]
theorem FY{v low:R}(hq:q=low*2 ^ (7*k))(hv:v<2 ^ (7*k))(ad:v<18446744073709551616)(d:q<18446744073709551616)(hl:low<128):v+q<18446744073709551616/\v+q<2 ^ (7*(k+1)):=by
 have hp:2 ^ (7*(k+1))=2 ^ (7*k)*128:=by rw[show 7*(k+1)=7*k+7 by omega,Nat.pow_add]
 have h2:low*2 ^ (7*k)<=127*2 ^ (7*k):=Jl _ Q5;refine⟨?_,by rw[hp];omega⟩;by_cases hs:7*k<=64
 · have F:=Dz hs;have h4:=by
    rw[<-F,hq,MA]at d;exact Nat.lt_of_mul_lt_mul_left d
   have h5:(low+1)*2 ^ (7*k)<=2 ^ (64-7*k)*2 ^ (7*k):=Jl _ h4;rw[MA]at F;rw[F]at h5;have h6:(low+1)*2 ^ (7*k)=low*2 ^ (7*k)+2 ^ (7*k):=by rw[LV,Nf]
   omega
 · have hz:low=0:=by
    exact Om
   subst hz;simp at hq;omega
theorem Gy:Gr w w.drew:=Gr.drew (Gr.refl _)
theorem OW{p:Prop}(h:p:=by
 go_wp2_with(go_at_call 53;refine(aj _ _ _).mono ?_;rintro e3 w3 ⟨rfl,Ta⟩)
 go_ret
 rw[HE];exact⟨_,rfl,rfl,Tr.gr Ta,OF.trans Ta.toGc⟩):p:=h
theorem R7{p:Prop}(h:p:=by rw[HE.j];exact⟨rfl,Td.j.trans (Gr.trans (Gr.drew (Gr.refl w1)) BY).toGc⟩):p:=h
theorem Sa{p:Prop}(h:p:=by rw[bne_iff_ne];omega):p:=h
theorem SF{p:Prop}(h:p:=by decide):p:=h
theorem fS(cb:R)(r:I AI)(e a:A)(w:T)(hc:mE w cb r e a):
 Calls prog 115 #[.pointer (Y (Q cb 0 G))] w (tX cb e a w (λ_ v (y:R)=>v=.int .u64 (y:A)) (cW 0 0 r)):=by
 go_enter func115,ntmps115
 go_wp2;go_loopw[3,4] (λvv sh wr=>∃(k v:R) (r':I AI),k+D r'=D r/\v<2 ^ (7*k)/\v<18446744073709551616/\vv=.int .u64 (v:A)/\sh=O Z ((7*k:R):A)/\cW k v r'=cW 0 0 r/\mE wr cb r' e a/\Gc cb w wr) λ_ sh _=>8000000-(intOf sh).toNat
 case atStart=>exact⟨0,0,r,Q6,Q6,SF,rfl,rfl,rfl,hc,Gc.refl _ _⟩
 obtain⟨k,v,r',aA,hv,ak,rfl,rfl,aC,IS,az⟩:=hrel;have HV:=aJ hv;have HR:=aJ aC;have HG:=aJ az;have ai:=aJ IS;have aM:=hc.2.1;clear hv aC az IS hc;cases r' with
 | nil=>
  go_wp2_with fail;refine(m_ _ _ e a _ ai).mono ?_;intro x w1 h;obtain⟨rfl,hg⟩:=h.none_ rfl;exact⟨rfl,by rw[<-HR];exact⟨rfl,HG.trans hg⟩⟩
 | cons b r2=>
  go_wp2_with fail;refine(m_ _ _ e a _ ai).mono ?_;intro x w1 h;obtain⟨v1,rfl,rfl,ad,S5⟩:=h.some_ rfl;have Td:=aJ (HG.trans S5);have aG:=aJ ad;obtain⟨⟨s1,aF,aE⟩,h1l,TC,h12,h1z,h1j⟩:=ad;clear h S5 aE aF h1z h1l;have TQ:b.toNat<256:=b.toNat_lt;have hand:=IM b;obtain⟨low,ae⟩:∃low,low=b.toNat%128:=⟨_,rfl⟩;rw[<-ae]at hand;have av:low<128:=Q5;have al:=aJ ae;clear ae;have aL:(0:A)<=7*k:=Q5;have aI:7*(k:A)<=7000000:=by simp at aA;omega
  have a0:IntKind.u64.wrap _=low:=FP _ Q5;by_cases d:low*2 ^ (7*k)<18446744073709551616
  · have ay:=F_ d;have af:=Ga d;obtain⟨q,hq⟩:∃q,q=low*2 ^ (7*k):=⟨_,rfl⟩;rw[<-hq]at ay af d;have aD:IntKind.u64.wrap (low*2 ^ (7*k))=q:=by
     rw[show(low:A)*2 ^ (7*k)=q by rw[hq];simp,FP _ Q5]
    have a2:=Gx hq HV ak d;obtain⟨ax,aB⟩:=FY hq HV ak d av;have aH:=aJ aB;have HQ:=aJ hq;clear aB hq;have F:U (cW 0 0 r=if b.toNat<128 then (if b.toNat≠0\/k=0 then Y _ else G) else cW _ _ r2):=aJ (by rw[<-HR,cW,<-al,<-HQ,mI d]);go_wp2;go_region_held3 (λw'=>H w' (Q cb 1 G)=Y (O Z e)/\H w' (Q cb 3 G)=Y (O Z a)/\H w' (Q cb 2 G)=Y (O Z 0)) (first|go_keep|(refine⟨?_,?_,?_⟩<;>exact BY.cell Q8 Q6)) (first|(go_at_call 53;refine(aj _ _ _).mono ?_;rintro e w' ⟨rfl,BY⟩))
    have OF:=aJ (Td.trans (Gr.trans Gy BY).toGc);have Tr:=aJ (aG.gr (Gr.trans Gy BY));clear BY TC h12 h1j af;by_cases hb:b.toNat<128
    · have S9:((b.toNat:A)<128):=by omega
      by_cases hz:b.toNat=0
      · have TI:((b.toNat:A)!=0)=AS:=by simp[hz]
        by_cases Vl:k=0
        · have TW:(7*(k:A)==0)=AT:=by simp[Vl]
          have HE:U (cW 0 0 r=Y _):=aJ (by rw[F,mI hb,mI (.inr Vl)]);clear hz hb Vl;exact OW
        have TW:(7*(k:A)==0)=AS:=Rp
        have HE:U (cW 0 0 r=G):=aJ (by rw[F,mI hb,eP (by intro h;rcases h with h|h;exact h hz;exact Vl h)]);clear hz hb Vl;go_wp2_with(go_at_call 53;refine(bA _ _ _).mono ?_;rintro e3 w3 ⟨rfl,Ta⟩)
        exact⟨rfl,by rw[HE];exact⟨rfl,OF.trans Ta.toGc⟩⟩
      have TI:((b.toNat:A)!=0)=AT:=Sa
      have HE:U (cW 0 0 r=Y _):=aJ (by rw[F,mI hb,mI (.inl hz)]);clear hz hb;exact OW
    have S9:¬((b.toNat:A)<128):=by omega
    have HE:U (cW _ _ r2=cW 0 0 r):=aJ (by rw[F,eP hb]);clear hb;go_wp2;go_roundw
    case rel=>exact⟨_,_,_,by simp at aA;omega,aH,ax,QZ,QZ,HE,Tr,OF⟩
    case measure=>exact Qh
  · have UZ:=Jh d;have HE:U (cW 0 0 r=G):=aJ (by rw[<-HR,cW,<-al,eP d]);clear d;go_wp2;go_region_with (first|(go_at_call 53;refine(bA _ _ _).mono ?_;rintro e w' ⟨rfl,BY⟩;refine an ?_))
    all_goals exact⟨rfl,R7⟩
theorem mt:∀(r:I AI) (k v:R),v<2 ^ (7*k)->v<18446744073709551616->∀n r',cW k v r=Y (n,r')->n<18446744073709551616
 | [],_,_,_,_,_,_,h=>by simp[cW]at h
 | b::r,k,v,h1,h2,n,r',h=>by
  unfold cW at h;by_cases d:b.toNat%128*2 ^ (7*k)<18446744073709551616
  · rw[mI d]at h;obtain⟨s1,s2⟩:=FY rfl h1 h2 d Q5;by_cases F:b.toNat<128
    · rw[mI F]at h;split at h
      · simp only[qN,H9]at h;omega
      cases h
    rw[eP F]at h;exact mt r _ _ s2 s1 n _ h
  rw[eP d]at h;cases h
def kK(v:R):A:=if v%2=1 then -((v/2:R):A)-1 else ((v/2:R):A)
def bn(r:I AI):By (A×I AI):=(cW 0 0 r).map λp=>(kK p.1,p.2)
def cI(r:I AI):By (A×I AI):=match cW 0 0 r with
 | some (n,r')=>if n<=9223372036854775807 then Y ((n:A),r') else G
 | none=>G
def iB(r:I AI):By (I AI×I AI):=match cW 0 0 r with
 | some (n,r')=>fV n r'
 | none=>G
theorem Jf{v:R}(h:v<18446744073709551616):bits BinOp.and IntKind.u64 (v:A) 1=((v%2:R):A):=by
 have:=u64_and_nat v 1 h Q9
 rw[Nat.and_one_is_mod]at this;exact this
theorem JU{v:R}(h:v<18446744073709551616):bits BinOp.xor IntKind.u64 IntKind.u64.max ((v:A)/2)=((18446744073709551615-v/2:R):A):=by
 have:=u64_xor_nat 18446744073709551615 (v/2) Q9 Q5
 rw[DV Q5]at this;rw[<-this];congr 1
theorem Eg{v:R}(h:v<18446744073709551616):wrap64 ((18446744073709551615-v/2:R):A)=-((v/2:R):A)-1:=by
 unfold wrap64;omega
theorem qd(cb:R)(r:I AI)(e a:A)(w:T)(hc:mE w cb r e a):
 Calls prog 59 #[.pointer (Y (Q cb 0 G))] w (tX cb e a w (λ_ v (y:A)=>v=O Z y) (bn r)):=by
 have HC:=aJ hc;go_enter func59,ntmps59
 go_wp2_with fail;refine(fS _ r e a _ HC).mono ?_;intro x w1 h;cases F:cW 0 0 r with
 | none=>
  obtain⟨rfl,hg⟩:=h.none_ F;exact⟨rfl,by unfold bn;rw[F];exact⟨rfl,hg⟩⟩
 | some p=>
  obtain⟨n,r'⟩:=p;obtain⟨v,rfl,rfl,IS,hg⟩:=h.some_ F;have IN:=mt r 0 0 Q6 Q9 n _ F;have hand:=Jf IN;have ad:=JU IN;have HE:U (bn r=Y (kK n,r')):=aJ (by unfold bn;rw[F];rfl);have H1:=aJ IS;have H2:=aJ hg;by_cases d:n%2=1
  · have HU:U (kK n=-((n/2:R):A)-1):=aJ (by unfold kK;rw[mI d]);have S9:(((n%2:R):A)==1)=AT:=by rw[d];rfl
    go_wp2;go_ret
    rw[HE];refine⟨_,rfl,?_,H1,H2⟩;rw[HU,<-Eg IN];rfl
  have HU:U (kK n=((n/2:R):A)):=aJ (by unfold kK;rw[eP d]);have S9:(((n%2:R):A)==1)=AS:=Rp
  go_wp2;go_ret
  rw[HE];refine⟨_,rfl,?_,H1,H2⟩;rw[HU];rfl
theorem ij(cb:R)(r:I AI)(e a:A)(w:T)(hc:mE w cb r e a):
 Calls prog 112 #[.pointer (Y (Q cb 0 G))] w (tX cb e a w (λ_ v (y:A)=>v=O Z y) (cI r)):=by
 have HC:=aJ hc;go_enter func112,ntmps112
 go_wp2_with fail;refine(fS _ r e a _ HC).mono ?_;intro x w1 h;cases d:cW 0 0 r with
 | none=>
  obtain⟨rfl,hg⟩:=h.none_ d;exact⟨rfl,by unfold cI;rw[d];exact⟨rfl,hg⟩⟩
 | some p=>
  obtain⟨n,r'⟩:=p;obtain⟨v,rfl,rfl,IS,hg⟩:=h.some_ d;have H1:=aJ IS;have H2:=aJ hg;obtain⟨⟨s1,ai,af⟩,h1l,TC,h12,h1z,h1j⟩:=IS;by_cases hle:n<=9223372036854775807
  · have HE:U (cI r=Y ((n:A),r')):=aJ (by unfold cI;rw[d];simp only[mI hle]);have hd:(n:A)<=9223372036854775807:=by omega
    have ae:Z.wrap _=n:=Q_;go_wp2_with(go_at_call 53;refine(aj _ _ _).mono ?_;rintro e3 w3 ⟨rfl,F⟩)
    go_ret
    rw[HE];exact⟨_,rfl,rfl,H1.gr F,H2.trans F.toGc⟩
  have HE:U (cI r=G):=aJ (by unfold cI;rw[d];simp only[eP hle]);have hd:decide (n<=9223372036854775807)=AS:=Si
  have ad:decide ((n:A)<=9223372036854775807)=AS:=Si
  go_wp2_with(go_at_call 53;refine(bA _ _ _).mono ?_;rintro e3 w3 ⟨rfl,F⟩)
  exact⟨rfl,by rw[HE];exact⟨rfl,H2.trans F.toGc⟩⟩
theorem xO(h:Below w.heap.size w w'):Gr w w':=⟨h.os,h.tape,h.output,h.size,λk d _=>h.block k d⟩
theorem Tryz.cells5:Tryz.prog.cellsOf 5=1:=Q7
theorem Ru{p:Prop}(h:p:=by rw[hM,Lv,Ty];simp):p:=h
theorem RM{p:Prop}(h:p:=by rw[TO];omega):p:=h
theorem uE(s:ByteArray)(w:T)(hs:s.size<=1000000):
 Calls prog 159 #[.string s] w λx w'=>x=.returned (.string s)/\Gr w w':=by
 by_cases h0:s.size=0
 · have ai:((s.size:A)==0)=AT:=by rw[h0];rfl
   have HE:U (s=⟨#[]⟩):=aJ (ByteArray.ext (Array.eq_empty_of_size_eq_zero h0));clear h0;go_enter func159,ntmps159
   go_wp2;go_ret
   exact⟨by rw[HE];rfl,G0⟩
 obtain⟨i0,hi,TU,Ty,TO⟩:=Lt Tryz.info5;-- the new row,under a name
 obtain⟨d,hM⟩:∃d,d=madeCells (Value.int .u8 0).cells ((s.size:A).toNat*i0.size):=⟨_,rfl⟩;have al:d.size=s.size:=Ru
 have ax:∀V,(Instr.makeSlice 201 (O Z s.size) (O Z s.size)).run prog V=.ok (J (Y (Q V.heap.size 0 G)) s.size s.size) (V.alloc (X d 5)):=by
  intro V;have h:=Ng V 201 5 _ _ underlying201 hi TU Z Z s.size s.size Q5 Q5 RM Q5;rw[<-hM]at h;simpa using h
 clear hM;have ad:=Go.Lib.run_copy_row_string _ 201 9 3 5 _ 0 _ s.size s d 5 underlying201 (by rw[hi];simp[Ty]) (jZ w _) lj Q5;obtain⟨Y',hY⟩:∃Y',Y'=(d.toList.take 0++Go.Lib.byteCells s.data.toList++d.toList.drop (0+s.size)).toArray:=⟨_,rfl⟩;rw[<-hY]at ad;have af:Y'.toList=Go.Lib.byteCells s.data.toList:=by
  rw[hY,List.toList_toArray,List.take_zero,Kj,List.drop_of_length_le (by rw[Aj];omega),Ir]
 have av:Y'.size=s.size:=by rw[<-Aj,af,Go.Lib.byteCells_length,<-Go.Lib.size_eq]
 have F:((w.alloc _).setRow _ Y').heap[w.heap.size]? =Y _:=Kg _ _ d _ 5 (0,0) (jZ w _);have No:s.data.toList≠[]:=λe=>h0 (by rw[Go.Lib.size_eq,e];rfl)
 have ae:=Go.Lib.run_unsafeString_row _ 283 3 9 5 underlying283 Tryz.cells5 _ _ (by unfold World.shape?;rw[F]) _ No (by rw[<-Go.Lib.size_eq];omega) (by rw[<-Go.Lib.size_eq];omega)
  (λj x hx=>Go.Lib.cells_of_row F _ j _ (by rw[JH (by rw[Aj];exact lj),af];simp[Go.Lib.byteCells,hx]))
 rw[<-Go.Lib.size_eq]at ae;clear hY;have ai:((s.size:A)==0)=AS:=Rp
 have ak:0<s.size:=Q5;go_enter func159,ntmps159
 go_wp2;go_ret
 have b1:Below _ w (w.alloc (X d 5)):=(Mt _ w).alloc lj _;have b2:Below w.heap.size (w.alloc _) ((w.alloc (X d 5)).setRow w.heap.size Y'):=⟨rfl,rfl,rfl,Q6,λk hk=>Kk _ _ _ _ Q5⟩;exact⟨rfl,xO (Go.Lib.below_freeze (b1.trans b2) lj _)⟩
theorem vA(cb:R)(r:I AI)(e a:A)(w:T)(hc:mE w cb r e a):
 Calls prog 122 #[.pointer (Y (Q cb 0 G))] w (tX cb e a w (λ_ v (y:I AI)=>v=.string ⟨y.toArray⟩) (iB r)):=by
 have HC:=aJ hc;go_enter func122,ntmps122
 go_wp2_with fail;refine(fS _ r e a _ HC).mono ?_;intro x w1 h;cases hn:cW 0 0 r with
 | none=>
  obtain⟨rfl,F⟩:=h.none_ hn;exact⟨rfl,by unfold iB;rw[hn];exact⟨rfl,F⟩⟩
 | some p=>
  obtain⟨n,r'⟩:=p;obtain⟨v,rfl,rfl,IS,F⟩:=h.some_ hn;have IN:=mt r 0 0 Q6 Q9 n _ hn;have HE:U (iB r=fV n _):=aJ (by unfold iB;rw[hn]);have H1:=aJ IS;have H2:=aJ F;go_wp2_with fail;refine(pS _ _ e a n IN _ H1).mono ?_;intro x w2 h;cases d:fV n r' with
  | none=>
   obtain⟨rfl,F⟩:=h.none_ d;exact⟨rfl,by rw[HE,d];exact⟨rfl,H2.trans F⟩⟩
  | some q=>
   obtain⟨y,r2⟩:=q;obtain⟨v,rfl,rfl,IS,F⟩:=h.some_ d;have UO:U (iB r=Y _):=aJ (by rw[HE,d]);have Tz:(⟨y.toArray⟩:ByteArray).size<=1000000:=by
    have h6:=H1.2.1;unfold fV at d;split at d
    · simp only[qN,H9]at d;obtain⟨rfl,_⟩:=d;show(List.toArray _).size<=_
      simp;omega
    cases d
   have H3:=aJ IS;have H4:=aJ (H2.trans F);go_wp2_with fail;have ad:Calls prog 151 #[.string ⟨y.toArray⟩] w2 λx w'=>x=.returned (.string ⟨y.toArray⟩)/\Gr w2 w':=by
    go_enter func151,ntmps151
    go_wp2_with(go_at_call 159;refine(uE _ _ Tz).mono ?_;rintro x w3 ⟨rfl,Ta⟩)
    go_ret
    exact⟨rfl,Ta⟩
   refine ad.mono ?_;rintro x w3 ⟨rfl,Ta⟩;go_wp2;go_ret
   rw[UO];exact⟨_,rfl,rfl,H3.gr Ta,H4.trans Ta.toGc⟩
def gO(B:R)(w:T)(v:M)(l:I A):Prop:=
 ∃ao cap,v=J ao (D l) cap/\D l<=maxLen/\∀i y,l[i]? =Y y->∃b off,ao=Y (Q b off G)/\B<=b/\H w ⟨b,off+i,G⟩=Y (O Z y)
def gH(B:R)(w:T)(v:M)(l:I (I A)):Prop:=
 ∃ao cap,v=J ao (D l) cap/\D l<=maxLen/\∀i x,l[i]? =Y x->∃b off vx,ao=Y (Q b off G)/\B<=b/\H w ⟨b,off+i,G⟩=Y vx/\gO B w vx x
def jd(B:R)(w:T)(v:M)(l:I bP):Prop:=
 ∃ao cap,v=J ao (D l) cap/\D l<=maxLen/\∀i x,l[i]? =Y x->∃b off,ao=Y (Q b off G)/\B<=b/\
  w.cell? ⟨b,off+i*3,G⟩=Y (O Z x.op)/\H w ⟨b,off+i*3+1,G⟩=Y (O Z x.a)/\H w ⟨b,off+i*3+2,G⟩=Y (O Z x.b)
def iM(B:R)(w:T)(v:M)(l:I aQ):Prop:=
 ∃ao cap,v=J ao (D l) cap/\D l<=maxLen/\∀i x,l[i]? =Y x->∃b off vp vl vc,ao=Y (Q b off G)/\B<=b/\
  w.cell? ⟨b,off+i*4,G⟩=Y vp/\H w ⟨b,off+i*4+1,G⟩=Y (O Z x.result)/\H w ⟨b,off+i*4+2,G⟩=Y vl/\H w ⟨b,off+i*4+3,G⟩=Y vc/\
  gO B w vp x.aH/\gO B w vl x.aI/\jd B w vc x.code
def fO(B:R)(w:T)(v:M)(l:I eL):Prop:=
 ∃ao cap,v=J ao (D l) cap/\D l<=maxLen/\∀i x,l[i]? =Y x->∃b off vs vp,ao=Y (Q b off G)/\B<=b/\
  w.cell? ⟨b,off+i*3,G⟩=Y vs/\H w ⟨b,off+i*3+1,G⟩=Y vp/\H w ⟨b,off+i*3+2,G⟩=Y (O Z x.result)/\
  iU vs x.name/\gO B w vp x.aH
def fB(B:R)(w:T)(v:M)(l:I cJ):Prop:=
 ∃ao cap,v=J ao (D l) cap/\D l<=maxLen/\∀i x,l[i]? =Y x->∃b off vs,ao=Y (Q b off G)/\B<=b/\
  w.cell? ⟨b,off+i*2,G⟩=Y vs/\H w ⟨b,off+i*2+1,G⟩=Y (O Z x.func)/\iU vs x.name
def Kp(B:R)(w w':T):Prop:=∀k,B<=k->k<w.heap.size->w'.heap[k]? =w.heap[k]?
theorem Kp.cell(h:Kp B w w'){b o:R}{x:M}(F:B<=b)(d:H w (Q b o G)=Y x):H w' (Q b o G)=Y x:=
 (so (a:=⟨b,o,G⟩) (h b F (wI w _ d))).trans d
theorem Kp.mono(h:Kp B w w')(d:B<=B'):Kp B' w w':=λk h1 F=>h k (wz d h1) F
theorem Su{p:Prop}(h:p:=by intro e;simp only[qN]at e;omega):p:=h
theorem Gc.kp(h:Gc cb w w')(F:cb<B):Kp B w w':=λk h1 d=>h.block k d Su
theorem Kp.set(v:M)(d:g<B):Kp B w (w.setCell (Q g o G) v):=λk F _=>dp _ _ _ _ (by show k≠g;omega)
theorem Gr.kp(h:Gr w w'):Kp B w w':=λk _ d=>h.block k d Q6
theorem gO.kp{v:M}(h:gO B w v l)(g:Kp B w w'):gO B w' v l:=by
 obtain⟨ao,cap,hv,hm,F⟩:=h;refine⟨_,_,hv,hm,λi x hi=>?_⟩;obtain⟨b,off,h1,d,h3⟩:=F i x hi;exact⟨b,_,h1,d,g.cell d h3⟩
theorem jd.kp{v:M}{l:I bP}(h:jd B w v l)(g:Kp B w w'):jd B w' v l:=by
 obtain⟨ao,cap,hv,hm,F⟩:=h;refine⟨_,_,hv,hm,λi x hi=>?_⟩;obtain⟨b,off,h1,d,h3,h4,h5⟩:=F i x hi;exact⟨b,_,h1,d,g.cell d h3,g.cell d h4,g.cell d h5⟩
theorem gH.kp{v:M}{l:I (I A)}(h:gH B w v l)(g:Kp B w w'):gH B w' v l:=by
 obtain⟨ao,cap,hv,hm,F⟩:=h;refine⟨_,_,hv,hm,λi x hi=>?_⟩;obtain⟨b,off,vx,h1,d,h3,h4⟩:=F i x hi;exact⟨b,_,_,h1,d,g.cell d h3,h4.kp g⟩
theorem iM.kp{v:M}{l:I aQ}(h:iM B w v l)(g:Kp B w w'):iM B w' v l:=by
 obtain⟨ao,cap,hv,hm,F⟩:=h;refine⟨_,_,hv,hm,λi x hi=>?_⟩;obtain⟨b,off,vp,vl,vc,h1,d,h3,h4,h5,h6,h7,h8,h9⟩:=F i x hi;exact⟨b,_,_,_,_,h1,d,g.cell d h3,g.cell d h4,g.cell d h5,g.cell d h6,h7.kp g,h8.kp g,h9.kp g⟩
theorem fO.kp{v:M}{l:I eL}(h:fO B w v l)(g:Kp B w w'):fO B w' v l:=by
 obtain⟨ao,cap,hv,hm,F⟩:=h;refine⟨_,_,hv,hm,λi x hi=>?_⟩;obtain⟨b,off,vs,vp,h1,d,h3,h4,h5,h6,h7⟩:=F i x hi;exact⟨b,_,_,_,h1,d,g.cell d h3,g.cell d h4,g.cell d h5,h6,h7.kp g⟩
theorem fB.kp{v:M}{l:I cJ}(h:fB B w v l)(g:Kp B w w'):fB B w' v l:=by
 obtain⟨ao,cap,hv,hm,F⟩:=h;refine⟨_,_,hv,hm,λi x hi=>?_⟩;obtain⟨b,off,vs,h1,d,h3,h4,h5⟩:=F i x hi;exact⟨b,_,_,h1,d,g.cell d h3,g.cell d h4,h5⟩
theorem O3{p:Prop}(h:p:=by obtain⟨ao,cap,hv,hm,hc⟩:=h;refine⟨_,_,hv,hm,λi x hi=>?_⟩;obtain⟨b,off,h1,h2,h3⟩:=hc i x hi;exact⟨b,_,h1,wz hB h2,h3⟩):p:=h
theorem gO.mono{v:M}(h:gO B' w v l)(hB:B<=B'):gO B w v l:=by
 exact O3
theorem jd.mono{v:M}{l:I bP}(h:jd B' w v l)(hB:B<=B'):jd B w v l:=by
 exact O3
theorem gO.to{v:M}(h:gO B w v l):aY w v l:=by
 obtain⟨ao,cap,hv,hm,d⟩:=h;refine⟨_,_,hv,hm,λi hi=>?_⟩;obtain⟨b,off,F,h2,h3⟩:=d i _ (dW hi);exact⟨b,_,F,by rw[h3];simp[mh,hi]⟩
theorem jd.to{v:M}{l:I bP}(h:jd B w v l):eC w v l:=by
 obtain⟨ao,cap,hv,hm,d⟩:=h;refine⟨_,_,hv,hm,λi x hi=>?_⟩;obtain⟨b,off,F,h2,h3⟩:=d i x hi;exact⟨b,_,F,h3⟩
theorem gH.to{v:M}{l:I (I A)}(h:gH B w v l):cS w v l:=by
 obtain⟨ao,cap,hv,hm,d⟩:=h;refine⟨_,_,hv,hm,λi x hi=>?_⟩;obtain⟨b,off,vx,h1,h2,h3,F⟩:=d i x hi;exact⟨b,_,_,h1,h3,F.to⟩
theorem iM.to{v:M}{l:I aQ}(h:iM B w v l):eE w v l:=by
 obtain⟨ao,cap,hv,hm,d⟩:=h;refine⟨_,_,hv,hm,λi x hi=>?_⟩;obtain⟨b,off,vp,vl,vc,h1,h2,F,h4,h5,h6,h7,h8,h9⟩:=d i x hi;exact⟨b,_,_,_,_,h1,F,h4,h5,h6,h7.to,h8.to,h9.to⟩
theorem fO.to{v:M}{l:I eL}(h:fO B w v l):dS w v l:=by
 obtain⟨ao,cap,hv,hm,d⟩:=h;refine⟨_,_,hv,hm,λi x hi=>?_⟩;obtain⟨b,off,vs,vp,h1,h2,h3,F,h5,h6,h7⟩:=d i x hi;exact⟨b,_,_,_,h1,h3,F,h5,h6,h7.to⟩
theorem fB.to{v:M}{l:I cJ}(h:fB B w v l):ee w v l:=by
 obtain⟨ao,cap,hv,hm,d⟩:=h;refine⟨_,_,hv,hm,λi x hi=>?_⟩;obtain⟨b,off,vs,h1,h2,h3,F,h5⟩:=d i x hi;exact⟨b,_,_,h1,h3,F,h5⟩
theorem gO.shape{v:M}(h:gO B w v l):∃ao cap,v=J ao (D l) cap:=by
 exact NR
theorem jd.shape{v:M}{l:I bP}(h:jd B w v l):∃ao cap,v=J ao (D l) cap:=by
 exact NR
def jf{α:Type}(f:I AI->By (α×I AI)):R->I AI->By (I α×I AI)
 | 0,r=>Y ([],r)
 | n+1,r=>match f r with
  | none=>G
  | some (y,r1)=>match jf f n r1 with
   | none=>G
   | some (ys,r2)=>Y (y::ys,r2)
def aV{α:Type}(f:I AI->By (α×I AI))(r:I AI):By (I α×I AI):=match cW 0 0 r with
 | none=>G
 | some (n,r1)=>if n<=D r1 then jf f n r1 else G
def lZ{α:Type}(ys:I α):By (I α×I AI)->By (I α×I AI)
 | none=>G
 | some (zs,r)=>Y (ys++zs,r)
theorem kf{α:Type}(o:By (I α×I AI)):lZ [] o=o:=by cases o<;>rfl
theorem jh{α:Type}{f:I AI->By (α×I AI)}{ys:I α}{r1:I AI}{y:α}(h:f r=Y (y,r1)):lZ ys (jf f (m+1) r)=lZ (ys++[y]) (jf f m r1):=by
 simp only[jf,h];cases jf f m r1 with
 | none=>rfl
 | some p=>obtain⟨zs,r2⟩:=p;simp[lZ]
theorem jW{α:Type}{f:I AI->By (α×I AI)}{ys:I α}(h:f r=G):lZ ys (jf f (m+1) r)=G:=by
 simp only[jf,h];rfl
theorem kh{α:Type}{f:I AI->By (α×I AI)}{ys:I α}:lZ ys (jf f 0 r)=Y (ys,r):=by simp[jf,lZ]
theorem mJ(w:T)(d:Array M)(t:TypeId)(j:R)(F:j<d.size):(∃x,H (w.alloc (X d t)) (Q w.heap.size j G)=Y x)/\(w.alloc (X d t)).frozen? ⟨w.heap.size,j,G⟩=AS:=by
 have h:=jZ w (X d t);refine⟨⟨d[j],?_⟩,?_⟩
 · rw[cell_of_row _ _ j d t _ h];simp[F]
 unfold World.frozen?;rw[h];simp
theorem lA(h:∀j,j<n->(∃x,H w (Q g j G)=Y x)/\w.frozen? ⟨g,j,G⟩=AS)(k:Kp g w w')(hg:g<w.heap.size):∀j,j<n->(∃x,H w' (Q g j G)=Y x)/\w'.frozen? ⟨g,j,G⟩=AS:=by
 intro j F;obtain⟨⟨x,d⟩,hz⟩:=h j F;exact⟨⟨x,k.cell lj d⟩,(zc (k g lj hg)).trans hz⟩
theorem gR{v:M}(h:∀j,j<n->(∃x,H w (Q g j G)=Y x)/\w.frozen? ⟨g,j,G⟩=AS):∀j,j<n->(∃x,H (w.setCell (Q g o G) v) (Q g j G)=Y x)/\(w.setCell (Q g o G) v).frozen? ⟨g,j,G⟩=AS:=by
 intro j F;obtain⟨⟨x,d⟩,hz⟩:=h j F;refine⟨?_,by rw[iI];exact hz⟩;by_cases e:o=j
 · subst e;exact⟨v,tO w _ _ d⟩
 exact⟨x,(Cn w _ _ _ (by intro h;simp only[Ij]at h;exact e h.2.1)).trans d⟩
theorem aO{j:R}{v:M}(h:¬o=j):H (w.setCell (Q g o G) v) (Q g j G)=H w (Q g j G):=
 Cn w _ _ _ (by intro e;simp only[Ij]at e;exact h e.2.1)
theorem bX{v:M}(h:mE w cb r e a)(No:¬g=cb):mE (w.setCell (Q g o G) v) cb r e a:=by
 obtain⟨⟨s,F,h1⟩,h2,h3,h4,h5,h6⟩:=h;have d:∀q,H (w.setCell (Q g o G) v) _=H w (Q _ q G):=λq=>Cn w _ _ _ (by intro e;simp only[Ij]at e;exact No e.1)
 exact⟨⟨s,(d 0).trans F,h1⟩,h2,(d 1).trans h3,(d 3).trans h4,by rw[iI];exact h5,(d 2).trans h6⟩
theorem bw(h:Gc cb w w'){g o:R}{v:M}(d:w.heap.size<=g):Gc cb w (w'.setCell (Q g o G) v):=
 ⟨h.os,h.tape,h.output,Rh,λi hi No=>by rw[dp _ _ _ _ (by show i≠g;omega)];exact h.block i hi No⟩
theorem mP{α:Type}{ys:I α}{y z:α}{j:R}(h:(ys++[y])[j]? =Y z):(ys[j]? =Y z/\j<D ys)\/(j=D ys/\z=y):=by
 by_cases d:j<D ys
 · left;rw[ze d]at h;exact⟨h,d⟩
 right
 rw[Ag Q5]at h;by_cases e:j-D ys=0
 · rw[e]at h;simp at h;exact⟨Q5,h.symm⟩
 rw[AK jB]at h;cases h
theorem Tryz.rinfo_rlist_whole:(Tryz.prog.info? 3).map (λi=>(i.zero,i.size,i.bytes))=Y (Y (O Z 0),1,8):=Q7
theorem Nl{p:Prop}(h:p:=by
 have hd:decide (n<=s.size)=AS:=Si
 clear h hg hn hs hl hz S7 hle;go_wp2;go_region_with (first|(go_at_call 53;refine(bA _ _ _).mono ?_;rintro e w' ⟨rfl,BY⟩;refine an ?_))
 all_goals exact⟨rfl,R7⟩):p:=h
theorem QA{p:Prop}(h:p:=by rw[HN,Vo,jh hf,show n-(k+1)=m by have:=Vo.j;omega]):p:=h
theorem Sp{p:Prop}(h:p:=by simpa using Ve):p:=h
theorem Nz{p:Prop}(h:p:=by
 obtain⟨y,r4⟩:=p;obtain⟨v,rfl,hy,IS,hg⟩:=h.some_ hf;have Vt:U (jf _ n _=lZ _ (jf _ (n-(k+1)) _)):=aJ QA;have Ui:Kp (w'.heap.size) _ _:=hg.kp Q5;have Ve:=tu S7 hg.size;have Tk:=aJ (lA Uy Ui S7);have Ux:=aJ IS;have Tg:=aJ (Te.trans hg);have Uq:=aJ Ui;have HY:=aJ hy;clear h hf IS Ui;have hv:=HY.j;subst hv;obtain⟨⟨x0,US⟩,TU⟩:=Tk k Q5;have Wa:(0:A)<=k:=Q5;have VD:(k:A)<n:=Q5;clear hg;go_wp2;go_roundw
 case rel=>
  have Tz:=Vp.j;refine⟨_,_,_,Q5,QZ,by simp[Tz],bX Ux Q5,bw Tg Uu,Vt,Sp,gR Tk,λj z hj=>?_⟩;rcases mP hj with⟨h1,h2⟩|⟨h1,h2⟩
  · rw[aO Q5];exact Uq.cell lj (U5 j z h1)
  subst h1;subst h2;rw[Tz];exact tO _ _ _ US
 case measure=>simp[intOf];omega):p:=h
theorem NK{p:Prop}(h:p:=by obtain⟨rfl,hg⟩:=h.none_ hf;exact⟨rfl,by rw[HE,HN,Vo,jW hf];exact⟨rfl,Te.trans hg⟩⟩):p:=h
theorem NP{p:Prop}(h:p:=by obtain⟨rfl,hg⟩:=h.none_ hn;exact⟨rfl,by unfold aV;rw[hn];exact⟨rfl,hg⟩⟩):p:=h
theorem QB{p:Prop}(h:p:=by unfold maxLen;omega):p:=h
theorem Sq{p:Prop}(h:p:=by rw[HE,HN,Lf,kh]):p:=h
theorem N3{p:Prop}(h:p:=by
 have TN:k=n:=by omega
 subst TN;have UE:U (aV _ r=Y _):=aJ Sq;go_wp2;go_ret
 rw[UE];refine⟨_,rfl,?_,T6,Te⟩;have Tz:=Vp.j;show gO B wr (J (Y (Q w'.heap.size 0 G)) k k) ys
 refine⟨_,k,by rw[Tz],QB,λi y hi=>?_⟩;have hq:=U5 i y hi;exact⟨_,0,rfl,VU,by rw[Aq];exact hq⟩):p:=h
theorem OM{p:Prop}(h:p:=by refine⟨0,_,_,Lz,rfl,rfl,Tr.gr G5,OF.trans (G5).toGc,by rw[kf];rfl,Q6,λj hj=>?_,λj y hy=>by simp at hy⟩;exact mJ _ S8 3 j (by rw[HM];exact hj)):p:=h
theorem Pg{p:Prop}(h:p:=by intro V;have h:=Ng V 26 3 _ _ underlying26 hi TU .u64 .u64 n n Q5 Q5 (by rw[TO];omega) Q5;rw[<-hM]at h;simpa using h):p:=h
theorem QI{p:Prop}(h:p:=by unfold aV;rw[hn];simp only[mI hle]):p:=h
theorem QJ{p:Prop}(h:p:=by unfold aV;rw[hn];simp only[eP hle]):p:=h
theorem yZ(cb B:R)(r:I AI)(e a:A)(w:T)(hc:mE w cb r e a)(hb:cb<B)(hB:B<=w.heap.size):
 Calls prog 111 #[.pointer (Y (Q cb 0 G)),.func (.func 112) #[] #[]] w (tX cb e a w (λw' v (y:I A)=>gO B w' v y) (aV cI r)):=by
 have HC:=aJ hc;clear hc;go_enter func111,ntmps111
 go_wp2_with fail;refine(fS _ r e a _ HC).mono ?_;intro x w1 h;cases hn:cW 0 0 r with
 | none=>
  exact NP
 | some p=>
  obtain⟨n,r1⟩:=p;obtain⟨v,rfl,rfl,IS,hg⟩:=h.some_ hn;have Td:=aJ hg;have ak:=aJ IS;obtain⟨⟨s,h0,hs⟩,hl,h1,h2,hz,hj⟩:=IS;have S7:s.size=D r1:=RB
  have ai:IntKind.u64.wrap _=s.size:=FP _ Q5;by_cases hle:n<=D r1
  · have HE:U (aV cI r=jf cI n r1):=aJ QI;have hd:(n:A)<=s.size:=by omega
    have av:n<=1000000:=Q5;clear h hg hn hs hl hz S7 hle;go_wp2;go_region_held3 (λw'=>H w' (Q cb 0 G)=Y (.string s)/\H w' (Q cb 1 G)=Y (O Z e)/\H w' (Q cb 3 G)=Y (O Z a)/\H w' (Q cb 2 G)=Y (O Z 0)) (first|go_keep|(refine⟨?_,?_,?_,?_⟩<;>exact BY.cell Q8 Q6)) (first|(go_at_call 53;refine(aj _ _ _).mono ?_;rintro e w' ⟨rfl,BY⟩))
    have Tr:=aJ (ak.gr (Gr.trans Gy BY));have OF:=aJ (Td.trans (Gr.trans Gy BY).toGc);clear BY h0 h1 h2 hj ai hd;obtain⟨i0,hi,TU,Ty,TO⟩:=Lt Tryz.rinfo_rlist_whole;obtain⟨S8,hM⟩:∃S8,S8=madeCells (O Z 0).cells ((n:A).toNat*i0.size):=⟨_,rfl⟩;have ae:S8.size=n*1:=Ru
    have al:∀V,(Instr.makeSlice 26 (.int .u64 n) (.int .u64 n)).run prog V=.ok (J (Y (Q V.heap.size 0 G)) n n) (V.alloc (X S8 3)):=by
     exact Pg
    have HM:=aJ ae;clear hM ae hi TU Ty TO;go_wp2;have VU:=wz hB OF.size;have Uu:=OF.size;go_loopw[27] (λi wr=>∃(k:R) (ys:I A) (rk:I AI),k<=n/\i=O Z k/\D ys=k/\mE wr cb rk e a/\Gc cb w wr/\jf cI n r1=lZ ys (jf cI (n-k) rk)/\w'.heap.size<wr.heap.size/\(∀j,j<n*1->(∃x,H wr (Q w'.heap.size j G)=Y x)/\wr.frozen? ⟨w'.heap.size,j,G⟩=AS)/\∀j y,ys[j]? =Y y->H wr (Q w'.heap.size j G)=Y (O Z y)) λi _=>n-(intOf i).toNat
    case atStart=>
     exact OM
    case round=>
     obtain⟨k,ys,rk,hk,rfl,Tz,IS,F,af,S7,d,ad⟩:=hrel;have HN:=aJ af;have U5:=aJ ad;have Uy:=aJ d;have Te:=aJ F;have T6:=aJ IS;have Vp:=aJ Tz;clear af ad d F IS Tz al;by_cases IN:k<n
     · obtain⟨m,hm⟩:∃m,n-k=m+1:=⟨n-k-1,Q5⟩;have Vo:=aJ hm;clear hm;go_wp2_with fail;refine(ij _ _ e a _ T6).mono ?_;intro x w4 h;cases hf:cI rk with
       | none=>
        exact NK
       | some p=>
        exact Nz
     exact N3
  have HE:U (aV cI r=G):=aJ QJ;exact Nl
theorem Tryz.rinfo_rlist_signed:(Tryz.prog.info? 3).map (λi=>(i.zero,i.size,i.bytes))=Y (Y (O Z 0),1,8):=Q7
theorem vY(cb B:R)(r:I AI)(e a:A)(w:T)(hc:mE w cb r e a)(hb:cb<B)(hB:B<=w.heap.size):
 Calls prog 111 #[.pointer (Y (Q cb 0 G)),.func (.func 59) #[] #[]] w (tX cb e a w (λw' v (y:I A)=>gO B w' v y) (aV bn r)):=by
 have HC:=aJ hc;clear hc;go_enter func111,ntmps111
 go_wp2_with fail;refine(fS _ r e a _ HC).mono ?_;intro x w1 h;cases hn:cW 0 0 r with
 | none=>
  exact NP
 | some p=>
  obtain⟨n,r1⟩:=p;obtain⟨v,rfl,rfl,IS,hg⟩:=h.some_ hn;have Td:=aJ hg;have ak:=aJ IS;obtain⟨⟨s,h0,hs⟩,hl,h1,h2,hz,hj⟩:=IS;have S7:s.size=D r1:=RB
  have ai:IntKind.u64.wrap _=s.size:=FP _ Q5;by_cases hle:n<=D r1
  · have HE:U (aV bn r=jf bn n r1):=aJ QI;have hd:(n:A)<=s.size:=by omega
    have av:n<=1000000:=Q5;clear h hg hn hs hl hz S7 hle;go_wp2;go_region_held3 (λw'=>H w' (Q cb 0 G)=Y (.string s)/\H w' (Q cb 1 G)=Y (O Z e)/\H w' (Q cb 3 G)=Y (O Z a)/\H w' (Q cb 2 G)=Y (O Z 0)) (first|go_keep|(refine⟨?_,?_,?_,?_⟩<;>exact BY.cell Q8 Q6)) (first|(go_at_call 53;refine(aj _ _ _).mono ?_;rintro e w' ⟨rfl,BY⟩))
    have Tr:=aJ (ak.gr (Gr.trans Gy BY));have OF:=aJ (Td.trans (Gr.trans Gy BY).toGc);clear BY h0 h1 h2 hj ai hd;obtain⟨i0,hi,TU,Ty,TO⟩:=Lt Tryz.rinfo_rlist_signed;obtain⟨S8,hM⟩:∃S8,S8=madeCells (O Z 0).cells ((n:A).toNat*i0.size):=⟨_,rfl⟩;have ae:S8.size=n*1:=Ru
    have al:∀V,(Instr.makeSlice 26 (.int .u64 n) (.int .u64 n)).run prog V=.ok (J (Y (Q V.heap.size 0 G)) n n) (V.alloc (X S8 3)):=by
     exact Pg
    have HM:=aJ ae;clear hM ae hi TU Ty TO;go_wp2;have VU:=wz hB OF.size;have Uu:=OF.size;go_loopw[27] (λi wr=>∃(k:R) (ys:I A) (rk:I AI),k<=n/\i=O Z k/\D ys=k/\mE wr cb rk e a/\Gc cb w wr/\jf bn n r1=lZ ys (jf bn (n-k) rk)/\w'.heap.size<wr.heap.size/\(∀j,j<n*1->(∃x,H wr (Q w'.heap.size j G)=Y x)/\wr.frozen? ⟨w'.heap.size,j,G⟩=AS)/\∀j y,ys[j]? =Y y->H wr (Q w'.heap.size j G)=Y (O Z y)) λi _=>n-(intOf i).toNat
    case atStart=>
     exact OM
    case round=>
     obtain⟨k,ys,rk,hk,rfl,Tz,IS,F,af,S7,d,ad⟩:=hrel;have HN:=aJ af;have U5:=aJ ad;have Uy:=aJ d;have Te:=aJ F;have T6:=aJ IS;have Vp:=aJ Tz;clear af ad d F IS Tz al;by_cases IN:k<n
     · obtain⟨m,hm⟩:∃m,n-k=m+1:=⟨n-k-1,Q5⟩;have Vo:=aJ hm;clear hm;go_wp2_with fail;refine(qd _ _ e a _ T6).mono ?_;intro x w4 h;cases hf:bn rk with
       | none=>
        exact NK
       | some p=>
        exact Nz
     exact N3
  have HE:U (aV bn r=G):=aJ QJ;exact Nl
def cP(r:I AI):By (I A×I AI):=aV cI r
theorem mG(cb B:R)(r:I AI)(e a:A)(w:T)(hc:mE w cb r e a)(hb:cb<B)(hB:B<=w.heap.size):
 Calls prog 56 #[.pointer (Y (Q cb 0 G))] w (tX cb e a w (λw' v (y:I A)=>gO B w' v y) (cP r)):=by
 have HC:=aJ hc;go_enter func56,ntmps56
 go_wp2_with fail;refine(yZ _ B r e a _ HC hb hB).mono ?_;intro x w1 h;cases d:cP r with
 | none=>
  obtain⟨rfl,F⟩:=h.none_ d;exact⟨rfl,by rw[d];exact⟨rfl,F⟩⟩
 | some p=>
  obtain⟨y,r1⟩:=p;obtain⟨v,rfl,hy,IS,F⟩:=h.some_ d;have H1:=aJ hy;have H2:=aJ IS;have H3:=aJ F;have H4:=aJ d;go_wp2;go_ret
  rw[H4];exact⟨_,rfl,H1,H2,H3⟩
end Go.Proofs.YtghjmnlapcpbiaaGreatDoor
