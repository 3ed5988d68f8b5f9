import Derived.Lib.SlBytesConst
import Derived.Test.YtghjmnlapcpbiaaGreatDoorChecked
import Derived.WalkKit
import Derived.WalkSmall
import Derived.Deep.LoopGhost
import Derived.Deep.QuietTactic
import Derived.BigQuiet
import Derived.Deep.RegionHeld3
import Derived.Deep.RegionWith
import Derived.Deep.DrawnRows
import Derived.Maps.AppendAt
import Derived.Lib.AppendStr
namespace Go.Proofs.YtghjmnlapcpbiaaGreatDoor
open _root_ renaming Option.some->Y,Option.none->G,Go.Value.int->O,Go.IntKind.i64->Z,Go.Value.slice->J,List->I,Nat->R,Int->A,Go.World.cell?->H,List.length->D,Go.Obj.cells->X,Go.Value->M,Go.World->T,Go.Addr.mk->Q,Go.RowKit.Hid->U,UInt8->AI,Bool.false->AS,Bool.true->AT,Option->By
open Go.Proofs.Tryz
open Go.RowKit
set_option linter.defProp false
variable{args:Array M}{e n:A}{l:I A}{k q:R}{W b w w':T}
def dm:=@List.getElem?_eq_some_iff.{0}
def dL:=@List.mem_of_getElem?.{0}
def dW:=@List.getElem?_eq_getElem.{0}
def eP:=@if_neg.{1}
def fe:=@List.length_append.{0}
def jj:=@Value.slice.injEq
def mh:=@List.getD_eq_getElem?_getD.{0}
def mI:=@if_pos.{1}
def tu:=@Nat.lt_of_lt_of_le
def wz:=@Nat.le_trans
def wI:=@World.block_lt_of_cell?
def zl:=@List.all_eq_true.{0}
def zp:=@World.grownBy_alloc
def zx:=@List.append_assoc.{0}
def Aj:=@Array.length_toList.{0}
def AB:=@List.take_succ_eq_append_getElem.{0}
def A7:=@Int.toNat_natCast
def Bt:=@true_and
def FP:=@Go.IntWalk.u64_in
def I':=@List.flatMap_cons.{0,0}
def Jk:=@List.length_cons.{0}
def Jl:=@Nat.mul_le_mul_right
def JH:=@List.take_of_length_le.{0}
def Ka:=@List.flatMap_append.{0,0}
def KA:=@if_true.{1}
def KV:=@List.take_append_drop.{0}
def K3:=@Int.tmod_eq_emod_of_nonneg
def Lb:=@Nat.mod_eq_of_lt
def Ld:=@Go.IntWalk.i64_in
def Lp:=@Int.tdiv_eq_ediv_of_nonneg
def LV:=@Nat.add_mul
def LY:=@IntKind.wrap_u8
def LZ:=@UInt8.toNat_ofNat'
def L2:=@List.getElem_mem.{0}
def L3:=@if_false.{1}
def MH:=@Nat.div_lt_iff_lt_mul
def MZ:=@Bool.true_and
def M0:=@Bool.and_true
def M5:=@BitVec.toNat_ofNat
theorem _root_.Go.RowKit.Hid.j{p:Prop}(h:RowKit.Hid p):p:=h
theorem sA {α : Type} (l : I α) (i : R) (a : α) : l.toArray.setIfInBounds i a=(l.set i a).toArray:=List.setIfInBounds_toArray ..
theorem s0 {α : Type} (x a : α) (l : I α) :(x::l).set 0 a=a::l:=rfl
theorem s1 {α : Type} (x a : α) (n : R) (l : I α) :(x::l).set (n+1) a=x::l.set n a:=rfl
theorem Q0 {p : Prop} (h : p:=by repeat (first | exact G0 | assumption | refine Gr.drew ?_ | refine Gr.alloc ?_ _ | refine Gr.trans ?_ (by assumption))) : p:=h
theorem Q1 {p : Prop} (h : p:=by repeat (first | assumption | with_reducible exact dZ _ _ _ | with_reducible exact AR _ _ _ | with_reducible exact(fA _ _ _ _).1 | with_reducible exact(fA _ _ _ _).2 | with_reducible refine Db ?_ | with_reducible refine(zp _ _ G).cell ?_ (by simp) | refine World.grownBy.cell (row:=G) (by assumption) ?_ (by simp))) : p:=h
theorem Q2 {p : Prop} (h : p:=by repeat (first | with_reducible exact G0 | with_reducible refine Gr.drew ?_ | with_reducible refine Gr.alloc ?_ _ | refine Gr.trans ?_ (by assumption))) : p:=h
theorem Q3 {p : Prop} (h : p:=by repeat (first | with_reducible exact G0 | with_reducible refine Gr.drew ?_ | with_reducible refine Gr.alloc ?_ _)) : p:=h
theorem Q5 {p : Prop} (h : p:=by omega) : p:=h
theorem Q6 {p : Prop} (h : p:=by simp) : p:=h
theorem Q7 {p : Prop} (h : p:=by kernel_rfl) : p:=h
theorem Q8 {p : Prop} (h : p:=by assumption) : p:=h
theorem Q9 {p : Prop} (h : p:=by decide) : p:=h
theorem fZ {p : Prop} (h : p:=by simp[Act.eval]) : p:=h
theorem jB {p : Prop} (h : p:=by (simp; omega)) : p:=h
theorem bZ {p : Prop} (h : p:=by rfl) : p:=h
theorem Q_ {n : A} (h : -9223372036854775808 <= n /\ n <= 9223372036854775807:=by omega) : Z.wrap n=n:=Ld n h
set_option maxRecDepth 100000
set_option maxHeartbeats 2000000
set_option linter.unusedVariables false
set_option linter.unusedSimpArgs false
structure bP where
 op:A
 a:A
 b:A
structure aQ where
 aH:I A
 result:A
 aI:I A
 code:I bP
structure eL where
 name:I AI
 aH:I A
 result:A
structure cJ where
 name:I AI
 func:A
structure aK where
 aA:I (I A)
 aE:I A
 aG:I aQ
 aC:I eL
 aD:I cJ
def wB(v l m:A):Bool:=decide (l<=v/\v<=m)
def iH(n k:A):Bool:=wB k 0 n
def ah(op:A):A:=
 if op=16\/op=17 then 2
 else if op=0\/op=1\/op=2\/op=3\/op=11\/op=12\/op=13\/op=15\/op=18\/op=19 then 1 else 0
def bR(v:A)(named:Bool):Bool:=if named then wB v 0 65535 else decide (v=0)
def bl(i:bP):Bool:=
 wB i.op 0 20&&((if i.op=1 then wB i.a (-2147483648) 2147483647 else bR i.a (decide (1<=ah i.op)))&&bR i.b (decide (2<=ah i.op)))
def ir(l:I bP):Bool:=wB (D l) 1 200&&l.all bl
def iG(ps:I A)(r n:A):Bool:=wB (D ps) 0 6&&(ps.all (iH n)&&iH n r)
def dA(n:A)(f:aQ):Bool:=iG f.aH f.result n&&(wB (D f.aI) 0 10&&(f.aI.all (iH n)&&ir f.code))
def cO(l:I aQ)(n:A):Bool:=wB (D l) 0 30&&l.all (dA n)
def fC(s:I AI):Bool:=wB (D s) 1 20
def gC(n:A)(i:eL):Bool:=fC i.name&&iG i.aH i.result n
def cG(l:I eL)(n:A):Bool:=wB (D l) 0 20&&l.all (gC n)
def fi(m:A)(e:cJ):Bool:=fC e.name&&wB e.func 0 (m-1)
def cH(l:I cJ)(m:A):Bool:=wB (D l) 0 20&&l.all (fi m)
def dM(n:A)(f:I A):Bool:=wB (D f) 1 8&&f.all (iH n)
def bh(l:I (I A)):Bool:=wB (D l) 0 20&&l.all (dM (D l))
def cm(l:I A):Bool:=wB (D l) 0 50
def bG(u:aK):Bool:=
 bh u.aA&&(cm u.aE&&(cO u.aG (D u.aA)&&(cG u.aC (D u.aA)&&cH u.aD (D u.aG))))
theorem dV{α:Type}{p:α->Bool}{l:I α}{x:α}(h:l[k]? =Y x):
 (l.take (k+1)).all p=((l.take k).all p&&p x):=by
 obtain⟨d,rfl⟩:=dm.1 h;rw[AB d,List.all_append];simp
theorem bN{α:Type}{p:α->Bool}{l:I α}{x:α}(h:l[k]? =Y x)(hp:p x=AS):l.all p=AS:=by
 obtain⟨F,rfl⟩:=dm.1 h;rw[Bool.eq_false_iff];intro d;rw[zl]at d;have:=d _ (L2 F)
 rw[hp]at this;cases this
theorem pF{α:Type}{p:α->Bool}{l:I α}(h:(l.take k).all p=AT)(d:¬k<D l):l.all p=AT:=by
 rwa [JH Q5]at h
abbrev yE(u:aK)(a1:By Addr)(c1:R)(a2:By Addr)(c2:R)(a3:By Addr)(c3:R)(a4:By Addr)(c4:R)(a5:By Addr)(c5:R):Array M:=#[J a1 (D u.aA) c1,J a2 (D u.aE) c2,J a3 (D u.aG) c3,J a4 (D u.aC) c4,J a5 (D u.aD) c5]
abbrev yF:Array M:=#[J G 0 0,J G 0 0,J G 0 0,J G 0 0,J G 0 0]
abbrev yI:Array M:=#[O Z 0,O Z 0,O Z 0,O Z 0,O Z 0,J G 0 0,O Z 0]
open Go.RowKit
attribute [local go_sem ↓] Go.wp_at_zero Go.wp_at_succ
theorem an{d:Prop}(h:wpAny prog .any #[] (λ_ _ _=>d) 0 #[] ⟨#[],[]⟩ default):d:=h.2
theorem aJ{p:Prop}(h:p):U p:=h
def KL(e a:A):M:=.agg #[O Z e,O Z 0,O Z a]
def iT(e a:A):I PanicEntry:=[{ v:=.iface 91 (KL e a),recovered:=AS }]
abbrev Gr(w w':T):Prop:=w.grownBy w' G
theorem Gr.refl(w:T):Gr w w:=World.grownBy.refl w G
theorem Gr.trans{a c:T}(h:Gr a b)(k:Gr b c):Gr a c:=
 ⟨k.os.trans h.os,k.tape.trans h.tape,k.output.trans h.output,wz h.size k.size,
  λi hi _=>(k.block i (tu hi h.size) Q6).trans (h.block i hi Q6)⟩
theorem Gr.alloc{a:T}(h:Gr a b)(o:Obj):Gr a (b.alloc o):=h.trans (zp b o G)
theorem Gr.drew{a:T}(h:Gr a b):Gr a b.drew:=⟨h.os,h.tape,h.output,h.size,h.block⟩
theorem G0:Gr w w:=Gr.refl _
theorem aj(e a:A)(w:T):
 Calls prog 53 #[.agg #[O Z e,O Z 0,O Z a],.bool AT] w λx w'=>
  x=.returned (.tuple #[])/\Gr w w':=by
 go_enter func53,ntmps53
 go_wp2;go_end0
 exact⟨rfl,(G0).alloc _⟩
theorem bA(e a:A)(w:T):
 Calls prog 53 #[.agg #[O Z e,O Z 0,O Z a],.bool AS] w λx w'=>
  x=.panicked (iT e a)/\Gr w w':=by
 go_enter func53,ntmps53
 go_wp2;exact⟨rfl,rfl,(G0).alloc _⟩
theorem RY{p:Prop}(h:p:=by simpa using h):p:=h
theorem bO(v l m:A)(w:T):
 Calls prog 113 #[O Z v,O Z l,O Z m] w λx w'=>
  x=.returned (.bool (wB v l m))/\w'=w:=by
 by_cases h:l<=v
 · have d:decide (l<=v)=AT:=by simpa using h
   go_enter func113,ntmps113
   go_wp2;go_ret
   exact⟨by simp[wB,h],rfl⟩
 have d:decide (l<=v)=AS:=RY
 go_enter func113,ntmps113
 go_wp2;go_ret
 exact⟨by simp[wB];omega,rfl⟩
def oJ(b:Bool)(e a:A):Ending:=if b then .returned (.tuple #[]) else .panicked (iT e a)
theorem D6(e a:A):oJ AT e a=.returned (.tuple #[]):=rfl
theorem E5(e a:A):oJ AS e a=.panicked (iT e a):=rfl
def aY(w:T)(v:M)(l:I A):Prop:=
 ∃ao cap,v=J ao (D l) cap/\D l<=maxLen/\∀i,i<D l->∃b off,ao=Y (Q b off G)/\H w ⟨b,off+i,G⟩=Y (O Z (l.getD i 0))
theorem aY.gr{v:M}(h:aY w v l)(g:Gr w w'):aY w' v l:=by
 obtain⟨ao,cap,hv,hm,d⟩:=h;refine⟨_,_,hv,hm,λi hi=>?_⟩;obtain⟨b,off,h1,F⟩:=d i hi;exact⟨b,_,h1,g.cell F Q6⟩
theorem vM(d:k<D l):
 (l.take (k+1)).all (iH n)=((l.take k).all (iH n)&&iH n (l.getD k 0)):=by
 rw[AB d,List.all_append];simp[mh,d]
theorem vZ{p:A->Bool}{x:Bool}(h:(l.take (k+1)).all p=x)(d:x=AS):U (l.all p=AS):=by
 have e:l.all p=((l.take (k+1)).all p&&(l.drop (k+1)).all p):=by rw[<-List.all_append,KV]
 exact aJ (by rw[e,h,d];rfl)
theorem Lz{n:R}:0<=n:=Nat.zero_le _
theorem Qh{p:Prop}(h:p:=by simp[intOf];omega):p:=h
theorem Ql{p:Prop}(h:p:=by simp[go_sem]):p:=h
theorem QZ{p:Prop}(h:p:=by go_num):p:=h
theorem SL{p:Prop}(h:p:=by rw[HF.j];rfl):p:=h
theorem jm(l:I A)(v:M)(n e a:A)(w:T)(hl:aY w v l):
 Calls prog 114 #[v,O Z n,.agg #[O Z e,O Z 0,O Z a]] w λx w'=>
  x=oJ (l.all (iH n)) e a/\Gr w w':=by
 obtain⟨ao,cap,rfl,hm,hc⟩:=hl;unfold maxLen at hm;go_enter func114,ntmps114
 go_wp2;go_loopw[10] (λi wr=>∃k:R,k<=D l/\i=O Z k/\(l.take k).all (iH n)=AT/\H wr (Q w.heap.size 0 G)=Y (O Z e)/\H wr (Q w.heap.size 1 G)=Y (O Z 0)/\H wr (Q w.heap.size 2 G)=Y (O Z a)/\Gr w wr) λi _=>D l-(intOf i).toNat
 case atStart=>exact⟨0,Lz,rfl,Q6,Ql,Ql,Ql,(G0).alloc _⟩
 obtain⟨k,hk,rfl,F,he,hn,ha,hg⟩:=hrel;by_cases IN:k<D l
 · obtain⟨b,off,ad,S6⟩:=hc k IN;subst ad;have HS:=aJ (vM (n:=n) IN);have d:=hg.cell S6 Q6;generalize l.getD k 0=x at d HS;cases hb:wB x 0 n
   · have HF:=vZ HS (by rw[F];simp[iH,hb]);go_wp2;go_region_with (first|(go_at_call 113;refine(bO _ _ _ _).mono ?_;rintro e w' ⟨rfl,rfl⟩)|(go_at_call 53;refine(bA _ _ _).mono ?_;rintro e w' ⟨rfl,BY⟩;refine an ?_))
     all_goals exact⟨rfl,SL,hg.drew.trans BY⟩
   have HT:U ((l.take (k+1)).all (iH n)=AT):=by rw[HS,F];simp[iH,hb,aJ]
   go_wp2;go_region_held3 (λw'=>H w' (Q w.heap.size 0 G)=Y (O Z e)/\H w' (Q w.heap.size 1 G)=Y (O Z 0)/\H w' (Q w.heap.size 2 G)=Y (O Z a)) (first|go_keep|exact⟨BY.cell Q8 Q6,BY.cell Q8 Q6,BY.cell Q8 Q6⟩) (first|(go_at_call 113;refine(bO _ _ _ _).mono ?_;rintro e w' ⟨rfl,rfl⟩)|(go_at_call 53;refine(aj _ _ _).mono ?_;rintro e w' ⟨rfl,BY⟩))
   all_goals go_wp2
   all_goals go_roundw
   case rel=>exact⟨_,Q5,QZ,HT,BY.cell he Q6,BY.cell hn Q6,BY.cell ha Q6,hg.drew.trans BY⟩
   case measure=>exact Qh
 go_wp2;go_end0
 have e1:l.take k=l:=JH Q5;rw[e1]at F;exact⟨by rw[F];rfl,hg⟩
theorem wh(v:A)(w:T):
 Calls prog 148 #[O Z v] w λx w'=>x=.returned (.bool (wB v 0 20))/\w'=w:=by
 go_enter func148,ntmps148
 go_wp2_with(go_at_call 113;refine(bO _ _ _ _).mono ?_;rintro e w' ⟨rfl,rfl⟩)
 go_ret
 exact⟨rfl,rfl⟩
theorem eX(v:A)(w:T):
 Calls prog 149 #[O Z v] w λx w'=>x=.returned (O Z (ah v))/\w'=w:=by
 go_enter func149,ntmps149
 go_wp2
 all_goals go_ret
 all_goals (refine⟨?_,rfl⟩;simp_all[ah])
theorem kU(w:T)(e a:A):H (w.alloc (X #[O Z e,O Z 0,O Z a] 91)) (Q w.heap.size 0 G)=Y (O Z e)/\H (w.alloc (X #[O Z e,O Z 0,O Z a] 91)) (Q w.heap.size 1 G)=Y (O Z 0)/\H (w.alloc (X #[O Z e,O Z 0,O Z a] 91)) (Q w.heap.size 2 G)=Y (O Z a):=by
 refine⟨?_,?_,?_⟩<;>simp[go_sem]
theorem G5{o:Obj}:Gr w (w.alloc o):=(Gr.refl _).alloc _
theorem Ol{p:Prop}(h:p:=by
 go_wp2;go_region_with (first|(go_at_call 113;refine(bO _ _ _ _).mono ?_;rintro e w' ⟨rfl,rfl⟩)|(go_at_call 53;refine(aj _ _ _).mono ?_;rintro e w' ⟨rfl,BY⟩))
 all_goals go_wp2
 all_goals go_end0
 all_goals exact⟨rfl,(G5).drew.trans BY⟩):p:=h
theorem Ot{p:Prop}(h:p:=by
 go_wp2;go_region_with (first|(go_at_call 113;refine(bO _ _ _ _).mono ?_;rintro e w' ⟨rfl,rfl⟩)|(go_at_call 53;refine(bA _ _ _).mono ?_;rintro e w' ⟨rfl,BY⟩;refine an ?_))
 all_goals exact⟨rfl,rfl,(G5).drew.trans BY⟩):p:=h
theorem FB(s:ByteArray)(e a:A)(w:T)(hs:s.size<=maxLen):
 Calls prog 123 #[.string s,.agg #[O Z e,O Z 0,O Z a]] w λx w'=>
  x=oJ (fC s.data.toList) e a/\Gr w w':=by
 unfold maxLen at hs;have d:fC s.data.toList=wB s.size 1 20:=by unfold fC;rw[Aj];rfl
 rw[d];cases F:wB s.size 1 20
 · go_enter func123,ntmps123
   exact Ot
 go_enter func123,ntmps123
 exact Ol
theorem iq(v:M)(l:I A)(e a:A)(w:T)(hv:∃ao cap,v=J ao (D l) cap)(hs:D l<=maxLen):
 Calls prog 60 #[v,.agg #[O Z e,O Z 0,O Z a]] w λx w'=>
  x=oJ (cm l) e a/\Gr w w':=by
 obtain⟨ao,cap,rfl⟩:=hv;unfold maxLen at hs;have d:cm l=wB _ 0 _:=rfl;rw[d];cases F:wB (D l) 0 50
 · go_enter func60,ntmps60
   exact Ot
 go_enter func60,ntmps60
 exact Ol
theorem R'{p:Prop}(h:p:=by rw[HF];rfl):p:=h
theorem SD{p:Prop}(h:p:=by simpa using hz):p:=h
theorem iK(v:A)(n:Bool)(e a:A)(w:T):
 Calls prog 150 #[O Z v,.bool n,.agg #[O Z e,O Z 0,O Z a]] w λx w'=>
  x=oJ (bR v n) e a/\Gr w w':=by
 cases n
 · by_cases hz:v=0
   · subst hz;go_enter func150,ntmps150
     go_wp2_with(first|(go_at_call 53;refine(aj _ _ _).mono ?_;rintro e w' ⟨rfl,BY⟩))
     go_end0
     exact⟨rfl,(G5).trans BY⟩
   have F:(v==0)=AS:=SD
   have HF:U (bR v AS=AS):=aJ (by simp[bR,hz]);go_enter func150,ntmps150
   go_wp2_with(first|(go_at_call 53;refine(bA _ _ _).mono ?_;rintro e w' ⟨rfl,BY⟩))
   exact⟨rfl,R',(G5).trans BY⟩
 cases d:wB v 0 65535
 · go_enter func150,ntmps150
   go_wp2;go_region_with (first|(go_at_call 113;refine(bO _ _ _ _).mono ?_;rintro e w' ⟨rfl,rfl⟩)|(go_at_call 53;refine(bA _ _ _).mono ?_;rintro e w' ⟨rfl,BY⟩;refine an ?_))
   all_goals exact⟨rfl,by simp[bR,d];rfl,(G5).drew.trans BY⟩
 go_enter func150,ntmps150
 go_wp2;go_region_with (first|(go_at_call 113;refine(bO _ _ _ _).mono ?_;rintro e w' ⟨rfl,rfl⟩)|(go_at_call 53;refine(aj _ _ _).mono ?_;rintro e w' ⟨rfl,BY⟩))
 all_goals go_wp2
 all_goals go_end0
 all_goals exact⟨by simp[bR,d];rfl,(G5).drew.trans BY⟩
theorem dX{f:FuncId}{b:Bool}{a:A}(h:Calls prog f args w λx w'=>x=oJ b e a/\Gr w w')(d:b=AT):
 Calls prog f args w λx w'=>x=.returned (.tuple #[])/\Gr w w':=by subst d;exact h
theorem iW{f:FuncId}{b:Bool}{a:A}(h:Calls prog f args w λx w'=>x=oJ b e a/\Gr w w')(d:b=AS):
 Calls prog f args w λx w'=>x=.panicked (iT e a)/\Gr w w':=by subst d;exact h
theorem NR{p:Prop}(h:p:=by obtain⟨ao,cap,hv,_⟩:=h;exact⟨_,_,hv⟩):p:=h
theorem aY.shape{v:M}(h:aY w v l):∃ao cap,v=J ao (D l) cap:=by
 exact NR
theorem Nu{p:Prop}(h:p:=by
 go_wp2;go_region_with (first|(go_at_call 113;refine(bO _ _ _ _).mono ?_;rintro e w' ⟨rfl,rfl⟩)|(go_at_call 53;refine(bA _ _ _).mono ?_;rintro e w' ⟨rfl,BY⟩;refine an ?_))
 all_goals exact⟨rfl,rfl,Q0⟩):p:=h
theorem jw(l:I A)(v:M)(r n e a:A)(w:T)(hR:aY w v l):
 Calls prog 119 #[v,O Z r,O Z n,.agg #[O Z e,O Z 0,O Z a]] w λx w'=>
  x=oJ (iG l r n) e a/\Gr w w':=by
 have hm:=hR.choose_spec.choose_spec.2.1;obtain⟨ao,cap,rfl⟩:=hR.shape;unfold maxLen at hm;have HR:=aJ hR;obtain⟨he,hn,ha⟩:=kU w e a;unfold iG;cases hb:wB (D l) 0 6
 · go_enter func119,ntmps119
   exact Nu
 cases hk:l.all (iH n)
 · have F:=aJ hk;go_enter func119,ntmps119
   go_wp2;go_region_held3 (λw'=>H w' (Q w.heap.size 0 G)=Y (O Z e)/\H w' (Q w.heap.size 1 G)=Y (O Z 0)/\H w' (Q w.heap.size 2 G)=Y (O Z a)) (first|go_keep|exact⟨BY.cell Q8 Q6,BY.cell Q8 Q6,BY.cell Q8 Q6⟩) (first|(go_at_call 113;refine(bO _ _ _ _).mono ?_;rintro e w' ⟨rfl,rfl⟩)|(go_at_call 53;refine(aj _ _ _).mono ?_;rintro e w' ⟨rfl,BY⟩))
   have T0:=BY.cell he Q6;have d:=BY.cell hn Q6;have Tl:=BY.cell ha Q6;go_wp2_with(first|(go_at_call 114;refine(iW (jm l _ n e a _ (by exact HR.j.gr Q0)) F.j).mono ?_;rintro e w2 ⟨rfl,IT⟩))
   exact⟨rfl,rfl,Q0⟩
 have F:=aJ hk;cases hr:wB r 0 n
 · go_enter func119,ntmps119
   go_wp2;go_region_held3 (λw'=>H w' (Q w.heap.size 0 G)=Y (O Z e)/\H w' (Q w.heap.size 1 G)=Y (O Z 0)/\H w' (Q w.heap.size 2 G)=Y (O Z a)) (first|go_keep|exact⟨BY.cell Q8 Q6,BY.cell Q8 Q6,BY.cell Q8 Q6⟩) (first|(go_at_call 113;refine(bO _ _ _ _).mono ?_;rintro e w' ⟨rfl,rfl⟩)|(go_at_call 53;refine(aj _ _ _).mono ?_;rintro e w' ⟨rfl,BY⟩))
   have T0:=BY.cell he Q6;have d:=BY.cell hn Q6;have Tl:=BY.cell ha Q6;go_wp2_with(first|(go_at_call 114;refine(dX (jm l _ n e a _ (by exact HR.j.gr Q0)) F.j).mono ?_;rintro e w2 ⟨rfl,IT⟩))
   have Ut:=IT.cell T0 Q6;have T9:=IT.cell d Q6;have VX:=IT.cell Tl Q6;go_region_with (first|(go_at_call 113;refine(bO _ _ _ _).mono ?_;rintro e w' ⟨rfl,rfl⟩)|(go_at_call 53;refine(bA _ _ _).mono ?_;rintro e w' ⟨rfl,BY⟩;refine an ?_))
   all_goals exact⟨rfl,by simp[iH,hr];rfl,Q0⟩
 go_enter func119,ntmps119
 go_wp2;go_region_held3 (λw'=>H w' (Q w.heap.size 0 G)=Y (O Z e)/\H w' (Q w.heap.size 1 G)=Y (O Z 0)/\H w' (Q w.heap.size 2 G)=Y (O Z a)) (first|go_keep|exact⟨BY.cell Q8 Q6,BY.cell Q8 Q6,BY.cell Q8 Q6⟩) (first|(go_at_call 113;refine(bO _ _ _ _).mono ?_;rintro e w' ⟨rfl,rfl⟩)|(go_at_call 53;refine(aj _ _ _).mono ?_;rintro e w' ⟨rfl,BY⟩))
 have T0:=BY.cell he Q6;have d:=BY.cell hn Q6;have Tl:=BY.cell ha Q6;go_wp2_with(first|(go_at_call 114;refine(dX (jm l _ n e a _ (by exact HR.j.gr Q0)) F.j).mono ?_;rintro e w2 ⟨rfl,IT⟩))
 have Ut:=IT.cell T0 Q6;have T9:=IT.cell d Q6;have VX:=IT.cell Tl Q6;go_region_with (first|(go_at_call 113;refine(bO _ _ _ _).mono ?_;rintro e w' ⟨rfl,rfl⟩)|(go_at_call 53;refine(aj _ _ _).mono ?_;rintro e w' ⟨rfl,BY⟩))
 all_goals go_wp2
 all_goals go_end0
 all_goals exact⟨by simp[iH,hr];rfl,Q0⟩
def cS(w:T)(v:M)(l:I (I A)):Prop:=
 ∃ao cap,v=J ao (D l) cap/\D l<=maxLen/\∀i x,l[i]? =Y x->∃b off vx,ao=Y (Q b off G)/\H w ⟨b,off+i,G⟩=Y vx/\aY w vx x
def eC(w:T)(v:M)(l:I bP):Prop:=
 ∃ao cap,v=J ao (D l) cap/\D l<=maxLen/\∀i x,l[i]? =Y x->∃b off,ao=Y (Q b off G)/\
  w.cell? ⟨b,off+i*3,G⟩=Y (O Z x.op)/\H w ⟨b,off+i*3+1,G⟩=Y (O Z x.a)/\H w ⟨b,off+i*3+2,G⟩=Y (O Z x.b)
def iU(v:M)(l:I AI):Prop:=∃s:ByteArray,v=.string s/\s.data.toList=l/\s.size<=maxLen
def eE(w:T)(v:M)(l:I aQ):Prop:=
 ∃ao cap,v=J ao (D l) cap/\D l<=maxLen/\∀i x,l[i]? =Y x->∃b off vp vl vc,ao=Y (Q b off G)/\
  w.cell? ⟨b,off+i*4,G⟩=Y vp/\H w ⟨b,off+i*4+1,G⟩=Y (O Z x.result)/\H w ⟨b,off+i*4+2,G⟩=Y vl/\H w ⟨b,off+i*4+3,G⟩=Y vc/\
  aY w vp x.aH/\aY w vl x.aI/\eC w vc x.code
def dS(w:T)(v:M)(l:I eL):Prop:=
 ∃ao cap,v=J ao (D l) cap/\D l<=maxLen/\∀i x,l[i]? =Y x->∃b off vs vp,ao=Y (Q b off G)/\
  w.cell? ⟨b,off+i*3,G⟩=Y vs/\H w ⟨b,off+i*3+1,G⟩=Y vp/\H w ⟨b,off+i*3+2,G⟩=Y (O Z x.result)/\
  iU vs x.name/\aY w vp x.aH
def ee(w:T)(v:M)(l:I cJ):Prop:=
 ∃ao cap,v=J ao (D l) cap/\D l<=maxLen/\∀i x,l[i]? =Y x->∃b off vs,ao=Y (Q b off G)/\
  w.cell? ⟨b,off+i*2,G⟩=Y vs/\H w ⟨b,off+i*2+1,G⟩=Y (O Z x.func)/\iU vs x.name
def bV(w:T)(v:M)(u:aK):Prop:=
 ∃v1 v2 v3 v4 v5,v=.agg #[v1,v2,v3,v4,v5]/\cS w v1 u.aA/\aY w v2 u.aE/\eE w v3 u.aG/\dS w v4 u.aC/\ee w v5 u.aD
theorem cS.gr{v:M}{l:I (I A)}(h:cS w v l)(g:Gr w w'):cS w' v l:=by
 obtain⟨ao,cap,hv,hm,d⟩:=h;refine⟨_,_,hv,hm,λi x hi=>?_⟩;obtain⟨b,off,vx,h1,F,h3⟩:=d i x hi;exact⟨b,_,_,h1,g.cell F Q6,h3.gr g⟩
theorem eC.gr{v:M}{l:I bP}(h:eC w v l)(g:Gr w w'):eC w' v l:=by
 obtain⟨ao,cap,hv,hm,d⟩:=h;refine⟨_,_,hv,hm,λi x hi=>?_⟩;obtain⟨b,off,h1,h2,h3,F⟩:=d i x hi;exact⟨b,_,h1,g.cell h2 Q6,g.cell h3 Q6,g.cell F Q6⟩
theorem eE.gr{v:M}{l:I aQ}(h:eE w v l)(g:Gr w w'):eE w' v l:=by
 obtain⟨ao,cap,hv,hm,d⟩:=h;refine⟨_,_,hv,hm,λi x hi=>?_⟩;obtain⟨b,off,vp,vl,vc,h1,h2,F,h4,h5,h6,h7,h8⟩:=d i x hi;exact⟨b,_,_,_,_,h1,g.cell h2 Q6,g.cell F Q6,g.cell h4 Q6,g.cell h5 Q6,h6.gr g,h7.gr g,h8.gr g⟩
theorem dS.gr{v:M}{l:I eL}(h:dS w v l)(g:Gr w w'):dS w' v l:=by
 obtain⟨ao,cap,hv,hm,d⟩:=h;refine⟨_,_,hv,hm,λi x hi=>?_⟩;obtain⟨b,off,vs,vp,h1,h2,h3,F,h5,h6⟩:=d i x hi;exact⟨b,_,_,_,h1,g.cell h2 Q6,g.cell h3 Q6,g.cell F Q6,h5,h6.gr g⟩
theorem ee.gr{v:M}{l:I cJ}(h:ee w v l)(g:Gr w w'):ee w' v l:=by
 obtain⟨ao,cap,hv,hm,d⟩:=h;refine⟨_,_,hv,hm,λi x hi=>?_⟩;obtain⟨b,off,vs,h1,h2,h3,F⟩:=d i x hi;exact⟨b,_,_,h1,g.cell h2 Q6,g.cell h3 Q6,F⟩
theorem bV.gr{v:M}{u:aK}(h:bV w v u)(g:Gr w w'):bV w' v u:=by
 obtain⟨v1,v2,v3,v4,v5,h,h1,h2,h3,d,F⟩:=h;exact⟨_,_,_,_,_,h,h1.gr g,h2.gr g,h3.gr g,d.gr g,F.gr g⟩
theorem cS.shape{v:M}{l:I (I A)}(h:cS w v l):∃ao cap,v=J ao (D l) cap:=by
 exact NR
theorem eC.shape{v:M}{l:I bP}(h:eC w v l):∃ao cap,v=J ao (D l) cap:=by
 exact NR
theorem eE.shape{v:M}{l:I aQ}(h:eE w v l):∃ao cap,v=J ao (D l) cap:=by
 exact NR
theorem aU{α:Type}{l:I α}(h:k<D l):∃x,l[k]? =Y x:=⟨l[k],dW h⟩
def bc(l:I AI):I M:=l.map λb=>Value.int .u8 b.toNat
theorem Tryz.info5:(Tryz.prog.info? 5).map (λi=>(i.zero,i.size,i.bytes))=Y (Y (.int .u8 0),1,1):=Q7
section
variable {ops:Array Oper} {rest:I Oper} {o:Oper} {a:Act} {QQq:Exit->Act->T->Prop}
end
def jL:R->R->I AI
 | 0,v=> [UInt8.ofNat v]
 | k+1,v=>if v<128 then [UInt8.ofNat v] else UInt8.ofNat (v%128+128)::jL k (v/128)
def num(v:R):I AI:=jL 10 v
theorem nO:∀k q:R,D (jL k q)<=k+1/\1<=D (jL k q)
 | 0,q=>by simp[jL]
 | k+1,q=>by
  have:=nO k (q/128)
  unfold jL;split
  · simp
  simp;omega
theorem dJ(q:R):D (num q)<=11:=(nO 10 q).1
theorem mT(h:q<128):jL k q=[UInt8.ofNat q]:=by cases k<;>simp[jL,h]
theorem sU(h:¬q<128):jL (k+1) q=UInt8.ofNat (q%128+128)::jL k (q/128):=by simp[jL,h]
def qC(v:A):R:=if v<0 then (-2*v-1).toNat else (2*v).toNat
theorem Dy(d:-9223372036854775808<=n)(F:n<=9223372036854775807):qC n<18446744073709551616:=by unfold qC;split<;>omega
theorem PG{p:Prop}(h:p:=by rw[BitVec.toNat_xor,BitVec.toNat_allOnes,M5,BitVec.toNat_not,M5,Lb hx]at h;exact h):p:=h
theorem DV{x:R}(hx:x<18446744073709551616):18446744073709551615^^^x=18446744073709551615-x:=by
 have h:=congrArg BitVec.toNat (BitVec.allOnes_xor (x:=BitVec.ofNat 64 x));exact PG
theorem a_(h:Below W.heap.size W w){a:Addr}{x:M}(d:H W a=Y x):H w a=Y x:=
 (h.cell (wI W a d)).trans d
theorem aY.below{v:M}(h:aY W v l)(g:Below W.heap.size W w):aY w v l:=by
 obtain⟨ao,cap,hv,hm,d⟩:=h;refine⟨_,_,hv,hm,λi hi=>?_⟩;obtain⟨b,off,h1,F⟩:=d i hi;exact⟨b,_,h1,a_ g F⟩
section
variable {ops:Array Oper} {rest:I Oper} {o:Oper} {a:Act} {QQq:Exit->Act->T->Prop}
end
theorem cS.below{v:M}{l:I (I A)}(h:cS W v l)(g:Below W.heap.size W w):cS w v l:=by
 obtain⟨ao,cap,hv,hm,d⟩:=h;refine⟨_,_,hv,hm,λi x hi=>?_⟩;obtain⟨b,off,vx,h1,F,h3⟩:=d i x hi;exact⟨b,_,_,h1,a_ g F,h3.below g⟩
theorem eC.below{v:M}{l:I bP}(h:eC W v l)(g:Below W.heap.size W w):eC w v l:=by
 obtain⟨ao,cap,hv,hm,d⟩:=h;refine⟨_,_,hv,hm,λi x hi=>?_⟩;obtain⟨b,off,h1,h2,h3,F⟩:=d i x hi;exact⟨b,_,h1,a_ g h2,a_ g h3,a_ g F⟩
theorem eE.below{v:M}{l:I aQ}(h:eE W v l)(g:Below W.heap.size W w):eE w v l:=by
 obtain⟨ao,cap,hv,hm,d⟩:=h;refine⟨_,_,hv,hm,λi x hi=>?_⟩;obtain⟨b,off,vp,vl,vc,h1,h2,F,h4,h5,h6,h7,h8⟩:=d i x hi;exact⟨b,_,_,_,_,h1,a_ g h2,a_ g F,a_ g h4,a_ g h5,h6.below g,h7.below g,h8.below g⟩
theorem dS.below{v:M}{l:I eL}(h:dS W v l)(g:Below W.heap.size W w):dS w v l:=by
 obtain⟨ao,cap,hv,hm,d⟩:=h;refine⟨_,_,hv,hm,λi x hi=>?_⟩;obtain⟨b,off,vs,vp,h1,h2,h3,F,h5,h6⟩:=d i x hi;exact⟨b,_,_,_,h1,a_ g h2,a_ g h3,a_ g F,h5,h6.below g⟩
theorem ee.below{v:M}{l:I cJ}(h:ee W v l)(g:Below W.heap.size W w):ee w v l:=by
 obtain⟨ao,cap,hv,hm,d⟩:=h;refine⟨_,_,hv,hm,λi x hi=>?_⟩;obtain⟨b,off,vs,h1,h2,h3,F⟩:=d i x hi;exact⟨b,_,_,h1,a_ g h2,a_ g h3,F⟩
def fM{α:Type}(f:α->I AI)(xs:I α):I AI:=num (D xs)++xs.flatMap f
def eA{α:Type}(f:α->I AI)(xs:I α)(k:R):I AI:=num (D xs)++(xs.take k).flatMap f
theorem iw{α:Type}(f:α->I AI)(xs:I α):eA f xs 0=num (D xs):=by simp[eA]
theorem ie{α:Type}{f:α->I AI}{xs:I α}{x:α}(h:xs[k]? =Y x):eA f xs (k+1)=eA f xs k++f x:=by
 obtain⟨d,rfl⟩:=dm.1 h;unfold eA;rw[AB d,Ka,zx];simp
theorem kl{α:Type}{f:α->I AI}{xs:I α}(h:¬k<D xs):fM f xs=eA f xs k:=by
 unfold fM eA;rw[JH Q5]
theorem lr{α:Type}(f:α->I AI)(xs:I α)(k:R):D (eA f xs k)<=D (fM f xs):=by
 have e:xs.flatMap f=(xs.take k).flatMap f++(xs.drop k).flatMap f:=by rw[<-Ka,KV]
 unfold fM eA;rw[e];simp only[fe];omega
def cK(x:A):I AI:=num x.toNat
def dE(x:A):I AI:=num (qC x)
def bu(l:I A):I AI:=fM cK l
def cq(i:bP):I AI:=
 UInt8.ofNat i.op.toNat::(if i.op=1 then num (qC i.a) else (if 1<=ah i.op then num i.a.toNat else [])++(if 2<=ah i.op then num i.b.toNat else []))
def d_(f:aQ):I AI:=bu f.aH++(bu f.aI++(num f.result.toNat++fM cq f.code))
def h_(s:I AI):I AI:=num (D s)++s
def fQ(i:eL):I AI:=h_ i.name++(bu i.aH++num i.result.toNat)
def fU(e:cJ):I AI:=h_ e.name++num e.func.toNat
theorem SW{p:Prop}(h:p:=by simp[Addr.add]):p:=h
theorem lB(w:T)(q:R)(F:q<256):(convert 201 9 (J (Y (Q w.heap.size 0 G)) 1 1)).run prog (w.alloc (X #[.int .u8 (q:A)] 5))=.ok (.string ⟨#[UInt8.ofNat q]⟩) (w.alloc (X #[.int .u8 (q:A)] 5)):=by
 have h:=run_convert_bytes_back (w.alloc (X #[.int .u8 q] 5)) 201 9 5 _ 1 [UInt8.ofNat q] underlying201 underlying5 underlying9 (by
  intro j hj;have d:=by simp at hj;omega
  subst d;have e:(⟨w.heap.size,0,G⟩:Addr).add 0=⟨w.heap.size,0,G⟩:=SW
  rw[e];have e2:(UInt8.ofNat q).toNat=q:=by rw[LZ];exact Lb F
  simp[go_sem];try omega)
 exact h
theorem lJ(w:T)(g q:R)(hq:q<256)(F:H w (Q g 0 G)=Y (.int .u8 (q:A))):(convert 201 9 (J (Y (Q g 0 G)) 1 1)).run prog w=.ok (.string ⟨#[UInt8.ofNat q]⟩) w:=by
 have h:=run_convert_bytes_back w 201 9 5 _ 1 [UInt8.ofNat q] underlying201 underlying5 underlying9 (by
  intro j hj;have d:=by simp at hj;omega
  subst d;have e:(⟨g,0,G⟩:Addr).add 0=⟨g,0,G⟩:=SW
  rw[e];have e2:(UInt8.ofNat q).toNat=q:=by rw[LZ];exact Lb hq
  rw[F];simp;omega)
 exact h
theorem dv(l m:I AI):(ByteArray.mk l.toArray++ByteArray.mk m.toArray)=ByteArray.mk (l++m).toArray:=by
 apply ByteArray.ext;rw[ByteArray.data_append];simp
theorem Pt{p:Prop}(h:p:=by
 go_enter func143,ntmps143
 go_wp2_with fail;go_ret
 exact⟨by rw[HN];rfl,(Gr.refl w).alloc _⟩):p:=h
theorem R0{p:Prop}(h:p:=by rw[K3 Q5];omega):p:=h
theorem R4{p:Prop}(h:p:=by rw[Lp Q5];omega):p:=h
theorem Sh{p:Prop}(h:p:=by rw[LY];omega):p:=h
theorem za:∀(k q:R),k<=10->q<128 ^ (k+1)->q<18446744073709551616->∀w:T,
 Calls prog 143 #[.int .u64 (q:A)] w λx w'=>x=.returned (.string ⟨(jL k q).toArray⟩)/\Gr w w':=by
 intro k
 induction k with
 | zero=>
  intro q _ F _ w;have af:=by simpa using F
  have HN:=aJ (mT (k:=0) af);have ad:=lB w q Q5;have ai:IntKind.u8.wrap q=q:=Sh
  exact Pt
 | succ k ih=>
  intro q hk F al w;by_cases hs:q<128
  · have HN:=aJ (mT (k:=k+1) hs);have ad:=lB w q Q5;have ai:IntKind.u8.wrap q=q:=by rw[LY];omega
    clear ih F;exact Pt
  obtain⟨y,hy⟩:∃y,y=q%128+128:=⟨_,rfl⟩;obtain⟨z,hz⟩:∃z,z=q/128:=⟨_,rfl⟩;have HN:U (jL _ q=UInt8.ofNat y::jL k z):=aJ (by rw[sU hs,hy,hz]);have ae:=λV=>aJ (ih z Q5 (by rw[hz,MH Q9];rw[Nat.pow_succ]at F;exact F) Q5 V)
  have d:y<256:=Q5;have ht:(q:A).tmod 128=((q%128:R):A):=R0
  have az:IntKind.u64.wrap ((128:A)+(q:A).tmod 128)=y:=by rw[ht,FP _ Q5];omega
  have ay:IntKind.u8.wrap y=y:=Sh
  have ax:(q:A).tdiv 128=z:=R4
  have aA:IntKind.u64.wrap _=z:=FP _ Q5;have S7:D (jL k z)<=100:=by have:=(nO k z).1;omega
  clear ht ih F hy hz;go_enter func143,ntmps143
  go_wp2_with fail;have av:(convert _ 9 (J (Y ⟨w.heap.size,0,_⟩) 1 1)).run _ (w.alloc _).drew=.ok _ (w.alloc _).drew:=lB w.drew y d;have ad:=λV=>lB V y d
  go_region_with (first|(go_at_call 143;refine(ae _).j.mono ?_;rintro x w1 ⟨rfl,S5⟩;(first|have ak:=lJ w1 w.heap.size y d (S5.cell (show(w.alloc (X #[.int .u8 (y:A)] 5)).drew.cell? (Q w.heap.size 0 G)=Y (.int .u8 (y:A)) by simp[go_sem]) Q6)|skip)))
  all_goals go_wp2_with fail
  all_goals go_ret
  all_goals rw[HN.j]
  all_goals refine⟨congrArg (λt=>Ending.returned (Value.string t)) (dv [UInt8.ofNat y] (jL k z)),?_⟩
  all_goals first|exact(Gr.drew ((Gr.refl w).alloc _)).trans S5|exact((Gr.drew (Gr.refl w)).trans S5).alloc _
theorem lj{n:R}:n<=n:=Nat.le_refl _
theorem BB(q:R)(d:q<18446744073709551616)(w:T):
 Calls prog 143 #[.int .u64 (q:A)] w λx w'=>x=.returned (.string ⟨(num q).toArray⟩)/\Gr w w':=za 10 q lj (Nat.lt_trans d Q9) d w
theorem Oy{p:Prop}(h:p:=by
 go_wp2_with fail;refine(hc _).j.mono ?_;rintro x w1 ⟨rfl,S5⟩;go_wp2_with fail;go_ret
 exact⟨rfl,S5⟩):p:=h
theorem dr(n:A)(F:0<=n)(d:n<=9223372036854775807)(w:T):
 Calls prog 101 #[O Z n] w λx w'=>x=.returned (.string ⟨(num n.toNat).toArray⟩)/\Gr w w':=by
 have hw:IntKind.u64.wrap n=(n.toNat:A):=by rw[FP _ Q5];omega
 have hc:=λV=>aJ (BB n.toNat Q5 V)
 generalize n.toNat=q at hw hc |-;go_enter func101,ntmps101
 exact Oy
theorem sY(n:A)(h0:-9223372036854775808<=n)(hn:n<=9223372036854775807)(w:T):
 Calls prog 141 #[O Z n] w λx w'=>x=.returned (.string ⟨(num (qC n)).toArray⟩)/\Gr w w':=by
 have hc:=λV=>aJ (BB _ (Dy h0 hn) V)
 by_cases d:n<0
 · have F:(qC n:A)=-2*n-1:=by unfold qC;rw[mI d];omega
   generalize qC n=q at F hc |-;have hd:decide (n<0)=AT:=by simpa using d
   have e1:Z.wrap _=n+1:=Q_;have e2:Z.wrap _=-(n+1):=Q_;have e3:IntKind.u64.wrap _=-(n+1):=FP _ Q5;have e4:IntKind.u64.wrap _=2 * -(n+1):=FP _ Q5;have e5:IntKind.u64.wrap (2 * -(n+1)+1)=q:=by rw[FP _ Q5];omega
   clear F;go_enter func141,ntmps141
   exact Oy
 have F:(qC n:A)=2*n:=by unfold qC;rw[eP d];omega
 generalize qC n=q at F hc |-;have hd:decide (n<0)=AS:=by simpa using d
 have e3:IntKind.u64.wrap n=n:=FP _ Q5;have e5:IntKind.u64.wrap (2*n)=q:=by rw[FP _ Q5];omega
 clear F;go_enter func141,ntmps141
 exact Oy
theorem qx{α:Type}{f:α->I AI}{xs:I α}{B:R}(h:∀x∈xs,D (f x)<=B)(d:D xs<=300)(hB:B<=3000)(k:R):D (eA f xs k)<=1000000:=by
 have h1:=lr f xs k;have h2:D (fM f xs)<=11+300*B:=by
  have a1:=dJ (D xs);have a2:∀{ys:I α},(∀x∈ys,D (f x)<=B)->D (ys.flatMap f)<=D ys*B:=by
   intro ys hy
   induction ys with
   | nil=>simp
   | cons y ys F=>
    have b1:=hy y Q6;have b2:=F λz hz=>hy z (by simp[hz])
    simp only[I',fe,Jk,LV];omega
  have a3:=a2 h;have a4:=Jl B d;unfold fM;rw[fe];omega
 omega
theorem QN{p:Prop}(h:p:=by exact⟨0,rfl,Lz,by rw[iw],Td⟩):p:=h
theorem qB(v:M)(l:I A)(w:T)(hR:aY w v l)(hl:D l<=300)(hx:∀x∈l,0<=x/\x<=9223372036854775807):
 Calls prog 140 #[v] w λx w'=>x=.returned (.string ⟨(bu l).toArray⟩)/\Gr w w':=by
 have HR:=aJ hR;obtain⟨a1,c1,rfl,_,_⟩:=hR;have HX:=aJ hx;have F:=λV=>aJ (dr (D l) Q5 Q5 V)
 simp only[A7]at F;have al:=qx (f:=cK) (λx _=>dJ _) hl Q9;go_enter func140,ntmps140
 go_wp2_with fail;refine(F _).j.mono ?_;rintro x w1 ⟨rfl,S5⟩;have Td:=aJ S5;go_wp2_with fail;go_loopw[3,4] (λs i wr=>∃k:R,i=O Z k/\k<=D l/\s=.string ⟨(eA cK l k).toArray⟩/\Gr w wr) λ_ i _=>D l-(intOf i).toNat
 case atStart=>exact QN
 obtain⟨k,rfl,hk,rfl,hg⟩:=hrel;have HG:=aJ hg;by_cases IN:k<D l
 · obtain⟨ay,az,ad,_,ak⟩:=HR.j;simp only[jj,Bt]at ad;obtain⟨b1,o1,rfl,ai⟩:=ak k IN;obtain⟨rfl,rfl⟩:=ad;have av:=hg.cell ai Q6;have d:l[k]? =Y (l.getD k 0):=by simp[mh,IN]
   have hb:=HX _ (dL d);have HS:=aJ (ie (f:=cK) d);generalize l.getD k 0=x at av d hb HS;have ae:=λV=>aJ (dr x hb.1 hb.2 V)
   have h1:=al k;have h2:=dJ x.toNat;generalize hT:eA _ l k=Tq at h1 HS |-;have af:U (eA _ l _=Tq++num _):=HS;generalize num _=U' at h2 ae af;go_wp2_with fail;refine(ae _).j.mono ?_;rintro x w2 ⟨rfl,IT⟩;have OF:=aJ (HG.trans IT);go_wp2_with fail;refine⟨⟨_,Q6,IN,by rw[af,dv],OF⟩,Qh⟩
 have ax:k=D l:=by omega
 subst ax;have HE:=aJ (kl (f:=cK) Q5);go_wp2_with fail;go_ret
 exact⟨by unfold bu;rw[HE];rfl,HG⟩
theorem Nv{p:Prop}(h:p:=by
 have Ut:=BY.cell T0 Q6;have T9:=BY.cell Ti Q6;have VX:=BY.cell Tl Q6;have Xy:=BY.cell Xk Q6;have Xw:=BY.cell V5 Q6;have XC:=BY.cell VZ Q6;have IT:Gr w w':=Q0;go_wp2;go_region_held3 (λw'=>H w' (Q w.heap.size 0 G)=Y (O Z e)/\H w' (Q w.heap.size 1 G)=Y (O Z 0)/\H w' (Q w.heap.size 2 G)=Y (O Z a)/\H w' (Q wr.heap.size 0 G)=Y (O Z x.op)/\H w' (Q wr.heap.size 1 G)=Y (O Z x.a)/\H w' (Q wr.heap.size 2 G)=Y (O Z x.b)) (first|go_keep|(refine⟨?_,?_,?_,?_,?_,?_⟩<;>exact BY.cell Q8 Q6)) (first|(go_at_call 149;refine(eX _ _).mono ?_;rintro e w' ⟨rfl,rfl⟩)|(go_at_call 150;refine(dX (iK _ _ _ _ _) Tr.j).mono ?_;rintro e w' ⟨rfl,BY⟩))
 go_wp2;go_roundw
 case rel=>exact⟨k+1,Q5,QZ,HT.j,BY.cell Ut Q6,BY.cell T9 Q6,BY.cell VX Q6,Q0⟩
 case measure=>simp[intOf];omega):p:=h
theorem NF{p:Prop}(h:p:=by
 go_region_with (first|(go_at_call 113;refine(bO _ _ _ _).mono ?_;rintro e w' ⟨rfl,rfl⟩)|(go_at_call 53;refine(bA _ _ _).mono ?_;rintro e w' ⟨rfl,BY⟩;refine an ?_))
 all_goals exact⟨rfl,SL,Q0⟩):p:=h
theorem NT{p:Prop}(h:p:=by
 have Ut:=BY.cell T0 Q6;have T9:=BY.cell Ti Q6;have VX:=BY.cell Tl Q6;have Xy:=BY.cell Xk Q6;have Xw:=BY.cell V5 Q6;have XC:=BY.cell VZ Q6;have IT:Gr w w':=Q0;go_wp2;go_region_with (first|(go_at_call 149;refine(eX _ _).mono ?_;rintro e w' ⟨rfl,rfl⟩)|(go_at_call 150;refine(iW (iK _ _ _ _ _) Tr.j).mono ?_;rintro e w' ⟨rfl,BY⟩;refine an ?_))
 all_goals exact⟨rfl,SL,Q0⟩):p:=h
theorem Rf{p:Prop}(h:p:=by exact⟨0,Lz,rfl,Q6,T0,Ti,Tl,VJ⟩):p:=h
theorem xd(l:I bP)(v:M)(e a:A)(w:T)(hR:eC w v l):
 Calls prog 120 #[v,.agg #[O Z e,O Z 0,O Z a]] w λx w'=>
  x=oJ (ir l) e a/\Gr w w':=by
 obtain⟨ao,cap,rfl,hm,hc⟩:=hR;unfold maxLen at hm;have HC:=aJ hc;obtain⟨he,hn,ha⟩:=kU w e a;unfold ir;cases hb:wB (D l) 1 200
 · go_enter func120,ntmps120
   exact Nu
 go_enter func120,ntmps120
 go_wp2;go_region_held3 (λw'=>H w' (Q w.heap.size 0 G)=Y (O Z e)/\H w' (Q w.heap.size 1 G)=Y (O Z 0)/\H w' (Q w.heap.size 2 G)=Y (O Z a)) (first|go_keep|exact⟨BY.cell Q8 Q6,BY.cell Q8 Q6,BY.cell Q8 Q6⟩) (first|(go_at_call 113;refine(bO _ _ _ _).mono ?_;rintro e w' ⟨rfl,rfl⟩)|(go_at_call 53;refine(aj _ _ _).mono ?_;rintro e w' ⟨rfl,BY⟩))
 have T0:=BY.cell he Q6;have Ti:=BY.cell hn Q6;have Tl:=BY.cell ha Q6;have VJ:Gr w w':=Q0;go_wp2;go_loopw[13] (λi wr=>∃k:R,k<=D l/\i=O Z k/\(l.take k).all bl=AT/\H wr (Q w.heap.size 0 G)=Y (O Z e)/\H wr (Q w.heap.size 1 G)=Y (O Z 0)/\H wr (Q w.heap.size 2 G)=Y (O Z a)/\Gr w wr) λi _=>D l-(intOf i).toNat
 case atStart=>exact Rf
 obtain⟨k,hk,rfl,Tc,he,hn,ha,hg⟩:=hrel;have HA:=aJ Tc;by_cases IN:k<D l
 · obtain⟨x,hx⟩:=aU IN;obtain⟨b,off,av,ak,af,TD⟩:=HC.j k x hx;subst av;have aC:=hg.cell ak Q6;have aA:=hg.cell af Q6;have aB:=hg.cell TD Q6;have HX:=aJ hx;have al:H (wr.alloc (X #[O Z x.op,O Z x.a,O Z x.b] 87)) (Q wr.heap.size 0 G)=Y (O Z x.op):=by simp[go_sem]
   have ai:H (wr.alloc (X #[O Z x.op,O Z x.a,O Z x.b] 87)) (Q wr.heap.size 1 G)=Y (O Z x.a):=Ql
   have ae:H (wr.alloc (X #[O Z x.op,O Z x.a,O Z x.b] 87)) (Q wr.heap.size 2 G)=Y (O Z x.b):=Ql
   have aD:Gr w (wr.alloc (X #[O Z x.op,O Z x.a,O Z x.b] 87)):=hg.alloc _;have az:=(zp wr (X #[O Z x.op,O Z x.a,O Z x.b] 87) G).cell he Q6;have ax:=(zp wr (X #[O Z x.op,O Z x.a,O Z x.b] 87) G).cell hn Q6;have ay:=(zp wr (X #[O Z x.op,O Z x.a,O Z x.b] 87) G).cell ha Q6;cases hop:wB x.op 0 20
   · have HF:U (l.all bl=AS):=aJ (bN HX.j (by simp[bl,hop]));go_wp2;go_region_with (first|(go_at_call 148;refine(wh _ _).mono ?_;rintro e w' ⟨rfl,rfl⟩)|(go_at_call 53;refine(bA _ _ _).mono ?_;rintro e w' ⟨rfl,BY⟩;refine an ?_))
     all_goals exact⟨rfl,SL,Q0⟩
   go_wp2;go_region_held3 (λw'=>H w' (Q w.heap.size 0 G)=Y (O Z e)/\H w' (Q w.heap.size 1 G)=Y (O Z 0)/\H w' (Q w.heap.size 2 G)=Y (O Z a)/\H w' (Q wr.heap.size 0 G)=Y (O Z x.op)/\H w' (Q wr.heap.size 1 G)=Y (O Z x.a)/\H w' (Q wr.heap.size 2 G)=Y (O Z x.b)) (first|go_keep|(refine⟨?_,?_,?_,?_,?_,?_⟩<;>exact BY.cell Q8 Q6)) (first|(go_at_call 148;refine(wh _ _).mono ?_;rintro e w' ⟨rfl,rfl⟩)|(go_at_call 53;refine(aj _ _ _).mono ?_;rintro e w' ⟨rfl,BY⟩))
   have T0:=BY.cell az Q6;have Ti:=BY.cell ax Q6;have Tl:=BY.cell ay Q6;have Xk:=BY.cell al Q6;have V5:=BY.cell ai Q6;have VZ:=BY.cell ae Q6;have S5:Gr w w':=Q0;cases Ub:(x.op==1)
   · have No:¬x.op=1:=by simpa using Ub
     cases F:bR x.a (decide (1<=ah x.op))
     · have HF:U (l.all bl=AS):=aJ (bN HX.j (by simp only[bl,No,L3,F,Bool.and_false,Bool.false_and]));have HB:=aJ F;go_wp2;go_region_with (first|(go_at_call 149;refine(eX _ _).mono ?_;rintro e w' ⟨rfl,rfl⟩)|(go_at_call 150;refine(iW (iK _ _ _ _ _) HB.j).mono ?_;rintro e w' ⟨rfl,BY⟩;refine an ?_))
       all_goals exact⟨rfl,SL,Q0⟩
     cases d:bR x.b (decide (2<=ah x.op))
     · have HF:U (l.all bl=AS):=aJ (bN HX.j (by simp only[bl,d,Bool.and_false]));have HB:=aJ F;have Tr:=aJ d;go_wp2;go_region_held3 (λw'=>H w' (Q w.heap.size 0 G)=Y (O Z e)/\H w' (Q w.heap.size 1 G)=Y (O Z 0)/\H w' (Q w.heap.size 2 G)=Y (O Z a)/\H w' (Q wr.heap.size 0 G)=Y (O Z x.op)/\H w' (Q wr.heap.size 1 G)=Y (O Z x.a)/\H w' (Q wr.heap.size 2 G)=Y (O Z x.b)) (first|go_keep|(refine⟨?_,?_,?_,?_,?_,?_⟩<;>exact BY.cell Q8 Q6)) (first|(go_at_call 149;refine(eX _ _).mono ?_;rintro e w' ⟨rfl,rfl⟩)|(go_at_call 150;refine(dX (iK _ _ _ _ _) HB.j).mono ?_;rintro e w' ⟨rfl,BY⟩))
       exact NT
     have HT:U ((l.take (k+1)).all bl=AT):=aJ (by rw[dV HX.j,HA.j];simp only[bl,hop,No,L3,F,d,M0]);have HB:=aJ F;have Tr:=aJ d;go_wp2;go_region_held3 (λw'=>H w' (Q w.heap.size 0 G)=Y (O Z e)/\H w' (Q w.heap.size 1 G)=Y (O Z 0)/\H w' (Q w.heap.size 2 G)=Y (O Z a)/\H w' (Q wr.heap.size 0 G)=Y (O Z x.op)/\H w' (Q wr.heap.size 1 G)=Y (O Z x.a)/\H w' (Q wr.heap.size 2 G)=Y (O Z x.b)) (first|go_keep|(refine⟨?_,?_,?_,?_,?_,?_⟩<;>exact BY.cell Q8 Q6)) (first|(go_at_call 149;refine(eX _ _).mono ?_;rintro e w' ⟨rfl,rfl⟩)|(go_at_call 150;refine(dX (iK _ _ _ _ _) HB.j).mono ?_;rintro e w' ⟨rfl,BY⟩))
     exact Nv
   cases ad:wB x.a (-2147483648) 2147483647
   · have HF:U (l.all bl=AS):=aJ (bN HX.j (by simp[bl,(beq_iff_eq.1 Ub),ad]));go_wp2;exact NF
   cases d:bR x.b (decide (2<=ah x.op))
   · have HF:U (l.all bl=AS):=aJ (bN HX.j (by simp only[bl,d,Bool.and_false]));have Tr:=aJ d;go_wp2;go_region_held3 (λw'=>H w' (Q w.heap.size 0 G)=Y (O Z e)/\H w' (Q w.heap.size 1 G)=Y (O Z 0)/\H w' (Q w.heap.size 2 G)=Y (O Z a)/\H w' (Q wr.heap.size 0 G)=Y (O Z x.op)/\H w' (Q wr.heap.size 1 G)=Y (O Z x.a)/\H w' (Q wr.heap.size 2 G)=Y (O Z x.b)) (first|go_keep|(refine⟨?_,?_,?_,?_,?_,?_⟩<;>exact BY.cell Q8 Q6)) (first|(go_at_call 113;refine(bO _ _ _ _).mono ?_;rintro e w' ⟨rfl,rfl⟩)|(go_at_call 53;refine(aj _ _ _).mono ?_;rintro e w' ⟨rfl,BY⟩))
     exact NT
   have HT:U ((l.take (k+1)).all bl=AT):=aJ (by rw[dV HX.j,HA.j];simp only[bl,hop,beq_iff_eq.1 Ub,KA,ad,M0,MZ];rw[beq_iff_eq.1 Ub]at d;exact d);have Tr:=aJ d;go_wp2;go_region_held3 (λw'=>H w' (Q w.heap.size 0 G)=Y (O Z e)/\H w' (Q w.heap.size 1 G)=Y (O Z 0)/\H w' (Q w.heap.size 2 G)=Y (O Z a)/\H w' (Q wr.heap.size 0 G)=Y (O Z x.op)/\H w' (Q wr.heap.size 1 G)=Y (O Z x.a)/\H w' (Q wr.heap.size 2 G)=Y (O Z x.b)) (first|go_keep|(refine⟨?_,?_,?_,?_,?_,?_⟩<;>exact BY.cell Q8 Q6)) (first|(go_at_call 113;refine(bO _ _ _ _).mono ?_;rintro e w' ⟨rfl,rfl⟩)|(go_at_call 53;refine(aj _ _ _).mono ?_;rintro e w' ⟨rfl,BY⟩))
   exact Nv
 go_wp2;go_end0
 exact⟨by rw[pF HA.j IN];rfl,hg⟩
end Go.Proofs.YtghjmnlapcpbiaaGreatDoor
