import Derived.Test.YtkgncijcnlfhiabGreatChecked
import Derived.WalkKit
import Derived.WalkSmall
import Derived.Deep.LoopGhost
import Derived.Deep.QuietTactic
import Derived.BigQuiet
import Derived.Deep.RegionHeld3
import Derived.Deep.RegionWith
import Derived.Deep.DrawnRows
namespace Go.Proofs.YtkgncijcnlfhiabGreat
theorem sA {α : Type} (l : List α) (i : Nat) (a : α) : l.toArray.setIfInBounds i a = (l.set i a).toArray := List.setIfInBounds_toArray ..
theorem s0 {α : Type} (x a : α) (l : List α) : (x :: l).set 0 a = a :: l := rfl
theorem s1 {α : Type} (x a : α) (n : Nat) (l : List α) : (x :: l).set (n + 1) a = x :: l.set n a := rfl
theorem Q0 {p : Prop} (h : p := by repeat (first | exact Gr.refl _ | assumption | refine Gr.drew ?_ | refine Gr.alloc ?_ _ | refine Gr.trans ?_ (by assumption))) : p := h
theorem Q1 {p : Prop} (h : p := by repeat (first | assumption | with_reducible exact bU _ _ _ | with_reducible exact r8 _ _ _ | with_reducible exact (cQ _ _ _ _).1 | with_reducible exact (cQ _ _ _ _).2 | with_reducible refine uc ?_ | with_reducible refine (World.grownBy_alloc _ _ none).cell ?_ (by simp) | refine World.grownBy.cell (row := none) (by assumption) ?_ (by simp))) : p := h
theorem Q2 {p : Prop} (h : p := by repeat (first | with_reducible exact Gr.refl _ | with_reducible refine Gr.drew ?_ | with_reducible refine Gr.alloc ?_ _ | refine Gr.trans ?_ (by assumption))) : p := h
theorem Q3 {p : Prop} (h : p := by repeat (first | with_reducible exact Gr.refl _ | with_reducible refine Gr.drew ?_ | with_reducible refine Gr.alloc ?_ _)) : p := h
theorem Q5 {p : Prop} (h : p := by omega) : p := h
theorem Q6 {p : Prop} (h : p := by simp) : p := h
theorem Q7 {p : Prop} (h : p := by kernel_rfl) : p := h
theorem Q8 {p : Prop} (h : p := by assumption) : p := h
theorem Q9 {p : Prop} (h : p := by decide) : p := h
theorem fk {p : Prop} (h : p := by simp [Act.eval]) : p := h
theorem gS {p : Prop} (h : p := by (simp; omega)) : p := h
theorem cw {p : Prop} (h : p := by rfl) : p := h
theorem Q_ {n : Int} (h : -9223372036854775808 <= n /\ n <= 9223372036854775807 := by omega) : IntKind.i64.wrap n = n := Go.IntWalk.i64_in n h
set_option maxHeartbeats 2000000
set_option linter.unusedVariables false
set_option linter.unusedSimpArgs false
structure aw where
 op:Int
 a:Int
 b:Int
structure aO where
 aF:List Int
 result:Int
 aG:List Int
 code:List aw
structure fK where
 name:List UInt8
 aF:List Int
 result:Int
structure dq where
 name:List UInt8
 func:Int
structure aK where
 aA:List (List Int)
 aD:List Int
 aE:List aO
 aB:List fK
 aC:List dq
def wB(v l m:Int):Bool:=decide (l<=v/\v<=m)
def gD(n k:Int):Bool:=wB k 0 n
def aa(op:Int):Int:=
 if op=16\/op=17 then 2
 else if op=0\/op=1\/op=2\/op=3\/op=11\/op=12\/op=13\/op=15\/op=18\/op=19 then 1 else 0
def ah(v:Int)(named:Bool):Bool:=if named then wB v 0 65535 else decide (v=0)
def a_(i:aw):Bool:=
 wB i.op 0 20 && ((if i.op=1 then wB i.a (-2147483648) 2147483647 else ah i.a (decide (1<=aa i.op))) && ah i.b (decide (2<=aa i.op)))
def gG(l:List aw):Bool:=wB l.length 1 200 && l.all a_
def fL(ps:List Int)(r n:Int):Bool:=wB ps.length 0 6 && (ps.all (gD n) && gD n r)
def dD(n:Int)(f:aO):Bool:=fL f.aF f.result n && (wB f.aG.length 0 10 && (f.aG.all (gD n) && gG f.code))
def b9(l:List aO)(n:Int):Bool:=wB l.length 0 30 && l.all (dD n)
def ee(s:List UInt8):Bool:=wB s.length 1 20
def iM(n:Int)(i:fK):Bool:=ee i.name && fL i.aF i.result n
def bZ(l:List fK)(n:Int):Bool:=wB l.length 0 20 && l.all (iM n)
def hO(m:Int)(e:dq):Bool:=ee e.name && wB e.func 0 (m - 1)
def bm(l:List dq)(m:Int):Bool:=wB l.length 0 20 && l.all (hO m)
def dY(n:Int)(f:List Int):Bool:=wB f.length 1 8 && f.all (gD n)
def cL(l:List (List Int)):Bool:=wB l.length 0 20 && l.all (dY l.length)
def cV(l:List Int):Bool:=wB l.length 0 50
def ai(u:aK):Bool:=
 cL u.aA && (cV u.aD && (b9 u.aE u.aA.length && (bZ u.aB u.aA.length && bm u.aC u.aE.length)))
theorem dk{α:Type}{p:α->Bool}{l:List α}{k:Nat}{x:α}(h:l[k]? =some x):
 (l.take (k+1)).all p=((l.take k).all p && p x):=by
 obtain ⟨hk,rfl⟩:=List.getElem?_eq_some_iff.1 h;rw [List.take_succ_eq_append_getElem hk,List.all_append];simp
theorem bE{α:Type}{p:α->Bool}{l:List α}{k:Nat}{x:α}(h:l[k]? =some x)(hp:p x=false):l.all p=false:=by
 obtain ⟨hk,rfl⟩:=List.getElem?_eq_some_iff.1 h;rw [Bool.eq_false_iff];intro hc;rw [List.all_eq_true] at hc;have:=hc l[k] (List.getElem_mem hk)
 rw [hp] at this;cases this
theorem lH{α:Type}{p:α->Bool}{l:List α}{k:Nat}(h:(l.take k).all p=true)(hk:¬k < l.length):l.all p=true:=by
 rwa [List.take_of_length_le Q5] at h
open Go.RowKit
attribute [local go_sem ↓] Go.wp_at_zero Go.wp_at_succ
theorem aR{G:Prop}(h:wpAny Tryz.prog .any #[] (fun _ _ _=>G) 0 #[] ⟨#[],[]⟩ default):G:=h.2
theorem aH{p:Prop}(h:p):Hid p:=h
def CF(e a:Int):Value:=.agg #[.int .i64 e,.int .i64 0,.int .i64 a]
def dM(e a:Int):List PanicEntry:= [{ v:=.iface 62 (CF e a),recovered:=false }]
abbrev Gr(w w':World):Prop:=w.grownBy w' none
theorem Gr.refl(w:World):Gr w w:=World.grownBy.refl w none
theorem Gr.trans{a b c:World}(h:Gr a b)(k:Gr b c):Gr a c:=
 ⟨k.os.trans h.os,k.tape.trans h.tape,k.output.trans h.output,Nat.le_trans h.size k.size,
  fun i hi _=>(k.block i (Nat.lt_of_lt_of_le hi h.size) Q6).trans (h.block i hi Q6)⟩
theorem Gr.alloc{a b:World}(h:Gr a b)(o:Obj):Gr a (b.alloc o):=h.trans (World.grownBy_alloc b o none)
theorem Gr.drew{a b:World}(h:Gr a b):Gr a b.drew:=⟨h.os,h.tape,h.output,h.size,h.block⟩
theorem aP(e a:Int)(w:World):
 Calls Tryz.prog 64 #[.agg #[.int .i64 e,.int .i64 0,.int .i64 a],.bool true] w fun x w'=>
  x=.returned (.tuple #[])/\Gr w w':=by
 have I8:∀(x:Bool) (w:World),(Op.unary .not (.bool x)).run Tryz.prog w=.ok (.bool (!x)) w:=fun _ _=>rfl
 go_enter Tryz.func64,Tryz.ntmps64
 go_wp2
 go_end0
 exact ⟨rfl,(Gr.refl _).alloc _⟩
theorem aV(e a:Int)(w:World):
 Calls Tryz.prog 64 #[.agg #[.int .i64 e,.int .i64 0,.int .i64 a],.bool false] w fun x w'=>
  x=.panicked (dM e a)/\Gr w w':=by
 have I8:∀(x:Bool) (w:World),(Op.unary .not (.bool x)).run Tryz.prog w=.ok (.bool (!x)) w:=fun _ _=>rfl
 go_enter Tryz.func64,Tryz.ntmps64
 go_wp2
 exact ⟨rfl,rfl,(Gr.refl _).alloc _⟩
theorem aZ(v l m:Int)(w:World):
 Calls Tryz.prog 99 #[.int .i64 v,.int .i64 l,.int .i64 m] w fun x w'=>
  x=.returned (.bool (wB v l m))/\w'=w:=by
 by_cases h:l<=v
 · have hd:decide (l<=v)=true:=by simpa using h
   go_enter Tryz.func99,Tryz.ntmps99
   go_wp2
   go_ret
   exact ⟨by simp [wB,h],rfl⟩
 · have hd:decide (l<=v)=false:=by simpa using h
   go_enter Tryz.func99,Tryz.ntmps99
   go_wp2
   go_ret
   exact ⟨by simp [wB];omega,rfl⟩
def kA(b:Bool)(e a:Int):Ending:=if b then .returned (.tuple #[]) else .panicked (dM e a)
theorem xJ(e a:Int):kA true e a=.returned (.tuple #[]):=rfl
theorem xi(e a:Int):kA false e a=.panicked (dM e a):=rfl
def aW(w:World)(v:Value)(l:List Int):Prop:=
 ∃ao cap,v=.slice ao l.length cap/\l.length<=maxLen/\∀i,i < l.length->∃b off,ao=some ⟨b,off,none⟩/\w.cell? ⟨b,off+i,none⟩=some (.int .i64 (l.getD i 0))
theorem aW.gr{w w':World}{v:Value}{l:List Int}(h:aW w v l)(g:Gr w w'):aW w' v l:=by
 obtain ⟨ao,cap,hv,hm,hc⟩:=h;refine ⟨ao,cap,hv,hm,fun i hi=>?_⟩;obtain ⟨b,off,h1,h2⟩:=hc i hi;exact ⟨b,off,h1,g.cell h2 Q6⟩
theorem pO{n:Int}{l:List Int}{k:Nat}(hk:k < l.length):
 (l.take (k+1)).all (gD n)=((l.take k).all (gD n) && gD n (l.getD k 0)):=by
 rw [List.take_succ_eq_append_getElem hk,List.all_append];simp [List.getD_eq_getElem?_getD,hk]
theorem oh{l:List Int}{p:Int->Bool}{k:Nat}{x:Bool}(h:(l.take (k+1)).all p=x)(hx:x=false):Hid (l.all p=false):=by
 have e:l.all p=((l.take (k+1)).all p && (l.drop (k+1)).all p):=by rw [<-List.all_append,List.take_append_drop]
 exact aH (by rw [e,h,hx];rfl)
theorem fO(l:List Int)(v:Value)(n e a:Int)(w:World)(hl:aW w v l):
 Calls Tryz.prog 100 #[v,.int .i64 n,.agg #[.int .i64 e,.int .i64 0,.int .i64 a]] w fun x w'=>
  x=kA (l.all (gD n)) e a/\Gr w w':=by
 obtain ⟨ao,cap,rfl,hm,hc⟩:=hl;unfold maxLen at hm;go_enter Tryz.func100,Tryz.ntmps100
 go_wp2
 go_loopw [10] (fun i wr=>∃k:Nat,k<=l.length/\i=.int .i64 k/\(l.take k).all (gD n)=true/\wr.cell? ⟨w.heap.size,0,none⟩=some (.int .i64 e)/\wr.cell? ⟨w.heap.size,1,none⟩=some (.int .i64 0)/\wr.cell? ⟨w.heap.size,2,none⟩=some (.int .i64 a)/\Gr w wr) (fun i _=>l.length - (intOf i).toNat)
 case atStart=>exact ⟨0,Nat.zero_le _,rfl,Q6,by simp [go_sem],by simp [go_sem],by simp [go_sem],(Gr.refl _).alloc _⟩
 case round=>
  obtain ⟨k,hk,rfl,C2,he,hn,ha,hg⟩:=hrel;by_cases J0:k < l.length
  · obtain ⟨b,off,K_,Z0⟩:=hc k J0;subst K_;have HS:=aH (pO (n:=n) J0);have L_:=hg.cell Z0 Q6;generalize l.getD k 0=x at L_ HS;clear Z0 hc;cases hb:wB x 0 n
    · have HF:Hid (l.all (gD n)=false):=oh (k:=k) HS.out (by rw [C2];simp [gD,hb]);go_wp2
      go_region_with (first|(go_at_call 99;refine (aZ _ _ _ _).mono ?_;rintro e w' ⟨rfl,rfl⟩)|(go_at_call 64;refine (aV _ _ _).mono ?_;rintro e w' ⟨rfl,D0⟩;refine aR ?_))
      all_goals exact ⟨rfl,by rw [HF.out];rfl,hg.drew.trans D0⟩
    · have HT:Hid ((l.take (k+1)).all (gD n)=true):=by rw [HS.out,C2];simp [gD,hb,aH]
      go_wp2
      go_region_held3 (fun w'=>w'.cell? ⟨w.heap.size,0,none⟩=some (.int .i64 e)/\w'.cell? ⟨w.heap.size,1,none⟩=some (.int .i64 0)/\w'.cell? ⟨w.heap.size,2,none⟩=some (.int .i64 a)) (first|go_keep|exact ⟨D0.cell Q8 Q6,D0.cell Q8 Q6,D0.cell Q8 Q6⟩) (first|(go_at_call 99;refine (aZ _ _ _ _).mono ?_;rintro e w' ⟨rfl,rfl⟩)|(go_at_call 64;refine (aP _ _ _).mono ?_;rintro e w' ⟨rfl,D0⟩))
      all_goals go_wp2
      all_goals go_roundw
      case rel=>exact ⟨k+1,Q5,by go_num,HT.out,D0.cell he Q6,D0.cell hn Q6,D0.cell ha Q6,hg.drew.trans D0⟩
      case measure=>simp [intOf];omega
  · go_wp2
    go_end0
    have e1:l.take k=l:=List.take_of_length_le Q5;rw [e1] at C2;exact ⟨by rw [C2];rfl,hg⟩
open Go.RowKit
attribute [local go_sem ↓] Go.wp_at_zero Go.wp_at_succ
theorem o_(v:Int)(w:World):
 Calls Tryz.prog 131 #[.int .i64 v] w fun x w'=>x=.returned (.bool (wB v 0 20))/\w'=w:=by
 go_enter Tryz.func131,Tryz.ntmps131
 go_wp2_with (go_at_call 99;refine (aZ _ _ _ _).mono ?_;rintro e w' ⟨rfl,rfl⟩)
 go_ret
 exact ⟨rfl,rfl⟩
theorem bT(v:Int)(w:World):
 Calls Tryz.prog 109 #[.int .i64 v] w fun x w'=>x=.returned (.int .i64 (aa v))/\w'=w:=by
 go_enter Tryz.func109,Tryz.ntmps109
 go_wp2
 all_goals go_ret
 all_goals (refine ⟨?_,rfl⟩;simp_all [aa])
theorem gd(w:World)(e a:Int):(w.alloc (.cells #[.int .i64 e,.int .i64 0,.int .i64 a] 62)).cell? ⟨w.heap.size,0,none⟩=some (.int .i64 e)/\(w.alloc (.cells #[.int .i64 e,.int .i64 0,.int .i64 a] 62)).cell? ⟨w.heap.size,1,none⟩=some (.int .i64 0)/\(w.alloc (.cells #[.int .i64 e,.int .i64 0,.int .i64 a] 62)).cell? ⟨w.heap.size,2,none⟩=some (.int .i64 a):=by
 refine ⟨?_,?_,?_⟩<;>simp [go_sem]
theorem wP(s:ByteArray)(e a:Int)(w:World)(hs:s.size<=maxLen):
 Calls Tryz.prog 103 #[.string s,.agg #[.int .i64 e,.int .i64 0,.int .i64 a]] w fun x w'=>
  x=kA (ee s.data.toList) e a/\Gr w w':=by
 unfold maxLen at hs;have HN:ee s.data.toList=wB s.size 1 20:=by unfold ee;rw [Array.length_toList];rfl
 rw [HN];cases hb:wB s.size 1 20
 · go_enter Tryz.func103,Tryz.ntmps103
   go_wp2
   go_region_with (first|(go_at_call 99;refine (aZ _ _ _ _).mono ?_;rintro e w' ⟨rfl,rfl⟩)|(go_at_call 64;refine (aV _ _ _).mono ?_;rintro e w' ⟨rfl,D0⟩;refine aR ?_))
   all_goals exact ⟨rfl,rfl,((Gr.refl _).alloc _).drew.trans D0⟩
 · go_enter Tryz.func103,Tryz.ntmps103
   go_wp2
   go_region_with (first|(go_at_call 99;refine (aZ _ _ _ _).mono ?_;rintro e w' ⟨rfl,rfl⟩)|(go_at_call 64;refine (aP _ _ _).mono ?_;rintro e w' ⟨rfl,D0⟩))
   all_goals go_wp2
   all_goals go_end0
   all_goals exact ⟨rfl,((Gr.refl _).alloc _).drew.trans D0⟩
theorem eZ(v:Value)(l:List Int)(e a:Int)(w:World)(hv:∃ao cap,v=.slice ao l.length cap)(hs:l.length<=maxLen):
 Calls Tryz.prog 53 #[v,.agg #[.int .i64 e,.int .i64 0,.int .i64 a]] w fun x w'=>
  x=kA (cV l) e a/\Gr w w':=by
 obtain ⟨ao,cap,rfl⟩:=hv;unfold maxLen at hs;have HN:cV l=wB l.length 0 50:=rfl;rw [HN];cases hb:wB l.length 0 50
 · go_enter Tryz.func53,Tryz.ntmps53
   go_wp2
   go_region_with (first|(go_at_call 99;refine (aZ _ _ _ _).mono ?_;rintro e w' ⟨rfl,rfl⟩)|(go_at_call 64;refine (aV _ _ _).mono ?_;rintro e w' ⟨rfl,D0⟩;refine aR ?_))
   all_goals exact ⟨rfl,rfl,((Gr.refl _).alloc _).drew.trans D0⟩
 · go_enter Tryz.func53,Tryz.ntmps53
   go_wp2
   go_region_with (first|(go_at_call 99;refine (aZ _ _ _ _).mono ?_;rintro e w' ⟨rfl,rfl⟩)|(go_at_call 64;refine (aP _ _ _).mono ?_;rintro e w' ⟨rfl,D0⟩))
   all_goals go_wp2
   all_goals go_end0
   all_goals exact ⟨rfl,((Gr.refl _).alloc _).drew.trans D0⟩
theorem dz(v:Int)(n:Bool)(e a:Int)(w:World):
 Calls Tryz.prog 132 #[.int .i64 v,.bool n,.agg #[.int .i64 e,.int .i64 0,.int .i64 a]] w fun x w'=>
  x=kA (ah v n) e a/\Gr w w':=by
 cases n
 · by_cases hz:v=0
   · subst hz;go_enter Tryz.func132,Tryz.ntmps132
     go_wp2_with (first|(go_at_call 64;refine (aP _ _ _).mono ?_;rintro e w' ⟨rfl,D0⟩))
     go_end0
     exact ⟨rfl,((Gr.refl _).alloc _).trans D0⟩
   · have hz':(v == 0)=false:=by simpa using hz
     have HF:Hid (ah v false=false):=aH (by simp [ah,hz]);go_enter Tryz.func132,Tryz.ntmps132
     go_wp2_with (first|(go_at_call 64;refine (aV _ _ _).mono ?_;rintro e w' ⟨rfl,D0⟩))
     exact ⟨rfl,by rw [HF.out];rfl,((Gr.refl _).alloc _).trans D0⟩
 · cases hb:wB v 0 65535
   · go_enter Tryz.func132,Tryz.ntmps132
     go_wp2
     go_region_with (first|(go_at_call 99;refine (aZ _ _ _ _).mono ?_;rintro e w' ⟨rfl,rfl⟩)|(go_at_call 64;refine (aV _ _ _).mono ?_;rintro e w' ⟨rfl,D0⟩;refine aR ?_))
     all_goals exact ⟨rfl,by simp [ah,hb];rfl,((Gr.refl _).alloc _).drew.trans D0⟩
   · go_enter Tryz.func132,Tryz.ntmps132
     go_wp2
     go_region_with (first|(go_at_call 99;refine (aZ _ _ _ _).mono ?_;rintro e w' ⟨rfl,rfl⟩)|(go_at_call 64;refine (aP _ _ _).mono ?_;rintro e w' ⟨rfl,D0⟩))
     all_goals go_wp2
     all_goals go_end0
     all_goals exact ⟨by simp [ah,hb];rfl,((Gr.refl _).alloc _).drew.trans D0⟩
open Go.RowKit
attribute [local go_sem ↓] Go.wp_at_zero Go.wp_at_succ
theorem bO{f:FuncId}{args:Array Value}{w:World}{b:Bool}{e a:Int}(h:Calls Tryz.prog f args w fun x w'=>x=kA b e a/\Gr w w')(hb:b=true):
 Calls Tryz.prog f args w fun x w'=>x=.returned (.tuple #[])/\Gr w w':=by subst hb;exact h
theorem eG{f:FuncId}{args:Array Value}{w:World}{b:Bool}{e a:Int}(h:Calls Tryz.prog f args w fun x w'=>x=kA b e a/\Gr w w')(hb:b=false):
 Calls Tryz.prog f args w fun x w'=>x=.panicked (dM e a)/\Gr w w':=by subst hb;exact h
theorem aW.shape{w:World}{v:Value}{l:List Int}(h:aW w v l):∃ao cap,v=.slice ao l.length cap:=by
 obtain ⟨ao,cap,hv,_⟩:=h;exact ⟨ao,cap,hv⟩
theorem fj(l:List Int)(v:Value)(r n e a:Int)(w:World)(hR:aW w v l):
 Calls Tryz.prog 101 #[v,.int .i64 r,.int .i64 n,.agg #[.int .i64 e,.int .i64 0,.int .i64 a]] w fun x w'=>
  x=kA (fL l r n) e a/\Gr w w':=by
 have hm:=hR.choose_spec.choose_spec.2.1;obtain ⟨ao,cap,rfl⟩:=hR.shape;unfold maxLen at hm;have HR:=aH hR;clear hR;obtain ⟨he,hn,ha⟩:=gd w e a;unfold fL;cases hb:wB l.length 0 6
 · go_enter Tryz.func101,Tryz.ntmps101
   go_wp2
   go_region_with (first|(go_at_call 99;refine (aZ _ _ _ _).mono ?_;rintro e w' ⟨rfl,rfl⟩)|(go_at_call 64;refine (aV _ _ _).mono ?_;rintro e w' ⟨rfl,D0⟩;refine aR ?_))
   all_goals exact ⟨rfl,rfl,Q0⟩
 · cases hk:l.all (gD n)
   · have HK:=aH hk;clear hk;go_enter Tryz.func101,Tryz.ntmps101
     go_wp2
     go_region_held3 (fun w'=>w'.cell? ⟨w.heap.size,0,none⟩=some (.int .i64 e)/\w'.cell? ⟨w.heap.size,1,none⟩=some (.int .i64 0)/\w'.cell? ⟨w.heap.size,2,none⟩=some (.int .i64 a)) (first|go_keep|exact ⟨D0.cell Q8 Q6,D0.cell Q8 Q6,D0.cell Q8 Q6⟩) (first|(go_at_call 99;refine (aZ _ _ _ _).mono ?_;rintro e w' ⟨rfl,rfl⟩)|(go_at_call 64;refine (aP _ _ _).mono ?_;rintro e w' ⟨rfl,D0⟩))
     have N4:=D0.cell he Q6;have C4:=D0.cell hn Q6;have J2:=D0.cell ha Q6;go_wp2_with (first|(go_at_call 100;refine (eG (fO l _ n e a _ (by exact HR.out.gr Q0)) HK.out).mono ?_;rintro e w2 ⟨rfl,E0⟩))
     exact ⟨rfl,rfl,Q0⟩
   · have HK:=aH hk;clear hk;cases hr:wB r 0 n
     · go_enter Tryz.func101,Tryz.ntmps101
       go_wp2
       go_region_held3 (fun w'=>w'.cell? ⟨w.heap.size,0,none⟩=some (.int .i64 e)/\w'.cell? ⟨w.heap.size,1,none⟩=some (.int .i64 0)/\w'.cell? ⟨w.heap.size,2,none⟩=some (.int .i64 a)) (first|go_keep|exact ⟨D0.cell Q8 Q6,D0.cell Q8 Q6,D0.cell Q8 Q6⟩) (first|(go_at_call 99;refine (aZ _ _ _ _).mono ?_;rintro e w' ⟨rfl,rfl⟩)|(go_at_call 64;refine (aP _ _ _).mono ?_;rintro e w' ⟨rfl,D0⟩))
       have N4:=D0.cell he Q6;have C4:=D0.cell hn Q6;have J2:=D0.cell ha Q6;go_wp2_with (first|(go_at_call 100;refine (bO (fO l _ n e a _ (by exact HR.out.gr Q0)) HK.out).mono ?_;rintro e w2 ⟨rfl,E0⟩))
       have D9:=E0.cell N4 Q6;have T6:=E0.cell C4 Q6;have Eh:=E0.cell J2 Q6;go_region_with (first|(go_at_call 99;refine (aZ _ _ _ _).mono ?_;rintro e w' ⟨rfl,rfl⟩)|(go_at_call 64;refine (aV _ _ _).mono ?_;rintro e w' ⟨rfl,D0⟩;refine aR ?_))
       all_goals exact ⟨rfl,by simp [gD,hr];rfl,Q0⟩
     · go_enter Tryz.func101,Tryz.ntmps101
       go_wp2
       go_region_held3 (fun w'=>w'.cell? ⟨w.heap.size,0,none⟩=some (.int .i64 e)/\w'.cell? ⟨w.heap.size,1,none⟩=some (.int .i64 0)/\w'.cell? ⟨w.heap.size,2,none⟩=some (.int .i64 a)) (first|go_keep|exact ⟨D0.cell Q8 Q6,D0.cell Q8 Q6,D0.cell Q8 Q6⟩) (first|(go_at_call 99;refine (aZ _ _ _ _).mono ?_;rintro e w' ⟨rfl,rfl⟩)|(go_at_call 64;refine (aP _ _ _).mono ?_;rintro e w' ⟨rfl,D0⟩))
       have N4:=D0.cell he Q6;have C4:=D0.cell hn Q6;have J2:=D0.cell ha Q6;go_wp2_with (first|(go_at_call 100;refine (bO (fO l _ n e a _ (by exact HR.out.gr Q0)) HK.out).mono ?_;rintro e w2 ⟨rfl,E0⟩))
       have D9:=E0.cell N4 Q6;have T6:=E0.cell C4 Q6;have Eh:=E0.cell J2 Q6;go_region_with (first|(go_at_call 99;refine (aZ _ _ _ _).mono ?_;rintro e w' ⟨rfl,rfl⟩)|(go_at_call 64;refine (aP _ _ _).mono ?_;rintro e w' ⟨rfl,D0⟩))
       all_goals go_wp2
       all_goals go_end0
       all_goals exact ⟨by simp [gD,hr];rfl,Q0⟩
open Go.RowKit
def bM(w:World)(v:Value)(l:List (List Int)):Prop:=
 ∃ao cap,v=.slice ao l.length cap/\l.length<=maxLen/\∀i x,l[i]? =some x->∃b off vx,ao=some ⟨b,off,none⟩/\w.cell? ⟨b,off+i,none⟩=some vx/\aW w vx x
def eH(w:World)(v:Value)(l:List aw):Prop:=
 ∃ao cap,v=.slice ao l.length cap/\l.length<=maxLen/\∀i x,l[i]? =some x->∃b off,ao=some ⟨b,off,none⟩/\
  w.cell? ⟨b,off+i * 3,none⟩=some (.int .i64 x.op)/\w.cell? ⟨b,off+i * 3+1,none⟩=some (.int .i64 x.a)/\w.cell? ⟨b,off+i * 3+2,none⟩=some (.int .i64 x.b)
def ei(v:Value)(l:List UInt8):Prop:=∃s:ByteArray,v=.string s/\s.data.toList=l/\s.size<=maxLen
def dH(w:World)(v:Value)(l:List aO):Prop:=
 ∃ao cap,v=.slice ao l.length cap/\l.length<=maxLen/\∀i x,l[i]? =some x->∃b off vp vl vc,ao=some ⟨b,off,none⟩/\
  w.cell? ⟨b,off+i * 4,none⟩=some vp/\w.cell? ⟨b,off+i * 4+1,none⟩=some (.int .i64 x.result)/\w.cell? ⟨b,off+i * 4+2,none⟩=some vl/\w.cell? ⟨b,off+i * 4+3,none⟩=some vc/\
  aW w vp x.aF/\aW w vl x.aG/\eH w vc x.code
def bo(w:World)(v:Value)(l:List fK):Prop:=
 ∃ao cap,v=.slice ao l.length cap/\l.length<=maxLen/\∀i x,l[i]? =some x->∃b off vs vp,ao=some ⟨b,off,none⟩/\
  w.cell? ⟨b,off+i * 3,none⟩=some vs/\w.cell? ⟨b,off+i * 3+1,none⟩=some vp/\w.cell? ⟨b,off+i * 3+2,none⟩=some (.int .i64 x.result)/\
  ei vs x.name/\aW w vp x.aF
def dJ(w:World)(v:Value)(l:List dq):Prop:=
 ∃ao cap,v=.slice ao l.length cap/\l.length<=maxLen/\∀i x,l[i]? =some x->∃b off vs,ao=some ⟨b,off,none⟩/\
  w.cell? ⟨b,off+i * 2,none⟩=some vs/\w.cell? ⟨b,off+i * 2+1,none⟩=some (.int .i64 x.func)/\ei vs x.name
def cO(w:World)(v:Value)(u:aK):Prop:=
 ∃v1 v2 v3 v4 v5,v=.agg #[v1,v2,v3,v4,v5]/\bM w v1 u.aA/\aW w v2 u.aD/\dH w v3 u.aE/\bo w v4 u.aB/\dJ w v5 u.aC
theorem bM.gr{w w':World}{v:Value}{l:List (List Int)}(h:bM w v l)(g:Gr w w'):bM w' v l:=by
 obtain ⟨ao,cap,hv,hm,hc⟩:=h;refine ⟨ao,cap,hv,hm,fun i x hi=>?_⟩;obtain ⟨b,off,vx,h1,h2,h3⟩:=hc i x hi;exact ⟨b,off,vx,h1,g.cell h2 Q6,h3.gr g⟩
theorem eH.gr{w w':World}{v:Value}{l:List aw}(h:eH w v l)(g:Gr w w'):eH w' v l:=by
 obtain ⟨ao,cap,hv,hm,hc⟩:=h;refine ⟨ao,cap,hv,hm,fun i x hi=>?_⟩;obtain ⟨b,off,h1,h2,h3,h4⟩:=hc i x hi;exact ⟨b,off,h1,g.cell h2 Q6,g.cell h3 Q6,g.cell h4 Q6⟩
theorem dH.gr{w w':World}{v:Value}{l:List aO}(h:dH w v l)(g:Gr w w'):dH w' v l:=by
 obtain ⟨ao,cap,hv,hm,hc⟩:=h;refine ⟨ao,cap,hv,hm,fun i x hi=>?_⟩;obtain ⟨b,off,vp,vl,vc,h1,h2,h3,h4,h5,h6,h7,h8⟩:=hc i x hi;exact ⟨b,off,vp,vl,vc,h1,g.cell h2 Q6,g.cell h3 Q6,g.cell h4 Q6,g.cell h5 Q6,h6.gr g,h7.gr g,h8.gr g⟩
theorem bo.gr{w w':World}{v:Value}{l:List fK}(h:bo w v l)(g:Gr w w'):bo w' v l:=by
 obtain ⟨ao,cap,hv,hm,hc⟩:=h;refine ⟨ao,cap,hv,hm,fun i x hi=>?_⟩;obtain ⟨b,off,vs,vp,h1,h2,h3,h4,h5,h6⟩:=hc i x hi;exact ⟨b,off,vs,vp,h1,g.cell h2 Q6,g.cell h3 Q6,g.cell h4 Q6,h5,h6.gr g⟩
theorem dJ.gr{w w':World}{v:Value}{l:List dq}(h:dJ w v l)(g:Gr w w'):dJ w' v l:=by
 obtain ⟨ao,cap,hv,hm,hc⟩:=h;refine ⟨ao,cap,hv,hm,fun i x hi=>?_⟩;obtain ⟨b,off,vs,h1,h2,h3,h4⟩:=hc i x hi;exact ⟨b,off,vs,h1,g.cell h2 Q6,g.cell h3 Q6,h4⟩
theorem cO.gr{w w':World}{v:Value}{u:aK}(h:cO w v u)(g:Gr w w'):cO w' v u:=by
 obtain ⟨v1,v2,v3,v4,v5,h,h1,h2,h3,h4,h5⟩:=h;exact ⟨v1,v2,v3,v4,v5,h,h1.gr g,h2.gr g,h3.gr g,h4.gr g,h5.gr g⟩
theorem bM.shape{w:World}{v:Value}{l:List (List Int)}(h:bM w v l):∃ao cap,v=.slice ao l.length cap:=by
 obtain ⟨ao,cap,hv,_⟩:=h;exact ⟨ao,cap,hv⟩
theorem eH.shape{w:World}{v:Value}{l:List aw}(h:eH w v l):∃ao cap,v=.slice ao l.length cap:=by
 obtain ⟨ao,cap,hv,_⟩:=h;exact ⟨ao,cap,hv⟩
theorem dH.shape{w:World}{v:Value}{l:List aO}(h:dH w v l):∃ao cap,v=.slice ao l.length cap:=by
 obtain ⟨ao,cap,hv,_⟩:=h;exact ⟨ao,cap,hv⟩
theorem aX{α:Type}{l:List α}{k:Nat}(h:k < l.length):∃x,l[k]? =some x:=⟨l[k],List.getElem?_eq_getElem h⟩
open Go.RowKit
attribute [local go_sem ↓] Go.wp_at_zero Go.wp_at_succ
theorem d'(l:List (List Int))(v:Value)(e a:Int)(w:World)(hR:bM w v l):
 Calls Tryz.prog 52 #[v,.agg #[.int .i64 e,.int .i64 0,.int .i64 a]] w fun x w'=>
  x=kA (cL l) e a/\Gr w w':=by
 obtain ⟨ao,cap,rfl,hm,hc⟩:=hR;unfold maxLen at hm;have HC:=aH hc;clear hc;obtain ⟨he,hn,ha⟩:=gd w e a;unfold cL;cases hb:wB l.length 0 20
 · go_enter Tryz.func52,Tryz.ntmps52
   go_wp2
   go_region_with (first|(go_at_call 99;refine (aZ _ _ _ _).mono ?_;rintro e w' ⟨rfl,rfl⟩)|(go_at_call 64;refine (aV _ _ _).mono ?_;rintro e w' ⟨rfl,D0⟩;refine aR ?_))
   all_goals exact ⟨rfl,rfl,Q0⟩
 · go_enter Tryz.func52,Tryz.ntmps52
   go_wp2
   go_region_held3 (fun w'=>w'.cell? ⟨w.heap.size,0,none⟩=some (.int .i64 e)/\w'.cell? ⟨w.heap.size,1,none⟩=some (.int .i64 0)/\w'.cell? ⟨w.heap.size,2,none⟩=some (.int .i64 a)) (first|go_keep|exact ⟨D0.cell Q8 Q6,D0.cell Q8 Q6,D0.cell Q8 Q6⟩) (first|(go_at_call 99;refine (aZ _ _ _ _).mono ?_;rintro e w' ⟨rfl,rfl⟩)|(go_at_call 64;refine (aP _ _ _).mono ?_;rintro e w' ⟨rfl,D0⟩))
   have N4:=D0.cell he Q6;have C4:=D0.cell hn Q6;have J2:=D0.cell ha Q6;have Z6:Gr w w':=Q0;clear D0 he hn ha;go_wp2
   go_loopw [13] (fun i wr=>∃k:Nat,k<=l.length/\i=.int .i64 k/\(l.take k).all (dY l.length)=true/\wr.cell? ⟨w.heap.size,0,none⟩=some (.int .i64 e)/\wr.cell? ⟨w.heap.size,1,none⟩=some (.int .i64 0)/\wr.cell? ⟨w.heap.size,2,none⟩=some (.int .i64 a)/\Gr w wr) (fun i _=>l.length - (intOf i).toNat)
   case atStart=>exact ⟨0,Nat.zero_le _,rfl,Q6,N4,C4,J2,Z6⟩
   case round=>
    clear N4 C4 J2 Z6;obtain ⟨k,hk,rfl,C2,he,hn,ha,hg⟩:=hrel;have HA:=aH C2;clear C2;by_cases J0:k < l.length
    · obtain ⟨x,hx⟩:=aX J0;obtain ⟨b,off,vx,K_,Z0,Tu⟩:=HC.out k x hx;subst K_;have L_:=hg.cell Z0 Q6;have hmx:=Tu.choose_spec.choose_spec.2.1;unfold maxLen at hmx;obtain ⟨ax,cx,rfl⟩:=Tu.shape;have Dm:=aH (Tu.gr hg);have HX:=aH hx;clear hx Tu Z0;cases P4:wB x.length 1 8
      · have HF:Hid (l.all (dY l.length)=false):=aH (bE HX.out (by simp [dY,P4]));go_wp2
        go_region_with (first|(go_at_call 99;refine (aZ _ _ _ _).mono ?_;rintro e w' ⟨rfl,rfl⟩)|(go_at_call 64;refine (aV _ _ _).mono ?_;rintro e w' ⟨rfl,D0⟩;refine aR ?_))
        all_goals exact ⟨rfl,by rw [HF.out];rfl,Q0⟩
      · cases YB:x.all (gD l.length)
        · have HF:Hid (l.all (dY l.length)=false):=aH (bE HX.out (by simp [dY,YB]));have HK:=aH YB;clear YB;go_wp2
          go_region_held3 (fun w'=>w'.cell? ⟨w.heap.size,0,none⟩=some (.int .i64 e)/\w'.cell? ⟨w.heap.size,1,none⟩=some (.int .i64 0)/\w'.cell? ⟨w.heap.size,2,none⟩=some (.int .i64 a)) (first|go_keep|exact ⟨D0.cell Q8 Q6,D0.cell Q8 Q6,D0.cell Q8 Q6⟩) (first|(go_at_call 99;refine (aZ _ _ _ _).mono ?_;rintro e w' ⟨rfl,rfl⟩)|(go_at_call 64;refine (aP _ _ _).mono ?_;rintro e w' ⟨rfl,D0⟩))
          have N4:=D0.cell he Q6;have C4:=D0.cell hn Q6;have J2:=D0.cell ha Q6;go_wp2_with (first|(go_at_call 100;refine (eG (fO x _ l.length e a _ (by exact Dm.out.gr Q0)) HK.out).mono ?_;rintro e w2 ⟨rfl,E0⟩))
          exact ⟨rfl,by rw [HF.out];rfl,Q0⟩
        · have HT:Hid ((l.take (k+1)).all (dY l.length)=true):=aH (by rw [dk HX.out,HA.out];simp [dY,P4,YB]);have HK:=aH YB;clear YB;go_wp2
          go_region_held3 (fun w'=>w'.cell? ⟨w.heap.size,0,none⟩=some (.int .i64 e)/\w'.cell? ⟨w.heap.size,1,none⟩=some (.int .i64 0)/\w'.cell? ⟨w.heap.size,2,none⟩=some (.int .i64 a)) (first|go_keep|exact ⟨D0.cell Q8 Q6,D0.cell Q8 Q6,D0.cell Q8 Q6⟩) (first|(go_at_call 99;refine (aZ _ _ _ _).mono ?_;rintro e w' ⟨rfl,rfl⟩)|(go_at_call 64;refine (aP _ _ _).mono ?_;rintro e w' ⟨rfl,D0⟩))
          have N4:=D0.cell he Q6;have C4:=D0.cell hn Q6;have J2:=D0.cell ha Q6;go_wp2_with (first|(go_at_call 100;refine (bO (fO x _ l.length e a _ (by exact Dm.out.gr Q0)) HK.out).mono ?_;rintro e w2 ⟨rfl,E0⟩))
          go_roundw
          case rel=>exact ⟨k+1,Q5,by go_num,HT.out,E0.cell N4 Q6,E0.cell C4 Q6,E0.cell J2 Q6,Q0⟩
          case measure=>simp [intOf];omega
    · go_wp2
      go_end0
      exact ⟨by rw [lH HA.out J0];rfl,hg⟩
open Go.RowKit
attribute [local go_sem ↓] Go.wp_at_zero Go.wp_at_succ
theorem qo(l:List aw)(v:Value)(e a:Int)(w:World)(hR:eH w v l):
 Calls Tryz.prog 102 #[v,.agg #[.int .i64 e,.int .i64 0,.int .i64 a]] w fun x w'=>
  x=kA (gG l) e a/\Gr w w':=by
 obtain ⟨ao,cap,rfl,hm,hc⟩:=hR;unfold maxLen at hm;have HC:=aH hc;clear hc;obtain ⟨he,hn,ha⟩:=gd w e a;unfold gG;cases hb:wB l.length 1 200
 · go_enter Tryz.func102,Tryz.ntmps102
   go_wp2
   go_region_with (first|(go_at_call 99;refine (aZ _ _ _ _).mono ?_;rintro e w' ⟨rfl,rfl⟩)|(go_at_call 64;refine (aV _ _ _).mono ?_;rintro e w' ⟨rfl,D0⟩;refine aR ?_))
   all_goals exact ⟨rfl,rfl,Q0⟩
 · go_enter Tryz.func102,Tryz.ntmps102
   go_wp2
   go_region_held3 (fun w'=>w'.cell? ⟨w.heap.size,0,none⟩=some (.int .i64 e)/\w'.cell? ⟨w.heap.size,1,none⟩=some (.int .i64 0)/\w'.cell? ⟨w.heap.size,2,none⟩=some (.int .i64 a)) (first|go_keep|exact ⟨D0.cell Q8 Q6,D0.cell Q8 Q6,D0.cell Q8 Q6⟩) (first|(go_at_call 99;refine (aZ _ _ _ _).mono ?_;rintro e w' ⟨rfl,rfl⟩)|(go_at_call 64;refine (aP _ _ _).mono ?_;rintro e w' ⟨rfl,D0⟩))
   have N4:=D0.cell he Q6;have C4:=D0.cell hn Q6;have J2:=D0.cell ha Q6;have Z6:Gr w w':=Q0;clear D0 he hn ha;go_wp2
   go_loopw [13] (fun i wr=>∃k:Nat,k<=l.length/\i=.int .i64 k/\(l.take k).all a_=true/\wr.cell? ⟨w.heap.size,0,none⟩=some (.int .i64 e)/\wr.cell? ⟨w.heap.size,1,none⟩=some (.int .i64 0)/\wr.cell? ⟨w.heap.size,2,none⟩=some (.int .i64 a)/\Gr w wr) (fun i _=>l.length - (intOf i).toNat)
   case atStart=>exact ⟨0,Nat.zero_le _,rfl,Q6,N4,C4,J2,Z6⟩
   case round=>
    clear N4 C4 J2 Z6;obtain ⟨k,hk,rfl,C2,he,hn,ha,hg⟩:=hrel;have HA:=aH C2;clear C2;by_cases J0:k < l.length
    · obtain ⟨x,hx⟩:=aX J0;obtain ⟨b,off,K_,L8,J5,S5⟩:=HC.out k x hx;subst K_;have Xf:=hg.cell L8 Q6;have Vh:=hg.cell J5 Q6;have Nn:=hg.cell S5 Q6;have HX:=aH hx;clear hx L8 J5 S5;have Kj:(wr.alloc (.cells #[.int .i64 x.op,.int .i64 x.a,.int .i64 x.b] 42)).cell? ⟨wr.heap.size,0,none⟩=some (.int .i64 x.op):=by simp [go_sem]
      have Fe:(wr.alloc (.cells #[.int .i64 x.op,.int .i64 x.a,.int .i64 x.b] 42)).cell? ⟨wr.heap.size,1,none⟩=some (.int .i64 x.a):=by simp [go_sem]
      have P8:(wr.alloc (.cells #[.int .i64 x.op,.int .i64 x.a,.int .i64 x.b] 42)).cell? ⟨wr.heap.size,2,none⟩=some (.int .i64 x.b):=by simp [go_sem]
      have hga:Gr w (wr.alloc (.cells #[.int .i64 x.op,.int .i64 x.a,.int .i64 x.b] 42)):=hg.alloc _;have On:=(World.grownBy_alloc wr (.cells #[.int .i64 x.op,.int .i64 x.a,.int .i64 x.b] 42) none).cell he Q6;have Pn:=(World.grownBy_alloc wr (.cells #[.int .i64 x.op,.int .i64 x.a,.int .i64 x.b] 42) none).cell hn Q6;have Qn:=(World.grownBy_alloc wr (.cells #[.int .i64 x.op,.int .i64 x.a,.int .i64 x.b] 42) none).cell ha Q6;cases Da:wB x.op 0 20
      · have HF:Hid (l.all a_=false):=aH (bE HX.out (by simp [a_,Da]));go_wp2
        go_region_with (first|(go_at_call 131;refine (o_ _ _).mono ?_;rintro e w' ⟨rfl,rfl⟩)|(go_at_call 64;refine (aV _ _ _).mono ?_;rintro e w' ⟨rfl,D0⟩;refine aR ?_))
        all_goals exact ⟨rfl,by rw [HF.out];rfl,Q0⟩
      · go_wp2
        go_region_held3 (fun w'=>w'.cell? ⟨w.heap.size,0,none⟩=some (.int .i64 e)/\w'.cell? ⟨w.heap.size,1,none⟩=some (.int .i64 0)/\w'.cell? ⟨w.heap.size,2,none⟩=some (.int .i64 a)/\w'.cell? ⟨wr.heap.size,0,none⟩=some (.int .i64 x.op)/\w'.cell? ⟨wr.heap.size,1,none⟩=some (.int .i64 x.a)/\w'.cell? ⟨wr.heap.size,2,none⟩=some (.int .i64 x.b)) (first|go_keep|(refine ⟨?_,?_,?_,?_,?_,?_⟩<;>exact D0.cell Q8 Q6)) (first|(go_at_call 131;refine (o_ _ _).mono ?_;rintro e w' ⟨rfl,rfl⟩)|(go_at_call 64;refine (aP _ _ _).mono ?_;rintro e w' ⟨rfl,D0⟩))
        have N4:=D0.cell On Q6;have C4:=D0.cell Pn Q6;have J2:=D0.cell Qn Q6;have Is:=D0.cell Kj Q6;have Wh:=D0.cell Fe Q6;have Ge:=D0.cell P8 Q6;have hg1:Gr w w':=Q0;clear Kj Fe P8 hga On Pn Qn D0 he hn ha;cases V6:(x.op == 1)
        · have hne:¬x.op=1:=by simpa using V6
          cases G5:ah x.a (decide (1<=aa x.op))
          · have HF:Hid (l.all a_=false):=aH (bE HX.out (by simp only [a_,hne,if_false,G5,Bool.and_false,Bool.false_and]));have HB:=aH G5;clear G5 hne;go_wp2
            go_region_with (first|(go_at_call 109;refine (bT _ _).mono ?_;rintro e w' ⟨rfl,rfl⟩)|(go_at_call 132;refine (eG (dz _ _ _ _ _) HB.out).mono ?_;rintro e w' ⟨rfl,D0⟩;refine aR ?_))
            all_goals exact ⟨rfl,by rw [HF.out];rfl,Q0⟩
          · cases R8:ah x.b (decide (2<=aa x.op))
            · have HF:Hid (l.all a_=false):=aH (bE HX.out (by simp only [a_,R8,Bool.and_false]));have HB:=aH G5;have O3:=aH R8;clear G5 R8 hne;go_wp2
              go_region_held3 (fun w'=>w'.cell? ⟨w.heap.size,0,none⟩=some (.int .i64 e)/\w'.cell? ⟨w.heap.size,1,none⟩=some (.int .i64 0)/\w'.cell? ⟨w.heap.size,2,none⟩=some (.int .i64 a)/\w'.cell? ⟨wr.heap.size,0,none⟩=some (.int .i64 x.op)/\w'.cell? ⟨wr.heap.size,1,none⟩=some (.int .i64 x.a)/\w'.cell? ⟨wr.heap.size,2,none⟩=some (.int .i64 x.b)) (first|go_keep|(refine ⟨?_,?_,?_,?_,?_,?_⟩<;>exact D0.cell Q8 Q6)) (first|(go_at_call 109;refine (bT _ _).mono ?_;rintro e w' ⟨rfl,rfl⟩)|(go_at_call 132;refine (bO (dz _ _ _ _ _) HB.out).mono ?_;rintro e w' ⟨rfl,D0⟩))
              have D9:=D0.cell N4 Q6;have T6:=D0.cell C4 Q6;have Eh:=D0.cell J2 Q6;have Gx:=D0.cell Is Q6;have Hx:=D0.cell Wh Q6;have Js:=D0.cell Ge Q6;have E0:Gr w w':=Q0;go_wp2
              go_region_with (first|(go_at_call 109;refine (bT _ _).mono ?_;rintro e w' ⟨rfl,rfl⟩)|(go_at_call 132;refine (eG (dz _ _ _ _ _) O3.out).mono ?_;rintro e w' ⟨rfl,D0⟩;refine aR ?_))
              all_goals exact ⟨rfl,by rw [HF.out];rfl,Q0⟩
            · have HT:Hid ((l.take (k+1)).all a_=true):=aH (by rw [dk HX.out,HA.out];simp only [a_,Da,hne,if_false,G5,R8,Bool.and_true]);have HB:=aH G5;have O3:=aH R8;clear G5 R8 hne;go_wp2
              go_region_held3 (fun w'=>w'.cell? ⟨w.heap.size,0,none⟩=some (.int .i64 e)/\w'.cell? ⟨w.heap.size,1,none⟩=some (.int .i64 0)/\w'.cell? ⟨w.heap.size,2,none⟩=some (.int .i64 a)/\w'.cell? ⟨wr.heap.size,0,none⟩=some (.int .i64 x.op)/\w'.cell? ⟨wr.heap.size,1,none⟩=some (.int .i64 x.a)/\w'.cell? ⟨wr.heap.size,2,none⟩=some (.int .i64 x.b)) (first|go_keep|(refine ⟨?_,?_,?_,?_,?_,?_⟩<;>exact D0.cell Q8 Q6)) (first|(go_at_call 109;refine (bT _ _).mono ?_;rintro e w' ⟨rfl,rfl⟩)|(go_at_call 132;refine (bO (dz _ _ _ _ _) HB.out).mono ?_;rintro e w' ⟨rfl,D0⟩))
              have D9:=D0.cell N4 Q6;have T6:=D0.cell C4 Q6;have Eh:=D0.cell J2 Q6;have Gx:=D0.cell Is Q6;have Hx:=D0.cell Wh Q6;have Js:=D0.cell Ge Q6;have E0:Gr w w':=Q0;go_wp2
              go_region_held3 (fun w'=>w'.cell? ⟨w.heap.size,0,none⟩=some (.int .i64 e)/\w'.cell? ⟨w.heap.size,1,none⟩=some (.int .i64 0)/\w'.cell? ⟨w.heap.size,2,none⟩=some (.int .i64 a)/\w'.cell? ⟨wr.heap.size,0,none⟩=some (.int .i64 x.op)/\w'.cell? ⟨wr.heap.size,1,none⟩=some (.int .i64 x.a)/\w'.cell? ⟨wr.heap.size,2,none⟩=some (.int .i64 x.b)) (first|go_keep|(refine ⟨?_,?_,?_,?_,?_,?_⟩<;>exact D0.cell Q8 Q6)) (first|(go_at_call 109;refine (bT _ _).mono ?_;rintro e w' ⟨rfl,rfl⟩)|(go_at_call 132;refine (bO (dz _ _ _ _ _) O3.out).mono ?_;rintro e w' ⟨rfl,D0⟩))
              go_wp2
              go_roundw
              case rel=>exact ⟨k+1,Q5,by go_num,HT.out,D0.cell D9 Q6,D0.cell T6 Q6,D0.cell Eh Q6,Q0⟩
              case measure=>simp [intOf];omega
        · cases Ra:wB x.a (-2147483648) 2147483647
          · have HF:Hid (l.all a_=false):=aH (bE HX.out (by simp [a_,(beq_iff_eq.1 V6),Ra]));go_wp2
            go_region_with (first|(go_at_call 99;refine (aZ _ _ _ _).mono ?_;rintro e w' ⟨rfl,rfl⟩)|(go_at_call 64;refine (aV _ _ _).mono ?_;rintro e w' ⟨rfl,D0⟩;refine aR ?_))
            all_goals exact ⟨rfl,by rw [HF.out];rfl,Q0⟩
          · cases R8:ah x.b (decide (2<=aa x.op))
            · have HF:Hid (l.all a_=false):=aH (bE HX.out (by simp only [a_,R8,Bool.and_false]));have O3:=aH R8;clear R8;go_wp2
              go_region_held3 (fun w'=>w'.cell? ⟨w.heap.size,0,none⟩=some (.int .i64 e)/\w'.cell? ⟨w.heap.size,1,none⟩=some (.int .i64 0)/\w'.cell? ⟨w.heap.size,2,none⟩=some (.int .i64 a)/\w'.cell? ⟨wr.heap.size,0,none⟩=some (.int .i64 x.op)/\w'.cell? ⟨wr.heap.size,1,none⟩=some (.int .i64 x.a)/\w'.cell? ⟨wr.heap.size,2,none⟩=some (.int .i64 x.b)) (first|go_keep|(refine ⟨?_,?_,?_,?_,?_,?_⟩<;>exact D0.cell Q8 Q6)) (first|(go_at_call 99;refine (aZ _ _ _ _).mono ?_;rintro e w' ⟨rfl,rfl⟩)|(go_at_call 64;refine (aP _ _ _).mono ?_;rintro e w' ⟨rfl,D0⟩))
              have D9:=D0.cell N4 Q6;have T6:=D0.cell C4 Q6;have Eh:=D0.cell J2 Q6;have Gx:=D0.cell Is Q6;have Hx:=D0.cell Wh Q6;have Js:=D0.cell Ge Q6;have E0:Gr w w':=Q0;go_wp2
              go_region_with (first|(go_at_call 109;refine (bT _ _).mono ?_;rintro e w' ⟨rfl,rfl⟩)|(go_at_call 132;refine (eG (dz _ _ _ _ _) O3.out).mono ?_;rintro e w' ⟨rfl,D0⟩;refine aR ?_))
              all_goals exact ⟨rfl,by rw [HF.out];rfl,Q0⟩
            · have HT:Hid ((l.take (k+1)).all a_=true):=aH (by rw [dk HX.out,HA.out];simp only [a_,Da,beq_iff_eq.1 V6,if_true,Ra,Bool.and_true,Bool.true_and];rw [beq_iff_eq.1 V6] at R8;exact R8);have O3:=aH R8;clear R8;go_wp2
              go_region_held3 (fun w'=>w'.cell? ⟨w.heap.size,0,none⟩=some (.int .i64 e)/\w'.cell? ⟨w.heap.size,1,none⟩=some (.int .i64 0)/\w'.cell? ⟨w.heap.size,2,none⟩=some (.int .i64 a)/\w'.cell? ⟨wr.heap.size,0,none⟩=some (.int .i64 x.op)/\w'.cell? ⟨wr.heap.size,1,none⟩=some (.int .i64 x.a)/\w'.cell? ⟨wr.heap.size,2,none⟩=some (.int .i64 x.b)) (first|go_keep|(refine ⟨?_,?_,?_,?_,?_,?_⟩<;>exact D0.cell Q8 Q6)) (first|(go_at_call 99;refine (aZ _ _ _ _).mono ?_;rintro e w' ⟨rfl,rfl⟩)|(go_at_call 64;refine (aP _ _ _).mono ?_;rintro e w' ⟨rfl,D0⟩))
              have D9:=D0.cell N4 Q6;have T6:=D0.cell C4 Q6;have Eh:=D0.cell J2 Q6;have Gx:=D0.cell Is Q6;have Hx:=D0.cell Wh Q6;have Js:=D0.cell Ge Q6;have E0:Gr w w':=Q0;go_wp2
              go_region_held3 (fun w'=>w'.cell? ⟨w.heap.size,0,none⟩=some (.int .i64 e)/\w'.cell? ⟨w.heap.size,1,none⟩=some (.int .i64 0)/\w'.cell? ⟨w.heap.size,2,none⟩=some (.int .i64 a)/\w'.cell? ⟨wr.heap.size,0,none⟩=some (.int .i64 x.op)/\w'.cell? ⟨wr.heap.size,1,none⟩=some (.int .i64 x.a)/\w'.cell? ⟨wr.heap.size,2,none⟩=some (.int .i64 x.b)) (first|go_keep|(refine ⟨?_,?_,?_,?_,?_,?_⟩<;>exact D0.cell Q8 Q6)) (first|(go_at_call 109;refine (bT _ _).mono ?_;rintro e w' ⟨rfl,rfl⟩)|(go_at_call 132;refine (bO (dz _ _ _ _ _) O3.out).mono ?_;rintro e w' ⟨rfl,D0⟩))
              go_wp2
              go_roundw
              case rel=>exact ⟨k+1,Q5,by go_num,HT.out,D0.cell D9 Q6,D0.cell T6 Q6,D0.cell Eh Q6,Q0⟩
              case measure=>simp [intOf];omega
    · go_wp2
      go_end0
      exact ⟨by rw [lH HA.out J0];rfl,hg⟩
end Go.Proofs.YtkgncijcnlfhiabGreat
