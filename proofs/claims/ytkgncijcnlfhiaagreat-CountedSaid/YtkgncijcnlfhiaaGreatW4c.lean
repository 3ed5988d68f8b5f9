import Derived.Test.YtkgncijcnlfhiaaGreatChecked
import Derived.WalkKit
import Derived.WalkSmall
import Derived.Deep.LoopGhost
import Derived.Deep.QuietTactic
import Derived.BigQuiet
import Derived.Deep.RegionHeld3
import Derived.Deep.RegionWith
import Derived.Deep.DrawnRows
namespace Go.Proofs.YtkgncijcnlfhiaaGreat
theorem sA {α : Type} (l : List α) (i : Nat) (a : α) : l.toArray.setIfInBounds i a = (l.set i a).toArray := List.setIfInBounds_toArray ..
theorem s0 {α : Type} (x a : α) (l : List α) : (x :: l).set 0 a = a :: l := rfl
theorem s1 {α : Type} (x a : α) (n : Nat) (l : List α) : (x :: l).set (n + 1) a = x :: l.set n a := rfl
set_option maxHeartbeats 2000000
set_option linter.unusedVariables false
set_option linter.unusedSimpArgs false
structure aw where
 op:Int
 a:Int
 b:Int
structure aO where
 aF:List Int
 result:Int
 aG:List Int
 code:List aw
structure fQ where
 name:List UInt8
 aF:List Int
 result:Int
structure du where
 name:List UInt8
 func:Int
structure aK where
 aA:List (List Int)
 aD:List Int
 aE:List aO
 aB:List fQ
 aC:List du
def wB(v l m:Int):Bool:=decide (l≤v∧v≤m)
def jT(n k:Int):Bool:=wB k 0 n
def ah(op:Int):Int:=
 if op=16∨op=17 then 2
 else if op=0∨op=1∨op=2∨op=3∨op=11∨op=12∨op=13∨op=15∨op=18∨op=19 then 1 else 0
def a9(v:Int)(named:Bool):Bool:=if named then wB v 0 65535 else decide (v=0)
def bH(i:aw):Bool:=
 wB i.op 0 20 && ((if i.op=1 then wB i.a (-2147483648) 2147483647 else a9 i.a (decide (1≤ah i.op))) && a9 i.b (decide (2≤ah i.op)))
def gI(l:List aw):Bool:=wB l.length 1 200 && l.all bH
def fG(ps:List Int)(r n:Int):Bool:=wB ps.length 0 6 && (ps.all (jT n) && jT n r)
def c_(n:Int)(f:aO):Bool:=fG f.aF f.result n && (wB f.aG.length 0 10 && (f.aG.all (jT n) && gI f.code))
def cL(l:List aO)(n:Int):Bool:=wB l.length 0 30 && l.all (c_ n)
def fB(s:List UInt8):Bool:=wB s.length 1 20
def gQ(n:Int)(i:fQ):Bool:=fB i.name && fG i.aF i.result n
def bm(l:List fQ)(n:Int):Bool:=wB l.length 0 20 && l.all (gQ n)
def gi(m:Int)(e:du):Bool:=fB e.name && wB e.func 0 (m - 1)
def b_(l:List du)(m:Int):Bool:=wB l.length 0 20 && l.all (gi m)
def dj(n:Int)(f:List Int):Bool:=wB f.length 1 8 && f.all (jT n)
def A9(l:List (List Int)):Bool:=wB l.length 0 20 && l.all (dj l.length)
def dE(l:List Int):Bool:=wB l.length 0 50
def ak(u:aK):Bool:=
 A9 u.aA && (dE u.aD && (cL u.aE u.aA.length && (bm u.aB u.aA.length && b_ u.aC u.aE.length)))
theorem A_{α:Type}{p:α→Bool}{l:List α}{k:Nat}{x:α}(h:l[k]? =some x):
 (l.take (k+1)).all p=((l.take k).all p && p x):=by
 obtain ⟨hk,rfl⟩:=List.getElem?_eq_some_iff.1 h;rw [List.take_succ_eq_append_getElem hk,List.all_append];simp
theorem bD{α:Type}{p:α→Bool}{l:List α}{k:Nat}{x:α}(h:l[k]? =some x)(hp:p x=false):l.all p=false:=by
 obtain ⟨hk,rfl⟩:=List.getElem?_eq_some_iff.1 h;rw [Bool.eq_false_iff];intro hc;rw [List.all_eq_true] at hc;have:=hc l[k] (List.getElem_mem hk)
 rw [hp] at this;cases this
theorem kL{α:Type}{p:α→Bool}{l:List α}{k:Nat}(h:(l.take k).all p=true)(hk:¬k < l.length):l.all p=true:=by
 rwa [List.take_of_length_le (by omega)] at h
open Go.RowKit
attribute [local go_sem ↓] Go.wp_at_zero Go.wp_at_succ
theorem aQ{G:Prop}(h:wpAny Tryz.prog .any #[] (fun _ _ _=>G) 0 #[] ⟨#[],[]⟩ default):G:=h.2
theorem aH{p:Prop}(h:p):Hid p:=h
def Ab(e a:Int):Value:=.agg #[.int .i64 e,.int .i64 0,.int .i64 a]
def dF(e a:Int):List PanicEntry:= [{ v:=.iface 58 (Ab e a),recovered:=false }]
abbrev Gr(w w':World):Prop:=w.grownBy w' none
theorem Gr.refl(w:World):Gr w w:=World.grownBy.refl w none
theorem Gr.trans{a b c:World}(h:Gr a b)(k:Gr b c):Gr a c:=
 ⟨k.os.trans h.os,k.tape.trans h.tape,k.output.trans h.output,Nat.le_trans h.size k.size,
  fun i hi _=>(k.block i (Nat.lt_of_lt_of_le hi h.size) (by simp)).trans (h.block i hi (by simp))⟩
theorem Gr.alloc{a b:World}(h:Gr a b)(o:Obj):Gr a (b.alloc o):=h.trans (World.grownBy_alloc b o none)
theorem Gr.drew{a b:World}(h:Gr a b):Gr a b.drew:=⟨h.os,h.tape,h.output,h.size,h.block⟩
theorem aP(e a:Int)(w:World):
 Calls Tryz.prog 32 #[.agg #[.int .i64 e,.int .i64 0,.int .i64 a],.bool true] w fun x w'=>
  x=.returned (.tuple #[])∧Gr w w':=by
 have hnot:∀(x:Bool) (w:World),(Op.unary .not (.bool x)).run Tryz.prog w=.ok (.bool (!x)) w:=fun _ _=>rfl
 go_enter Tryz.func32,Tryz.ntmps32
 go_wp2
 go_end0
 exact ⟨rfl,(Gr.refl _).alloc _⟩
theorem aV(e a:Int)(w:World):
 Calls Tryz.prog 32 #[.agg #[.int .i64 e,.int .i64 0,.int .i64 a],.bool false] w fun x w'=>
  x=.panicked (dF e a)∧Gr w w':=by
 have hnot:∀(x:Bool) (w:World),(Op.unary .not (.bool x)).run Tryz.prog w=.ok (.bool (!x)) w:=fun _ _=>rfl
 go_enter Tryz.func32,Tryz.ntmps32
 go_wp2
 exact ⟨rfl,rfl,(Gr.refl _).alloc _⟩
theorem aZ(v l m:Int)(w:World):
 Calls Tryz.prog 72 #[.int .i64 v,.int .i64 l,.int .i64 m] w fun x w'=>
  x=.returned (.bool (wB v l m))∧w'=w:=by
 by_cases h:l≤v
 · have hd:decide (l≤v)=true:=by simpa using h
   go_enter Tryz.func72,Tryz.ntmps72
   go_wp2
   go_ret
   exact ⟨by simp [wB,h],rfl⟩
 · have hd:decide (l≤v)=false:=by simpa using h
   go_enter Tryz.func72,Tryz.ntmps72
   go_wp2
   go_ret
   exact ⟨by simp [wB];omega,rfl⟩
def jO(b:Bool)(e a:Int):Ending:=if b then .returned (.tuple #[]) else .panicked (dF e a)
theorem uR(e a:Int):jO true e a=.returned (.tuple #[]):=rfl
theorem ux(e a:Int):jO false e a=.panicked (dF e a):=rfl
def aX(w:World)(v:Value)(l:List Int):Prop:=
 ∃ao cap,v=.slice ao l.length cap∧l.length≤maxLen∧∀i,i < l.length→∃b off,ao=some ⟨b,off,none⟩∧w.cell? ⟨b,off+i,none⟩=some (.int .i64 (l.getD i 0))
theorem aX.gr{w w':World}{v:Value}{l:List Int}(h:aX w v l)(g:Gr w w'):aX w' v l:=by
 obtain ⟨ao,cap,hv,hm,hc⟩:=h;refine ⟨ao,cap,hv,hm,fun i hi=>?_⟩;obtain ⟨b,off,h1,h2⟩:=hc i hi;exact ⟨b,off,h1,g.cell h2 (by simp)⟩
theorem na{n:Int}{l:List Int}{k:Nat}(hk:k < l.length):
 (l.take (k+1)).all (jT n)=((l.take k).all (jT n) && jT n (l.getD k 0)):=by
 rw [List.take_succ_eq_append_getElem hk,List.all_append];simp [List.getD_eq_getElem?_getD,hk]
theorem ng{l:List Int}{p:Int→Bool}{k:Nat}{x:Bool}(h:(l.take (k+1)).all p=x)(hx:x=false):Hid (l.all p=false):=by
 have e:l.all p=((l.take (k+1)).all p && (l.drop (k+1)).all p):=by rw [←List.all_append,List.take_append_drop]
 exact aH (by rw [e,h,hx];rfl)
theorem ek(l:List Int)(v:Value)(n e a:Int)(w:World)(hl:aX w v l):
 Calls Tryz.prog 73 #[v,.int .i64 n,.agg #[.int .i64 e,.int .i64 0,.int .i64 a]] w fun x w'=>
  x=jO (l.all (jT n)) e a∧Gr w w':=by
 obtain ⟨ao,cap,rfl,hm,hc⟩:=hl;unfold maxLen at hm;go_enter Tryz.func73,Tryz.ntmps73
 go_wp2
 go_loopw [10] (fun i wr=>∃k:Nat,k≤l.length∧i=.int .i64 k∧(l.take k).all (jT n)=true∧wr.cell? ⟨w.heap.size,0,none⟩=some (.int .i64 e)∧wr.cell? ⟨w.heap.size,1,none⟩=some (.int .i64 0)∧wr.cell? ⟨w.heap.size,2,none⟩=some (.int .i64 a)∧Gr w wr) (fun i _=>l.length - (intOf i).toNat)
 case atStart=>exact ⟨0,Nat.zero_le _,rfl,by simp,by simp [go_sem],by simp [go_sem],by simp [go_sem],(Gr.refl _).alloc _⟩
 case round=>
  obtain ⟨k,hk,rfl,hall,he,hn,ha,hg⟩:=hrel;by_cases hlt:k < l.length
  · obtain ⟨b,off,hao,hcell⟩:=hc k hlt;subst hao;have HS:=aH (na (n:=n) hlt);have hcell':=hg.cell hcell (by simp);generalize l.getD k 0=x at hcell' HS;clear hcell hc;cases hb:wB x 0 n
    · have HF:Hid (l.all (jT n)=false):=ng (k:=k) HS.out (by rw [hall];simp [jT,hb]);go_wp2
      go_region_with (first|(go_at_call 72;refine (aZ _ _ _ _).mono ?_;rintro e w' ⟨rfl,rfl⟩)|(go_at_call 32;refine (aV _ _ _).mono ?_;rintro e w' ⟨rfl,hg'⟩;refine aQ ?_))
      all_goals exact ⟨rfl,by rw [HF.out];rfl,hg.drew.trans hg'⟩
    · have HT:Hid ((l.take (k+1)).all (jT n)=true):=by rw [HS.out,hall];simp [jT,hb,aH]
      go_wp2
      go_region_held3 (fun w'=>w'.cell? ⟨w.heap.size,0,none⟩=some (.int .i64 e)∧w'.cell? ⟨w.heap.size,1,none⟩=some (.int .i64 0)∧w'.cell? ⟨w.heap.size,2,none⟩=some (.int .i64 a)) (first|go_keep|exact ⟨hg'.cell (by assumption) (by simp),hg'.cell (by assumption) (by simp),hg'.cell (by assumption) (by simp)⟩) (first|(go_at_call 72;refine (aZ _ _ _ _).mono ?_;rintro e w' ⟨rfl,rfl⟩)|(go_at_call 32;refine (aP _ _ _).mono ?_;rintro e w' ⟨rfl,hg'⟩))
      all_goals go_wp2
      all_goals go_roundw
      case rel=>exact ⟨k+1,by omega,by go_num,HT.out,hg'.cell he (by simp),hg'.cell hn (by simp),hg'.cell ha (by simp),hg.drew.trans hg'⟩
      case measure=>simp [intOf];omega
  · go_wp2
    go_end0
    have e1:l.take k=l:=List.take_of_length_le (by omega);rw [e1] at hall;exact ⟨by rw [hall];rfl,hg⟩
open Go.RowKit
attribute [local go_sem ↓] Go.wp_at_zero Go.wp_at_succ
theorem nX(v:Int)(w:World):
 Calls Tryz.prog 112 #[.int .i64 v] w fun x w'=>x=.returned (.bool (wB v 0 20))∧w'=w:=by
 go_enter Tryz.func112,Tryz.ntmps112
 go_wp2_with (go_at_call 72;refine (aZ _ _ _ _).mono ?_;rintro e w' ⟨rfl,rfl⟩)
 go_ret
 exact ⟨rfl,rfl⟩
theorem bW(v:Int)(w:World):
 Calls Tryz.prog 114 #[.int .i64 v] w fun x w'=>x=.returned (.int .i64 (ah v))∧w'=w:=by
 go_enter Tryz.func114,Tryz.ntmps114
 go_wp2
 all_goals go_ret
 all_goals (refine ⟨?_,rfl⟩;simp_all [ah])
theorem BD(w:World)(e a:Int):(w.alloc (.cells #[.int .i64 e,.int .i64 0,.int .i64 a] 58)).cell? ⟨w.heap.size,0,none⟩=some (.int .i64 e)∧(w.alloc (.cells #[.int .i64 e,.int .i64 0,.int .i64 a] 58)).cell? ⟨w.heap.size,1,none⟩=some (.int .i64 0)∧(w.alloc (.cells #[.int .i64 e,.int .i64 0,.int .i64 a] 58)).cell? ⟨w.heap.size,2,none⟩=some (.int .i64 a):=by
 refine ⟨?_,?_,?_⟩<;>simp [go_sem]
theorem vT(s:ByteArray)(e a:Int)(w:World)(hs:s.size≤maxLen):
 Calls Tryz.prog 76 #[.string s,.agg #[.int .i64 e,.int .i64 0,.int .i64 a]] w fun x w'=>
  x=jO (fB s.data.toList) e a∧Gr w w':=by
 unfold maxLen at hs;have HN:fB s.data.toList=wB s.size 1 20:=by unfold fB;rw [Array.length_toList];rfl
 rw [HN];cases hb:wB s.size 1 20
 · go_enter Tryz.func76,Tryz.ntmps76
   go_wp2
   go_region_with (first|(go_at_call 72;refine (aZ _ _ _ _).mono ?_;rintro e w' ⟨rfl,rfl⟩)|(go_at_call 32;refine (aV _ _ _).mono ?_;rintro e w' ⟨rfl,hg'⟩;refine aQ ?_))
   all_goals exact ⟨rfl,rfl,((Gr.refl _).alloc _).drew.trans hg'⟩
 · go_enter Tryz.func76,Tryz.ntmps76
   go_wp2
   go_region_with (first|(go_at_call 72;refine (aZ _ _ _ _).mono ?_;rintro e w' ⟨rfl,rfl⟩)|(go_at_call 32;refine (aP _ _ _).mono ?_;rintro e w' ⟨rfl,hg'⟩))
   all_goals go_wp2
   all_goals go_end0
   all_goals exact ⟨rfl,((Gr.refl _).alloc _).drew.trans hg'⟩
theorem eN(v:Value)(l:List Int)(e a:Int)(w:World)(hv:∃ao cap,v=.slice ao l.length cap)(hs:l.length≤maxLen):
 Calls Tryz.prog 43 #[v,.agg #[.int .i64 e,.int .i64 0,.int .i64 a]] w fun x w'=>
  x=jO (dE l) e a∧Gr w w':=by
 obtain ⟨ao,cap,rfl⟩:=hv;unfold maxLen at hs;have HN:dE l=wB l.length 0 50:=rfl;rw [HN];cases hb:wB l.length 0 50
 · go_enter Tryz.func43,Tryz.ntmps43
   go_wp2
   go_region_with (first|(go_at_call 72;refine (aZ _ _ _ _).mono ?_;rintro e w' ⟨rfl,rfl⟩)|(go_at_call 32;refine (aV _ _ _).mono ?_;rintro e w' ⟨rfl,hg'⟩;refine aQ ?_))
   all_goals exact ⟨rfl,rfl,((Gr.refl _).alloc _).drew.trans hg'⟩
 · go_enter Tryz.func43,Tryz.ntmps43
   go_wp2
   go_region_with (first|(go_at_call 72;refine (aZ _ _ _ _).mono ?_;rintro e w' ⟨rfl,rfl⟩)|(go_at_call 32;refine (aP _ _ _).mono ?_;rintro e w' ⟨rfl,hg'⟩))
   all_goals go_wp2
   all_goals go_end0
   all_goals exact ⟨rfl,((Gr.refl _).alloc _).drew.trans hg'⟩
theorem dl(v:Int)(n:Bool)(e a:Int)(w:World):
 Calls Tryz.prog 113 #[.int .i64 v,.bool n,.agg #[.int .i64 e,.int .i64 0,.int .i64 a]] w fun x w'=>
  x=jO (a9 v n) e a∧Gr w w':=by
 cases n
 · by_cases hz:v=0
   · subst hz;go_enter Tryz.func113,Tryz.ntmps113
     go_wp2_with (first|(go_at_call 32;refine (aP _ _ _).mono ?_;rintro e w' ⟨rfl,hg'⟩))
     go_end0
     exact ⟨rfl,((Gr.refl _).alloc _).trans hg'⟩
   · have hz':(v == 0)=false:=by simpa using hz
     have HF:Hid (a9 v false=false):=aH (by simp [a9,hz]);go_enter Tryz.func113,Tryz.ntmps113
     go_wp2_with (first|(go_at_call 32;refine (aV _ _ _).mono ?_;rintro e w' ⟨rfl,hg'⟩))
     exact ⟨rfl,by rw [HF.out];rfl,((Gr.refl _).alloc _).trans hg'⟩
 · cases hb:wB v 0 65535
   · go_enter Tryz.func113,Tryz.ntmps113
     go_wp2
     go_region_with (first|(go_at_call 72;refine (aZ _ _ _ _).mono ?_;rintro e w' ⟨rfl,rfl⟩)|(go_at_call 32;refine (aV _ _ _).mono ?_;rintro e w' ⟨rfl,hg'⟩;refine aQ ?_))
     all_goals exact ⟨rfl,by simp [a9,hb];rfl,((Gr.refl _).alloc _).drew.trans hg'⟩
   · go_enter Tryz.func113,Tryz.ntmps113
     go_wp2
     go_region_with (first|(go_at_call 72;refine (aZ _ _ _ _).mono ?_;rintro e w' ⟨rfl,rfl⟩)|(go_at_call 32;refine (aP _ _ _).mono ?_;rintro e w' ⟨rfl,hg'⟩))
     all_goals go_wp2
     all_goals go_end0
     all_goals exact ⟨by simp [a9,hb];rfl,((Gr.refl _).alloc _).drew.trans hg'⟩
open Go.RowKit
attribute [local go_sem ↓] Go.wp_at_zero Go.wp_at_succ
theorem bT{f:FuncId}{args:Array Value}{w:World}{b:Bool}{e a:Int}(h:Calls Tryz.prog f args w fun x w'=>x=jO b e a∧Gr w w')(hb:b=true):
 Calls Tryz.prog f args w fun x w'=>x=.returned (.tuple #[])∧Gr w w':=by subst hb;exact h
theorem dy{f:FuncId}{args:Array Value}{w:World}{b:Bool}{e a:Int}(h:Calls Tryz.prog f args w fun x w'=>x=jO b e a∧Gr w w')(hb:b=false):
 Calls Tryz.prog f args w fun x w'=>x=.panicked (dF e a)∧Gr w w':=by subst hb;exact h
theorem aX.shape{w:World}{v:Value}{l:List Int}(h:aX w v l):∃ao cap,v=.slice ao l.length cap:=by
 obtain ⟨ao,cap,hv,_⟩:=h;exact ⟨ao,cap,hv⟩
theorem fE(l:List Int)(v:Value)(r n e a:Int)(w:World)(hR:aX w v l):
 Calls Tryz.prog 74 #[v,.int .i64 r,.int .i64 n,.agg #[.int .i64 e,.int .i64 0,.int .i64 a]] w fun x w'=>
  x=jO (fG l r n) e a∧Gr w w':=by
 have hm:=hR.choose_spec.choose_spec.2.1;obtain ⟨ao,cap,rfl⟩:=hR.shape;unfold maxLen at hm;have HR:=aH hR;clear hR;obtain ⟨he,hn,ha⟩:=BD w e a;unfold fG;cases hb:wB l.length 0 6
 · go_enter Tryz.func74,Tryz.ntmps74
   go_wp2
   go_region_with (first|(go_at_call 72;refine (aZ _ _ _ _).mono ?_;rintro e w' ⟨rfl,rfl⟩)|(go_at_call 32;refine (aV _ _ _).mono ?_;rintro e w' ⟨rfl,hg'⟩;refine aQ ?_))
   all_goals exact ⟨rfl,rfl,(by repeat (first|exact Gr.refl _|assumption|refine Gr.drew ?_|refine Gr.alloc ?_ _|refine Gr.trans ?_ (by assumption)))⟩
 · cases hk:l.all (jT n)
   · have HK:=aH hk;clear hk;go_enter Tryz.func74,Tryz.ntmps74
     go_wp2
     go_region_held3 (fun w'=>w'.cell? ⟨w.heap.size,0,none⟩=some (.int .i64 e)∧w'.cell? ⟨w.heap.size,1,none⟩=some (.int .i64 0)∧w'.cell? ⟨w.heap.size,2,none⟩=some (.int .i64 a)) (first|go_keep|exact ⟨hg'.cell (by assumption) (by simp),hg'.cell (by assumption) (by simp),hg'.cell (by assumption) (by simp)⟩) (first|(go_at_call 72;refine (aZ _ _ _ _).mono ?_;rintro e w' ⟨rfl,rfl⟩)|(go_at_call 32;refine (aP _ _ _).mono ?_;rintro e w' ⟨rfl,hg'⟩))
     have he1:=hg'.cell he (by simp);have hn1:=hg'.cell hn (by simp);have ha1:=hg'.cell ha (by simp);go_wp2_with (first|(go_at_call 73;refine (dy (ek l _ n e a _ (by exact HR.out.gr (by repeat (first|exact Gr.refl _|assumption|refine Gr.drew ?_|refine Gr.alloc ?_ _|refine Gr.trans ?_ (by assumption))))) HK.out).mono ?_;rintro e w2 ⟨rfl,hg2⟩))
     exact ⟨rfl,rfl,(by repeat (first|exact Gr.refl _|assumption|refine Gr.drew ?_|refine Gr.alloc ?_ _|refine Gr.trans ?_ (by assumption)))⟩
   · have HK:=aH hk;clear hk;cases hr:wB r 0 n
     · go_enter Tryz.func74,Tryz.ntmps74
       go_wp2
       go_region_held3 (fun w'=>w'.cell? ⟨w.heap.size,0,none⟩=some (.int .i64 e)∧w'.cell? ⟨w.heap.size,1,none⟩=some (.int .i64 0)∧w'.cell? ⟨w.heap.size,2,none⟩=some (.int .i64 a)) (first|go_keep|exact ⟨hg'.cell (by assumption) (by simp),hg'.cell (by assumption) (by simp),hg'.cell (by assumption) (by simp)⟩) (first|(go_at_call 72;refine (aZ _ _ _ _).mono ?_;rintro e w' ⟨rfl,rfl⟩)|(go_at_call 32;refine (aP _ _ _).mono ?_;rintro e w' ⟨rfl,hg'⟩))
       have he1:=hg'.cell he (by simp);have hn1:=hg'.cell hn (by simp);have ha1:=hg'.cell ha (by simp);go_wp2_with (first|(go_at_call 73;refine (bT (ek l _ n e a _ (by exact HR.out.gr (by repeat (first|exact Gr.refl _|assumption|refine Gr.drew ?_|refine Gr.alloc ?_ _|refine Gr.trans ?_ (by assumption))))) HK.out).mono ?_;rintro e w2 ⟨rfl,hg2⟩))
       have he2:=hg2.cell he1 (by simp);have hn2:=hg2.cell hn1 (by simp);have ha2:=hg2.cell ha1 (by simp);go_region_with (first|(go_at_call 72;refine (aZ _ _ _ _).mono ?_;rintro e w' ⟨rfl,rfl⟩)|(go_at_call 32;refine (aV _ _ _).mono ?_;rintro e w' ⟨rfl,hg'⟩;refine aQ ?_))
       all_goals exact ⟨rfl,by simp [jT,hr];rfl,(by repeat (first|exact Gr.refl _|assumption|refine Gr.drew ?_|refine Gr.alloc ?_ _|refine Gr.trans ?_ (by assumption)))⟩
     · go_enter Tryz.func74,Tryz.ntmps74
       go_wp2
       go_region_held3 (fun w'=>w'.cell? ⟨w.heap.size,0,none⟩=some (.int .i64 e)∧w'.cell? ⟨w.heap.size,1,none⟩=some (.int .i64 0)∧w'.cell? ⟨w.heap.size,2,none⟩=some (.int .i64 a)) (first|go_keep|exact ⟨hg'.cell (by assumption) (by simp),hg'.cell (by assumption) (by simp),hg'.cell (by assumption) (by simp)⟩) (first|(go_at_call 72;refine (aZ _ _ _ _).mono ?_;rintro e w' ⟨rfl,rfl⟩)|(go_at_call 32;refine (aP _ _ _).mono ?_;rintro e w' ⟨rfl,hg'⟩))
       have he1:=hg'.cell he (by simp);have hn1:=hg'.cell hn (by simp);have ha1:=hg'.cell ha (by simp);go_wp2_with (first|(go_at_call 73;refine (bT (ek l _ n e a _ (by exact HR.out.gr (by repeat (first|exact Gr.refl _|assumption|refine Gr.drew ?_|refine Gr.alloc ?_ _|refine Gr.trans ?_ (by assumption))))) HK.out).mono ?_;rintro e w2 ⟨rfl,hg2⟩))
       have he2:=hg2.cell he1 (by simp);have hn2:=hg2.cell hn1 (by simp);have ha2:=hg2.cell ha1 (by simp);go_region_with (first|(go_at_call 72;refine (aZ _ _ _ _).mono ?_;rintro e w' ⟨rfl,rfl⟩)|(go_at_call 32;refine (aP _ _ _).mono ?_;rintro e w' ⟨rfl,hg'⟩))
       all_goals go_wp2
       all_goals go_end0
       all_goals exact ⟨by simp [jT,hr];rfl,(by repeat (first|exact Gr.refl _|assumption|refine Gr.drew ?_|refine Gr.alloc ?_ _|refine Gr.trans ?_ (by assumption)))⟩
open Go.RowKit
def bG(w:World)(v:Value)(l:List (List Int)):Prop:=
 ∃ao cap,v=.slice ao l.length cap∧l.length≤maxLen∧∀i x,l[i]? =some x→∃b off vx,ao=some ⟨b,off,none⟩∧w.cell? ⟨b,off+i,none⟩=some vx∧aX w vx x
def dM(w:World)(v:Value)(l:List aw):Prop:=
 ∃ao cap,v=.slice ao l.length cap∧l.length≤maxLen∧∀i x,l[i]? =some x→∃b off,ao=some ⟨b,off,none⟩∧
  w.cell? ⟨b,off+i * 3,none⟩=some (.int .i64 x.op)∧w.cell? ⟨b,off+i * 3+1,none⟩=some (.int .i64 x.a)∧w.cell? ⟨b,off+i * 3+2,none⟩=some (.int .i64 x.b)
def ii(v:Value)(l:List UInt8):Prop:=∃s:ByteArray,v=.string s∧s.data.toList=l∧s.size≤maxLen
def cG(w:World)(v:Value)(l:List aO):Prop:=
 ∃ao cap,v=.slice ao l.length cap∧l.length≤maxLen∧∀i x,l[i]? =some x→∃b off vp vl vc,ao=some ⟨b,off,none⟩∧
  w.cell? ⟨b,off+i * 4,none⟩=some vp∧w.cell? ⟨b,off+i * 4+1,none⟩=some (.int .i64 x.result)∧w.cell? ⟨b,off+i * 4+2,none⟩=some vl∧w.cell? ⟨b,off+i * 4+3,none⟩=some vc∧
  aX w vp x.aF∧aX w vl x.aG∧dM w vc x.code
def bK(w:World)(v:Value)(l:List fQ):Prop:=
 ∃ao cap,v=.slice ao l.length cap∧l.length≤maxLen∧∀i x,l[i]? =some x→∃b off vs vp,ao=some ⟨b,off,none⟩∧
  w.cell? ⟨b,off+i * 3,none⟩=some vs∧w.cell? ⟨b,off+i * 3+1,none⟩=some vp∧w.cell? ⟨b,off+i * 3+2,none⟩=some (.int .i64 x.result)∧
  ii vs x.name∧aX w vp x.aF
def b8(w:World)(v:Value)(l:List du):Prop:=
 ∃ao cap,v=.slice ao l.length cap∧l.length≤maxLen∧∀i x,l[i]? =some x→∃b off vs,ao=some ⟨b,off,none⟩∧
  w.cell? ⟨b,off+i * 2,none⟩=some vs∧w.cell? ⟨b,off+i * 2+1,none⟩=some (.int .i64 x.func)∧ii vs x.name
def cD(w:World)(v:Value)(u:aK):Prop:=
 ∃v1 v2 v3 v4 v5,v=.agg #[v1,v2,v3,v4,v5]∧bG w v1 u.aA∧aX w v2 u.aD∧cG w v3 u.aE∧bK w v4 u.aB∧b8 w v5 u.aC
theorem bG.gr{w w':World}{v:Value}{l:List (List Int)}(h:bG w v l)(g:Gr w w'):bG w' v l:=by
 obtain ⟨ao,cap,hv,hm,hc⟩:=h;refine ⟨ao,cap,hv,hm,fun i x hi=>?_⟩;obtain ⟨b,off,vx,h1,h2,h3⟩:=hc i x hi;exact ⟨b,off,vx,h1,g.cell h2 (by simp),h3.gr g⟩
theorem dM.gr{w w':World}{v:Value}{l:List aw}(h:dM w v l)(g:Gr w w'):dM w' v l:=by
 obtain ⟨ao,cap,hv,hm,hc⟩:=h;refine ⟨ao,cap,hv,hm,fun i x hi=>?_⟩;obtain ⟨b,off,h1,h2,h3,h4⟩:=hc i x hi;exact ⟨b,off,h1,g.cell h2 (by simp),g.cell h3 (by simp),g.cell h4 (by simp)⟩
theorem cG.gr{w w':World}{v:Value}{l:List aO}(h:cG w v l)(g:Gr w w'):cG w' v l:=by
 obtain ⟨ao,cap,hv,hm,hc⟩:=h;refine ⟨ao,cap,hv,hm,fun i x hi=>?_⟩;obtain ⟨b,off,vp,vl,vc,h1,h2,h3,h4,h5,h6,h7,h8⟩:=hc i x hi;exact ⟨b,off,vp,vl,vc,h1,g.cell h2 (by simp),g.cell h3 (by simp),g.cell h4 (by simp),g.cell h5 (by simp),h6.gr g,h7.gr g,h8.gr g⟩
theorem bK.gr{w w':World}{v:Value}{l:List fQ}(h:bK w v l)(g:Gr w w'):bK w' v l:=by
 obtain ⟨ao,cap,hv,hm,hc⟩:=h;refine ⟨ao,cap,hv,hm,fun i x hi=>?_⟩;obtain ⟨b,off,vs,vp,h1,h2,h3,h4,h5,h6⟩:=hc i x hi;exact ⟨b,off,vs,vp,h1,g.cell h2 (by simp),g.cell h3 (by simp),g.cell h4 (by simp),h5,h6.gr g⟩
theorem b8.gr{w w':World}{v:Value}{l:List du}(h:b8 w v l)(g:Gr w w'):b8 w' v l:=by
 obtain ⟨ao,cap,hv,hm,hc⟩:=h;refine ⟨ao,cap,hv,hm,fun i x hi=>?_⟩;obtain ⟨b,off,vs,h1,h2,h3,h4⟩:=hc i x hi;exact ⟨b,off,vs,h1,g.cell h2 (by simp),g.cell h3 (by simp),h4⟩
theorem cD.gr{w w':World}{v:Value}{u:aK}(h:cD w v u)(g:Gr w w'):cD w' v u:=by
 obtain ⟨v1,v2,v3,v4,v5,h,h1,h2,h3,h4,h5⟩:=h;exact ⟨v1,v2,v3,v4,v5,h,h1.gr g,h2.gr g,h3.gr g,h4.gr g,h5.gr g⟩
theorem bG.shape{w:World}{v:Value}{l:List (List Int)}(h:bG w v l):∃ao cap,v=.slice ao l.length cap:=by
 obtain ⟨ao,cap,hv,_⟩:=h;exact ⟨ao,cap,hv⟩
theorem dM.shape{w:World}{v:Value}{l:List aw}(h:dM w v l):∃ao cap,v=.slice ao l.length cap:=by
 obtain ⟨ao,cap,hv,_⟩:=h;exact ⟨ao,cap,hv⟩
theorem cG.shape{w:World}{v:Value}{l:List aO}(h:cG w v l):∃ao cap,v=.slice ao l.length cap:=by
 obtain ⟨ao,cap,hv,_⟩:=h;exact ⟨ao,cap,hv⟩
theorem aY{α:Type}{l:List α}{k:Nat}(h:k < l.length):∃x,l[k]? =some x:=⟨l[k],List.getElem?_eq_getElem h⟩
open Go.RowKit
attribute [local go_sem ↓] Go.wp_at_zero Go.wp_at_succ
theorem dr(l:List (List Int))(v:Value)(e a:Int)(w:World)(hR:bG w v l):
 Calls Tryz.prog 42 #[v,.agg #[.int .i64 e,.int .i64 0,.int .i64 a]] w fun x w'=>
  x=jO (A9 l) e a∧Gr w w':=by
 obtain ⟨ao,cap,rfl,hm,hc⟩:=hR;unfold maxLen at hm;have HC:=aH hc;clear hc;obtain ⟨he,hn,ha⟩:=BD w e a;unfold A9;cases hb:wB l.length 0 20
 · go_enter Tryz.func42,Tryz.ntmps42
   go_wp2
   go_region_with (first|(go_at_call 72;refine (aZ _ _ _ _).mono ?_;rintro e w' ⟨rfl,rfl⟩)|(go_at_call 32;refine (aV _ _ _).mono ?_;rintro e w' ⟨rfl,hg'⟩;refine aQ ?_))
   all_goals exact ⟨rfl,rfl,(by repeat (first|exact Gr.refl _|assumption|refine Gr.drew ?_|refine Gr.alloc ?_ _|refine Gr.trans ?_ (by assumption)))⟩
 · go_enter Tryz.func42,Tryz.ntmps42
   go_wp2
   go_region_held3 (fun w'=>w'.cell? ⟨w.heap.size,0,none⟩=some (.int .i64 e)∧w'.cell? ⟨w.heap.size,1,none⟩=some (.int .i64 0)∧w'.cell? ⟨w.heap.size,2,none⟩=some (.int .i64 a)) (first|go_keep|exact ⟨hg'.cell (by assumption) (by simp),hg'.cell (by assumption) (by simp),hg'.cell (by assumption) (by simp)⟩) (first|(go_at_call 72;refine (aZ _ _ _ _).mono ?_;rintro e w' ⟨rfl,rfl⟩)|(go_at_call 32;refine (aP _ _ _).mono ?_;rintro e w' ⟨rfl,hg'⟩))
   have he1:=hg'.cell he (by simp);have hn1:=hg'.cell hn (by simp);have ha1:=hg'.cell ha (by simp);have hg0:Gr w w':=(by repeat (first|exact Gr.refl _|assumption|refine Gr.drew ?_|refine Gr.alloc ?_ _|refine Gr.trans ?_ (by assumption)));clear hg' he hn ha;go_wp2
   go_loopw [13] (fun i wr=>∃k:Nat,k≤l.length∧i=.int .i64 k∧(l.take k).all (dj l.length)=true∧wr.cell? ⟨w.heap.size,0,none⟩=some (.int .i64 e)∧wr.cell? ⟨w.heap.size,1,none⟩=some (.int .i64 0)∧wr.cell? ⟨w.heap.size,2,none⟩=some (.int .i64 a)∧Gr w wr) (fun i _=>l.length - (intOf i).toNat)
   case atStart=>exact ⟨0,Nat.zero_le _,rfl,by simp,he1,hn1,ha1,hg0⟩
   case round=>
    clear he1 hn1 ha1 hg0;obtain ⟨k,hk,rfl,hall,he,hn,ha,hg⟩:=hrel;have HA:=aH hall;clear hall;by_cases hlt:k < l.length
    · obtain ⟨x,hx⟩:=aY hlt;obtain ⟨b,off,vx,hao,hcell,hRx⟩:=HC.out k x hx;subst hao;have hcell':=hg.cell hcell (by simp);have hmx:=hRx.choose_spec.choose_spec.2.1;unfold maxLen at hmx;obtain ⟨ax,cx,rfl⟩:=hRx.shape;have HRX:=aH (hRx.gr hg);have HX:=aH hx;clear hx hRx hcell;cases hbx:wB x.length 1 8
      · have HF:Hid (l.all (dj l.length)=false):=aH (bD HX.out (by simp [dj,hbx]));go_wp2
        go_region_with (first|(go_at_call 72;refine (aZ _ _ _ _).mono ?_;rintro e w' ⟨rfl,rfl⟩)|(go_at_call 32;refine (aV _ _ _).mono ?_;rintro e w' ⟨rfl,hg'⟩;refine aQ ?_))
        all_goals exact ⟨rfl,by rw [HF.out];rfl,(by repeat (first|exact Gr.refl _|assumption|refine Gr.drew ?_|refine Gr.alloc ?_ _|refine Gr.trans ?_ (by assumption)))⟩
      · cases hkx:x.all (jT l.length)
        · have HF:Hid (l.all (dj l.length)=false):=aH (bD HX.out (by simp [dj,hkx]));have HK:=aH hkx;clear hkx;go_wp2
          go_region_held3 (fun w'=>w'.cell? ⟨w.heap.size,0,none⟩=some (.int .i64 e)∧w'.cell? ⟨w.heap.size,1,none⟩=some (.int .i64 0)∧w'.cell? ⟨w.heap.size,2,none⟩=some (.int .i64 a)) (first|go_keep|exact ⟨hg'.cell (by assumption) (by simp),hg'.cell (by assumption) (by simp),hg'.cell (by assumption) (by simp)⟩) (first|(go_at_call 72;refine (aZ _ _ _ _).mono ?_;rintro e w' ⟨rfl,rfl⟩)|(go_at_call 32;refine (aP _ _ _).mono ?_;rintro e w' ⟨rfl,hg'⟩))
          have he1:=hg'.cell he (by simp);have hn1:=hg'.cell hn (by simp);have ha1:=hg'.cell ha (by simp);go_wp2_with (first|(go_at_call 73;refine (dy (ek x _ l.length e a _ (by exact HRX.out.gr (by repeat (first|exact Gr.refl _|assumption|refine Gr.drew ?_|refine Gr.alloc ?_ _|refine Gr.trans ?_ (by assumption))))) HK.out).mono ?_;rintro e w2 ⟨rfl,hg2⟩))
          exact ⟨rfl,by rw [HF.out];rfl,(by repeat (first|exact Gr.refl _|assumption|refine Gr.drew ?_|refine Gr.alloc ?_ _|refine Gr.trans ?_ (by assumption)))⟩
        · have HT:Hid ((l.take (k+1)).all (dj l.length)=true):=aH (by rw [A_ HX.out,HA.out];simp [dj,hbx,hkx]);have HK:=aH hkx;clear hkx;go_wp2
          go_region_held3 (fun w'=>w'.cell? ⟨w.heap.size,0,none⟩=some (.int .i64 e)∧w'.cell? ⟨w.heap.size,1,none⟩=some (.int .i64 0)∧w'.cell? ⟨w.heap.size,2,none⟩=some (.int .i64 a)) (first|go_keep|exact ⟨hg'.cell (by assumption) (by simp),hg'.cell (by assumption) (by simp),hg'.cell (by assumption) (by simp)⟩) (first|(go_at_call 72;refine (aZ _ _ _ _).mono ?_;rintro e w' ⟨rfl,rfl⟩)|(go_at_call 32;refine (aP _ _ _).mono ?_;rintro e w' ⟨rfl,hg'⟩))
          have he1:=hg'.cell he (by simp);have hn1:=hg'.cell hn (by simp);have ha1:=hg'.cell ha (by simp);go_wp2_with (first|(go_at_call 73;refine (bT (ek x _ l.length e a _ (by exact HRX.out.gr (by repeat (first|exact Gr.refl _|assumption|refine Gr.drew ?_|refine Gr.alloc ?_ _|refine Gr.trans ?_ (by assumption))))) HK.out).mono ?_;rintro e w2 ⟨rfl,hg2⟩))
          go_roundw
          case rel=>exact ⟨k+1,by omega,by go_num,HT.out,hg2.cell he1 (by simp),hg2.cell hn1 (by simp),hg2.cell ha1 (by simp),(by repeat (first|exact Gr.refl _|assumption|refine Gr.drew ?_|refine Gr.alloc ?_ _|refine Gr.trans ?_ (by assumption)))⟩
          case measure=>simp [intOf];omega
    · go_wp2
      go_end0
      exact ⟨by rw [kL HA.out hlt];rfl,hg⟩
open Go.RowKit
attribute [local go_sem ↓] Go.wp_at_zero Go.wp_at_succ
theorem CG(l:List aw)(v:Value)(e a:Int)(w:World)(hR:dM w v l):
 Calls Tryz.prog 75 #[v,.agg #[.int .i64 e,.int .i64 0,.int .i64 a]] w fun x w'=>
  x=jO (gI l) e a∧Gr w w':=by
 obtain ⟨ao,cap,rfl,hm,hc⟩:=hR;unfold maxLen at hm;have HC:=aH hc;clear hc;obtain ⟨he,hn,ha⟩:=BD w e a;unfold gI;cases hb:wB l.length 1 200
 · go_enter Tryz.func75,Tryz.ntmps75
   go_wp2
   go_region_with (first|(go_at_call 72;refine (aZ _ _ _ _).mono ?_;rintro e w' ⟨rfl,rfl⟩)|(go_at_call 32;refine (aV _ _ _).mono ?_;rintro e w' ⟨rfl,hg'⟩;refine aQ ?_))
   all_goals exact ⟨rfl,rfl,(by repeat (first|exact Gr.refl _|assumption|refine Gr.drew ?_|refine Gr.alloc ?_ _|refine Gr.trans ?_ (by assumption)))⟩
 · go_enter Tryz.func75,Tryz.ntmps75
   go_wp2
   go_region_held3 (fun w'=>w'.cell? ⟨w.heap.size,0,none⟩=some (.int .i64 e)∧w'.cell? ⟨w.heap.size,1,none⟩=some (.int .i64 0)∧w'.cell? ⟨w.heap.size,2,none⟩=some (.int .i64 a)) (first|go_keep|exact ⟨hg'.cell (by assumption) (by simp),hg'.cell (by assumption) (by simp),hg'.cell (by assumption) (by simp)⟩) (first|(go_at_call 72;refine (aZ _ _ _ _).mono ?_;rintro e w' ⟨rfl,rfl⟩)|(go_at_call 32;refine (aP _ _ _).mono ?_;rintro e w' ⟨rfl,hg'⟩))
   have he1:=hg'.cell he (by simp);have hn1:=hg'.cell hn (by simp);have ha1:=hg'.cell ha (by simp);have hg0:Gr w w':=(by repeat (first|exact Gr.refl _|assumption|refine Gr.drew ?_|refine Gr.alloc ?_ _|refine Gr.trans ?_ (by assumption)));clear hg' he hn ha;go_wp2
   go_loopw [13] (fun i wr=>∃k:Nat,k≤l.length∧i=.int .i64 k∧(l.take k).all bH=true∧wr.cell? ⟨w.heap.size,0,none⟩=some (.int .i64 e)∧wr.cell? ⟨w.heap.size,1,none⟩=some (.int .i64 0)∧wr.cell? ⟨w.heap.size,2,none⟩=some (.int .i64 a)∧Gr w wr) (fun i _=>l.length - (intOf i).toNat)
   case atStart=>exact ⟨0,Nat.zero_le _,rfl,by simp,he1,hn1,ha1,hg0⟩
   case round=>
    clear he1 hn1 ha1 hg0;obtain ⟨k,hk,rfl,hall,he,hn,ha,hg⟩:=hrel;have HA:=aH hall;clear hall;by_cases hlt:k < l.length
    · obtain ⟨x,hx⟩:=aY hlt;obtain ⟨b,off,hao,hc0,hc1,hc2⟩:=HC.out k x hx;subst hao;have hc0':=hg.cell hc0 (by simp);have hc1':=hg.cell hc1 (by simp);have hc2':=hg.cell hc2 (by simp);have HX:=aH hx;clear hx hc0 hc1 hc2;have hi0:(wr.alloc (.cells #[.int .i64 x.op,.int .i64 x.a,.int .i64 x.b] 26)).cell? ⟨wr.heap.size,0,none⟩=some (.int .i64 x.op):=by simp [go_sem]
      have hi1:(wr.alloc (.cells #[.int .i64 x.op,.int .i64 x.a,.int .i64 x.b] 26)).cell? ⟨wr.heap.size,1,none⟩=some (.int .i64 x.a):=by simp [go_sem]
      have hi2:(wr.alloc (.cells #[.int .i64 x.op,.int .i64 x.a,.int .i64 x.b] 26)).cell? ⟨wr.heap.size,2,none⟩=some (.int .i64 x.b):=by simp [go_sem]
      have hga:Gr w (wr.alloc (.cells #[.int .i64 x.op,.int .i64 x.a,.int .i64 x.b] 26)):=hg.alloc _;have hea:=(World.grownBy_alloc wr (.cells #[.int .i64 x.op,.int .i64 x.a,.int .i64 x.b] 26) none).cell he (by simp);have hna:=(World.grownBy_alloc wr (.cells #[.int .i64 x.op,.int .i64 x.a,.int .i64 x.b] 26) none).cell hn (by simp);have haa:=(World.grownBy_alloc wr (.cells #[.int .i64 x.op,.int .i64 x.a,.int .i64 x.b] 26) none).cell ha (by simp);cases hop:wB x.op 0 20
      · have HF:Hid (l.all bH=false):=aH (bD HX.out (by simp [bH,hop]));go_wp2
        go_region_with (first|(go_at_call 112;refine (nX _ _).mono ?_;rintro e w' ⟨rfl,rfl⟩)|(go_at_call 32;refine (aV _ _ _).mono ?_;rintro e w' ⟨rfl,hg'⟩;refine aQ ?_))
        all_goals exact ⟨rfl,by rw [HF.out];rfl,(by repeat (first|exact Gr.refl _|assumption|refine Gr.drew ?_|refine Gr.alloc ?_ _|refine Gr.trans ?_ (by assumption)))⟩
      · go_wp2
        go_region_held3 (fun w'=>w'.cell? ⟨w.heap.size,0,none⟩=some (.int .i64 e)∧w'.cell? ⟨w.heap.size,1,none⟩=some (.int .i64 0)∧w'.cell? ⟨w.heap.size,2,none⟩=some (.int .i64 a)∧w'.cell? ⟨wr.heap.size,0,none⟩=some (.int .i64 x.op)∧w'.cell? ⟨wr.heap.size,1,none⟩=some (.int .i64 x.a)∧w'.cell? ⟨wr.heap.size,2,none⟩=some (.int .i64 x.b)) (first|go_keep|(refine ⟨?_,?_,?_,?_,?_,?_⟩<;>exact hg'.cell (by assumption) (by simp))) (first|(go_at_call 112;refine (nX _ _).mono ?_;rintro e w' ⟨rfl,rfl⟩)|(go_at_call 32;refine (aP _ _ _).mono ?_;rintro e w' ⟨rfl,hg'⟩))
        have he1:=hg'.cell hea (by simp);have hn1:=hg'.cell hna (by simp);have ha1:=hg'.cell haa (by simp);have hi01:=hg'.cell hi0 (by simp);have hi11:=hg'.cell hi1 (by simp);have hi21:=hg'.cell hi2 (by simp);have hg1:Gr w w':=(by repeat (first|exact Gr.refl _|assumption|refine Gr.drew ?_|refine Gr.alloc ?_ _|refine Gr.trans ?_ (by assumption)));clear hi0 hi1 hi2 hga hea hna haa hg' he hn ha;cases hone:(x.op == 1)
        · have hne:¬x.op=1:=by simpa using hone
          cases hab:a9 x.a (decide (1≤ah x.op))
          · have HF:Hid (l.all bH=false):=aH (bD HX.out (by simp only [bH,hne,if_false,hab,Bool.and_false,Bool.false_and]));have HB:=aH hab;clear hab hne;go_wp2
            go_region_with (first|(go_at_call 114;refine (bW _ _).mono ?_;rintro e w' ⟨rfl,rfl⟩)|(go_at_call 113;refine (dy (dl _ _ _ _ _) HB.out).mono ?_;rintro e w' ⟨rfl,hg'⟩;refine aQ ?_))
            all_goals exact ⟨rfl,by rw [HF.out];rfl,(by repeat (first|exact Gr.refl _|assumption|refine Gr.drew ?_|refine Gr.alloc ?_ _|refine Gr.trans ?_ (by assumption)))⟩
          · cases hbb:a9 x.b (decide (2≤ah x.op))
            · have HF:Hid (l.all bH=false):=aH (bD HX.out (by simp only [bH,hbb,Bool.and_false]));have HB:=aH hab;have HC2:=aH hbb;clear hab hbb hne;go_wp2
              go_region_held3 (fun w'=>w'.cell? ⟨w.heap.size,0,none⟩=some (.int .i64 e)∧w'.cell? ⟨w.heap.size,1,none⟩=some (.int .i64 0)∧w'.cell? ⟨w.heap.size,2,none⟩=some (.int .i64 a)∧w'.cell? ⟨wr.heap.size,0,none⟩=some (.int .i64 x.op)∧w'.cell? ⟨wr.heap.size,1,none⟩=some (.int .i64 x.a)∧w'.cell? ⟨wr.heap.size,2,none⟩=some (.int .i64 x.b)) (first|go_keep|(refine ⟨?_,?_,?_,?_,?_,?_⟩<;>exact hg'.cell (by assumption) (by simp))) (first|(go_at_call 114;refine (bW _ _).mono ?_;rintro e w' ⟨rfl,rfl⟩)|(go_at_call 113;refine (bT (dl _ _ _ _ _) HB.out).mono ?_;rintro e w' ⟨rfl,hg'⟩))
              have he2:=hg'.cell he1 (by simp);have hn2:=hg'.cell hn1 (by simp);have ha2:=hg'.cell ha1 (by simp);have hi02:=hg'.cell hi01 (by simp);have hi12:=hg'.cell hi11 (by simp);have hi22:=hg'.cell hi21 (by simp);have hg2:Gr w w':=(by repeat (first|exact Gr.refl _|assumption|refine Gr.drew ?_|refine Gr.alloc ?_ _|refine Gr.trans ?_ (by assumption)));go_wp2
              go_region_with (first|(go_at_call 114;refine (bW _ _).mono ?_;rintro e w' ⟨rfl,rfl⟩)|(go_at_call 113;refine (dy (dl _ _ _ _ _) HC2.out).mono ?_;rintro e w' ⟨rfl,hg'⟩;refine aQ ?_))
              all_goals exact ⟨rfl,by rw [HF.out];rfl,(by repeat (first|exact Gr.refl _|assumption|refine Gr.drew ?_|refine Gr.alloc ?_ _|refine Gr.trans ?_ (by assumption)))⟩
            · have HT:Hid ((l.take (k+1)).all bH=true):=aH (by rw [A_ HX.out,HA.out];simp only [bH,hop,hne,if_false,hab,hbb,Bool.and_true]);have HB:=aH hab;have HC2:=aH hbb;clear hab hbb hne;go_wp2
              go_region_held3 (fun w'=>w'.cell? ⟨w.heap.size,0,none⟩=some (.int .i64 e)∧w'.cell? ⟨w.heap.size,1,none⟩=some (.int .i64 0)∧w'.cell? ⟨w.heap.size,2,none⟩=some (.int .i64 a)∧w'.cell? ⟨wr.heap.size,0,none⟩=some (.int .i64 x.op)∧w'.cell? ⟨wr.heap.size,1,none⟩=some (.int .i64 x.a)∧w'.cell? ⟨wr.heap.size,2,none⟩=some (.int .i64 x.b)) (first|go_keep|(refine ⟨?_,?_,?_,?_,?_,?_⟩<;>exact hg'.cell (by assumption) (by simp))) (first|(go_at_call 114;refine (bW _ _).mono ?_;rintro e w' ⟨rfl,rfl⟩)|(go_at_call 113;refine (bT (dl _ _ _ _ _) HB.out).mono ?_;rintro e w' ⟨rfl,hg'⟩))
              have he2:=hg'.cell he1 (by simp);have hn2:=hg'.cell hn1 (by simp);have ha2:=hg'.cell ha1 (by simp);have hi02:=hg'.cell hi01 (by simp);have hi12:=hg'.cell hi11 (by simp);have hi22:=hg'.cell hi21 (by simp);have hg2:Gr w w':=(by repeat (first|exact Gr.refl _|assumption|refine Gr.drew ?_|refine Gr.alloc ?_ _|refine Gr.trans ?_ (by assumption)));go_wp2
              go_region_held3 (fun w'=>w'.cell? ⟨w.heap.size,0,none⟩=some (.int .i64 e)∧w'.cell? ⟨w.heap.size,1,none⟩=some (.int .i64 0)∧w'.cell? ⟨w.heap.size,2,none⟩=some (.int .i64 a)∧w'.cell? ⟨wr.heap.size,0,none⟩=some (.int .i64 x.op)∧w'.cell? ⟨wr.heap.size,1,none⟩=some (.int .i64 x.a)∧w'.cell? ⟨wr.heap.size,2,none⟩=some (.int .i64 x.b)) (first|go_keep|(refine ⟨?_,?_,?_,?_,?_,?_⟩<;>exact hg'.cell (by assumption) (by simp))) (first|(go_at_call 114;refine (bW _ _).mono ?_;rintro e w' ⟨rfl,rfl⟩)|(go_at_call 113;refine (bT (dl _ _ _ _ _) HC2.out).mono ?_;rintro e w' ⟨rfl,hg'⟩))
              go_wp2
              go_roundw
              case rel=>exact ⟨k+1,by omega,by go_num,HT.out,hg'.cell he2 (by simp),hg'.cell hn2 (by simp),hg'.cell ha2 (by simp),(by repeat (first|exact Gr.refl _|assumption|refine Gr.drew ?_|refine Gr.alloc ?_ _|refine Gr.trans ?_ (by assumption)))⟩
              case measure=>simp [intOf];omega
        · cases hsm:wB x.a (-2147483648) 2147483647
          · have HF:Hid (l.all bH=false):=aH (bD HX.out (by simp [bH,(beq_iff_eq.1 hone),hsm]));go_wp2
            go_region_with (first|(go_at_call 72;refine (aZ _ _ _ _).mono ?_;rintro e w' ⟨rfl,rfl⟩)|(go_at_call 32;refine (aV _ _ _).mono ?_;rintro e w' ⟨rfl,hg'⟩;refine aQ ?_))
            all_goals exact ⟨rfl,by rw [HF.out];rfl,(by repeat (first|exact Gr.refl _|assumption|refine Gr.drew ?_|refine Gr.alloc ?_ _|refine Gr.trans ?_ (by assumption)))⟩
          · cases hbb:a9 x.b (decide (2≤ah x.op))
            · have HF:Hid (l.all bH=false):=aH (bD HX.out (by simp only [bH,hbb,Bool.and_false]));have HC2:=aH hbb;clear hbb;go_wp2
              go_region_held3 (fun w'=>w'.cell? ⟨w.heap.size,0,none⟩=some (.int .i64 e)∧w'.cell? ⟨w.heap.size,1,none⟩=some (.int .i64 0)∧w'.cell? ⟨w.heap.size,2,none⟩=some (.int .i64 a)∧w'.cell? ⟨wr.heap.size,0,none⟩=some (.int .i64 x.op)∧w'.cell? ⟨wr.heap.size,1,none⟩=some (.int .i64 x.a)∧w'.cell? ⟨wr.heap.size,2,none⟩=some (.int .i64 x.b)) (first|go_keep|(refine ⟨?_,?_,?_,?_,?_,?_⟩<;>exact hg'.cell (by assumption) (by simp))) (first|(go_at_call 72;refine (aZ _ _ _ _).mono ?_;rintro e w' ⟨rfl,rfl⟩)|(go_at_call 32;refine (aP _ _ _).mono ?_;rintro e w' ⟨rfl,hg'⟩))
              have he2:=hg'.cell he1 (by simp);have hn2:=hg'.cell hn1 (by simp);have ha2:=hg'.cell ha1 (by simp);have hi02:=hg'.cell hi01 (by simp);have hi12:=hg'.cell hi11 (by simp);have hi22:=hg'.cell hi21 (by simp);have hg2:Gr w w':=(by repeat (first|exact Gr.refl _|assumption|refine Gr.drew ?_|refine Gr.alloc ?_ _|refine Gr.trans ?_ (by assumption)));go_wp2
              go_region_with (first|(go_at_call 114;refine (bW _ _).mono ?_;rintro e w' ⟨rfl,rfl⟩)|(go_at_call 113;refine (dy (dl _ _ _ _ _) HC2.out).mono ?_;rintro e w' ⟨rfl,hg'⟩;refine aQ ?_))
              all_goals exact ⟨rfl,by rw [HF.out];rfl,(by repeat (first|exact Gr.refl _|assumption|refine Gr.drew ?_|refine Gr.alloc ?_ _|refine Gr.trans ?_ (by assumption)))⟩
            · have HT:Hid ((l.take (k+1)).all bH=true):=aH (by rw [A_ HX.out,HA.out];simp only [bH,hop,beq_iff_eq.1 hone,if_true,hsm,Bool.and_true,Bool.true_and];rw [beq_iff_eq.1 hone] at hbb;exact hbb);have HC2:=aH hbb;clear hbb;go_wp2
              go_region_held3 (fun w'=>w'.cell? ⟨w.heap.size,0,none⟩=some (.int .i64 e)∧w'.cell? ⟨w.heap.size,1,none⟩=some (.int .i64 0)∧w'.cell? ⟨w.heap.size,2,none⟩=some (.int .i64 a)∧w'.cell? ⟨wr.heap.size,0,none⟩=some (.int .i64 x.op)∧w'.cell? ⟨wr.heap.size,1,none⟩=some (.int .i64 x.a)∧w'.cell? ⟨wr.heap.size,2,none⟩=some (.int .i64 x.b)) (first|go_keep|(refine ⟨?_,?_,?_,?_,?_,?_⟩<;>exact hg'.cell (by assumption) (by simp))) (first|(go_at_call 72;refine (aZ _ _ _ _).mono ?_;rintro e w' ⟨rfl,rfl⟩)|(go_at_call 32;refine (aP _ _ _).mono ?_;rintro e w' ⟨rfl,hg'⟩))
              have he2:=hg'.cell he1 (by simp);have hn2:=hg'.cell hn1 (by simp);have ha2:=hg'.cell ha1 (by simp);have hi02:=hg'.cell hi01 (by simp);have hi12:=hg'.cell hi11 (by simp);have hi22:=hg'.cell hi21 (by simp);have hg2:Gr w w':=(by repeat (first|exact Gr.refl _|assumption|refine Gr.drew ?_|refine Gr.alloc ?_ _|refine Gr.trans ?_ (by assumption)));go_wp2
              go_region_held3 (fun w'=>w'.cell? ⟨w.heap.size,0,none⟩=some (.int .i64 e)∧w'.cell? ⟨w.heap.size,1,none⟩=some (.int .i64 0)∧w'.cell? ⟨w.heap.size,2,none⟩=some (.int .i64 a)∧w'.cell? ⟨wr.heap.size,0,none⟩=some (.int .i64 x.op)∧w'.cell? ⟨wr.heap.size,1,none⟩=some (.int .i64 x.a)∧w'.cell? ⟨wr.heap.size,2,none⟩=some (.int .i64 x.b)) (first|go_keep|(refine ⟨?_,?_,?_,?_,?_,?_⟩<;>exact hg'.cell (by assumption) (by simp))) (first|(go_at_call 114;refine (bW _ _).mono ?_;rintro e w' ⟨rfl,rfl⟩)|(go_at_call 113;refine (bT (dl _ _ _ _ _) HC2.out).mono ?_;rintro e w' ⟨rfl,hg'⟩))
              go_wp2
              go_roundw
              case rel=>exact ⟨k+1,by omega,by go_num,HT.out,hg'.cell he2 (by simp),hg'.cell hn2 (by simp),hg'.cell ha2 (by simp),(by repeat (first|exact Gr.refl _|assumption|refine Gr.drew ?_|refine Gr.alloc ?_ _|refine Gr.trans ?_ (by assumption)))⟩
              case measure=>simp [intOf];omega
    · go_wp2
      go_end0
      exact ⟨by rw [kL HA.out hlt];rfl,hg⟩
end Go.Proofs.YtkgncijcnlfhiaaGreat
