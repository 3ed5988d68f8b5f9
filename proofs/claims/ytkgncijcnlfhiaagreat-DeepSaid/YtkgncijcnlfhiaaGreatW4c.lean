import Derived.Test.YtkgncijcnlfhiaaGreatW1
namespace Go.Proofs.YtkgncijcnlfhiaaGreat
set_option maxHeartbeats 2000000
set_option linter.unusedVariables false
set_option linter.unusedSimpArgs false
open Go.RowKit
attribute [local go_sem ↓] Go.wp_at_zero Go.wp_at_succ
theorem op_any(v:Int)(w:World):
 Calls Tryz.prog 112 #[.int .i64 v] w fun x w'=>x=.returned (.bool (wB v 0 20))∧w'=w:=by
 go_enter Tryz.func112,Tryz.ntmps112
 go_wp2_with (go_at_call 72;refine (within_any _ _ _ _).mono ?_;rintro e w' ⟨rfl,rfl⟩)
 go_ret
 exact ⟨rfl,rfl⟩
theorem operands_any(v:Int)(w:World):
 Calls Tryz.prog 114 #[.int .i64 v] w fun x w'=>x=.returned (.int .i64 (operandsN v))∧w'=w:=by
 go_enter Tryz.func114,Tryz.ntmps114
 go_wp2
 all_goals go_ret
 all_goals (refine ⟨?_,rfl⟩;simp_all [operandsN])
theorem cells_box(w:World)(e a:Int):(w.alloc (.cells #[.int .i64 e,.int .i64 0,.int .i64 a] 58)).cell? ⟨w.heap.size,0,none⟩=some (.int .i64 e)∧(w.alloc (.cells #[.int .i64 e,.int .i64 0,.int .i64 a] 58)).cell? ⟨w.heap.size,1,none⟩=some (.int .i64 0)∧(w.alloc (.cells #[.int .i64 e,.int .i64 0,.int .i64 a] 58)).cell? ⟨w.heap.size,2,none⟩=some (.int .i64 a):=by
 refine ⟨?_,?_,?_⟩<;>simp [go_sem]
theorem name_any(s:ByteArray)(e a:Int)(w:World)(hs:s.size≤maxLen):
 Calls Tryz.prog 76 #[.string s,.agg #[.int .i64 e,.int .i64 0,.int .i64 a]] w fun x w'=>
  x=ends (nameOk s.data.toList) e a∧Gr w w':=by
 unfold maxLen at hs;have HN:nameOk s.data.toList=wB s.size 1 20:=by unfold nameOk;rw [Array.length_toList];rfl
 rw [HN];cases hb:wB s.size 1 20
 · go_enter Tryz.func76,Tryz.ntmps76
   go_wp2
   go_region_with (first|(go_at_call 72;refine (within_any _ _ _ _).mono ?_;rintro e w' ⟨rfl,rfl⟩)|(go_at_call 32;refine (unless_no _ _ _).mono ?_;rintro e w' ⟨rfl,hg'⟩;refine left_region ?_))
   all_goals exact ⟨rfl,rfl,((Gr.refl _).alloc _).drew.trans hg'⟩
 · go_enter Tryz.func76,Tryz.ntmps76
   go_wp2
   go_region_with (first|(go_at_call 72;refine (within_any _ _ _ _).mono ?_;rintro e w' ⟨rfl,rfl⟩)|(go_at_call 32;refine (unless_yes _ _ _).mono ?_;rintro e w' ⟨rfl,hg'⟩))
   all_goals go_wp2
   all_goals go_end0
   all_goals exact ⟨rfl,((Gr.refl _).alloc _).drew.trans hg'⟩
theorem consts_any(v:Value)(l:List Int)(e a:Int)(w:World)(hv:∃ao cap,v=.slice ao l.length cap)(hs:l.length≤maxLen):
 Calls Tryz.prog 43 #[v,.agg #[.int .i64 e,.int .i64 0,.int .i64 a]] w fun x w'=>
  x=ends (constsOk l) e a∧Gr w w':=by
 obtain ⟨ao,cap,rfl⟩:=hv;unfold maxLen at hs;have HN:constsOk l=wB l.length 0 50:=rfl;rw [HN];cases hb:wB l.length 0 50
 · go_enter Tryz.func43,Tryz.ntmps43
   go_wp2
   go_region_with (first|(go_at_call 72;refine (within_any _ _ _ _).mono ?_;rintro e w' ⟨rfl,rfl⟩)|(go_at_call 32;refine (unless_no _ _ _).mono ?_;rintro e w' ⟨rfl,hg'⟩;refine left_region ?_))
   all_goals exact ⟨rfl,rfl,((Gr.refl _).alloc _).drew.trans hg'⟩
 · go_enter Tryz.func43,Tryz.ntmps43
   go_wp2
   go_region_with (first|(go_at_call 72;refine (within_any _ _ _ _).mono ?_;rintro e w' ⟨rfl,rfl⟩)|(go_at_call 32;refine (unless_yes _ _ _).mono ?_;rintro e w' ⟨rfl,hg'⟩))
   all_goals go_wp2
   all_goals go_end0
   all_goals exact ⟨rfl,((Gr.refl _).alloc _).drew.trans hg'⟩
theorem operand_any(v:Int)(n:Bool)(e a:Int)(w:World):
 Calls Tryz.prog 113 #[.int .i64 v,.bool n,.agg #[.int .i64 e,.int .i64 0,.int .i64 a]] w fun x w'=>
  x=ends (operandOk v n) e a∧Gr w w':=by
 cases n
 · by_cases hz:v=0
   · subst hz;go_enter Tryz.func113,Tryz.ntmps113
     go_wp2_with (first|(go_at_call 32;refine (unless_yes _ _ _).mono ?_;rintro e w' ⟨rfl,hg'⟩))
     go_end0
     exact ⟨rfl,((Gr.refl _).alloc _).trans hg'⟩
   · have hz':(v == 0)=false:=by simpa using hz
     have HF:Hid (operandOk v false=false):=hide (by simp [operandOk,hz]);go_enter Tryz.func113,Tryz.ntmps113
     go_wp2_with (first|(go_at_call 32;refine (unless_no _ _ _).mono ?_;rintro e w' ⟨rfl,hg'⟩))
     exact ⟨rfl,by rw [HF.out];rfl,((Gr.refl _).alloc _).trans hg'⟩
 · cases hb:wB v 0 65535
   · go_enter Tryz.func113,Tryz.ntmps113
     go_wp2
     go_region_with (first|(go_at_call 72;refine (within_any _ _ _ _).mono ?_;rintro e w' ⟨rfl,rfl⟩)|(go_at_call 32;refine (unless_no _ _ _).mono ?_;rintro e w' ⟨rfl,hg'⟩;refine left_region ?_))
     all_goals exact ⟨rfl,by simp [operandOk,hb];rfl,((Gr.refl _).alloc _).drew.trans hg'⟩
   · go_enter Tryz.func113,Tryz.ntmps113
     go_wp2
     go_region_with (first|(go_at_call 72;refine (within_any _ _ _ _).mono ?_;rintro e w' ⟨rfl,rfl⟩)|(go_at_call 32;refine (unless_yes _ _ _).mono ?_;rintro e w' ⟨rfl,hg'⟩))
     all_goals go_wp2
     all_goals go_end0
     all_goals exact ⟨by simp [operandOk,hb];rfl,((Gr.refl _).alloc _).drew.trans hg'⟩
open Go.RowKit
attribute [local go_sem ↓] Go.wp_at_zero Go.wp_at_succ
theorem yes_of{f:FuncId}{args:Array Value}{w:World}{b:Bool}{e a:Int}(h:Calls Tryz.prog f args w fun x w'=>x=ends b e a∧Gr w w')(hb:b=true):
 Calls Tryz.prog f args w fun x w'=>x=.returned (.tuple #[])∧Gr w w':=by subst hb;exact h
theorem no_of{f:FuncId}{args:Array Value}{w:World}{b:Bool}{e a:Int}(h:Calls Tryz.prog f args w fun x w'=>x=ends b e a∧Gr w w')(hb:b=false):
 Calls Tryz.prog f args w fun x w'=>x=.panicked (thrown e a)∧Gr w w':=by subst hb;exact h
theorem RInts.shape{w:World}{v:Value}{l:List Int}(h:RInts w v l):∃ao cap,v=.slice ao l.length cap:=by
 obtain ⟨ao,cap,hv,_⟩:=h;exact ⟨ao,cap,hv⟩
theorem signature_any(l:List Int)(v:Value)(r n e a:Int)(w:World)(hR:RInts w v l):
 Calls Tryz.prog 74 #[v,.int .i64 r,.int .i64 n,.agg #[.int .i64 e,.int .i64 0,.int .i64 a]] w fun x w'=>
  x=ends (sigOk l r n) e a∧Gr w w':=by
 have hm:=hR.choose_spec.choose_spec.2.1;obtain ⟨ao,cap,rfl⟩:=hR.shape;unfold maxLen at hm;have HR:=hide hR;clear hR;obtain ⟨he,hn,ha⟩:=cells_box w e a;unfold sigOk;cases hb:wB l.length 0 6
 · go_enter Tryz.func74,Tryz.ntmps74
   go_wp2
   go_region_with (first|(go_at_call 72;refine (within_any _ _ _ _).mono ?_;rintro e w' ⟨rfl,rfl⟩)|(go_at_call 32;refine (unless_no _ _ _).mono ?_;rintro e w' ⟨rfl,hg'⟩;refine left_region ?_))
   all_goals exact ⟨rfl,rfl,(by repeat (first|exact Gr.refl _|assumption|refine Gr.drew ?_|refine Gr.alloc ?_ _|refine Gr.trans ?_ (by assumption)))⟩
 · cases hk:l.all (inB n)
   · have HK:=hide hk;clear hk;go_enter Tryz.func74,Tryz.ntmps74
     go_wp2
     go_region_held3 (fun w'=>w'.cell? ⟨w.heap.size,0,none⟩=some (.int .i64 e)∧w'.cell? ⟨w.heap.size,1,none⟩=some (.int .i64 0)∧w'.cell? ⟨w.heap.size,2,none⟩=some (.int .i64 a)) (first|go_keep|exact ⟨hg'.cell (by assumption) (by simp),hg'.cell (by assumption) (by simp),hg'.cell (by assumption) (by simp)⟩) (first|(go_at_call 72;refine (within_any _ _ _ _).mono ?_;rintro e w' ⟨rfl,rfl⟩)|(go_at_call 32;refine (unless_yes _ _ _).mono ?_;rintro e w' ⟨rfl,hg'⟩))
     have he1:=hg'.cell he (by simp);have hn1:=hg'.cell hn (by simp);have ha1:=hg'.cell ha (by simp);go_wp2_with (first|(go_at_call 73;refine (no_of (kinds_any l _ n e a _ (by exact HR.out.gr (by repeat (first|exact Gr.refl _|assumption|refine Gr.drew ?_|refine Gr.alloc ?_ _|refine Gr.trans ?_ (by assumption))))) HK.out).mono ?_;rintro e w2 ⟨rfl,hg2⟩))
     exact ⟨rfl,rfl,(by repeat (first|exact Gr.refl _|assumption|refine Gr.drew ?_|refine Gr.alloc ?_ _|refine Gr.trans ?_ (by assumption)))⟩
   · have HK:=hide hk;clear hk;cases hr:wB r 0 n
     · go_enter Tryz.func74,Tryz.ntmps74
       go_wp2
       go_region_held3 (fun w'=>w'.cell? ⟨w.heap.size,0,none⟩=some (.int .i64 e)∧w'.cell? ⟨w.heap.size,1,none⟩=some (.int .i64 0)∧w'.cell? ⟨w.heap.size,2,none⟩=some (.int .i64 a)) (first|go_keep|exact ⟨hg'.cell (by assumption) (by simp),hg'.cell (by assumption) (by simp),hg'.cell (by assumption) (by simp)⟩) (first|(go_at_call 72;refine (within_any _ _ _ _).mono ?_;rintro e w' ⟨rfl,rfl⟩)|(go_at_call 32;refine (unless_yes _ _ _).mono ?_;rintro e w' ⟨rfl,hg'⟩))
       have he1:=hg'.cell he (by simp);have hn1:=hg'.cell hn (by simp);have ha1:=hg'.cell ha (by simp);go_wp2_with (first|(go_at_call 73;refine (yes_of (kinds_any l _ n e a _ (by exact HR.out.gr (by repeat (first|exact Gr.refl _|assumption|refine Gr.drew ?_|refine Gr.alloc ?_ _|refine Gr.trans ?_ (by assumption))))) HK.out).mono ?_;rintro e w2 ⟨rfl,hg2⟩))
       have he2:=hg2.cell he1 (by simp);have hn2:=hg2.cell hn1 (by simp);have ha2:=hg2.cell ha1 (by simp);go_region_with (first|(go_at_call 72;refine (within_any _ _ _ _).mono ?_;rintro e w' ⟨rfl,rfl⟩)|(go_at_call 32;refine (unless_no _ _ _).mono ?_;rintro e w' ⟨rfl,hg'⟩;refine left_region ?_))
       all_goals exact ⟨rfl,by simp [inB,hr];rfl,(by repeat (first|exact Gr.refl _|assumption|refine Gr.drew ?_|refine Gr.alloc ?_ _|refine Gr.trans ?_ (by assumption)))⟩
     · go_enter Tryz.func74,Tryz.ntmps74
       go_wp2
       go_region_held3 (fun w'=>w'.cell? ⟨w.heap.size,0,none⟩=some (.int .i64 e)∧w'.cell? ⟨w.heap.size,1,none⟩=some (.int .i64 0)∧w'.cell? ⟨w.heap.size,2,none⟩=some (.int .i64 a)) (first|go_keep|exact ⟨hg'.cell (by assumption) (by simp),hg'.cell (by assumption) (by simp),hg'.cell (by assumption) (by simp)⟩) (first|(go_at_call 72;refine (within_any _ _ _ _).mono ?_;rintro e w' ⟨rfl,rfl⟩)|(go_at_call 32;refine (unless_yes _ _ _).mono ?_;rintro e w' ⟨rfl,hg'⟩))
       have he1:=hg'.cell he (by simp);have hn1:=hg'.cell hn (by simp);have ha1:=hg'.cell ha (by simp);go_wp2_with (first|(go_at_call 73;refine (yes_of (kinds_any l _ n e a _ (by exact HR.out.gr (by repeat (first|exact Gr.refl _|assumption|refine Gr.drew ?_|refine Gr.alloc ?_ _|refine Gr.trans ?_ (by assumption))))) HK.out).mono ?_;rintro e w2 ⟨rfl,hg2⟩))
       have he2:=hg2.cell he1 (by simp);have hn2:=hg2.cell hn1 (by simp);have ha2:=hg2.cell ha1 (by simp);go_region_with (first|(go_at_call 72;refine (within_any _ _ _ _).mono ?_;rintro e w' ⟨rfl,rfl⟩)|(go_at_call 32;refine (unless_yes _ _ _).mono ?_;rintro e w' ⟨rfl,hg'⟩))
       all_goals go_wp2
       all_goals go_end0
       all_goals exact ⟨by simp [inB,hr];rfl,(by repeat (first|exact Gr.refl _|assumption|refine Gr.drew ?_|refine Gr.alloc ?_ _|refine Gr.trans ?_ (by assumption)))⟩
open Go.RowKit
def RShapes(w:World)(v:Value)(l:List (List Int)):Prop:=
 ∃ao cap,v=.slice ao l.length cap∧l.length≤maxLen∧∀i x,l[i]? =some x→∃b off vx,ao=some ⟨b,off,none⟩∧w.cell? ⟨b,off+i,none⟩=some vx∧RInts w vx x
def RCode(w:World)(v:Value)(l:List PIns):Prop:=
 ∃ao cap,v=.slice ao l.length cap∧l.length≤maxLen∧∀i x,l[i]? =some x→∃b off,ao=some ⟨b,off,none⟩∧
  w.cell? ⟨b,off+i * 3,none⟩=some (.int .i64 x.op)∧w.cell? ⟨b,off+i * 3+1,none⟩=some (.int .i64 x.a)∧w.cell? ⟨b,off+i * 3+2,none⟩=some (.int .i64 x.b)
def RText(v:Value)(l:List UInt8):Prop:=∃s:ByteArray,v=.string s∧s.data.toList=l∧s.size≤maxLen
def RFuncs(w:World)(v:Value)(l:List PFunc):Prop:=
 ∃ao cap,v=.slice ao l.length cap∧l.length≤maxLen∧∀i x,l[i]? =some x→∃b off vp vl vc,ao=some ⟨b,off,none⟩∧
  w.cell? ⟨b,off+i * 4,none⟩=some vp∧w.cell? ⟨b,off+i * 4+1,none⟩=some (.int .i64 x.result)∧w.cell? ⟨b,off+i * 4+2,none⟩=some vl∧w.cell? ⟨b,off+i * 4+3,none⟩=some vc∧
  RInts w vp x.params∧RInts w vl x.locals∧RCode w vc x.code
def RImports(w:World)(v:Value)(l:List PImp):Prop:=
 ∃ao cap,v=.slice ao l.length cap∧l.length≤maxLen∧∀i x,l[i]? =some x→∃b off vs vp,ao=some ⟨b,off,none⟩∧
  w.cell? ⟨b,off+i * 3,none⟩=some vs∧w.cell? ⟨b,off+i * 3+1,none⟩=some vp∧w.cell? ⟨b,off+i * 3+2,none⟩=some (.int .i64 x.result)∧
  RText vs x.name∧RInts w vp x.params
def RExports(w:World)(v:Value)(l:List PExp):Prop:=
 ∃ao cap,v=.slice ao l.length cap∧l.length≤maxLen∧∀i x,l[i]? =some x→∃b off vs,ao=some ⟨b,off,none⟩∧
  w.cell? ⟨b,off+i * 2,none⟩=some vs∧w.cell? ⟨b,off+i * 2+1,none⟩=some (.int .i64 x.func)∧RText vs x.name
def RUnit(w:World)(v:Value)(u:PUnit):Prop:=
 ∃v1 v2 v3 v4 v5,v=.agg #[v1,v2,v3,v4,v5]∧RShapes w v1 u.shapes∧RInts w v2 u.consts∧RFuncs w v3 u.funcs∧RImports w v4 u.imports∧RExports w v5 u.exports
theorem RShapes.gr{w w':World}{v:Value}{l:List (List Int)}(h:RShapes w v l)(g:Gr w w'):RShapes w' v l:=by
 obtain ⟨ao,cap,hv,hm,hc⟩:=h;refine ⟨ao,cap,hv,hm,fun i x hi=>?_⟩;obtain ⟨b,off,vx,h1,h2,h3⟩:=hc i x hi;exact ⟨b,off,vx,h1,g.cell h2 (by simp),h3.gr g⟩
theorem RCode.gr{w w':World}{v:Value}{l:List PIns}(h:RCode w v l)(g:Gr w w'):RCode w' v l:=by
 obtain ⟨ao,cap,hv,hm,hc⟩:=h;refine ⟨ao,cap,hv,hm,fun i x hi=>?_⟩;obtain ⟨b,off,h1,h2,h3,h4⟩:=hc i x hi;exact ⟨b,off,h1,g.cell h2 (by simp),g.cell h3 (by simp),g.cell h4 (by simp)⟩
theorem RFuncs.gr{w w':World}{v:Value}{l:List PFunc}(h:RFuncs w v l)(g:Gr w w'):RFuncs w' v l:=by
 obtain ⟨ao,cap,hv,hm,hc⟩:=h;refine ⟨ao,cap,hv,hm,fun i x hi=>?_⟩;obtain ⟨b,off,vp,vl,vc,h1,h2,h3,h4,h5,h6,h7,h8⟩:=hc i x hi;exact ⟨b,off,vp,vl,vc,h1,g.cell h2 (by simp),g.cell h3 (by simp),g.cell h4 (by simp),g.cell h5 (by simp),h6.gr g,h7.gr g,h8.gr g⟩
theorem RImports.gr{w w':World}{v:Value}{l:List PImp}(h:RImports w v l)(g:Gr w w'):RImports w' v l:=by
 obtain ⟨ao,cap,hv,hm,hc⟩:=h;refine ⟨ao,cap,hv,hm,fun i x hi=>?_⟩;obtain ⟨b,off,vs,vp,h1,h2,h3,h4,h5,h6⟩:=hc i x hi;exact ⟨b,off,vs,vp,h1,g.cell h2 (by simp),g.cell h3 (by simp),g.cell h4 (by simp),h5,h6.gr g⟩
theorem RExports.gr{w w':World}{v:Value}{l:List PExp}(h:RExports w v l)(g:Gr w w'):RExports w' v l:=by
 obtain ⟨ao,cap,hv,hm,hc⟩:=h;refine ⟨ao,cap,hv,hm,fun i x hi=>?_⟩;obtain ⟨b,off,vs,h1,h2,h3,h4⟩:=hc i x hi;exact ⟨b,off,vs,h1,g.cell h2 (by simp),g.cell h3 (by simp),h4⟩
theorem RUnit.gr{w w':World}{v:Value}{u:PUnit}(h:RUnit w v u)(g:Gr w w'):RUnit w' v u:=by
 obtain ⟨v1,v2,v3,v4,v5,h,h1,h2,h3,h4,h5⟩:=h;exact ⟨v1,v2,v3,v4,v5,h,h1.gr g,h2.gr g,h3.gr g,h4.gr g,h5.gr g⟩
theorem RShapes.shape{w:World}{v:Value}{l:List (List Int)}(h:RShapes w v l):∃ao cap,v=.slice ao l.length cap:=by
 obtain ⟨ao,cap,hv,_⟩:=h;exact ⟨ao,cap,hv⟩
theorem RCode.shape{w:World}{v:Value}{l:List PIns}(h:RCode w v l):∃ao cap,v=.slice ao l.length cap:=by
 obtain ⟨ao,cap,hv,_⟩:=h;exact ⟨ao,cap,hv⟩
theorem RFuncs.shape{w:World}{v:Value}{l:List PFunc}(h:RFuncs w v l):∃ao cap,v=.slice ao l.length cap:=by
 obtain ⟨ao,cap,hv,_⟩:=h;exact ⟨ao,cap,hv⟩
theorem getElem?_lt{α:Type}{l:List α}{k:Nat}(h:k < l.length):∃x,l[k]? =some x:=⟨l[k],List.getElem?_eq_getElem h⟩
open Go.RowKit
attribute [local go_sem ↓] Go.wp_at_zero Go.wp_at_succ
theorem shapes_any(l:List (List Int))(v:Value)(e a:Int)(w:World)(hR:RShapes w v l):
 Calls Tryz.prog 42 #[v,.agg #[.int .i64 e,.int .i64 0,.int .i64 a]] w fun x w'=>
  x=ends (shapesOk l) e a∧Gr w w':=by
 obtain ⟨ao,cap,rfl,hm,hc⟩:=hR;unfold maxLen at hm;have HC:=hide hc;clear hc;obtain ⟨he,hn,ha⟩:=cells_box w e a;unfold shapesOk;cases hb:wB l.length 0 20
 · go_enter Tryz.func42,Tryz.ntmps42
   go_wp2
   go_region_with (first|(go_at_call 72;refine (within_any _ _ _ _).mono ?_;rintro e w' ⟨rfl,rfl⟩)|(go_at_call 32;refine (unless_no _ _ _).mono ?_;rintro e w' ⟨rfl,hg'⟩;refine left_region ?_))
   all_goals exact ⟨rfl,rfl,(by repeat (first|exact Gr.refl _|assumption|refine Gr.drew ?_|refine Gr.alloc ?_ _|refine Gr.trans ?_ (by assumption)))⟩
 · go_enter Tryz.func42,Tryz.ntmps42
   go_wp2
   go_region_held3 (fun w'=>w'.cell? ⟨w.heap.size,0,none⟩=some (.int .i64 e)∧w'.cell? ⟨w.heap.size,1,none⟩=some (.int .i64 0)∧w'.cell? ⟨w.heap.size,2,none⟩=some (.int .i64 a)) (first|go_keep|exact ⟨hg'.cell (by assumption) (by simp),hg'.cell (by assumption) (by simp),hg'.cell (by assumption) (by simp)⟩) (first|(go_at_call 72;refine (within_any _ _ _ _).mono ?_;rintro e w' ⟨rfl,rfl⟩)|(go_at_call 32;refine (unless_yes _ _ _).mono ?_;rintro e w' ⟨rfl,hg'⟩))
   have he1:=hg'.cell he (by simp);have hn1:=hg'.cell hn (by simp);have ha1:=hg'.cell ha (by simp);have hg0:Gr w w':=(by repeat (first|exact Gr.refl _|assumption|refine Gr.drew ?_|refine Gr.alloc ?_ _|refine Gr.trans ?_ (by assumption)));clear hg' he hn ha;go_wp2
   go_loopw [13] (fun i wr=>∃k:Nat,k≤l.length∧i=.int .i64 k∧(l.take k).all (shapeOk l.length)=true∧wr.cell? ⟨w.heap.size,0,none⟩=some (.int .i64 e)∧wr.cell? ⟨w.heap.size,1,none⟩=some (.int .i64 0)∧wr.cell? ⟨w.heap.size,2,none⟩=some (.int .i64 a)∧Gr w wr) (fun i _=>l.length - (intOf i).toNat)
   case atStart=>exact ⟨0,Nat.zero_le _,rfl,by simp,he1,hn1,ha1,hg0⟩
   case round=>
    clear he1 hn1 ha1 hg0;obtain ⟨k,hk,rfl,hall,he,hn,ha,hg⟩:=hrel;have HA:=hide hall;clear hall;by_cases hlt:k < l.length
    · obtain ⟨x,hx⟩:=getElem?_lt hlt;obtain ⟨b,off,vx,hao,hcell,hRx⟩:=HC.out k x hx;subst hao;have hcell':=hg.cell hcell (by simp);have hmx:=hRx.choose_spec.choose_spec.2.1;unfold maxLen at hmx;obtain ⟨ax,cx,rfl⟩:=hRx.shape;have HRX:=hide (hRx.gr hg);have HX:=hide hx;clear hx hRx hcell;cases hbx:wB x.length 1 8
      · have HF:Hid (l.all (shapeOk l.length)=false):=hide (all_false_at HX.out (by simp [shapeOk,hbx]));go_wp2
        go_region_with (first|(go_at_call 72;refine (within_any _ _ _ _).mono ?_;rintro e w' ⟨rfl,rfl⟩)|(go_at_call 32;refine (unless_no _ _ _).mono ?_;rintro e w' ⟨rfl,hg'⟩;refine left_region ?_))
        all_goals exact ⟨rfl,by rw [HF.out];rfl,(by repeat (first|exact Gr.refl _|assumption|refine Gr.drew ?_|refine Gr.alloc ?_ _|refine Gr.trans ?_ (by assumption)))⟩
      · cases hkx:x.all (inB l.length)
        · have HF:Hid (l.all (shapeOk l.length)=false):=hide (all_false_at HX.out (by simp [shapeOk,hkx]));have HK:=hide hkx;clear hkx;go_wp2
          go_region_held3 (fun w'=>w'.cell? ⟨w.heap.size,0,none⟩=some (.int .i64 e)∧w'.cell? ⟨w.heap.size,1,none⟩=some (.int .i64 0)∧w'.cell? ⟨w.heap.size,2,none⟩=some (.int .i64 a)) (first|go_keep|exact ⟨hg'.cell (by assumption) (by simp),hg'.cell (by assumption) (by simp),hg'.cell (by assumption) (by simp)⟩) (first|(go_at_call 72;refine (within_any _ _ _ _).mono ?_;rintro e w' ⟨rfl,rfl⟩)|(go_at_call 32;refine (unless_yes _ _ _).mono ?_;rintro e w' ⟨rfl,hg'⟩))
          have he1:=hg'.cell he (by simp);have hn1:=hg'.cell hn (by simp);have ha1:=hg'.cell ha (by simp);go_wp2_with (first|(go_at_call 73;refine (no_of (kinds_any x _ l.length e a _ (by exact HRX.out.gr (by repeat (first|exact Gr.refl _|assumption|refine Gr.drew ?_|refine Gr.alloc ?_ _|refine Gr.trans ?_ (by assumption))))) HK.out).mono ?_;rintro e w2 ⟨rfl,hg2⟩))
          exact ⟨rfl,by rw [HF.out];rfl,(by repeat (first|exact Gr.refl _|assumption|refine Gr.drew ?_|refine Gr.alloc ?_ _|refine Gr.trans ?_ (by assumption)))⟩
        · have HT:Hid ((l.take (k+1)).all (shapeOk l.length)=true):=hide (by rw [all_take_succ HX.out,HA.out];simp [shapeOk,hbx,hkx]);have HK:=hide hkx;clear hkx;go_wp2
          go_region_held3 (fun w'=>w'.cell? ⟨w.heap.size,0,none⟩=some (.int .i64 e)∧w'.cell? ⟨w.heap.size,1,none⟩=some (.int .i64 0)∧w'.cell? ⟨w.heap.size,2,none⟩=some (.int .i64 a)) (first|go_keep|exact ⟨hg'.cell (by assumption) (by simp),hg'.cell (by assumption) (by simp),hg'.cell (by assumption) (by simp)⟩) (first|(go_at_call 72;refine (within_any _ _ _ _).mono ?_;rintro e w' ⟨rfl,rfl⟩)|(go_at_call 32;refine (unless_yes _ _ _).mono ?_;rintro e w' ⟨rfl,hg'⟩))
          have he1:=hg'.cell he (by simp);have hn1:=hg'.cell hn (by simp);have ha1:=hg'.cell ha (by simp);go_wp2_with (first|(go_at_call 73;refine (yes_of (kinds_any x _ l.length e a _ (by exact HRX.out.gr (by repeat (first|exact Gr.refl _|assumption|refine Gr.drew ?_|refine Gr.alloc ?_ _|refine Gr.trans ?_ (by assumption))))) HK.out).mono ?_;rintro e w2 ⟨rfl,hg2⟩))
          go_roundw
          case rel=>exact ⟨k+1,by omega,by go_num,HT.out,hg2.cell he1 (by simp),hg2.cell hn1 (by simp),hg2.cell ha1 (by simp),(by repeat (first|exact Gr.refl _|assumption|refine Gr.drew ?_|refine Gr.alloc ?_ _|refine Gr.trans ?_ (by assumption)))⟩
          case measure=>simp [intOf];omega
    · go_wp2
      go_end0
      exact ⟨by rw [all_end HA.out hlt];rfl,hg⟩
open Go.RowKit
attribute [local go_sem ↓] Go.wp_at_zero Go.wp_at_succ
theorem code_any(l:List PIns)(v:Value)(e a:Int)(w:World)(hR:RCode w v l):
 Calls Tryz.prog 75 #[v,.agg #[.int .i64 e,.int .i64 0,.int .i64 a]] w fun x w'=>
  x=ends (codeOk l) e a∧Gr w w':=by
 obtain ⟨ao,cap,rfl,hm,hc⟩:=hR;unfold maxLen at hm;have HC:=hide hc;clear hc;obtain ⟨he,hn,ha⟩:=cells_box w e a;unfold codeOk;cases hb:wB l.length 1 200
 · go_enter Tryz.func75,Tryz.ntmps75
   go_wp2
   go_region_with (first|(go_at_call 72;refine (within_any _ _ _ _).mono ?_;rintro e w' ⟨rfl,rfl⟩)|(go_at_call 32;refine (unless_no _ _ _).mono ?_;rintro e w' ⟨rfl,hg'⟩;refine left_region ?_))
   all_goals exact ⟨rfl,rfl,(by repeat (first|exact Gr.refl _|assumption|refine Gr.drew ?_|refine Gr.alloc ?_ _|refine Gr.trans ?_ (by assumption)))⟩
 · go_enter Tryz.func75,Tryz.ntmps75
   go_wp2
   go_region_held3 (fun w'=>w'.cell? ⟨w.heap.size,0,none⟩=some (.int .i64 e)∧w'.cell? ⟨w.heap.size,1,none⟩=some (.int .i64 0)∧w'.cell? ⟨w.heap.size,2,none⟩=some (.int .i64 a)) (first|go_keep|exact ⟨hg'.cell (by assumption) (by simp),hg'.cell (by assumption) (by simp),hg'.cell (by assumption) (by simp)⟩) (first|(go_at_call 72;refine (within_any _ _ _ _).mono ?_;rintro e w' ⟨rfl,rfl⟩)|(go_at_call 32;refine (unless_yes _ _ _).mono ?_;rintro e w' ⟨rfl,hg'⟩))
   have he1:=hg'.cell he (by simp);have hn1:=hg'.cell hn (by simp);have ha1:=hg'.cell ha (by simp);have hg0:Gr w w':=(by repeat (first|exact Gr.refl _|assumption|refine Gr.drew ?_|refine Gr.alloc ?_ _|refine Gr.trans ?_ (by assumption)));clear hg' he hn ha;go_wp2
   go_loopw [13] (fun i wr=>∃k:Nat,k≤l.length∧i=.int .i64 k∧(l.take k).all insOk=true∧wr.cell? ⟨w.heap.size,0,none⟩=some (.int .i64 e)∧wr.cell? ⟨w.heap.size,1,none⟩=some (.int .i64 0)∧wr.cell? ⟨w.heap.size,2,none⟩=some (.int .i64 a)∧Gr w wr) (fun i _=>l.length - (intOf i).toNat)
   case atStart=>exact ⟨0,Nat.zero_le _,rfl,by simp,he1,hn1,ha1,hg0⟩
   case round=>
    clear he1 hn1 ha1 hg0;obtain ⟨k,hk,rfl,hall,he,hn,ha,hg⟩:=hrel;have HA:=hide hall;clear hall;by_cases hlt:k < l.length
    · obtain ⟨x,hx⟩:=getElem?_lt hlt;obtain ⟨b,off,hao,hc0,hc1,hc2⟩:=HC.out k x hx;subst hao;have hc0':=hg.cell hc0 (by simp);have hc1':=hg.cell hc1 (by simp);have hc2':=hg.cell hc2 (by simp);have HX:=hide hx;clear hx hc0 hc1 hc2;have hi0:(wr.alloc (.cells #[.int .i64 x.op,.int .i64 x.a,.int .i64 x.b] 26)).cell? ⟨wr.heap.size,0,none⟩=some (.int .i64 x.op):=by simp [go_sem]
      have hi1:(wr.alloc (.cells #[.int .i64 x.op,.int .i64 x.a,.int .i64 x.b] 26)).cell? ⟨wr.heap.size,1,none⟩=some (.int .i64 x.a):=by simp [go_sem]
      have hi2:(wr.alloc (.cells #[.int .i64 x.op,.int .i64 x.a,.int .i64 x.b] 26)).cell? ⟨wr.heap.size,2,none⟩=some (.int .i64 x.b):=by simp [go_sem]
      have hga:Gr w (wr.alloc (.cells #[.int .i64 x.op,.int .i64 x.a,.int .i64 x.b] 26)):=hg.alloc _;have hea:=(World.grownBy_alloc wr (.cells #[.int .i64 x.op,.int .i64 x.a,.int .i64 x.b] 26) none).cell he (by simp);have hna:=(World.grownBy_alloc wr (.cells #[.int .i64 x.op,.int .i64 x.a,.int .i64 x.b] 26) none).cell hn (by simp);have haa:=(World.grownBy_alloc wr (.cells #[.int .i64 x.op,.int .i64 x.a,.int .i64 x.b] 26) none).cell ha (by simp);cases hop:wB x.op 0 20
      · have HF:Hid (l.all insOk=false):=hide (all_false_at HX.out (by simp [insOk,hop]));go_wp2
        go_region_with (first|(go_at_call 112;refine (op_any _ _).mono ?_;rintro e w' ⟨rfl,rfl⟩)|(go_at_call 32;refine (unless_no _ _ _).mono ?_;rintro e w' ⟨rfl,hg'⟩;refine left_region ?_))
        all_goals exact ⟨rfl,by rw [HF.out];rfl,(by repeat (first|exact Gr.refl _|assumption|refine Gr.drew ?_|refine Gr.alloc ?_ _|refine Gr.trans ?_ (by assumption)))⟩
      · go_wp2
        go_region_held3 (fun w'=>w'.cell? ⟨w.heap.size,0,none⟩=some (.int .i64 e)∧w'.cell? ⟨w.heap.size,1,none⟩=some (.int .i64 0)∧w'.cell? ⟨w.heap.size,2,none⟩=some (.int .i64 a)∧w'.cell? ⟨wr.heap.size,0,none⟩=some (.int .i64 x.op)∧w'.cell? ⟨wr.heap.size,1,none⟩=some (.int .i64 x.a)∧w'.cell? ⟨wr.heap.size,2,none⟩=some (.int .i64 x.b)) (first|go_keep|(refine ⟨?_,?_,?_,?_,?_,?_⟩<;>exact hg'.cell (by assumption) (by simp))) (first|(go_at_call 112;refine (op_any _ _).mono ?_;rintro e w' ⟨rfl,rfl⟩)|(go_at_call 32;refine (unless_yes _ _ _).mono ?_;rintro e w' ⟨rfl,hg'⟩))
        have he1:=hg'.cell hea (by simp);have hn1:=hg'.cell hna (by simp);have ha1:=hg'.cell haa (by simp);have hi01:=hg'.cell hi0 (by simp);have hi11:=hg'.cell hi1 (by simp);have hi21:=hg'.cell hi2 (by simp);have hg1:Gr w w':=(by repeat (first|exact Gr.refl _|assumption|refine Gr.drew ?_|refine Gr.alloc ?_ _|refine Gr.trans ?_ (by assumption)));clear hi0 hi1 hi2 hga hea hna haa hg' he hn ha;cases hone:(x.op == 1)
        · have hne:¬x.op=1:=by simpa using hone
          cases hab:operandOk x.a (decide (1≤operandsN x.op))
          · have HF:Hid (l.all insOk=false):=hide (all_false_at HX.out (by simp only [insOk,hne,if_false,hab,Bool.and_false,Bool.false_and]));have HB:=hide hab;clear hab hne;go_wp2
            go_region_with (first|(go_at_call 114;refine (operands_any _ _).mono ?_;rintro e w' ⟨rfl,rfl⟩)|(go_at_call 113;refine (no_of (operand_any _ _ _ _ _) HB.out).mono ?_;rintro e w' ⟨rfl,hg'⟩;refine left_region ?_))
            all_goals exact ⟨rfl,by rw [HF.out];rfl,(by repeat (first|exact Gr.refl _|assumption|refine Gr.drew ?_|refine Gr.alloc ?_ _|refine Gr.trans ?_ (by assumption)))⟩
          · cases hbb:operandOk x.b (decide (2≤operandsN x.op))
            · have HF:Hid (l.all insOk=false):=hide (all_false_at HX.out (by simp only [insOk,hbb,Bool.and_false]));have HB:=hide hab;have HC2:=hide hbb;clear hab hbb hne;go_wp2
              go_region_held3 (fun w'=>w'.cell? ⟨w.heap.size,0,none⟩=some (.int .i64 e)∧w'.cell? ⟨w.heap.size,1,none⟩=some (.int .i64 0)∧w'.cell? ⟨w.heap.size,2,none⟩=some (.int .i64 a)∧w'.cell? ⟨wr.heap.size,0,none⟩=some (.int .i64 x.op)∧w'.cell? ⟨wr.heap.size,1,none⟩=some (.int .i64 x.a)∧w'.cell? ⟨wr.heap.size,2,none⟩=some (.int .i64 x.b)) (first|go_keep|(refine ⟨?_,?_,?_,?_,?_,?_⟩<;>exact hg'.cell (by assumption) (by simp))) (first|(go_at_call 114;refine (operands_any _ _).mono ?_;rintro e w' ⟨rfl,rfl⟩)|(go_at_call 113;refine (yes_of (operand_any _ _ _ _ _) HB.out).mono ?_;rintro e w' ⟨rfl,hg'⟩))
              have he2:=hg'.cell he1 (by simp);have hn2:=hg'.cell hn1 (by simp);have ha2:=hg'.cell ha1 (by simp);have hi02:=hg'.cell hi01 (by simp);have hi12:=hg'.cell hi11 (by simp);have hi22:=hg'.cell hi21 (by simp);have hg2:Gr w w':=(by repeat (first|exact Gr.refl _|assumption|refine Gr.drew ?_|refine Gr.alloc ?_ _|refine Gr.trans ?_ (by assumption)));go_wp2
              go_region_with (first|(go_at_call 114;refine (operands_any _ _).mono ?_;rintro e w' ⟨rfl,rfl⟩)|(go_at_call 113;refine (no_of (operand_any _ _ _ _ _) HC2.out).mono ?_;rintro e w' ⟨rfl,hg'⟩;refine left_region ?_))
              all_goals exact ⟨rfl,by rw [HF.out];rfl,(by repeat (first|exact Gr.refl _|assumption|refine Gr.drew ?_|refine Gr.alloc ?_ _|refine Gr.trans ?_ (by assumption)))⟩
            · have HT:Hid ((l.take (k+1)).all insOk=true):=hide (by rw [all_take_succ HX.out,HA.out];simp only [insOk,hop,hne,if_false,hab,hbb,Bool.and_true]);have HB:=hide hab;have HC2:=hide hbb;clear hab hbb hne;go_wp2
              go_region_held3 (fun w'=>w'.cell? ⟨w.heap.size,0,none⟩=some (.int .i64 e)∧w'.cell? ⟨w.heap.size,1,none⟩=some (.int .i64 0)∧w'.cell? ⟨w.heap.size,2,none⟩=some (.int .i64 a)∧w'.cell? ⟨wr.heap.size,0,none⟩=some (.int .i64 x.op)∧w'.cell? ⟨wr.heap.size,1,none⟩=some (.int .i64 x.a)∧w'.cell? ⟨wr.heap.size,2,none⟩=some (.int .i64 x.b)) (first|go_keep|(refine ⟨?_,?_,?_,?_,?_,?_⟩<;>exact hg'.cell (by assumption) (by simp))) (first|(go_at_call 114;refine (operands_any _ _).mono ?_;rintro e w' ⟨rfl,rfl⟩)|(go_at_call 113;refine (yes_of (operand_any _ _ _ _ _) HB.out).mono ?_;rintro e w' ⟨rfl,hg'⟩))
              have he2:=hg'.cell he1 (by simp);have hn2:=hg'.cell hn1 (by simp);have ha2:=hg'.cell ha1 (by simp);have hi02:=hg'.cell hi01 (by simp);have hi12:=hg'.cell hi11 (by simp);have hi22:=hg'.cell hi21 (by simp);have hg2:Gr w w':=(by repeat (first|exact Gr.refl _|assumption|refine Gr.drew ?_|refine Gr.alloc ?_ _|refine Gr.trans ?_ (by assumption)));go_wp2
              go_region_held3 (fun w'=>w'.cell? ⟨w.heap.size,0,none⟩=some (.int .i64 e)∧w'.cell? ⟨w.heap.size,1,none⟩=some (.int .i64 0)∧w'.cell? ⟨w.heap.size,2,none⟩=some (.int .i64 a)∧w'.cell? ⟨wr.heap.size,0,none⟩=some (.int .i64 x.op)∧w'.cell? ⟨wr.heap.size,1,none⟩=some (.int .i64 x.a)∧w'.cell? ⟨wr.heap.size,2,none⟩=some (.int .i64 x.b)) (first|go_keep|(refine ⟨?_,?_,?_,?_,?_,?_⟩<;>exact hg'.cell (by assumption) (by simp))) (first|(go_at_call 114;refine (operands_any _ _).mono ?_;rintro e w' ⟨rfl,rfl⟩)|(go_at_call 113;refine (yes_of (operand_any _ _ _ _ _) HC2.out).mono ?_;rintro e w' ⟨rfl,hg'⟩))
              go_wp2
              go_roundw
              case rel=>exact ⟨k+1,by omega,by go_num,HT.out,hg'.cell he2 (by simp),hg'.cell hn2 (by simp),hg'.cell ha2 (by simp),(by repeat (first|exact Gr.refl _|assumption|refine Gr.drew ?_|refine Gr.alloc ?_ _|refine Gr.trans ?_ (by assumption)))⟩
              case measure=>simp [intOf];omega
        · cases hsm:wB x.a (-2147483648) 2147483647
          · have HF:Hid (l.all insOk=false):=hide (all_false_at HX.out (by simp [insOk,(beq_iff_eq.1 hone),hsm]));go_wp2
            go_region_with (first|(go_at_call 72;refine (within_any _ _ _ _).mono ?_;rintro e w' ⟨rfl,rfl⟩)|(go_at_call 32;refine (unless_no _ _ _).mono ?_;rintro e w' ⟨rfl,hg'⟩;refine left_region ?_))
            all_goals exact ⟨rfl,by rw [HF.out];rfl,(by repeat (first|exact Gr.refl _|assumption|refine Gr.drew ?_|refine Gr.alloc ?_ _|refine Gr.trans ?_ (by assumption)))⟩
          · cases hbb:operandOk x.b (decide (2≤operandsN x.op))
            · have HF:Hid (l.all insOk=false):=hide (all_false_at HX.out (by simp only [insOk,hbb,Bool.and_false]));have HC2:=hide hbb;clear hbb;go_wp2
              go_region_held3 (fun w'=>w'.cell? ⟨w.heap.size,0,none⟩=some (.int .i64 e)∧w'.cell? ⟨w.heap.size,1,none⟩=some (.int .i64 0)∧w'.cell? ⟨w.heap.size,2,none⟩=some (.int .i64 a)∧w'.cell? ⟨wr.heap.size,0,none⟩=some (.int .i64 x.op)∧w'.cell? ⟨wr.heap.size,1,none⟩=some (.int .i64 x.a)∧w'.cell? ⟨wr.heap.size,2,none⟩=some (.int .i64 x.b)) (first|go_keep|(refine ⟨?_,?_,?_,?_,?_,?_⟩<;>exact hg'.cell (by assumption) (by simp))) (first|(go_at_call 72;refine (within_any _ _ _ _).mono ?_;rintro e w' ⟨rfl,rfl⟩)|(go_at_call 32;refine (unless_yes _ _ _).mono ?_;rintro e w' ⟨rfl,hg'⟩))
              have he2:=hg'.cell he1 (by simp);have hn2:=hg'.cell hn1 (by simp);have ha2:=hg'.cell ha1 (by simp);have hi02:=hg'.cell hi01 (by simp);have hi12:=hg'.cell hi11 (by simp);have hi22:=hg'.cell hi21 (by simp);have hg2:Gr w w':=(by repeat (first|exact Gr.refl _|assumption|refine Gr.drew ?_|refine Gr.alloc ?_ _|refine Gr.trans ?_ (by assumption)));go_wp2
              go_region_with (first|(go_at_call 114;refine (operands_any _ _).mono ?_;rintro e w' ⟨rfl,rfl⟩)|(go_at_call 113;refine (no_of (operand_any _ _ _ _ _) HC2.out).mono ?_;rintro e w' ⟨rfl,hg'⟩;refine left_region ?_))
              all_goals exact ⟨rfl,by rw [HF.out];rfl,(by repeat (first|exact Gr.refl _|assumption|refine Gr.drew ?_|refine Gr.alloc ?_ _|refine Gr.trans ?_ (by assumption)))⟩
            · have HT:Hid ((l.take (k+1)).all insOk=true):=hide (by rw [all_take_succ HX.out,HA.out];simp only [insOk,hop,beq_iff_eq.1 hone,if_true,hsm,Bool.and_true,Bool.true_and];rw [beq_iff_eq.1 hone] at hbb;exact hbb);have HC2:=hide hbb;clear hbb;go_wp2
              go_region_held3 (fun w'=>w'.cell? ⟨w.heap.size,0,none⟩=some (.int .i64 e)∧w'.cell? ⟨w.heap.size,1,none⟩=some (.int .i64 0)∧w'.cell? ⟨w.heap.size,2,none⟩=some (.int .i64 a)∧w'.cell? ⟨wr.heap.size,0,none⟩=some (.int .i64 x.op)∧w'.cell? ⟨wr.heap.size,1,none⟩=some (.int .i64 x.a)∧w'.cell? ⟨wr.heap.size,2,none⟩=some (.int .i64 x.b)) (first|go_keep|(refine ⟨?_,?_,?_,?_,?_,?_⟩<;>exact hg'.cell (by assumption) (by simp))) (first|(go_at_call 72;refine (within_any _ _ _ _).mono ?_;rintro e w' ⟨rfl,rfl⟩)|(go_at_call 32;refine (unless_yes _ _ _).mono ?_;rintro e w' ⟨rfl,hg'⟩))
              have he2:=hg'.cell he1 (by simp);have hn2:=hg'.cell hn1 (by simp);have ha2:=hg'.cell ha1 (by simp);have hi02:=hg'.cell hi01 (by simp);have hi12:=hg'.cell hi11 (by simp);have hi22:=hg'.cell hi21 (by simp);have hg2:Gr w w':=(by repeat (first|exact Gr.refl _|assumption|refine Gr.drew ?_|refine Gr.alloc ?_ _|refine Gr.trans ?_ (by assumption)));go_wp2
              go_region_held3 (fun w'=>w'.cell? ⟨w.heap.size,0,none⟩=some (.int .i64 e)∧w'.cell? ⟨w.heap.size,1,none⟩=some (.int .i64 0)∧w'.cell? ⟨w.heap.size,2,none⟩=some (.int .i64 a)∧w'.cell? ⟨wr.heap.size,0,none⟩=some (.int .i64 x.op)∧w'.cell? ⟨wr.heap.size,1,none⟩=some (.int .i64 x.a)∧w'.cell? ⟨wr.heap.size,2,none⟩=some (.int .i64 x.b)) (first|go_keep|(refine ⟨?_,?_,?_,?_,?_,?_⟩<;>exact hg'.cell (by assumption) (by simp))) (first|(go_at_call 114;refine (operands_any _ _).mono ?_;rintro e w' ⟨rfl,rfl⟩)|(go_at_call 113;refine (yes_of (operand_any _ _ _ _ _) HC2.out).mono ?_;rintro e w' ⟨rfl,hg'⟩))
              go_wp2
              go_roundw
              case rel=>exact ⟨k+1,by omega,by go_num,HT.out,hg'.cell he2 (by simp),hg'.cell hn2 (by simp),hg'.cell ha2 (by simp),(by repeat (first|exact Gr.refl _|assumption|refine Gr.drew ?_|refine Gr.alloc ?_ _|refine Gr.trans ?_ (by assumption)))⟩
              case measure=>simp [intOf];omega
    · go_wp2
      go_end0
      exact ⟨by rw [all_end HA.out hlt];rfl,hg⟩
end Go.Proofs.YtkgncijcnlfhiaaGreat
