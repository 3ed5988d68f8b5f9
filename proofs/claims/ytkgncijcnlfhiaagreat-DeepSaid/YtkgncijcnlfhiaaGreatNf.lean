import Derived.Test.YtkgncijcnlfhiaaGreatNa
import Derived.StringKeys
import Derived.Deep.AppendLies
import Derived.Deep.Cut
import Derived.Deep.CutRange
namespace Go.Proofs.YtkgncijcnlfhiaaGreat
set_option maxRecDepth 100000
set_option maxHeartbeats 2000000
set_option linter.unusedVariables false
set_option linter.unusedSimpArgs false
open Go.RowKit
attribute [local go_sem ↓] Go.wp_at_zero Go.wp_at_succ
theorem eq_of_get{α:Type}{l m:List α}(hl:l.length=m.length)(h:∀j,j < l.length→l[j]? =m[j]?):l=m:=by
 apply List.ext_getElem?
 intro i;by_cases hi:i < l.length
 · exact h i hi
 · rw [List.getElem?_eq_none (by omega),List.getElem?_eq_none (by omega)]
theorem equalf_any(va vb:Value)(l m:List (List Int))(w:World)(ha:RShapes w va l)(hb:RShapes w vb m):
 Calls Tryz.prog 35 #[va,vb,.func (.func 36) #[] #[]] w fun x w'=>x=.returned (.bool (decide (l=m)))∧Gr w w':=by
 have hnot:∀(x:Bool) (w:World),(Op.unary .not (.bool x)).run Tryz.prog w=.ok (.bool (!x)) w:=fun _ _=>rfl
 obtain ⟨a1,c1,rfl,hm,hc1⟩:=ha;obtain ⟨a2,c2,rfl,hm2,hc2⟩:=hb;unfold maxLen at hm hm2;have HC1:=hide hc1;have HC2:=hide hc2;clear hc1 hc2;by_cases hlen:l.length=m.length
 · have hne:((l.length:Int) != (m.length:Int))=false:=by simp [hlen]
   have HLen:=hide hlen;clear hlen;go_enter Tryz.func35,Tryz.ntmps35
   go_wp2_with fail
   go_loopw [17] (fun i wr=>∃k:Nat,i=.int .i64 k∧k≤l.length∧(∀j,j < k→l[j]? =m[j]?)∧Gr w wr) (fun i _=>l.length - (intOf i).toNat)
   case atStart=>exact ⟨0,rfl,Nat.zero_le _,fun j h=>by omega,Gr.refl _⟩
   case round=>
    obtain ⟨k,rfl,hk,hall,hg⟩:=hrel;have HAll:=hide hall;have HG:=hide hg;clear hall hg;by_cases hlt:k < l.length
    · obtain ⟨x,hx⟩:=getElem?_lt hlt;obtain ⟨y,hy⟩:=getElem?_lt (show k < m.length by have:=HLen.out;omega);obtain ⟨b1,o1,vx,rfl,x1,x2⟩:=HC1.out k x hx;obtain ⟨b2,o2,vy,rfl,y1,y2⟩:=HC2.out k y hy;obtain ⟨p1,q1,rfl⟩:=x2.shape;obtain ⟨p2,q2,rfl⟩:=y2.shape;have x1:=HG.out.cell x1 (by simp);have y1:=HG.out.cell y1 (by simp);have hki:(k:Int) < (l.length:Int):=by omega
      have hki2:(k:Int) < (m.length:Int):=by have:=HLen.out;omega
      have hw:IntKind.i64.wrap ((k:Int)+1)=(k:Int)+1:=Go.IntWalk.i64_in _ (by omega);have HEQ:=hide (equal_any _ _ x y wr (x2.gr HG.out) (y2.gr HG.out));have HX:=hide hx;have HY:=hide hy;clear hx hy x2 y2;go_wp2_with fail
      refine HEQ.out.mono ?_;rintro z w2 ⟨rfl,hg2⟩;have HG2:=hide (HG.out.trans hg2);clear hg2 HEQ;by_cases hxy:x=y
      · have hd:decide (x=y)=true:=by simpa using hxy
        rw [hd];have HA2:Hid (∀j,j < k+1→l[j]? =m[j]?):=hide (fun j hj=>by
         by_cases e:j=k
         · subst e;rw [HX.out,HY.out,hxy]
         · exact HAll.out j (by omega))
        clear hd hxy;go_wp2_with fail
        exact ⟨⟨k+1,by simp,hlt,HA2.out,HG2.out⟩,by simp [intOf];omega⟩
      · have hd:decide (x=y)=false:=by simpa using hxy
        rw [hd];have HD:Hid (decide (l=m)=false):=hide (by
         rw [decide_eq_false_iff_not];intro e;subst e;exact hxy (Option.some.inj (HX.out.symm.trans HY.out)))
        clear hd hxy;go_wp2_with fail
        go_ret
        exact ⟨by rw [HD.out];rfl,HG2.out⟩
    · have hkk:k=l.length:=by omega
      subst hkk;have HD:Hid (decide (l=m)=true):=hide (by rw [decide_eq_true_eq];exact eq_of_get HLen.out HAll.out);clear hlt hk;go_wp2_with fail
      go_ret
      exact ⟨by rw [HD.out];rfl,HG.out⟩
 · have hne:((l.length:Int) != (m.length:Int))=true:=by rw [bne_iff_ne];omega
   have HD:Hid (decide (l=m)=false):=hide (by rw [decide_eq_false_iff_not];intro e;subst e;exact hlen rfl);clear hlen;go_enter Tryz.func35,Tryz.ntmps35
   go_wp2_with fail
   go_ret
   exact ⟨by rw [HD.out];rfl,Gr.refl _⟩
open Go.RowKit Go.Maps Go.WideMaps Go.WideMaps
theorem Tryz.uMapT:Tryz.prog.underlying 85=some (.map 9 126):=by kernel_rfl
def zTgt:Value:=.agg #[.slice none 0 0,.int .i64 0,.slice none 0 0,.slice none 0 0,.int .i64 0]
theorem Tryz.zMapT(w:World):(zeroValue 126).run Tryz.prog w=.ok zTgt w:=by kernel_rfl
theorem Tryz.kStr:Tryz.prog.underlying 9=some .string:=by kernel_rfl
theorem Tryz.keyedS:Keyed Tryz.prog 9:=string_keyed Tryz.kStr
theorem keyS_is(s:ByteArray)(hs:s.size≤maxLen):keyOf Tryz.prog 9 (.string s)=some (.string s.data.toList):=keyOf_string_mk Tryz.kStr hs
structure MapS(w:World)(b n:Nat)(m:List UInt8→Option Value):Prop where
 is:∃D:DataW Value,w.ownsMap Tryz.prog 9 valR b n D∧∀k,Maps.has D (.string k)=(m k).isSome∧D.atKey (.string k) (.held zTgt)=.held ((m k).getD zTgt)
theorem MapS.made(w:World):MapS (w.alloc (.map #[] 0)) w.heap.size 0 (fun _=>none):=
 ⟨_,World.ownsMap_made w _ _ _,fun k=>⟨rfl,rfl⟩⟩
theorem MapS.empty{w:World}{b:Nat}(h:w.heap[b]? =some (.map #[] 0)):MapS w b 0 (fun _=>none):=by
 obtain ⟨D,⟨es,clock,hb,r⟩,h2⟩:=(MapS.made w).is;have hb2:(w.alloc (.map #[] 0)).heap[w.heap.size]? =some (.map #[] 0):=by show (w.heap.push _)[w.heap.size]? =_;simp
 rw [hb2] at hb;simp only [Option.some.injEq,Obj.map.injEq] at hb;obtain ⟨rfl,rfl⟩:=hb;exact ⟨D,⟨_,_,h,r⟩,h2⟩
theorem MapS.lt{w:World}{b n:Nat}{m:List UInt8→Option Value}(h:MapS w b n m):b < w.heap.size:=by
 obtain ⟨D,h1,_⟩:=h.is;exact h1.lt
theorem MapS.kept{w w':World}{b n:Nat}{m:List UInt8→Option Value}(h:MapS w b n m)(g:w'.heap[b]? =w.heap[b]?):MapS w' b n m:=by
 obtain ⟨D,⟨es,clock,hb,r⟩,h2⟩:=h.is;exact ⟨D,⟨es,clock,g.trans hb,r⟩,h2⟩
theorem MapS.look{w:World}{b n:Nat}{m:List UInt8→Option Value}(h:MapS w b n m)(s:ByteArray)(hs:s.size≤maxLen):(Instr.lookup 85 (.map (some b)) (.string s) true).run Tryz.prog w=.ok (.tuple #[(m s.data.toList).getD zTgt,.bool (m s.data.toList).isSome]) w:=by
 obtain ⟨D,h1,h2⟩:=h.is;obtain ⟨v,ps,hrun,hv⟩:=h1.look_ok Tryz.keyedS Tryz.uMapT (Tryz.zMapT w) (zd:=.held zTgt) (zp:= []) rfl (keyS_is s hs);rw [hrun,(h2 _).1];have:=congrArg Prod.fst (Option.some.inj hv)
 simp only [(h2 _).2,DataW.held.injEq] at this;rw [this]
theorem MapS.look1{w:World}{b n:Nat}{m:List UInt8→Option Value}(h:MapS w b n m)(s:ByteArray)(hs:s.size≤maxLen):(Instr.lookup 85 (.map (some b)) (.string s) false).run Tryz.prog w=.ok ((m s.data.toList).getD zTgt) w:=by
 obtain ⟨D,h1,h2⟩:=h.is;obtain ⟨v,ps,hrun,hv⟩:=h1.lookup Tryz.keyedS Tryz.uMapT (Tryz.zMapT w) (zd:=.held zTgt) (zp:= []) rfl (keyS_is s hs);rw [hrun];have:=congrArg Prod.fst (Option.some.inj hv)
 simp only [(h2 _).2,DataW.held.injEq] at this;rw [this]
theorem MapS.store{w:World}{b n:Nat}{m:List UInt8→Option Value}(h:MapS w b n m)(s:ByteArray)(hs:s.size≤maxLen)(hn:n < 1000000)(v:Value):
 ∃w',(Instr.mapUpdate 85 (.map (some b)) (.string s) v).run Tryz.prog w=.ok () w'∧MapS w' b (n+1) (fun j=>if j=s.data.toList then some v else m j)∧w.grownBy w' (some b):=by
 obtain ⟨D,h1,h2⟩:=h.is;obtain ⟨w',hrun,hown,hturn⟩:=h1.store Tryz.keyedS Tryz.uMapT (by unfold maxLen;omega) (keyS_is s hs) (val:=v) (d:=.held v) (ps:= []) rfl;refine ⟨w',hrun,⟨_,hown,fun j=>?_⟩,hturn.grown⟩;by_cases e:j=s.data.toList
 · subst e;rw [has_put_same h1.isMap (by trivial),atKey_put_same h1.isMap (by trivial)];simp
 · have hne:(Lit.string j)≠Lit.string s.data.toList:=fun h=>e (by injection h)
   rw [has_put_other hne,atKey_put_other hne,if_neg e];exact h2 j
open Go.RowKit
attribute [local go_sem ↓] Go.wp_at_zero Go.wp_at_succ
theorem Tryz.callUnl(vals:Array Value)(w:World):(callFunc 32 vals).run Tryz.prog w=.ok (.enter 32 vals) w:=by kernel_rfl
theorem Tryz.callEqF(vals:Array Value)(w:World):(callFunc 35 vals).run Tryz.prog w=.ok (.enter 35 vals) w:=by kernel_rfl
theorem Tryz.callEqI(vals:Array Value)(w:World):(callFunc 36 vals).run Tryz.prog w=.ok (.enter 36 vals) w:=by kernel_rfl
theorem hcell_{w:World}{b:Nat}{arr:Array Value}{t:TypeId}{o:Nat}{f:Nat×Nat}(h:w.heap[b]? =some (.cells arr t f)):w.cell? ⟨b,o,none⟩=arr[o]? :=by
 simp [World.cell?,h]
theorem ask_unit(W:World)(l:List PUnit):AskC W 25 #[] #[] 1 l (fun _ u=>!unitOk u) (fun _ V=>Gr W V) (fun V=>Gr W V):=by
 intro k u V vu hu hg hR;refine (unit_any u vu 1 (k:Int) V (hR.gr hg)).mono ?_;rintro x w' ⟨rfl,hg2⟩;cases h:unitOk u with
 | true=>exact .inl ⟨by simp [h],by rw [ends_t],hg.trans hg2⟩
 | false=>exact .inr ⟨by simp [h],by rw [ends_f],hg.trans hg2⟩
theorem RUnit.parts{w:World}{v:Value}{u:PUnit}(h:RUnit w v u):∃a1 a2 a3 a4 a5 c1 c2 c3 c4 c5,v=.agg #[.slice a1 u.shapes.length c1,.slice a2 u.consts.length c2,.slice a3 u.funcs.length c3,.slice a4 u.imports.length c4,.slice a5 u.exports.length c5]∧RShapes w (.slice a1 u.shapes.length c1) u.shapes∧RInts w (.slice a2 u.consts.length c2) u.consts∧RFuncs w (.slice a3 u.funcs.length c3) u.funcs∧RImports w (.slice a4 u.imports.length c4) u.imports∧RExports w (.slice a5 u.exports.length c5) u.exports:=by
 obtain ⟨x1,x2,x3,x4,x5,he,h1,h2,h3,h4,h5⟩:=h;obtain ⟨a1,c1,rfl⟩:=h1.shape;obtain ⟨a2,c2,rfl⟩:=h2.shape;obtain ⟨a3,c3,rfl⟩:=h3.shape;obtain ⟨a4,c4,rfl⟩:=h4.shape;obtain ⟨a5,c5,rfl⟩:=h5.shape;exact ⟨a1,a2,a3,a4,a5,c1,c2,c3,c4,c5,he,h1,h2,h3,h4,h5⟩
structure Fst(W:World)(ub b off n:Nat)(cl:Nat)(a0:Option Addr)(c0:Nat)(sh:List (List Int)):Prop where
 box:W.cell? ⟨ub,0,none⟩=some (.slice (some ⟨b,off,none⟩) n cl)
 cell:W.cell? ⟨b,off,none⟩=some (.slice a0 sh.length c0)
 row:RShapes W (.slice a0 sh.length c0) sh
 pos:0 < n
theorem ask_shapes(W:World)(l:List PUnit)(ub b off n cl:Nat)(a0:Option Addr)(c0:Nat)(sh:List (List Int))(hF:Fst W ub b off n cl a0 c0 sh):
 AskC W 34 #[] #[.pointer (some ⟨ub,0,none⟩)] 5 l (fun _ u=>!decide (u.shapes=sh)) (fun _ V=>Gr W V) (fun V=>Gr W V):=by
 intro k u V vu hu hg hR;show Calls Tryz.prog 34 #[vu,.agg #[.int .i64 5,.int .i64 0,.int .i64 (k:Int)],.pointer (some ⟨ub,0,none⟩)] V _
 obtain ⟨a1,a2,a3,a4,a5,c1,c2,c3,c4,c5,rfl,r1,_,_,_,_⟩:=(hR.gr hg).parts;have HG:=hide hg;have HR1:=hide r1;have HF:=hide hF;have hn:(0:Int) < (n:Int):=by have:=hF.pos;omega
 have hn0:0 < n:=hF.pos;clear hg r1 hu hR hF;go_enter Tryz.func34,Tryz.ntmps34
 go_wp2_with fail
 have hgW:Gr V ((V.alloc (.cells #[.slice a1 u.shapes.length c1,.slice a2 u.consts.length c2,.slice a3 u.funcs.length c3,.slice a4 u.imports.length c4,.slice a5 u.exports.length c5] 33)).alloc (.cells #[.int .i64 5,.int .i64 0,.int .i64 (k:Int)] 58)):=((Gr.refl V).alloc _).alloc _;have hb0:=heap_alloc_new V (.cells #[.slice a1 u.shapes.length c1,.slice a2 u.consts.length c2,.slice a3 u.funcs.length c3,.slice a4 u.imports.length c4,.slice a5 u.exports.length c5] 33);have hb1:=heap_alloc_new (V.alloc (.cells #[.slice a1 u.shapes.length c1,.slice a2 u.consts.length c2,.slice a3 u.funcs.length c3,.slice a4 u.imports.length c4,.slice a5 u.exports.length c5] 33)) (.cells #[.int .i64 5,.int .i64 0,.int .i64 (k:Int)] 58);have hg1:Gr (V.alloc (.cells #[.slice a1 u.shapes.length c1,.slice a2 u.consts.length c2,.slice a3 u.funcs.length c3,.slice a4 u.imports.length c4,.slice a5 u.exports.length c5] 33)) ((V.alloc (.cells #[.slice a1 u.shapes.length c1,.slice a2 u.consts.length c2,.slice a3 u.funcs.length c3,.slice a4 u.imports.length c4,.slice a5 u.exports.length c5] 33)).alloc (.cells #[.int .i64 5,.int .i64 0,.int .i64 (k:Int)] 58)):=(Gr.refl _).alloc _;have hbb:(V.alloc (.cells #[.slice a1 u.shapes.length c1,.slice a2 u.consts.length c2,.slice a3 u.funcs.length c3,.slice a4 u.imports.length c4,.slice a5 u.exports.length c5] 33)).heap.size=V.heap.size+1:=by simp
 rw [hbb] at hb1;have KS:Hid (∀w',Gr ((V.alloc (.cells #[.slice a1 u.shapes.length c1,.slice a2 u.consts.length c2,.slice a3 u.funcs.length c3,.slice a4 u.imports.length c4,.slice a5 u.exports.length c5] 33)).alloc (.cells #[.int .i64 5,.int .i64 0,.int .i64 (k:Int)] 58)) w'→w'.cell? ⟨V.heap.size+1,0,none⟩=some (.int .i64 5)∧w'.cell? ⟨V.heap.size+1,1,none⟩=some (.int .i64 0)∧w'.cell? ⟨V.heap.size+1,2,none⟩=some (.int .i64 (k:Int))∧w'.cell? ⟨V.heap.size,0,none⟩=some (.slice a1 u.shapes.length c1)∧w'.cell? ⟨ub,0,none⟩=some (.slice (some ⟨b,off,none⟩) n cl)∧w'.cell? ⟨b,off,none⟩=some (.slice a0 sh.length c0)):=hide (fun w' g=>by
  have g0:=hg1.trans g;have gV:=HG.out.trans (hgW.trans g);have e0:w'.heap[V.heap.size]? =_:=(g0.block V.heap.size (by simp) (by simp)).trans hb0;have e1:w'.heap[V.heap.size+1]? =_:=(g.block (V.heap.size+1) (by simp) (by simp)).trans hb1;exact ⟨by rw [hcell_ e1];rfl,by rw [hcell_ e1];rfl,by rw [hcell_ e1];rfl,by rw [hcell_ e0];rfl,gV.cell HF.out.box (by simp),gV.cell HF.out.cell (by simp)⟩)
 have HGW:=hide hgW;clear hb0 hb1 hg1 hgW hbb;generalize (V.alloc (.cells #[.slice a1 u.shapes.length c1,.slice a2 u.consts.length c2,.slice a3 u.funcs.length c3,.slice a4 u.imports.length c4,.slice a5 u.exports.length c5] 33)).alloc (.cells #[.int .i64 5,.int .i64 0,.int .i64 (k:Int)] 58)=W1 at KS HGW ⊢;refine wp_region_held_drew (S:=(fun w'=>w'.cell? ⟨V.heap.size+1,0,none⟩=some (.int .i64 5)∧w'.cell? ⟨V.heap.size+1,1,none⟩=some (.int .i64 0)∧w'.cell? ⟨V.heap.size+1,2,none⟩=some (.int .i64 (k:Int))∧w'.cell? ⟨V.heap.size,0,none⟩=some (.slice a1 u.shapes.length c1)∧w'.cell? ⟨ub,0,none⟩=some (.slice (some ⟨b,off,none⟩) n cl)∧w'.cell? ⟨b,off,none⟩=some (.slice a0 sh.length c0))) (by kernel_rfl) (KS.out _ (Gr.drew (Gr.refl _))) (fun hH=>?_);refine tL 0 _ rfl (fun w hS=>by go_simp<;>rfl) hH ?_
 simp only [Act.put,sA,s0,s1];refine tL 1 _ rfl (fun w hS=>by go_simp<;>rfl) hH ?_
 simp only [Act.put,sA,s0,s1];refine tL 2 _ rfl (fun w hS=>by go_simp<;>rfl) hH ?_
 simp only [Act.put,sA,s0,s1];refine tL 3 _ rfl (fun w hS=>by go_simp<;>rfl) hH ?_
 simp only [Act.put,sA,s0,s1];refine tL 4 _ rfl (fun w hS=>by go_simp<;>rfl) hH ?_
 simp only [Act.put,sA,s0,s1];refine tL 5 _ rfl (fun w hS=>by go_simp<;>rfl) hH ?_
 simp only [Act.put,sA,s0,s1];refine tL 6 _ rfl (fun w hS=>by go_simp<;>rfl) hH ?_
 simp only [Act.put,sA,s0,s1];refine aloneL (i:=7) rfl (by kernel_rfl) (fun K hK=>?_);refine step_calls_w rfl 35 _ _ rfl #[.slice a1 u.shapes.length c1,.slice a0 sh.length c0,.func (.func 36) #[] #[]] (by simp [Act.eval]) (Tryz.callEqF _ _) ((equalf_any _ _ u.shapes sh _ (HR1.out.gr (HGW.out.trans (Gr.drew (Gr.refl _)))) (HF.out.row.gr (HG.out.trans (HGW.out.trans (Gr.drew (Gr.refl _)))))).mono ?_);rintro x w2 ⟨rfl,hg2⟩;have HG2:=hide ((Gr.drew (Gr.refl W1)).trans hg2);clear hg2;refine .inl ⟨_,rfl,?_⟩;refine hK.out _ _ (KS.out _ HG2.out) (fun hH=>?_);clear hK;try simp only [Act.put,sA,s0,s1]
 refine aloneL (i:=8) rfl (by kernel_rfl) (fun K hK=>?_);by_cases hd:u.shapes=sh
 · have e:decide (u.shapes=sh)=true:=by simpa using hd
   refine step_calls_w rfl 32 _ _ rfl #[.agg #[.int .i64 5,.int .i64 0,.int .i64 (k:Int)],.bool true] (by simp [Act.eval,e]) (Tryz.callUnl _ _) ((unless_yes _ _ _).mono ?_);rintro x w3 ⟨rfl,hg3⟩;have HG3:=hide (HG2.out.trans hg3);clear hg3;refine .inl ⟨_,rfl,?_⟩;refine hK.out _ _ (KS.out _ HG3.out) (fun hH=>?_);clear hK;try simp only [Act.put,sA,s0,s1]
   refine wpAnyH_done (by kernel_rfl) ?_ _;go_wp2_with fail
   go_end0
   exact .inl ⟨by simp [hd],rfl,HG.out.trans (HGW.out.trans HG3.out)⟩
 · have e:decide (u.shapes=sh)=false:=by simpa using hd
   refine step_calls_w rfl 32 _ _ rfl #[.agg #[.int .i64 5,.int .i64 0,.int .i64 (k:Int)],.bool false] (by simp [Act.eval,e]) (Tryz.callUnl _ _) ((unless_no _ _ _).mono ?_);rintro x w3 ⟨rfl,hg3⟩;refine .inr ⟨_,rfl,?_⟩;exact ⟨rfl,.inr ⟨by simp [hd],rfl,HG.out.trans (HGW.out.trans (HG2.out.trans hg3))⟩⟩
open Go.RowKit
attribute [local go_sem ↓] Go.wp_at_zero Go.wp_at_succ
def TgtV(w:World)(v:Value)(g:PFunc)(k:Int):Prop:=∃ap cp al nl cl ac nc cc,v=.agg #[.slice ap g.params.length cp,.int .i64 g.result,.slice al nl cl,.slice ac nc cc,.int .i64 k]∧RInts w (.slice ap g.params.length cp) g.params
theorem TgtV.gr{w w':World}{v:Value}{g:PFunc}{k:Int}(h:TgtV w v g k)(hg:Gr w w'):TgtV w' v g k:=by
 obtain ⟨ap,cp,al,nl,cl,ac,nc,cc,e,r⟩:=h;exact ⟨ap,cp,al,nl,cl,ac,nc,cc,e,r.gr hg⟩
def MapT(W w:World)(b n:Nat)(N:List UInt8→Option (PFunc×Int)):Prop:=∃m,MapS w b n m∧∀s,(N s=none∧m s=none)∨∃g k v,N s=some (g,k)∧m s=some v∧TgtV W v g k
theorem MapT.lt{W w:World}{b n:Nat}{N:List UInt8→Option (PFunc×Int)}(h:MapT W w b n N):b < w.heap.size:=by
 obtain ⟨m,h1,_⟩:=h;exact h1.lt
theorem MapT.kept{W w w':World}{b n:Nat}{N:List UInt8→Option (PFunc×Int)}(h:MapT W w b n N)(g:w'.heap[b]? =w.heap[b]?):MapT W w' b n N:=by
 obtain ⟨m,h1,h2⟩:=h;exact ⟨m,h1.kept g,h2⟩
theorem MapT.gr{W w w':World}{b n:Nat}{N:List UInt8→Option (PFunc×Int)}(h:MapT W w b n N)(hg:Gr w w'):MapT W w' b n N:=h.kept (hg.block b h.lt (by simp))
theorem MapT.find{W w:World}{b n:Nat}{N:List UInt8→Option (PFunc×Int)}(h:MapT W w b n N)(s:ByteArray)(hs:s.size≤maxLen):
 (N s.data.toList=none∧(∀w',Gr w w'→(Instr.lookup 85 (.map (some b)) (.string s) true).run Tryz.prog w'=.ok (.tuple #[zTgt,.bool false]) w')∧∀w',Gr w w'→(Instr.lookup 85 (.map (some b)) (.string s) false).run Tryz.prog w'=.ok zTgt w')∨
 ∃g k v,N s.data.toList=some (g,k)∧TgtV W v g k∧(∀w',Gr w w'→(Instr.lookup 85 (.map (some b)) (.string s) true).run Tryz.prog w'=.ok (.tuple #[v,.bool true]) w')∧∀w',Gr w w'→(Instr.lookup 85 (.map (some b)) (.string s) false).run Tryz.prog w'=.ok v w':=by
 have hl:=h.lt;obtain ⟨m,h1,h2⟩:=h;rcases h2 s.data.toList with ⟨e1,e2⟩|⟨g,k,v,e1,e2,e3⟩
 · refine .inl ⟨e1,fun w' hg=>?_,fun w' hg=>?_⟩
   · have:=(h1.kept (hg.block b hl (by simp))).look s hs
     rw [e2] at this;exact this
   · have:=(h1.kept (hg.block b hl (by simp))).look1 s hs
     rw [e2] at this;exact this
 · refine .inr ⟨g,k,v,e1,e3,fun w' hg=>?_,fun w' hg=>?_⟩
   · have:=(h1.kept (hg.block b hl (by simp))).look s hs
     rw [e2] at this;exact this
   · have:=(h1.kept (hg.block b hl (by simp))).look1 s hs
     rw [e2] at this;exact this
theorem any_at{α:Type}{p:α→Bool}{l:List α}{j:Nat}{x:α}(hx:l[j]? =some x)(hp:p x=true):l.any p=true:=by
 rw [List.any_eq_true];exact ⟨x,List.mem_of_getElem? hx,hp⟩
theorem any_none{α:Type}{p:α→Bool}{l:List α}(h:∀m x,m < l.length→l[m]? =some x→p x=false):l.any p=false:=by
 rw [Bool.eq_false_iff];intro c;rw [List.any_eq_true] at c;obtain ⟨x,hx,hp⟩:=c;obtain ⟨m,hm,rfl⟩:=List.getElem_of_mem hx;rw [h m _ hm (List.getElem?_eq_getElem hm)] at hp;cases hp
def Why(w:World)(b:Nat)(e k:Int):Prop:=w.cell? ⟨b,0,none⟩=some (.int .i64 e)∧w.cell? ⟨b,1,none⟩=some (.int .i64 0)∧w.cell? ⟨b,2,none⟩=some (.int .i64 k)
theorem Why.gr{w w':World}{b:Nat}{e k:Int}(h:Why w b e k)(g:Gr w w'):Why w' b e k:=⟨g.cell h.1 (by simp),g.cell h.2.1 (by simp),g.cell h.2.2 (by simp)⟩
theorem Why.new(w:World)(e k:Int)(t:TypeId):Why (w.alloc (.cells #[.int .i64 e,.int .i64 0,.int .i64 k] t)) w.heap.size e k:=by
 have h:=heap_alloc_new w (.cells #[.int .i64 e,.int .i64 0,.int .i64 k] t);exact ⟨by rw [hcell_ h];rfl,by rw [hcell_ h];rfl,by rw [hcell_ h];rfl⟩
theorem ask_there(W:World)(l:List PUnit)(mb n:Nat)(N:List UInt8→Option (PFunc×Int))(W0:World)(hW0:Gr W0 W)(hM:MapT W0 W mb n N):
 AskC W 38 #[.map (some mb)] #[] 7 l (fun _ u=>u.imports.any fun i=>!(N i.name).isSome) (fun _ V=>Gr W V) (fun V=>Gr W V):=by
 intro k u V vu hu hg hR;show Calls Tryz.prog 38 #[.map (some mb),vu,.agg #[.int .i64 7,.int .i64 0,.int .i64 (k:Int)]] V _
 obtain ⟨a1,a2,a3,a4,a5,c1,c2,c3,c4,c5,rfl,_,_,_,r4,_⟩:=(hR.gr hg).parts;obtain ⟨ao,cap,he,hm4,hc4⟩:=r4;simp only [Value.slice.injEq,true_and] at he;obtain ⟨rfl,rfl⟩:=he;have HC:=hide hc4;have HM:=hide (hM.gr hg);have HG:=hide hg;unfold maxLen at hm4;have HY:=hide (Why.new (V.alloc (.cells #[.slice a1 u.shapes.length c1,.slice a2 u.consts.length c2,.slice a3 u.funcs.length c3,.slice a4 u.imports.length c4,.slice a5 u.exports.length c5] 33)) 7 (k:Int) 58);have HGV:=hide (((Gr.refl V).alloc (.cells #[.slice a1 u.shapes.length c1,.slice a2 u.consts.length c2,.slice a3 u.funcs.length c3,.slice a4 u.imports.length c4,.slice a5 u.exports.length c5] 33)).alloc (.cells #[.int .i64 7,.int .i64 0,.int .i64 (k:Int)] 58));have hbb:(V.alloc (.cells #[.slice a1 u.shapes.length c1,.slice a2 u.consts.length c2,.slice a3 u.funcs.length c3,.slice a4 u.imports.length c4,.slice a5 u.exports.length c5] 33)).heap.size=V.heap.size+1:=by simp
 rw [hbb] at HY;clear hM hg hR hu hc4 hbb hW0;go_enter Tryz.func38,Tryz.ntmps38
 go_wp2_with fail
 generalize (V.alloc (.cells #[.slice a1 u.shapes.length c1,.slice a2 u.consts.length c2,.slice a3 u.funcs.length c3,.slice a4 u.imports.length c4,.slice a5 u.exports.length c5] 33)).alloc (.cells #[.int .i64 7,.int .i64 0,.int .i64 (k:Int)] 58)=W1 at HY HGV ⊢;generalize V.heap.size+1=yb at HY ⊢;go_loopw [13] (fun i wr=>∃j:Nat,i=.int .i64 (j:Int)∧j≤u.imports.length∧(∀m x,m < j→u.imports[m]? =some x→(N x.name).isSome=true)∧Gr W1 wr) (fun i _=>u.imports.length - (intOf i).toNat)
 case atStart=>exact ⟨0,rfl,Nat.zero_le _,fun m x hm=>by omega,Gr.refl _⟩
 case round=>
  obtain ⟨j,rfl,hj,hall,hgr⟩:=hrel;have HA:=hide hall;have HGR:=hide hgr;clear hall hgr;by_cases hlt:j < u.imports.length
  · obtain ⟨x,hx⟩:=getElem?_lt hlt;obtain ⟨b,off,vs,vp,rfl,k0,k1,k2,⟨s,rfl,hs,hsz⟩,rp⟩:=HC.out j x hx;obtain ⟨ap,cp,rfl⟩:=rp.shape;have g1:=HGV.out.trans HGR.out;have k0:=g1.cell k0 (by simp);have k1:=g1.cell k1 (by simp);have k2:=g1.cell k2 (by simp);have hji:(j:Int) < (u.imports.length:Int):=by omega
    have hw:IntKind.i64.wrap ((j:Int)+1)=(j:Int)+1:=Go.IntWalk.i64_in _ (by omega);have HX:=hide hx;have hga:=(Gr.refl wr).alloc (.cells #[.string s,.slice ap x.params.length cp,.int .i64 x.result] 53);rcases (HM.out.gr g1).find s hsz with ⟨e1,e2,_⟩|⟨g,kk,v,e1,e2,e3,_⟩
    · have hlk:=e2 _ hga;have hgb:=hga.alloc (.cells #[.slice none 0 0,.int .i64 0,.slice none 0 0,.slice none 0 0,.int .i64 0] 126);obtain ⟨y0,y1,y2⟩:=(HY.out.gr HGR.out).gr hgb;have HN:Hid ((N x.name).isSome=false):=hide (by rw [←hs,e1];rfl);have HGB:=hide hgb;unfold zTgt at hlk;clear e1 e2 hs hsz rp hx hga hgb g1;go_wp2_with fail
      refine (unless_no _ _ _).mono ?_;rintro z w3 ⟨rfl,hg3⟩;refine ⟨rfl,.inr ⟨?_,rfl,?_⟩⟩
      · exact any_at HX.out (by rw [HN.out];rfl)
      · exact HG.out.trans (HGV.out.trans (HGR.out.trans (HGB.out.trans hg3)))
    · obtain ⟨tp,tcp,tl,tnl,tcl,tc,tnc,tcc,rfl,_⟩:=e2;have hlk:=e3 _ hga;have hgb:=hga.alloc (.cells #[.slice tp g.params.length tcp,.int .i64 g.result,.slice tl tnl tcl,.slice tc tnc tcc,.int .i64 kk] 126);obtain ⟨y0,y1,y2⟩:=(HY.out.gr HGR.out).gr hgb;have HN:Hid ((N x.name).isSome=true):=hide (by rw [←hs,e1];rfl);have HGB:=hide hgb;clear e1 e3 hs hsz rp hx hga hgb g1;go_wp2_with fail
      refine (unless_yes _ _ _).mono ?_;rintro z w3 ⟨rfl,hg3⟩;have HG3:=hide (HGR.out.trans (HGB.out.trans hg3));clear hg3 hlk y0 y1 y2 k0 k1 k2 HGB;go_wp2_with fail
      refine ⟨⟨j+1,by simp,hlt,?_,HG3.out⟩,by simp [intOf];omega⟩;intro m z hm hz;by_cases e:m=j
      · subst e;rw [HX.out] at hz;cases hz;exact HN.out
      · exact HA.out m z (by omega) hz
  · have hjj:j=u.imports.length:=by omega
    subst hjj;clear hlt hj;go_wp2_with fail
    go_end0
    refine .inl ⟨?_,rfl,HG.out.trans (HGV.out.trans HGR.out)⟩;exact any_none (fun m x hm hx=>by rw [HA.out m x hm hx];rfl)
open Go.RowKit
attribute [local go_sem ↓] Go.wp_at_zero Go.wp_at_succ
theorem Tryz.tgtF(a b c d e:Value)(w:World):(Instr.field 126 (.agg #[a,b,c,d,e]) 0).run Tryz.prog w=.ok (.agg #[a,b,c,d]) w:=by kernel_rfl
theorem Tryz.tgtN(a b c d e:Value)(w:World):(Instr.field 126 (.agg #[a,b,c,d,e]) 1).run Tryz.prog w=.ok e w:=by kernel_rfl
theorem ask_alike(W:World)(l:List PUnit)(mb n:Nat)(N:List UInt8→Option (PFunc×Int))(W0:World)(hW0:Gr W0 W)(hM:MapT W0 W mb n N)(hN:∀u∈l,∀i∈u.imports,(N i.name).isSome=true):
 AskC W 39 #[.map (some mb)] #[] 8 l (fun _ u=>u.imports.any fun i=>!alikeI N i) (fun _ V=>Gr W V) (fun V=>Gr W V):=by
 intro k u V vu hu hg hR;show Calls Tryz.prog 39 #[.map (some mb),vu,.agg #[.int .i64 8,.int .i64 0,.int .i64 (k:Int)]] V _
 obtain ⟨a1,a2,a3,a4,a5,c1,c2,c3,c4,c5,rfl,_,_,_,r4,_⟩:=(hR.gr hg).parts;obtain ⟨ao,cap,he,hm4,hc4⟩:=r4;simp only [Value.slice.injEq,true_and] at he;obtain ⟨rfl,rfl⟩:=he;have HC:=hide hc4;have HM:=hide (hM.gr hg);have HG:=hide hg;have HW0:=hide (hW0.trans hg);have HNN:=hide (hN u (List.mem_of_getElem? hu));unfold maxLen at hm4;have HY:=hide (Why.new (V.alloc (.cells #[.slice a1 u.shapes.length c1,.slice a2 u.consts.length c2,.slice a3 u.funcs.length c3,.slice a4 u.imports.length c4,.slice a5 u.exports.length c5] 33)) 8 (k:Int) 58);have HGV:=hide (((Gr.refl V).alloc (.cells #[.slice a1 u.shapes.length c1,.slice a2 u.consts.length c2,.slice a3 u.funcs.length c3,.slice a4 u.imports.length c4,.slice a5 u.exports.length c5] 33)).alloc (.cells #[.int .i64 8,.int .i64 0,.int .i64 (k:Int)] 58));have hbb:(V.alloc (.cells #[.slice a1 u.shapes.length c1,.slice a2 u.consts.length c2,.slice a3 u.funcs.length c3,.slice a4 u.imports.length c4,.slice a5 u.exports.length c5] 33)).heap.size=V.heap.size+1:=by simp
 rw [hbb] at HY;clear hM hg hR hu hc4 hbb hN hW0;go_enter Tryz.func39,Tryz.ntmps39
 go_wp2_with fail
 generalize (V.alloc (.cells #[.slice a1 u.shapes.length c1,.slice a2 u.consts.length c2,.slice a3 u.funcs.length c3,.slice a4 u.imports.length c4,.slice a5 u.exports.length c5] 33)).alloc (.cells #[.int .i64 8,.int .i64 0,.int .i64 (k:Int)] 58)=W1 at HY HGV ⊢;generalize V.heap.size+1=yb at HY ⊢;go_loopw [12] (fun i wr=>∃j:Nat,i=.int .i64 (j:Int)∧j≤u.imports.length∧(∀m x,m < j→u.imports[m]? =some x→alikeI N x=true)∧Gr W1 wr) (fun i _=>u.imports.length - (intOf i).toNat)
 case atStart=>exact ⟨0,rfl,Nat.zero_le _,fun m x hm=>by omega,Gr.refl _⟩
 case round=>
  obtain ⟨j,rfl,hj,hall,hgr⟩:=hrel;have HA:=hide hall;have HGR:=hide hgr;clear hall hgr;by_cases hlt:j < u.imports.length
  · obtain ⟨x,hx⟩:=getElem?_lt hlt;obtain ⟨b,off,vs,vp,rfl,k0,k1,k2,⟨s,rfl,hs,hsz⟩,rp⟩:=HC.out j x hx;obtain ⟨ap,cp,rfl⟩:=rp.shape;have g1:=HGV.out.trans HGR.out;have k0:=g1.cell k0 (by simp);have k1:=g1.cell k1 (by simp);have k2:=g1.cell k2 (by simp);have hji:(j:Int) < (u.imports.length:Int):=by omega
    have hw:IntKind.i64.wrap ((j:Int)+1)=(j:Int)+1:=Go.IntWalk.i64_in _ (by omega);have HX:=hide hx;have hga:=(Gr.refl wr).alloc (.cells #[.string s,.slice ap x.params.length cp,.int .i64 x.result] 53);have hba:=heap_alloc_new wr (.cells #[.string s,.slice ap x.params.length cp,.int .i64 x.result] 53);rcases (HM.out.gr g1).find s hsz with ⟨e1,_,_⟩|⟨g,kk,v,e1,e2,_,e3⟩
    · have:=HNN.out x (List.mem_of_getElem? hx)
      rw [←hs,e1] at this;cases this
    · obtain ⟨tp,tcp,tl,tnl,tcl,tc,tnc,tcc,rfl,rtp⟩:=e2;have hlk:=e3 _ hga;have hgb:=hga.alloc (.cells #[.slice tp g.params.length tcp,.int .i64 g.result,.slice tl tnl tcl,.slice tc tnc tcc] 48);have hbb:=heap_alloc_new (wr.alloc (.cells #[.string s,.slice ap x.params.length cp,.int .i64 x.result] 53)) (.cells #[.slice tp g.params.length tcp,.int .i64 g.result,.slice tl tnl tcl,.slice tc tnc tcc] 48);have hsb:(wr.alloc (.cells #[.string s,.slice ap x.params.length cp,.int .i64 x.result] 53)).heap.size=wr.heap.size+1:=by simp
      rw [hsb] at hbb;have hg2:Gr (wr.alloc (.cells #[.string s,.slice ap x.params.length cp,.int .i64 x.result] 53)) ((wr.alloc (.cells #[.string s,.slice ap x.params.length cp,.int .i64 x.result] 53)).alloc (.cells #[.slice tp g.params.length tcp,.int .i64 g.result,.slice tl tnl tcl,.slice tc tnc tcc] 48)):=(Gr.refl _).alloc _;have HY2:=hide ((HY.out.gr HGR.out).gr hgb);have HN:Hid (alikeI N x=decide (x.params=g.params∧x.result=g.result)):=hide (by unfold alikeI;rw [←hs,e1]);have HGB:=hide hgb;have HRP:=hide ((rp.gr g1).gr hgb);have HRT:=hide (((rtp.gr HW0.out).gr g1).gr hgb);have KS:Hid (∀w',Gr ((wr.alloc (.cells #[.string s,.slice ap x.params.length cp,.int .i64 x.result] 53)).alloc (.cells #[.slice tp g.params.length tcp,.int .i64 g.result,.slice tl tnl tcl,.slice tc tnc tcc] 48)) w'→w'.cell? ⟨yb,0,none⟩=some (.int .i64 8)∧w'.cell? ⟨yb,1,none⟩=some (.int .i64 0)∧w'.cell? ⟨yb,2,none⟩=some (.int .i64 (k:Int))∧w'.cell? ⟨wr.heap.size,1,none⟩=some (.slice ap x.params.length cp)∧w'.cell? ⟨wr.heap.size,2,none⟩=some (.int .i64 x.result)∧w'.cell? ⟨wr.heap.size+1,0,none⟩=some (.slice tp g.params.length tcp)∧w'.cell? ⟨wr.heap.size+1,1,none⟩=some (.int .i64 g.result)):=hide (fun w' g=>by
       have e0:w'.heap[wr.heap.size]? =_:=((hg2.trans g).block wr.heap.size (by simp) (by simp)).trans hba;have e1:w'.heap[wr.heap.size+1]? =_:=(g.block (wr.heap.size+1) (by simp) (by simp)).trans hbb;obtain ⟨y0,y1,y2⟩:=HY2.out.gr g;exact ⟨y0,y1,y2,by rw [hcell_ e0];rfl,by rw [hcell_ e0];rfl,by rw [hcell_ e1];rfl,by rw [hcell_ e1];rfl⟩)
      clear e1 e3 hs hsz rp hx hga hgb g1 rtp hba hbb hsb hg2;have hft:=fun (a b c d e:Value) (w:World)=>Tryz.tgtF a b c d e w
      go_upto_region 5 with fail
      clear hft;generalize (wr.alloc (.cells #[.string s,.slice ap x.params.length cp,.int .i64 x.result] 53)).alloc (.cells #[.slice tp g.params.length tcp,.int .i64 g.result,.slice tl tnl tcl,.slice tc tnc tcc] 48)=W2 at KS HGB HRP HRT ⊢;clear hlk k0 k1 k2 HY2;refine wp_region_held_drew (S:=(fun w'=>w'.cell? ⟨yb,0,none⟩=some (.int .i64 8)∧w'.cell? ⟨yb,1,none⟩=some (.int .i64 0)∧w'.cell? ⟨yb,2,none⟩=some (.int .i64 (k:Int))∧w'.cell? ⟨wr.heap.size,1,none⟩=some (.slice ap x.params.length cp)∧w'.cell? ⟨wr.heap.size,2,none⟩=some (.int .i64 x.result)∧w'.cell? ⟨wr.heap.size+1,0,none⟩=some (.slice tp g.params.length tcp)∧w'.cell? ⟨wr.heap.size+1,1,none⟩=some (.int .i64 g.result))) (by kernel_rfl) (KS.out _ (Gr.drew (Gr.refl _))) (fun hH=>?_);refine tL 0 _ rfl (fun w hS=>by go_simp<;>rfl) hH ?_
      simp only [Act.put,sA,s0,s1];refine tL 1 _ rfl (fun w hS=>by go_simp<;>rfl) hH ?_
      simp only [Act.put,sA,s0,s1];refine tL 2 _ rfl (fun w hS=>by go_simp<;>rfl) hH ?_
      simp only [Act.put,sA,s0,s1];refine tL 3 _ rfl (fun w hS=>by go_simp<;>rfl) hH ?_
      simp only [Act.put,sA,s0,s1];refine tL 4 _ rfl (fun w hS=>by go_simp<;>rfl) hH ?_
      simp only [Act.put,sA,s0,s1];refine aloneL (i:=5) rfl (by kernel_rfl) (fun K hK=>?_);refine step_calls_w rfl 36 _ _ rfl #[.slice ap x.params.length cp,.slice tp g.params.length tcp] (by simp [Act.eval]) (Tryz.callEqI _ _) ((equal_any _ _ x.params g.params _ (HRP.out.gr (Gr.drew (Gr.refl _))) (HRT.out.gr (Gr.drew (Gr.refl _)))).mono ?_);rintro z w2 ⟨rfl,hg2⟩;have HG2:=hide ((Gr.drew (Gr.refl W2)).trans hg2);clear hg2;refine .inl ⟨_,rfl,?_⟩;refine hK.out _ _ (KS.out _ HG2.out) (fun hH=>?_);clear hK;try simp only [Act.put,sA,s0,s1]
      by_cases h1:x.params=g.params
      · have ed:decide (x.params=g.params)=true:=by simpa using h1
        rw [ed];clear ed;refine tL 6 _ rfl (fun w hS=>by go_simp<;>rfl) hH ?_
        simp only [Act.put,sA,s0,s1];refine tL 7 _ rfl (fun w hS=>by go_simp<;>rfl) hH ?_
        simp only [Act.put,sA,s0,s1];refine tL 8 _ rfl (fun w hS=>by go_simp<;>rfl) hH ?_
        simp only [Act.put,sA,s0,s1];refine tL 9 _ rfl (fun w hS=>by go_simp<;>rfl) hH ?_
        simp only [Act.put,sA,s0,s1];refine tL 10 _ rfl (fun w hS=>by go_simp<;>rfl) hH ?_
        simp only [Act.put,sA,s0,s1];by_cases h2:x.result=g.result
        · have ed:(x.result == g.result)=true:=by simpa using h2
          refine tL 11 _ rfl (fun w hS=>by go_simp<;>rfl) hH ?_
          simp only [Act.put,sA,s0,s1];refine tL 12 _ rfl (fun w hS=>by go_simp<;>rfl) hH ?_
          simp only [Act.put,sA,s0,s1];refine aloneL (i:=13) rfl (by kernel_rfl) (fun K hK=>?_);refine step_calls_w rfl 32 _ _ rfl #[.agg #[.int .i64 8,.int .i64 0,.int .i64 (k:Int)],.bool true] (by simp [Act.eval,ed]) (Tryz.callUnl _ _) ((unless_yes _ _ _).mono ?_);rintro z w3 ⟨rfl,hg3⟩;have HG4:=hide (HG2.out.trans hg3);clear hg3;refine .inl ⟨_,rfl,?_⟩;refine hK.out _ _ (KS.out _ HG4.out) (fun hH=>?_);clear hK;try simp only [Act.put,sA,s0,s1]
          refine wpAnyH_done (by kernel_rfl) ?_ _;have HG3:=hide (HGR.out.trans (HGB.out.trans HG4.out));clear KS HGB HG4 HG2 HRP HRT hH;go_wp2_with fail
          refine ⟨⟨j+1,by simp,hlt,?_,HG3.out⟩,by simp [intOf];omega⟩;intro m z hm hz;by_cases e:m=j
          · subst e;rw [HX.out] at hz;cases hz;rw [HN.out];simp [h1,h2]
          · exact HA.out m z (by omega) hz
        · have ed:(x.result == g.result)=false:=by simpa using h2
          refine tL 11 _ rfl (fun w hS=>by go_simp<;>rfl) hH ?_
          simp only [Act.put,sA,s0,s1];refine tL 12 _ rfl (fun w hS=>by go_simp<;>rfl) hH ?_
          simp only [Act.put,sA,s0,s1];refine aloneL (i:=13) rfl (by kernel_rfl) (fun K hK=>?_);refine step_calls_w rfl 32 _ _ rfl #[.agg #[.int .i64 8,.int .i64 0,.int .i64 (k:Int)],.bool false] (by simp [Act.eval,ed]) (Tryz.callUnl _ _) ((unless_no _ _ _).mono ?_);rintro z w3 ⟨rfl,hg3⟩;refine .inr ⟨_,rfl,?_⟩;exact ⟨rfl,.inr ⟨any_at HX.out (by rw [HN.out];simp [h1,h2]),rfl,HG.out.trans (HGV.out.trans (HGR.out.trans (HGB.out.trans (HG2.out.trans hg3))))⟩⟩
      · have ed:decide (x.params=g.params)=false:=by simpa using h1
        rw [ed];clear ed;refine tL 6 _ rfl (fun w hS=>by go_simp<;>rfl) hH ?_
        simp only [Act.put,sA,s0,s1];refine skipL (i:=7) rfl (by kernel_rfl) (by kernel_rfl) (by kernel_rfl) (fun _ _ _ h=>h) (by rfl) hH ?_;simp only [Act.put,sA,s0,s1];refine skipL (i:=8) rfl (by kernel_rfl) (by kernel_rfl) (by kernel_rfl) (fun _ _ _ h=>h) (by rfl) hH ?_;simp only [Act.put,sA,s0,s1];refine skipL (i:=9) rfl (by kernel_rfl) (by kernel_rfl) (by kernel_rfl) (fun _ _ _ h=>h) (by rfl) hH ?_;simp only [Act.put,sA,s0,s1];refine skipL (i:=10) rfl (by kernel_rfl) (by kernel_rfl) (by kernel_rfl) (fun _ _ _ h=>h) (by rfl) hH ?_;simp only [Act.put,sA,s0,s1];refine skipL (i:=11) rfl (by kernel_rfl) (by kernel_rfl) (by kernel_rfl) (fun _ _ _ h=>h) (by rfl) hH ?_;simp only [Act.put,sA,s0,s1];refine tL 12 _ rfl (fun w hS=>by go_simp<;>rfl) hH ?_
        simp only [Act.put,sA,s0,s1];refine aloneL (i:=13) rfl (by kernel_rfl) (fun K hK=>?_);refine step_calls_w rfl 32 _ _ rfl #[.agg #[.int .i64 8,.int .i64 0,.int .i64 (k:Int)],.bool false] (by simp [Act.eval]) (Tryz.callUnl _ _) ((unless_no _ _ _).mono ?_);rintro z w3 ⟨rfl,hg3⟩;refine .inr ⟨_,rfl,?_⟩;exact ⟨rfl,.inr ⟨any_at HX.out (by rw [HN.out];simp [h1]),rfl,HG.out.trans (HGV.out.trans (HGR.out.trans (HGB.out.trans (HG2.out.trans hg3))))⟩⟩
  · have hjj:j=u.imports.length:=by omega
    subst hjj;clear hlt hj;go_wp2_with fail
    go_end0
    refine .inl ⟨?_,rfl,HG.out.trans (HGV.out.trans HGR.out)⟩;exact any_none (fun m x hm hx=>by rw [HA.out m x hm hx];rfl)
end Go.Proofs.YtkgncijcnlfhiaaGreat
