import Derived.Test.YtkgncijcnlfhiaaGreatY2
import Derived.Maps.OwnSet
import Derived.Test.YtkgncijcnlfhiaaGreatW1
import Derived.Laws.OwnMore
import Derived.Test.YtkgncijcnlfhiaaGreatW4c
import Derived.Lib.AppendZerosOnto
import Derived.Maps.AppendAt
import Derived.Test.YtkgncijcnlfhiaaGreatRg2
namespace Go.Proofs.YtkgncijcnlfhiaaGreat
set_option maxRecDepth 100000
set_option maxHeartbeats 2000000
set_option linter.unusedVariables false
set_option linter.unusedSimpArgs false
def twiceU(seen:List (List UInt8)):List PExp→Option (List (List UInt8))
 | []=>some seen
 | e :: l=>if e.name∈seen then none else twiceU (e.name :: seen) l
def twiceP(seen:List (List UInt8))(k:Nat):List PUnit→Option Nat
 | []=>none
 | u :: l=>match twiceU seen u.exports with
  | none=>some k
  | some s=>twiceP s (k+1) l
def aheadC(l:List PUnit)(k:Nat):Nat:=((l.take k).map fun u=>u.consts.length).sum
def aheadF(l:List PUnit)(k:Nat):Nat:=((l.take k).map fun u=>u.funcs.length).sum
theorem aheadC_succ{l:List PUnit}{k:Nat}{u:PUnit}(h:l[k]? =some u):aheadC l (k+1)=aheadC l k+u.consts.length:=by
 obtain ⟨hk,rfl⟩:=List.getElem?_eq_some_iff.1 h;unfold aheadC;rw [List.take_succ_eq_append_getElem hk,List.map_append,List.sum_append_nat];simp only [List.map_cons,List.map_nil,List.sum_cons,List.sum_nil,Nat.add_zero]
theorem aheadF_succ{l:List PUnit}{k:Nat}{u:PUnit}(h:l[k]? =some u):aheadF l (k+1)=aheadF l k+u.funcs.length:=by
 obtain ⟨hk,rfl⟩:=List.getElem?_eq_some_iff.1 h;unfold aheadF;rw [List.take_succ_eq_append_getElem hk,List.map_append,List.sum_append_nat];simp only [List.map_cons,List.map_nil,List.sum_cons,List.sum_nil,Nat.add_zero]
def movedP(N:List UInt8→Int)(u:PUnit)(c f:Nat)(i:PIns):PIns:=
 if i.op=0 then { i with a:=if i.a < u.consts.length then c+i.a else 65535 }
 else if i.op=13 then { i with a:=if i.a < u.funcs.length then f+i.a else match u.imports[(i.a - u.funcs.length).toNat]? with
  | some g=>N g.name
  | none=>65535 }
 else i
def movedF(N:List UInt8→Int)(u:PUnit)(c f:Nat)(g:PFunc):PFunc:={ g with code:=g.code.map (movedP N u c f) }
def movedE(f:Nat)(e:PExp):PExp:={ e with func:=f+e.func }
def joinF(N:List UInt8→Int):Nat→Nat→List PUnit→List Int×List PFunc×List PExp
 | _,_,[]=>([],[],[])
 | c,f,u :: l=>
  let r:=joinF N (c+u.consts.length) (f+u.funcs.length) l
  (u.consts++r.1,u.funcs.map (movedF N u c f)++r.2.1,u.exports.map (movedE f)++r.2.2)
def tgtU(u:PUnit)(f:Nat):List PExp→(List UInt8→Option (PFunc×Int))→List UInt8→Option (PFunc×Int)
 | [],N=>N
 | e :: l,N=>tgtU u f l (fun n=>if n=e.name then (u.funcs[e.func.toNat]?).map fun g=>(g,(f:Int)+e.func) else N n)
def tgtL:Nat→List PUnit→(List UInt8→Option (PFunc×Int))→List UInt8→Option (PFunc×Int)
 | _,[],N=>N
 | f,u :: l,N=>tgtL (f+u.funcs.length) l (tgtU u f u.exports N)
def firstU(p:PUnit→Bool):Nat→List PUnit→Option Nat
 | _,[]=>none
 | k,u :: l=>if p u=true then some k else firstU p (k+1) l
def tgtN(l:List PUnit)(n:List UInt8):Int:=match tgtL 0 l (fun _=>none) n with
 | some (_,k)=>k
 | none=>0
def alikeI(N:List UInt8→Option (PFunc×Int))(i:PImp):Bool:=match N i.name with
 | some (g,_)=>decide (i.params=g.params∧i.result=g.result)
 | none=>false
def linkP:List PUnit→PUnit ⊕ (Int×Nat)
 | []=>.inr (4,0)
 | h :: t=>
  let l:=h :: t
  let N:=tgtL 0 l (fun _=>none)
  if 6 < l.length then .inr (4,0)
  else match firstU (fun u=>!unitOk u) 0 l with
  | some k=>.inr (1,k)
  | none=>match firstU (fun u=>!decide (u.shapes=h.shapes)) 0 l with
  | some k=>.inr (5,k)
  | none=>match twiceP [] 0 l with
  | some k=>.inr (6,k)
  | none=>match firstU (fun u=>u.imports.any fun i=>!(N i.name).isSome) 0 l with
  | some k=>.inr (7,k)
  | none=>match firstU (fun u=>u.imports.any fun i=>!alikeI N i) 0 l with
  | some k=>.inr (8,k)
  | none=>
   let r:=joinF (tgtN l) 0 0 l
   if 30 < r.2.1.length∨50 < r.1.length∨20 < r.2.2.length then .inr (9,0) else .inl ⟨h.shapes,r.1,r.2.1,[],r.2.2⟩
theorem firstU_none{p:PUnit→Bool}:∀(l:List PUnit) (k:Nat),firstU p k l=none↔∀u∈l,p u=false
 | [],k=>by simp [firstU]
 | u :: l,k=>by
  rw [firstU];cases h:p u with
  | true=>simp [h]
  | false=>simp [h,firstU_none l (k+1)]
open Go.RowKit Go.Maps
def valR(v:Value):Option (DataW Value×List MemPlace):=some (.held v,[])
theorem Tryz.uMap:Tryz.prog.underlying 71=some (.map 3 22):=by kernel_rfl
theorem Tryz.zMap(w:World):(zeroValue 22).run Tryz.prog w=.ok (.slice none 0 0) w:=by kernel_rfl
theorem Tryz.kInt:Tryz.prog.underlying 3=some (.int .i64):=by kernel_rfl
theorem Tryz.keyed:Keyed Tryz.prog 3:=int_keyed Tryz.kInt
def keyL(k:Nat):Lit:=.int .i64 (k:Int)
theorem key_is(k:Nat)(hk:k < 1000000):keyOf Tryz.prog 3 (.int .i64 (k:Int))=some (keyL k):=keyOf_int_mk Tryz.kInt (WalkArith.wf_i64 (by omega))
theorem key_inj{k j:Nat}(h:keyL k=keyL j):k=j:=by
 unfold keyL at h;injection h with _ h2
 omega
def nilV:Value:=.slice none 0 0
structure MapIs(w:World)(b n:Nat)(m:Nat→Option Value):Prop where
 is:∃D:DataW Value,w.ownsMap Tryz.prog 3 valR b n D∧∀k,k < 1000000→Maps.has D (keyL k)=(m k).isSome∧D.atKey (keyL k) (.held nilV)=.held ((m k).getD nilV)
theorem MapIs.made(w:World):MapIs (w.alloc (.map #[] 0)) w.heap.size 0 (fun _=>none):=
 ⟨_,World.ownsMap_made w _ _ _,fun k _=>⟨rfl,rfl⟩⟩
theorem MapIs.lt{w:World}{b n:Nat}{m:Nat→Option Value}(h:MapIs w b n m):b < w.heap.size:=by
 obtain ⟨D,h1,_⟩:=h.is;exact h1.lt
theorem MapIs.kept{w w':World}{b n:Nat}{m:Nat→Option Value}(h:MapIs w b n m)(g:w'.heap[b]? =w.heap[b]?):MapIs w' b n m:=by
 obtain ⟨D,⟨es,clock,hb,r⟩,h2⟩:=h.is;exact ⟨D,⟨es,clock,g.trans hb,r⟩,h2⟩
theorem MapIs.look{w:World}{b n:Nat}{m:Nat→Option Value}(h:MapIs w b n m)(k:Nat)(hk:k < 1000000):(Instr.lookup 71 (.map (some b)) (.int .i64 (k:Int)) true).run Tryz.prog w=.ok (.tuple #[(m k).getD nilV,.bool (m k).isSome]) w:=by
 obtain ⟨D,h1,h2⟩:=h.is;obtain ⟨v,ps,hrun,hv⟩:=h1.look_ok Tryz.keyed Tryz.uMap (Tryz.zMap w) (zd:=.held nilV) (zp:= []) rfl (key_is k hk);rw [hrun,(h2 k hk).1];have:=congrArg Prod.fst (Option.some.inj hv)
 simp only [(h2 k hk).2,DataW.held.injEq] at this;rw [this]
theorem MapIs.look1{w:World}{b n:Nat}{m:Nat→Option Value}(h:MapIs w b n m)(k:Nat)(hk:k < 1000000):(Instr.lookup 71 (.map (some b)) (.int .i64 (k:Int)) false).run Tryz.prog w=.ok ((m k).getD nilV) w:=by
 obtain ⟨D,h1,h2⟩:=h.is;obtain ⟨v,ps,hrun,hv⟩:=h1.lookup Tryz.keyed Tryz.uMap (Tryz.zMap w) (zd:=.held nilV) (zp:= []) rfl (key_is k hk);rw [hrun];have:=congrArg Prod.fst (Option.some.inj hv)
 simp only [(h2 k hk).2,DataW.held.injEq] at this;rw [this]
theorem MapIs.store{w:World}{b n:Nat}{m:Nat→Option Value}(h:MapIs w b n m)(k:Nat)(hk:k < 1000000)(hn:n < 1000000)(v:Value):
 ∃w',(Instr.mapUpdate 71 (.map (some b)) (.int .i64 (k:Int)) v).run Tryz.prog w=.ok () w'∧MapIs w' b (n+1) (fun j=>if j=k then some v else m j)∧w.grownBy w' (some b):=by
 obtain ⟨D,h1,h2⟩:=h.is;obtain ⟨w',hrun,hown,hturn⟩:=h1.store Tryz.keyed Tryz.uMap (by unfold maxLen;omega) (key_is k hk) (val:=v) (d:=.held v) (ps:= []) rfl;refine ⟨w',hrun,⟨_,hown,fun j hj=>?_⟩,hturn.grown⟩;by_cases e:j=k
 · subst e;rw [has_put_same h1.isMap (by trivial),atKey_put_same h1.isMap (by trivial)];simp
 · have hne:keyL j≠keyL k:=fun h=>e (key_inj h)
   rw [has_put_other hne,atKey_put_other hne,if_neg e];exact h2 j hj
open Go.RowKit
def fnL(l:List Int)(k:Nat):Int:=l.getD k 0
def swapL(l:List Int)(i j:Nat):List Int:=(l.set i (fnL l j)).set j (fnL l i)
theorem swapL_len(l:List Int)(i j:Nat):(swapL l i j).length=l.length:=by simp [swapL]
theorem fnL_swap{l:List Int}{i j:Nat}(hi:i < l.length)(hj:j < l.length):fnL (swapL l i j)=swp (fnL l) i j:=by
 funext k
 unfold fnL swapL swp;simp only [List.getD_eq_getElem?_getD,List.getElem?_set];by_cases h1:k=j
 · subst h1;by_cases h2:k=i
   · subst h2;simp [hi,fnL]
   · have h2':¬i=k:=fun e=>h2 e.symm
     simp [h2,h2',hj,fnL]
 · have h1':¬j=k:=fun e=>h1 e.symm
   by_cases h2:k=i
   · subst h2;simp [h1,h1',hi,fnL]
   · have h2':¬i=k:=fun e=>h2 e.symm
     simp [h1,h2,h1',h2',fnL]
theorem fnL_snoc(l:List Int)(x:Int):fnL (l++ [x])=fun k=>if k=l.length then x else fnL l k:=by
 funext k
 unfold fnL;simp only [List.getD_eq_getElem?_getD];by_cases h:k < l.length
 · rw [List.getElem?_append_left h,if_neg (by omega)]
 · rw [List.getElem?_append_right (by omega)];by_cases h2:k=l.length
   · simp [h2]
   · rw [if_neg h2,List.getElem?_eq_none (by simp;omega),List.getElem?_eq_none (by omega)]
theorem fnL_take{l:List Int}{n k:Nat}(h:k < n):fnL (l.take n) k=fnL l k:=by
 unfold fnL;simp only [List.getD_eq_getElem?_getD];rw [List.getElem?_take,if_pos h]
def ivL(l:List Int):List Value:=l.map fun x=>Value.int .i64 x
theorem ivL_len(l:List Int):(ivL l).length=l.length:=by simp [ivL]
theorem ivL_at{l:List Int}{j:Nat}(h:j < l.length):(ivL l)[j]? =some (.int .i64 (fnL l j)):=by
 unfold ivL fnL;rw [List.getElem?_map,List.getD_eq_getElem?_getD,List.getElem?_eq_getElem h];rfl
theorem ivL_set(l:List Int)(j:Nat)(x:Int):(ivL l).set j (.int .i64 x)=ivL (l.set j x):=by
 unfold ivL;rw [List.map_set]
def HpRow(w:World)(B:Nat)(v:Value)(l:List Int):Prop:=w.ownsRow B 3 1 v l.length (ivL l)
theorem HpRow.form{w:World}{B:Nat}{v:Value}{l:List Int}(h:HpRow w B v l):(∃ao cap,v=.slice ao l.length cap)∧l.length≤maxLen:=by
 obtain ⟨h1,h2⟩:=h;rcases h2 with ⟨rfl,h3⟩|⟨g,cap,cur,rfl,_,_,h4,h5,_⟩
 · exact ⟨⟨none,0,by rw [h3]⟩,by rw [h3];decide⟩
 · exact ⟨⟨_,_,rfl⟩,by omega⟩
theorem HpRow.at{w:World}{B:Nat}{v:Value}{l:List Int}(h:HpRow w B v l)(hl:0 < l.length):∃g cap,v=.slice (some ⟨g,0,none⟩) l.length cap∧B≤g∧g < w.heap.size∧(∀j,j < l.length→w.cell? ⟨g,j,none⟩=some (.int .i64 (fnL l j)))∧∀j,w.frozen? ⟨g,j,none⟩=false:=by
 have h0:=h;obtain ⟨h1,h2⟩:=h;rcases h2 with ⟨rfl,h3⟩|⟨g,cap,cur,rfl,hb,hh,h4,h5,_⟩
 · omega
 · refine ⟨g,cap,rfl,hb,(Array.getElem?_eq_some_iff.1 hh).1,fun j hj=>?_,fun j=>h0.frozenAt j⟩;rw [h0.cellAt j (by omega),ivL_at hj]
theorem HpRow.set{w:World}{B g cap:Nat}{l:List Int}(h:HpRow w B (.slice (some ⟨g,0,none⟩) l.length cap) l)(j:Nat)(x:Int):HpRow (w.setCell ⟨g,j,none⟩ (.int .i64 x)) B (.slice (some ⟨g,0,none⟩) l.length cap) (l.set j x):=by
 have:=(World.ownsRow.stored h j (.int .i64 x)).1
 rw [ivL_set] at this;unfold HpRow;rw [List.length_set];exact this
theorem HpRow.keep{w w':World}{B:Nat}{v:Value}{l:List Int}(h:HpRow w B v l)(g:∀b,v.ownBlock=some b→w'.heap[b]? =w.heap[b]?):HpRow w' B v l:=by
 obtain ⟨h1,h2⟩:=h;refine ⟨h1,?_⟩;rcases h2 with ⟨rfl,h3⟩|⟨k,cap,cur,rfl,hb,hh,r⟩
 · exact .inl ⟨rfl,h3⟩
 · exact .inr ⟨k,cap,cur,rfl,hb,(g k rfl).trans hh,r⟩
theorem HpRow.cut{w:World}{B g cap n:Nat}{l:List Int}(h:HpRow w B (.slice (some ⟨g,0,none⟩) l.length cap) l)(hn:n≤l.length):HpRow w B (.slice (some ⟨g,0,none⟩) n cap) (l.take n):=by
 obtain ⟨h1,h2⟩:=h;have hl:(l.take n).length=n:=by rw [List.length_take];omega
 unfold HpRow;rw [hl];rcases h2 with ⟨h3,_⟩|⟨k,c,cur,he,hb,hh,h4,h5,h6,h7⟩
 · simp at h3
 · simp only [Value.slice.injEq,Option.some.injEq,Addr.mk.injEq,and_true,true_and] at he;obtain ⟨rfl,rfl⟩:=he;refine ⟨by rw [ivL_len,hl];omega,.inr ⟨g,cap,cur,rfl,hb,hh,by omega,h5,h6,?_⟩⟩;have:ivL (l.take n)=(ivL l).take n:=by unfold ivL;rw [List.map_take]
   rw [this,←h7,List.take_take];congr 1;omega
open Go.RowKit
attribute [local go_sem ↓] Go.wp_at_zero Go.wp_at_succ
def thr3(e n a:Int):List PanicEntry:= [{ v:=.iface 58 (.agg #[.int .i64 e,.int .i64 n,.int .i64 a]),recovered:=false }]
theorem unless3_yes(e n a:Int)(w:World):
 Calls Tryz.prog 32 #[.agg #[.int .i64 e,.int .i64 n,.int .i64 a],.bool true] w fun x w'=>x=.returned (.tuple #[])∧Gr w w':=by
 have hnot:∀(x:Bool) (w:World),(Op.unary .not (.bool x)).run Tryz.prog w=.ok (.bool (!x)) w:=fun _ _=>rfl
 go_enter Tryz.func32,Tryz.ntmps32
 go_wp2
 go_end0
 exact ⟨rfl,(Gr.refl _).alloc _⟩
theorem unless3_no(e n a:Int)(w:World):
 Calls Tryz.prog 32 #[.agg #[.int .i64 e,.int .i64 n,.int .i64 a],.bool false] w fun x w'=>x=.panicked (thr3 e n a)∧Gr w w':=by
 have hnot:∀(x:Bool) (w:World),(Op.unary .not (.bool x)).run Tryz.prog w=.ok (.bool (!x)) w:=fun _ _=>rfl
 go_enter Tryz.func32,Tryz.ntmps32
 go_wp2
 exact ⟨rfl,rfl,(Gr.refl _).alloc _⟩
def endsO(o:Option Int)(n a:Int):Ending:=match o with
 | none=>.panicked (thr3 10 n a)
 | some k=>.returned (.int .i64 k)
theorem top_any(s:List Int)(v:Value)(n a:Int)(w:World)(hR:RInts w v s):
 Calls Tryz.prog 118 #[v,.agg #[.int .i64 10,.int .i64 n,.int .i64 a]] w fun x w'=>x=endsO s.getLast? n a∧Gr w w':=by
 obtain ⟨ao,cap,rfl,hm,hc⟩:=hR;unfold maxLen at hm;have HC:=hide hc;clear hc;by_cases hl:0 < s.length
 · obtain ⟨b,off,rfl,hcell⟩:=HC.out (s.length - 1) (by omega);have HS:Hid (s.getLast? =some (s.getD (s.length - 1) 0)):=hide (by
    rw [List.getLast?_eq_getElem?,List.getD_eq_getElem?_getD,List.getElem?_eq_getElem (show s.length - 1 < s.length by omega)];rfl)
   have hw1:IntKind.i64.wrap ((s.length:Int) - 1)=((s.length - 1:Nat):Int):=by rw [Go.IntWalk.i64_in _ (by omega)];omega
   generalize s.getD (s.length - 1) 0=y at hcell HS;have hd:(0:Int) < (s.length:Int):=by omega
   have hb1:((s.length - 1:Nat):Int) < (s.length:Int):=by omega
   have hcell':∀w',Gr (w.alloc (.cells #[.int .i64 10,.int .i64 n,.int .i64 a] 58)) w'→w'.cell? ⟨b,off+(s.length - 1),none⟩=some (.int .i64 y):=fun w' h=>h.cell ((World.grownBy_alloc w _ none).cell hcell (by simp)) (by simp)
   clear HC hcell;go_enter Tryz.func118,Tryz.ntmps118
   go_wp2_with ((go_at_call 32;refine (unless3_yes _ _ _ _).mono ?_;rintro e w' ⟨rfl,hg'⟩);have hc1:=hcell' w' hg')
   go_ret
   exact ⟨by rw [HS.out];rfl,(by repeat (first|exact Gr.refl _|assumption|refine Gr.drew ?_|refine Gr.alloc ?_ _|refine Gr.trans ?_ (by assumption)))⟩
 · obtain rfl:s= []:=by cases s with|nil=>rfl|cons=>simp at hl
   go_enter Tryz.func118,Tryz.ntmps118
   go_wp2_with ((go_at_call 32;refine (unless3_no _ _ _ _).mono ?_;rintro e w' ⟨rfl,hg'⟩))
   exact ⟨rfl,rfl,(by repeat (first|exact Gr.refl _|assumption|refine Gr.drew ?_|refine Gr.alloc ?_ _|refine Gr.trans ?_ (by assumption)))⟩
open Go.RowKit
attribute [local go_sem ↓] Go.wp_at_zero Go.wp_at_succ
theorem eq_of_getD_{l m:List Int}(hl:l.length=m.length)(h:∀j,j < l.length→l.getD j 0=m.getD j 0):l=m:=by
 apply List.ext_getElem hl
 intro i h1 h2;have:=h i h1
 rw [List.getD_eq_getElem?_getD,List.getD_eq_getElem?_getD,List.getElem?_eq_getElem h1,List.getElem?_eq_getElem h2] at this;exact this
theorem gr_drewN_f{w w':World}(h:Gr w w')(n:Nat):Gr w (w'.drewN n):=⟨h.os,h.tape,h.output,h.size,h.block⟩
theorem equal_any(va vb:Value)(l m:List Int)(w:World)(ha:RInts w va l)(hb:RInts w vb m):
 Calls Tryz.prog 36 #[va,vb] w fun x w'=>x=.returned (.bool (decide (l=m)))∧Gr w w':=by
 have HA:=hide ha;have HBb:=hide hb;obtain ⟨a1,c1,rfl,hm,_⟩:=ha;obtain ⟨a2,c2,rfl,hm2,_⟩:=hb;unfold maxLen at hm hm2;by_cases hlen:l.length=m.length
 · have hne:((l.length:Int) != (m.length:Int))=false:=by simp [hlen]
   have hM:m.length=l.length:=hlen.symm;have HLen:=hide hlen;rw [hM] at hne ⊢;clear hlen;have HMM:=hide hM;clear hM;go_enter Tryz.func36,Tryz.ntmps36
   go_wp2_with fail
   go_loopw [13] (fun i wr=>∃k:Nat,i=.int .i64 k∧k≤l.length∧(∀j,j < k→l.getD j 0=m.getD j 0)∧Gr w wr) (fun i _=>l.length - (intOf i).toNat)
   case atStart=>exact ⟨0,rfl,Nat.zero_le _,fun j h=>by omega,Gr.refl _⟩
   case round=>
    obtain ⟨k,rfl,hk,hall,hg⟩:=hrel;have HAll:=hide hall;clear hall;by_cases hlt:k < l.length
    · obtain ⟨a1',c1',h1e,_,hc1⟩:=HA.out;obtain ⟨a2',c2',h2e,_,hc2⟩:=HBb.out;rw [HMM.out] at h2e hc2;simp only [Value.slice.injEq,true_and] at h1e h2e;obtain ⟨b1,o1,rfl,hx1⟩:=hc1 k hlt;obtain ⟨b2,o2,rfl,hx2⟩:=hc2 k hlt;obtain ⟨rfl,rfl⟩:=h1e;obtain ⟨rfl,rfl⟩:=h2e;have hy1:=hg.cell hx1 (by simp);have hy2:=hg.cell hx2 (by simp);have HX:∀x y,l.getD k 0=x→m.getD k 0=y→Hid (l.getD k 0=x∧m.getD k 0=y):=fun x y h1 h2=>hide ⟨h1,h2⟩
      obtain ⟨x,hx⟩:∃x,l.getD k 0=x:=⟨_,rfl⟩;obtain ⟨y,hy⟩:∃y,m.getD k 0=y:=⟨_,rfl⟩;have HXY:=HX x y hx hy;rw [hx] at hy1;rw [hy] at hy2;have HG:=hide hg;clear hc1 hc2 hx1 hx2 hg HA HBb HX hx hy;by_cases hxy:x=y
      · have hb1:(x != y)=false:=by simp [hxy]
        have HA2:Hid (∀j,j < k+1→l.getD j 0=m.getD j 0):=hide (fun j hj=>by
         by_cases e:j=k
         · subst e;rw [HXY.out.1,HXY.out.2,hxy]
         · exact HAll.out j (by omega))
        clear hxy;go_wp2_with fail
        go_quiet (fail)
        go_wp2_with fail
        exact ⟨⟨k+1,by simp,hlt,HA2.out,gr_drewN_f HG.out _⟩,by simp [intOf];omega⟩
      · have hb1:(x != y)=true:=by simp [hxy]
        have HD:Hid (decide (l=m)=false):=hide (by
         rw [decide_eq_false_iff_not];intro e;subst e;exact hxy (HXY.out.1.symm.trans HXY.out.2))
        clear hxy;go_wp2_with fail
        go_quiet (fail)
        go_wp2_with fail
        go_ret
        exact ⟨by rw [HD.out];rfl,gr_drewN_f HG.out _⟩
    · have hkk:k=l.length:=by omega
      subst hkk;have HD:Hid (decide (l=m)=true):=hide (by rw [decide_eq_true_eq];exact eq_of_getD_ HLen.out HAll.out);have HG:=hide hg;clear hg;go_wp2_with fail
      go_ret
      exact ⟨by rw [HD.out];rfl,HG.out⟩
 · have hne:((l.length:Int) != (m.length:Int))=true:=by rw [bne_iff_ne];omega
   have HD:Hid (decide (l=m)=false):=hide (by rw [decide_eq_false_iff_not];intro e;subst e;exact hlen rfl);clear hlen;go_enter Tryz.func36,Tryz.ntmps36
   go_wp2_with fail
   go_ret
   exact ⟨by rw [HD.out];rfl,Gr.refl _⟩
theorem Tryz.infF:(Tryz.prog.info? 3).map (fun i=>(i.zero,i.size,i.bytes))=some (some (Value.int .i64 0),1,8):=by kernel_rfl
theorem Tryz.uInts:Tryz.prog.underlying 22=some (.slice 3):=by kernel_rfl
theorem Tryz.uIntF:Tryz.prog.underlying 3=some (.int .i64):=by kernel_rfl
def GrowR(w:World)(e:Ending)(w':World):Prop:=∃v,e=.returned v∧w'.ownsRow w.heap.size 3 1 v 0 []∧Gr w w'
theorem grow_nil(n:Nat)(hn:n≤100000)(w:World):Calls Tryz.prog 77 #[.slice none 0 0,.int .i64 (n:Int)] w (GrowR w):=by
 have h1:¬((n:Int) < 0):=by omega
 have h3:wrap64 (n:Int)=(n:Int):=by unfold wrap64;omega
 have h3b:IntKind.i64.wrap (n:Int)=(n:Int):=Go.IntWalk.i64_in _ (by omega);by_cases h0:n=0
 · subst h0;go_enter Tryz.func77,Tryz.ntmps77
   go_wp2_with fail
   go_ret
   exact ⟨_,rfl,World.ownsRow_nil _ _ _ _,Gr.refl _⟩
 · have h4:(n:Int) > 0:=by omega
   have h4b:(0:Int) < (n:Int):=by omega
   obtain ⟨i0,hi,hz0,hz1,hz2⟩:=info_parts Tryz.infF;have hrz:=fun ty=>Lib.run_append_grow_zeros w 22 3 ty 3 i0 (.int .i64 0) .i64 .i64 Tryz.uInts Tryz.uIntF hi hz0 none 0 0 [] (run_firstCells_none w.drew i0.size 0 0 0) n (by omega) (by omega) (by omega) (by omega) (by rw [hz2];omega) (growslice_fits (by omega) (by rw [hz2];omega))
   have hGn:0+n≤grownCap w (0+n) 0 3:=grownCap_ge w _ _ _;have hGm:=grownCap_le_maxLen w (0+n) 0 3 (by unfold maxLen;omega);generalize grownCap w (0+n) 0 3=G at hrz hGn hGm;rw [Nat.zero_add] at hrz hGn;have HOW:Hid ((w.alloc (.cells (Builtin.zeroCells #[Value.int .i64 0] n++Builtin.zeroCells #[Value.int .i64 0] (G - n)) 3)).drew.ownsRow w.heap.size 3 1 (.slice (some ⟨w.heap.size,0,none⟩) 0 G) 0 []):=hide (by
    have:=World.ownsRow_made (base:=w.heap.size) (e:=3) (size:=1) w (Builtin.zeroCells #[Value.int .i64 0] n++Builtin.zeroCells #[Value.int .i64 0] (G - n)) G (Nat.le_refl _) hGm (by simp [Builtin.zeroCells];omega)
    exact this)
   have hG63:G≤9223372036854775807:=by unfold maxLen at hGm;omega
   have HGR:Hid (Gr w (w.alloc (.cells (Builtin.zeroCells #[Value.int .i64 0] n++Builtin.zeroCells #[Value.int .i64 0] (G - n)) 3)).drew):=hide (((Gr.refl w).alloc _).drew);have HRZ:=hide hrz;clear hrz hGm;go_enter Tryz.func77,Tryz.ntmps77
   go_wp2_with (at_builtin;refine Lib.wpList_append_run _ rfl _ _ _ _ rfl _ _ rfl rfl _ _ (HRZ.out _) ?_)
   all_goals go_ret
   all_goals exact ⟨.slice (some ⟨w.heap.size,0,none⟩) 0 G,rfl,HOW.out,HGR.out⟩
open Go.RowKit
attribute [local go_sem ↓] Go.wp_at_zero Go.wp_at_succ
def RUnits(w:World)(v:Value)(l:List PUnit):Prop:=
 ∃ao cap,v=.slice ao l.length cap∧l.length≤maxLen∧∀i u,l[i]? =some u→∃b off v1 v2 v3 v4 v5,ao=some ⟨b,off,none⟩∧
  w.cell? ⟨b,off+i * 5,none⟩=some v1∧w.cell? ⟨b,off+i * 5+1,none⟩=some v2∧w.cell? ⟨b,off+i * 5+2,none⟩=some v3∧w.cell? ⟨b,off+i * 5+3,none⟩=some v4∧w.cell? ⟨b,off+i * 5+4,none⟩=some v5∧RUnit w (.agg #[v1,v2,v3,v4,v5]) u
theorem RUnits.gr{w w':World}{v:Value}{l:List PUnit}(h:RUnits w v l)(g:Gr w w'):RUnits w' v l:=by
 obtain ⟨ao,cap,hv,hm,hc⟩:=h;refine ⟨ao,cap,hv,hm,fun i x hi=>?_⟩;obtain ⟨b,off,v1,v2,v3,v4,v5,h1,k1,k2,k3,k4,k5,hu⟩:=hc i x hi;exact ⟨b,off,v1,v2,v3,v4,v5,h1,g.cell k1 (by simp),g.cell k2 (by simp),g.cell k3 (by simp),g.cell k4 (by simp),g.cell k5 (by simp),hu.gr g⟩
theorem RUnits.shape{w:World}{v:Value}{l:List PUnit}(h:RUnits w v l):∃ao cap,v=.slice ao l.length cap:=by
 obtain ⟨ao,cap,hv,_⟩:=h;exact ⟨ao,cap,hv⟩
theorem RUnit.slices{w:World}{v1 v2 v3 v4 v5:Value}{u:PUnit}(h:RUnit w (.agg #[v1,v2,v3,v4,v5]) u):(∃a c,v1=.slice a u.shapes.length c)∧(∃a c,v2=.slice a u.consts.length c)∧(∃a c,v3=.slice a u.funcs.length c)∧(∃a c,v4=.slice a u.imports.length c)∧∃a c,v5=.slice a u.exports.length c:=by
 obtain ⟨x1,x2,x3,x4,x5,he,h1,h2,h3,h4,h5⟩:=h;simp only [Value.agg.injEq,Array.mk.injEq,List.cons.injEq,and_true] at he;obtain ⟨rfl,rfl,rfl,rfl,rfl⟩:=he;exact ⟨h1.shape,h2.shape,h3.shape,h4.shape,h5.shape⟩
def EachR(e:Int)(I:Nat→World→Prop)(B:World→Prop)(n:Nat)(o:Option Nat)(x:Ending)(w':World):Prop:=match o with
 | none=>x=.returned (.tuple #[])∧I n w'
 | some k=>x=.panicked (thrown e (k:Int))∧B w'
def firstI(p:Nat→PUnit→Bool):Nat→List PUnit→Option Nat
 | _,[]=>none
 | k,u :: l=>if p k u=true then some k else firstI p (k+1) l
theorem firstI_eq(p:PUnit→Bool):∀(l:List PUnit) (k:Nat),firstI (fun _=>p) k l=firstU p k l
 | [],_=>rfl
 | u :: l,k=>by rw [firstI,firstU,firstI_eq p l (k+1)]
def AskC(W:World)(f:FuncId)(first caps:Array Value)(e:Int)(l:List PUnit)(p:Nat→PUnit→Bool)(I:Nat→World→Prop)(B:World→Prop):Prop:=
 ∀(k:Nat) (u:PUnit) (V:World) (vu:Value),l[k]? =some u→I k V→RUnit W vu u→
  Calls Tryz.prog f (first++(#[vu,.agg #[.int .i64 e,.int .i64 0,.int .i64 (k:Int)]]++caps)) V fun x V'=>(p k u=false∧x=.returned (.tuple #[])∧I (k+1) V')∨(p k u=true∧x=.panicked (thrown e (k:Int))∧B V')
theorem each_any(f:FuncId)(first caps:Array Value)(hcf:∀(vu vr:Value) (w:World),(callFunc f (first++(#[vu,vr]++caps))).run Tryz.prog w=.ok (.enter f (first++(#[vu,vr]++caps))) w)(e:Int)(l:List PUnit)(vl:Value)(p:Nat→PUnit→Bool)(I:Nat→World→Prop)(B:World→Prop)(W w:World)
 (hR:RUnits W vl l) (hB:∀k V,I k V→Gr W V) (hI:∀k V V',I k V→Gr V V'→I k V') (h0:I 0 w) (hA:AskC W f first caps e l p I B) (hlen:l.length≤1000000) (hlw:∃a c,vl=.slice a l.length c):
 Calls Tryz.prog 33 #[vl,.int .i64 e,.func (.func f) first caps] w (EachR e I B l.length (firstI p 0 l)):=by
 obtain ⟨al,cl,rfl⟩:=hlw;have HR:=hide hR;have HI:=hide hI;have HBs:=hide hB;have HA:=hide hA;have H0:=hide h0;have HCF:=hide hcf;clear hR hI h0 hA hcf hB;go_enter Tryz.func33,Tryz.ntmps33
 go_wp2_with fail
 go_loopw [10] (fun i wr=>∃k:Nat,i=.int .i64 (k:Int)∧k≤l.length∧firstI p 0 l=firstI p k (l.drop k)∧I k wr) (fun i _=>l.length - (intOf i).toNat)
 case atStart=>exact ⟨0,rfl,Nat.zero_le _,rfl,H0.out⟩
 case round=>
  obtain ⟨k,rfl,hk,hf,hi⟩:=hrel;have HF:=hide hf;have HIk:=hide hi;clear hf hi H0;by_cases hlt:k < l.length
  · obtain ⟨u,hu⟩:=getElem?_lt hlt;obtain ⟨ao,cap,he,_,hc⟩:=HR.out;obtain ⟨b,off,v1,v2,v3,v4,v5,rfl,k1,k2,k3,k4,k5,hru⟩:=hc k u hu;have hbs:=HBs.out k wr HIk.out;have k1:=hbs.cell k1 (by simp);have k2:=hbs.cell k2 (by simp);have k3:=hbs.cell k3 (by simp);have k4:=hbs.cell k4 (by simp);have k5:=hbs.cell k5 (by simp);simp only [Value.slice.injEq,true_and] at he;obtain ⟨rfl,rfl⟩:=he;obtain ⟨⟨a1,c1,rfl⟩,⟨a2,c2,rfl⟩,⟨a3,c3,rfl⟩,⟨a4,c4,rfl⟩,⟨a5,c5,rfl⟩⟩:=hru.slices;have hki:(k:Int) < (l.length:Int):=by omega
    have hw:IntKind.i64.wrap ((k:Int)+1)=(k:Int)+1:=Go.IntWalk.i64_in _ (by omega);have hga:=Gr.alloc (Gr.refl wr) (.cells #[.slice a1 u.shapes.length c1,.slice a2 u.consts.length c2,.slice a3 u.funcs.length c3,.slice a4 u.imports.length c4,.slice a5 u.exports.length c5] 33);have HCK:=hide (HA.out k u _ _ hu (HI.out k wr _ HIk.out hga) hru);have HS:Hid (firstI p 0 l=if p k u=true then some k else firstI p (k+1) (l.drop (k+1))):=hide (by
     rw [HF.out,List.drop_eq_getElem_cons hlt];have:l[k]=u:=by rw [List.getElem?_eq_getElem hlt] at hu;exact Option.some.inj hu
     rw [this,firstI])
    clear hc hru hu hga HF hbs;go_wp2_with fail
    rw [HCF.out,Oper.upon_enter];refine HCK.out.mono ?_;rintro x w2 (⟨hp,rfl,hi2⟩|⟨hp,rfl,hb2⟩)
    · have HI2:=hide hi2;have HN:Hid (firstI p 0 l=firstI p (k+1) (l.drop (k+1))):=hide (by rw [HS.out,hp];rfl);clear hp hi2 HS HCK;go_wp2_with fail
      exact ⟨⟨k+1,by simp,hlt,HN.out,HI2.out⟩,by simp [intOf];omega⟩
    · refine ⟨rfl,?_⟩;rw [HS.out,if_pos hp];exact ⟨rfl,hb2⟩
  · have hkk:k=l.length:=by omega
    subst hkk;have HN:Hid (firstI p 0 l=none):=hide (by rw [HF.out,List.drop_length];rfl);clear hlt hk HF;go_wp2_with fail
    go_end0
    rw [HN.out];exact ⟨rfl,HIk.out⟩
end Go.Proofs.YtkgncijcnlfhiaaGreat
