import Derived.Test.YtkgncijcnlfhiaaGreatMc
import Derived.Test.YtkgncijcnlfhiaaGreatW1
namespace Go.Proofs.YtkgncijcnlfhiaaGreat
set_option maxRecDepth 100000
set_option linter.unusedVariables false
set_option linter.unusedSimpArgs false
open Go.RowKit
attribute [local go_sem ↓] Go.wp_at_zero Go.wp_at_succ
def truthI(b:Bool):Int:=if b then 1 else 0
theorem truth_any(b:Bool)(w:World):Calls Tryz.prog 137 #[.bool b] w fun x w'=>x=.returned (.agg #[.int .i64 (truthI b),.pointer none])∧Gr w w':=by
 cases b
 · go_enter Tryz.func137,Tryz.ntmps137
   go_wp2_with fail
   exact bodyPost_ret (v:=.agg #[.int .i64 0,.pointer none]) (by simp [results,Tryz.results137,go_sem]) rfl ⟨rfl,(Gr.refl _).alloc _⟩
 · go_enter Tryz.func137,Tryz.ntmps137
   go_wp2_with fail
   exact bodyPost_ret (v:=.agg #[.int .i64 1,.pointer none]) (by simp [results,Tryz.results137,go_sem]) rfl ⟨rfl,(Gr.refl _).alloc _⟩
def reckI(op x y:Int):Int:=if op=6 then wrap64 (x+y) else if op=7 then wrap64 (x - y) else if op=8 then wrap64 (x * y) else if op=9 then truthI (decide (x < y)) else truthI (decide (x=y))
theorem words_any(n:Nat)(w:World)(hn:n≤100000):Calls Tryz.prog 135 #[.int .i64 (n:Int)] w fun x w'=>x=.returned (.int .i64 ((n:Int)+1))∧w'=w:=by
 have hw:IntKind.i64.wrap ((n:Int)+1)=(n:Int)+1:=Go.IntWalk.i64_in _ (by omega);go_enter Tryz.func135,Tryz.ntmps135
 go_wp2_with fail
 go_ret
 exact ⟨rfl,rfl⟩
set_option maxHeartbeats 1000000 in
theorem reckoned_any(op x y:Int)(w:World):Calls Tryz.prog 138 #[.int .i64 op,.int .i64 x,.int .i64 y] w fun r w'=>r=.returned (.agg #[.int .i64 (reckI op x y),.pointer none])∧Gr w w':=by
 by_cases h6:op=6
 · subst h6;go_enter Tryz.func138,Tryz.ntmps138
   go_wp2_with fail
   exact bodyPost_ret (v:=.agg #[.int .i64 (wrap64 (x+y)),.pointer none]) (by simp [results,Tryz.results138,go_sem]) rfl ⟨by simp [reckI],(Gr.refl _).alloc _⟩
 · have d6:(op == 6)=false:=by simpa using h6
   by_cases h7:op=7
   · subst h7;go_enter Tryz.func138,Tryz.ntmps138
     go_wp2_with fail
     exact bodyPost_ret (v:=.agg #[.int .i64 (wrap64 (x - y)),.pointer none]) (by simp [results,Tryz.results138,go_sem]) rfl ⟨by simp [reckI],(Gr.refl _).alloc _⟩
   · have d7:(op == 7)=false:=by simpa using h7
     by_cases h8:op=8
     · subst h8;go_enter Tryz.func138,Tryz.ntmps138
       go_wp2_with fail
       exact bodyPost_ret (v:=.agg #[.int .i64 (wrap64 (x * y)),.pointer none]) (by simp [results,Tryz.results138,go_sem]) rfl ⟨by simp [reckI],(Gr.refl _).alloc _⟩
     · have d8:(op == 8)=false:=by simpa using h8
       by_cases h9:op=9
       · subst h9;have HE:Hid (reckI 9 x y=truthI (decide (x < y))):=hide (by simp [reckI]);go_enter Tryz.func138,Tryz.ntmps138
         go_wp2_with fail
         refine (truth_any _ _).mono ?_;rintro z w1 ⟨rfl,hg1⟩;have hb:=(hg1.block w.heap.size (by simp) (by simp)).trans (heap_alloc_new w (.cells #[.int .i64 0,.pointer none] 183));have r0:w1.cell? ⟨w.heap.size,0,none⟩=some (.int .i64 0):=by rw [hcell_ hb];rfl
         have r1:w1.cell? ⟨w.heap.size,1,none⟩=some (.pointer none):=by rw [hcell_ hb];rfl
         have q0:w1.frozen? ⟨w.heap.size,0,none⟩=false:=hfrozen_ hb;have q1:w1.frozen? ⟨w.heap.size,1,none⟩=false:=hfrozen_ hb;have HGG:=hide (((Gr.refl w).alloc _).trans hg1);have e2:=heap_setCell_same _ w.heap.size 1 _ _ (.pointer none) (heap_setCell_same _ w.heap.size 0 _ _ (.int .i64 (truthI (decide (x < y)))) hb);have HE2:=hide e2;clear hb hg1 e2;generalize truthI (decide (x < y))=tv at HE HE2 ⊢;go_wp2_with fail
         have t0:((w1.setCell ⟨w.heap.size,0,none⟩ (.int .i64 tv)).setCell ⟨w.heap.size,1,none⟩ (.pointer none)).cell? ⟨w.heap.size,0,none⟩=some (.int .i64 tv):=by rw [hcell_ HE2.out];rfl
         have t1:((w1.setCell ⟨w.heap.size,0,none⟩ (.int .i64 tv)).setCell ⟨w.heap.size,1,none⟩ (.pointer none)).cell? ⟨w.heap.size,1,none⟩=some (.pointer none):=by rw [hcell_ HE2.out];rfl
         refine bodyPost_ret (v:=.agg #[.int .i64 tv,.pointer none]) (by simp [results,Tryz.results138,go_sem,t0,t1]) rfl ⟨by rw [HE.out],?_⟩;exact gr_put1 (gr_put1 HGG.out (Nat.le_refl _)) (Nat.le_refl _)
       · have d9:(op == 9)=false:=by simpa using h9
         have HE:Hid (reckI op x y=truthI (decide (x=y))):=hide (by simp [reckI,h6,h7,h8,h9]);have hbe:(x == y)=decide (x=y):=by cases h:decide (x=y)<;>simp_all
         go_enter Tryz.func138,Tryz.ntmps138
         go_wp2_with fail
         refine (truth_any _ _).mono ?_;rintro z w1 ⟨rfl,hg1⟩;have hb:=(hg1.block w.heap.size (by simp) (by simp)).trans (heap_alloc_new w (.cells #[.int .i64 0,.pointer none] 183));have r0:w1.cell? ⟨w.heap.size,0,none⟩=some (.int .i64 0):=by rw [hcell_ hb];rfl
         have r1:w1.cell? ⟨w.heap.size,1,none⟩=some (.pointer none):=by rw [hcell_ hb];rfl
         have q0:w1.frozen? ⟨w.heap.size,0,none⟩=false:=hfrozen_ hb;have q1:w1.frozen? ⟨w.heap.size,1,none⟩=false:=hfrozen_ hb;have HGG:=hide (((Gr.refl w).alloc _).trans hg1);have e2:=heap_setCell_same _ w.heap.size 1 _ _ (.pointer none) (heap_setCell_same _ w.heap.size 0 _ _ (.int .i64 (truthI (decide (x=y)))) hb);have HE2:=hide e2;clear hb hg1 e2;generalize truthI (decide (x=y))=tv at HE HE2 ⊢;go_wp2_with fail
         have t0:((w1.setCell ⟨w.heap.size,0,none⟩ (.int .i64 tv)).setCell ⟨w.heap.size,1,none⟩ (.pointer none)).cell? ⟨w.heap.size,0,none⟩=some (.int .i64 tv):=by rw [hcell_ HE2.out];rfl
         have t1:((w1.setCell ⟨w.heap.size,0,none⟩ (.int .i64 tv)).setCell ⟨w.heap.size,1,none⟩ (.pointer none)).cell? ⟨w.heap.size,1,none⟩=some (.pointer none):=by rw [hcell_ HE2.out];rfl
         refine bodyPost_ret (v:=.agg #[.int .i64 tv,.pointer none]) (by simp [results,Tryz.results138,go_sem,t0,t1]) rfl ⟨by rw [HE.out],?_⟩;exact gr_put1 (gr_put1 HGG.out (Nat.le_refl _)) (Nat.le_refl _)
structure PV where
 num:Int
 blk:Option Nat
structure PFr where
 fn:Nat
 pos:Nat
 slots:List PV
 stack:List PV
structure PM where
 top:PFr
 low:List PFr
 blks:List (List PV)
 taken:Nat
 told:List Int
def pv0:PV:=⟨0,none⟩
def zeroPV(n:Nat):List PV:=List.replicate n pv0
def rowsP:List PFr→List (List PV)
 | []=> []
 | f :: l=>rowsP l++ [f.slots,f.stack]
structure RSt where
 mark:Nat→Bool
 all:Nat
 wt:List (List PV)
def scanP(bs:List (List PV)):List PV→RSt→RSt
 | [],st=>st
 | v :: vs,st=>
  match v.blk with
  | none=>scanP bs vs st
  | some j=>if st.mark j then scanP bs vs st else scanP bs vs ⟨fun k=>decide (k=j) || st.mark k,st.all+((bs.getD j []).length+1),st.wt++ [bs.getD j []]⟩
def reachL(bs:List (List PV)):Nat→RSt→RSt
 | 0,st=>st
 | n+1,st=>
  match st.wt.getLast? with
  | none=>st
  | some r=>reachL bs n (scanP bs r ⟨st.mark,st.all,st.wt.dropLast⟩)
def reachedP(m:PM):Nat:=(reachL m.blks (m.blks.length+(rowsP (m.top :: m.low)).length+1) ⟨fun _=>false,0,rowsP (m.top :: m.low)⟩).all
inductive PEnd where
 | go (m:PM)
 | stop (why res:Int) (m:PM)
def PFr.behind(x:PFr)(s:List PV):PFr:=⟨x.fn,x.pos+1,x.slots,s⟩
def PM.on(m:PM)(s:List PV):PEnd:=.go ⟨m.top.behind s,m.low,m.blks,m.taken,m.told⟩
def insP(u:PUnit)(heap:Nat)(m:PM)(i:PIns):PEnd:=
 let x:=m.top
 let s:=x.stack
 let n:=s.length
 let t:=s.getD (n - 1) pv0
 let o:=s.take (n - 1)
 if i.op=0 then m.on (s++ [⟨u.consts.getD i.a.toNat 0,none⟩])
 else if i.op=1 then m.on (s++ [⟨i.a,none⟩])
 else if i.op=2 then m.on (s++ [x.slots.getD i.a.toNat pv0])
 else if i.op=3 then .go ⟨⟨x.fn,x.pos+1,x.slots.set i.a.toNat t,o⟩,m.low,m.blks,m.taken,m.told⟩
 else if i.op=4 then m.on o
 else if i.op=5 then m.on (s++ [t])
 else if i.op=11 then .go ⟨⟨x.fn,i.a.toNat,x.slots,s⟩,m.low,m.blks,m.taken,m.told⟩
 else if i.op=12 then (if t.num=0 then .go ⟨⟨x.fn,i.a.toNat,x.slots,o⟩,m.low,m.blks,m.taken,m.told⟩ else m.on o)
 else if i.op=13 then
  (if m.low.length=99 then .stop 9 0 m
  else match u.funcs[i.a.toNat]? with
   | none=>.stop 0 0 m
   | some g=>.go ⟨⟨i.a.toNat,0,s.drop (n - g.params.length)++zeroPV g.locals.length,[]⟩,⟨x.fn,x.pos,x.slots,s.take (n - g.params.length)⟩ :: m.low,m.blks,m.taken,m.told⟩)
 else if i.op=14 then
  (match m.low with
  | []=>.stop 6 t.num m
  | y :: l=>.go ⟨y.behind (y.stack++ [t]),l,m.blks,m.taken,m.told⟩)
 else if i.op=15 then
  (let k:=(u.shapes.getD (i.a - 1).toNat []).length
  let tk:=if m.taken+(k+1) > heap then reachedP m else m.taken
  if tk+(k+1)≤heap then .go ⟨x.behind (s.take (n - k)++ [⟨0,some m.blks.length⟩]),m.low,m.blks++ [s.drop (n - k)],tk+(k+1),m.told⟩ else .stop 8 0 m)
 else if i.op=16 then
  (match t.blk with
  | none=>.stop 10 0 m
  | some j=>m.on (o++ [(m.blks.getD j []).getD i.b.toNat pv0]))
 else if i.op=17 then
  (match (s.getD (n - 2) pv0).blk with
  | none=>.stop 10 0 m
  | some j=>.go ⟨x.behind (s.take (n - 2)),m.low,m.blks.set j ((m.blks.getD j []).set i.b.toNat t),m.taken,m.told⟩)
 else if i.op=18 then m.on (s++ [pv0])
 else if i.op=19 then m.on (o++ [⟨truthI t.blk.isNone,none⟩])
 else if i.op=20 then .go ⟨x.behind o,m.low,m.blks,m.taken,if m.told.length < 1000 then m.told++ [t.num] else m.told⟩
 else m.on (s.take (n - 2)++ [⟨reckI i.op (s.getD (n - 2) pv0).num t.num,none⟩])
def insAt(u:PUnit)(x:PFr):Option PIns:=match u.funcs[x.fn]? with
 | none=>none
 | some f=>f.code[x.pos]?
def pStep(u:PUnit)(heap:Nat)(m:PM):PEnd:=match insAt u m.top with
 | none=>.stop 0 0 m
 | some i=>insP u heap m i
def VOk(σ:List Int)(k:Int)(v:PV):Prop:=∀j,v.blk=some j→k≠0∧σ[j]? =some k
def LOk(σ:List Int)(ks:List Int)(vs:List PV):Prop:=ks.length=vs.length∧∀(i:Nat) (k:Int) (v:PV),ks[i]? =some k→vs[i]? =some v→VOk σ k v
theorem VOk.zero(σ:List Int)(k:Int):VOk σ k pv0:=fun j h=>by cases h
theorem VOk.num(σ:List Int)(k n:Int):VOk σ k ⟨n,none⟩:=fun j h=>by cases h
theorem VOk.more{σ:List Int}{k:Int}{v:PV}(h:VOk σ k v)(a:Int):VOk (σ++ [a]) k v:=fun j hj=>by
 obtain ⟨h1,h2⟩:=h j hj;exact ⟨h1,by rw [List.getElem?_append_left (List.getElem?_eq_some_iff.1 h2).1];exact h2⟩
theorem LOk.more{σ:List Int}{ks:List Int}{vs:List PV}(h:LOk σ ks vs)(a:Int):LOk (σ++ [a]) ks vs:=⟨h.1,fun i k v h1 h2=>(h.2 i k v h1 h2).more a⟩
theorem LOk.nil(σ:List Int):LOk σ [] []:=⟨rfl,fun i k v h=>by simp at h⟩
theorem LOk.app{σ:List Int}{ks ks':List Int}{vs vs':List PV}(h:LOk σ ks vs)(h':LOk σ ks' vs'):LOk σ (ks++ks') (vs++vs'):=by
 refine ⟨by simp [h.1,h'.1],fun i k v h1 h2=>?_⟩;by_cases hi:i < ks.length
 · rw [List.getElem?_append_left hi] at h1;rw [List.getElem?_append_left (h.1▸hi)] at h2;exact h.2 i k v h1 h2
 · rw [List.getElem?_append_right (by omega)] at h1;rw [List.getElem?_append_right (by rw [←h.1];omega),←h.1] at h2;exact h'.2 _ k v h1 h2
theorem LOk.one{σ:List Int}{k:Int}{v:PV}(h:VOk σ k v):LOk σ [k] [v]:=⟨rfl,fun i k' v' h1 h2=>by
 cases i with
 | zero=>simp at h1 h2;subst h1 h2;exact h
 | succ i=>simp at h1⟩
theorem LOk.push{σ:List Int}{ks:List Int}{vs:List PV}{k:Int}{v:PV}(h:LOk σ ks vs)(hv:VOk σ k v):LOk σ (ks++ [k]) (vs++ [v]):=h.app (.one hv)
theorem LOk.take{σ:List Int}{ks:List Int}{vs:List PV}(h:LOk σ ks vs)(n:Nat):LOk σ (ks.take n) (vs.take n):=by
 refine ⟨by simp [h.1],fun i k v h1 h2=>?_⟩;rw [List.getElem?_take] at h1 h2;by_cases hi:i < n
 · rw [if_pos hi] at h1 h2;exact h.2 i k v h1 h2
 · rw [if_neg hi] at h1;cases h1
theorem LOk.drop{σ:List Int}{ks:List Int}{vs:List PV}(h:LOk σ ks vs)(n:Nat):LOk σ (ks.drop n) (vs.drop n):=by
 refine ⟨by simp [h.1],fun i k v h1 h2=>?_⟩;rw [List.getElem?_drop] at h1 h2;exact h.2 _ k v h1 h2
theorem LOk.get{σ:List Int}{ks:List Int}{vs:List PV}(h:LOk σ ks vs){i:Nat}{k:Int}(hk:ks[i]? =some k):∃v,vs[i]? =some v∧VOk σ k v:=by
 have hl:=(List.getElem?_eq_some_iff.1 hk).1;have:i < vs.length:=h.1▸hl
 exact ⟨vs[i],List.getElem?_eq_getElem this,h.2 i k _ hk (List.getElem?_eq_getElem this)⟩
theorem LOk.getD{σ:List Int}{ks:List Int}{vs:List PV}(h:LOk σ ks vs){i:Nat}{k:Int}(hk:ks[i]? =some k):VOk σ k (vs.getD i pv0):=by
 obtain ⟨v,hv,ho⟩:=h.get hk;rw [List.getD_eq_getElem?_getD,hv];exact ho
theorem LOk.set{σ:List Int}{ks:List Int}{vs:List PV}(h:LOk σ ks vs){i:Nat}{k:Int}(hk:ks[i]? =some k){v:PV}(hv:VOk σ k v):LOk σ ks (vs.set i v):=by
 refine ⟨by simp [h.1],fun j k' v' h1 h2=>?_⟩;rw [List.getElem?_set] at h2;by_cases e:i=j
 · subst e;rw [if_pos rfl] at h2;split at h2
   · rw [hk] at h1;cases h1;cases h2;exact hv
   · cases h2
 · rw [if_neg e] at h2;exact h.2 j k' v' h1 h2
theorem LOk.zeros(σ:List Int)(ks:List Int):LOk σ ks (zeroPV ks.length):=by
 refine ⟨by simp [zeroPV],fun i k v h1 h2=>?_⟩;rw [zeroPV,List.getElem?_replicate] at h2;split at h2
 · cases h2;exact .zero σ k
 · cases h2
structure TopOk(u:PUnit)(Ts:Nat→Nat→Option (List Int))(σ:List Int)(x:PFr):Prop where
 fn:∃f s,u.funcs[x.fn]? =some f∧Ts x.fn x.pos=some s∧LOk σ (f.params++f.locals) x.slots∧LOk σ s x.stack∧s.length≤20
def WaitOk(u:PUnit)(Ts:Nat→Nat→Option (List Int))(σ:List Int)(c:Nat)(x:PFr):Prop:=∃f i g s,u.funcs[x.fn]? =some f∧f.code[x.pos]? =some i∧i.op=13∧i.a.toNat=c∧u.funcs[c]? =some g∧Ts x.fn x.pos=some s∧LOk σ (f.params++f.locals) x.slots∧LOk σ (s.take (s.length - g.params.length)) x.stack∧s.length≤20
def baseFn:Nat→List PFr→Nat
 | c,[]=>c
 | _,y :: l=>baseFn y.fn l
def LowOk(u:PUnit)(Ts:Nat→Nat→Option (List Int))(σ:List Int):Nat→List PFr→Prop
 | _,[]=>True
 | c,x :: l=>WaitOk u Ts σ c x∧LowOk u Ts σ x.fn l
structure MOk(u:PUnit)(Ts:Nat→Nat→Option (List Int))(σ:List Int)(m:PM):Prop where
 top:TopOk u Ts σ m.top
 low:LowOk u Ts σ m.top.fn m.low
 main:∃f,u.funcs[baseFn m.top.fn m.low]? =some f∧f.result=0
 deep:m.low.length≤99
 shapes:σ.length=m.blks.length
 blks:∀(j:Nat) (k:Int) (fs:List PV),σ[j]? =some k→m.blks[j]? =some fs→∃s,1≤k∧u.shapes[(k - 1).toNat]? =some s∧LOk σ s fs
 told:m.told.length≤1000
theorem WaitOk.more{u:PUnit}{Ts:Nat→Nat→Option (List Int)}{σ:List Int}{c:Nat}{x:PFr}(h:WaitOk u Ts σ c x)(a:Int):WaitOk u Ts (σ++ [a]) c x:=by
 obtain ⟨f,i,g,s,h1,h2,h3,h4,h5,h6,h7,h8,h9⟩:=h;exact ⟨f,i,g,s,h1,h2,h3,h4,h5,h6,h7.more a,h8.more a,h9⟩
theorem LowOk.more{u:PUnit}{Ts:Nat→Nat→Option (List Int)}{σ:List Int}(a:Int):∀{l:List PFr} {c:Nat},LowOk u Ts σ c l→LowOk u Ts (σ++ [a]) c l
 | [],_,_=>trivial
 | _ :: _,_,h=>⟨h.1.more a,LowOk.more a h.2⟩
structure UOk(u:PUnit):Prop where
 func:∀f∈u.funcs,f.params.length≤6∧f.locals.length≤10∧1≤f.code.length∧f.code.length≤200∧(∀k∈f.params,0≤k)∧(∀k∈f.locals,0≤k)∧0≤f.result∧∀i∈f.code,insOk i=true
 shape:∀s∈u.shapes,1≤s.length∧s.length≤8∧∀k∈s,0≤k
 few:u.shapes.length≤20∧u.consts.length≤50∧u.funcs.length≤30
 exps:u.exports.length≤20∧∀e∈u.exports,0≤e.func∧e.func < u.funcs.length
theorem UOk.of{u:PUnit}(h:unitOk u=true):UOk u:=by
 unfold unitOk shapesOk constsOk funcsOk exportsOk at h;simp only [Bool.and_eq_true,wB,decide_eq_true_eq] at h;obtain ⟨⟨hs1,hs2⟩,hc,⟨hf1,hf2⟩,_,⟨he1,he2⟩⟩:=h;refine ⟨fun f hf=>?_,fun s hs=>?_,by omega,by omega,fun e he=>?_⟩
 · have h:=List.all_eq_true.1 hf2 f hf;unfold funcOk sigOk codeOk at h;simp only [Bool.and_eq_true,wB,decide_eq_true_eq,inB] at h;obtain ⟨⟨h1,h2,h3⟩,h4,h5,h6,h7⟩:=h;refine ⟨by omega,by omega,by omega,by omega,fun k hk=>?_,fun k hk=>?_,by omega,fun i hi=>List.all_eq_true.1 h7 i hi⟩
   · have:=List.all_eq_true.1 h2 k hk;simp [inB,wB] at this;omega
   · have:=List.all_eq_true.1 h5 k hk;simp [inB,wB] at this;omega
 · have h:=List.all_eq_true.1 hs2 s hs;unfold shapeOk at h;simp only [Bool.and_eq_true,wB,decide_eq_true_eq] at h;refine ⟨by omega,by omega,fun k hk=>?_⟩;have:=List.all_eq_true.1 h.2 k hk;simp [inB,wB] at this;omega
 · have h:=List.all_eq_true.1 he2 e he;unfold expOk at h;simp only [Bool.and_eq_true,wB,decide_eq_true_eq] at h;omega
theorem fits_eq:∀{ts ss:List Int},(∀t∈ts,0≤t)→fitsP ts ss=true→ts=ss
 | [],[],_,_=>rfl
 | [],_ :: _,_,h=>by cases h
 | _ :: _,[],_,h=>by cases h
 | t :: ts,s :: ss,hn,h=>by
  rw [fitsP] at h;simp only [Bool.and_eq_true,Bool.or_eq_true,decide_eq_true_eq] at h;have h0:=hn t List.mem_cons_self;have e1:t=s:=by rcases h.1 with h|h<;>omega
  rw [e1,fits_eq (fun k hk=>hn k (List.mem_cons_of_mem _ hk)) h.2]
inductive InsR(u:PUnit)(f:PFunc)(i:PIns):List Int→List Int→Prop
 | const:i.op=0→0≤i.a→i.a.toNat < u.consts.length→InsR u f i [] [0]
 | small:i.op=1→InsR u f i [] [0]
 | load (k:Int):i.op=2→0≤i.a→(f.params++f.locals)[i.a.toNat]? =some k→InsR u f i [] [k]
 | store (k:Int):i.op=3→0≤i.a→(f.params++f.locals)[i.a.toNat]? =some k→InsR u f i [k] []
 | pop (k:Int):i.op=4→InsR u f i [k] []
 | dup (k:Int):i.op=5→InsR u f i [k] [k,k]
 | reck:6≤i.op→i.op≤10→InsR u f i [0,0] [0]
 | jump:i.op=11→0≤i.a→i.a.toNat < f.code.length→InsR u f i [] []
 | zero:i.op=12→0≤i.a→i.a.toNat < f.code.length→InsR u f i [0] []
 | call (g:PFunc):i.op=13→0≤i.a→u.funcs[i.a.toNat]? =some g→InsR u f i g.params [g.result]
 | ret:i.op=14→InsR u f i [f.result] []
 | new (s:List Int):i.op=15→1≤i.a→u.shapes[(i.a - 1).toNat]? =some s→InsR u f i s [i.a]
 | get (s:List Int) (k:Int):i.op=16→1≤i.a→0≤i.b→u.shapes[(i.a - 1).toNat]? =some s→s[i.b.toNat]? =some k→InsR u f i [i.a] [k]
 | set (s:List Int) (k:Int):i.op=17→1≤i.a→0≤i.b→u.shapes[(i.a - 1).toNat]? =some s→s[i.b.toNat]? =some k→InsR u f i [i.a,k] []
 | nil:i.op=18→1≤i.a→InsR u f i [] [i.a]
 | isnil:i.op=19→1≤i.a→InsR u f i [i.a] [0]
 | out:i.op=20→InsR u f i [0] []
theorem one_list{α:Type}{l:List α}(h:l.length=1):∃x,l= [x]:=by
 match l,h with
 | [x],_=>exact ⟨x,rfl⟩
theorem ins_eff{u:PUnit}{f:PFunc}{i:PIns}{s s':List Int}(hu:UOk u)(him:u.imports= [])(hf:f∈u.funcs)(hi:i∈f.code)(h:doneP u f i s=some s'):
 ∃base ts ps,InsR u f i ts ps∧s=base++ts∧s'=base++ps∧s'.length≤20∧(i.op=14→base= []):=by
 have hio:=(hu.func f hf).2.2.2.2.2.2.2 i hi;have hff:=hu.func f hf;have hsl:∀k∈f.params++f.locals,0≤k:=fun k hk=>by
  rcases List.mem_append.1 hk with hk|hk
  · exact hff.2.2.2.2.1 k hk
  · exact hff.2.2.2.2.2.1 k hk
 unfold insOk operandOk at hio;simp only [Bool.and_eq_true,wB,decide_eq_true_eq] at hio;unfold doneP at h;cases he:effP u f i with
 | none=>rw [he] at h;cases h
 | some tp=>
  obtain ⟨ts,ps⟩:=tp;rw [he] at h;simp only at h;split at h
  · cases h
  · rename_i hl
    split at h
    · cases h
    · rename_i hfit
      have hfit:fitsP ts (s.drop (s.length - ts.length))=true:=by simpa using hfit
      split at h
      · rename_i hout
        have h:=Option.some.inj h;have hgen:(∀t∈ts,0≤t)→(∀p∈ps,0≤p)→InsR u f i ts ps→∃base ts ps,InsR u f i ts ps∧s=base++ts∧s'=base++ps∧s'.length≤20∧(i.op=14→base= []):=fun h1 h2 h3=>by
         have e1:=fits_eq h1 hfit;have e2:(ps.map fun p=>if p < 0 then anyP ts (s.drop (s.length - ts.length)) else p)=ps:=by
          conv=>rhs;rw [←List.map_id ps]
          exact List.map_congr_left (fun p hp=>by have:=h2 p hp;rw [if_neg (by omega)];rfl)
         rw [e2] at h hout;refine ⟨s.take (s.length - ts.length),ts,ps,h3,?_,h.symm,by rw [←h];exact hout.1,fun e=>?_⟩
         · conv=>lhs;rw [←List.take_append_drop (s.length - ts.length) s]
           rw [←e1]
         · rcases hout.2 with h|h
           · exact absurd e h
           · rw [h,Nat.sub_self,List.take_zero]
        have hop:i.op=0∨i.op=1∨i.op=2∨i.op=3∨i.op=4∨i.op=5∨(6≤i.op∧i.op≤10)∨i.op=11∨i.op=12∨i.op=13∨i.op=14∨i.op=15∨i.op=16∨i.op=17∨i.op=18∨i.op=19∨i.op=20:=by omega
        have hsk:∀(a:Nat) (k:Int),(f.params++f.locals)[a]? =some k→0≤k:=fun a k e=>hsl k (List.mem_of_getElem? e)
        have hshp:∀(a:Nat) (sh:List Int),u.shapes[a]? =some sh→∀k∈sh,0≤k:=fun a sh e=>(hu.shape sh (List.mem_of_getElem? e)).2.2
        unfold effP at he;rcases hop with e|e|e|e|e|e|e|e|e|e|e|e|e|e|e|e|e
        · simp [e] at he
          simp [e,operandsN] at hio
          obtain ⟨h1,rfl,rfl⟩:=he;exact hgen (by simp) (by simp) (.const e (by omega) (by omega))
        · simp [e] at he
          obtain ⟨rfl,rfl⟩:=he;exact hgen (by simp) (by simp) (.small e)
        · simp [e] at he
          simp [e,operandsN] at hio
          obtain ⟨k,h1,rfl,rfl⟩:=he;exact hgen (by simp) (by simpa using hsk _ _ h1) (.load k e (by omega) h1)
        · simp [e] at he
          simp [e,operandsN] at hio
          obtain ⟨k,h1,rfl,rfl⟩:=he;exact hgen (by simpa using hsk _ _ h1) (by simp) (.store k e (by omega) h1)
        · simp [e] at he
          obtain ⟨rfl,rfl⟩:=he;simp only [List.length_cons,List.length_nil] at hl h hout hfit;obtain ⟨k,hk⟩:=one_list (l:=s.drop (s.length - 1)) (by simp;omega);refine ⟨s.take (s.length - 1),[k],[],.pop k e,?_,by simpa using h.symm,by rw [←h];exact hout.1,fun e2=>by omega⟩;conv=>lhs;rw [←List.take_append_drop (s.length - 1) s]
          rw [hk]
        · simp [e] at he
          obtain ⟨rfl,rfl⟩:=he;simp only [List.length_cons,List.length_nil] at hl h hout hfit;obtain ⟨k,hk⟩:=one_list (l:=s.drop (s.length - 1)) (by simp;omega);refine ⟨s.take (s.length - 1),[k],[k,k],.dup k e,?_,?_,by rw [←h];exact hout.1,fun e2=>by omega⟩
          · conv=>lhs;rw [←List.take_append_drop (s.length - 1) s]
            rw [hk]
          · rw [←h];simp [hk,anyP]
        · have n0:¬i.op=0:=by omega
          have n1:¬i.op=1:=by omega
          have n2:¬i.op=2:=by omega
          have n3:¬i.op=3:=by omega
          have n4:¬i.op=4:=by omega
          have n5:¬i.op=5:=by omega
          have n6:i.op=6∨i.op=7∨i.op=8∨i.op=9∨i.op=10:=by omega
          simp only [n0,n1,n2,n3,n4,n5,n6,if_false,if_true,Option.some.injEq,Prod.mk.injEq] at he;obtain ⟨rfl,rfl⟩:=he;exact hgen (by simp) (by simp) (.reck e.1 e.2)
        · simp [e] at he
          simp [e,operandsN] at hio
          obtain ⟨h1,rfl,rfl⟩:=he;exact hgen (by simp) (by simp) (.jump e (by omega) (by omega))
        · simp [e] at he
          simp [e,operandsN] at hio
          obtain ⟨h1,rfl,rfl⟩:=he;exact hgen (by simp) (by simp) (.zero e (by omega) (by omega))
        · simp [e,him] at he
          simp [e,operandsN] at hio
          cases hg:u.funcs[i.a.toNat]? with
          | none=>rw [hg] at he;simp at he
          | some g=>
           rw [hg] at he;simp at he
           obtain ⟨rfl,rfl⟩:=he;have hgg:=hu.func g (List.mem_of_getElem? hg);exact hgen hgg.2.2.2.2.1 (by simpa using hgg.2.2.2.2.2.2.1) (.call g e (by omega) hg)
        · simp [e] at he
          obtain ⟨rfl,rfl⟩:=he;exact hgen (by simpa using hff.2.2.2.2.2.2.1) (by simp) (.ret e)
        · generalize hq:(i.a - 1).toNat=q at he;by_cases h1:1≤i.a
          · cases h2:u.shapes[q]? with
            | none=>simp [e,h2] at he
            | some sh=>
             simp [e,h1,h2] at he
             obtain ⟨rfl,rfl⟩:=he;exact hgen (hshp _ _ h2) (by simp;omega) (.new sh e h1 (hq▸h2))
          · simp [e,h1] at he
        · generalize hq:(i.a - 1).toNat=q at he;by_cases h1:1≤i.a
          · cases h2:u.shapes[q]? with
            | none=>simp [e,h2] at he
            | some sh=>
             simp [e,h1,h2] at he
             simp [e,operandsN] at hio
             obtain ⟨k,h3,rfl,rfl⟩:=he;exact hgen (by simp;omega) (by simpa using hshp _ _ h2 k (List.mem_of_getElem? h3)) (.get sh k e h1 (by omega) (hq▸h2) h3)
          · simp [e,h1] at he
        · generalize hq:(i.a - 1).toNat=q at he;by_cases h1:1≤i.a
          · cases h2:u.shapes[q]? with
            | none=>simp [e,h2] at he
            | some sh=>
             simp [e,h1,h2] at he
             simp [e,operandsN] at hio
             obtain ⟨k,h3,rfl,rfl⟩:=he;exact hgen (by have:=hshp _ _ h2 k (List.mem_of_getElem? h3);simp;omega) (by simp) (.set sh k e h1 (by omega) (hq▸h2) h3)
          · simp [e,h1] at he
        · generalize hq:(i.a - 1).toNat=q at he;by_cases h1:1≤i.a
          · cases h2:u.shapes[q]? with
            | none=>simp [e,h2] at he
            | some sh=>
             simp [e,h1,h2] at he
             obtain ⟨rfl,rfl⟩:=he;exact hgen (by simp) (by simp;omega) (.nil e h1)
          · simp [e,h1] at he
        · generalize hq:(i.a - 1).toNat=q at he;by_cases h1:1≤i.a
          · cases h2:u.shapes[q]? with
            | none=>simp [e,h2] at he
            | some sh=>
             simp [e,h1,h2] at he
             obtain ⟨rfl,rfl⟩:=he;exact hgen (by simp;omega) (by simp) (.isnil e h1)
          · simp [e,h1] at he
        · simp [e] at he
          obtain ⟨rfl,rfl⟩:=he;exact hgen (by simp) (by simp) (.out e)
      · cases h
end Go.Proofs.YtkgncijcnlfhiaaGreat
