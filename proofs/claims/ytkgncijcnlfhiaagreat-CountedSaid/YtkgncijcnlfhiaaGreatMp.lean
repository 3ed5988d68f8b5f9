import Derived.Deep.WholeRow
import Derived.Test.YtkgncijcnlfhiaaGreatRg5
namespace Go.Proofs.YtkgncijcnlfhiaaGreat
set_option maxRecDepth 100000
set_option maxHeartbeats 2000000
set_option linter.unusedVariables false
set_option linter.unusedSimpArgs false
open Go.RowKit
attribute [local go_sem ↓] Go.wp_at_zero Go.wp_at_succ
theorem Tryz.callPush(vals:Array Value)(w:World):(callFunc 103 vals).run Tryz.prog w=.ok (.enter 103 vals) w:=by kernel_rfl
def xF(C:MC)(w:World)(ρ:Nat→bC)(nm fbn:Nat→Nat)(cs:Nat→Int)(ct:Int)(L:List dA)(bs:List (List PV))(tk:Nat)(told:List Int)(e:Ending)(w':World):Prop:=e=.returned (.tuple #[])∧qJ C w ρ nm fbn cs ct L bs tk told w'
section
variable {C:MC} {w w':World} {ρ:Nat→bC} {nm fbn:Nat→Nat} {cs:Nat→Int} {ct:Int} {L:List dA} {bs:List (List PV)} {tk:Nat} {told:List Int}
theorem vK{x:dA}(a:Int)(b:Int)(h:MW C w ρ nm fbn cs ct (x :: L) bs tk told)(hn:x.stack.length≤1000):
 Calls Tryz.prog 108 #[.pointer (some ⟨fbn L.length,0,none⟩),.agg #[.int .i64 1,.int .i64 a,.int .i64 b]] w (xF C w ρ nm fbn cs ct (x.st (x.stack++ [⟨a,none⟩]) :: L) bs tk told):=by
 have g1:=(Gr.refl w).alloc (.cells #[.int .i64 1,.int .i64 a,.int .i64 b] 26);have hb1:=heap_alloc_new w (.cells #[.int .i64 1,.int .i64 a,.int .i64 b] 26);have h1:=h.of_gr g1;have HG:=aH g1;have H1:=aH h1;have HC:=aH (fF ⟨a,none⟩ h1 hn);clear h h1 g1 hb1 H1;generalize fbn L.length=fb at HC ⊢;go_enter Tryz.func108,Tryz.ntmps108
 go_wp2_with fail
 refine HC.out.mono ?_;rintro e w2 ⟨rfl,ρ',hM,hK⟩;have HR:=aH (And.intro hM ((an.of_gr HG.out).trans hK));clear hM hK;go_wp2_with fail
 go_end0
 exact ⟨rfl,ρ',HR.out.1,HR.out.2⟩
theorem yw{x:dA}(a:Int)(b:Int)(h:MW C w ρ nm fbn cs ct (x :: L) bs tk told)(hn:x.stack.length≤1000):
 Calls Tryz.prog 108 #[.pointer (some ⟨fbn L.length,0,none⟩),.agg #[.int .i64 18,.int .i64 a,.int .i64 b]] w (xF C w ρ nm fbn cs ct (x.st (x.stack++ [i_]) :: L) bs tk told):=by
 have g1:=(Gr.refl w).alloc (.cells #[.int .i64 18,.int .i64 a,.int .i64 b] 26);have hb1:=heap_alloc_new w (.cells #[.int .i64 18,.int .i64 a,.int .i64 b] 26);have h1:=h.of_gr g1;have HG:=aH g1;have H1:=aH h1;have HC:=aH (fF i_ h1 hn);clear h h1 g1 hb1 H1;generalize fbn L.length=fb at HC ⊢;go_enter Tryz.func108,Tryz.ntmps108
 go_wp2_with fail
 refine HC.out.mono ?_;rintro e w2 ⟨rfl,ρ',hM,hK⟩;have HR:=aH (And.intro hM ((an.of_gr HG.out).trans hK));clear hM hK;go_wp2_with fail
 go_end0
 exact ⟨rfl,ρ',HR.out.1,HR.out.2⟩
theorem yx{x:dA}{s:List PV}{v:PV}(hx:x.stack=s++ [v])(a:Int)(b:Int)(h:MW C w ρ nm fbn cs ct (x :: L) bs tk told)(hn:x.stack.length≤1000):
 Calls Tryz.prog 108 #[.pointer (some ⟨fbn L.length,0,none⟩),.agg #[.int .i64 4,.int .i64 a,.int .i64 b]] w (xF C w ρ nm fbn cs ct (x.st s :: L) bs tk told):=by
 have g1:=(Gr.refl w).alloc (.cells #[.int .i64 4,.int .i64 a,.int .i64 b] 26);have hb1:=heap_alloc_new w (.cells #[.int .i64 4,.int .i64 a,.int .i64 b] 26);have h1:=h.of_gr g1;have HG:=aH g1;have H1:=aH h1;have HC:=aH (eU h1 hx hn);clear h h1 g1 hb1 H1 hx;generalize fbn L.length=fb at HC ⊢;generalize de nm v.blk=p at HC;go_enter Tryz.func108,Tryz.ntmps108
 go_wp2_with fail
 refine HC.out.mono ?_;rintro e w2 ⟨rfl,ρ',hM,hK⟩;have HR:=aH (And.intro hM ((an.of_gr HG.out).trans hK));clear hM hK;go_wp2_with fail
 go_end0
 exact ⟨rfl,ρ',HR.out.1,HR.out.2⟩
theorem Tryz.sizVal:(Tryz.prog.info? 183).map (fun x=>x.size)=some 2:=by kernel_rfl
theorem Tryz.fld1(n:Int)(p:Option Addr)(w:World):(Instr.field 183 (.agg #[.int .i64 n,.pointer p]) 1).run Tryz.prog w=.ok (.pointer p) w:=by kernel_rfl
theorem Tryz.fld0(n:Int)(p:Option Addr)(w:World):(Instr.field 183 (.agg #[.int .i64 n,.pointer p]) 0).run Tryz.prog w=.ok (.int .i64 n) w:=by kernel_rfl
theorem Tryz.blkNil(w:World):(binOp .eql 181 (.pointer none) (.pointer none)).run Tryz.prog w=.ok (.bool true) w:=by kernel_rfl
theorem Tryz.blkNe(a:Addr)(w:World):(binOp .eql 181 (.pointer (some a)) (.pointer none)).run Tryz.prog w=.ok (.bool false) w:=by kernel_rfl
theorem Tryz.blkIs(o:Option Nat)(nm:Nat→Nat)(w:World):(binOp .eql 181 (.pointer (de nm o)) (.pointer none)).run Tryz.prog w=.ok (.bool o.isNone) w:=by
 cases o with
 | none=>exact Tryz.blkNil w
 | some j=>exact Tryz.blkNe _ w
theorem vO{x:dA}{s:List PV}{v:PV}(hx:x.stack=s++ [v])(a:Int)(b:Int)(h:MW C w ρ nm fbn cs ct (x :: L) bs tk told)(hn:x.stack.length≤1000):
 Calls Tryz.prog 108 #[.pointer (some ⟨fbn L.length,0,none⟩),.agg #[.int .i64 19,.int .i64 a,.int .i64 b]] w (xF C w ρ nm fbn cs ct (x.st (s++ [⟨eJ v.blk.isNone,none⟩]) :: L) bs tk told):=by
 have g1:=(Gr.refl w).alloc (.cells #[.int .i64 19,.int .i64 a,.int .i64 b] 26);have hb1:=heap_alloc_new w (.cells #[.int .i64 19,.int .i64 a,.int .i64 b] 26);have h1:=h.of_gr g1;have HG:=aH g1;have H1:=aH h1;have HC:=aH (eU h1 hx hn);have hs:s.length≤1000:=by rw [hx] at hn;simp at hn;omega
 have hf1:=Tryz.fld1;have hisn:=fun (w:World)=>Tryz.blkIs v.blk nm w
 have HP:Hid (∀(w2:World) (ρ':Nat→bC),MW C w2 ρ' nm fbn cs ct (x.st s :: L) bs tk told→Calls Tryz.prog 103 #[.pointer (some ⟨fbn L.length,0,none⟩),.agg #[.int .i64 (eJ v.blk.isNone),.pointer none]] w2 fun e w'=>e=.returned (.tuple #[])∧qJ C w2 ρ' nm fbn cs ct (x.st (s++ [⟨eJ v.blk.isNone,none⟩]) :: L) bs tk told w'):=aH (fun w2 ρ' hM=>fF (x:=x.st s) ⟨eJ v.blk.isNone,none⟩ hM hs);clear h h1 g1 hb1 H1 hx hs;generalize fbn L.length=fb at HC HP ⊢;go_enter Tryz.func108,Tryz.ntmps108
 go_wp2_with fail
 refine HC.out.mono ?_;rintro e w2 ⟨rfl,ρ',hM,hK⟩;have HR:=aH (And.intro hM ((an.of_gr HG.out).trans hK));clear hM hK;go_wp2_with fail
 refine (kU _ _).mono ?_;rintro e w3 ⟨rfl,hg3⟩;have HG3:=aH hg3;clear hg3;go_wp2_with fail
 refine (HP.out _ _ (HR.out.1.of_gr HG3.out)).mono ?_;rintro e w4 ⟨rfl,ρ2,hM,hK⟩;have HR2:=aH (And.intro hM (HR.out.2.trans ((an.of_gr HG3.out).trans hK)));clear hM hK;go_wp2_with fail
 go_end0
 exact ⟨rfl,ρ2,HR2.out.1,HR2.out.2⟩
theorem xV{x:dA}{v:PV}(a:Nat)(ha:x.slots[a]? =some v)(b:Int)(h:MW C w ρ nm fbn cs ct (x :: L) bs tk told)(hn:x.stack.length≤1000):
 Calls Tryz.prog 108 #[.pointer (some ⟨fbn L.length,0,none⟩),.agg #[.int .i64 2,.int .i64 (a:Int),.int .i64 b]] w (xF C w ρ nm fbn cs ct (x.st (x.stack++ [v]) :: L) bs tk told):=by
 have g1:=(Gr.refl w).alloc (.cells #[.int .i64 2,.int .i64 (a:Int),.int .i64 b] 26);have hb1:=heap_alloc_new w (.cells #[.int .i64 2,.int .i64 (a:Int),.int .i64 b] 26);have h1:=h.of_gr g1;have HG:=aH g1;have H1:=aH h1;obtain ⟨vc,vs,vk,f,ht⟩:=h1.frs.1;have hal:=(List.getElem?_eq_some_iff.1 ha).1;have hsl:=ht.sl;have hbox:=ht.box;obtain ⟨g,cap,rfl⟩:∃g cap,vs=.slice (some ⟨g,0,none⟩) x.slots.length cap:=by
  rcases hsl.2 with ⟨_,e⟩|⟨g,cap,cur,e,_⟩
  · omega
  · exact ⟨g,cap,e⟩
 have hr:=jz nm _ a v ha;have d0:=(hsl.cellAt (a * 2) (by omega)).trans hr.1;have d1:=(hsl.cellAt (a * 2+1) (by omega)).trans hr.2;have KS0:Hid (∀w',Gr (w.alloc (.cells #[.int .i64 2,.int .i64 (a:Int),.int .i64 b] 26)) w'→w'.cell? ⟨fbn L.length,2,none⟩=some (.slice (some ⟨g,0,none⟩) x.slots.length cap)∧w'.cell? ⟨w.heap.size,1,none⟩=some (.int .i64 (a:Int))∧w'.cell? ⟨g,a * 2,none⟩=some (.int .i64 v.num)∧w'.cell? ⟨g,a * 2+1,none⟩=some (.pointer (de nm v.blk))):=aH (fun w' g=>⟨g.cell (by rw [aI hbox];rfl) (by simp),g.cell (by rw [aI hb1];rfl) (by simp),g.cell d0 (by simp),g.cell d1 (by simp)⟩);have HC:Hid (∀w',Gr (w.alloc (.cells #[.int .i64 2,.int .i64 (a:Int),.int .i64 b] 26)) w'→Calls Tryz.prog 103 #[.pointer (some ⟨fbn L.length,0,none⟩),.agg #[.int .i64 v.num,.pointer (de nm v.blk)]] w' fun e w2=>e=.returned (.tuple #[])∧qJ C w' ρ nm fbn cs ct (x.st (x.stack++ [v]) :: L) bs tk told w2):=aH (fun w' g=>fF v (H1.out.of_gr g) hn);have hai:(a:Int) < (x.slots.length:Int):=by omega
 clear h h1 g1 hb1 H1 ht hsl hbox d0 d1 hr ha;generalize fbn L.length=fb at HC KS0 ⊢;generalize x.slots.length=n at KS0 hai hal;generalize de nm v.blk=p at HC KS0;generalize v.num=num at HC KS0;go_enter Tryz.func108,Tryz.ntmps108
 go_wp2_with fail
 generalize w.alloc (.cells #[.int .i64 2,.int .i64 (a:Int),.int .i64 b] 26)=W1 at HC KS0 HG ⊢;generalize w.heap.size=bi at KS0 ⊢;refine cH 9 (S:=(fun w'=>w'.cell? ⟨fb,2,none⟩=some (.slice (some ⟨g,0,none⟩) n cap)∧w'.cell? ⟨bi,1,none⟩=some (.int .i64 (a:Int))∧w'.cell? ⟨g,a * 2,none⟩=some (.int .i64 num)∧w'.cell? ⟨g,a * 2+1,none⟩=some (.pointer p))) (by kernel_rfl) (KS0.out _ (Gr.drew (Gr.refl _))) (fun hH=>?_);refine tY 0 ?_;simp only [Act.put,sA,s0,s1];refine tY 1 ?_;simp only [Act.put,sA,s0,s1];refine tY 2 ?_;simp only [Act.put,sA,s0,s1];refine tY 3 ?_;simp only [Act.put,sA,s0,s1];refine tY 4 ?_;simp only [Act.put,sA,s0,s1];refine tY 5 ?_;simp only [Act.put,sA,s0,s1];refine tY 6 ?_;simp only [Act.put,sA,s0,s1];refine tY 7 ?_;simp only [Act.put,sA,s0,s1];refine tY 8 ?_;simp only [Act.put,sA,s0,s1];refine cT (i:=9) rfl (by kernel_rfl) (fun K hK=>?_);refine aS rfl 103 _ _ rfl #[.pointer (some ⟨fb,0,none⟩),.agg #[.int .i64 num,.pointer p]] (by simp [Act.eval]) (Tryz.callPush _ _) ((HC.out _ (Gr.drew (Gr.refl _))).mono ?_);rintro e w2 ⟨rfl,ρ',hM,hK2⟩;have HR:=aH (And.intro hM ((an.of_gr HG.out).trans ((an.of_gr (Gr.drew (Gr.refl _))).trans hK2)));clear hM hK2;refine .inl ⟨_,rfl,?_⟩;refine hK.out _ _ (fun h=>absurd rfl h) (fun _=>?_);clear hK;try simp only [Act.put,sA,s0,s1]
 refine iR (by kernel_rfl) ?_ _;clear hH;go_wp2_with fail
 go_end0
 exact ⟨rfl,ρ',HR.out.1,HR.out.2⟩
theorem vV{x:dA}{s:List PV}{v:PV}(hx:x.stack=s++ [v])(a:Nat)(ha:a < x.slots.length)(b:Int)(h:MW C w ρ nm fbn cs ct (x :: L) bs tk told)(hn:x.stack.length≤1000):
 Calls Tryz.prog 108 #[.pointer (some ⟨fbn L.length,0,none⟩),.agg #[.int .i64 3,.int .i64 (a:Int),.int .i64 b]] w (xF C w ρ nm fbn cs ct (⟨x.fn,x.pos,x.slots.set a v,s⟩ :: L) bs tk told):=by
 have g1:=(Gr.refl w).alloc (.cells #[.int .i64 3,.int .i64 (a:Int),.int .i64 b] 26);have hb1:=heap_alloc_new w (.cells #[.int .i64 3,.int .i64 (a:Int),.int .i64 b] 26);have h1:=h.of_gr g1;have HG:=aH g1;have H1:=aH h1;have HC:=aH (eU h1 hx hn);have HB1:=aH hb1;have hbi:=h.new_no (Nat.le_refl _);have HBI:=aH hbi;have hai:(a:Int) < (x.slots.length:Int):=by omega
 have HL:Hid (w.heap.size < (w.alloc (.cells #[.int .i64 3,.int .i64 (a:Int),.int .i64 b] 26)).heap.size):=aH (by simp);clear h h1 g1 hb1 H1 hx hbi;go_enter Tryz.func108,Tryz.ntmps108
 go_wp2_with fail
 refine HC.out.mono ?_;rintro e w2 ⟨rfl,ρ',hM,hK⟩;have HR:=aH (And.intro hM ((an.of_gr HG.out).trans hK));have HBI2:=aH ((hK.keep _ HL.out HBI.out).trans HB1.out);clear hM hK HC HB1 HBI HG HL;generalize w.alloc (.cells #[.int .i64 3,.int .i64 (a:Int),.int .i64 b] 26)=W1;generalize w.heap.size=bi at HBI2 ⊢;go_wp2_with fail
 have g3:=(Gr.refl w2).alloc (.cells #[.int .i64 v.num,.pointer (de nm v.blk)] 183);have hb3:=heap_alloc_new w2 (.cells #[.int .i64 v.num,.pointer (de nm v.blk)] 183);have hM3:=HR.out.1.of_gr g3;obtain ⟨vc,vs,vk,f,ht⟩:=hM3.frs.1;have hsl:=ht.sl;have hbox:=ht.box;have hrs:=ht.rsl;obtain ⟨g,cap,rfl⟩:∃g cap,vs=.slice (some ⟨g,0,none⟩) x.slots.length cap:=by
  rcases hsl.2 with ⟨_,e⟩|⟨g,cap,cur,e,_⟩
  · have e:x.slots.length=0:=e;omega
  · exact ⟨g,cap,e⟩
 obtain ⟨cur,hgh,hcz⟩:∃cur,(w2.alloc (.cells #[.int .i64 v.num,.pointer (de nm v.blk)] 183)).heap[g]? =some (.cells cur 183 (0,0))∧a * 2+1 < cur.size:=by
  rcases hsl.2 with ⟨e,_⟩|⟨g',cap',cur,e,_,e2,e3,_,e5,_⟩
  · cases e
  · cases e
    have e3:x.slots.length≤cap:=e3;exact ⟨cur,e2,by omega⟩
 have KS0:Hid (∀w',Gr (w2.alloc (.cells #[.int .i64 v.num,.pointer (de nm v.blk)] 183)) w'→w'.cell? ⟨fbn L.length,2,none⟩=some (.slice (some ⟨g,0,none⟩) x.slots.length cap)∧w'.cell? ⟨bi,1,none⟩=some (.int .i64 (a:Int))∧w'.cell? ⟨w2.heap.size,0,none⟩=some (.int .i64 v.num)∧w'.cell? ⟨w2.heap.size,1,none⟩=some (.pointer (de nm v.blk))):=aH (fun w' g=>⟨g.cell (by rw [aI hbox];rfl) (by simp),(g3.trans g).cell (by rw [aI HBI2.out];rfl) (by simp),g.cell (by rw [aI hb3];rfl) (by simp),g.cell (by rw [aI hb3];rfl) (by simp)⟩);have HZ:Hid (∀w',Gr (w2.alloc (.cells #[.int .i64 v.num,.pointer (de nm v.blk)] 183)) w'→MW C ((w'.setCell ⟨g,a * 2,none⟩ (.int .i64 v.num)).setCell ⟨g,a * 2+1,none⟩ (.pointer (de nm v.blk))) ρ' nm fbn cs ct (⟨x.fn,x.pos,x.slots.set a v,s⟩ :: L) bs tk told∧an w ((w'.setCell ⟨g,a * 2,none⟩ (.int .i64 v.num)).setCell ⟨g,a * 2+1,none⟩ (.pointer (de nm v.blk))) ρ ρ'):=aH (fun w' gg=>by
  have hM4:=hM3.of_gr gg;have hst:f8 (fun r=>r≠.no) (w2.alloc (.cells #[.int .i64 v.num,.pointer (de nm v.blk)] 183)) w' ρ' ρ':=fun b hb _=>⟨gg.block b hb (by simp),rfl⟩
  have hz:=hM4.setSlot (a:=a) v (ht.mv hst nofun nofun nofun) rfl;exact ⟨hz.1,HR.out.2.trans ((an.of_gr (g3.trans gg)).trans hz.2)⟩)
 have hg3:∀w',Gr (w2.alloc (.cells #[.int .i64 v.num,.pointer (de nm v.blk)] 183)) w'→w'.heap[g]? =some (.cells cur 183 (0,0)):=fun w' gg=>(gg.block g (Array.getElem?_eq_some_iff.1 hgh).1 (by simp)).trans hgh
 have HH:=aH hg3;clear hM3 ht hsl hbox hrs hb3 g3 hgh hg3 HR HBI2;generalize fbn L.length=fb at KS0 ⊢;generalize x.slots.length=n at KS0 hai ha;generalize de nm v.blk=p at KS0 HZ HH ⊢;generalize v.num=num at KS0 HZ HH ⊢;generalize w2.alloc (.cells #[.int .i64 num,.pointer p] 183)=W2 at KS0 HZ HH ⊢;generalize w2.heap.size=bv at KS0 ⊢;refine cH 8 (S:=(fun w'=>w'.cell? ⟨fb,2,none⟩=some (.slice (some ⟨g,0,none⟩) n cap)∧w'.cell? ⟨bi,1,none⟩=some (.int .i64 (a:Int))∧w'.cell? ⟨bv,0,none⟩=some (.int .i64 num)∧w'.cell? ⟨bv,1,none⟩=some (.pointer p))) (by kernel_rfl) (KS0.out _ (Gr.drew (Gr.refl _))) (fun hH=>?_);refine tY 0 ?_;simp only [Act.put,sA,s0,s1];refine tY 1 ?_;simp only [Act.put,sA,s0,s1];refine tY 2 ?_;simp only [Act.put,sA,s0,s1];refine tY 3 ?_;simp only [Act.put,sA,s0,s1];refine tY 4 ?_;simp only [Act.put,sA,s0,s1];refine tY 5 ?_;simp only [Act.put,sA,s0,s1];refine tY 6 ?_;simp only [Act.put,sA,s0,s1];refine tY 7 ?_;simp only [Act.put,sA,s0,s1];refine cT (i:=8) rfl (by kernel_rfl) (fun K hK=>?_);have f0:=HH.out _ (Gr.refl _);have m0:=aI (o:=a * 2) f0;have m1:=aI (o:=a * 2+1) f0;have z0:=aR (o:=a * 2) f0;have z1:=aR (o:=a * 2+1) f0;rw [Array.getElem?_eq_getElem (by omega)] at m0 m1;have HK:=aH hK;clear hK f0;refine ae (by rfl) ?_;go_simp
 have hK:=HK.out;clear HK m0 m1 z0 z1;refine hK.out _ _ (fun h=>absurd rfl h) (fun _=>?_);clear hK;try simp only [Act.put,sA,s0,s1]
 refine iR (by kernel_rfl) ?_ _;clear hH;have HZ2:=aH (And.intro ((HZ.out _ (Gr.refl _)).1.of_gr (Gr.drew (Gr.refl _))) ((HZ.out _ (Gr.refl _)).2.trans (an.of_gr (Gr.drew (Gr.refl _)))));clear HZ HH KS0;go_wp2_with fail
 go_end0
 exact ⟨rfl,ρ',HZ2.out.1,HZ2.out.2⟩
theorem yp{x:dA}{s:List PV}{v:PV}(hx:x.stack=s++ [v])(a:Int)(b:Int)(h:MW C w ρ nm fbn cs ct (x :: L) bs tk told)(hn:x.stack.length≤1000):
 Calls Tryz.prog 108 #[.pointer (some ⟨fbn L.length,0,none⟩),.agg #[.int .i64 5,.int .i64 a,.int .i64 b]] w (xF C w ρ nm fbn cs ct (x.st (x.stack++ [v]) :: L) bs tk told):=by
 have g1:=(Gr.refl w).alloc (.cells #[.int .i64 5,.int .i64 a,.int .i64 b] 26);have hb1:=heap_alloc_new w (.cells #[.int .i64 5,.int .i64 a,.int .i64 b] 26);have h1:=h.of_gr g1;have HG:=aH g1;have H1:=aH h1;obtain ⟨vc,vs,vk,f,ht⟩:=h1.frs.1;have hsl:=ht.st;have hbox:=ht.box;rw [hx,List.length_append] at hsl;obtain ⟨g,cap,rfl⟩:∃g cap,vk=.slice (some ⟨g,0,none⟩) (s.length+1) cap:=by
  rcases hsl.2 with ⟨_,e⟩|⟨g,cap,cur,e,_⟩
  · simp at e
  · exact ⟨g,cap,e⟩
 have hr:=jz nm (s++ [v]) s.length v (by simp);have d0:=(hsl.cellAt (s.length * 2) (by show s.length * 2 < (s.length+1) * 2;omega)).trans hr.1;have d1:=(hsl.cellAt (s.length * 2+1) (by show s.length * 2+1 < (s.length+1) * 2;omega)).trans hr.2;have KS0:Hid (∀w',Gr (w.alloc (.cells #[.int .i64 5,.int .i64 a,.int .i64 b] 26)) w'→w'.cell? ⟨fbn L.length,3,none⟩=some (.slice (some ⟨g,0,none⟩) (s.length+1) cap)∧w'.cell? ⟨g,s.length * 2,none⟩=some (.int .i64 v.num)∧w'.cell? ⟨g,s.length * 2+1,none⟩=some (.pointer (de nm v.blk))):=aH (fun w' g=>⟨g.cell (by rw [aI hbox];rfl) (by simp),g.cell d0 (by simp),g.cell d1 (by simp)⟩);have HC:Hid (∀w',Gr (w.alloc (.cells #[.int .i64 5,.int .i64 a,.int .i64 b] 26)) w'→Calls Tryz.prog 103 #[.pointer (some ⟨fbn L.length,0,none⟩),.agg #[.int .i64 v.num,.pointer (de nm v.blk)]] w' fun e w2=>e=.returned (.tuple #[])∧qJ C w' ρ nm fbn cs ct (x.st (x.stack++ [v]) :: L) bs tk told w2):=aH (fun w' g=>fF v (H1.out.of_gr g) hn);have hl:s.length≤1000:=by rw [hx] at hn;simp at hn;omega
 have hw1:IntKind.i64.wrap (((s.length+1:Nat):Int) - 1)=(s.length:Int):=by rw [Go.IntWalk.i64_in _ (by omega)];omega
 have hw2:IntKind.i64.wrap ((s.length:Int)+1 - 1)=(s.length:Int):=by rw [Go.IntWalk.i64_in _ (by omega)];omega
 have hw3:IntKind.i64.wrap (s.length:Int)=(s.length:Int):=Go.IntWalk.i64_in _ (by omega);clear h h1 g1 hb1 H1 ht hsl hbox d0 d1 hr hx;generalize fbn L.length=fb at HC KS0 ⊢;generalize s.length=n at KS0 hl hw1 hw2 hw3;have hni:(n:Int) < (n:Int)+1:=by omega
 generalize de nm v.blk=p at HC KS0;generalize v.num=num at HC KS0;go_enter Tryz.func108,Tryz.ntmps108
 go_wp2_with fail
 generalize w.alloc (.cells #[.int .i64 5,.int .i64 a,.int .i64 b] 26)=W1 at HC KS0 HG ⊢;refine wp_region_held_drew (S:=(fun w'=>w'.cell? ⟨fb,3,none⟩=some (.slice (some ⟨g,0,none⟩) (n+1) cap)∧w'.cell? ⟨g,n * 2,none⟩=some (.int .i64 num)∧w'.cell? ⟨g,n * 2+1,none⟩=some (.pointer p))) (by kernel_rfl) (KS0.out _ (Gr.drew (Gr.refl _))) (fun hH=>?_);refine tL 0 ?_;simp only [Act.put,sA,s0,s1];refine tL 1 ?_;simp only [Act.put,sA,s0,s1];refine tL 2 ?_;simp only [Act.put,sA,s0,s1];refine tL 3 ?_;simp only [Act.put,sA,s0,s1];refine tL 4 ?_;simp only [Act.put,sA,s0,s1];refine tL 5 ?_;simp only [Act.put,sA,s0,s1];refine tL 6 ?_;simp only [Act.put,sA,s0,s1];refine tL 7 ?_;simp only [Act.put,sA,s0,s1];refine tL 8 ?_;simp only [Act.put,sA,s0,s1];refine tL 9 ?_;simp only [Act.put,sA,s0,s1];refine tL 10 ?_;simp only [Act.put,sA,s0,s1];refine tL 11 ?_;simp only [Act.put,sA,s0,s1];refine au (i:=12) rfl (by kernel_rfl) (fun K hK=>?_);have HK:=aH hK;clear hK;refine ae (by rfl) ?_;go_simp
 have hK:=HK.out;clear HK;refine hK.out _ _ (KS0.out _ (Gr.drew ((Gr.refl _).alloc _))) (fun hH=>?_);clear hK;try simp only [Act.put,sA,s0,s1]
 refine au (i:=13) rfl (by kernel_rfl) (fun K hK=>?_);have hrow:(W1.alloc (.cells #[.int .i64 0,.pointer none] 183)).drew.setRow W1.drew.heap.size #[.int .i64 num,.pointer p]=(W1.alloc (.cells #[.int .i64 num,.pointer p] 183)).drew:=by
  show ((W1.alloc (.cells #[.int .i64 0,.pointer none] 183)).setRow W1.heap.size #[.int .i64 num,.pointer p]).drew=_
  rw [World.setRow_alloc_new]
 refine ae (by rfl) (wp_store_row (P:=Tryz.prog) 183 _ _ rfl W1.drew.heap.size #[.int .i64 num,.pointer p] (by rfl) (by simp [Act.eval]) 183 _ (heap_alloc_new W1 (.cells #[.int .i64 0,.pointer none] 183)) Tryz.sizVal rfl (by simp [Value.oneCell']) ?_);rw [hrow];clear hrow;refine hK.out _ _ (KS0.out _ (Gr.drew ((Gr.refl _).alloc _))) (fun hH=>?_);clear hK;try simp only [Act.put,sA,s0,s1]
 refine wpAnyH_done (by kernel_rfl) ?_ _;have g3:Gr W1 ((W1.alloc (.cells #[.int .i64 num,.pointer p] 183)).drew):=Gr.drew ((Gr.refl _).alloc _);have hb3:((W1.alloc (.cells #[.int .i64 num,.pointer p] 183)).drew).heap[W1.heap.size]? =some (.cells #[.int .i64 num,.pointer p] 183 (0,0)):=heap_alloc_new W1 _;have HG3:=aH g3;have c0:((W1.alloc (.cells #[.int .i64 num,.pointer p] 183)).drew).cell? ⟨W1.heap.size,0,none⟩=some (.int .i64 num):=by rw [aI hb3];rfl
 have c1:((W1.alloc (.cells #[.int .i64 num,.pointer p] 183)).drew).cell? ⟨W1.heap.size,1,none⟩=some (.pointer p):=by rw [aI hb3];rfl
 clear hH g3 hb3 KS0;generalize (W1.alloc (.cells #[.int .i64 num,.pointer p] 183)).drew=W3 at HG3 c0 c1 ⊢;go_wp2_with fail
 refine (HC.out _ HG3.out).mono ?_;rintro e w2 ⟨rfl,ρ',hM,hK2⟩;have HR:=aH (And.intro hM ((an.of_gr (HG.out.trans HG3.out)).trans hK2));clear hM hK2;go_wp2_with fail
 go_end0
 exact ⟨rfl,ρ',HR.out.1,HR.out.2⟩
theorem xW{x:dA}{s:List PV}{v v':PV}(hx:x.stack=s++ [v,v'])(op a b:Int)(hop:6≤op∧op≤10)(h:MW C w ρ nm fbn cs ct (x :: L) bs tk told)(hn:x.stack.length≤1000):
 Calls Tryz.prog 108 #[.pointer (some ⟨fbn L.length,0,none⟩),.agg #[.int .i64 op,.int .i64 a,.int .i64 b]] w (xF C w ρ nm fbn cs ct (x.st (s++ [⟨gh op v.num v'.num,none⟩]) :: L) bs tk told):=by
 have g1:=(Gr.refl w).alloc (.cells #[.int .i64 op,.int .i64 a,.int .i64 b] 26);have hb1:=heap_alloc_new w (.cells #[.int .i64 op,.int .i64 a,.int .i64 b] 26);have h1:=h.of_gr g1;have HG:=aH g1;have HBI:=aH (h.new_no (Nat.le_refl _));have HB1:=aH hb1;have HL:Hid (w.heap.size < (w.alloc (.cells #[.int .i64 op,.int .i64 a,.int .i64 b] 26)).heap.size):=aH (by simp);have hl:s.length+2≤1000:=by rw [hx] at hn;simpa using hn
 have HC:=aH (eU (s:=s++ [v]) (v:=v') h1 (by rw [hx];simp) hn);have HC2:Hid (∀(w2:World) (ρ':Nat→bC),MW C w2 ρ' nm fbn cs ct (x.st (s++ [v]) :: L) bs tk told→Calls Tryz.prog 100 #[.pointer (some ⟨fbn L.length,0,none⟩)] w2 fun e w'=>e=.returned (.agg #[.int .i64 v.num,.pointer (de nm v.blk)])∧qJ C w2 ρ' nm fbn cs ct (x.st s :: L) bs tk told w'):=aH (fun w2 ρ' hM=>eU (x:=x.st (s++ [v])) (s:=s) (v:=v) hM rfl (by show (s++ [v]).length≤1000;simp;omega));have HP:Hid (∀(w2:World) (ρ':Nat→bC),MW C w2 ρ' nm fbn cs ct (x.st s :: L) bs tk told→Calls Tryz.prog 103 #[.pointer (some ⟨fbn L.length,0,none⟩),.agg #[.int .i64 (gh op v.num v'.num),.pointer none]] w2 fun e w'=>e=.returned (.tuple #[])∧qJ C w2 ρ' nm fbn cs ct (x.st (s++ [⟨gh op v.num v'.num,none⟩]) :: L) bs tk told w'):=aH (fun w2 ρ' hM=>fF (x:=x.st s) ⟨gh op v.num v'.num,none⟩ hM (by show s.length≤1000;omega));have hf0:=Tryz.fld0;have n1:¬op=1:=by omega
 have n2:¬op=2:=by omega
 have n3:¬op=3:=by omega
 have n4:¬op=4:=by omega
 have n5:¬op=5:=by omega
 have n18:¬op=18:=by omega
 have n19:¬op=19:=by omega
 clear h h1 g1 hb1 hx hl hop;generalize fbn L.length=fb at HC HC2 HP ⊢;generalize de nm v.blk=p at HC2;generalize de nm v'.blk=p' at HC;go_enter Tryz.func108,Tryz.ntmps108
 go_wp2_with fail
 refine HC.out.mono ?_;rintro e w2 ⟨rfl,ρ',hM,hK⟩;have HR:=aH (And.intro hM ((an.of_gr HG.out).trans hK));have HE2:=aH ((hK.keep _ HL.out HBI.out).trans HB1.out);have HN2:=aH ((hK.role _ HL.out).trans HBI.out);have HL2:=aH (Nat.lt_of_lt_of_le HL.out hK.size);clear hM hK HB1 HBI HL HC HG;go_wp2_with fail
 refine (HC2.out _ _ HR.out.1).mono ?_;rintro e w3 ⟨rfl,ρ3,hM,hK⟩;have HR3:=aH (And.intro hM (HR.out.2.trans hK));have HE3:=aH ((hK.keep _ HL2.out HN2.out).trans HE2.out);clear hM hK HE2 HN2 HL2 HC2 HR;have k0:w3.cell? ⟨w.heap.size,0,none⟩=some (.int .i64 op):=by rw [aI HE3.out];rfl
 clear HE3;generalize w.heap.size=bi at k0 ⊢;go_wp2_with fail
 refine (nY _ _ _ _).mono ?_;rintro e w4 ⟨rfl,hg4⟩;have HG4:=aH hg4;clear hg4;go_wp2_with fail
 refine (HP.out _ _ (HR3.out.1.of_gr HG4.out)).mono ?_;rintro e w5 ⟨rfl,ρ5,hM,hK⟩;have HR5:=aH (And.intro hM (HR3.out.2.trans ((an.of_gr HG4.out).trans hK)));clear hM hK;go_wp2_with fail
 go_end0
 exact ⟨rfl,ρ5,HR5.out.1,HR5.out.2⟩
end
end Go.Proofs.YtkgncijcnlfhiaaGreat
