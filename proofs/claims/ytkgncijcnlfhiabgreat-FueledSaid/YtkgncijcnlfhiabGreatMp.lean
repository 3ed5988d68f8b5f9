import Derived.Deep.WholeRow
import Derived.Test.YtkgncijcnlfhiabGreatRg5
namespace Go.Proofs.YtkgncijcnlfhiabGreat
set_option maxRecDepth 100000
set_option maxHeartbeats 2000000
set_option linter.unusedVariables false
set_option linter.unusedSimpArgs false
open Go.RowKit
attribute [local go_sem ↓] Go.wp_at_zero Go.wp_at_succ
theorem Tryz.callPush(M0:Array Value)(w:World):(callFunc 93 M0).run Tryz.prog w=.ok (.enter 93 M0) w:=Q7
def yu(C:MC)(w:World)(ρ:Nat->bD)(nm I0:Nat->Nat)(cs:Nat->Int)(ct:Int)(L:List ch)(bs:List (List PV))(tk:Nat)(told:List Int)(e:Ending)(w':World):Prop:=e=.returned (.tuple #[])/\ra C w ρ nm I0 cs ct L bs tk told w'
section
variable {C:MC} {w w':World} {ρ:Nat->bD} {nm I0:Nat->Nat} {cs:Nat->Int} {ct:Int} {L:List ch} {bs:List (List PV)} {tk:Nat} {told:List Int}
theorem xM{x:ch}(a:Int)(b:Int)(h:MW C w ρ nm I0 cs ct (x :: L) bs tk told)(hn:x.stack.length<=1000):
 Calls Tryz.prog 98 #[.pointer (some ⟨I0 L.length,0,none⟩),.agg #[.int .i64 1,.int .i64 a,.int .i64 b]] w (yu C w ρ nm I0 cs ct (x.st (x.stack++ [⟨a,none⟩]) :: L) bs tk told):=by
 have g1:=(Gr.refl w).alloc (.cells #[.int .i64 1,.int .i64 a,.int .i64 b] 42);have Y0:=heap_alloc_new w (.cells #[.int .i64 1,.int .i64 a,.int .i64 b] 42);have h1:=h.of_gr g1;have HG:=aH g1;have H1:=aH h1;have HC:=aH (fo ⟨a,none⟩ h1 hn);clear h h1 g1 Y0 H1;generalize I0 L.length=fb at HC |-;go_enter Tryz.func98,Tryz.ntmps98
 go_wp2_with fail
 refine HC.out.mono ?_;rintro e w2 ⟨rfl,ρ',hM,hK⟩;have HR:=aH (And.intro hM ((am.of_gr HG.out).trans hK));clear hM hK;go_wp2_with fail
 go_end0
 exact ⟨rfl,ρ',HR.out.1,HR.out.2⟩
theorem AY{x:ch}(a:Int)(b:Int)(h:MW C w ρ nm I0 cs ct (x :: L) bs tk told)(hn:x.stack.length<=1000):
 Calls Tryz.prog 98 #[.pointer (some ⟨I0 L.length,0,none⟩),.agg #[.int .i64 18,.int .i64 a,.int .i64 b]] w (yu C w ρ nm I0 cs ct (x.st (x.stack++ [oQ]) :: L) bs tk told):=by
 have g1:=(Gr.refl w).alloc (.cells #[.int .i64 18,.int .i64 a,.int .i64 b] 42);have Y0:=heap_alloc_new w (.cells #[.int .i64 18,.int .i64 a,.int .i64 b] 42);have h1:=h.of_gr g1;have HG:=aH g1;have H1:=aH h1;have HC:=aH (fo oQ h1 hn);clear h h1 g1 Y0 H1;generalize I0 L.length=fb at HC |-;go_enter Tryz.func98,Tryz.ntmps98
 go_wp2_with fail
 refine HC.out.mono ?_;rintro e w2 ⟨rfl,ρ',hM,hK⟩;have HR:=aH (And.intro hM ((am.of_gr HG.out).trans hK));clear hM hK;go_wp2_with fail
 go_end0
 exact ⟨rfl,ρ',HR.out.1,HR.out.2⟩
theorem Am{x:ch}{s:List PV}{v:PV}(hx:x.stack=s++ [v])(a:Int)(b:Int)(h:MW C w ρ nm I0 cs ct (x :: L) bs tk told)(hn:x.stack.length<=1000):
 Calls Tryz.prog 98 #[.pointer (some ⟨I0 L.length,0,none⟩),.agg #[.int .i64 4,.int .i64 a,.int .i64 b]] w (yu C w ρ nm I0 cs ct (x.st s :: L) bs tk told):=by
 have g1:=(Gr.refl w).alloc (.cells #[.int .i64 4,.int .i64 a,.int .i64 b] 42);have Y0:=heap_alloc_new w (.cells #[.int .i64 4,.int .i64 a,.int .i64 b] 42);have h1:=h.of_gr g1;have HG:=aH g1;have H1:=aH h1;have HC:=aH (er h1 hx hn);clear h h1 g1 Y0 H1 hx;generalize I0 L.length=fb at HC |-;generalize di nm v.blk=p at HC;go_enter Tryz.func98,Tryz.ntmps98
 go_wp2_with fail
 refine HC.out.mono ?_;rintro e w2 ⟨rfl,ρ',hM,hK⟩;have HR:=aH (And.intro hM ((am.of_gr HG.out).trans hK));clear hM hK;go_wp2_with fail
 go_end0
 exact ⟨rfl,ρ',HR.out.1,HR.out.2⟩
theorem Tryz.sizVal:(Tryz.prog.info? 166).map (fun x=>x.size)=some 2:=Q7
theorem Tryz.fld1(n:Int)(p:Option Addr)(w:World):(Instr.field 166 (.agg #[.int .i64 n,.pointer p]) 1).run Tryz.prog w=.ok (.pointer p) w:=Q7
theorem Tryz.fld0(n:Int)(p:Option Addr)(w:World):(Instr.field 166 (.agg #[.int .i64 n,.pointer p]) 0).run Tryz.prog w=.ok (.int .i64 n) w:=Q7
theorem Tryz.blkNil(w:World):(binOp .eql 164 (.pointer none) (.pointer none)).run Tryz.prog w=.ok (.bool true) w:=Q7
theorem Tryz.blkNe(a:Addr)(w:World):(binOp .eql 164 (.pointer (some a)) (.pointer none)).run Tryz.prog w=.ok (.bool false) w:=Q7
theorem Tryz.blkIs(o:Option Nat)(nm:Nat->Nat)(w:World):(binOp .eql 164 (.pointer (di nm o)) (.pointer none)).run Tryz.prog w=.ok (.bool o.isNone) w:=by
 cases o with
 | none=>exact Tryz.blkNil w
 | some j=>exact Tryz.blkNe _ w
theorem xA{x:ch}{s:List PV}{v:PV}(hx:x.stack=s++ [v])(a:Int)(b:Int)(h:MW C w ρ nm I0 cs ct (x :: L) bs tk told)(hn:x.stack.length<=1000):
 Calls Tryz.prog 98 #[.pointer (some ⟨I0 L.length,0,none⟩),.agg #[.int .i64 19,.int .i64 a,.int .i64 b]] w (yu C w ρ nm I0 cs ct (x.st (s++ [⟨eg v.blk.isNone,none⟩]) :: L) bs tk told):=by
 have g1:=(Gr.refl w).alloc (.cells #[.int .i64 19,.int .i64 a,.int .i64 b] 42);have Y0:=heap_alloc_new w (.cells #[.int .i64 19,.int .i64 a,.int .i64 b] 42);have h1:=h.of_gr g1;have HG:=aH g1;have H1:=aH h1;have HC:=aH (er h1 hx hn);have hs:s.length<=1000:=by rw [hx] at hn;simp at hn;omega
 have Ro:=Tryz.fld1;have hisn:=fun (w:World)=>Tryz.blkIs v.blk nm w
 have HP:Hid (∀(w2:World) (ρ':Nat->bD),MW C w2 ρ' nm I0 cs ct (x.st s :: L) bs tk told->Calls Tryz.prog 93 #[.pointer (some ⟨I0 L.length,0,none⟩),.agg #[.int .i64 (eg v.blk.isNone),.pointer none]] w2 fun e w'=>e=.returned (.tuple #[])/\ra C w2 ρ' nm I0 cs ct (x.st (s++ [⟨eg v.blk.isNone,none⟩]) :: L) bs tk told w'):=aH (fun w2 ρ' hM=>fo (x:=x.st s) ⟨eg v.blk.isNone,none⟩ hM hs);clear h h1 g1 Y0 H1 hx hs;generalize I0 L.length=fb at HC HP |-;go_enter Tryz.func98,Tryz.ntmps98
 go_wp2_with fail
 refine HC.out.mono ?_;rintro e w2 ⟨rfl,ρ',hM,hK⟩;have HR:=aH (And.intro hM ((am.of_gr HG.out).trans hK));clear hM hK;go_wp2_with fail
 refine (lk _ _).mono ?_;rintro e w3 ⟨rfl,P0⟩;have HG3:=aH P0;clear P0;go_wp2_with fail
 refine (HP.out _ _ (HR.out.1.of_gr HG3.out)).mono ?_;rintro e w4 ⟨rfl,ρ2,hM,hK⟩;have ED:=aH (And.intro hM (HR.out.2.trans ((am.of_gr HG3.out).trans hK)));clear hM hK;go_wp2_with fail
 go_end0
 exact ⟨rfl,ρ2,ED.out.1,ED.out.2⟩
theorem ym{x:ch}{v:PV}(a:Nat)(ha:x.slots[a]? =some v)(b:Int)(h:MW C w ρ nm I0 cs ct (x :: L) bs tk told)(hn:x.stack.length<=1000):
 Calls Tryz.prog 98 #[.pointer (some ⟨I0 L.length,0,none⟩),.agg #[.int .i64 2,.int .i64 (a:Int),.int .i64 b]] w (yu C w ρ nm I0 cs ct (x.st (x.stack++ [v]) :: L) bs tk told):=by
 have g1:=(Gr.refl w).alloc (.cells #[.int .i64 2,.int .i64 (a:Int),.int .i64 b] 42);have Y0:=heap_alloc_new w (.cells #[.int .i64 2,.int .i64 (a:Int),.int .i64 b] 42);have h1:=h.of_gr g1;have HG:=aH g1;have H1:=aH h1;obtain ⟨vc,vs,vk,f,ht⟩:=h1.frs.1;have hal:=(List.getElem?_eq_some_iff.1 ha).1;have hsl:=ht.sl;have N3:=ht.box;obtain ⟨g,cap,rfl⟩:∃g cap,vs=.slice (some ⟨g,0,none⟩) x.slots.length cap:=by
  rcases hsl.2 with ⟨_,e⟩|⟨g,cap,cur,e,_⟩
  · omega
  · exact ⟨g,cap,e⟩
 have hr:=lA nm _ a v ha;have d0:=(hsl.cellAt (a * 2) Q5).trans hr.1;have d1:=(hsl.cellAt (a * 2+1) Q5).trans hr.2;have KS0:Hid (∀w',Gr (w.alloc (.cells #[.int .i64 2,.int .i64 (a:Int),.int .i64 b] 42)) w'->w'.cell? ⟨I0 L.length,2,none⟩=some (.slice (some ⟨g,0,none⟩) x.slots.length cap)/\w'.cell? ⟨w.heap.size,1,none⟩=some (.int .i64 (a:Int))/\w'.cell? ⟨g,a * 2,none⟩=some (.int .i64 v.num)/\w'.cell? ⟨g,a * 2+1,none⟩=some (.pointer (di nm v.blk))):=aH (fun w' g=>⟨g.cell (by rw [aJ N3];rfl) Q6,g.cell (by rw [aJ Y0];rfl) Q6,g.cell d0 Q6,g.cell d1 Q6⟩);have HC:Hid (∀w',Gr (w.alloc (.cells #[.int .i64 2,.int .i64 (a:Int),.int .i64 b] 42)) w'->Calls Tryz.prog 93 #[.pointer (some ⟨I0 L.length,0,none⟩),.agg #[.int .i64 v.num,.pointer (di nm v.blk)]] w' fun e w2=>e=.returned (.tuple #[])/\ra C w' ρ nm I0 cs ct (x.st (x.stack++ [v]) :: L) bs tk told w2):=aH (fun w' g=>fo v (H1.out.of_gr g) hn);have hai:(a:Int) < (x.slots.length:Int):=Q5
 clear h h1 g1 Y0 H1 ht hsl N3 d0 d1 hr ha;generalize I0 L.length=fb at HC KS0 |-;generalize x.slots.length=n at KS0 hai hal;generalize di nm v.blk=p at HC KS0;generalize v.num=num at HC KS0;go_enter Tryz.func98,Tryz.ntmps98
 go_wp2_with fail
 generalize w.alloc (.cells #[.int .i64 2,.int .i64 (a:Int),.int .i64 b] 42)=W1 at HC KS0 HG |-;generalize w.heap.size=bi at KS0 |-;refine cJ 9 (S:=(fun w'=>w'.cell? ⟨fb,2,none⟩=some (.slice (some ⟨g,0,none⟩) n cap)/\w'.cell? ⟨bi,1,none⟩=some (.int .i64 (a:Int))/\w'.cell? ⟨g,a * 2,none⟩=some (.int .i64 num)/\w'.cell? ⟨g,a * 2+1,none⟩=some (.pointer p))) Q7 (KS0.out _ (Gr.drew (Gr.refl _))) (fun hH=>?_);refine tY 0 ?_;simp only [Act.put,sA,s0,s1];refine tY 1 ?_;simp only [Act.put,sA,s0,s1];refine tY 2 ?_;simp only [Act.put,sA,s0,s1];refine tY 3 ?_;simp only [Act.put,sA,s0,s1];refine tY 4 ?_;simp only [Act.put,sA,s0,s1];refine tY 5 ?_;simp only [Act.put,sA,s0,s1];refine tY 6 ?_;simp only [Act.put,sA,s0,s1];refine tY 7 ?_;simp only [Act.put,sA,s0,s1];refine tY 8 ?_;simp only [Act.put,sA,s0,s1];refine cg (i:=9) rfl Q7 (fun K hK=>?_);refine aQ rfl 93 _ _ rfl #[.pointer (some ⟨fb,0,none⟩),.agg #[.int .i64 num,.pointer p]] fk (Tryz.callPush _ _) ((HC.out _ (Gr.drew (Gr.refl _))).mono ?_);rintro e w2 ⟨rfl,ρ',hM,Zr⟩;have HR:=aH (And.intro hM ((am.of_gr HG.out).trans ((am.of_gr (Gr.drew (Gr.refl _))).trans Zr)));clear hM Zr;refine .inl ⟨_,rfl,?_⟩;refine hK.out _ _ (fun h=>absurd rfl h) (fun _=>?_);clear hK;try simp only [Act.put,sA,s0,s1]
 refine jJ Q7 ?_ _;clear hH;go_wp2_with fail
 go_end0
 exact ⟨rfl,ρ',HR.out.1,HR.out.2⟩
theorem yW{x:ch}{s:List PV}{v:PV}(hx:x.stack=s++ [v])(a:Nat)(ha:a < x.slots.length)(b:Int)(h:MW C w ρ nm I0 cs ct (x :: L) bs tk told)(hn:x.stack.length<=1000):
 Calls Tryz.prog 98 #[.pointer (some ⟨I0 L.length,0,none⟩),.agg #[.int .i64 3,.int .i64 (a:Int),.int .i64 b]] w (yu C w ρ nm I0 cs ct (⟨x.fn,x.pos,x.slots.set a v,s⟩ :: L) bs tk told):=by
 have g1:=(Gr.refl w).alloc (.cells #[.int .i64 3,.int .i64 (a:Int),.int .i64 b] 42);have Y0:=heap_alloc_new w (.cells #[.int .i64 3,.int .i64 (a:Int),.int .i64 b] 42);have h1:=h.of_gr g1;have HG:=aH g1;have H1:=aH h1;have HC:=aH (er h1 hx hn);have S6:=aH Y0;have RD:=h.new_no (Nat.le_refl _);have SD:=aH RD;have hai:(a:Int) < (x.slots.length:Int):=Q5
 have HL:Hid (w.heap.size < (w.alloc (.cells #[.int .i64 3,.int .i64 (a:Int),.int .i64 b] 42)).heap.size):=aH Q6;clear h h1 g1 Y0 H1 hx RD;go_enter Tryz.func98,Tryz.ntmps98
 go_wp2_with fail
 refine HC.out.mono ?_;rintro e w2 ⟨rfl,ρ',hM,hK⟩;have HR:=aH (And.intro hM ((am.of_gr HG.out).trans hK));have IA:=aH ((hK.keep _ HL.out SD.out).trans S6.out);clear hM hK HC S6 SD HG HL;generalize w.alloc (.cells #[.int .i64 3,.int .i64 (a:Int),.int .i64 b] 42)=W1;generalize w.heap.size=bi at IA |-;go_wp2_with fail
 have g3:=(Gr.refl w2).alloc (.cells #[.int .i64 v.num,.pointer (di nm v.blk)] 166);have O':=heap_alloc_new w2 (.cells #[.int .i64 v.num,.pointer (di nm v.blk)] 166);have C5:=HR.out.1.of_gr g3;obtain ⟨vc,vs,vk,f,ht⟩:=C5.frs.1;have hsl:=ht.sl;have N3:=ht.box;have Mr:=ht.rsl;obtain ⟨g,cap,rfl⟩:∃g cap,vs=.slice (some ⟨g,0,none⟩) x.slots.length cap:=by
  rcases hsl.2 with ⟨_,e⟩|⟨g,cap,cur,e,_⟩
  · have e:x.slots.length=0:=e;omega
  · exact ⟨g,cap,e⟩
 obtain ⟨cur,Qp,hcz⟩:∃cur,(w2.alloc (.cells #[.int .i64 v.num,.pointer (di nm v.blk)] 166)).heap[g]? =some (.cells cur 166 (0,0))/\a * 2+1 < cur.size:=by
  rcases hsl.2 with ⟨e,_⟩|⟨g',Se,cur,e,_,e2,e3,_,e5,_⟩
  · cases e
  · cases e
    have e3:x.slots.length<=cap:=e3;exact ⟨cur,e2,Q5⟩
 have KS0:Hid (∀w',Gr (w2.alloc (.cells #[.int .i64 v.num,.pointer (di nm v.blk)] 166)) w'->w'.cell? ⟨I0 L.length,2,none⟩=some (.slice (some ⟨g,0,none⟩) x.slots.length cap)/\w'.cell? ⟨bi,1,none⟩=some (.int .i64 (a:Int))/\w'.cell? ⟨w2.heap.size,0,none⟩=some (.int .i64 v.num)/\w'.cell? ⟨w2.heap.size,1,none⟩=some (.pointer (di nm v.blk))):=aH (fun w' g=>⟨g.cell (by rw [aJ N3];rfl) Q6,(g3.trans g).cell (by rw [aJ IA.out];rfl) Q6,g.cell (by rw [aJ O'];rfl) Q6,g.cell (by rw [aJ O'];rfl) Q6⟩);have HZ:Hid (∀w',Gr (w2.alloc (.cells #[.int .i64 v.num,.pointer (di nm v.blk)] 166)) w'->MW C ((w'.setCell ⟨g,a * 2,none⟩ (.int .i64 v.num)).setCell ⟨g,a * 2+1,none⟩ (.pointer (di nm v.blk))) ρ' nm I0 cs ct (⟨x.fn,x.pos,x.slots.set a v,s⟩ :: L) bs tk told/\am w ((w'.setCell ⟨g,a * 2,none⟩ (.int .i64 v.num)).setCell ⟨g,a * 2+1,none⟩ (.pointer (di nm v.blk))) ρ ρ'):=aH (fun w' gg=>by
  have Ve:=C5.of_gr gg;have T0:iC (fun r=>r≠.no) (w2.alloc (.cells #[.int .i64 v.num,.pointer (di nm v.blk)] 166)) w' ρ' ρ':=fun b hb _=>⟨gg.block b hb Q6,rfl⟩
  have hz:=Ve.setSlot (a:=a) v (ht.mv T0 nofun nofun nofun) rfl;exact ⟨hz.1,HR.out.2.trans ((am.of_gr (g3.trans gg)).trans hz.2)⟩)
 have P0:∀w',Gr (w2.alloc (.cells #[.int .i64 v.num,.pointer (di nm v.blk)] 166)) w'->w'.heap[g]? =some (.cells cur 166 (0,0)):=fun w' gg=>(gg.block g (Array.getElem?_eq_some_iff.1 Qp).1 Q6).trans Qp
 have HH:=aH P0;clear C5 ht hsl N3 Mr O' g3 Qp P0 HR IA;generalize I0 L.length=fb at KS0 |-;generalize x.slots.length=n at KS0 hai ha;generalize di nm v.blk=p at KS0 HZ HH |-;generalize v.num=num at KS0 HZ HH |-;generalize w2.alloc (.cells #[.int .i64 num,.pointer p] 166)=W2 at KS0 HZ HH |-;generalize w2.heap.size=bv at KS0 |-;refine cJ 8 (S:=(fun w'=>w'.cell? ⟨fb,2,none⟩=some (.slice (some ⟨g,0,none⟩) n cap)/\w'.cell? ⟨bi,1,none⟩=some (.int .i64 (a:Int))/\w'.cell? ⟨bv,0,none⟩=some (.int .i64 num)/\w'.cell? ⟨bv,1,none⟩=some (.pointer p))) Q7 (KS0.out _ (Gr.drew (Gr.refl _))) (fun hH=>?_);refine tY 0 ?_;simp only [Act.put,sA,s0,s1];refine tY 1 ?_;simp only [Act.put,sA,s0,s1];refine tY 2 ?_;simp only [Act.put,sA,s0,s1];refine tY 3 ?_;simp only [Act.put,sA,s0,s1];refine tY 4 ?_;simp only [Act.put,sA,s0,s1];refine tY 5 ?_;simp only [Act.put,sA,s0,s1];refine tY 6 ?_;simp only [Act.put,sA,s0,s1];refine tY 7 ?_;simp only [Act.put,sA,s0,s1];refine cg (i:=8) rfl Q7 (fun K hK=>?_);have f0:=HH.out _ (Gr.refl _);have m0:=aJ (o:=a * 2) f0;have m1:=aJ (o:=a * 2+1) f0;have z0:=aS (o:=a * 2) f0;have z1:=aS (o:=a * 2+1) f0;rw [Array.getElem?_eq_getElem Q5] at m0 m1;have HK:=aH hK;clear hK f0;refine ae cw ?_;go_simp
 have hK:=HK.out;clear HK m0 m1 z0 z1;refine hK.out _ _ (fun h=>absurd rfl h) (fun _=>?_);clear hK;try simp only [Act.put,sA,s0,s1]
 refine jJ Q7 ?_ _;clear hH;have SK:=aH (And.intro ((HZ.out _ (Gr.refl _)).1.of_gr (Gr.drew (Gr.refl _))) ((HZ.out _ (Gr.refl _)).2.trans (am.of_gr (Gr.drew (Gr.refl _)))));clear HZ HH KS0;go_wp2_with fail
 go_end0
 exact ⟨rfl,ρ',SK.out.1,SK.out.2⟩
theorem AG{x:ch}{s:List PV}{v:PV}(hx:x.stack=s++ [v])(a:Int)(b:Int)(h:MW C w ρ nm I0 cs ct (x :: L) bs tk told)(hn:x.stack.length<=1000):
 Calls Tryz.prog 98 #[.pointer (some ⟨I0 L.length,0,none⟩),.agg #[.int .i64 5,.int .i64 a,.int .i64 b]] w (yu C w ρ nm I0 cs ct (x.st (x.stack++ [v]) :: L) bs tk told):=by
 have g1:=(Gr.refl w).alloc (.cells #[.int .i64 5,.int .i64 a,.int .i64 b] 42);have Y0:=heap_alloc_new w (.cells #[.int .i64 5,.int .i64 a,.int .i64 b] 42);have h1:=h.of_gr g1;have HG:=aH g1;have H1:=aH h1;obtain ⟨vc,vs,vk,f,ht⟩:=h1.frs.1;have hsl:=ht.st;have N3:=ht.box;rw [hx,List.length_append] at hsl;obtain ⟨g,cap,rfl⟩:∃g cap,vk=.slice (some ⟨g,0,none⟩) (s.length+1) cap:=by
  rcases hsl.2 with ⟨_,e⟩|⟨g,cap,cur,e,_⟩
  · simp at e
  · exact ⟨g,cap,e⟩
 have hr:=lA nm (s++ [v]) s.length v Q6;have d0:=(hsl.cellAt (s.length * 2) (by show s.length * 2 < (s.length+1) * 2;omega)).trans hr.1;have d1:=(hsl.cellAt (s.length * 2+1) (by show s.length * 2+1 < (s.length+1) * 2;omega)).trans hr.2;have KS0:Hid (∀w',Gr (w.alloc (.cells #[.int .i64 5,.int .i64 a,.int .i64 b] 42)) w'->w'.cell? ⟨I0 L.length,3,none⟩=some (.slice (some ⟨g,0,none⟩) (s.length+1) cap)/\w'.cell? ⟨g,s.length * 2,none⟩=some (.int .i64 v.num)/\w'.cell? ⟨g,s.length * 2+1,none⟩=some (.pointer (di nm v.blk))):=aH (fun w' g=>⟨g.cell (by rw [aJ N3];rfl) Q6,g.cell d0 Q6,g.cell d1 Q6⟩);have HC:Hid (∀w',Gr (w.alloc (.cells #[.int .i64 5,.int .i64 a,.int .i64 b] 42)) w'->Calls Tryz.prog 93 #[.pointer (some ⟨I0 L.length,0,none⟩),.agg #[.int .i64 v.num,.pointer (di nm v.blk)]] w' fun e w2=>e=.returned (.tuple #[])/\ra C w' ρ nm I0 cs ct (x.st (x.stack++ [v]) :: L) bs tk told w2):=aH (fun w' g=>fo v (H1.out.of_gr g) hn);have hl:s.length<=1000:=by rw [hx] at hn;simp at hn;omega
 have D2:IntKind.i64.wrap (((s.length+1:Nat):Int) - 1)=(s.length:Int):=by rw [Q_];omega
 have D3:IntKind.i64.wrap ((s.length:Int)+1 - 1)=(s.length:Int):=by rw [Q_];omega
 have V5:IntKind.i64.wrap (s.length:Int)=(s.length:Int):=Q_;clear h h1 g1 Y0 H1 ht hsl N3 d0 d1 hr hx;generalize I0 L.length=fb at HC KS0 |-;generalize s.length=n at KS0 hl D2 D3 V5;have hni:(n:Int) < (n:Int)+1:=Q5
 generalize di nm v.blk=p at HC KS0;generalize v.num=num at HC KS0;go_enter Tryz.func98,Tryz.ntmps98
 go_wp2_with fail
 generalize w.alloc (.cells #[.int .i64 5,.int .i64 a,.int .i64 b] 42)=W1 at HC KS0 HG |-;refine wp_region_held_drew (S:=(fun w'=>w'.cell? ⟨fb,3,none⟩=some (.slice (some ⟨g,0,none⟩) (n+1) cap)/\w'.cell? ⟨g,n * 2,none⟩=some (.int .i64 num)/\w'.cell? ⟨g,n * 2+1,none⟩=some (.pointer p))) Q7 (KS0.out _ (Gr.drew (Gr.refl _))) (fun hH=>?_);refine tL 0 ?_;simp only [Act.put,sA,s0,s1];refine tL 1 ?_;simp only [Act.put,sA,s0,s1];refine tL 2 ?_;simp only [Act.put,sA,s0,s1];refine tL 3 ?_;simp only [Act.put,sA,s0,s1];refine tL 4 ?_;simp only [Act.put,sA,s0,s1];refine tL 5 ?_;simp only [Act.put,sA,s0,s1];refine tL 6 ?_;simp only [Act.put,sA,s0,s1];refine tL 7 ?_;simp only [Act.put,sA,s0,s1];refine tL 8 ?_;simp only [Act.put,sA,s0,s1];refine tL 9 ?_;simp only [Act.put,sA,s0,s1];refine tL 10 ?_;simp only [Act.put,sA,s0,s1];refine tL 11 ?_;simp only [Act.put,sA,s0,s1];refine aq (i:=12) rfl Q7 (fun K hK=>?_);have HK:=aH hK;clear hK;refine ae cw ?_;go_simp
 have hK:=HK.out;clear HK;refine hK.out _ _ (KS0.out _ (Gr.drew ((Gr.refl _).alloc _))) (fun hH=>?_);clear hK;try simp only [Act.put,sA,s0,s1]
 refine aq (i:=13) rfl Q7 (fun K hK=>?_);have T1:(W1.alloc (.cells #[.int .i64 0,.pointer none] 166)).drew.setRow W1.drew.heap.size #[.int .i64 num,.pointer p]=(W1.alloc (.cells #[.int .i64 num,.pointer p] 166)).drew:=by
  show ((W1.alloc (.cells #[.int .i64 0,.pointer none] 166)).setRow W1.heap.size #[.int .i64 num,.pointer p]).drew=_
  rw [World.setRow_alloc_new]
 refine ae cw (wp_store_row (P:=Tryz.prog) 166 _ _ rfl W1.drew.heap.size #[.int .i64 num,.pointer p] cw fk 166 _ (heap_alloc_new W1 (.cells #[.int .i64 0,.pointer none] 166)) Tryz.sizVal rfl (by simp [Value.oneCell']) ?_);rw [T1];clear T1;refine hK.out _ _ (KS0.out _ (Gr.drew ((Gr.refl _).alloc _))) (fun hH=>?_);clear hK;try simp only [Act.put,sA,s0,s1]
 refine wpAnyH_done Q7 ?_ _;have g3:Gr W1 ((W1.alloc (.cells #[.int .i64 num,.pointer p] 166)).drew):=Gr.drew ((Gr.refl _).alloc _);have O':((W1.alloc (.cells #[.int .i64 num,.pointer p] 166)).drew).heap[W1.heap.size]? =some (.cells #[.int .i64 num,.pointer p] 166 (0,0)):=heap_alloc_new W1 _;have HG3:=aH g3;have c0:((W1.alloc (.cells #[.int .i64 num,.pointer p] 166)).drew).cell? ⟨W1.heap.size,0,none⟩=some (.int .i64 num):=by rw [aJ O'];rfl
 have c1:((W1.alloc (.cells #[.int .i64 num,.pointer p] 166)).drew).cell? ⟨W1.heap.size,1,none⟩=some (.pointer p):=by rw [aJ O'];rfl
 clear hH g3 O' KS0;generalize (W1.alloc (.cells #[.int .i64 num,.pointer p] 166)).drew=W3 at HG3 c0 c1 |-;go_wp2_with fail
 refine (HC.out _ HG3.out).mono ?_;rintro e w2 ⟨rfl,ρ',hM,Zr⟩;have HR:=aH (And.intro hM ((am.of_gr (HG.out.trans HG3.out)).trans Zr));clear hM Zr;go_wp2_with fail
 go_end0
 exact ⟨rfl,ρ',HR.out.1,HR.out.2⟩
theorem zL{x:ch}{s:List PV}{v v':PV}(hx:x.stack=s++ [v,v'])(op a b:Int)(Da:6<=op/\op<=10)(h:MW C w ρ nm I0 cs ct (x :: L) bs tk told)(hn:x.stack.length<=1000):
 Calls Tryz.prog 98 #[.pointer (some ⟨I0 L.length,0,none⟩),.agg #[.int .i64 op,.int .i64 a,.int .i64 b]] w (yu C w ρ nm I0 cs ct (x.st (s++ [⟨iF op v.num v'.num,none⟩]) :: L) bs tk told):=by
 have g1:=(Gr.refl w).alloc (.cells #[.int .i64 op,.int .i64 a,.int .i64 b] 42);have Y0:=heap_alloc_new w (.cells #[.int .i64 op,.int .i64 a,.int .i64 b] 42);have h1:=h.of_gr g1;have HG:=aH g1;have SD:=aH (h.new_no (Nat.le_refl _));have S6:=aH Y0;have HL:Hid (w.heap.size < (w.alloc (.cells #[.int .i64 op,.int .i64 a,.int .i64 b] 42)).heap.size):=aH Q6;have hl:s.length+2<=1000:=by rw [hx] at hn;simpa using hn
 have HC:=aH (er (s:=s++ [v]) (v:=v') h1 (by rw [hx];simp) hn);have O3:Hid (∀(w2:World) (ρ':Nat->bD),MW C w2 ρ' nm I0 cs ct (x.st (s++ [v]) :: L) bs tk told->Calls Tryz.prog 90 #[.pointer (some ⟨I0 L.length,0,none⟩)] w2 fun e w'=>e=.returned (.agg #[.int .i64 v.num,.pointer (di nm v.blk)])/\ra C w2 ρ' nm I0 cs ct (x.st s :: L) bs tk told w'):=aH (fun w2 ρ' hM=>er (x:=x.st (s++ [v])) (s:=s) (v:=v) hM rfl (by show (s++ [v]).length<=1000;simp;omega));have HP:Hid (∀(w2:World) (ρ':Nat->bD),MW C w2 ρ' nm I0 cs ct (x.st s :: L) bs tk told->Calls Tryz.prog 93 #[.pointer (some ⟨I0 L.length,0,none⟩),.agg #[.int .i64 (iF op v.num v'.num),.pointer none]] w2 fun e w'=>e=.returned (.tuple #[])/\ra C w2 ρ' nm I0 cs ct (x.st (s++ [⟨iF op v.num v'.num,none⟩]) :: L) bs tk told w'):=aH (fun w2 ρ' hM=>fo (x:=x.st s) ⟨iF op v.num v'.num,none⟩ hM (by show s.length<=1000;omega));have hf0:=Tryz.fld0;have n1:¬op=1:=Q5
 have n2:¬op=2:=Q5
 have n3:¬op=3:=Q5
 have n4:¬op=4:=Q5
 have n5:¬op=5:=Q5
 have n18:¬op=18:=Q5
 have n19:¬op=19:=Q5
 clear h h1 g1 Y0 hx hl Da;generalize I0 L.length=fb at HC O3 HP |-;generalize di nm v.blk=p at O3;generalize di nm v'.blk=p' at HC;go_enter Tryz.func98,Tryz.ntmps98
 go_wp2_with fail
 refine HC.out.mono ?_;rintro e w2 ⟨rfl,ρ',hM,hK⟩;have HR:=aH (And.intro hM ((am.of_gr HG.out).trans hK));have Jf:=aH ((hK.keep _ HL.out SD.out).trans S6.out);have G':=aH ((hK.role _ HL.out).trans SD.out);have Nb:=aH (Nat.lt_of_lt_of_le HL.out hK.size);clear hM hK S6 SD HL HC HG;go_wp2_with fail
 refine (O3.out _ _ HR.out.1).mono ?_;rintro e w3 ⟨rfl,ρ3,hM,hK⟩;have Ld:=aH (And.intro hM (HR.out.2.trans hK));have Va:=aH ((hK.keep _ Nb.out G'.out).trans Jf.out);clear hM hK Jf G' Nb O3 HR;have k0:w3.cell? ⟨w.heap.size,0,none⟩=some (.int .i64 op):=by rw [aJ Va.out];rfl
 clear Va;generalize w.heap.size=bi at k0 |-;go_wp2_with fail
 refine (pL _ _ _ _).mono ?_;rintro e w4 ⟨rfl,T4⟩;have O1:=aH T4;clear T4;go_wp2_with fail
 refine (HP.out _ _ (Ld.out.1.of_gr O1.out)).mono ?_;rintro e w5 ⟨rfl,ρ5,hM,hK⟩;have Ei:=aH (And.intro hM (Ld.out.2.trans ((am.of_gr O1.out).trans hK)));clear hM hK;go_wp2_with fail
 go_end0
 exact ⟨rfl,ρ5,Ei.out.1,Ei.out.2⟩
end
end Go.Proofs.YtkgncijcnlfhiabGreat
