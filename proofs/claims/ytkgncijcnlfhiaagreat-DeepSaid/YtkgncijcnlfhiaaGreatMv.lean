import Derived.WalkMore
import Derived.Test.YtkgncijcnlfhiaaGreatMu
namespace Go.Proofs.YtkgncijcnlfhiaaGreat
set_option linter.unusedVariables false
set_option linter.unusedSimpArgs false
open Go.RowKit
attribute [local go_sem ↓] Go.wp_at_zero Go.wp_at_succ
theorem Tryz.frmNil(w:World):(binOp .eql 122 (.pointer none) (.pointer none)).run Tryz.prog w=.ok (.bool true) w:=by kernel_rfl
theorem Tryz.frmNe(a:Addr)(w:World):(binOp .eql 122 (.pointer (some a)) (.pointer none)).run Tryz.prog w=.ok (.bool false) w:=by kernel_rfl
theorem Tryz.sizIns:(Tryz.prog.info? 26).map (fun x=>x.size)=some 3:=by kernel_rfl
theorem Tryz.callTake(vals:Array Value)(w:World):(callFunc 101 vals).run Tryz.prog w=.ok (.enter 101 vals) w:=by kernel_rfl
theorem Tryz.callMade(vals:Array Value)(w:World):(callFunc 105 vals).run Tryz.prog w=.ok (.enter 105 vals) w:=by kernel_rfl
theorem Tryz.callRoom(vals:Array Value)(w:World):(callFunc 104 vals).run Tryz.prog w=.ok (.enter 104 vals) w:=by kernel_rfl
theorem cells7{w:World}{b:Nat}{v0 v1 v2 v3 v4 v5 v6:Value}{t:TypeId}(h:w.heap[b]? =some (.cells #[v0,v1,v2,v3,v4,v5,v6] t (0,0))):(w.cell? ⟨b,0,none⟩=some v0∧w.cell? ⟨b,1,none⟩=some v1∧w.cell? ⟨b,2,none⟩=some v2∧w.cell? ⟨b,3,none⟩=some v3∧w.cell? ⟨b,4,none⟩=some v4∧w.cell? ⟨b,5,none⟩=some v5∧w.cell? ⟨b,6,none⟩=some v6)∧(w.frozen? ⟨b,0,none⟩=false∧w.frozen? ⟨b,1,none⟩=false∧w.frozen? ⟨b,2,none⟩=false∧w.frozen? ⟨b,3,none⟩=false∧w.frozen? ⟨b,4,none⟩=false∧w.frozen? ⟨b,5,none⟩=false∧w.frozen? ⟨b,6,none⟩=false):=
 ⟨⟨by rw [hcell_ h];rfl,by rw [hcell_ h];rfl,by rw [hcell_ h];rfl,by rw [hcell_ h];rfl,by rw [hcell_ h];rfl,by rw [hcell_ h];rfl,by rw [hcell_ h];rfl⟩,⟨hfrozen_ h,hfrozen_ h,hfrozen_ h,hfrozen_ h,hfrozen_ h,hfrozen_ h,hfrozen_ h⟩⟩
theorem Tryz.sizOut:(Tryz.prog.info? 39).map (fun x=>x.size)=some 7:=by kernel_rfl
theorem Tryz.anyOut:(Tryz.prog.underlying 39).any (fun d=>match d with| .struct _=>true|_=>false)=true:=by kernel_rfl
theorem Tryz.undOut:∃fs,Tryz.prog.underlying 39=some (.struct fs):=by
 have h:=Tryz.anyOut;cases hd:Tryz.prog.underlying 39 with
 | none=>rw [hd] at h;cases h
 | some d=>
  rw [hd] at h;cases d<;>first|exact ⟨_,rfl⟩|cases h
theorem OutAt.mk{w:World}{ob:Nat}{why res st:Int}(h:OutAt w ob why res st):mkA w ⟨ob,6,none⟩=st:=by
 unfold mkA;rw [hcell_ h];rfl
theorem Kept.keepAt{w w':World}{ρ ρ':Nat→Role}{b:Nat}{o:Obj}(k:Kept w w' ρ ρ')(hb:w.heap[b]? =some o)(hr:ρ b=.no):w'.heap[b]? =some o∧ρ' b=.no:=
 ⟨(k.keep b (Array.getElem?_eq_some_iff.1 hb).1 hr).trans hb,(k.role b (Array.getElem?_eq_some_iff.1 hb).1).trans hr⟩
theorem Here.step{u:PUnit}{Ts:Nat→Nat→Option (List Int)}{σ:List Int}{m:PM}{f:PFunc}{i:PIns}{base ts ps:List Int}{a b:List PV}(heap:Nat)(hh:Here u Ts σ m.top f i base ts ps a b):pStep u heap m=insP u heap m i:=by
 have hia:insAt u m.top=some i:=by unfold insAt;rw [hh.func];exact hh.code
 unfold pStep;rw [hia]
theorem MOk.facts{u:PUnit}{Ts:Nat→Nat→Option (List Int)}{σ:List Int}{m:PM}(hu:UOk u)(h:MOk u Ts σ m):(∀x∈m.top :: m.low,Bd m.blks.length x.slots∧Bd m.blks.length x.stack)∧(∀x∈m.top :: m.low,x.slots.length≤1000∧x.stack.length≤1000)∧(∀r∈m.blks,Bd m.blks.length r)∧(∀r∈m.blks,r.length≤1000):=by
 have hl:=h.shapes;have hsl:∀(f:PFunc) (n:Nat) (vs:List PV),u.funcs[n]? =some f→LOk σ (f.params++f.locals) vs→vs.length≤1000:=fun f n vs hf hk=>by
  have h1:=hu.func f (List.mem_of_getElem? hf);have h2:=hk.1;rw [List.length_append] at h2;omega
 have hlow:∀(l:List PFr) (c:Nat),LowOk u Ts σ c l→∀x∈l,(Bd m.blks.length x.slots∧Bd m.blks.length x.stack)∧(x.slots.length≤1000∧x.stack.length≤1000):=by
  intro l
  induction l with
  | nil=>intro c _ x hx;cases hx
  | cons y l ih=>
   intro c hc x hx;rcases List.mem_cons.1 hx with rfl|hx
   · obtain ⟨f,i,g,s,k1,k2,k3,k4,k5,k6,k7,k8,k9⟩:=hc.1;refine ⟨⟨hl▸k7.bd,hl▸k8.bd⟩,hsl f _ _ k1 k7,?_⟩;have:=k8.1
     rw [List.length_take] at this;omega
   · exact ih _ hc.2 x hx
 have hblk:∀r∈m.blks,Bd m.blks.length r∧r.length≤1000:=fun r hr=>by
  obtain ⟨j,hj,rfl⟩:=List.getElem_of_mem hr;obtain ⟨s,_,hs,hk⟩:=h.blks j _ _ (List.getElem?_eq_getElem (hl▸hj)) (List.getElem?_eq_getElem hj);have:=(hu.shape s (List.mem_of_getElem? hs)).2.1
  exact ⟨hl▸hk.bd,by rw [←hk.1];omega⟩
 have htop:(Bd m.blks.length m.top.slots∧Bd m.blks.length m.top.stack)∧(m.top.slots.length≤1000∧m.top.stack.length≤1000):=by
  obtain ⟨f,s,k1,k2,k3,k4,k5⟩:=h.top.fn;exact ⟨⟨hl▸k3.bd,hl▸k4.bd⟩,hsl f _ _ k1 k3,by rw [←k4.1];omega⟩
 have hall:∀x∈m.top :: m.low,(Bd m.blks.length x.slots∧Bd m.blks.length x.stack)∧(x.slots.length≤1000∧x.stack.length≤1000):=fun x hx=>by
  rcases List.mem_cons.1 hx with rfl|hx
  · exact htop
  · exact hlow _ _ h.low x hx
 exact ⟨fun x hx=>(hall x hx).1,fun x hx=>(hall x hx).2,fun r hr=>(hblk r hr).1,fun r hr=>(hblk r hr).2⟩
section
variable {C:MC} {w w':World} {ρ:Nat→Role} {nm fbn:Nat→Nat} {cs:Nat→Int} {ct:Int} {L:List PFr} {bs:List (List PV)} {tk:Nat} {told:List Int}
theorem MW.at1{x:PFr}(h:MW C w ρ nm fbn cs ct (x :: L) bs tk told):w.cell? ⟨fbn L.length,1,none⟩=some (.int .i64 (x.pos:Int))∧w.frozen? ⟨fbn L.length,1,none⟩=false:=by
 obtain ⟨vc,vs,vk,f,ht⟩:=h.frs.1;exact ⟨by rw [hcell_ ht.box];rfl,hfrozen_ ht.box⟩
theorem MW.outSet{w0:World}{ρ0:Nat→Role}{ob o:Nat}{v:Value}(h:MW C w ρ nm fbn cs ct L bs tk told)(hro:ρ ob=.no)(hlt:w0.heap.size≤ob)(hV:C.V.heap.size≤w0.heap.size)(hk:Kept w0 w ρ0 ρ):MW C (w.setCell ⟨ob,o,none⟩ v) ρ nm fbn cs ct L bs tk told∧Kept w0 (w.setCell ⟨ob,o,none⟩ v) ρ0 ρ:=by
 have hoth:∀b,¬b=ob→(w.setCell ⟨ob,o,none⟩ v).heap[b]? =w.heap[b]? :=fun b hb=>Below.heap_setCell _ _ _ _ hb
 refine ⟨h.other rfl rfl rfl (by simp) (fun b hb hr=>hoth b (fun e=>?_)),⟨hk.os,hk.tape,hk.output,by simpa using hk.size,hk.role,fun b hb e=>(hoth b (by omega)).trans (hk.keep b hb e)⟩⟩;subst e;rcases hr with hr|hr
 · exact hr hro
 · omega
theorem RunE.of{w0 w1:World}{ρ0:Nat→Role}{rb:Nat}{FIN:POut}(h:MW C w ρ nm fbn cs ct L bs tk FIN.told)(hk:Kept w0 w ρ0 ρ)(hrb:w0.heap[rb]? =some (.cells #[.int .i64 0,.int .i64 0,.int .i64 0,.int .i64 0,.int .i64 0,.slice none 0 0,.int .i64 0] 39 (0,0)))(hro:ρ0 rb=.no)(hw0:w0=w1.alloc (.cells #[.int .i64 0,.int .i64 0,.int .i64 0,.int .i64 0,.int .i64 0,.slice none 0 0,.int .i64 0] 39))(hr1:rb=w1.heap.size)(hV:C.V.heap.size≤w1.heap.size)(row:Array Value):RunE C w1 ρ0 FIN (w.setRow rb row):=by
 have hkr:=hk.keepAt hrb hro;have hoth:∀b,¬b=rb→(w.setRow rb row).heap[b]? =w.heap[b]? :=fun b hb=>setRow_other _ _ _ _ hb
 have hsz:(w.setRow rb row).heap.size=w.heap.size:=by simp
 have hs0:w0.heap.size=w1.heap.size+1:=by rw [hw0];simp
 have g01:Gr w1 w0:=by rw [hw0];exact (Gr.refl w1).alloc _
 refine ⟨ρ,nm,fbn,cs,ct,L,bs,tk,h.other rfl rfl rfl (by omega) (fun b hb hr=>hoth b (fun e=>?_)),⟨hk.os.trans g01.os,hk.tape.trans g01.tape,hk.output.trans g01.output,by have:=hk.size;omega,fun b hb=>hk.role b (by omega),fun b hb e=>(hoth b (by omega)).trans ((hk.keep b (by omega) e).trans (g01.block b hb (by simp)))⟩⟩;subst e;rcases hr with hr|hr
 · exact hr hkr.2
 · omega
end
set_option maxRecDepth 100000 in
set_option maxHeartbeats 1000000 in
theorem mrun_any(C:MC)(Ts:Nat→Nat→Option (List Int))(w:World)(ρ0:Nat→Role)(nm0 fbn0:Nat→Nat)(cs0:Nat→Int)(m0:PM)(σ0:List Int)(fuel:Nat)(hfu:fuel≤200000)(hhp:C.heap≤10000000)(hu:UW C)(hT:∀n f,C.u.funcs[n]? =some f→Tab C.u f (Ts n))(hM:MW C w ρ0 nm0 fbn0 cs0 0 (m0.top :: m0.low) m0.blks m0.taken m0.told)(hok:MOk C.u Ts σ0 m0)(hb0:m0.blks= [])(ht0:m0.taken=0)(FIN:POut)(hF:pRun C.u C.heap fuel 0 m0=FIN):
 Calls Tryz.prog 67 #[.pointer (some ⟨C.mb,0,none⟩),.pointer (some ⟨fbn0 m0.low.length,0,none⟩),.int .i64 (fuel:Int)] w fun e w'=>e=.returned (.agg #[.int .i64 FIN.why,.int .i64 0,.int .i64 0,.int .i64 0,.int .i64 FIN.result,.slice none 0 0,.int .i64 FIN.steps])∧RunE C w ρ0 FIN w':=by
 have g0:=(Gr.refl w).alloc (.cells #[.int .i64 0,.int .i64 0,.int .i64 0,.int .i64 0,.int .i64 0,.slice none 0 0,.int .i64 0] 39);have hb0':=heap_alloc_new w (.cells #[.int .i64 0,.int .i64 0,.int .i64 0,.int .i64 0,.int .i64 0,.slice none 0 0,.int .i64 0] 39);obtain ⟨w0,hw0⟩:∃w0,w0=w.alloc (.cells #[.int .i64 0,.int .i64 0,.int .i64 0,.int .i64 0,.int .i64 0,.slice none 0 0,.int .i64 0] 39):=⟨_,rfl⟩;rw [←hw0] at g0 hb0';have hs0:w0.heap.size=w.heap.size+1:=by rw [hw0];simp
 obtain ⟨rb,hrb⟩:∃rb,rb=w.heap.size:=⟨_,rfl⟩;obtain ⟨ob,hob⟩:∃ob,ob=w.heap.size+1:=⟨_,rfl⟩;rw [←hrb] at hb0';have g1:=(Gr.refl w0).alloc (.cells #[.int .i64 7,.int .i64 0,.int .i64 0,.int .i64 0,.int .i64 0,.slice none 0 0,.int .i64 0] 39);have hb1:=heap_alloc_new w0 (.cells #[.int .i64 7,.int .i64 0,.int .i64 0,.int .i64 0,.int .i64 0,.slice none 0 0,.int .i64 0] 39);rw [hs0,←hob] at hb1;have HINI:Hid (RunI C Ts w0 ρ0 ob rb fuel FIN (w0.alloc (.cells #[.int .i64 7,.int .i64 0,.int .i64 0,.int .i64 0,.int .i64 0,.slice none 0 0,.int .i64 0] 39)) (.pointer (some ⟨fbn0 m0.low.length,0,none⟩))):=hide ⟨m0,0,ρ0,nm0,fbn0,cs0,0,σ0,rfl,⟨hb1,(g1.block rb (by omega) (by simp)),by omega,hM.new_no (by omega),by omega,hM.new_no (by omega),Nat.zero_le _,hF,hok,Int.le_refl _,Int.le_refl _,by rw [hb0];exact Nat.le_refl _,by rw [ht0];exact Nat.zero_le _,(hM.of_gr g0).of_gr g1,Kept.of_gr g1⟩⟩;have HRB:=hide hb0';have HRO:Hid (ρ0 rb=.no):=hide (hM.new_no (by omega));have HW0:=hide hw0;have HR1:=hide hrb;have HV1:=hide hM.gr.size;have HV0:Hid (C.V.heap.size≤w0.heap.size):=hide (by have:=hM.gr.size;omega);have HOR:Hid (¬ob=rb):=hide (by omega);have HU:=hide hu;have HT:=hide hT;have HHP:=hide hhp;clear hM hok hb0 ht0 hF g0 g1 hb1 hu hT hb0';go_enter Tryz.func67,Tryz.ntmps67
 go_wp2_with fail
 go_step3
 go_wp2_with fail
 go_step3
 rw [←hw0,←hob,←hrb];clear hs0 hob hrb hw0;generalize w0.alloc (.cells #[.int .i64 7,.int .i64 0,.int .i64 0,.int .i64 0,.int .i64 0,.slice none 0 0,.int .i64 0] 39)=WI at HINI ⊢;go_wp2_with fail
 go_loopw [1] (fun vf wr=>RunI C Ts w0 ρ0 ob rb fuel FIN wr vf) (fun _ wr=>fuel - (mkA wr ⟨ob,6,none⟩).toNat)
 case atStart=>exact HINI.out
 case round=>
  obtain ⟨⟨x,L,bs,tk,told⟩,s,ρ,nm,fbn,cs,ct,σ,hvf,hS⟩:=hrel;replace hvf:_=Value.pointer (some ⟨fbn L.length,0,none⟩):=hvf;subst hvf;have HSt:=hide hS;have hOut:=hS.out;have HMK:=hide hOut.mk;have c7:=cells7 hOut;clear HINI;by_cases hlt:s < fuel
  · have c6:wr.cell? ⟨ob,6,none⟩=some (.int .i64 (s:Int)):=c7.1.2.2.2.2.2.2;have z6:wr.frozen? ⟨ob,6,none⟩=false:=c7.2.2.2.2.2.2.2;have hlti:(s:Int) < (fuel:Int):=by omega
    have hws:IntKind.i64.wrap ((s:Int)+1)=((s:Int)+1):=Go.IntWalk.i64_in _ (by omega);have hmw:MW C wr ρ nm fbn cs ct (x :: L) bs tk told:=hS.mw;have hT1:=hmw.outSet (o:=6) (v:=.int .i64 ((s:Int)+1)) hS.oro hS.olt HV0.out hS.kp;have hO1:OutAt (wr.setCell ⟨ob,6,none⟩ (.int .i64 ((s:Int)+1))) ob 7 0 ((s:Int)+1):=(heap_setCell_same wr ob 6 _ _ _ hOut).trans (by simp);obtain ⟨f,i,base,ts,ps,a,b,hh⟩:=here_ok HU.out.ok HU.out.imp HT.out hS.ok.top;have hh:Here C.u Ts σ x f i base ts ps a b:=hh;have HH:=hide hh;obtain ⟨vc,vs,vk,f',ht⟩:=hT1.1.frs.1;have ef:f'=f:=by have:=ht.func;rw [hh.func] at this;cases this;rfl
    subst ef;obtain ⟨ca,cc,rfl,_,hcc⟩:=ht.code;obtain ⟨cb,off,rfl,q0,q1,q2⟩:=hcc x.pos i hh.code;have hpl:x.pos < f'.code.length:=(List.getElem?_eq_some_iff.1 hh.code).1;have hcl:f'.code.length≤200:=(HU.out.ok.func f' (List.mem_of_getElem? hh.func)).2.2.2.1;have hbox:=ht.box;have KS0:Hid (∀w',Gr (wr.setCell ⟨ob,6,none⟩ (.int .i64 ((s:Int)+1))) w'→w'.cell? ⟨fbn L.length,0,none⟩=some (.slice (some ⟨cb,off,none⟩) f'.code.length cc)∧w'.cell? ⟨fbn L.length,1,none⟩=some (.int .i64 (x.pos:Int))∧w'.cell? ⟨cb,off+x.pos * 3,none⟩=some (.int .i64 i.op)∧w'.cell? ⟨cb,off+x.pos * 3+1,none⟩=some (.int .i64 i.a)∧w'.cell? ⟨cb,off+x.pos * 3+2,none⟩=some (.int .i64 i.b)):=hide (fun w' gg=>⟨gg.cell (by rw [hcell_ hbox];rfl) (by simp),gg.cell (by rw [hcell_ hbox];rfl) (by simp),(hT1.1.gr.trans gg).cell q0 (by simp),(hT1.1.gr.trans gg).cell q1 (by simp),(hT1.1.gr.trans gg).cell q2 (by simp)⟩);have HM1:=hide hT1.1;have HK1:=hide hT1.2;have HO1:=hide hO1;have HRO1:=hide hS.oro;have hpi:(x.pos:Int) < (f'.code.length:Int):=by omega
    have HPB:Hid (x.pos < 200):=hide (by omega);clear c7 hOut hS hmw hT1 hO1 ht hcc q0 q1 q2 hbox hh;go_upto_region 4 with fail
    clear c6 z6 hws hlti;generalize hW1:wr.setCell ⟨ob,6,none⟩ (.int .i64 ((s:Int)+1))=W1 at KS0 HM1 HK1 HO1 ⊢;clear hW1;generalize hNC:f'.code.length=nc at KS0 hpi hpl hcl;generalize hFB:fbn L.length=fb at KS0 ⊢;generalize hPX:x.pos=px at KS0 hpi hpl;refine wp_region_held_drew (S:=(fun w'=>w'.cell? ⟨fb,0,none⟩=some (.slice (some ⟨cb,off,none⟩) nc cc)∧w'.cell? ⟨fb,1,none⟩=some (.int .i64 (px:Int))∧w'.cell? ⟨cb,off+px * 3,none⟩=some (.int .i64 i.op)∧w'.cell? ⟨cb,off+px * 3+1,none⟩=some (.int .i64 i.a)∧w'.cell? ⟨cb,off+px * 3+2,none⟩=some (.int .i64 i.b))) (by kernel_rfl) (KS0.out _ (Gr.drew (Gr.refl _))) (fun hH=>?_);refine tL 0 _ rfl (fun w hS=>by go_simp<;>rfl) hH ?_
    simp only [Act.put,sA,s0,s1];refine tL 1 _ rfl (fun w hS=>by go_simp<;>rfl) hH ?_
    simp only [Act.put,sA,s0,s1];refine tL 2 _ rfl (fun w hS=>by go_simp<;>rfl) hH ?_
    simp only [Act.put,sA,s0,s1];refine tL 3 _ rfl (fun w hS=>by go_simp<;>rfl) hH ?_
    simp only [Act.put,sA,s0,s1];refine tL 4 _ rfl (fun w hS=>by go_simp<;>rfl) hH ?_
    simp only [Act.put,sA,s0,s1];refine tL 5 _ rfl (fun w hS=>by go_simp<;>rfl) hH ?_
    simp only [Act.put,sA,s0,s1];refine tL 6 _ rfl (fun w hS=>by go_simp<;>rfl) hH ?_
    simp only [Act.put,sA,s0,s1];refine tL 7 _ rfl (fun w hS=>by go_simp<;>rfl) hH ?_
    simp only [Act.put,sA,s0,s1];refine tL 8 _ rfl (fun w hS=>by go_simp<;>rfl) hH ?_
    simp only [Act.put,sA,s0,s1];refine tL 9 _ rfl (fun w hS=>by go_simp<;>rfl) hH ?_
    simp only [Act.put,sA,s0,s1];refine aloneL (i:=10) rfl (by kernel_rfl) (fun K hK=>?_);have HK:=hide hK;clear hK;refine want_yes (by rfl) ?_;go_simp
    have hK:=HK.out;clear HK;refine hK.out _ _ (KS0.out _ (Gr.drew ((Gr.refl _).alloc _))) (fun hH=>?_);clear hK;try simp only [Act.put,sA,s0,s1]
    refine aloneL (i:=11) rfl (by kernel_rfl) (fun K hK=>?_);have hrow:(W1.alloc (.cells #[.int .i64 0,.int .i64 0,.int .i64 0] 26)).drew.setRow W1.drew.heap.size #[.int .i64 i.op,.int .i64 i.a,.int .i64 i.b]=(W1.alloc (.cells #[.int .i64 i.op,.int .i64 i.a,.int .i64 i.b] 26)).drew:=by
     show ((W1.alloc (.cells #[.int .i64 0,.int .i64 0,.int .i64 0] 26)).setRow W1.heap.size #[.int .i64 i.op,.int .i64 i.a,.int .i64 i.b]).drew=_
     rw [World.setRow_alloc_new]
    refine want_yes (by rfl) (wp_store_row (P:=Tryz.prog) 26 _ _ rfl W1.drew.heap.size #[.int .i64 i.op,.int .i64 i.a,.int .i64 i.b] (by rfl) (by simp [Act.eval]) 26 _ (heap_alloc_new W1 (.cells #[.int .i64 0,.int .i64 0,.int .i64 0] 26)) Tryz.sizIns rfl (by simp [Value.oneCell']) ?_);rw [hrow];clear hrow;refine hK.out _ _ (KS0.out _ (Gr.drew ((Gr.refl _).alloc _))) (fun hH=>?_);clear hK;try simp only [Act.put,sA,s0,s1]
    refine wpAnyH_done (by kernel_rfl) ?_ _;clear hH KS0 hpi hpl;have g2:Gr W1 (W1.alloc (.cells #[.int .i64 i.op,.int .i64 i.a,.int .i64 i.b] 26)).drew:=Gr.drew ((Gr.refl _).alloc _);have hI2:(W1.alloc (.cells #[.int .i64 i.op,.int .i64 i.a,.int .i64 i.b] 26)).drew.heap[W1.heap.size]? =some (.cells #[.int .i64 i.op,.int .i64 i.a,.int .i64 i.b] 26 (0,0)):=heap_alloc_new W1 _;have HM2:=hide (HM1.out.of_gr g2);have HK2:=hide (HK1.out.trans (Kept.of_gr g2));have HO2:=hide ((Kept.of_gr (ρ:=ρ) g2).keepAt HO1.out HRO1.out);have HIR:=hide (And.intro hI2 (HM1.out.new_no (Nat.le_refl _)));have HIL:=hide (HM1.out.lo);have hib:¬W1.heap.size=ob:=fun e=>by have:=(Array.getElem?_eq_some_iff.1 HO1.out).1;omega
    have HIB:=hide hib;clear g2 hI2 HM1 HK1 HO1 HIL hib HRO1;generalize (W1.alloc (.cells #[.int .i64 i.op,.int .i64 i.a,.int .i64 i.b] 26)).drew=W2 at HM2 HK2 HO2 HIR ⊢;have h0c:0≤ct:=HSt.out.ct0;have h1c:ct≤ct+1:=by omega
    have hn:=HH.out.len;have HCC:=hide (And.intro hcl (And.intro hNC hPX));subst hFB hPX;clear hNC hcl;by_cases hdo:(1≤i.op∧i.op≤10)∨i.op=18∨i.op=19
    · clear HIB;have k0:W2.cell? ⟨W1.heap.size,0,none⟩=some (.int .i64 i.op):=by rw [hcell_ HIR.out.1];rfl
      have k1:W2.cell? ⟨W1.heap.size,1,none⟩=some (.int .i64 i.a):=by rw [hcell_ HIR.out.1];rfl
      have k2:W2.cell? ⟨W1.heap.size,2,none⟩=some (.int .i64 i.b):=by rw [hcell_ HIR.out.1];rfl
      obtain ⟨sl,st,hP,hc⟩:=do_all C.heap HH.out hdo HM2.out;have hp:pStep C.u C.heap ⟨x,L,bs,tk,told⟩=.go ⟨⟨x.fn,x.pos+1,sl,st⟩,L,bs,tk,told⟩:=by rw [HH.out.step (m:=⟨x,L,bs,tk,told⟩) C.heap];exact hP _ _ _ _
      have HC:=hide hc;have n0:¬i.op=0:=by omega
      have n11:¬i.op=11:=by omega
      have n12:¬i.op=12:=by omega
      have n13:¬i.op=13:=by omega
      have n14:¬i.op=14:=by omega
      have n15:¬i.op=15:=by omega
      have n16:¬i.op=16:=by omega
      have n17:¬i.op=17:=by omega
      have n20:¬i.op=20:=by omega
      clear hc hP hdo;go_wp2_with fail
      refine HC.out.mono ?_;rintro e w3 ⟨rfl,ρ3,hM3,hK3⟩;have ho3:=hK3.keepAt HO2.out.1 HO2.out.2;have hA:=(hM3).at1;obtain ⟨pa1,pz1⟩:=hA;have hZ:MW C (w3.setCell ⟨fbn L.length,1,none⟩ (.int .i64 (((⟨x.fn,x.pos,sl,st⟩:PFr).pos:Int)+1))) ρ3 nm fbn cs ct ((⟨x.fn,x.pos,sl,st⟩:PFr).go ((⟨x.fn,x.pos,sl,st⟩:PFr).pos+1) :: L) bs tk told∧Kept w3 (w3.setCell ⟨fbn L.length,1,none⟩ (.int .i64 (((⟨x.fn,x.pos,sl,st⟩:PFr).pos:Int)+1))) ρ3 ρ3:=(hM3).setPos ((⟨x.fn,x.pos,sl,st⟩:PFr).pos+1);have hOUT:OutAt (w3.setCell ⟨fbn L.length,1,none⟩ (.int .i64 (((⟨x.fn,x.pos,sl,st⟩:PFr).pos:Int)+1))) ob 7 0 ((s:Int)+1):=(hZ.2.keepAt (ho3).1 (ho3).2).1;have HEND:=hide (And.intro (RunI.go HSt.out HU.out HT.out hlt (m':=⟨⟨x.fn,x.pos+1,sl,st⟩,L,bs,tk,told⟩) hp hZ.1 ((HK2.out.trans hK3).trans hZ.2) hOUT (ho3).2 h0c h1c HSt.out.tak) hOUT.mk);have hwp:IntKind.i64.wrap (((⟨x.fn,x.pos,sl,st⟩:PFr).pos:Int)+1)=((⟨x.fn,x.pos,sl,st⟩:PFr).pos:Int)+1:=Go.IntWalk.i64_in _ (by have h9:(⟨x.fn,x.pos,sl,st⟩:PFr).pos < 200:=HPB.out;omega);clear hZ hOUT;clear hM3 hK3 ho3 hp;go_wp2_with fail
      go_roundw
      case rel=>exact HEND.out.1
      case measure=>(rw [HEND.out.2,HMK.out];omega)
    · have hI:=HH.out.ins;cases hI with
      | const e h0 hc=>
       have k0:W2.cell? ⟨W1.heap.size,0,none⟩=some (.int .i64 0):=by rw [hcell_ HIR.out.1];simp [e]
       have k1:W2.cell? ⟨W1.heap.size,1,none⟩=some (.int .i64 i.a):=by rw [hcell_ HIR.out.1];rfl
       have k2:W2.cell? ⟨W1.heap.size,2,none⟩=some (.int .i64 i.b):=by rw [hcell_ HIR.out.1];rfl
       obtain ⟨ca2,cc2,hv2,hml2,hcs2⟩:=HU.out.co;obtain ⟨cb2,off2,rfl,q2⟩:=hcs2 i.a.toNat hc;obtain ⟨vf,vt,hm⟩:=HM2.out.mb;have hbx:=hm.box;have hp:pStep C.u C.heap ⟨x,L,bs,tk,told⟩=.go ⟨⟨x.fn,x.pos+1,x.slots,x.stack++ [⟨C.u.consts.getD i.a.toNat 0,none⟩]⟩,L,bs,tk,told⟩:=by rw [HH.out.step (m:=⟨x,L,bs,tk,told⟩) C.heap];unfold insP;simp only [e];rfl
       have HP:=hide hp;have hia:=set_nat h0;have KS0:Hid (∀w',Gr W2 w'→w'.cell? ⟨C.mb,1,none⟩=some (.slice (some ⟨cb2,off2,none⟩) C.u.consts.length cc2)∧w'.cell? ⟨W1.heap.size,1,none⟩=some (.int .i64 (i.a.toNat:Int))∧w'.cell? ⟨cb2,off2+i.a.toNat,none⟩=some (.int .i64 (C.u.consts.getD i.a.toNat 0))):=hide (fun w' gg=>⟨gg.cell (by rw [hcell_ hbx,←hv2];rfl) (by simp),gg.cell (by rw [k1,←hia]) (by simp),(HM2.out.gr.trans gg).cell q2 (by simp)⟩);have HPU:Hid (∀w',Gr W2 w'→Calls Tryz.prog 103 #[.pointer (some ⟨fbn L.length,0,none⟩),.agg #[.int .i64 (C.u.consts.getD i.a.toNat 0),.pointer none]] w' fun e w3=>e=.returned (.tuple #[])∧MGo C w' ρ nm fbn cs ct (x.st (x.stack++ [⟨C.u.consts.getD i.a.toNat 0,none⟩]) :: L) bs tk told w3):=hide (fun w' g=>push_mw ⟨C.u.consts.getD i.a.toNat 0,none⟩ (HM2.out.of_gr g) (by omega));have hqi:(i.a.toNat:Int) < (C.u.consts.length:Int):=by omega
       clear hcs2 q2 hm hbx hp hia k1 k2;generalize C.u.consts.getD i.a.toNat 0=cv at KS0 HPU HP;generalize i.a.toNat=q at KS0 hqi hc;generalize C.u.consts.length=ncs at KS0 hqi hc;generalize W1.heap.size=ib at KS0 k0 HIR HIB ⊢;go_wp2_with fail
       refine wp_region_z 11 (S:=(fun w'=>w'.cell? ⟨C.mb,1,none⟩=some (.slice (some ⟨cb2,off2,none⟩) ncs cc2)∧w'.cell? ⟨ib,1,none⟩=some (.int .i64 (q:Int))∧w'.cell? ⟨cb2,off2+q,none⟩=some (.int .i64 cv))) (by kernel_rfl) (KS0.out _ (Gr.drew (Gr.refl _))) (fun hH=>?_);refine tY 0 _ rfl (fun w hS=>by go_simp<;>rfl) hH ?_
       simp only [Act.put,sA,s0,s1];refine tY 1 _ rfl (fun w hS=>by go_simp<;>rfl) hH ?_
       simp only [Act.put,sA,s0,s1];refine tY 2 _ rfl (fun w hS=>by go_simp<;>rfl) hH ?_
       simp only [Act.put,sA,s0,s1];refine tY 3 _ rfl (fun w hS=>by go_simp<;>rfl) hH ?_
       simp only [Act.put,sA,s0,s1];refine tY 4 _ rfl (fun w hS=>by go_simp<;>rfl) hH ?_
       simp only [Act.put,sA,s0,s1];refine tY 5 _ rfl (fun w hS=>by go_simp<;>rfl) hH ?_
       simp only [Act.put,sA,s0,s1];refine tY 6 _ rfl (fun w hS=>by go_simp<;>rfl) hH ?_
       simp only [Act.put,sA,s0,s1];refine tY 7 _ rfl (fun w hS=>by go_simp<;>rfl) hH ?_
       simp only [Act.put,sA,s0,s1];refine tY 8 _ rfl (fun w hS=>by go_simp<;>rfl) hH ?_
       simp only [Act.put,sA,s0,s1];refine tY 9 _ rfl (fun w hS=>by go_simp<;>rfl) hH ?_
       simp only [Act.put,sA,s0,s1];refine tY 10 _ rfl (fun w hS=>by go_simp<;>rfl) hH ?_
       simp only [Act.put,sA,s0,s1];refine aloneZ (i:=11) rfl (by kernel_rfl) (fun K hK=>?_);refine step_calls_w rfl 103 _ _ rfl #[.pointer (some ⟨fbn L.length,0,none⟩),.agg #[.int .i64 cv,.pointer none]] (by simp [Act.eval]) (Tryz.callPush _ _) ((HPU.out _ (Gr.drew (Gr.refl _))).mono ?_);rintro e w3 ⟨rfl,ρ3,hM3,hK3⟩;have HM3:=hide hM3;have HK3:=hide ((Kept.of_gr (Gr.drew (Gr.refl W2))).trans hK3);clear hM3 hK3;refine .inl ⟨_,rfl,?_⟩;refine hK.out _ _ (fun h=>absurd rfl h) (fun _=>?_);clear hK;try simp only [Act.put,sA,s0,s1]
       refine doneZ (by kernel_rfl) ?_ _;clear hH KS0;have hO3:=HK3.out.keepAt HO2.out.1 HO2.out.2;have hA:=(HM3.out).at1;obtain ⟨pa1,pz1⟩:=hA;have hZ:MW C (w3.setCell ⟨fbn L.length,1,none⟩ (.int .i64 (((x.st (x.stack++ [⟨cv,none⟩])).pos:Int)+1))) ρ3 nm fbn cs ct ((x.st (x.stack++ [⟨cv,none⟩])).go ((x.st (x.stack++ [⟨cv,none⟩])).pos+1) :: L) bs tk told∧Kept w3 (w3.setCell ⟨fbn L.length,1,none⟩ (.int .i64 (((x.st (x.stack++ [⟨cv,none⟩])).pos:Int)+1))) ρ3 ρ3:=(HM3.out).setPos ((x.st (x.stack++ [⟨cv,none⟩])).pos+1);have hOUT:OutAt (w3.setCell ⟨fbn L.length,1,none⟩ (.int .i64 (((x.st (x.stack++ [⟨cv,none⟩])).pos:Int)+1))) ob 7 0 ((s:Int)+1):=(hZ.2.keepAt (hO3).1 (hO3).2).1;have HEND:=hide (And.intro (RunI.go HSt.out HU.out HT.out hlt (m':=⟨⟨x.fn,x.pos+1,x.slots,x.stack++ [⟨cv,none⟩]⟩,L,bs,tk,told⟩) HP.out hZ.1 ((HK2.out.trans HK3.out).trans hZ.2) hOUT (hO3).2 h0c h1c HSt.out.tak) hOUT.mk);have hwp:IntKind.i64.wrap (((x.st (x.stack++ [⟨cv,none⟩])).pos:Int)+1)=((x.st (x.stack++ [⟨cv,none⟩])).pos:Int)+1:=Go.IntWalk.i64_in _ (by have h9:(x.st (x.stack++ [⟨cv,none⟩])).pos < 200:=HPB.out;omega);clear hZ hOUT;clear hO3;go_wp2_with fail
       go_roundw
       case rel=>exact HEND.out.1
       case measure=>(rw [HEND.out.2,HMK.out];omega)
      | jump e h0 h1=>
       have k0:W2.cell? ⟨W1.heap.size,0,none⟩=some (.int .i64 11):=by rw [hcell_ HIR.out.1];simp [e]
       have k1:W2.cell? ⟨W1.heap.size,1,none⟩=some (.int .i64 i.a):=by rw [hcell_ HIR.out.1];rfl
       have k2:W2.cell? ⟨W1.heap.size,2,none⟩=some (.int .i64 i.b):=by rw [hcell_ HIR.out.1];rfl
       have hp:pStep C.u C.heap ⟨x,L,bs,tk,told⟩=.go ⟨⟨x.fn,i.a.toNat,x.slots,x.stack⟩,L,bs,tk,told⟩:=by rw [HH.out.step (m:=⟨x,L,bs,tk,told⟩) C.heap];unfold insP;simp only [e];rfl
       have hZ:=HM2.out.setPos i.a.toNat;rw [←set_nat h0] at hZ;replace hZ:MW C (W2.setCell ⟨fbn L.length,1,none⟩ (.int .i64 i.a)) ρ nm fbn cs ct (x.go i.a.toNat :: L) bs tk told∧Kept W2 (W2.setCell ⟨fbn L.length,1,none⟩ (.int .i64 i.a)) ρ ρ:=hZ;obtain ⟨pa1,pz1⟩:=HM2.out.at1;have hOUT:=hZ.2.keepAt HO2.out.1 HO2.out.2;have HEND:=hide (And.intro (RunI.go HSt.out HU.out HT.out hlt hp hZ.1 (HK2.out.trans hZ.2) hOUT.1 hOUT.2 h0c h1c HSt.out.tak) (OutAt.mk hOUT.1));clear hZ hOUT hp;go_wp2_with fail
       go_roundw
       case rel=>exact HEND.out.1
       case measure=>(rw [HEND.out.2,HMK.out];omega)
      | zero e h0 h1=>
       obtain ⟨v,rfl,hv⟩:=HH.out.upon.of_one;have k0:W2.cell? ⟨W1.heap.size,0,none⟩=some (.int .i64 12):=by rw [hcell_ HIR.out.1];simp [e]
       have k1:W2.cell? ⟨W1.heap.size,1,none⟩=some (.int .i64 i.a):=by rw [hcell_ HIR.out.1];rfl
       have k2:W2.cell? ⟨W1.heap.size,2,none⟩=some (.int .i64 i.b):=by rw [hcell_ HIR.out.1];rfl
       have hS3:=HH.out.stack;have HC:=hide (pop_mw HM2.out hS3 (by show x.stack.length≤1000;omega));have hf0:=Tryz.fld0;have HPZ:Hid (pStep C.u C.heap ⟨x,L,bs,tk,told⟩=if v.num=0 then .go ⟨⟨x.fn,i.a.toNat,x.slots,a⟩,L,bs,tk,told⟩ else .go ⟨⟨x.fn,x.pos+1,x.slots,a⟩,L,bs,tk,told⟩):=hide (by rw [HH.out.step (m:=⟨x,L,bs,tk,told⟩) C.heap];unfold insP;simp only [e,hS3,getD_last,take_last];rfl);have K1:=hide k1;clear hS3;generalize hPV:pvP nm v.blk=pvv at HC;clear hPV;by_cases hz:v.num=0
       · have hp:=HPZ.out;rw [if_pos hz] at hp;rw [hz] at HC;have HP:=hide hp;clear hp hz HPZ;go_wp2_with fail
         refine HC.out.mono ?_;rintro e w3 ⟨rfl,ρ3,hM3,hK3⟩;have hO3:=hK3.keepAt HO2.out.1 HO2.out.2;have hI3:=hK3.keepAt HIR.out.1 HIR.out.2;have hZ:=hM3.setPos i.a.toNat;rw [←set_nat h0] at hZ;replace hZ:MW C (w3.setCell ⟨fbn L.length,1,none⟩ (.int .i64 i.a)) ρ3 nm fbn cs ct ((x.st a).go i.a.toNat :: L) bs tk told∧Kept w3 (w3.setCell ⟨fbn L.length,1,none⟩ (.int .i64 i.a)) ρ3 ρ3:=hZ;obtain ⟨pa1,pz1⟩:=hM3.at1;have hOUT:=hZ.2.keepAt hO3.1 hO3.2;have HEND:=hide (And.intro (RunI.go HSt.out HU.out HT.out hlt HP.out hZ.1 (HK2.out.trans (hK3.trans hZ.2)) hOUT.1 hOUT.2 h0c h1c HSt.out.tak) (OutAt.mk hOUT.1));have k1:w3.cell? ⟨W1.heap.size,1,none⟩=some (.int .i64 i.a):=by rw [hcell_ hI3.1];rfl
         clear hZ hOUT hM3 hK3 hO3 hI3;go_wp2_with fail
         go_roundw
         case rel=>exact HEND.out.1
         case measure=>(rw [HEND.out.2,HMK.out];omega)
       · have hp:=HPZ.out;rw [if_neg hz] at hp;have HP:=hide hp;clear hp HPZ;go_wp2_with fail
         refine HC.out.mono ?_;rintro e w3 ⟨rfl,ρ3,hM3,hK3⟩;have hO3:=hK3.keepAt HO2.out.1 HO2.out.2;have hA:=(hM3).at1;obtain ⟨pa1,pz1⟩:=hA;have hZ:MW C (w3.setCell ⟨fbn L.length,1,none⟩ (.int .i64 (((x.st a).pos:Int)+1))) ρ3 nm fbn cs ct ((x.st a).go ((x.st a).pos+1) :: L) bs tk told∧Kept w3 (w3.setCell ⟨fbn L.length,1,none⟩ (.int .i64 (((x.st a).pos:Int)+1))) ρ3 ρ3:=(hM3).setPos ((x.st a).pos+1);have hOUT:OutAt (w3.setCell ⟨fbn L.length,1,none⟩ (.int .i64 (((x.st a).pos:Int)+1))) ob 7 0 ((s:Int)+1):=(hZ.2.keepAt (hO3).1 (hO3).2).1;have HEND:=hide (And.intro (RunI.go HSt.out HU.out HT.out hlt (m':=⟨⟨x.fn,x.pos+1,x.slots,a⟩,L,bs,tk,told⟩) HP.out hZ.1 ((HK2.out.trans hK3).trans hZ.2) hOUT (hO3).2 h0c h1c HSt.out.tak) hOUT.mk);have hwp:IntKind.i64.wrap (((x.st a).pos:Int)+1)=((x.st a).pos:Int)+1:=Go.IntWalk.i64_in _ (by have h9:(x.st a).pos < 200:=HPB.out;omega);clear hZ hOUT;clear hM3 hK3 hO3;go_wp2_with fail
         go_roundw
         case rel=>exact HEND.out.1
         case measure=>(rw [HEND.out.2,HMK.out];omega)
      | call g e h0 hg=>
       have k0:W2.cell? ⟨W1.heap.size,0,none⟩=some (.int .i64 13):=by rw [hcell_ HIR.out.1];simp [e]
       have k1:W2.cell? ⟨W1.heap.size,1,none⟩=some (.int .i64 i.a):=by rw [hcell_ HIR.out.1];rfl
       have k2:W2.cell? ⟨W1.heap.size,2,none⟩=some (.int .i64 i.b):=by rw [hcell_ HIR.out.1];rfl
       obtain ⟨vf,vt,hm⟩:=HM2.out.mb;have hbx:=hm.box;obtain ⟨fra,frc,rfl⟩:=own_shape_ hm.fr;have c5:W2.cell? ⟨C.mb,5,none⟩=some (.slice fra (L.length+1) frc):=by rw [hcell_ hbx];rfl
       have hS3:=HH.out.stack;have hbl:=HH.out.upon.1;have hLd:L.length≤99:=HSt.out.ok.deep;by_cases hd:L.length=99
       · have HP:Hid (pStep C.u C.heap ⟨x,L,bs,tk,told⟩=.stop 9 0 ⟨x,L,bs,tk,told⟩):=hide (by rw [HH.out.step (m:=⟨x,L,bs,tk,told⟩) C.heap];unfold insP;simp only [e,hd];rfl);have HFN:Hid (FIN=⟨9,0,0,0,0,told,(s:Int)+1⟩):=hide (by have:=HSt.out.run;rw [show fuel - s=(fuel - (s+1))+1 by omega,pRun_stop HP.out] at this;rw [←this];rfl);have hL100:(L.length:Int)+1=100:=by omega
         clear hd hLd hS3 hm hbx hbl;have hcw:=cells7 (HO2.out).1;have cw0:W2.cell? ⟨ob,0,none⟩=some (.int .i64 7):=hcw.1.1;have zw0:W2.frozen? ⟨ob,0,none⟩=false:=hcw.2.1;have hOS:=(HM2.out).outSet (o:=0) (v:=.int .i64 9) (HO2.out).2 HSt.out.olt HV0.out (HK2.out);have hOW:OutAt (W2.setCell ⟨ob,0,none⟩ (.int .i64 9)) ob 9 0 ((s:Int)+1):=(heap_setCell_same W2 ob 0 _ _ _ (HO2.out).1).trans (by simp);have HOS:=hide hOS;have HOW:=hide hOW;clear hcw hOS hOW;go_upto_region 38 with fail
         clear cw0 zw0;generalize W2.setCell ⟨ob,0,none⟩ (.int .i64 9)=W9 at HOS HOW ⊢;have hMF:MW C W9 ρ nm fbn cs ct (x :: L) bs tk FIN.told:=by rw [HFN.out];exact HOS.out.1
         have HOE:=hide HOW.out;have HRW:=hide ((HOS.out.2).keepAt HRB.out HRO.out).1;have HRS:=hide (setRow_heap _ rb _ #[.int .i64 9,.int .i64 0,.int .i64 0,.int .i64 0,.int .i64 0,.slice none 0 0,.int .i64 ((s:Int)+1)] _ _ HRW.out);have HRE:=hide (RunE.of (FIN:=FIN) hMF (HOS.out.2) HRB.out HRO.out HW0.out HR1.out HV1.out #[.int .i64 9,.int .i64 0,.int .i64 0,.int .i64 0,.int .i64 0,.slice none 0 0,.int .i64 ((s:Int)+1)]);go_upto_region 38 with fail
         obtain ⟨dO,hu1⟩:=Tryz.undOut;refine wp_region_lit ?_;refine wpList_load_row rfl 39 _ rfl ob rfl _ _ _ (.struct dO) HOE.out hu1 rfl Tryz.sizOut ?_;refine wpList_store_row rfl 39 _ _ rfl rb #[.int .i64 9,.int .i64 0,.int .i64 0,.int .i64 0,.int .i64 0,.slice none 0 0,.int .i64 ((s:Int)+1)] rfl rfl _ _ HRW.out Tryz.sizOut rfl (by simp [Value.oneCell']) ?_;have HU1:=hide hu1;clear hu1;generalize hWE:W9.setRow rb #[.int .i64 9,.int .i64 0,.int .i64 0,.int .i64 0,.int .i64 0,.slice none 0 0,.int .i64 ((s:Int)+1)]=WE at HRS HRE ⊢;clear hWE;go_wp2_with fail
         try rw [Exit.noGoto_ret]
         refine bodyPost_ret (v:=.agg #[.int .i64 9,.int .i64 0,.int .i64 0,.int .i64 0,.int .i64 0,.slice none 0 0,.int .i64 ((s:Int)+1)]) (results_cell_row rfl _ _ rb _ _ _ (.struct dO) rfl HRS.out HU1.out rfl Tryz.sizOut) rfl ?_;exact ⟨by rw [HFN.out],HRE.out⟩
       · have hL100:¬(L.length:Int)+1=100:=by omega
         have HP:Hid (pStep C.u C.heap ⟨x,L,bs,tk,told⟩=.go ⟨⟨i.a.toNat,0,b++zeroPV g.locals.length,[]⟩,⟨x.fn,x.pos,x.slots,a⟩ :: L,bs,tk,told⟩):=hide (by
          rw [HH.out.step (m:=⟨x,L,bs,tk,told⟩) C.heap];unfold insP;simp only [e,hg];rw [if_neg (by decide),if_neg (by decide),if_neg (by decide),if_neg (by decide),if_neg (by decide),if_neg (by decide),if_neg (by decide),if_neg (by decide),if_pos trivial,if_neg hd];show PEnd.go ⟨⟨i.a.toNat,0,x.stack.drop (x.stack.length - g.params.length)++_,[]⟩,⟨x.fn,x.pos,x.slots,x.stack.take (x.stack.length - g.params.length)⟩ :: L,_,_,_⟩=_
          have hS3:x.stack=a++b:=hS3;rw [hS3,drop_args a b _ hbl.symm,take_args a b _ hbl.symm])
         have hgf:=HU.out.ok.func g (List.mem_of_getElem? hg);obtain ⟨fao,fcp,hv3,hml3,hcf⟩:=HU.out.fu;obtain ⟨gb,off3,vpp,vl3,vc3,rfl,q0,_,_,_,r1,_,_⟩:=hcf i.a.toNat g hg;obtain ⟨pa,pc,rfl,_⟩:=r1;have hia:=set_nat h0;have hgl:=(List.getElem?_eq_some_iff.1 hg).1;have hqi:(i.a.toNat:Int) < (C.u.funcs.length:Int):=by omega
         have KS0:Hid (∀w',Gr W2 w'→w'.cell? ⟨C.mb,2,none⟩=some (.slice (some ⟨gb,off3,none⟩) C.u.funcs.length fcp)∧w'.cell? ⟨W1.heap.size,1,none⟩=some (.int .i64 (i.a.toNat:Int))∧w'.cell? ⟨gb,off3+i.a.toNat * 4,none⟩=some (.slice pa g.params.length pc)):=hide (fun w' gg=>⟨gg.cell (by rw [hcell_ hbx,←hv3];rfl) (by simp),gg.cell (by rw [k1,←hia]) (by simp),(HM2.out.gr.trans gg).cell q0 (by simp)⟩);have HTK:Hid (∀w',Gr W2 w'→Calls Tryz.prog 101 #[.pointer (some ⟨fbn L.length,0,none⟩),.int .i64 (g.params.length:Int)] w' fun e w3=>∃v,e=.returned v∧w3.ownsRow w'.heap.size 183 2 v b.length (rowV nm b)∧MW C w3 ρ nm fbn cs ct (x.st a :: L) bs tk told∧Kept w' w3 ρ ρ):=hide (fun w' gg=>by
          rw [hbl];exact ftake_mw (HM2.out.of_gr gg) hS3 (by show x.stack.length≤1000;omega))
         have HEN:Hid (∀(w3:World) (v:Value),MW C w3 ρ nm fbn cs ct (x.st a :: L) bs tk told→Kept W2.drew w3 ρ ρ→w3.ownsRow W2.drew.heap.size 183 2 v b.length (rowV nm b)→Calls Tryz.prog 66 #[.pointer (some ⟨C.mb,0,none⟩),.int .i64 (i.a.toNat:Int),v] w3 fun e w'=>∃ρ' fbn',e=.returned (.pointer (some ⟨fbn' (L.length+1),0,none⟩))∧MW C w' ρ' nm fbn' cs ct (⟨i.a.toNat,0,b++zeroPV g.locals.length,[]⟩ :: x.st a :: L) bs tk told∧Kept W2.drew w' ρ ρ'):=hide (fun w3 v hM3 hK3 hv=>enter_mw hM3 hK3 HM2.out.gr.size HU.out.fu hg HU.out.ok.few.2.2 hv (fun k hk=>HM2.out.new_no (hv.lt k hk).1) (by show L.length+1≤1000;omega) (by omega));clear hcf q0 hm hbx hia k1 k2 hS3 hbl hd hLd hgf hg;generalize g.params.length=np at KS0 HTK;generalize hQ:i.a.toNat=q at KS0 hqi hgl HEN HP;have HQI:Hid ((q:Int)=i.a):=hide (by omega);clear hQ;generalize C.u.funcs.length=nf at KS0 hqi hgl;generalize W1.heap.size=ib at KS0 k0 HIR HIB ⊢;go_wp2_with fail
         refine wp_region_s [12,13] (S:=(fun w'=>w'.cell? ⟨C.mb,2,none⟩=some (.slice (some ⟨gb,off3,none⟩) nf fcp)∧w'.cell? ⟨ib,1,none⟩=some (.int .i64 (q:Int))∧w'.cell? ⟨gb,off3+q * 4,none⟩=some (.slice pa np pc))) (by kernel_rfl) (KS0.out _ (Gr.drew (Gr.refl _))) (fun hH=>?_);refine tS 0 _ rfl (fun w hS=>by go_simp<;>rfl) hH ?_
         simp only [Act.put,sA,s0,s1];refine tS 1 _ rfl (fun w hS=>by go_simp<;>rfl) hH ?_
         simp only [Act.put,sA,s0,s1];refine tS 2 _ rfl (fun w hS=>by go_simp<;>rfl) hH ?_
         simp only [Act.put,sA,s0,s1];refine tS 3 _ rfl (fun w hS=>by go_simp<;>rfl) hH ?_
         simp only [Act.put,sA,s0,s1];refine tS 4 _ rfl (fun w hS=>by go_simp<;>rfl) hH ?_
         simp only [Act.put,sA,s0,s1];refine tS 5 _ rfl (fun w hS=>by go_simp<;>rfl) hH ?_
         simp only [Act.put,sA,s0,s1];refine tS 6 _ rfl (fun w hS=>by go_simp<;>rfl) hH ?_
         simp only [Act.put,sA,s0,s1];refine tS 7 _ rfl (fun w hS=>by go_simp<;>rfl) hH ?_
         simp only [Act.put,sA,s0,s1];refine tS 8 _ rfl (fun w hS=>by go_simp<;>rfl) hH ?_
         simp only [Act.put,sA,s0,s1];refine tS 9 _ rfl (fun w hS=>by go_simp<;>rfl) hH ?_
         simp only [Act.put,sA,s0,s1];refine tS 10 _ rfl (fun w hS=>by go_simp<;>rfl) hH ?_
         simp only [Act.put,sA,s0,s1];refine tS 11 _ rfl (fun w hS=>by go_simp<;>rfl) hH ?_
         simp only [Act.put,sA,s0,s1];refine aloneS (i:=12) rfl (by kernel_rfl) (fun K hK=>?_);refine step_calls_w rfl 101 _ _ rfl #[.pointer (some ⟨fbn L.length,0,none⟩),.int .i64 (np:Int)] (by simp [Act.eval]) (Tryz.callTake _ _) ((HTK.out _ (Gr.drew (Gr.refl _))).mono ?_);rintro e w3 ⟨v,rfl,hv3o,hM3,hK3⟩;have hI3:=hK3.keepAt (w:=W2.drew) HIR.out.1 HIR.out.2;have HE3:=hide (HEN.out _ _ hM3 hK3 hv3o);obtain ⟨va,vcp,rfl⟩:=own_shape_ hv3o;have HI3:=hide hI3;clear hv3o hM3 hK3 hI3 HEN HTK;refine .inl ⟨_,rfl,?_⟩;refine hK.out _ _ (fun h=>absurd h (by decide)) ?_;clear hK;try simp only [Act.put,sA,s0,s1]
         refine aloneS (i:=13) rfl (by kernel_rfl) (fun K hK=>?_);have HK:=hide hK;clear hK;refine want_yes (by rfl) ?_;go_simp
         have hK:=HK.out;clear HK;refine hK.out _ _ (fun h=>absurd h (by decide)) ?_;clear hK;try simp only [Act.put,sA,s0,s1]
         refine doneS (by kernel_rfl) ?_ _;clear hH KS0;have k1:w3.cell? ⟨ib,1,none⟩=some (.int .i64 i.a):=by rw [hcell_ HI3.out.1];rfl
         have HE4:=HE3;rw [show (q:Int)=i.a from HQI.out] at HE4;generalize b.length=nb at HE4 ⊢;go_wp2_with fail
         refine HE4.out.mono ?_;rintro e w4 ⟨ρ4,fbn4,rfl,hM4,hK4⟩;have hK42:=(Kept.of_gr (ρ:=ρ) (Gr.drew (Gr.refl W2))).trans hK4;have hO4:=hK42.keepAt HO2.out.1 HO2.out.2;have HEND:=hide (And.intro (RunI.go HSt.out HU.out HT.out hlt HP.out hM4 (HK2.out.trans hK42) hO4.1 hO4.2 h0c h1c HSt.out.tak) (OutAt.mk hO4.1));clear hM4 hK4 hK42 hO4;go_wp2_with fail
         go_roundw
         case rel=>exact HEND.out.1
         case measure=>(rw [HEND.out.2,HMK.out];omega)
      | ret e=>
       obtain ⟨v,rfl,hv⟩:=HH.out.upon.of_one;have k0:W2.cell? ⟨W1.heap.size,0,none⟩=some (.int .i64 14):=by rw [hcell_ HIR.out.1];simp [e]
       have k1:W2.cell? ⟨W1.heap.size,1,none⟩=some (.int .i64 i.a):=by rw [hcell_ HIR.out.1];rfl
       have k2:W2.cell? ⟨W1.heap.size,2,none⟩=some (.int .i64 i.b):=by rw [hcell_ HIR.out.1];rfl
       have hS3:=HH.out.stack;have HC:=hide (pop_mw HM2.out hS3 (by show x.stack.length≤1000;omega));cases L with
       | nil=>
        have HP:Hid (pStep C.u C.heap ⟨x,[],bs,tk,told⟩=.stop 6 v.num ⟨x,[],bs,tk,told⟩):=hide (by rw [HH.out.step (m:=⟨x,[],bs,tk,told⟩) C.heap];unfold insP;simp only [e,hS3,getD_last];rfl);have HFN:Hid (FIN=⟨6,0,0,0,v.num,told,(s:Int)+1⟩):=hide (by have:=HSt.out.run;rw [show fuel - s=(fuel - (s+1))+1 by omega,pRun_stop HP.out] at this;rw [←this];rfl);have hnil:=Tryz.frmNil;clear hS3 hv;generalize pvP nm v.blk=pvv at HC;generalize v.num=num at HC HFN;go_wp2_with fail
        refine HC.out.mono ?_;rintro e w3 ⟨rfl,ρ3,hM3,hK3⟩;have g4:=(Gr.refl w3).alloc (.cells #[.int .i64 num,.pointer pvv] 183);have hb4:=heap_alloc_new w3 (.cells #[.int .i64 num,.pointer pvv] 183);have hlv:=leave_mw (hM3.of_gr g4) (by simp);rw [if_pos (show ([]:List PFr).length=0 from rfl)] at hlv;have HLV:=hide hlv;have HO4:=hide ((hK3.trans (Kept.of_gr g4)).keepAt HO2.out.1 HO2.out.2);have HB4:=hide (And.intro hb4 (hM3.new_no (Nat.le_refl _)));have HK4:=hide (HK2.out.trans (hK3.trans (Kept.of_gr g4)));have HNE:Hid (¬w3.heap.size=ob):=hide (fun e=>by have:=(hK3.keepAt HO2.out.1 HO2.out.2).1;have:=(Array.getElem?_eq_some_iff.1 this).1;omega);clear hM3 hK3 g4 hb4 hlv;go_wp2_with fail
        refine HLV.out.mono ?_;rintro e w5 ⟨rfl,hM5,hK5⟩;have HM5:=hide hM5;have HK5:=hide (HK4.out.trans hK5);have HO5:=hide (hK5.keepAt HO4.out.1 HO4.out.2);have HB5:=hide (hK5.keepAt HB4.out.1 HB4.out.2).1;have hd3:¬w3.heap.size=ob:=HNE.out;have hd4:¬ob=w3.heap.size:=fun e=>HNE.out e.symm
        clear hM5 hK5 HB4 HO4 HK4 HLV;have b5:Hid (∀w':World,w'.heap[w3.heap.size]? =w5.heap[w3.heap.size]? →w'.cell? ⟨w3.heap.size,0,none⟩=some (.int .i64 num)):=hide (fun w' hh=>by rw [hcell_ (hh.trans HB5.out)];rfl);go_wp2_with fail
        generalize w3.heap.size=vb at b5 hd3 hd4 HB5 HNE ⊢;refine wp_region_held_drew (S:=(fun w'=>w'.cell? ⟨vb,0,none⟩=some (.int .i64 num))) (by kernel_rfl) (b5.out _ rfl) (fun hH=>?_);refine tL 0 _ rfl (fun w hS=>by go_simp<;>rfl) hH ?_
        simp only [Act.put,sA,s0,s1];refine tL 1 _ rfl (fun w hS=>by go_simp<;>rfl) hH ?_
        simp only [Act.put,sA,s0,s1];refine tL 2 _ rfl (fun w hS=>by go_simp<;>rfl) hH ?_
        simp only [Act.put,sA,s0,s1];refine aloneL (i:=3) rfl (by kernel_rfl) (fun K hK=>?_);have hcw:=cells7 HO5.out.1;have cw0:w5.cell? ⟨ob,0,none⟩=some (.int .i64 7):=hcw.1.1;have zw0:w5.frozen? ⟨ob,0,none⟩=false:=hcw.2.1;have hO6:OutAt (w5.setCell ⟨ob,0,none⟩ (.int .i64 6)).drew ob 6 0 ((s:Int)+1):=(heap_setCell_same w5 ob 0 _ _ _ HO5.out.1).trans (by simp);have hM6:=HM5.out.outSet (o:=0) (v:=.int .i64 6) HO5.out.2 HSt.out.olt HV0.out HK5.out;have HM6:=hide (And.intro (hM6.1.of_gr (Gr.drew (Gr.refl _))) (hM6.2.trans (Kept.of_gr (Gr.drew (Gr.refl _)))));have hS6:(w5.setCell ⟨ob,0,none⟩ (.int .i64 6)).drew.cell? ⟨vb,0,none⟩=some (.int .i64 num):=b5.out _ (Below.heap_setCell _ _ _ _ hd3);have HO6:=hide hO6;have HS6:=hide hS6;have HK:=hide hK;clear hK hcw hO6 hM6 hS6;refine want_yes (by rfl) ?_;go_simp
        have hK:=HK.out;clear HK cw0 zw0;generalize (w5.setCell ⟨ob,0,none⟩ (.int .i64 6)).drew=W6 at HM6 HO6 HS6 ⊢;refine hK.out _ _ (HS6.out) (fun hH=>?_);clear hK;try simp only [Act.put,sA,s0,s1]
        refine tL 4 _ rfl (fun w hS=>by go_simp<;>rfl) hH ?_
        simp only [Act.put,sA,s0,s1];refine aloneL (i:=5) rfl (by kernel_rfl) (fun K hK=>?_);have hcw:=cells7 HO6.out;have cw4:W6.cell? ⟨ob,4,none⟩=some (.int .i64 0):=hcw.1.2.2.2.2.1;have zw4:W6.frozen? ⟨ob,4,none⟩=false:=hcw.2.2.2.2.2.1;have hO7:OutAt (W6.setCell ⟨ob,4,none⟩ (.int .i64 num)) ob 6 num ((s:Int)+1):=(heap_setCell_same W6 ob 4 _ _ _ HO6.out).trans (by simp);have hM7:=HM6.out.1.outSet (o:=4) (v:=.int .i64 num) HO5.out.2 HSt.out.olt HV0.out HM6.out.2;have hS7:(W6.setCell ⟨ob,4,none⟩ (.int .i64 num)).cell? ⟨vb,0,none⟩=some (.int .i64 num):=by
         have:=HS6.out
         rw [←this];unfold World.cell?;rw [show (W6.setCell ⟨ob,4,none⟩ (.int .i64 num)).heap[(⟨vb,0,none⟩:Addr).block]? =W6.heap[(⟨vb,0,none⟩:Addr).block]? from Below.heap_setCell _ _ _ _ hd3]
        have HM7:=hide hM7;have HO7:=hide hO7;have HS7:=hide hS7;have HK:=hide hK;clear hK hcw hO7 hM7 hS7;refine want_yes (by rfl) ?_;go_simp
        have hK:=HK.out;clear HK cw4 zw4;generalize W6.setCell ⟨ob,4,none⟩ (.int .i64 num)=W7 at HM7 HO7 HS7 ⊢;refine hK.out _ _ (HS7.out) (fun hH=>?_);clear hK;try simp only [Act.put,sA,s0,s1]
        refine wpAnyH_done (by kernel_rfl) ?_ _;clear hH;have hMF:MW C W7 ρ3 nm fbn cs ct [] bs tk FIN.told:=by rw [HFN.out];exact HM7.out.1
        have HOE:=hide HO7.out;have HRW:=hide ((HM7.out.2).keepAt HRB.out HRO.out).1;have HRS:=hide (setRow_heap _ rb _ #[.int .i64 6,.int .i64 0,.int .i64 0,.int .i64 0,.int .i64 num,.slice none 0 0,.int .i64 ((s:Int)+1)] _ _ HRW.out);have HRE:=hide (RunE.of (FIN:=FIN) hMF (HM7.out.2) HRB.out HRO.out HW0.out HR1.out HV1.out #[.int .i64 6,.int .i64 0,.int .i64 0,.int .i64 0,.int .i64 num,.slice none 0 0,.int .i64 ((s:Int)+1)]);go_upto_region 38 with fail
        obtain ⟨dO,hu1⟩:=Tryz.undOut;refine wp_region_lit ?_;refine wpList_load_row rfl 39 _ rfl ob rfl _ _ _ (.struct dO) HOE.out hu1 rfl Tryz.sizOut ?_;refine wpList_store_row rfl 39 _ _ rfl rb #[.int .i64 6,.int .i64 0,.int .i64 0,.int .i64 0,.int .i64 num,.slice none 0 0,.int .i64 ((s:Int)+1)] rfl rfl _ _ HRW.out Tryz.sizOut rfl (by simp [Value.oneCell']) ?_;have HU1:=hide hu1;clear hu1;generalize hWE:W7.setRow rb #[.int .i64 6,.int .i64 0,.int .i64 0,.int .i64 0,.int .i64 num,.slice none 0 0,.int .i64 ((s:Int)+1)]=WE at HRS HRE ⊢;clear hWE;go_wp2_with fail
        try rw [Exit.noGoto_ret]
        refine bodyPost_ret (v:=.agg #[.int .i64 6,.int .i64 0,.int .i64 0,.int .i64 0,.int .i64 num,.slice none 0 0,.int .i64 ((s:Int)+1)]) (results_cell_row rfl _ _ rb _ _ _ (.struct dO) rfl HRS.out HU1.out rfl Tryz.sizOut) rfl ?_;exact ⟨by rw [HFN.out],HRE.out⟩
       | cons y l=>
        have HP:Hid (pStep C.u C.heap ⟨x,y :: l,bs,tk,told⟩=.go ⟨y.behind (y.stack++ [v]),l,bs,tk,told⟩):=hide (by rw [HH.out.step (m:=⟨x,y :: l,bs,tk,told⟩) C.heap];unfold insP;simp only [e,hS3,getD_last];rfl);have hlw:=HSt.out.ok.low;have hlw:LowOk C.u Ts σ x.fn (y :: l):=hlw;obtain ⟨⟨fy,iy,gy,sy,y1,y2,y3,y4,y5,y6,y7,y8,y9⟩,_⟩:=hlw;have HPY:Hid (y.pos < 200):=hide (by have h1:=(List.getElem?_eq_some_iff.1 y2).1;have h2:=(HU.out.ok.func fy (List.mem_of_getElem? y1)).2.2.2.1;omega);have hyl:y.stack.length≤1000:=by have:=y8.1;rw [List.length_take] at this;omega
        have HYL:=hide hyl;have hld:(y :: l).length≤99:=HSt.out.ok.deep;have HLD:=hide hld;have hne:=Tryz.frmNe;clear hS3 hv y1 y2 y3 y4 y5 y6 y7 y8 y9 hyl hld;have HPS:Hid (∀(w5:World) (ρ5:Nat→Role),MW C w5 ρ5 nm fbn cs ct (y :: l) bs tk told→Calls Tryz.prog 103 #[.pointer (some ⟨fbn l.length,0,none⟩),.agg #[.int .i64 v.num,.pointer (pvP nm v.blk)]] w5 fun e w'=>e=.returned (.tuple #[])∧MGo C w5 ρ5 nm fbn cs ct (y.st (y.stack++ [v]) :: l) bs tk told w'):=hide (fun w5 ρ5 h=>push_mw v h HYL.out);generalize pvP nm v.blk=pvv at HC HPS;generalize hVN:v.num=num at HC HPS;clear hVN;go_wp2_with fail
        refine HC.out.mono ?_;rintro e w3 ⟨rfl,ρ3,hM3,hK3⟩;have g4:=(Gr.refl w3).alloc (.cells #[.int .i64 num,.pointer pvv] 183);have hb4:=heap_alloc_new w3 (.cells #[.int .i64 num,.pointer pvv] 183);have hlv:=leave_mw (hM3.of_gr g4) (by have:=HLD.out;omega);rw [if_neg (by simp),show (y :: l).length - 1=l.length from rfl] at hlv;have HLV:=hide hlv;have HO4:=hide ((hK3.trans (Kept.of_gr g4)).keepAt HO2.out.1 HO2.out.2);have HB4:=hide (And.intro hb4 (hM3.new_no (Nat.le_refl _)));have HK4:=hide (HK2.out.trans (hK3.trans (Kept.of_gr g4)));clear hM3 hK3 g4 hb4 hlv;go_wp2_with fail
        refine HLV.out.mono ?_;rintro e w5 ⟨rfl,hM5,hK5⟩;have HK5:=hide (HK4.out.trans hK5);have HO5:=hide (hK5.keepAt HO4.out.1 HO4.out.2);have hb5:=(hK5.keepAt HB4.out.1 HB4.out.2).1;have v0:w5.cell? ⟨w3.heap.size,0,none⟩=some (.int .i64 num):=by rw [hcell_ hb5];rfl
        have v1:w5.cell? ⟨w3.heap.size,1,none⟩=some (.pointer pvv):=by rw [hcell_ hb5];rfl
        have HPS5:=hide (HPS.out _ _ hM5);clear hM5 hK5 hb5 HB4 HO4 HK4 HLV HPS;go_wp2_with fail
        refine HPS5.out.mono ?_;rintro e w6 ⟨rfl,ρ6,hM6,hK6⟩;have hO6:=hK6.keepAt HO5.out.1 HO5.out.2;have hA:=(hM6).at1;obtain ⟨pa1,pz1⟩:=hA;have hZ:MW C (w6.setCell ⟨fbn l.length,1,none⟩ (.int .i64 (((y.st (y.stack++ [v])).pos:Int)+1))) ρ6 nm fbn cs ct ((y.st (y.stack++ [v])).go ((y.st (y.stack++ [v])).pos+1) :: l) bs tk told∧Kept w6 (w6.setCell ⟨fbn l.length,1,none⟩ (.int .i64 (((y.st (y.stack++ [v])).pos:Int)+1))) ρ6 ρ6:=(hM6).setPos ((y.st (y.stack++ [v])).pos+1);have hOUT:OutAt (w6.setCell ⟨fbn l.length,1,none⟩ (.int .i64 (((y.st (y.stack++ [v])).pos:Int)+1))) ob 7 0 ((s:Int)+1):=(hZ.2.keepAt (hO6).1 (hO6).2).1;have HEND:=hide (And.intro (RunI.go HSt.out HU.out HT.out hlt (m':=⟨y.behind (y.stack++ [v]),l,bs,tk,told⟩) HP.out hZ.1 ((HK5.out.trans hK6).trans hZ.2) hOUT (hO6).2 h0c h1c HSt.out.tak) hOUT.mk);have hwp:IntKind.i64.wrap (((y.st (y.stack++ [v])).pos:Int)+1)=((y.st (y.stack++ [v])).pos:Int)+1:=Go.IntWalk.i64_in _ (by have h9:(y.st (y.stack++ [v])).pos < 200:=HPY.out;omega);clear hZ hOUT;clear hM6 hK6 hO6 v0 v1;go_wp2_with fail
        go_roundw
        case rel=>exact HEND.out.1
        case measure=>(rw [HEND.out.2,HMK.out];omega)
      | new _ e h1 hs=>
       have k0:W2.cell? ⟨W1.heap.size,0,none⟩=some (.int .i64 15):=by rw [hcell_ HIR.out.1];simp [e]
       have k1:W2.cell? ⟨W1.heap.size,1,none⟩=some (.int .i64 i.a):=by rw [hcell_ HIR.out.1];rfl
       have k2:W2.cell? ⟨W1.heap.size,2,none⟩=some (.int .i64 i.b):=by rw [hcell_ HIR.out.1];rfl
       obtain ⟨vf,vt,hm⟩:=HM2.out.mb;have hbx:=hm.box;have hS3:=HH.out.stack;have hbl:=HH.out.upon.1;obtain ⟨sao,scp,hv1,hml1,hsh⟩:=HU.out.sh;obtain ⟨gs,offs,vx,rfl,q0,r1⟩:=hsh (i.a - 1).toNat _ hs;obtain ⟨ta,tc,rfl,_⟩:=r1;have hts:=(HU.out.ok.shape _ (List.mem_of_getElem? hs)).2.1;have hql:=(List.getElem?_eq_some_iff.1 hs).1;have hfew:=HU.out.ok.few.1;have hqi:((i.a - 1).toNat:Int) < (C.u.shapes.length:Int):=by omega
       have hwq:IntKind.i64.wrap (i.a - 1)=((i.a - 1).toNat:Int):=by rw [Go.IntWalk.i64_in _ (by omega)];omega
       have hfx:=HSt.out.ok.facts HU.out.ok;obtain ⟨f1,f2,f3,f4⟩:=hfx;have hgd:C.u.shapes.getD (i.a - 1).toNat []=ts:=by rw [List.getD_eq_getElem?_getD,hs];rfl
       have hLd:L.length≤99:=HSt.out.ok.deep;have htk:tk≤C.heap:=HSt.out.tak;have hcts:=HSt.out.cts;have hbls:bs.length≤s:=HSt.out.bls;have HRM:Hid (∀w',Gr W2 w'→Calls Tryz.prog 104 #[.pointer (some ⟨C.mb,6,none⟩),.int .i64 (ts.length:Int),vf] w' fun e w4=>∃cs' ct',ct≤ct'∧ct'≤ct+1∧e=.returned (.bool (decide (roomN C.heap ts.length (x :: L) bs tk+(ts.length+1)≤C.heap)))∧MW C w4 ρ nm fbn cs' ct' (x :: L) bs (roomN C.heap ts.length (x :: L) bs tk) told∧Kept w' w4 ρ ρ):=hide (fun w' gg=>room_mw ts.length (by omega) (by omega) hhp (HM2.out.of_gr gg) (hm.mv (S:=fun _=>True) (fun b hb _=>⟨gg.block b hb (by simp),rfl⟩) trivial trivial trivial) (by simp) (by show L.length+1≤1000;omega) ⟨h0c,by omega⟩ (by omega) f4 f1 f2 f3);have HPN:Hid (pStep C.u C.heap ⟨x,L,bs,tk,told⟩=if roomN C.heap ts.length (x :: L) bs tk+(ts.length+1)≤C.heap then .go ⟨x.behind (a++ [⟨0,some bs.length⟩]),L,bs++ [b],roomN C.heap ts.length (x :: L) bs tk+(ts.length+1),told⟩ else .stop 8 0 ⟨x,L,bs,tk,told⟩):=hide (by
        rw [HH.out.step (m:=⟨x,L,bs,tk,told⟩) C.heap];unfold insP;simp only [e,hgd];rw [if_neg (by decide),if_neg (by decide),if_neg (by decide),if_neg (by decide),if_neg (by decide),if_neg (by decide),if_neg (by decide),if_neg (by decide),if_neg (by decide),if_neg (by decide),if_pos trivial];have hS3:x.stack=a++b:=hS3;rw [hS3,drop_args a b _ hbl.symm,take_args a b _ hbl.symm];rfl)
       have HTK:Hid (∀(w4:World) (cs4:Nat→Int) (ct4:Int) (tk4:Nat),MW C w4 ρ nm fbn cs4 ct4 (x :: L) bs tk4 told→Calls Tryz.prog 101 #[.pointer (some ⟨fbn L.length,0,none⟩),.int .i64 (ts.length:Int)] w4 fun e w5=>∃v,e=.returned v∧w5.ownsRow w4.heap.size 183 2 v b.length (rowV nm b)∧MW C w5 ρ nm fbn cs4 ct4 (x.st a :: L) bs tk4 told∧Kept w4 w5 ρ ρ):=hide (fun w4 cs4 ct4 tk4 h4=>by
        rw [hbl];exact ftake_mw h4 hS3 (by show x.stack.length≤1000;omega))
       have HBF:Hid (Bd bs.length b∧(∀z∈x.st a :: L,Bd bs.length z.slots∧Bd bs.length z.stack)∧∀r∈bs,Bd bs.length r):=hide (by
        have hx0:=f1 x List.mem_cons_self;have hS3:x.stack=a++b:=hS3;have hx1:Bd bs.length x.stack:=hx0.2;rw [hS3] at hx1;refine ⟨fun v hv=>hx1 v (List.mem_append_right _ hv),fun z hz=>?_,f3⟩;rcases List.mem_cons.1 hz with rfl|hz
        · exact ⟨hx0.1,fun v hv=>hx1 v (List.mem_append_left _ hv)⟩
        · exact f1 z (List.mem_cons_of_mem _ hz))
       have HLA:Hid (a.length≤1000∧b.length=ts.length∧tk≤C.heap):=hide (by
        have hS3:x.stack=a++b:=hS3;rw [hS3] at hn;simp at hn;exact ⟨by omega,hbl.symm,htk⟩)
       have KS0:Hid (∀w',Gr W2 w'→w'.cell? ⟨C.mb,0,none⟩=some (.slice (some ⟨gs,offs,none⟩) C.u.shapes.length scp)∧w'.cell? ⟨W1.heap.size,1,none⟩=some (.int .i64 i.a)∧w'.cell? ⟨gs,offs+(i.a - 1).toNat,none⟩=some (.slice ta ts.length tc)):=hide (fun w' gg=>⟨gg.cell (by rw [hcell_ hbx,←hv1];rfl) (by simp),gg.cell k1 (by simp),(HM2.out.gr.trans gg).cell q0 (by simp)⟩);have KS5:Hid (∀w',Gr W2 w'→w'.cell? ⟨C.mb,5,none⟩=some vf):=hide (fun w' gg=>gg.cell (by rw [hcell_ hbx];rfl) (by simp));clear hsh q0 hm hbx k1 k2 hS3 hbl hLd htk hcts hbls f1 f2 f3 f4 hgd hfew hs;generalize hK0:ts.length=kk at KS0 HRM HPN HTK hts HLA;generalize (i.a - 1).toNat=q at KS0 hqi hql hwq;generalize C.u.shapes.length=nsh at KS0 hqi hql;generalize W1.heap.size=ib at KS0 k0 HIR HIB ⊢;clear hK0;go_wp2_with fail
       refine wp_region_held_drew (S:=(fun w'=>w'.cell? ⟨C.mb,0,none⟩=some (.slice (some ⟨gs,offs,none⟩) nsh scp)∧w'.cell? ⟨ib,1,none⟩=some (.int .i64 i.a)∧w'.cell? ⟨gs,offs+q,none⟩=some (.slice ta kk tc))) (by kernel_rfl) (KS0.out _ (Gr.drew (Gr.refl _))) (fun hH=>?_);refine tL 0 _ rfl (fun w hS=>by go_simp<;>rfl) hH ?_
       simp only [Act.put,sA,s0,s1];refine tL 1 _ rfl (fun w hS=>by go_simp<;>rfl) hH ?_
       simp only [Act.put,sA,s0,s1];refine tL 2 _ rfl (fun w hS=>by go_simp<;>rfl) hH ?_
       simp only [Act.put,sA,s0,s1];refine tL 3 _ rfl (fun w hS=>by go_simp<;>rfl) hH ?_
       simp only [Act.put,sA,s0,s1];refine tL 4 _ rfl (fun w hS=>by go_simp<;>rfl) hH ?_
       simp only [Act.put,sA,s0,s1];refine tL 5 _ rfl (fun w hS=>by go_simp<;>rfl) hH ?_
       simp only [Act.put,sA,s0,s1];refine tL 6 _ rfl (fun w hS=>by go_simp<;>rfl) hH ?_
       simp only [Act.put,sA,s0,s1];refine tL 7 _ rfl (fun w hS=>by go_simp<;>rfl) hH ?_
       simp only [Act.put,sA,s0,s1];refine tL 8 _ rfl (fun w hS=>by go_simp<;>rfl) hH ?_
       simp only [Act.put,sA,s0,s1];refine tL 9 _ rfl (fun w hS=>by go_simp<;>rfl) hH ?_
       simp only [Act.put,sA,s0,s1];refine tL 10 _ rfl (fun w hS=>by go_simp<;>rfl) hH ?_
       simp only [Act.put,sA,s0,s1];refine tL 11 _ rfl (fun w hS=>by go_simp<;>rfl) hH ?_
       simp only [Act.put,sA,s0,s1];refine wpAnyH_done (by kernel_rfl) ?_ _;clear hH KS0;have HGD:=hide (Gr.drew (Gr.refl W2));go_upto_region 25 with fail
       generalize W2.drew=W3 at HGD ⊢;by_cases hr:roomN C.heap kk (x :: L) bs tk+(kk+1)≤C.heap
       · have hP:=HPN.out;rw [if_pos hr] at hP;have HP:=hide hP;have hC:=HRM.out W3.drew (HGD.out.trans (Gr.drew (Gr.refl _)));rw [show decide (roomN C.heap kk (x :: L) bs tk+(kk+1)≤C.heap)=true by simpa using hr] at hC;have HC:=hide hC;have HTR:=hide hr;clear hP hC hr HRM HPN;generalize roomN C.heap kk (x :: L) bs tk=TK at HP HC HTR;refine wp_region_s [8,9] (S:=(fun w'=>w'.cell? ⟨C.mb,5,none⟩=some vf)) (by kernel_rfl) (KS5.out _ (HGD.out.trans (Gr.drew (Gr.refl _)))) (fun hH=>?_);refine tS 0 _ rfl (fun w hS=>by go_simp<;>rfl) hH ?_
         simp only [Act.put,sA,s0,s1];refine tS 1 _ rfl (fun w hS=>by go_simp<;>rfl) hH ?_
         simp only [Act.put,sA,s0,s1];refine tS 2 _ rfl (fun w hS=>by go_simp<;>rfl) hH ?_
         simp only [Act.put,sA,s0,s1];refine tS 3 _ rfl (fun w hS=>by go_simp<;>rfl) hH ?_
         simp only [Act.put,sA,s0,s1];refine tS 4 _ rfl (fun w hS=>by go_simp<;>rfl) hH ?_
         simp only [Act.put,sA,s0,s1];refine tS 5 _ rfl (fun w hS=>by go_simp<;>rfl) hH ?_
         simp only [Act.put,sA,s0,s1];refine tS 6 _ rfl (fun w hS=>by go_simp<;>rfl) hH ?_
         simp only [Act.put,sA,s0,s1];refine tS 7 _ rfl (fun w hS=>by go_simp<;>rfl) hH ?_
         simp only [Act.put,sA,s0,s1];refine aloneS (i:=8) rfl (by kernel_rfl) (fun K hK=>?_);refine step_calls_w rfl 104 _ _ rfl #[.pointer (some ⟨C.mb,6,none⟩),.int .i64 (kk:Int),vf] (by simp [Act.eval]) (Tryz.callRoom _ _) (HC.out.mono ?_);rintro e w4 ⟨cs4,ct4,hc1,hc2,rfl,hM4,hK4⟩;have HM4:=hide hM4;have HK4:=hide ((Kept.of_gr (ρ:=ρ) (HGD.out.trans (Gr.drew (Gr.refl _)))).trans hK4);have HC4:=hide (And.intro hc1 hc2);clear hM4 hK4 hc1 hc2 HC;refine .inl ⟨_,rfl,?_⟩;refine hK.out _ _ (fun h=>absurd h (by decide)) ?_;clear hK;try simp only [Act.put,sA,s0,s1]
         refine aloneS (i:=9) rfl (by kernel_rfl) (fun K hK=>?_);have HK:=hide hK;clear hK;refine want_yes (by rfl) ?_;go_simp
         have hK:=HK.out;clear HK;refine hK.out _ _ (fun h=>absurd h (by decide)) ?_;clear hK;try simp only [Act.put,sA,s0,s1]
         refine doneS (by kernel_rfl) ?_ _;clear hH KS5;have HM4d:=hide (HM4.out.of_gr (Gr.drew (Gr.refl w4)));have HK4d:=hide (HK4.out.trans (Kept.of_gr (Gr.drew (Gr.refl w4))));have HCT:=hide (HTK.out _ _ _ _ HM4d.out);clear HTK HM4 HK4;go_wp2_with fail
         refine wp_region_held_drew (S:=(fun _=>True)) (by kernel_rfl) (trivial) (fun hH=>?_);refine tL 0 _ rfl (fun w hS=>by go_simp<;>rfl) hH ?_
         simp only [Act.put,sA,s0,s1];refine tL 1 _ rfl (fun w hS=>by go_simp<;>rfl) hH ?_
         simp only [Act.put,sA,s0,s1];refine tL 2 _ rfl (fun w hS=>by go_simp<;>rfl) hH ?_
         simp only [Act.put,sA,s0,s1];refine tL 3 _ rfl (fun w hS=>by go_simp<;>rfl) hH ?_
         simp only [Act.put,sA,s0,s1];refine tL 4 _ rfl (fun w hS=>by go_simp<;>rfl) hH ?_
         simp only [Act.put,sA,s0,s1];refine aloneL (i:=5) rfl (by kernel_rfl) (fun K hK=>?_);refine step_calls_w rfl 101 _ _ rfl #[.pointer (some ⟨fbn L.length,0,none⟩),.int .i64 (kk:Int)] (by simp [Act.eval]) (Tryz.callTake _ _) (HCT.out.mono ?_);rintro e w5 ⟨v,rfl,hv5,hM5,hK5⟩;have hVs:C.V.heap.size≤w4.drew.heap.size:=HM4d.out.gr.size;have hct4:0≤ct4:=by have:=HC4.out.1;omega
         have HMD:=hide (made_mw hM5 hK5 hVs hv5 (fun k hk=>HM4d.out.new_no (hv5.lt k hk).1) hct4 HBF.out.2.1 HBF.out.2.2 HBF.out.1 (by have:=HTR.out;omega) (by rw [HLA.out.2.1];omega));obtain ⟨va,vcp,rfl⟩:=own_shape_ hv5;clear hv5 hM5 hK5 hVs hct4 HCT;refine .inl ⟨_,rfl,?_⟩;refine hK.out _ _ (trivial) (fun hH=>?_);clear hK;try simp only [Act.put,sA,s0,s1]
         refine aloneL (i:=6) rfl (by kernel_rfl) (fun K hK=>?_);refine step_calls_w rfl 105 _ _ rfl #[.pointer (some ⟨C.mb,6,none⟩),.slice va b.length vcp] (by simp [Act.eval]) (Tryz.callMade _ _) (HMD.out.mono ?_);rintro e w6 ⟨ρ6,nm6,cs6,rfl,hM6,hK6⟩;have HK6:=hide (HK4d.out.trans hK6);have HPS:=hide (push_mw (⟨0,some bs.length⟩:PV) hM6 (show (x.st a).stack.length≤1000 from HLA.out.1));have HB6:=hide (hK6.keepAt (HK4d.out.keepAt HO2.out.1 HO2.out.2).1 (HK4d.out.keepAt HO2.out.1 HO2.out.2).2);clear hM6 hK6 HMD HM4d HK4d;refine .inl ⟨_,rfl,?_⟩;refine hK.out _ _ (trivial) (fun hH=>?_);clear hK;try simp only [Act.put,sA,s0,s1]
         refine tL 7 _ rfl (fun w hS=>by go_simp<;>rfl) hH ?_
         simp only [Act.put,sA,s0,s1];refine wpAnyH_done (by kernel_rfl) ?_ _;clear hH;go_wp2_with fail
         refine HPS.out.mono ?_;rintro e w7 ⟨rfl,ρ7,hM7,hK7⟩;replace hM7:MW C w7 ρ7 nm6 fbn cs6 ct4 (x.st (a++ [⟨0,some bs.length⟩]) :: L) (bs++ [b]) (TK+(b.length+1)) told:=hM7;have hO7:=hK7.keepAt HB6.out.1 HB6.out.2;have h0c4:0≤ct4:=by have:=HC4.out.1;omega
         have HPE:Hid (pStep C.u C.heap ⟨x,L,bs,tk,told⟩=.go ⟨⟨x.fn,x.pos+1,x.slots,a++ [⟨0,some bs.length⟩]⟩,L,bs++ [b],TK+(b.length+1),told⟩):=hide (by rw [HLA.out.2.1];exact HP.out);have hA:=(hM7).at1;obtain ⟨pa1,pz1⟩:=hA;have hZ:MW C (w7.setCell ⟨fbn L.length,1,none⟩ (.int .i64 (((x.st (a++ [⟨0,some bs.length⟩])).pos:Int)+1))) ρ7 nm6 fbn cs6 ct4 ((x.st (a++ [⟨0,some bs.length⟩])).go ((x.st (a++ [⟨0,some bs.length⟩])).pos+1) :: L) (bs++ [b]) (TK+(b.length+1)) told∧Kept w7 (w7.setCell ⟨fbn L.length,1,none⟩ (.int .i64 (((x.st (a++ [⟨0,some bs.length⟩])).pos:Int)+1))) ρ7 ρ7:=(hM7).setPos ((x.st (a++ [⟨0,some bs.length⟩])).pos+1);have hOUT:OutAt (w7.setCell ⟨fbn L.length,1,none⟩ (.int .i64 (((x.st (a++ [⟨0,some bs.length⟩])).pos:Int)+1))) ob 7 0 ((s:Int)+1):=(hZ.2.keepAt (hO7).1 (hO7).2).1;have HEND:=hide (And.intro (RunI.go HSt.out HU.out HT.out hlt (m':=⟨⟨x.fn,x.pos+1,x.slots,a++ [⟨0,some bs.length⟩]⟩,L,bs++ [b],TK+(b.length+1),told⟩) HPE.out hZ.1 ((HK2.out.trans (HK6.out.trans hK7)).trans hZ.2) hOUT (hO7).2 h0c4 HC4.out.2 (by show TK+(b.length+1)≤C.heap;rw [HLA.out.2.1];exact HTR.out)) hOUT.mk);have hwp:IntKind.i64.wrap (((x.st (a++ [⟨0,some bs.length⟩])).pos:Int)+1)=((x.st (a++ [⟨0,some bs.length⟩])).pos:Int)+1:=Go.IntWalk.i64_in _ (by have h9:(x.st (a++ [⟨0,some bs.length⟩])).pos < 200:=HPB.out;omega);clear hZ hOUT;clear hM7 hK7 hO7;go_wp2_with fail
         go_roundw
         case rel=>exact HEND.out.1
         case measure=>(rw [HEND.out.2,HMK.out];omega)
       · have hP:=HPN.out;rw [if_neg hr] at hP;have HP:=hide hP;have HFN:Hid (FIN=⟨8,0,0,0,0,told,(s:Int)+1⟩):=hide (by have:=HSt.out.run;rw [show fuel - s=(fuel - (s+1))+1 by omega,pRun_stop HP.out] at this;rw [←this];rfl);have hC:=HRM.out W3.drew (HGD.out.trans (Gr.drew (Gr.refl _)));rw [show decide (roomN C.heap kk (x :: L) bs tk+(kk+1)≤C.heap)=false by simpa using hr] at hC;have HC:=hide hC;clear hP hC hr HRM HPN HTK;generalize roomN C.heap kk (x :: L) bs tk=TK at HC;refine wp_region_s [8,9] (S:=(fun w'=>w'.cell? ⟨C.mb,5,none⟩=some vf)) (by kernel_rfl) (KS5.out _ (HGD.out.trans (Gr.drew (Gr.refl _)))) (fun hH=>?_);refine tS 0 _ rfl (fun w hS=>by go_simp<;>rfl) hH ?_
         simp only [Act.put,sA,s0,s1];refine tS 1 _ rfl (fun w hS=>by go_simp<;>rfl) hH ?_
         simp only [Act.put,sA,s0,s1];refine tS 2 _ rfl (fun w hS=>by go_simp<;>rfl) hH ?_
         simp only [Act.put,sA,s0,s1];refine tS 3 _ rfl (fun w hS=>by go_simp<;>rfl) hH ?_
         simp only [Act.put,sA,s0,s1];refine tS 4 _ rfl (fun w hS=>by go_simp<;>rfl) hH ?_
         simp only [Act.put,sA,s0,s1];refine tS 5 _ rfl (fun w hS=>by go_simp<;>rfl) hH ?_
         simp only [Act.put,sA,s0,s1];refine tS 6 _ rfl (fun w hS=>by go_simp<;>rfl) hH ?_
         simp only [Act.put,sA,s0,s1];refine tS 7 _ rfl (fun w hS=>by go_simp<;>rfl) hH ?_
         simp only [Act.put,sA,s0,s1];refine aloneS (i:=8) rfl (by kernel_rfl) (fun K hK=>?_);refine step_calls_w rfl 104 _ _ rfl #[.pointer (some ⟨C.mb,6,none⟩),.int .i64 (kk:Int),vf] (by simp [Act.eval]) (Tryz.callRoom _ _) (HC.out.mono ?_);rintro e w4 ⟨cs4,ct4,hc1,hc2,rfl,hM4,hK4⟩;have HM4:=hide hM4;have HK4:=hide ((Kept.of_gr (ρ:=ρ) (HGD.out.trans (Gr.drew (Gr.refl _)))).trans hK4);clear hM4 hK4 hc1 hc2 HC;refine .inl ⟨_,rfl,?_⟩;refine hK.out _ _ (fun h=>absurd h (by decide)) ?_;clear hK;try simp only [Act.put,sA,s0,s1]
         refine aloneS (i:=9) rfl (by kernel_rfl) (fun K hK=>?_);have HK:=hide hK;clear hK;refine want_yes (by rfl) ?_;go_simp
         have hK:=HK.out;clear HK;refine hK.out _ _ (fun h=>absurd h (by decide)) ?_;clear hK;try simp only [Act.put,sA,s0,s1]
         refine doneS (by kernel_rfl) ?_ _;clear hH KS5;have hO4:=HK4.out.keepAt HO2.out.1 HO2.out.2;have hcw:=cells7 (hO4).1;have cw0:w4.cell? ⟨ob,0,none⟩=some (.int .i64 7):=hcw.1.1;have zw0:w4.frozen? ⟨ob,0,none⟩=false:=hcw.2.1;have hOS:=(HM4.out).outSet (o:=0) (v:=.int .i64 8) (hO4).2 HSt.out.olt HV0.out (HK2.out.trans HK4.out);have hOW:OutAt (w4.setCell ⟨ob,0,none⟩ (.int .i64 8)) ob 8 0 ((s:Int)+1):=(heap_setCell_same w4 ob 0 _ _ _ (hO4).1).trans (by simp);have HOS:=hide hOS;have HOW:=hide hOW;clear hcw hOS hOW hO4;go_upto_region 38 with fail
         clear cw0 zw0;generalize w4.setCell ⟨ob,0,none⟩ (.int .i64 8)=W9 at HOS HOW ⊢;have hMF:MW C W9 ρ nm fbn cs4 ct4 (x :: L) bs TK FIN.told:=by rw [HFN.out];exact HOS.out.1
         have HOE:=hide HOW.out;have HRW:=hide ((HOS.out.2).keepAt HRB.out HRO.out).1;have HRS:=hide (setRow_heap _ rb _ #[.int .i64 8,.int .i64 0,.int .i64 0,.int .i64 0,.int .i64 0,.slice none 0 0,.int .i64 ((s:Int)+1)] _ _ HRW.out);have HRE:=hide (RunE.of (FIN:=FIN) hMF (HOS.out.2) HRB.out HRO.out HW0.out HR1.out HV1.out #[.int .i64 8,.int .i64 0,.int .i64 0,.int .i64 0,.int .i64 0,.slice none 0 0,.int .i64 ((s:Int)+1)]);go_upto_region 38 with fail
         obtain ⟨dO,hu1⟩:=Tryz.undOut;refine wp_region_lit ?_;refine wpList_load_row rfl 39 _ rfl ob rfl _ _ _ (.struct dO) HOE.out hu1 rfl Tryz.sizOut ?_;refine wpList_store_row rfl 39 _ _ rfl rb #[.int .i64 8,.int .i64 0,.int .i64 0,.int .i64 0,.int .i64 0,.slice none 0 0,.int .i64 ((s:Int)+1)] rfl rfl _ _ HRW.out Tryz.sizOut rfl (by simp [Value.oneCell']) ?_;have HU1:=hide hu1;clear hu1;generalize hWE:W9.setRow rb #[.int .i64 8,.int .i64 0,.int .i64 0,.int .i64 0,.int .i64 0,.slice none 0 0,.int .i64 ((s:Int)+1)]=WE at HRS HRE ⊢;clear hWE;go_wp2_with fail
         try rw [Exit.noGoto_ret]
         refine bodyPost_ret (v:=.agg #[.int .i64 8,.int .i64 0,.int .i64 0,.int .i64 0,.int .i64 0,.slice none 0 0,.int .i64 ((s:Int)+1)]) (results_cell_row rfl _ _ rb _ _ _ (.struct dO) rfl HRS.out HU1.out rfl Tryz.sizOut) rfl ?_;exact ⟨by rw [HFN.out],HRE.out⟩
      | get s2 k e h1 h0 hs hk=>
       have k0:W2.cell? ⟨W1.heap.size,0,none⟩=some (.int .i64 16):=by rw [hcell_ HIR.out.1];simp [e]
       have k1:W2.cell? ⟨W1.heap.size,1,none⟩=some (.int .i64 i.a):=by rw [hcell_ HIR.out.1];rfl
       have k2:W2.cell? ⟨W1.heap.size,2,none⟩=some (.int .i64 i.b):=by rw [hcell_ HIR.out.1];rfl
       obtain ⟨r,st,bs',hP,hc⟩:=into_all C.heap HH.out (by omega) HM2.out HSt.out.ok.shapes HSt.out.ok.blks;have hP2:=hP L tk told;rw [←HH.out.step (m:=⟨x,L,bs,tk,told⟩) C.heap] at hP2;rw [e] at hc;clear hP;cases r with
       | true=>
        have HP:Hid (pStep C.u C.heap ⟨x,L,bs,tk,told⟩=.go ⟨⟨x.fn,x.pos+1,x.slots,st⟩,L,bs',tk,told⟩):=hide hP2;have HC:=hide hc;clear hc hP2;go_wp2_with fail
        refine HC.out.mono ?_;rintro e w3 ⟨rfl,ρ3,hM3,hK3⟩;have hO3:=hK3.keepAt HO2.out.1 HO2.out.2;have hA:=(hM3).at1;obtain ⟨pa1,pz1⟩:=hA;have hZ:MW C (w3.setCell ⟨fbn L.length,1,none⟩ (.int .i64 (((x.st st).pos:Int)+1))) ρ3 nm fbn cs ct ((x.st st).go ((x.st st).pos+1) :: L) bs' tk told∧Kept w3 (w3.setCell ⟨fbn L.length,1,none⟩ (.int .i64 (((x.st st).pos:Int)+1))) ρ3 ρ3:=(hM3).setPos ((x.st st).pos+1);have hOUT:OutAt (w3.setCell ⟨fbn L.length,1,none⟩ (.int .i64 (((x.st st).pos:Int)+1))) ob 7 0 ((s:Int)+1):=(hZ.2.keepAt (hO3).1 (hO3).2).1;have HEND:=hide (And.intro (RunI.go HSt.out HU.out HT.out hlt (m':=⟨⟨x.fn,x.pos+1,x.slots,st⟩,L,bs',tk,told⟩) HP.out hZ.1 ((HK2.out.trans hK3).trans hZ.2) hOUT (hO3).2 h0c h1c HSt.out.tak) hOUT.mk);have hwp:IntKind.i64.wrap (((x.st st).pos:Int)+1)=((x.st st).pos:Int)+1:=Go.IntWalk.i64_in _ (by have h9:(x.st st).pos < 200:=HPB.out;omega);clear hZ hOUT;clear hM3 hK3 hO3;go_wp2_with fail
        go_roundw
        case rel=>exact HEND.out.1
        case measure=>(rw [HEND.out.2,HMK.out];omega)
       | false=>
        have HP:Hid (pStep C.u C.heap ⟨x,L,bs,tk,told⟩=.stop 10 0 ⟨x,L,bs,tk,told⟩):=hide hP2;have HFN:Hid (FIN=⟨10,0,0,0,0,told,(s:Int)+1⟩):=hide (by have:=HSt.out.run;rw [show fuel - s=(fuel - (s+1))+1 by omega,pRun_stop HP.out] at this;rw [←this];rfl);have HC:=hide hc;clear hc hP2;go_wp2_with fail
        refine HC.out.mono ?_;rintro e w3 ⟨rfl,ρ3,hM3,hK3⟩;have hO3:=hK3.keepAt HO2.out.1 HO2.out.2;have hcw:=cells7 (hO3).1;have cw0:w3.cell? ⟨ob,0,none⟩=some (.int .i64 7):=hcw.1.1;have zw0:w3.frozen? ⟨ob,0,none⟩=false:=hcw.2.1;have hOS:=(hM3).outSet (o:=0) (v:=.int .i64 10) (hO3).2 HSt.out.olt HV0.out (HK2.out.trans hK3);have hOW:OutAt (w3.setCell ⟨ob,0,none⟩ (.int .i64 10)) ob 10 0 ((s:Int)+1):=(heap_setCell_same w3 ob 0 _ _ _ (hO3).1).trans (by simp);have HOS:=hide hOS;have HOW:=hide hOW;clear hcw hOS hOW hM3 hK3 hO3;go_upto_region 38 with fail
        clear cw0 zw0;generalize w3.setCell ⟨ob,0,none⟩ (.int .i64 10)=W9 at HOS HOW ⊢;have hMF:MW C W9 ρ3 nm fbn cs ct (x.st st :: L) bs' tk FIN.told:=by rw [HFN.out];exact HOS.out.1
        have HOE:=hide HOW.out;have HRW:=hide ((HOS.out.2).keepAt HRB.out HRO.out).1;have HRS:=hide (setRow_heap _ rb _ #[.int .i64 10,.int .i64 0,.int .i64 0,.int .i64 0,.int .i64 0,.slice none 0 0,.int .i64 ((s:Int)+1)] _ _ HRW.out);have HRE:=hide (RunE.of (FIN:=FIN) hMF (HOS.out.2) HRB.out HRO.out HW0.out HR1.out HV1.out #[.int .i64 10,.int .i64 0,.int .i64 0,.int .i64 0,.int .i64 0,.slice none 0 0,.int .i64 ((s:Int)+1)]);go_upto_region 38 with fail
        obtain ⟨dO,hu1⟩:=Tryz.undOut;refine wp_region_lit ?_;refine wpList_load_row rfl 39 _ rfl ob rfl _ _ _ (.struct dO) HOE.out hu1 rfl Tryz.sizOut ?_;refine wpList_store_row rfl 39 _ _ rfl rb #[.int .i64 10,.int .i64 0,.int .i64 0,.int .i64 0,.int .i64 0,.slice none 0 0,.int .i64 ((s:Int)+1)] rfl rfl _ _ HRW.out Tryz.sizOut rfl (by simp [Value.oneCell']) ?_;have HU1:=hide hu1;clear hu1;generalize hWE:W9.setRow rb #[.int .i64 10,.int .i64 0,.int .i64 0,.int .i64 0,.int .i64 0,.slice none 0 0,.int .i64 ((s:Int)+1)]=WE at HRS HRE ⊢;clear hWE;go_wp2_with fail
        try rw [Exit.noGoto_ret]
        refine bodyPost_ret (v:=.agg #[.int .i64 10,.int .i64 0,.int .i64 0,.int .i64 0,.int .i64 0,.slice none 0 0,.int .i64 ((s:Int)+1)]) (results_cell_row rfl _ _ rb _ _ _ (.struct dO) rfl HRS.out HU1.out rfl Tryz.sizOut) rfl ?_;exact ⟨by rw [HFN.out],HRE.out⟩
      | set s2 k e h1 h0 hs hk=>
       have k0:W2.cell? ⟨W1.heap.size,0,none⟩=some (.int .i64 17):=by rw [hcell_ HIR.out.1];simp [e]
       have k1:W2.cell? ⟨W1.heap.size,1,none⟩=some (.int .i64 i.a):=by rw [hcell_ HIR.out.1];rfl
       have k2:W2.cell? ⟨W1.heap.size,2,none⟩=some (.int .i64 i.b):=by rw [hcell_ HIR.out.1];rfl
       obtain ⟨r,st,bs',hP,hc⟩:=into_all C.heap HH.out (by omega) HM2.out HSt.out.ok.shapes HSt.out.ok.blks;have hP2:=hP L tk told;rw [←HH.out.step (m:=⟨x,L,bs,tk,told⟩) C.heap] at hP2;rw [e] at hc;clear hP;cases r with
       | true=>
        have HP:Hid (pStep C.u C.heap ⟨x,L,bs,tk,told⟩=.go ⟨⟨x.fn,x.pos+1,x.slots,st⟩,L,bs',tk,told⟩):=hide hP2;have HC:=hide hc;clear hc hP2;go_wp2_with fail
        refine HC.out.mono ?_;rintro e w3 ⟨rfl,ρ3,hM3,hK3⟩;have hO3:=hK3.keepAt HO2.out.1 HO2.out.2;have hA:=(hM3).at1;obtain ⟨pa1,pz1⟩:=hA;have hZ:MW C (w3.setCell ⟨fbn L.length,1,none⟩ (.int .i64 (((x.st st).pos:Int)+1))) ρ3 nm fbn cs ct ((x.st st).go ((x.st st).pos+1) :: L) bs' tk told∧Kept w3 (w3.setCell ⟨fbn L.length,1,none⟩ (.int .i64 (((x.st st).pos:Int)+1))) ρ3 ρ3:=(hM3).setPos ((x.st st).pos+1);have hOUT:OutAt (w3.setCell ⟨fbn L.length,1,none⟩ (.int .i64 (((x.st st).pos:Int)+1))) ob 7 0 ((s:Int)+1):=(hZ.2.keepAt (hO3).1 (hO3).2).1;have HEND:=hide (And.intro (RunI.go HSt.out HU.out HT.out hlt (m':=⟨⟨x.fn,x.pos+1,x.slots,st⟩,L,bs',tk,told⟩) HP.out hZ.1 ((HK2.out.trans hK3).trans hZ.2) hOUT (hO3).2 h0c h1c HSt.out.tak) hOUT.mk);have hwp:IntKind.i64.wrap (((x.st st).pos:Int)+1)=((x.st st).pos:Int)+1:=Go.IntWalk.i64_in _ (by have h9:(x.st st).pos < 200:=HPB.out;omega);clear hZ hOUT;clear hM3 hK3 hO3;go_wp2_with fail
        go_roundw
        case rel=>exact HEND.out.1
        case measure=>(rw [HEND.out.2,HMK.out];omega)
       | false=>
        have HP:Hid (pStep C.u C.heap ⟨x,L,bs,tk,told⟩=.stop 10 0 ⟨x,L,bs,tk,told⟩):=hide hP2;have HFN:Hid (FIN=⟨10,0,0,0,0,told,(s:Int)+1⟩):=hide (by have:=HSt.out.run;rw [show fuel - s=(fuel - (s+1))+1 by omega,pRun_stop HP.out] at this;rw [←this];rfl);have HC:=hide hc;clear hc hP2;go_wp2_with fail
        refine HC.out.mono ?_;rintro e w3 ⟨rfl,ρ3,hM3,hK3⟩;have hO3:=hK3.keepAt HO2.out.1 HO2.out.2;have hcw:=cells7 (hO3).1;have cw0:w3.cell? ⟨ob,0,none⟩=some (.int .i64 7):=hcw.1.1;have zw0:w3.frozen? ⟨ob,0,none⟩=false:=hcw.2.1;have hOS:=(hM3).outSet (o:=0) (v:=.int .i64 10) (hO3).2 HSt.out.olt HV0.out (HK2.out.trans hK3);have hOW:OutAt (w3.setCell ⟨ob,0,none⟩ (.int .i64 10)) ob 10 0 ((s:Int)+1):=(heap_setCell_same w3 ob 0 _ _ _ (hO3).1).trans (by simp);have HOS:=hide hOS;have HOW:=hide hOW;clear hcw hOS hOW hM3 hK3 hO3;go_upto_region 38 with fail
        clear cw0 zw0;generalize w3.setCell ⟨ob,0,none⟩ (.int .i64 10)=W9 at HOS HOW ⊢;have hMF:MW C W9 ρ3 nm fbn cs ct (x.st st :: L) bs' tk FIN.told:=by rw [HFN.out];exact HOS.out.1
        have HOE:=hide HOW.out;have HRW:=hide ((HOS.out.2).keepAt HRB.out HRO.out).1;have HRS:=hide (setRow_heap _ rb _ #[.int .i64 10,.int .i64 0,.int .i64 0,.int .i64 0,.int .i64 0,.slice none 0 0,.int .i64 ((s:Int)+1)] _ _ HRW.out);have HRE:=hide (RunE.of (FIN:=FIN) hMF (HOS.out.2) HRB.out HRO.out HW0.out HR1.out HV1.out #[.int .i64 10,.int .i64 0,.int .i64 0,.int .i64 0,.int .i64 0,.slice none 0 0,.int .i64 ((s:Int)+1)]);go_upto_region 38 with fail
        obtain ⟨dO,hu1⟩:=Tryz.undOut;refine wp_region_lit ?_;refine wpList_load_row rfl 39 _ rfl ob rfl _ _ _ (.struct dO) HOE.out hu1 rfl Tryz.sizOut ?_;refine wpList_store_row rfl 39 _ _ rfl rb #[.int .i64 10,.int .i64 0,.int .i64 0,.int .i64 0,.int .i64 0,.slice none 0 0,.int .i64 ((s:Int)+1)] rfl rfl _ _ HRW.out Tryz.sizOut rfl (by simp [Value.oneCell']) ?_;have HU1:=hide hu1;clear hu1;generalize hWE:W9.setRow rb #[.int .i64 10,.int .i64 0,.int .i64 0,.int .i64 0,.int .i64 0,.slice none 0 0,.int .i64 ((s:Int)+1)]=WE at HRS HRE ⊢;clear hWE;go_wp2_with fail
        try rw [Exit.noGoto_ret]
        refine bodyPost_ret (v:=.agg #[.int .i64 10,.int .i64 0,.int .i64 0,.int .i64 0,.int .i64 0,.slice none 0 0,.int .i64 ((s:Int)+1)]) (results_cell_row rfl _ _ rb _ _ _ (.struct dO) rfl HRS.out HU1.out rfl Tryz.sizOut) rfl ?_;exact ⟨by rw [HFN.out],HRE.out⟩
      | out e=>
       obtain ⟨v,rfl,hv⟩:=HH.out.upon.of_one;have k0:W2.cell? ⟨W1.heap.size,0,none⟩=some (.int .i64 20):=by rw [hcell_ HIR.out.1];simp [e]
       have k1:W2.cell? ⟨W1.heap.size,1,none⟩=some (.int .i64 i.a):=by rw [hcell_ HIR.out.1];rfl
       have k2:W2.cell? ⟨W1.heap.size,2,none⟩=some (.int .i64 i.b):=by rw [hcell_ HIR.out.1];rfl
       have hS3:=HH.out.stack;have HC:=hide (pop_mw HM2.out hS3 (by show x.stack.length≤1000;omega));have hf0:=Tryz.fld0;have HP:Hid (pStep C.u C.heap ⟨x,L,bs,tk,told⟩=.go ⟨⟨x.fn,x.pos+1,x.slots,a⟩,L,bs,tk,tellL told v.num⟩):=hide (by rw [HH.out.step (m:=⟨x,L,bs,tk,told⟩) C.heap];unfold insP;simp only [e,hS3,getD_last,take_last];rfl);have HTL:Hid (∀(w3:World) (ρ3:Nat→Role),MW C w3 ρ3 nm fbn cs ct (x.st a :: L) bs tk told→Calls Tryz.prog 107 #[.pointer (some ⟨C.mb,0,none⟩),.int .i64 v.num] w3 fun e w'=>e=.returned (.tuple #[])∧MGo C w3 ρ3 nm fbn cs ct (x.st a :: L) bs tk (tellL told v.num) w'):=hide (fun w3 ρ3 h=>tell_mw v.num h HSt.out.ok.told);clear hS3;generalize hPV:pvP nm v.blk=pvv at HC;clear hPV;go_wp2_with fail
       refine HC.out.mono ?_;rintro e w3 ⟨rfl,ρ3,hM3,hK3⟩;have hO3:=hK3.keepAt HO2.out.1 HO2.out.2;have HT3:=hide (HTL.out _ _ hM3);have HK3:=hide hK3;have HO3:=hide hO3;clear hM3 hK3 hO3 HTL;go_wp2_with fail
       refine HT3.out.mono ?_;rintro e w4 ⟨rfl,ρ4,hM4,hK4⟩;have hO4:=hK4.keepAt HO3.out.1 HO3.out.2;have hA:=(hM4).at1;obtain ⟨pa1,pz1⟩:=hA;have hZ:MW C (w4.setCell ⟨fbn L.length,1,none⟩ (.int .i64 (((x.st a).pos:Int)+1))) ρ4 nm fbn cs ct ((x.st a).go ((x.st a).pos+1) :: L) bs tk (tellL told v.num)∧Kept w4 (w4.setCell ⟨fbn L.length,1,none⟩ (.int .i64 (((x.st a).pos:Int)+1))) ρ4 ρ4:=(hM4).setPos ((x.st a).pos+1);have hOUT:OutAt (w4.setCell ⟨fbn L.length,1,none⟩ (.int .i64 (((x.st a).pos:Int)+1))) ob 7 0 ((s:Int)+1):=(hZ.2.keepAt (hO4).1 (hO4).2).1;have HEND:=hide (And.intro (RunI.go HSt.out HU.out HT.out hlt (m':=⟨⟨x.fn,x.pos+1,x.slots,a⟩,L,bs,tk,tellL told v.num⟩) HP.out hZ.1 ((HK2.out.trans (HK3.out.trans hK4)).trans hZ.2) hOUT (hO4).2 h0c h1c HSt.out.tak) hOUT.mk);have hwp:IntKind.i64.wrap (((x.st a).pos:Int)+1)=((x.st a).pos:Int)+1:=Go.IntWalk.i64_in _ (by have h9:(x.st a).pos < 200:=HPB.out;omega);clear hZ hOUT;clear hM4 hK4 hO4;go_wp2_with fail
       go_roundw
       case rel=>exact HEND.out.1
       case measure=>(rw [HEND.out.2,HMK.out];omega)
      | small e=>exact absurd (by omega) hdo
      | load k e h0 hk=>exact absurd (by omega) hdo
      | store k e h0 hk=>exact absurd (by omega) hdo
      | pop k e=>exact absurd (by omega) hdo
      | dup k e=>exact absurd (by omega) hdo
      | reck e1 e2=>exact absurd (by omega) hdo
      | nil e h1=>exact absurd (by omega) hdo
      | isnil e h1=>exact absurd (by omega) hdo
  · have hse:s=fuel:=by have:=HSt.out.le;omega
    have HFN:Hid (FIN=⟨7,0,0,0,0,told,(s:Int)⟩):=hide (by have:=HSt.out.run;rw [hse,Nat.sub_self,pRun_zero] at this;rw [←this,hse]);have hMF:MW C wr ρ nm fbn cs ct (x :: L) bs tk FIN.told:=by rw [HFN.out];exact HSt.out.mw
    have hnl:¬(s:Int) < (fuel:Int):=by omega
    clear hse;have c6:wr.cell? ⟨ob,6,none⟩=some (.int .i64 (s:Int)):=c7.1.2.2.2.2.2.2;clear c7;have HOE:=hide hOut;have HRW:=hide ((HSt.out.kp).keepAt HRB.out HRO.out).1;have HRS:=hide (setRow_heap _ rb _ #[.int .i64 7,.int .i64 0,.int .i64 0,.int .i64 0,.int .i64 0,.slice none 0 0,.int .i64 (s:Int)] _ _ HRW.out);have HRE:=hide (RunE.of (FIN:=FIN) hMF (HSt.out.kp) HRB.out HRO.out HW0.out HR1.out HV1.out #[.int .i64 7,.int .i64 0,.int .i64 0,.int .i64 0,.int .i64 0,.slice none 0 0,.int .i64 (s:Int)]);go_upto_region 38 with fail
    obtain ⟨dO,hu1⟩:=Tryz.undOut;refine wp_region_lit ?_;refine wpList_load_row rfl 39 _ rfl ob rfl _ _ _ (.struct dO) HOE.out hu1 rfl Tryz.sizOut ?_;refine wpList_store_row rfl 39 _ _ rfl rb #[.int .i64 7,.int .i64 0,.int .i64 0,.int .i64 0,.int .i64 0,.slice none 0 0,.int .i64 (s:Int)] rfl rfl _ _ HRW.out Tryz.sizOut rfl (by simp [Value.oneCell']) ?_;have HU1:=hide hu1;clear hu1;generalize hWE:wr.setRow rb #[.int .i64 7,.int .i64 0,.int .i64 0,.int .i64 0,.int .i64 0,.slice none 0 0,.int .i64 (s:Int)]=WE at HRS HRE ⊢;clear hWE;go_wp2_with fail
    try rw [Exit.noGoto_ret]
    refine bodyPost_ret (v:=.agg #[.int .i64 7,.int .i64 0,.int .i64 0,.int .i64 0,.int .i64 0,.slice none 0 0,.int .i64 (s:Int)]) (results_cell_row rfl _ _ rb _ _ _ (.struct dO) rfl HRS.out HU1.out rfl Tryz.sizOut) rfl ?_;exact ⟨by rw [HFN.out],HRE.out⟩
end Go.Proofs.YtkgncijcnlfhiaaGreat
