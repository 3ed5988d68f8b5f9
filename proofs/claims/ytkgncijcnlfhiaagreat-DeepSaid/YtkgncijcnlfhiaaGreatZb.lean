import Derived.Test.YtkgncijcnlfhiaaGreatZn
import Derived.Test.YtkgncijcnlfhiaaGreatNs
import Derived.Test.YtkgncijcnlfhiaaGreatNa
namespace Go.Proofs.YtkgncijcnlfhiaaGreat
set_option maxRecDepth 100000
set_option maxHeartbeats 2000000
set_option linter.unusedVariables false
set_option linter.unusedSimpArgs false
open Go.RowKit
attribute [local go_sem ↓] Go.wp_at_zero Go.wp_at_succ
def startP(q:Nat)(f:PFunc):PM:=⟨⟨q,0,zeroPV f.locals.length,[]⟩,[],[],0,[]⟩
def machP(fuel heap:Nat)(u:PUnit):POut:=match mainP u with
 | none=>⟨5,0,0,0,0,[],0⟩
 | some q=>match u.funcs[q]? with
  | none=>⟨5,0,0,0,0,[],0⟩
  | some f=>pRun u heap fuel 0 (startP q f)
theorem link_none{us:List PUnit}{u:PUnit}(h:linkP us=.inl u):u.imports= []:=by
 cases us with
 | nil=>simp [linkP] at h
 | cons a t=>
  rw [linkP] at h;dsimp only at h
  repeat' split at h
  all_goals first
   |(cases h;done)
   |(cases h;rfl)
theorem ver_ok{u:PUnit}(h:verifyP u=(0,0,0)):unitOk u=true:=by
 unfold verifyP at h;by_cases hu:unitOk u=true
 · exact hu
 · rw [if_neg hu] at h;simp at h
theorem start_ok{u:PUnit}{Ts:Nat→Nat→Option (List Int)}{q:Nat}{f:PFunc}(hT:∀n f,u.funcs[n]? =some f→Tab u f (Ts n))(hf:u.funcs[q]? =some f)(hp:f.params= [])(hr:f.result=0):MOk u Ts [] (startP q f):=by
 refine ⟨⟨f,[],hf,(hT q f hf).zero,?_,.nil _,by simp⟩,trivial,⟨f,hf,hr⟩,by show 0≤99;omega,rfl,fun j k fs hj=>by simp at hj,by show 0≤1000;omega⟩;rw [hp,List.nil_append];exact .zeros _ _
theorem pRun_zero3(u:PUnit)(heap:Nat):∀(n s:Nat) (m:PM),(pRun u heap n s m).unit=0∧(pRun u heap n s m).at_=0∧(pRun u heap n s m).e=0
 | 0,s,m=>⟨rfl,rfl,rfl⟩
 | n+1,s,m=>by
  rw [pRun];cases pStep u heap m with
  | go m'=>exact pRun_zero3 u heap n (s+1) m'
  | stop why res m'=>exact ⟨rfl,rfl,rfl⟩
theorem told_of{C:MC}{w:World}{ρ:Nat→Role}{nm fbn:Nat→Nat}{cs:Nat→Int}{ct:Int}{L:List PFr}{bs:List (List PV)}{tk:Nat}{told:List Int}(h:MW C w ρ nm fbn cs ct L bs tk told):∃vf vt,MbW C w ρ fbn L.length (tk:Int) ct told vf vt∧RIntsF C.V.heap.size w vt told:=by
 obtain ⟨vf,vt,hm⟩:=h.mb;refine ⟨vf,vt,hm,?_⟩;obtain ⟨ao,cap,rfl⟩:=own_shape_ hm.tl;refine ⟨ao,cap,rfl,own_len hm.tl,fun i y hi=>?_⟩;have hl:i < told.length:=(List.getElem?_eq_some_iff.1 hi).1;obtain ⟨b,cp,e1,e2⟩:=own_cell hm.tl (j:=i) (by omega);simp only [Value.slice.injEq,true_and] at e1;refine ⟨b,0,e1.1,(h.lo b (by rw [hm.rt b (by rw [e1.1];rfl)];nofun)).1,?_⟩;rw [Nat.zero_add,e2,ivL,List.getElem?_map,hi];rfl
theorem mach_any(fuel heap:Nat)(hf:fuel≤200000)(hh:heap≤10000000)(u:PUnit)(V:World)(v:Value)(him:u.imports= [])(hver:verifyP u=(0,0,0))(hR:RUnit V v u):
 Calls Tryz.prog 31 #[v,.int .i64 (fuel:Int),.int .i64 (heap:Int)] V fun x w'=>∃vo,x=.returned vo∧ROutF V.heap.size w' vo (machP fuel heap u)∧Gr V w':=by
 have hok:=UOk.of (ver_ok hver);obtain ⟨Ts,hT⟩:∃Ts:Nat→Nat→Option (List Int),∀n f,u.funcs[n]? =some f→Tab u f (Ts n):=by
  have h:=verify_tab (ver_ok hver) hver;refine ⟨fun n=>if hn:n < u.funcs.length then (h u.funcs[n] (List.getElem_mem hn)).choose else fun _=>none,fun n f hf=>?_⟩;obtain ⟨hn,rfl⟩:=List.getElem?_eq_some_iff.1 hf;simp only [hn,dif_pos];exact (h u.funcs[n] (List.getElem_mem hn)).choose_spec
 have hRU:=hR;obtain ⟨a1,a2,a3,a4,a5,c1,c2,c3,c4,c5,rfl,r1,r2,r3,r4,r5⟩:=hR.parts;have g0:=(Gr.refl V).alloc (.cells #[.slice a1 u.shapes.length c1,.slice a2 u.consts.length c2,.slice a3 u.funcs.length c3,.slice a4 u.imports.length c4,.slice a5 u.exports.length c5] 33);have hb0:=heap_alloc_new V (.cells #[.slice a1 u.shapes.length c1,.slice a2 u.consts.length c2,.slice a3 u.funcs.length c3,.slice a4 u.imports.length c4,.slice a5 u.exports.length c5] 33);have hs0:(V.alloc (.cells #[.slice a1 u.shapes.length c1,.slice a2 u.consts.length c2,.slice a3 u.funcs.length c3,.slice a4 u.imports.length c4,.slice a5 u.exports.length c5] 33)).heap.size=V.heap.size+1:=by simp
 have g1:=(Gr.refl (V.alloc (.cells #[.slice a1 u.shapes.length c1,.slice a2 u.consts.length c2,.slice a3 u.funcs.length c3,.slice a4 u.imports.length c4,.slice a5 u.exports.length c5] 33))).alloc (.cells #[.int .i64 0,.int .i64 0,.int .i64 0,.int .i64 0,.int .i64 0,.slice none 0 0,.int .i64 0] 39);have hb1:=heap_alloc_new (V.alloc (.cells #[.slice a1 u.shapes.length c1,.slice a2 u.consts.length c2,.slice a3 u.funcs.length c3,.slice a4 u.imports.length c4,.slice a5 u.exports.length c5] 33)) (.cells #[.int .i64 0,.int .i64 0,.int .i64 0,.int .i64 0,.int .i64 0,.slice none 0 0,.int .i64 0] 39);rw [hs0] at hb1;have hb0':=(g1.block V.heap.size (by rw [hs0];omega) (by simp)).trans hb0;have HG1:=hide (g0.trans g1);have HB0:=hide hb0';have HB1:=hide hb1;have HMO:=hide (mainOf_any u hok _ _ (hRU.gr (g0.trans g1)));have HUW:Hid (∀mb,UW ⟨V,u,.slice a1 u.shapes.length c1,.slice a2 u.consts.length c2,.slice a3 u.funcs.length c3,.slice a4 u.imports.length c4,.slice a5 u.exports.length c5,mb,heap⟩):=hide (fun mb=>⟨hok,him,r1,r2,r3⟩);have HT:=hide hT;have HS2:Hid (((V.alloc (.cells #[.slice a1 u.shapes.length c1,.slice a2 u.consts.length c2,.slice a3 u.funcs.length c3,.slice a4 u.imports.length c4,.slice a5 u.exports.length c5] 33)).alloc (.cells #[.int .i64 0,.int .i64 0,.int .i64 0,.int .i64 0,.int .i64 0,.slice none 0 0,.int .i64 0] 39)).heap.size=V.heap.size+2):=hide (by simp);clear hR hRU r1 r2 r3 r4 r5 g0 hb0 hs0 g1 hb1 hb0' hT hok hver him;go_enter Tryz.func31,Tryz.ntmps31
 go_wp2_with fail
 refine HMO.out.mono ?_;rintro e w2 ⟨rfl,hg2⟩;have HG2:=hide (HG1.out.trans hg2);have HC0:=hide ((hg2.block _ (by rw [HS2.out];omega) (by simp)).trans HB0.out);have HC1:=hide ((hg2.block _ (by rw [HS2.out];omega) (by simp)).trans HB1.out);clear hg2 HB0 HB1 HMO HG1 HS2;generalize (V.alloc (.cells #[.slice a1 u.shapes.length c1,.slice a2 u.consts.length c2,.slice a3 u.funcs.length c3,.slice a4 u.imports.length c4,.slice a5 u.exports.length c5] 33)).alloc (.cells #[.int .i64 0,.int .i64 0,.int .i64 0,.int .i64 0,.int .i64 0,.slice none 0 0,.int .i64 0] 39)=W1;have hrr:=cells7 HC1.out;obtain ⟨⟨s0,s1,s2,s3,s4,s5,s6⟩,⟨y0,y1,y2,y3,y4,y5,y6⟩⟩:=hrr;cases hmp:mainP u with
 | none=>
  have HFN:Hid (machP fuel heap u=⟨5,0,0,0,0,[],0⟩):=hide (by unfold machP;rw [hmp]);clear hmp HT HUW HC0;simp only [MainV];go_wp2_with fail
  rw [put7_eq];have hwb:=put7_same (y0:=.int .i64 5) (y1:=.int .i64 0) (y2:=.int .i64 0) (y3:=.int .i64 0) (y4:=.int .i64 0) (y5:=.slice none 0 0) (y6:=.int .i64 0) HC1.out;have hwf:∀k,¬k=V.heap.size+1→(put7 w2 (V.heap.size+1) (.int .i64 5) (.int .i64 0) (.int .i64 0) (.int .i64 0) (.int .i64 0) (.slice none 0 0) (.int .i64 0)).heap[k]? =w2.heap[k]? :=fun k hk=>put7_other hk
  have hws:(put7 w2 (V.heap.size+1) (.int .i64 5) (.int .i64 0) (.int .i64 0) (.int .i64 0) (.int .i64 0) (.slice none 0 0) (.int .i64 0)).heap.size=w2.heap.size:=put7_size;have hwe:=put7_e w2 (V.heap.size+1) (.int .i64 5) (.int .i64 0) (.int .i64 0) (.int .i64 0) (.int .i64 0) (.slice none 0 0) (.int .i64 0);generalize put7 w2 (V.heap.size+1) (.int .i64 5) (.int .i64 0) (.int .i64 0) (.int .i64 0) (.int .i64 0) (.slice none 0 0) (.int .i64 0)=WE at hwb hwf hws hwe ⊢;obtain ⟨dO,hu1⟩:=Tryz.undOut;refine bodyPost_ret (v:=.agg #[.int .i64 5,.int .i64 0,.int .i64 0,.int .i64 0,.int .i64 0,.slice none 0 0,.int .i64 0]) (results_cell_row rfl _ _ (V.heap.size+1) _ _ _ (.struct dO) rfl hwb hu1 rfl Tryz.sizOut) rfl ?_;rw [HFN.out];have g2:=HG2.out;exact ⟨_,rfl,⟨_,rfl,nil_intsL _⟩,⟨hwe.1.trans g2.os,hwe.2.1.trans g2.tape,hwe.2.2.trans g2.output,by have:=g2.size;omega,fun b hb hne=>(hwf b (by omega)).trans (g2.block b hb hne)⟩⟩
 | some q=>
  obtain ⟨f,hq,hpa,hre⟩:=mainL_ok hmp;have HFN:Hid (machP fuel heap u=pRun u heap fuel 0 (startP q f)):=hide (by unfold machP;rw [hmp];simp only [hq]);have HSO:=hide (start_ok HT.out hq hpa hre);clear hmp;simp only [MainV];have hsz:=HG2.out.size;have u0:w2.cell? ⟨V.heap.size,0,none⟩=some (.slice a1 u.shapes.length c1):=by rw [hcell_ HC0.out];rfl
  have u1:w2.cell? ⟨V.heap.size,1,none⟩=some (.slice a2 u.consts.length c2):=by rw [hcell_ HC0.out];rfl
  have u2:w2.cell? ⟨V.heap.size,2,none⟩=some (.slice a3 u.funcs.length c3):=by rw [hcell_ HC0.out];rfl
  have u3:w2.cell? ⟨V.heap.size,3,none⟩=some (.slice a4 u.imports.length c4):=by rw [hcell_ HC0.out];rfl
  have u4:w2.cell? ⟨V.heap.size,4,none⟩=some (.slice a5 u.exports.length c5):=by rw [hcell_ HC0.out];rfl
  have HVS:Hid (V.heap.size+1 < w2.heap.size):=hide (Array.getElem?_eq_some_iff.1 HC1.out).1;have g3:=(Gr.refl w2).alloc (.cells #[.slice a1 u.shapes.length c1,.slice a2 u.consts.length c2,.slice a3 u.funcs.length c3,.slice a4 u.imports.length c4,.slice a5 u.exports.length c5,.slice none 0 0,.int .i64 (heap:Int),.int .i64 0,.int .i64 0,.slice none 0 0] 121);have hb3:=heap_alloc_new w2 (.cells #[.slice a1 u.shapes.length c1,.slice a2 u.consts.length c2,.slice a3 u.funcs.length c3,.slice a4 u.imports.length c4,.slice a5 u.exports.length c5,.slice none 0 0,.int .i64 (heap:Int),.int .i64 0,.int .i64 0,.slice none 0 0] 121);obtain ⟨C,hC⟩:∃C:MC,C=⟨V,u,.slice a1 u.shapes.length c1,.slice a2 u.consts.length c2,.slice a3 u.funcs.length c3,.slice a4 u.imports.length c4,.slice a5 u.exports.length c5,w2.heap.size,heap⟩:=⟨_,rfl⟩;have eV:C.V=V:=by rw [hC]
  have eu:C.u=u:=by rw [hC]
  have emb:C.mb=w2.heap.size:=by rw [hC]
  have ehp:C.heap=heap:=by rw [hC]
  have hUW:UW C:=by rw [hC];exact HUW.out _
  have hM3:MW C (w2.alloc (.cells #[.slice a1 u.shapes.length c1,.slice a2 u.consts.length c2,.slice a3 u.funcs.length c3,.slice a4 u.imports.length c4,.slice a5 u.exports.length c5,.slice none 0 0,.int .i64 (heap:Int),.int .i64 0,.int .i64 0,.slice none 0 0] 121)) (fun b=>if b=w2.heap.size then .mach else .no) (fun _=>0) (fun _=>0) (fun _=>0) 0 [] [] 0 []:=by
   refine ⟨by rw [eV];exact HG2.out.trans g3,fun b hb=>?_,⟨.slice none 0 0,.slice none 0 0,⟨?_,World.ownsRow_nil _ _ _ _,World.ownsRow_nil _ _ _ _,?_,fun b hb=>(by cases hb),fun b hb=>(by cases hb)⟩⟩,trivial,fun j fs hj=>by simp at hj⟩
   · by_cases e:b=w2.heap.size
     · subst e;rw [eV];exact ⟨hsz,by simp⟩
     · simp [e] at hb
   · rw [hC];exact hb3
   · show (if C.mb=w2.heap.size then Role.mach else Role.no)=_
     rw [if_pos emb]
  have hen:=enter_mw (q:=q) (g:=f) (ps:= []) (vp:=.slice none 0 0) hM3 (Kept.refl _ _) (by rw [eV];have:=g3.size;omega) hUW.fu (by rw [eu];exact hq) hUW.ok.few.2.2 (World.ownsRow_nil _ _ _ _) (fun k hk=>by cases hk) (by simp) (by have:=(hUW.ok.func f (by rw [eu];exact List.mem_of_getElem? hq)).2.1;simp;omega);have HEN:=hide hen;have HRN:Hid (∀(w4:World) (ρ4:Nat→Role) (fbn4:Nat→Nat),MW C w4 ρ4 (fun _=>0) fbn4 (fun _=>0) 0 [⟨q,0,zeroPV f.locals.length,[]⟩] [] 0 []→Calls Tryz.prog 67 #[.pointer (some ⟨C.mb,0,none⟩),.pointer (some ⟨fbn4 0,0,none⟩),.int .i64 (fuel:Int)] w4 fun e w'=>e=.returned (.agg #[.int .i64 (pRun u heap fuel 0 (startP q f)).why,.int .i64 0,.int .i64 0,.int .i64 0,.int .i64 (pRun u heap fuel 0 (startP q f)).result,.slice none 0 0,.int .i64 (pRun u heap fuel 0 (startP q f)).steps])∧RunE C w4 ρ4 (pRun u heap fuel 0 (startP q f)) w'):=hide (fun w4 ρ4 fbn4 hM4=>mrun_any C Ts w4 ρ4 (fun _=>0) fbn4 (fun _=>0) (startP q f) [] fuel hf (by rw [ehp];exact hh) hUW (by rw [eu];exact HT.out) hM4 (by rw [eu];exact HSO.out) rfl rfl _ (by rw [eu,ehp]));have HLW:Hid (∀b,V.heap.size≤b→b < w2.heap.size→(fun b=>if b=w2.heap.size then Role.mach else Role.no) b=Role.no):=hide (fun b _ hb=>if_neg (by omega));have HC13:=hide ((g3.block _ HVS.out (by simp)).trans HC1.out);have HG3:=hide (HG2.out.trans g3);have HS3:Hid ((w2.alloc (.cells #[.slice a1 u.shapes.length c1,.slice a2 u.consts.length c2,.slice a3 u.funcs.length c3,.slice a4 u.imports.length c4,.slice a5 u.exports.length c5,.slice none 0 0,.int .i64 (heap:Int),.int .i64 0,.int .i64 0,.slice none 0 0] 121)).heap.size=w2.heap.size+1):=hide (by simp);rw [←HFN.out] at HRN;have HFP:Hid ((machP fuel heap u).unit=0∧(machP fuel heap u).at_=0∧(machP fuel heap u).e=0):=hide (by rw [HFN.out];exact pRun_zero3 _ _ _ _ _);clear hen hM3 hb3 hUW hq hpa hre HSO HFN HC0 s0 s1 s2 s3 s4 s5 s6 y0 y1 y2 y3 y4 y5 y6;rw [emb] at HEN HRN;have HEMB:=hide emb;have HEV:=hide eV;clear emb eV eu ehp hC;generalize hF:machP fuel heap u=FIN at HRN HFP ⊢
  have HF:=hide hF;clear hF;go_upto_region 5 with fail
  clear u0 u1 u2 u3 u4;generalize w2.alloc (.cells #[.slice a1 u.shapes.length c1,.slice a2 u.consts.length c2,.slice a3 u.funcs.length c3,.slice a4 u.imports.length c4,.slice a5 u.exports.length c5,.slice none 0 0,.int .i64 (heap:Int),.int .i64 0,.int .i64 0,.slice none 0 0] 121)=W3 at HEN HC13 HG3 HS3 g3 ⊢;go_wp2_with fail
  refine HEN.out.mono ?_;rintro e w4 ⟨ρ4,fbn4,rfl,hM4,hK4⟩;have hc4:=hK4.keepAt HC13.out (HLW.out _ (by omega) HVS.out);have HR4:=hide (HRN.out _ _ _ hM4);have HC4:=hide hc4;have HK4:=hide hK4;clear hM4 hK4 hc4 HRN HEN HC13;go_wp2_with fail
  refine HR4.out.mono ?_;rintro e w5 ⟨rfl,ρ5,nm5,fbn5,cs5,ct5,L5,bs5,tk5,hM5,hK5⟩;obtain ⟨vf5,vt5,hm5,hto5⟩:=told_of hM5;have hc5:=hK5.keepAt HC4.out.1 HC4.out.2;have hbx:=hm5.box;rw [HEMB.out] at hbx;have g6:=(Gr.refl w5).alloc (.cells #[.int .i64 FIN.why,.int .i64 0,.int .i64 0,.int .i64 0,.int .i64 FIN.result,.slice none 0 0,.int .i64 FIN.steps] 39);have hb6:=heap_alloc_new w5 (.cells #[.int .i64 FIN.why,.int .i64 0,.int .i64 0,.int .i64 0,.int .i64 FIN.result,.slice none 0 0,.int .i64 FIN.steps] 39);obtain ⟨ta,tc,rfl⟩:∃a c,vt5=.slice a FIN.told.length c:=own_shape_ hm5.tl;have m9:=g6.cell (show w5.cell? ⟨w2.heap.size,9,none⟩=some (.slice ta FIN.told.length tc) by rw [hcell_ hbx];rfl) (by simp);have HM9:=hide m9;have hrl:=(Array.getElem?_eq_some_iff.1 hc5.1).1;have HC6:=hide ((g6.block _ hrl (by simp)).trans hc5.1);have HB6:=hide hb6;have HTO:=hide hto5;have HOB:Hid (V.heap.size+1 < w5.heap.size):=hide hrl;have HG6:Hid (Gr V w5):=hide (by have:=hM5.gr;rw [HEV.out] at this;exact this);have HRB5:=hide hc5.2;have HBT:Hid (∀b,(Value.slice ta FIN.told.length tc).ownBlock=some b→¬b=V.heap.size+1∧b < w5.heap.size):=hide (fun b hb=>⟨fun e=>(by have:=hm5.rt b hb;rw [e,hc5.2] at this;cases this),(hm5.tl.lt b hb).2⟩);rw [HEV.out] at HTO;clear hM5 hK5 hm5 hto5 hc5 hbx g6 hb6 m9 hrl;go_upto_region 7 with fail
  generalize hW6:w5.alloc (.cells #[.int .i64 FIN.why,.int .i64 0,.int .i64 0,.int .i64 0,.int .i64 FIN.result,.slice none 0 0,.int .i64 FIN.steps] 39)=W6 at HC6 HB6 HM9 ⊢;have HG56:Hid (Gr w5 W6):=hide (by rw [←hW6];exact (Gr.refl w5).alloc _);clear hW6;have m9:=HM9.out;have h5c:=(cells7 HB6.out);have o5:W6.cell? ⟨w5.heap.size,5,none⟩=some (.slice none 0 0):=h5c.1.2.2.2.2.2.1;have z5:W6.frozen? ⟨w5.heap.size,5,none⟩=false:=h5c.2.2.2.2.2.2.1;have HB7:=hide ((heap_setCell_same W6 w5.heap.size 5 _ _ (.slice ta FIN.told.length tc) HB6.out).trans (by simp:_=some (.cells #[.int .i64 FIN.why,.int .i64 0,.int .i64 0,.int .i64 0,.int .i64 FIN.result,.slice ta FIN.told.length tc,.int .i64 FIN.steps] 39 (0,0))));have HC7:=hide ((Below.heap_setCell W6 ⟨w5.heap.size,5,none⟩ (.slice ta FIN.told.length tc) (V.heap.size+1) (by show V.heap.size+1≠w5.heap.size;have:=HOB.out;omega)).trans HC6.out);clear h5c;go_upto_region 8 with fail
  clear m9 o5 z5;have hoth:∀b,¬b=w5.heap.size→¬b=V.heap.size+1→∀row,((W6.setCell ⟨w5.heap.size,5,none⟩ (.slice ta FIN.told.length tc)).setRow (V.heap.size+1) row).heap[b]? =W6.heap[b]? :=fun b h1 h2 row=>(setRow_other _ _ _ _ h2).trans (Below.heap_setCell _ _ _ _ h1)
  have HOTH:=hide hoth;clear hoth;have HWZ:Hid ((W6.setCell ⟨w5.heap.size,5,none⟩ (.slice ta FIN.told.length tc)).heap.size=W6.heap.size∧(W6.setCell ⟨w5.heap.size,5,none⟩ (.slice ta FIN.told.length tc)).os=W6.os∧(W6.setCell ⟨w5.heap.size,5,none⟩ (.slice ta FIN.told.length tc)).tape=W6.tape∧(W6.setCell ⟨w5.heap.size,5,none⟩ (.slice ta FIN.told.length tc)).output=W6.output):=hide ⟨by simp,rfl,rfl,rfl⟩;generalize W6.setCell ⟨w5.heap.size,5,none⟩ (.slice ta FIN.told.length tc)=W7 at HB7 HC7 HOTH HWZ ⊢;obtain ⟨dO,hu1⟩:=Tryz.undOut;refine wp_region_lit ?_;refine wpList_load_row rfl 39 _ rfl w5.heap.size rfl _ _ _ (.struct dO) HB7.out hu1 rfl Tryz.sizOut ?_;refine wpList_store_row rfl 39 _ _ rfl (V.heap.size+1) #[.int .i64 FIN.why,.int .i64 0,.int .i64 0,.int .i64 0,.int .i64 FIN.result,.slice ta FIN.told.length tc,.int .i64 FIN.steps] rfl rfl _ _ HC7.out Tryz.sizOut rfl (by simp [Value.oneCell']) ?_;have HU1:=hide hu1;clear hu1;have HB8:=hide (setRow_heap W7 (V.heap.size+1) _ #[.int .i64 FIN.why,.int .i64 0,.int .i64 0,.int .i64 0,.int .i64 FIN.result,.slice ta FIN.told.length tc,.int .i64 FIN.steps] _ _ HC7.out);have HOT8:Hid (∀b,¬b=w5.heap.size→¬b=V.heap.size+1→(W7.setRow (V.heap.size+1) #[.int .i64 FIN.why,.int .i64 0,.int .i64 0,.int .i64 0,.int .i64 FIN.result,.slice ta FIN.told.length tc,.int .i64 FIN.steps]).heap[b]? =W6.heap[b]?):=hide (fun b h1 h2=>HOTH.out b h1 h2 _);have HSZ8:Hid ((W7.setRow (V.heap.size+1) #[.int .i64 FIN.why,.int .i64 0,.int .i64 0,.int .i64 0,.int .i64 FIN.result,.slice ta FIN.told.length tc,.int .i64 FIN.steps]).heap.size=W6.heap.size∧(W7.setRow (V.heap.size+1) #[.int .i64 FIN.why,.int .i64 0,.int .i64 0,.int .i64 0,.int .i64 FIN.result,.slice ta FIN.told.length tc,.int .i64 FIN.steps]).os=W6.os∧(W7.setRow (V.heap.size+1) #[.int .i64 FIN.why,.int .i64 0,.int .i64 0,.int .i64 0,.int .i64 FIN.result,.slice ta FIN.told.length tc,.int .i64 FIN.steps]).tape=W6.tape∧(W7.setRow (V.heap.size+1) #[.int .i64 FIN.why,.int .i64 0,.int .i64 0,.int .i64 0,.int .i64 FIN.result,.slice ta FIN.told.length tc,.int .i64 FIN.steps]).output=W6.output):=hide ⟨by rw [setRow_size];exact HWZ.out.1,HWZ.out.2.1,HWZ.out.2.2.1,HWZ.out.2.2.2⟩
  generalize W7.setRow (V.heap.size+1) #[.int .i64 FIN.why,.int .i64 0,.int .i64 0,.int .i64 0,.int .i64 FIN.result,.slice ta FIN.told.length tc,.int .i64 FIN.steps]=W8 at HB8 HOT8 HSZ8 ⊢;go_wp2_with fail
  refine bodyPost_ret (v:=.agg #[.int .i64 FIN.why,.int .i64 0,.int .i64 0,.int .i64 0,.int .i64 FIN.result,.slice ta FIN.told.length tc,.int .i64 FIN.steps]) (results_cell_row rfl _ _ (V.heap.size+1) _ _ _ (.struct dO) rfl HB8.out HU1.out rfl Tryz.sizOut) rfl ?_;rw [HF.out];have gw:=HG6.out.trans HG56.out;have hVo:=HOB.out;have gsz:=HG56.out.size;refine ⟨_,rfl,⟨.slice ta FIN.told.length tc,by rw [HFP.out.1,HFP.out.2.1,HFP.out.2.2],?_⟩,⟨HSZ8.out.2.1.trans gw.os,HSZ8.out.2.2.1.trans gw.tape,HSZ8.out.2.2.2.trans gw.output,by have:=gw.size;have:=HSZ8.out.1;omega,fun b hb hne=>(HOT8.out b (by omega) (by omega)).trans (gw.block b hb hne)⟩⟩;obtain ⟨ao,cap,e1,e2,hcl⟩:=HTO.out;refine ⟨ao,cap,e1,e2,fun i y hi=>?_⟩;obtain ⟨b,off,f1,f2,f3⟩:=hcl i y hi;refine ⟨b,off,f1,f2,?_⟩;have hb:(Value.slice ta FIN.told.length tc).ownBlock=some b:=by rw [e1,f1];rfl
  obtain ⟨n1,n2⟩:=HBT.out b hb;have e3:W8.heap[b]? =w5.heap[b]? :=(HOT8.out b (by omega) n1).trans (HG56.out.block b n2 (by simp));unfold World.cell? at f3 ⊢;rw [show W8.heap[(⟨b,off+i,none⟩:Addr).block]? =w5.heap[(⟨b,off+i,none⟩:Addr).block]? from e3];exact f3
theorem mach_c(fuel heap:Nat)(hf:fuel≤200000)(hh:heap≤10000000)(us:List PUnit):MachC (machP fuel heap) (fuel:Int) (heap:Int) us:=fun u V v hl hv hR=>mach_any fuel heap hf hh u V v (link_none hl) hv hR
open Go.RowKit
def o1(o a:Int):PIns:=⟨o,a,0⟩
def mainX:PExp:=⟨[109,97,105,110],0⟩
def prv:Nat→Option Nat
 | 0=>none
 | j+1=>some j
def cellL(n j:Nat):List PV:= [⟨(n:Int) - j,none⟩,⟨0,prv j⟩]
def cellsL(n k:Nat):List (List PV):=(List.range k).map (cellL n)
def st1(n k:Nat):PM:=⟨⟨0,2,[⟨(k:Int),none⟩,⟨0,prv (n - k)⟩,pv0],[]⟩,[],cellsL n (n - k),3 * (n - k),[]⟩
theorem w64_in{n:Int}(h0:-9223372036854775808≤n)(h1:n≤9223372036854775807):wrap64 n=n:=by
 unfold wrap64;omega
open Go.RowKit
def deepCode:List PIns:= [o1 2 0,o1 20 0,o1 2 0,o1 12 11,o1 2 0,o1 1 1,o1 7 0,o1 13 1,o1 1 1,o1 6 0,o1 14 0,o1 1 0,o1 14 0]
def deepU(n:Int):PUnit:=⟨[],[n],[⟨[],0,[],[o1 0 0,o1 13 1,o1 14 0]⟩,⟨[0],0,[],deepCode⟩],[],[mainX]⟩
theorem deep_link(n:Int):linkP [deepU n]=.inl (deepU n):=by kernel_rfl
theorem deep_ver(n:Int):verifyP (deepU n)=(0,0,0):=by kernel_rfl
theorem deep_main(n:Int)(f h:Nat):machP f h (deepU n)=pRun (deepU n) h f 0 (startP 0 ⟨[],0,[],[o1 0 0,o1 13 1,o1 14 0]⟩):=by kernel_rfl
def tl2(told:List Int)(x:Int):List Int:=if told.length < 1000 then told++ [x] else told
theorem D_start(n:Int)(h m:Nat):pRun (deepU n) h (m+2) 0 (startP 0 ⟨[],0,[],[o1 0 0,o1 13 1,o1 14 0]⟩)=pRun (deepU n) h m 2 ⟨⟨1,0,[⟨n,none⟩],[]⟩,[⟨0,1,[],[]⟩],[],0,[]⟩:=by kernel_rfl
theorem D_out(n:Int)(h m s:Nat)(a:PV)(low:List PFr)(told:List Int):pRun (deepU n) h (m+3) s ⟨⟨1,0,[a],[]⟩,low,[],0,told⟩=pRun (deepU n) h m (s+3) ⟨⟨1,3,[a],[a]⟩,low,[],0,tl2 told a.num⟩:=by kernel_rfl
theorem D_zero(n:Int)(h:Nat)(a:PV)(low:List PFr)(told:List Int):pStep (deepU n) h ⟨⟨1,3,[a],[a]⟩,low,[],0,told⟩=if a.num=0 then .go ⟨⟨1,11,[a],[]⟩,low,[],0,told⟩ else .go ⟨⟨1,4,[a],[]⟩,low,[],0,told⟩:=by kernel_rfl
theorem D_args(n:Int)(h m s:Nat)(a:PV)(low:List PFr)(told:List Int):pRun (deepU n) h (m+3) s ⟨⟨1,4,[a],[]⟩,low,[],0,told⟩=pRun (deepU n) h m (s+3) ⟨⟨1,7,[a],[⟨wrap64 (a.num - 1),none⟩]⟩,low,[],0,told⟩:=by kernel_rfl
theorem D_call(n:Int)(h:Nat)(a v:PV)(low:List PFr)(told:List Int):pStep (deepU n) h ⟨⟨1,7,[a],[v]⟩,low,[],0,told⟩=if low.length=99 then .stop 9 0 ⟨⟨1,7,[a],[v]⟩,low,[],0,told⟩ else .go ⟨⟨1,0,[v],[]⟩,⟨1,7,[a],[]⟩ :: low,[],0,told⟩:=by kernel_rfl
theorem D_base(n:Int)(h m s:Nat)(a:PV)(y:PFr)(low:List PFr)(told:List Int):pRun (deepU n) h (m+2) s ⟨⟨1,11,[a],[]⟩,y :: low,[],0,told⟩=pRun (deepU n) h m (s+2) ⟨y.behind (y.stack++ [⟨0,none⟩]),low,[],0,told⟩:=by kernel_rfl
theorem D_up(n:Int)(h m s:Nat)(a v:PV)(y:PFr)(low:List PFr)(told:List Int):pRun (deepU n) h (m+3) s ⟨⟨1,8,[a],[v]⟩,y :: low,[],0,told⟩=pRun (deepU n) h m (s+3) ⟨y.behind (y.stack++ [⟨wrap64 (v.num+1),none⟩]),low,[],0,told⟩:=by kernel_rfl
theorem D_main(n:Int)(h m s:Nat)(v:PV)(told:List Int):pRun (deepU n) h (m+1) s ⟨⟨0,2,[],[v]⟩,[],[],0,told⟩=⟨6,0,0,0,v.num,told,((s+1:Nat):Int)⟩:=by kernel_rfl
def headD(n:Nat):Nat→PFr
 | 0=>⟨0,1,[],[]⟩
 | j+1=>⟨1,7,[⟨(n:Int) - j,none⟩],[]⟩
def tailD(n:Nat):Nat→List PFr
 | 0=> []
 | j+1=>headD n j :: tailD n j
theorem tailD_len(n:Nat):∀j,(tailD n j).length=j
 | 0=>rfl
 | j+1=>by simp [tailD,tailD_len n j]
def toldD(n j:Nat):List Int:=(List.range j).map fun (i:Nat)=>(n:Int) - (i:Int)
theorem toldD_len(n j:Nat):(toldD n j).length=j:=by simp [toldD]
theorem toldD_at(n:Nat){i j:Nat}(h:i < j):(toldD n j)[i]? =some ((n:Int) - i):=by simp [toldD,h]
theorem toldD_succ{n j:Nat}(hj:j < 1000):tl2 (toldD n j) ((n:Int) - j)=toldD n (j+1):=by
 unfold tl2;rw [if_pos (by rw [toldD_len];exact hj)];simp [toldD,List.range_succ]
def dn(n j:Nat):PM:=⟨⟨1,0,[⟨(n:Int) - j,none⟩],[]⟩,headD n j :: tailD n j,[],0,toldD n j⟩
theorem D_round{n j h m s:Nat}(hj:j < n)(hn:n≤300)(h98:j < 98):pRun (deepU n) h (m+8) s (dn n j)=pRun (deepU n) h m (s+8) (dn n (j+1)):=by
 unfold dn;rw [show m+8=(m+5)+3 by omega,D_out,show m+5=(m+4)+1 by omega,pRun_go (D_zero _ _ _ _ _ |>.trans (if_neg (by show ¬(n:Int) - j=0;omega))),show m+4=(m+1)+3 by omega,D_args,pRun_go (D_call _ _ _ _ _ _ |>.trans (if_neg (by simp [tailD_len];omega)))];have e:wrap64 ((n:Int) - j - 1)=(n:Int) - ((j+1:Nat):Int):=by rw [w64_in (by omega) (by omega)];omega
 show pRun (deepU n) h m _ ⟨⟨1,0,[⟨wrap64 ((n:Int) - j - 1),none⟩],[]⟩,_,_,_,tl2 (toldD n j) ((n:Int) - j)⟩=_
 rw [e,toldD_succ (by omega)];rfl
theorem D_loop{n h:Nat}(hn:n≤300)(m:Nat):∀(j s:Nat),j≤n→j≤98→pRun (deepU n) h (m+8 * j) s (dn n 0)=pRun (deepU n) h m (s+8 * j) (dn n j):=by
 intro j
 induction j generalizing m with
 | zero=>intro s _ _;rfl
 | succ j ih=>
  intro s h1 h2;rw [show m+8 * (j+1)=(m+8)+8 * j by omega,ih (m+8) s (by omega) (by omega),D_round (by omega) hn (by omega)];congr 1
def retD(n j:Nat)(v:Int)(told:List Int):PM:=⟨(headD n j).behind ((headD n j).stack++ [⟨v,none⟩]),tailD n j,[],0,told⟩
theorem D_ups{n h m:Nat}(hn:n≤300)(told:List Int):∀(j s:Nat) (v:Int),0≤v→v+j≤1000→j≤300→∃st,pRun (deepU n) h (m+3 * j+1) s (retD n j v told)=⟨6,0,0,0,v+j,told,st⟩:=by
 intro j
 induction j with
 | zero=>
  intro s v _ _ _;refine ⟨((s+1:Nat):Int),?_⟩;show pRun (deepU n) h (m+1) s ⟨⟨0,2,[],[⟨v,none⟩]⟩,[],[],0,told⟩=_
  rw [D_main];simp
 | succ j ih=>
  intro s v h0 h1 h2;show ∃st,pRun (deepU n) h (m+3 * (j+1)+1) s ⟨⟨1,8,[⟨(n:Int) - j,none⟩],[⟨v,none⟩]⟩,headD n j :: tailD n j,[],0,told⟩=_
  rw [show m+3 * (j+1)+1=(m+3 * j+1)+3 by omega,D_up];have e:wrap64 (v+1)=v+1:=w64_in (by omega) (by omega);show ∃st,pRun (deepU n) h (m+3 * j+1) (s+3) (retD n j (wrap64 (v+1)) told)=_
  rw [e];obtain ⟨st,hst⟩:=ih (s+3) (v+1) (by omega) (by omega) (by omega);exact ⟨st,by rw [hst];congr 1;omega⟩
theorem deep_run{n:Nat}(hn:n≤98):∃st,machP 200000 0 (deepU n)=⟨6,0,0,0,(n:Int),toldD n (n+1),st⟩:=by
 rw [deep_main];obtain ⟨m,hm⟩:∃m,200000=(((((m+3 * n+1)+2)+1)+3)+8 * n)+2:=⟨200000 - (3 * n+1+2+1+3+8 * n+2),by omega⟩;rw [hm,D_start];show ∃st,pRun (deepU n) 0 _ 2 ⟨⟨1,0,[⟨(n:Int),none⟩],[]⟩,[⟨0,1,[],[]⟩],[],0,[]⟩=_
 have e0:(⟨⟨1,0,[⟨(n:Int),none⟩],[]⟩,[⟨0,1,[],[]⟩],[],0,[]⟩:PM)=dn n 0:=by
  unfold dn;rw [show (n:Int) - ((0:Nat):Int)=n by omega];rfl
 rw [e0,D_loop (by omega) _ n 2 (Nat.le_refl _) (by omega)];unfold dn;rw [show (n:Int) - (n:Int)=0 by omega,D_out,pRun_go (D_zero _ _ _ _ _ |>.trans (if_pos rfl)),D_base];have e1:tl2 (toldD n n) 0=toldD n (n+1):=by rw [←toldD_succ (by omega)];congr 1;omega
 show ∃st,pRun (deepU n) 0 (m+3 * n+1) _ (retD n n 0 (tl2 (toldD n n) 0))=_
 rw [e1];obtain ⟨st,hst⟩:=D_ups (n:=n) (h:=0) (m:=m) (by omega) (toldD n (n+1)) n (2+8 * n+3+1+2) 0 (by omega) (by omega) (by omega);exact ⟨st,by rw [hst];congr 1;omega⟩
theorem deep_over{n:Nat}(hn:99≤n)(hn':n≤300):∃st,machP 200000 0 (deepU n)=⟨9,0,0,0,0,toldD n 99,st⟩:=by
 rw [deep_main];obtain ⟨m,hm⟩:∃m,200000=(((((m+1)+3)+1)+3)+8 * 98)+2:=⟨200000 - (1+3+1+3+8 * 98+2),by omega⟩;rw [hm,D_start];have e0:(⟨⟨1,0,[⟨(n:Int),none⟩],[]⟩,[⟨0,1,[],[]⟩],[],0,[]⟩:PM)=dn n 0:=by
  unfold dn;rw [show (n:Int) - ((0:Nat):Int)=n by omega];rfl
 rw [e0,D_loop (by omega) _ 98 2 (by omega) (Nat.le_refl _)];unfold dn;rw [D_out,pRun_go (D_zero _ _ _ _ _ |>.trans (if_neg (by show ¬(n:Int) - ((98:Nat):Int)=0;omega))),D_args,pRun_stop (D_call _ _ _ _ _ _ |>.trans (if_pos (by simp [tailD_len])))];refine ⟨((2+8 * 98+3+1+3+1:Nat):Int),?_⟩;show (⟨9,0,0,0,0,tl2 (toldD n 98) ((n:Int) - ((98:Nat):Int)),_⟩:POut)=_
 rw [toldD_succ (by omega)]
open Go.RowKit
attribute [local go_sem ↓] Go.wp_at_zero Go.wp_at_succ
theorem islen_any(ao:Option Addr)(n cap:Nat)(w:World):Calls Tryz.prog 49 #[.slice ao n cap] w fun x w'=>x=.returned (.int .i64 (n:Int))∧w'=w:=by
 go_enter Tryz.func49,Tryz.ntmps49
 go_wp2
 go_ret
 exact ⟨rfl,rfl⟩
theorem isless_any(B g cap i j:Nat)(l:List Int)(w:World)(h:HpRow w B (.slice (some ⟨g,0,none⟩) l.length cap) l)(hi:i < l.length)(hj:j < l.length):
 Calls Tryz.prog 160 #[.slice (some ⟨g,0,none⟩) l.length cap,.int .i64 (i:Int),.int .i64 (j:Int)] w fun x w'=>x=.returned (.bool (decide (fnL l i < fnL l j)))∧Gr w w':=by
 obtain ⟨g',cap',he,_,_,hc,_⟩:=h.at (by omega);simp only [Value.slice.injEq,Option.some.injEq,Addr.mk.injEq,and_true,true_and] at he;obtain ⟨rfl,rfl⟩:=he;have h1:=hc i hi;have h2:=hc j hj;clear hc h;generalize fnL l i=x at h1 ⊢;generalize fnL l j=y at h2 ⊢;generalize l.length=n at hi hj;have hb1:(i:Int) < (n:Int):=by omega
 have hb2:(j:Int) < (n:Int):=by omega
 go_enter Tryz.func160,Tryz.ntmps160
 go_wp2_with fail
 go_quiet (fail)
 go_wp2_with fail
 go_ret
 exact ⟨rfl,⟨rfl,rfl,rfl,Nat.le_refl _,fun _ _ _=>rfl⟩⟩
theorem HpRow.swap{w:World}{B g cap:Nat}{l:List Int}(h:HpRow w B (.slice (some ⟨g,0,none⟩) l.length cap) l)(i j:Nat):HpRow ((w.setCell ⟨g,i,none⟩ (.int .i64 (fnL l j))).setCell ⟨g,j,none⟩ (.int .i64 (fnL l i))) B (.slice (some ⟨g,0,none⟩) l.length cap) (swapL l i j):=by
 have h1:=h.set i (fnL l j);have hl:(l.set i (fnL l j)).length=l.length:=by simp
 rw [←hl] at h1;have h2:=h1.set j (fnL l i);rw [hl] at h2;exact h2
theorem gcell{w:World}{g o:Nat}{v:Value}:w.grownBy (w.setCell ⟨g,o,none⟩ v) (some g):=⟨rfl,rfl,rfl,by simp,fun k _ hk=>Below.heap_setCell _ _ _ _ (fun e=>hk (by rw [e]))⟩
theorem gc_trans{g:Nat}{a b c:World}(h:a.grownBy b (some g))(k:b.grownBy c (some g)):a.grownBy c (some g):=⟨k.os.trans h.os,k.tape.trans h.tape,k.output.trans h.output,Nat.le_trans h.size k.size,fun i hi hne=>(k.block i (Nat.lt_of_lt_of_le hi h.size) hne).trans (h.block i hi hne)⟩
theorem isswap_any(B g cap i j:Nat)(l:List Int)(w:World)(h:HpRow w B (.slice (some ⟨g,0,none⟩) l.length cap) l)(hi:i < l.length)(hj:j < l.length):
 Calls Tryz.prog 162 #[.slice (some ⟨g,0,none⟩) l.length cap,.int .i64 (i:Int),.int .i64 (j:Int)] w fun x w'=>x=.returned (.tuple #[])∧HpRow w' B (.slice (some ⟨g,0,none⟩) l.length cap) (swapL l i j)∧w.grownBy w' (some g):=by
 have HH:=hide h;obtain ⟨g',cap',he,_,_,hc,hz⟩:=h.at (by omega);simp only [Value.slice.injEq,Option.some.injEq,Addr.mk.injEq,and_true,true_and] at he;obtain ⟨rfl,rfl⟩:=he;have h1:=hc i hi;have h2:=hc j hj;have z1:=hz i;have z2:=hz j;clear hc hz h;have HSW:=hide (HH.out.swap i j);generalize fnL l i=x at h1 HSW;generalize fnL l j=y at h2 HSW;have k1:(w.setCell ⟨g,i,none⟩ (.int .i64 y)).cell? ⟨g,j,none⟩=some (.int .i64 y):=by
  by_cases e:i=j
  · subst e;exact World.cell?_setCell_same _ _ _ h1
  · rw [World.cell?_setCell_other _ _ _ _ (by intro h;simp only [Addr.mk.injEq,true_and,and_true] at h;exact e h)];exact h2
 generalize hn:l.length=n at hi hj;have hb1:(i:Int) < (n:Int):=by omega
 have hb2:(j:Int) < (n:Int):=by omega
 go_enter Tryz.func162,Tryz.ntmps162
 go_wp2_with fail
 go_region
 all_goals go_wp2_with fail
 all_goals go_end0
 all_goals exact ⟨rfl,(by subst hn;exact HSW.out),by first|exact gc_trans gcell gcell|(have hx:w.grownBy ((w.setCell ⟨g,i,none⟩ (.int .i64 y)).setCell ⟨g,j,none⟩ (.int .i64 x)) (some g):=gc_trans gcell gcell;exact ⟨hx.os,hx.tape,hx.output,hx.size,hx.block⟩)⟩
open Go.RowKit
attribute [local go_sem ↓] Go.wp_at_zero Go.wp_at_succ
theorem m_len(w:World)(lb lo:Nat)(v:Value)(h:w.cell? ⟨lb,lo,none⟩=some v)(hv:∃a n c,v=.slice a n c):(method 345 101 (.pointer (some ⟨lb,lo,none⟩)) "Len").run Tryz.prog w=.ok (49,v) w:=by
 have e:(method 345 101 (.pointer (some ⟨lb,lo,none⟩)) "Len").run Tryz.prog w=(do let x←loadVar 72 ⟨lb,lo,none⟩;pure (49,x):Sem (FuncId×Value)).run Tryz.prog w:=by kernel_rfl
 obtain ⟨a,n,c,rfl⟩:=hv;rw [e];simp [go_sem,h]
theorem m_less(w:World)(lb lo:Nat)(v:Value)(h:w.cell? ⟨lb,lo,none⟩=some v)(hv:∃a n c,v=.slice a n c):(method 345 101 (.pointer (some ⟨lb,lo,none⟩)) "Less").run Tryz.prog w=.ok (160,v) w:=by
 have e:(method 345 101 (.pointer (some ⟨lb,lo,none⟩)) "Less").run Tryz.prog w=(do let x←loadVar 72 ⟨lb,lo,none⟩;pure (160,x):Sem (FuncId×Value)).run Tryz.prog w:=by kernel_rfl
 obtain ⟨a,n,c,rfl⟩:=hv;rw [e];simp [go_sem,h]
theorem m_swap(w:World)(lb lo:Nat)(v:Value)(h:w.cell? ⟨lb,lo,none⟩=some v)(hv:∃a n c,v=.slice a n c):(method 345 101 (.pointer (some ⟨lb,lo,none⟩)) "Swap").run Tryz.prog w=.ok (162,v) w:=by
 have e:(method 345 101 (.pointer (some ⟨lb,lo,none⟩)) "Swap").run Tryz.prog w=(do let x←loadVar 72 ⟨lb,lo,none⟩;pure (162,x):Sem (FuncId×Value)).run Tryz.prog w:=by kernel_rfl
 obtain ⟨a,n,c,rfl⟩:=hv;rw [e];simp [go_sem,h]
theorem m_push(w:World)(lb lo:Nat):(method 345 101 (.pointer (some ⟨lb,lo,none⟩)) "Push").run Tryz.prog w=.ok (164,.pointer (some ⟨lb,lo,none⟩)) w:=by kernel_rfl
theorem m_pop(w:World)(lb lo:Nat):(method 345 101 (.pointer (some ⟨lb,lo,none⟩)) "Pop").run Tryz.prog w=.ok (163,.pointer (some ⟨lb,lo,none⟩)) w:=by kernel_rfl
structure HpAt(w:World)(lb lo B g cap n:Nat)(l:List Int):Prop where
 cell:w.cell? ⟨lb,lo,none⟩=some (.slice (some ⟨g,0,none⟩) n cap)
 len:l.length=n
 row:HpRow w B (.slice (some ⟨g,0,none⟩) n cap) l
 lb:lb < B
 small:n≤1000000
theorem HpAt.ge{w:World}{lb lo B g cap n:Nat}{l:List Int}(h:HpAt w lb lo B g cap n l):B≤g:=(World.ownsRow.lt h.row g rfl).1
theorem HpAt.gr{w w':World}{lb lo B g cap n:Nat}{l:List Int}(h:HpAt w lb lo B g cap n l)(k:Gr w w'):HpAt w' lb lo B g cap n l:=
 ⟨k.cell h.cell (by simp),h.len,h.row.keep fun b hb=>k.block b (World.ownsRow.lt h.row b hb).2 (by simp),h.lb,h.small⟩
theorem HpAt.swap{w w':World}{lb lo B g cap n:Nat}{l l':List Int}(h:HpAt w lb lo B g cap n l)(k:w.grownBy w' (some g))(hr:HpRow w' B (.slice (some ⟨g,0,none⟩) n cap) l')(hl:l'.length=l.length):HpAt w' lb lo B g cap n l':=
 ⟨k.cell h.cell (by have:=h.ge;have:=h.lb;simp;omega),hl.trans h.len,hr,h.lb,h.small⟩
theorem gc_gr{g:Nat}{a b c:World}(h:a.grownBy b (some g))(k:Gr b c):a.grownBy c (some g):=⟨k.os.trans h.os,k.tape.trans h.tape,k.output.trans h.output,Nat.le_trans h.size k.size,fun i hi hne=>(k.block i (Nat.lt_of_lt_of_le hi h.size) (by simp)).trans (h.block i hi hne)⟩
theorem gc_refl(g:Nat)(a:World):a.grownBy a (some g):=⟨rfl,rfl,rfl,Nat.le_refl _,fun _ _ _=>rfl⟩
theorem isless_n{B g cap n i j:Nat}{l:List Int}{w:World}(hn:l.length=n)(h:HpRow w B (.slice (some ⟨g,0,none⟩) n cap) l)(hi:i < n)(hj:j < n):
 Calls Tryz.prog 160 #[.slice (some ⟨g,0,none⟩) n cap,.int .i64 (i:Int),.int .i64 (j:Int)] w fun x w'=>x=.returned (.bool (decide (fnL l i < fnL l j)))∧Gr w w':=by
 subst hn;exact isless_any B g cap i j l w h hi hj
theorem isswap_n{B g cap n i j:Nat}{l:List Int}{w:World}(hn:l.length=n)(h:HpRow w B (.slice (some ⟨g,0,none⟩) n cap) l)(hi:i < n)(hj:j < n):
 Calls Tryz.prog 162 #[.slice (some ⟨g,0,none⟩) n cap,.int .i64 (i:Int),.int .i64 (j:Int)] w fun x w'=>x=.returned (.tuple #[])∧HpRow w' B (.slice (some ⟨g,0,none⟩) n cap) (swapL l i j)∧w.grownBy w' (some g):=by
 subst hn;exact isswap_any B g cap i j l w h hi hj
def Sifted(w:World)(lb lo B g cap n:Nat)(l:List Int)(w':World):Prop:=∃l',HpAt w' lb lo B g cap n l'∧Hp (fnL l') n∧Same (fnL l) (fnL l') n∧w.grownBy w' (some g)
theorem up_any(lb lo B g cap n j:Nat)(l:List Int)(w:World)(h:HpAt w lb lo B g cap n l)(hj:j < n)(hu:HpUp (fnL l) n j):
 Calls Tryz.prog 115 #[.iface 101 (.pointer (some ⟨lb,lo,none⟩)),.int .i64 (j:Int)] w fun x w'=>x=.returned (.tuple #[])∧Sifted w lb lo B g cap n l w':=by
 have HH:=hide h;have HU:=hide hu;have hsm:=h.small;clear h hu;go_enter Tryz.func115,Tryz.ntmps115
 go_wp2_with fail
 go_loopw [1] (fun i wr=>∃(k:Nat) (l':List Int),i=.int .i64 (k:Int)∧k < n∧HpAt wr lb lo B g cap n l'∧HpUp (fnL l') n k∧Same (fnL l) (fnL l') n∧w.grownBy wr (some g)) (fun i _=>(intOf i).toNat)
 case atStart=>exact ⟨j,l,rfl,hj,HH.out,HU.out,Same.refl _ _,gc_refl _ _⟩
 case round=>
  obtain ⟨k,l',rfl,hk,h1,h2,h3,h4⟩:=hrel;have H1:=hide h1;have H2:=hide h2;have H3:=hide h3;have H4:=hide h4;have hc:=h1.cell;clear h1 h2 h3 h4 HH HU;have hnot:∀(x:Bool) (w:World),(Op.unary .not (.bool x)).run Tryz.prog w=.ok (.bool (!x)) w:=fun _ _=>rfl
  by_cases hk0:0 < k
  · obtain ⟨p1,hp1⟩:∃p1:Nat,p1+1=k:=⟨k - 1,by omega⟩;obtain ⟨q,hq⟩:∃q:Nat,p1 / 2=q:=⟨_,rfl⟩;have hw1:IntKind.i64.wrap ((k:Int) - 1)=(p1:Int):=by rw [Go.IntWalk.i64_in _ (by omega)];omega
    have hw2:IntKind.i64.wrap ((p1:Int) / 2)=(q:Int):=by rw [Go.IntWalk.i64_in _ (by omega)];omega
    have hw3:wrap64 ((p1:Int) / 2)=(q:Int):=by rw [Go.IntWalk.wrap64_in _ (by omega)];omega
    have hne:¬q=k:=by omega
    have hne1:¬(q:Int)=(k:Int):=by omega
    have hne2:((q:Int) == (k:Int))=false:=by rw [beq_eq_false_iff_ne];omega
    have hne3:(q == k)=false:=by rw [beq_eq_false_iff_ne];omega
    have hqk:q=(k - 1) / 2:=by omega
    have HQK:=hide hqk;have hqn:q < n:=by omega
    clear hqk hp1 hq;have hm1:=m_less wr lb lo _ hc ⟨_,_,_,rfl⟩;go_wp2_with fail
    refine (isless_n H1.out.len H1.out.row hk hqn).mono ?_;rintro x w2 ⟨rfl,hg2⟩;have HA2:=hide (H1.out.gr hg2);have HG2:=hide (gc_gr H4.out hg2);have hc2:=HA2.out.cell;have hm2:=m_swap w2 lb lo _ hc2 ⟨_,_,_,rfl⟩;clear hm1 hc hg2;by_cases hlt:fnL l' k < fnL l' q
    · have hd:decide (fnL l' k < fnL l' q)=true:=by simpa using hlt
      rw [hd];have HLT:=hide hlt;clear hd hlt;go_wp2_with fail
      refine (isswap_n HA2.out.len HA2.out.row hqn hk).mono ?_;rintro x w3 ⟨rfl,hr3,hg3⟩;have HA3:=hide (HA2.out.swap hg3 hr3 (swapL_len _ _ _));have HG3:=hide (gc_trans HG2.out hg3);clear hr3 hg3 hm2 hc2;go_wp2_with fail
      have e1:fnL (swapL l' q k)=swp (fnL l') q k:=fnL_swap (by rw [HA2.out.len];exact hqn) (by rw [HA2.out.len];exact hk);have hst:=H2.out.step hk hk0 (by have:=HLT.out;rw [HQK.out] at this;exact this);rw [←HQK.out,←e1] at hst;have hsm2:Same (fnL l') (fnL (swapL l' q k)) n:=by rw [e1];exact swp_same hqn hk
      refine ⟨⟨q,_,rfl,hqn,HA3.out,hst,H3.out.trans hsm2,HG3.out⟩,?_⟩;have:=HQK.out
      simp [intOf];omega
    · have hd:decide (fnL l' k < fnL l' q)=false:=by simpa using hlt
      rw [hd];have HLT:=hide hlt;clear hd hlt hm2 hc2;go_wp2_with fail
      go_end0
      exact ⟨rfl,l',HA2.out,H2.out.stop (.inr (by have:=HLT.out;rw [HQK.out] at this;omega)),H3.out,HG2.out⟩
  · obtain rfl:k=0:=by omega
    have hw1:IntKind.i64.wrap (((0:Nat):Int) - 1)=-1:=by decide
    have hw2:IntKind.i64.wrap ((-1:Int).tdiv 2)=0:=by decide
    go_wp2_with fail
    go_end0
    exact ⟨rfl,l',H1.out,H2.out.stop (.inl rfl),H3.out,H4.out⟩
end Go.Proofs.YtkgncijcnlfhiaaGreat
