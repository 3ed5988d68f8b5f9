import Derived.Test.YtkgncijcnlfhiaaGreatMr
namespace Go.Proofs.YtkgncijcnlfhiaaGreat
set_option linter.unusedVariables false
set_option linter.unusedSimpArgs false
open Go.RowKit
attribute [local go_sem ↓] Go.wp_at_zero Go.wp_at_succ
theorem Tryz.infRow:(Tryz.prog.info? 177).map (fun i=>(i.zero,i.size,i.bytes))=some (some (.slice none 0 0),1,24):=by kernel_rfl
theorem Tryz.uRows:Tryz.prog.underlying 229=some (.slice 177):=by kernel_rfl
theorem wait_app{w0 w1:World}{vw:Value}{es:List (Value×List PV)}(new:List (Value×List PV))(ho:w1.ownsRow w0.heap.size 177 1 vw es.length (es.map (·.1)))(hw:w0.heap.size≤w1.heap.size)(M:Array Value)(hM:M.toList=new.map (·.1))(h1:∀v∈new.map (·.1),∃a n c,v=.slice a n c)(hn:es.length+new.length≤1000000)(ty:TypeId):
 ∃v' w',(Builtin.append_ #[229,229] ty #[vw,.slice (some ⟨w1.heap.size,0,none⟩) new.length new.length]).run Tryz.prog (w1.alloc (.cells M 177))=.ok v' w'∧w'.ownsRow w0.heap.size 177 1 v' (es++new).length ((es++new).map (·.1))∧(w1.alloc (.cells M 177)).grownBy w' vw.ownBlock:=by
 have hR:=rrow_new w1 M 177 new.length;rw [hM] at hR;obtain ⟨v',w',hr,ho',hg,_⟩:=app_rows (ty:=ty) 229 177 _ Tryz.infRow Tryz.uRows rfl (by decide) (by decide) (own_gr ho ((Gr.refl w1).alloc (.cells M 177))) hR (by simp) (by intro u hu;obtain ⟨a,n,c,rfl⟩:=h1 u hu;rfl) hn (by simp;omega);refine ⟨v',w',hr,?_,hg⟩;rw [List.length_append,List.map_append];exact ho'
section
variable {C:MC} {w:World} {ρ:Nat→Role} {nm fbn:Nat→Nat} {cs:Nat→Int} {ct:Int} {L:List PFr} {bs:List (List PV)} {tk:Nat} {told:List Int}
set_option maxRecDepth 100000 in
set_option maxHeartbeats 2000000 in
theorem reached_mw{vf vt:Value}(h:MW C w ρ nm fbn cs ct L bs tk told)(hm:MbW C w ρ fbn L.length (tk:Int) ct told vf vt)(hL:0 < L.length)(hLB:L.length≤1000)(hct:0≤ct∧ct≤10000000)(hbb:bs.length≤200000)(h8:∀r∈bs,r.length≤1000)(bL:∀x∈L,Bd bs.length x.slots∧Bd bs.length x.stack)(sL:∀x∈L,x.slots.length≤1000∧x.stack.length≤1000)(bB:∀r∈bs,Bd bs.length r):
 Calls Tryz.prog 136 #[.pointer (some ⟨C.mb,6,none⟩),vf] w fun e w'=>∃cs',e=.returned (.int .i64 (reachN L bs:Int))∧reachN L bs≤1001 * bs.length∧MW C w' ρ nm fbn cs' (ct+1) L bs tk told∧Kept w w' ρ ρ:=by
 obtain ⟨gf,fc,rfl⟩:∃g cap,vf=.slice (some ⟨g,0,none⟩) L.length cap:=by
  rcases hm.fr.2 with ⟨_,e⟩|⟨g,cap,cur,e,_⟩
  · omega
  · exact ⟨g,cap,e⟩
 have hbox:=hm.box;have hB':=(heap_setCell_same w C.mb 8 _ _ (.int .i64 (ct+1)) hbox).trans (by simp:_=some (.cells #[C.v1,C.v2,C.v3,C.v4,C.v5,.slice (some ⟨gf,0,none⟩) L.length fc,.int .i64 (C.heap:Int),.int .i64 (tk:Int),.int .i64 (ct+1),vt] 121 (0,0)));have h2:=h.setMb (w':=w.setCell ⟨C.mb,8,none⟩ (.int .i64 (ct+1))) hm hB' (by omega) rfl rfl rfl (by simp) (fun b hb hne=>Below.heap_setCell _ _ _ _ (by show b≠C.mb;exact hne));have HRW:Hid (RW C w ρ nm fbn (ct+1) L bs tk told (w.setCell ⟨C.mb,8,none⟩ (.int .i64 (ct+1))) (.slice none 0 0) ⟨fun _=>false,0,rowsP []⟩):=hide ⟨⟨cs,h2.1,fun j hj=>by
  have:=(h.blks j _ (List.getElem?_eq_getElem hj)).2.2
  simp;omega⟩,h2.2,⟨[],rfl,World.ownsRow_nil _ _ _ _,fun e he=>by cases he⟩⟩
 have HF1:Hid ((w.setCell ⟨C.mb,8,none⟩ (.int .i64 (ct+1))).ownsRow 0 122 1 (.slice (some ⟨gf,0,none⟩) L.length fc) L.length (ptrs fbn L.length)):=hide (own_at_ hm.fr fun k hk=>Below.heap_setCell _ _ _ _ (by show k≠C.mb;exact fun e=>by have:=hm.rf k hk;rw [e,hm.rm] at this;cases this));have HNO:Hid (∀b,w.heap.size≤b→ρ b=.no):=hide fun b hb=>h.new_no hb
 have HV:=hide h.gr.size;have HRF:Hid (∀b,(Value.slice (some ⟨gf,0,none⟩) L.length fc).ownBlock=some b→ρ b=.frs):=hide hm.rf;have HBL:=hide bL;have HSL:=hide sL;have HLB:=hide hLB;have HBB:=hide hbb;have HBB2:=hide bB;have H8:=hide h8;have HCT:=hide hct;obtain ⟨R,hR⟩:∃R,reachL bs (bs.length+(rowsP L).length+1) ⟨fun _=>false,0,rowsP L⟩=R:=⟨_,rfl⟩;have HR:=hide hR;have HRN:Hid (reachN L bs=R.all):=hide (by unfold reachN;rw [hR]);have c8:w.cell? ⟨C.mb,8,none⟩=some (.int .i64 ct):=by rw [hcell_ hbox];rfl
 have z8:w.frozen? ⟨C.mb,8,none⟩=false:=hfrozen_ hbox;have hwc:IntKind.i64.wrap (ct+1)=ct+1:=Go.IntWalk.i64_in _ (by omega);rw [HRN.out];clear h2 hB' hbox hm h hR bL sL bB h8 hct hbb hLB HRN;go_enter Tryz.func136,Tryz.ntmps136
 go_upto_region 2 with fail
 generalize w.setCell ⟨C.mb,8,none⟩ (.int .i64 (ct+1))=W1 at HRW HF1 ⊢;clear c8 z8 hwc;go_wp2_with fail
 go_loopw [5,22] (fun vw i wr=>∃k:Nat,i=.int .i64 (k:Int)∧k≤L.length∧wr.ownsRow 0 122 1 (.slice (some ⟨gf,0,none⟩) L.length fc) L.length (ptrs fbn L.length)∧RW C w ρ nm fbn (ct+1) L bs tk told wr vw ⟨fun _=>false,0,rowsP (L.drop (L.length - k))⟩) (fun _ i _=>L.length - (intOf i).toNat)
 case atStart=>exact ⟨0,rfl,Nat.zero_le _,HF1.out,by
  have e:L.drop (L.length - 0)= []:=by simp
  rw [e];exact HRW.out⟩
 case round=>
  obtain ⟨k,rfl,hk,hfr,hrw⟩:=hrel;have HRW2:=hide hrw;have HFR:=hide hfr;clear hrw hfr;by_cases hlt:k < L.length
  · have hki:(k:Int) < (L.length:Int):=by omega
    have hw:IntKind.i64.wrap ((k:Int)+1)=(k:Int)+1:=Go.IntWalk.i64_in _ (by have:=HLB.out;omega);have ck:wr.cell? ⟨gf,k,none⟩=some (.pointer (some ⟨fbn k,0,none⟩)):=(HFR.out.cellAt k (by omega)).trans (ptrs_at fbn hlt);obtain ⟨cs1,hM1,_⟩:=HRW2.out.mw;obtain ⟨x,hx,hdr,vc,vs,vk,f,ht⟩:=hM1.frs.at hlt;obtain ⟨es,he1,he2,he3⟩:=HRW2.out.wt;obtain ⟨wa,wc,rfl⟩:=own_shape_ he2;obtain ⟨sa,sc,rfl⟩:=own_shape_ ht.sl;obtain ⟨qa,qc,rfl⟩:=own_shape_ ht.st;have KS0:Hid (∀w',Gr wr w'→w'.cell? ⟨fbn k,2,none⟩=some (.slice sa x.slots.length sc)∧w'.cell? ⟨fbn k,3,none⟩=some (.slice qa x.stack.length qc)):=hide (fun w' gg=>⟨gg.cell (by rw [hcell_ ht.box];rfl) (by simp),gg.cell (by rw [hcell_ ht.box];rfl) (by simp)⟩);have hel:es.length=2 * k:=by
     have:=congrArg List.length he1
     rw [List.length_map] at this;rw [this];show (rowsP (L.drop (L.length - k))).length=_
     rw [rowsP_len,List.length_drop];omega
    have hwe:∀e∈[(Value.slice sa x.slots.length sc,x.slots),(Value.slice qa x.stack.length qc,x.stack)],WE wr ρ nm bs.length e.1 e.2:=by
     intro e he;have b1:=HBL.out x hx;have b2:=HSL.out x hx;simp only [List.mem_cons,List.not_mem_nil,or_false] at he;rcases he with rfl|rfl
     · exact ⟨ht.sl,fun b hb=>⟨k,.inl (ht.rsl b hb)⟩,b1.1,b2.1⟩
     · exact ⟨ht.st,fun b hb=>⟨k,.inr (.inl (ht.rst b hb))⟩,b1.2,b2.2⟩
    obtain ⟨v6,w6,hr6,ho6,hg6⟩:=wait_app (w0:=w) (w1:=wr.drew) (ty:=229) [(Value.slice sa x.slots.length sc,x.slots),(Value.slice qa x.stack.length qc,x.stack)] (own_gr he2 (Gr.drew (Gr.refl _))) HRW2.out.kp.size #[.slice sa x.slots.length sc,.slice qa x.stack.length qc] rfl (by intro v hv;simp at hv;rcases hv with rfl|rfl<;>exact ⟨_,_,_,rfl⟩) (by rw [hel];have:=HLB.out;simp;omega)
    have hrw6:RW C w ρ nm fbn (ct+1) L bs tk told w6 v6 ⟨fun _=>false,0,rowsP (L.drop (L.length - (k+1)))⟩:=by
     have hgw:Gr wr (wr.drew.alloc (.cells #[.slice sa x.slots.length sc,.slice qa x.stack.length qc] 177)):=(Gr.drew (Gr.refl wr)).alloc _;have h6:=HRW2.out.grow (all:=0) HNO.out HV.out hgw hg6 ho6 he1 he3 hwe;rw [hdr,rowsP];exact h6
    have hfr6:w6.ownsRow 0 122 1 (.slice (some ⟨gf,0,none⟩) L.length fc) L.length (ptrs fbn L.length):=own_at_ HFR.out fun b hb=>by
     have hl:=(HFR.out.lt b hb).2;have hgw:Gr wr (wr.drew.alloc (.cells #[.slice sa x.slots.length sc,.slice qa x.stack.length qc] 177)):=(Gr.drew (Gr.refl wr)).alloc _;refine (hg6.block b (Nat.lt_of_lt_of_le hl hgw.size) (fun e=>?_)).trans (hgw.block b hl (by simp));have e1:=HNO.out b (he2.lt b e.symm).1;rw [HRF.out b hb] at e1;cases e1
    have HRW6:=hide hrw6;have HFR6:=hide hfr6;have HR6:=hide hr6;have HS6:Hid (∀w',Gr wr w'→w'.cell? ⟨fbn k,2,none⟩=some (.slice sa x.slots.length sc)∧w'.cell? ⟨fbn k,3,none⟩=some (.slice qa x.stack.length qc)):=KS0;have KS6:Hid (w6.cell? ⟨fbn k,2,none⟩=some (.slice sa x.slots.length sc)∧w6.cell? ⟨fbn k,3,none⟩=some (.slice qa x.stack.length qc)):=hide (by
     have hgw:Gr wr (wr.drew.alloc (.cells #[.slice sa x.slots.length sc,.slice qa x.stack.length qc] 177)):=(Gr.drew (Gr.refl wr)).alloc _;obtain ⟨s1,s2⟩:=KS0.out _ hgw;have hne:¬some (fbn k)=(Value.slice wa es.length wc).ownBlock:=fun e=>by
      have e1:=HNO.out _ (he2.lt _ e.symm).1;rw [ht.rb] at e1;cases e1
     exact ⟨hg6.cell s1 hne,hg6.cell s2 hne⟩)
    clear ht hM1 he1 he2 he3 hwe hr6 ho6 hg6 hrw6 hfr6 HS6 hdr hx HRW2 HFR;generalize x.slots.length=ns at KS0 HR6 KS6;generalize x.stack.length=nk at KS0 HR6 KS6;generalize hne:es.length=ne at HR6 ⊢;clear hne hel;generalize fbn k=fb at KS0 ck KS6 ⊢;go_wp2_with fail
    refine wp_region_held_drew (S:=(fun w'=>w'.cell? ⟨fb,2,none⟩=some (.slice sa ns sc)∧w'.cell? ⟨fb,3,none⟩=some (.slice qa nk qc))) (by kernel_rfl) (KS0.out _ (Gr.drew (Gr.refl _))) (fun hH=>?_);refine tL 0 _ rfl (fun w hS=>by go_simp<;>rfl) hH ?_
    simp only [Act.put,sA,s0,s1];refine tL 1 _ rfl (fun w hS=>by go_simp<;>rfl) hH ?_
    simp only [Act.put,sA,s0,s1];refine tL 2 _ rfl (fun w hS=>by go_simp<;>rfl) hH ?_
    simp only [Act.put,sA,s0,s1];refine tL 3 _ rfl (fun w hS=>by go_simp<;>rfl) hH ?_
    simp only [Act.put,sA,s0,s1];refine tL 4 _ rfl (fun w hS=>by go_simp<;>rfl) hH ?_
    simp only [Act.put,sA,s0,s1];refine tL 5 _ rfl (fun w hS=>by go_simp<;>rfl) hH ?_
    simp only [Act.put,sA,s0,s1];refine tL 6 _ rfl (fun w hS=>by go_simp<;>rfl) hH ?_
    simp only [Act.put,sA,s0,s1];refine tL 7 _ rfl (fun w hS=>by go_simp<;>rfl) hH ?_
    simp only [Act.put,sA,s0,s1];refine tL 8 _ rfl (fun w hS=>by go_simp<;>rfl) hH ?_
    simp only [Act.put,sA,s0,s1];refine aloneL (i:=9) rfl (by kernel_rfl) (fun K hK=>?_);refine want_yes (by rfl) ?_;have HK:=hide hK;clear hK;go_simp
    have hK:=HK.out;clear HK;refine hK.out _ _ (KS0.out _ ((Gr.drew (Gr.refl _)).alloc _)) (fun hH=>?_);clear hK;try simp only [Act.put,sA,s0,s1]
    refine aloneL (i:=10) rfl (by kernel_rfl) (fun K hK=>?_);refine want_yes (by rfl) (Lib.wp_append_run _ _ _ _ _ rfl (.slice wa ne wc) (.slice (some ⟨wr.heap.size,0,none⟩) 2 2) (by simp [Act.eval]) (by simp [Act.eval]) _ _ HR6.out ?_);refine hK.out _ _ (KS6.out) (fun hH=>?_);clear hK;try simp only [Act.put,sA,s0,s1]
    refine tL 11 _ rfl (fun w hS=>by go_simp<;>rfl) hH ?_
    simp only [Act.put,sA,s0,s1];refine wpAnyH_done (by kernel_rfl) ?_ _;clear hH KS0 KS6;go_wp2_with fail
    exact ⟨⟨k+1,by simp,hlt,HFR6.out,HRW6.out⟩,by simp [intOf];omega⟩
  · have hkk:k=L.length:=by omega
    subst hkk;have e:L.drop (L.length - L.length)=L:=by simp
    have hrw:=HRW2.out;rw [e] at hrw;have HRW3:=hide hrw;clear hrw e HRW2 HFR hlt hk HF1 HRW;go_wp2_with fail
    go_loopw [5,8] (fun vw va wr=>∃(st:RSt) (n:Nat) (v0:Value),v0=vw∧va=.int .i64 (st.all:Int)∧reachL bs n st=R∧st.wt.length+unm st.mark bs.length≤n∧n≤300000∧st.all+1001 * unm st.mark bs.length≤1001 * bs.length∧RW C w ρ nm fbn (ct+1) L bs tk told wr vw st) (fun vw _ wr=>lenV vw+unW nm bs.length (ct+1) wr)
    case atStart=>exact ⟨_,_,_,rfl,rfl,HR.out,by rw [unm_none];show (rowsP L).length+bs.length≤_;omega,by have:=HBB.out;have:=HLB.out;have:=rowsP_len L;omega,by rw [unm_none];show 0+_≤_;omega,HRW3.out⟩
    case round=>
     obtain ⟨st,n,vw,rfl,rfl,hre,hms,hnb,hab,hrw⟩:=hrel;have HRWo:=hide hrw;have HMSo:=hide (And.intro hre (And.intro hms (And.intro hnb hab)));clear hrw hre hms hnb hab;obtain ⟨es,he1,he2,he3⟩:=HRWo.out.wt;rcases List.eq_nil_or_concat es with rfl|⟨es',el,rfl⟩
     · have hwt:st.wt= []:=by rw [←he1];rfl
       have HEQ:Hid (st.all=R.all):=hide (by rw [←HMSo.out.1,reachL_nil hwt]);obtain ⟨wa,wc,rfl⟩:=own_shape_ he2;obtain ⟨cs9,hM9,_⟩:=HRWo.out.mw;have HM9:=hide hM9;have HK9:=hide HRWo.out.kp;have HAB9:=hide HMSo.out.2.2.2;clear he1 he2 he3 hwt hM9 HRWo HMSo;go_wp2_with fail
       go_ret
       exact ⟨cs9,by rw [←HEQ.out];rfl,by rw [←HEQ.out];have:=HAB9.out;omega,HM9.out,HK9.out⟩
     · obtain ⟨pv,r⟩:=el;rw [List.concat_eq_append] at he1 he2 he3;have hwt:st.wt=es'.map (·.2)++ [r]:=by rw [←he1];simp
       have hwr:WE wr ρ nm bs.length pv r:=he3 (pv,r) (by simp);have hsh:=he2;rw [List.length_append,List.map_append] at hsh;have hsh:wr.ownsRow w.heap.size 177 1 vw (es'.length+1) (es'.map (·.1)++ [pv]):=hsh;obtain ⟨g,cap,rfl⟩:∃g cap,vw=.slice (some ⟨g,0,none⟩) (es'.length+1) cap:=by
        rcases hsh.2 with ⟨_,e⟩|⟨g,cap,cur,e,_⟩
        · omega
        · exact ⟨g,cap,e⟩
       have hcap:es'.length+1≤cap:=by
        rcases hsh.2 with ⟨h,_⟩|⟨g',cap',cur,e,_,_,h,_⟩
        · cases h
        · cases e;omega
       have clast:wr.cell? ⟨g,es'.length,none⟩=some pv:=by
        rw [hsh.cellAt _ (by omega),List.getElem?_append_right (by simp)];simp
       have hpop:=ownsRow_pop (xs:=es'.map (·.1)) (last:= [pv]) (by simp) hsh;obtain ⟨pa,pc,rfl⟩:=own_shape_ hwr.own;obtain ⟨m,rfl⟩:∃m,n=m+1:=⟨n - 1,by
        have:=HMSo.out.2.1
        rw [hwt] at this;simp at this
        omega⟩
       have HRE2:Hid (reachL bs m (scanP bs r ⟨st.mark,st.all,es'.map (·.2)⟩)=R):=hide (by rw [←HMSo.out.1,reachL_step hwt]);have HRW5:Hid (RW C w ρ nm fbn (ct+1) L bs tk told wr (.slice (some ⟨g,0,none⟩) es'.length cap) ⟨st.mark,st.all,es'.map (·.2)⟩):=hide ⟨HRWo.out.mw,HRWo.out.kp,⟨es',rfl,hpop,fun e he=>he3 e (by simp [he])⟩⟩;have HWE:=hide hwr;have HAB:=hide HMSo.out.2.2.2;have HU0:=hide HRWo.out.un;have HM0:Hid ((es'.map (·.2)).length+unm st.mark bs.length≤m∧m≤300000):=hide ⟨by have:=HMSo.out.2.1;rw [hwt] at this;simp at this;simp;omega,by have:=HMSo.out.2.2.1;omega⟩;have hel:es'.length≤300000:=by have:=HM0.out;simp at this;omega
       have hw1:IntKind.i64.wrap ((es'.length:Int)+1 - 1)=(es'.length:Int):=by rw [Go.IntWalk.i64_in _ (by omega)];omega
       have hw2:IntKind.i64.wrap (((es'.length+1:Nat):Int) - 1)=(es'.length:Int):=by rw [Go.IntWalk.i64_in _ (by omega)];omega
       have hw3:IntKind.i64.wrap (es'.length:Int)=(es'.length:Int):=Go.IntWalk.i64_in _ (by omega);have HN0:Hid ((es'.map (·.2)).length=es'.length):=hide (by simp);clear he1 he2 he3 hwt hwr hsh hpop HMSo;generalize hst0:(⟨st.mark,st.all,es'.map (·.2)⟩:RSt)=st0 at HRE2 HRW5;have HST0:Hid (st0.wt=es'.map (·.2)∧st0.mark=st.mark∧st0.all=st.all):=hide (by subst hst0;exact ⟨rfl,rfl,rfl⟩);clear hst0;generalize es'.length=ne0 at *;have hni:(ne0:Int) < (ne0:Int)+1:=by omega
       have hgt:(0:Int) < (ne0:Int)+1:=by omega
       have hnc:(ne0:Int)≤(cap:Int):=by omega
       have hncn:ne0≤cap:=by omega
       go_wp2_with fail
       go_loopw [5,8,53] (fun vw va i wr=>∃(k:Nat) (st:RSt) (v0:Value),v0=vw∧i=.int .i64 (k:Int)∧va=.int .i64 (st.all:Int)∧k≤r.length∧scanP bs (r.drop k) st=scanP bs r st0∧st.wt.length+unm st.mark bs.length≤st0.wt.length+unm st0.mark bs.length∧st.all+1001 * unm st.mark bs.length≤1001 * bs.length∧RW C w ρ nm fbn (ct+1) L bs tk told wr vw st∧WE wr ρ nm bs.length (.slice pa r.length pc) r) (fun _ _ i _=>r.length - (intOf i).toNat)
       case atStart=>exact ⟨0,st0,_,rfl,rfl,by rw [HST0.out.2.2],Nat.zero_le _,rfl,Nat.le_refl _,by rw [HST0.out.2.1,HST0.out.2.2];exact HAB.out,HRW5.out,HWE.out⟩
       case round=>
        obtain ⟨k,st1,vw,rfl,rfl,rfl,hk,hsc,hms,hab,hrw,hwe⟩:=hrel;have HRWi:=hide hrw;have HWEi:=hide hwe;have HMS:=hide (And.intro hsc (And.intro hms hab));clear hrw hwe hsc hms hab;by_cases hlt:k < r.length
        · have hki:(k:Int) < (r.length:Int):=by omega
          have hw:IntKind.i64.wrap ((k:Int)+1)=(k:Int)+1:=Go.IntWalk.i64_in _ (by have:=HWEi.out.short;omega);obtain ⟨gp,rfl⟩:∃gp,pa=some ⟨gp,0,none⟩:=by
           rcases HWEi.out.own.2 with ⟨_,e⟩|⟨g,cap,cur,e,_⟩
           · omega
           · cases e;exact ⟨g,rfl⟩
          obtain ⟨v,hv⟩:∃v,r[k]? =some v:=⟨_,List.getElem?_eq_getElem hlt⟩;have hdk:r.drop k=v :: r.drop (k+1):=by
           rw [List.drop_eq_getElem_cons hlt];rw [List.getElem?_eq_getElem hlt] at hv;cases hv;rfl
          have hat:=rowV_at nm r k v hv;have e0:=(HWEi.out.own.cellAt (k * 2) (by omega)).trans hat.1;have e1:=(HWEi.out.own.cellAt (k * 2+1) (by omega)).trans hat.2;have HDK:=hide hdk;have HBV:=hide (HWEi.out.bd v (List.mem_of_getElem? hv));clear hat hv hdk;have gA:=(Gr.refl wr).alloc (.cells #[.int .i64 v.num,.pointer (pvP nm v.blk)] 183);have hbA:=heap_alloc_new wr (.cells #[.int .i64 v.num,.pointer (pvP nm v.blk)] 183);have HGA:=hide gA;have HBA:=hide hbA;clear gA hbA;cases hb:v.blk with
          | none=>
           have HSC:Hid (scanP bs (r.drop (k+1)) st1=scanP bs r st0):=hide (by rw [←HMS.out.1,HDK.out,scan_none hb]);rw [hb] at e1 HGA HBA;replace e1:wr.cell? ⟨gp,k * 2+1,none⟩=some (.pointer none):=e1;replace HGA:Hid (Gr wr (wr.alloc (.cells #[.int .i64 v.num,.pointer none] 183))):=HGA;replace HBA:Hid ((wr.alloc (.cells #[.int .i64 v.num,.pointer none] 183)).heap[wr.heap.size]? =some (.cells #[.int .i64 v.num,.pointer none] 183 (0,0))):=HBA;have KS0:Hid (∀w',Gr (wr.alloc (.cells #[.int .i64 v.num,.pointer none] 183)) w'→w'.cell? ⟨wr.heap.size,1,none⟩=some (.pointer none)):=hide (fun w' gg=>gg.cell (by rw [hcell_ HBA.out];rfl) (by simp));have HRW7:=hide (HRWi.out.of_gr (Gr.drew HGA.out));have HWE7:=hide (HWEi.out.mv (w':=(wr.alloc (.cells #[.int .i64 v.num,.pointer none] 183)).drew) fun b hb _=>(Gr.drew HGA.out).block b hb (by simp));have hnil:=Tryz.blkNil;clear HGA HBA hb HBV HDK HRWi HWEi;generalize v.num=num at e0 KS0 HRW7 HWE7;go_wp2_with fail
           generalize wr.alloc (.cells #[.int .i64 num,.pointer none] 183)=W1 at KS0 HRW7 HWE7 ⊢;refine wp_region_held_drew (S:=(fun w'=>w'.cell? ⟨wr.heap.size,1,none⟩=some (.pointer none))) (by kernel_rfl) (KS0.out _ (Gr.drew (Gr.refl _))) (fun hH=>?_);refine tL 0 _ rfl (fun w hS=>by go_simp<;>rfl) hH ?_
           simp only [Act.put,sA,s0,s1];refine tL 1 _ rfl (fun w hS=>by go_simp<;>rfl) hH ?_
           simp only [Act.put,sA,s0,s1];refine tL 2 _ rfl (fun w hS=>by go_simp<;>rfl) hH ?_
           simp only [Act.put,sA,s0,s1];refine tL 3 _ rfl (fun w hS=>by go_simp<;>rfl) hH ?_
           simp only [Act.put,sA,s0,s1];refine skipL (i:=4) rfl (by kernel_rfl) (by kernel_rfl) (by kernel_rfl) (fun _ _ _ h=>h) (by rfl) hH ?_;simp only [Act.put,sA,s0,s1];refine skipL (i:=5) rfl (by kernel_rfl) (by kernel_rfl) (by kernel_rfl) (fun _ _ _ h=>h) (by rfl) hH ?_;simp only [Act.put,sA,s0,s1];refine skipL (i:=6) rfl (by kernel_rfl) (by kernel_rfl) (by kernel_rfl) (fun _ _ _ h=>h) (by rfl) hH ?_;simp only [Act.put,sA,s0,s1];refine skipL (i:=7) rfl (by kernel_rfl) (by kernel_rfl) (by kernel_rfl) (fun _ _ _ h=>h) (by rfl) hH ?_;simp only [Act.put,sA,s0,s1];refine skipL (i:=8) rfl (by kernel_rfl) (by kernel_rfl) (by kernel_rfl) (fun _ _ _ h=>h) (by rfl) hH ?_;simp only [Act.put,sA,s0,s1];refine skipL (i:=9) rfl (by kernel_rfl) (by kernel_rfl) (by kernel_rfl) (fun _ _ _ h=>h) (by rfl) hH ?_;simp only [Act.put,sA,s0,s1];refine skipL (i:=10) rfl (by kernel_rfl) (by kernel_rfl) (by kernel_rfl) (fun _ _ _ h=>h) (by rfl) hH ?_;simp only [Act.put,sA,s0,s1];refine skipL (i:=11) rfl (by kernel_rfl) (by kernel_rfl) (by kernel_rfl) (fun _ _ _ h=>h) (by rfl) hH ?_;simp only [Act.put,sA,s0,s1];refine skipL (i:=12) rfl (by kernel_rfl) (by kernel_rfl) (by kernel_rfl) (fun _ _ _ h=>h) (by rfl) hH ?_;simp only [Act.put,sA,s0,s1];refine skipL (i:=13) rfl (by kernel_rfl) (by kernel_rfl) (by kernel_rfl) (fun _ _ _ h=>h) (by rfl) hH ?_;simp only [Act.put,sA,s0,s1];refine tL 14 _ rfl (fun w hS=>by go_simp<;>rfl) hH ?_
           simp only [Act.put,sA,s0,s1];refine wpAnyH_done (by kernel_rfl) ?_ _;clear hH KS0;go_wp2_with fail
           exact ⟨⟨k+1,st1,_,rfl,by simp,by simp,hlt,HSC.out,HMS.out.2.1,HMS.out.2.2,HRW7.out,HWE7.out⟩,by simp [intOf];omega⟩
          | some j=>
           rw [hb] at e1 HGA HBA;replace e1:wr.cell? ⟨gp,k * 2+1,none⟩=some (.pointer (some ⟨nm j,0,none⟩)):=e1;replace HGA:Hid (Gr wr (wr.alloc (.cells #[.int .i64 v.num,.pointer (some ⟨nm j,0,none⟩)] 183))):=HGA;replace HBA:Hid ((wr.alloc (.cells #[.int .i64 v.num,.pointer (some ⟨nm j,0,none⟩)] 183)).heap[wr.heap.size]? =some (.cells #[.int .i64 v.num,.pointer (some ⟨nm j,0,none⟩)] 183 (0,0))):=HBA;have hjl:=HBV.out j hb;obtain ⟨fs,hj⟩:∃fs,bs[j]? =some fs:=⟨_,List.getElem?_eq_getElem hjl⟩;obtain ⟨cs1,hM1,hcs1⟩:=HRWi.out.mw;obtain ⟨⟨vfl,hB⟩,_⟩:=hM1.blks j fs hj;obtain ⟨vf1,vt1,hm1⟩:=hM1.mb;have hBox:=hB.box;have hmBox:=hm1.box;have hmk:=hcs1 j hjl;have hne:=fun (w:World)=>Tryz.blkNe ⟨nm j,0,none⟩ w
           have HRW7:=hide (HRWi.out.of_gr (Gr.drew HGA.out));have HWE7:=hide (HWEi.out.mv (w':=(wr.alloc (.cells #[.int .i64 v.num,.pointer (some ⟨nm j,0,none⟩)] 183)).drew) fun b hb _=>(Gr.drew HGA.out).block b hb (by simp));by_cases hc1:cs1 j=ct+1
           · have HSC:Hid (scanP bs (r.drop (k+1)) st1=scanP bs r st0):=hide (by rw [←HMS.out.1,HDK.out,scan_old hb (by rw [hmk];simp [hc1])]);rw [hc1] at hBox;have KS0:Hid (∀w',Gr (wr.alloc (.cells #[.int .i64 v.num,.pointer (some ⟨nm j,0,none⟩)] 183)) w'→w'.cell? ⟨wr.heap.size,1,none⟩=some (.pointer (some ⟨nm j,0,none⟩))∧w'.cell? ⟨nm j,1,none⟩=some (.int .i64 (ct+1))∧w'.cell? ⟨C.mb,8,none⟩=some (.int .i64 (ct+1))):=hide (fun w' gg=>⟨gg.cell (by rw [hcell_ HBA.out];rfl) (by simp),(HGA.out.trans gg).cell (by rw [hcell_ hBox];rfl) (by simp),(HGA.out.trans gg).cell (by rw [hcell_ hmBox];rfl) (by simp)⟩);clear HGA HBA hb HBV HDK HRWi HWEi hBox hmBox hM1 hm1 hB hmk hcs1 hc1 hj hjl;generalize v.num=num at e0 KS0 HRW7 HWE7;generalize nm j=bj at e1 KS0 HRW7 HWE7 hne;generalize C.mb=mb at KS0 ⊢;go_wp2_with fail
             generalize wr.alloc (.cells #[.int .i64 num,.pointer (some ⟨bj,0,none⟩)] 183)=W1 at KS0 HRW7 HWE7 ⊢;refine wp_region_held_drew (S:=(fun w'=>w'.cell? ⟨wr.heap.size,1,none⟩=some (.pointer (some ⟨bj,0,none⟩))∧w'.cell? ⟨bj,1,none⟩=some (.int .i64 (ct+1))∧w'.cell? ⟨mb,8,none⟩=some (.int .i64 (ct+1)))) (by kernel_rfl) (KS0.out _ (Gr.drew (Gr.refl _))) (fun hH=>?_);refine tL 0 _ rfl (fun w hS=>by go_simp<;>rfl) hH ?_
             simp only [Act.put,sA,s0,s1];refine tL 1 _ rfl (fun w hS=>by go_simp<;>rfl) hH ?_
             simp only [Act.put,sA,s0,s1];refine tL 2 _ rfl (fun w hS=>by go_simp<;>rfl) hH ?_
             simp only [Act.put,sA,s0,s1];refine tL 3 _ rfl (fun w hS=>by go_simp<;>rfl) hH ?_
             simp only [Act.put,sA,s0,s1];refine tL 4 _ rfl (fun w hS=>by go_simp<;>rfl) hH ?_
             simp only [Act.put,sA,s0,s1];refine tL 5 _ rfl (fun w hS=>by go_simp<;>rfl) hH ?_
             simp only [Act.put,sA,s0,s1];refine tL 6 _ rfl (fun w hS=>by go_simp<;>rfl) hH ?_
             simp only [Act.put,sA,s0,s1];refine tL 7 _ rfl (fun w hS=>by go_simp<;>rfl) hH ?_
             simp only [Act.put,sA,s0,s1];refine tL 8 _ rfl (fun w hS=>by go_simp<;>rfl) hH ?_
             simp only [Act.put,sA,s0,s1];refine tL 9 _ rfl (fun w hS=>by go_simp<;>rfl) hH ?_
             simp only [Act.put,sA,s0,s1];refine tL 10 _ rfl (fun w hS=>by go_simp<;>rfl) hH ?_
             simp only [Act.put,sA,s0,s1];refine tL 11 _ rfl (fun w hS=>by go_simp<;>rfl) hH ?_
             simp only [Act.put,sA,s0,s1];refine tL 12 _ rfl (fun w hS=>by go_simp<;>rfl) hH ?_
             simp only [Act.put,sA,s0,s1];refine tL 13 _ rfl (fun w hS=>by go_simp<;>rfl) hH ?_
             simp only [Act.put,sA,s0,s1];refine tL 14 _ rfl (fun w hS=>by go_simp<;>rfl) hH ?_
             simp only [Act.put,sA,s0,s1];refine wpAnyH_done (by kernel_rfl) ?_ _;clear hH KS0;go_wp2_with fail
             exact ⟨⟨k+1,st1,_,rfl,by simp,by simp,hlt,HSC.out,HMS.out.2.1,HMS.out.2.2,HRW7.out,HWE7.out⟩,by simp [intOf];omega⟩
           · have hmf:st1.mark j=false:=by rw [hmk];simp [hc1]
             have HSC:Hid (scanP bs (r.drop (k+1)) ⟨fun k=>decide (k=j) || st1.mark k,st1.all+(fs.length+1),st1.wt++ [fs]⟩=scanP bs r st0):=hide (by rw [←HMS.out.1,HDK.out,scan_new hb hmf hj]);have hun:=unm_mark hmf hjl;have hfs:=H8.out fs (List.mem_of_getElem? hj);have HMS2:Hid ((st1.wt++ [fs]).length+unm (fun k=>decide (k=j) || st1.mark k) bs.length≤st0.wt.length+unm st0.mark bs.length∧st1.all+(fs.length+1)+1001 * unm (fun k=>decide (k=j) || st1.mark k) bs.length≤1001 * bs.length):=hide ⟨by have:=HMS.out.2.1;simp;omega,by have:=HMS.out.2.2;omega⟩;have hall:st1.all≤1001 * 200000:=by have:=HMS.out.2.2;have:=HBB.out;omega
             have KS0:Hid (∀w',Gr (wr.alloc (.cells #[.int .i64 v.num,.pointer (some ⟨nm j,0,none⟩)] 183)) w'→w'.cell? ⟨wr.heap.size,1,none⟩=some (.pointer (some ⟨nm j,0,none⟩))∧w'.cell? ⟨nm j,1,none⟩=some (.int .i64 (cs1 j))∧w'.cell? ⟨C.mb,8,none⟩=some (.int .i64 (ct+1))):=hide (fun w' gg=>⟨gg.cell (by rw [hcell_ HBA.out];rfl) (by simp),(HGA.out.trans gg).cell (by rw [hcell_ hBox];rfl) (by simp),(HGA.out.trans gg).cell (by rw [hcell_ hmBox];rfl) (by simp)⟩);have HH:Hid (∀w',Gr (wr.alloc (.cells #[.int .i64 v.num,.pointer (some ⟨nm j,0,none⟩)] 183)) w'→w'.heap[nm j]? =some (.cells #[vfl,.int .i64 (cs1 j)] 224 (0,0))∧w'.heap[wr.heap.size]? =some (.cells #[.int .i64 v.num,.pointer (some ⟨nm j,0,none⟩)] 183 (0,0))):=hide (fun w' gg=>⟨((HGA.out.trans gg).block _ hB.lt (by simp)).trans hBox,(gg.block _ (by simp) (by simp)).trans HBA.out⟩);have HNE:Hid (¬wr.heap.size=nm j):=hide (by have:=hB.lt;omega);obtain ⟨fa,fcp,rfl⟩:=own_shape_ hB.fl;have HWB:Hid (∀w',Gr wr w'→WE w' ρ nm bs.length (.slice fa fs.length fcp) fs):=hide (fun w' gg=>(⟨hB.fl,fun b hb=>⟨j,.inr (.inr (hB.rf b hb))⟩,HBB2.out fs (List.mem_of_getElem? hj),hfs⟩:WE wr ρ nm bs.length (.slice fa fs.length fcp) fs).mv fun b hb _=>gg.block b hb (by simp));have HRM:Hid (∀w',Gr (wr.alloc (.cells #[.int .i64 v.num,.pointer (some ⟨nm j,0,none⟩)] 183)) w'→RW C w ρ nm fbn (ct+1) L bs tk told (w'.setCell ⟨nm j,1,none⟩ (.int .i64 (ct+1))) vw ⟨fun k=>decide (k=j) || st1.mark k,st1.all,st1.wt⟩∧(∀(v:Value) (r:List PV),WE w' ρ nm bs.length v r→WE (w'.setCell ⟨nm j,1,none⟩ (.int .i64 (ct+1))) ρ nm bs.length v r)):=hide (fun w' gg=>⟨(HRWi.out.of_gr (HGA.out.trans gg)).mark HNO.out hj (by have:=HCT.out;omega),fun v r hwe=>hwe.mv fun b hb hr=>Below.heap_setCell _ _ _ _ (by
              show b≠nm j
              intro e2;rw [e2,hB.rb] at hr;obtain ⟨i,hi⟩:=hr;rcases hi with hi|hi|hi<;>cases hi)⟩)
             have HGA2:=HGA;clear HGA HBA hb HBV HDK HRWi hBox hmBox hM1 hm1 hB hmk hcs1 hj hjl hun hmf HRW7 HWE7 HMS;generalize hcj:cs1 j=q at KS0 HH hc1;clear hcj;go_wp2_with fail
             generalize wr.alloc (.cells #[.int .i64 v.num,.pointer (some ⟨nm j,0,none⟩)] 183)=W1 at KS0 HH HRM HGA2 ⊢;refine wp_region_held_drew (S:=(fun w'=>w'.cell? ⟨wr.heap.size,1,none⟩=some (.pointer (some ⟨nm j,0,none⟩))∧w'.cell? ⟨nm j,1,none⟩=some (.int .i64 q)∧w'.cell? ⟨C.mb,8,none⟩=some (.int .i64 (ct+1)))) (by kernel_rfl) (KS0.out _ (Gr.drew (Gr.refl _))) (fun hH=>?_);refine tL 0 _ rfl (fun w hS=>by go_simp<;>rfl) hH ?_
             simp only [Act.put,sA,s0,s1];refine tL 1 _ rfl (fun w hS=>by go_simp<;>rfl) hH ?_
             simp only [Act.put,sA,s0,s1];refine tL 2 _ rfl (fun w hS=>by go_simp<;>rfl) hH ?_
             simp only [Act.put,sA,s0,s1];refine tL 3 _ rfl (fun w hS=>by go_simp<;>rfl) hH ?_
             simp only [Act.put,sA,s0,s1];refine tL 4 _ rfl (fun w hS=>by go_simp<;>rfl) hH ?_
             simp only [Act.put,sA,s0,s1];refine tL 5 _ rfl (fun w hS=>by go_simp<;>rfl) hH ?_
             simp only [Act.put,sA,s0,s1];refine tL 6 _ rfl (fun w hS=>by go_simp<;>rfl) hH ?_
             simp only [Act.put,sA,s0,s1];refine tL 7 _ rfl (fun w hS=>by go_simp<;>rfl) hH ?_
             simp only [Act.put,sA,s0,s1];refine tL 8 _ rfl (fun w hS=>by go_simp<;>rfl) hH ?_
             simp only [Act.put,sA,s0,s1];refine tL 9 _ rfl (fun w hS=>by go_simp<;>rfl) hH ?_
             simp only [Act.put,sA,s0,s1];refine tL 10 _ rfl (fun w hS=>by go_simp<;>rfl) hH ?_
             simp only [Act.put,sA,s0,s1];refine tL 11 _ rfl (fun w hS=>by go_simp<;>rfl) hH ?_
             simp only [Act.put,sA,s0,s1];refine tL 12 _ rfl (fun w hS=>by go_simp<;>rfl) hH ?_
             simp only [Act.put,sA,s0,s1];refine tL 13 _ rfl (fun w hS=>by go_simp<;>rfl) hH ?_
             simp only [Act.put,sA,s0,s1];refine tL 14 _ rfl (fun w hS=>by go_simp<;>rfl) hH ?_
             simp only [Act.put,sA,s0,s1];refine wpAnyH_done (by kernel_rfl) ?_ _;clear hH;go_wp2_with fail
             have GD:Gr W1 W1.drew:=Gr.drew (Gr.refl W1);have HGD:=hide GD;clear GD;generalize W1.drew=W2 at HGD ⊢;refine wp_region_z 8 (S:=(fun w'=>w'.cell? ⟨wr.heap.size,1,none⟩=some (.pointer (some ⟨nm j,0,none⟩))∧w'.cell? ⟨nm j,1,none⟩=some (.int .i64 q)∧w'.cell? ⟨C.mb,8,none⟩=some (.int .i64 (ct+1)))) (by kernel_rfl) (KS0.out _ (HGD.out.trans (Gr.drew (Gr.refl _)))) (fun hH=>?_);refine tY 0 _ rfl (fun w hS=>by go_simp<;>rfl) hH ?_
             simp only [Act.put,sA,s0,s1];refine tY 1 _ rfl (fun w hS=>by go_simp<;>rfl) hH ?_
             simp only [Act.put,sA,s0,s1];refine tY 2 _ rfl (fun w hS=>by go_simp<;>rfl) hH ?_
             simp only [Act.put,sA,s0,s1];refine tY 3 _ rfl (fun w hS=>by go_simp<;>rfl) hH ?_
             simp only [Act.put,sA,s0,s1];refine tY 4 _ rfl (fun w hS=>by go_simp<;>rfl) hH ?_
             simp only [Act.put,sA,s0,s1];refine tY 5 _ rfl (fun w hS=>by go_simp<;>rfl) hH ?_
             simp only [Act.put,sA,s0,s1];refine tY 6 _ rfl (fun w hS=>by go_simp<;>rfl) hH ?_
             simp only [Act.put,sA,s0,s1];refine tY 7 _ rfl (fun w hS=>by go_simp<;>rfl) hH ?_
             simp only [Act.put,sA,s0,s1];refine aloneZ (i:=8) rfl (by kernel_rfl) (fun K hK=>?_);have f0:=(HH.out _ HGD.out).1;have m1:W2.cell? ⟨nm j,1,none⟩=some (.int .i64 q):=by rw [hcell_ f0];rfl
             have z1:W2.frozen? ⟨nm j,1,none⟩=false:=hfrozen_ f0;have HK:=hide hK;clear hK f0;refine want_yes (by rfl) ?_;go_simp
             have hK:=HK.out;clear HK m1 z1;refine hK.out _ _ (fun h=>absurd rfl h) (fun _=>?_);clear hK;try simp only [Act.put,sA,s0,s1]
             refine doneZ (by kernel_rfl) ?_ _;clear hH KS0;have b3:=(heap_setCell_same W2 (nm j) 1 _ _ (.int .i64 (ct+1)) (HH.out _ HGD.out).1).trans (by simp:_=some (.cells #[.slice fa fs.length fcp,.int .i64 (ct+1)] 224 (0,0)));have b4:=(Below.heap_setCell W2 ⟨nm j,1,none⟩ (.int .i64 (ct+1)) wr.heap.size HNE.out).trans (HH.out _ HGD.out).2;have h3:=(HRM.out _ HGD.out);have HRW3:=hide (h3.1.of_gr (Gr.drew (Gr.refl _)));have HWB3:=hide ((h3.2 _ _ (HWB.out _ (HGA2.out.trans HGD.out))).mv (w':=(W2.setCell ⟨nm j,1,none⟩ (.int .i64 (ct+1))).drew) fun b hb _=>rfl);have HWE3:=hide ((h3.2 _ _ (HWEi.out.mv (w':=W2) fun b hb _=>(HGA2.out.trans HGD.out).block b hb (by simp))).mv (w':=(W2.setCell ⟨nm j,1,none⟩ (.int .i64 (ct+1))).drew) fun b hb _=>rfl);have HB3:Hid ((W2.setCell ⟨nm j,1,none⟩ (.int .i64 (ct+1))).drew.heap[nm j]? =_):=hide b3;have HB4:Hid ((W2.setCell ⟨nm j,1,none⟩ (.int .i64 (ct+1))).drew.heap[wr.heap.size]? =_):=hide b4;clear h3 b3 b4 HRM HWB HWEi HH HGD HGA2;generalize (W2.setCell ⟨nm j,1,none⟩ (.int .i64 (ct+1))).drew=W3 at HRW3 HWB3 HWE3 HB3 HB4 ⊢;have k0:W3.cell? ⟨nm j,0,none⟩=some (.slice fa fs.length fcp):=by rw [hcell_ HB3.out];rfl
             have k1:W3.cell? ⟨wr.heap.size,1,none⟩=some (.pointer (some ⟨nm j,0,none⟩)):=by rw [hcell_ HB4.out];rfl
             obtain ⟨es,he1,he2,he3⟩:=HRW3.out.wt;obtain ⟨wa,wc,rfl⟩:=own_shape_ he2;have hel:es.length+1≤1000000:=by
              have h1:=congrArg List.length he1;rw [List.length_map] at h1;have h1:es.length=st1.wt.length:=h1;have h2:=HMS2.out.1;have h3:=HM0.out;rw [HST0.out.1,HST0.out.2.1] at h2;simp at h2 h3
              omega
             have hwf:∀e∈[(Value.slice fa fs.length fcp,fs)],WE W3 ρ nm bs.length e.1 e.2:=by
              intro e he;simp only [List.mem_cons,List.not_mem_nil,or_false] at he;subst he;exact HWB3.out
             obtain ⟨v6,w6,hr6,ho6,hg6⟩:=wait_app (w0:=w) (w1:=W3) (ty:=229) [(Value.slice fa fs.length fcp,fs)] he2 HRW3.out.kp.size #[.slice fa fs.length fcp] rfl (by intro v hv;simp at hv;subst hv;exact ⟨_,_,_,rfl⟩) hel;have hgw:Gr W3 (W3.alloc (.cells #[.slice fa fs.length fcp] 177)):=(Gr.refl W3).alloc _;have HRW6:=hide (HRW3.out.grow (all:=st1.all+(fs.length+1)) HNO.out HV.out hgw hg6 ho6 he1 he3 hwf);have HWE6:=hide (HWE3.out.mv (w':=w6) fun b hb hr=>(hg6.block b (Nat.lt_of_lt_of_le hb hgw.size) (fun e=>by
              have e1:=HNO.out b (he2.lt b e.symm).1;rw [e1] at hr;obtain ⟨i,hi⟩:=hr;rcases hi with hi|hi|hi<;>cases hi)).trans (hgw.block b hb (by simp)))
             have HR6:=hide hr6;have hwa:IntKind.i64.wrap ((st1.all:Int)+((fs.length:Int)+1))=((st1.all+(fs.length+1):Nat):Int):=by rw [Go.IntWalk.i64_in _ (by omega)];omega
             clear he1 he2 he3 hwf hr6 ho6 hg6 hgw hel HRW3 HWB3 HWE3 HB3 HB4;generalize hESL:es.length=ne at HR6 ⊢;clear hESL;go_wp2_with fail
             refine (words_any fs.length _ (by omega)).mono ?_;rintro e w5 ⟨rfl,hw5⟩;subst hw5;go_wp2_with (at_builtin;refine Lib.wpList_append_run _ rfl _ _ _ _ rfl _ _ rfl rfl _ _ HR6.out ?_)
             exact ⟨⟨k+1,_,_,rfl,by simp,by simp,hlt,HSC.out,HMS2.out.1,HMS2.out.2,HRW6.out,HWE6.out⟩,by simp [intOf];omega⟩
        · have hkk:k=r.length:=by omega
          subst hkk;have HSC:Hid (st1=scanP bs r st0):=hide (by rw [←HMS.out.1];simp [scanP]);have HL2:=hide HRWi.out.len;have HU2:=hide HRWi.out.un;clear hlt hk;go_wp2_with fail
          refine ⟨⟨st1,m,_,rfl,by simp,by rw [HSC.out];exact HRE2.out,by have:=HMS.out.2.1;have:=HM0.out;rw [HST0.out.1,HST0.out.2.1] at *;omega,HM0.out.2,HMS.out.2.2,HRWi.out⟩,?_⟩;have h1:=HL2.out;have h2:=HU2.out;have h3:=HU0.out;have h4:=HMS.out.2.1;have h5:=HN0.out;have h6:=HST0.out;rw [h6.1,h6.2.1,h5] at h4;rw [h1,h2,h3];show _ < ne0+1+_
          omega
end
end Go.Proofs.YtkgncijcnlfhiaaGreat
