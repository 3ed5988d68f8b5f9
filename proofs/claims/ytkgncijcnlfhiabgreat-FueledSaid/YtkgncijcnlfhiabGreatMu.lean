import Derived.Test.YtkgncijcnlfhiabGreatMs
import Derived.Test.YtkgncijcnlfhiabGreatRg5
import Derived.Test.YtkgncijcnlfhiabGreatZn
namespace Go.Proofs.YtkgncijcnlfhiabGreat
set_option linter.unusedVariables false
set_option linter.unusedSimpArgs false
open Go.RowKit
attribute [local go_sem ↓] Go.wp_at_zero Go.wp_at_succ
section
variable {C:MC} {w:World} {ρ:Nat->bD} {nm I0:Nat->Nat} {cs:Nat->Int} {ct:Int} {L:List ch} {bs:List (List PV)} {tk:Nat} {told:List Int}
def gx(heap k:Nat)(L:List ch)(bs:List (List PV))(tk:Nat):Nat:=if tk+(k+1) > heap then cq L bs else tk
set_option maxRecDepth 100000 in
set_option maxHeartbeats 2000000 in
theorem yx{vf vt:Value}(k:Nat)(hk:k<=1000)(Rp:tk<=10000000)(NS:C.heap<=10000000)(h:MW C w ρ nm I0 cs ct L bs tk told)(hm:ya C w ρ I0 L.length (tk:Int) ct told vf vt)(hL:0 < L.length)(WK:L.length<=1000)(Cs:0<=ct/\ct<=10000000)(R8:bs.length<=200000)(h8:∀r∈bs,r.length<=1000)(bL:∀x∈L,Bd bs.length x.slots/\Bd bs.length x.stack)(sL:∀x∈L,x.slots.length<=1000/\x.stack.length<=1000)(bB:∀r∈bs,Bd bs.length r):
 Calls Tryz.prog 94 #[.pointer (some ⟨C.mb,6,none⟩),.int .i64 (k:Int),vf] w fun e w'=>∃T7 Vf,ct<=Vf/\Vf<=ct+1/\e=.returned (.bool (decide (gx C.heap k L bs tk+(k+1)<=C.heap)))/\MW C w' ρ nm I0 T7 Vf L bs (gx C.heap k L bs tk) told/\am w w' ρ ρ:=by
 have N3:=hm.box;have KS0:Hid (∀w',Gr w w'->w'.cell? ⟨C.mb,7,none⟩=some (.int .i64 (tk:Int))/\w'.cell? ⟨C.mb,6,none⟩=some (.int .i64 (C.heap:Int))):=aH (fun w' g=>⟨g.cell (by rw [aJ N3];rfl) Q6,g.cell (by rw [aJ N3];rfl) Q6⟩);have D2:IntKind.i64.wrap ((tk:Int)+((k:Int)+1))=((tk+(k+1):Nat):Int):=by rw [Q_];omega
 have LL:Hid (∀w',Gr w w'->Calls Tryz.prog 128 #[.pointer (some ⟨C.mb,6,none⟩),vf] w' fun e w2=>∃T7,e=.returned (.int .i64 (cq L bs:Int))/\cq L bs<=1001 * bs.length/\MW C w2 ρ nm I0 T7 (ct+1) L bs tk told/\am w' w2 ρ ρ):=aH (fun w' gg=>sX (h.of_gr gg) (hm.mv (S:=fun _=>True) (fun b hb _=>⟨gg.block b hb Q6,rfl⟩) trivial trivial trivial) hL WK Cs R8 h8 bL sL bB);have HMW:=aH h;obtain ⟨va,vn,Sp,rfl⟩:∃a n c,vf=.slice a n c:=by obtain ⟨a,c,e⟩:=aL hm.fr;exact ⟨a,_,c,e⟩
 clear N3 h hm bL sL bB h8 Cs hL WK;obtain ⟨hp,hHP⟩:∃hp,C.heap=hp:=⟨_,rfl⟩;rw [hHP] at KS0 NS |-;by_cases hgt:tk+(k+1) > hp
 · have Fj:Hid (gx hp k L bs tk=cq L bs):=aH (by unfold gx;rw [if_pos hgt]);rw [Fj.out];clear Fj;have Cz:(hp:Int) < ((tk+(k+1):Nat):Int):=by omega
   generalize ((tk+(k+1):Nat):Int)=TK at Cz D2;generalize XD:C.mb=mb at KS0 LL |-;go_enter Tryz.func94,Tryz.ntmps94
   go_wp2_with fail
   refine wp_region_held_drew (S:=(fun w'=>w'.cell? ⟨mb,7,none⟩=some (.int .i64 (tk:Int))/\w'.cell? ⟨mb,6,none⟩=some (.int .i64 (hp:Int)))) Q7 (KS0.out _ (Gr.drew (Gr.refl _))) (fun hH=>?_);refine tL 0 ?_;simp only [Act.put,sA,s0,s1];refine tL 1 ?_;simp only [Act.put,sA,s0,s1];refine tL 2 ?_;simp only [Act.put,sA,s0,s1];refine tL 3 ?_;simp only [Act.put,sA,s0,s1];refine tL 4 ?_;simp only [Act.put,sA,s0,s1];refine tL 7 ?_;simp only [Act.put,sA,s0,s1];refine tL 8 ?_;simp only [Act.put,sA,s0,s1];refine tL 9 ?_;simp only [Act.put,sA,s0,s1];refine tL 10 ?_;simp only [Act.put,sA,s0,s1];refine aq (i:=5) rfl Q7 (fun K hK=>?_);refine aQ rfl 127 _ _ rfl #[.int .i64 (k:Int)] fk (Tryz.callWords _ _) ((gY k _ Q5).mono ?_);rintro e aw2 ⟨rfl,D3⟩;subst D3;refine .inl ⟨_,rfl,?_⟩;refine hK.out _ _ (KS0.out _ (Gr.drew (Gr.refl _))) (fun hH=>?_);clear hK;try simp only [Act.put,sA,s0,s1]
   refine tL 6 ?_;simp only [Act.put,sA,s0,s1];refine tL 11 ?_;simp only [Act.put,sA,s0,s1];refine wpAnyH_done Q7 ?_ _;clear hH;go_wp2_with fail
   refine (LL.out _ (Gr.drew (Gr.refl _))).mono ?_;rintro e w2 ⟨T7,rfl,Tq,hM,hK⟩;have HM2:=aH hM;have H_:=aH ((am.of_gr (Gr.drew (Gr.refl w))).trans hK);obtain ⟨vf2,vt2,O4⟩:=hM.mb;have E5:=O4.box;rw [XD,hHP] at E5;have c7:w2.cell? ⟨mb,7,none⟩=some (.int .i64 (tk:Int)):=by rw [aJ E5];rfl
   have z7:w2.frozen? ⟨mb,7,none⟩=false:=aS E5;have Hn:=(heap_setCell_same w2 mb 7 _ _ (.int .i64 (cq L bs:Int)) E5).trans (by simp:_=some (.cells #[C.v1,C.v2,C.v3,C.v4,C.v5,vf2,.int .i64 (hp:Int),.int .i64 (cq L bs:Int),.int .i64 (ct+1),vt2] 108 (0,0)));have h3:=hM.setMb (w':=w2.setCell ⟨mb,7,none⟩ (.int .i64 (cq L bs:Int))) (tk':=cq L bs) O4 (by rw [XD,hHP];exact Hn) (Int.le_refl _) rfl rfl rfl Q6 (fun b hb hne=>Below.heap_setCell _ _ _ _ (by show b≠mb;exact fun e=>hne (e.trans XD.symm)));have Qa:=aH (And.intro h3.1 (H_.out.trans h3.2));have Sw:Hid (∀w',Gr (w2.setCell ⟨mb,7,none⟩ (.int .i64 (cq L bs:Int))) w'->w'.cell? ⟨mb,7,none⟩=some (.int .i64 (cq L bs:Int))/\w'.cell? ⟨mb,6,none⟩=some (.int .i64 (hp:Int))):=aH (fun w' g=>⟨g.cell (by rw [aJ Hn];rfl) Q6,g.cell (by rw [aJ Hn];rfl) Q6⟩);clear hM hK O4 E5 h3 Hn HM2 H_ LL KS0 D2 Cz XD;go_upto_region 3 with fail
   generalize w2.setCell ⟨mb,7,none⟩ (.int .i64 (cq L bs:Int))=W3 at Qa Sw |-;have D3:IntKind.i64.wrap ((cq L bs:Int)+((k:Int)+1))=((cq L bs+(k+1):Nat):Int):=by rw [Q_];omega
   generalize hRN:cq L bs=RN at Qa Sw D3 Tq |-;have HD:Hid (decide (((RN+(k+1):Nat):Int)<=(hp:Int))=decide (RN+(k+1)<=hp)):=aH (by congr 1;exact propext Q5);generalize hTK2:((RN+(k+1):Nat):Int)=TK2 at D3 HD;clear hTK2 c7 z7;refine wp_region_held_drew (S:=(fun w'=>w'.cell? ⟨mb,7,none⟩=some (.int .i64 (RN:Int))/\w'.cell? ⟨mb,6,none⟩=some (.int .i64 (hp:Int)))) Q7 (Sw.out _ (Gr.drew (Gr.refl _))) (fun hH=>?_);refine tL 0 ?_;simp only [Act.put,sA,s0,s1];refine tL 1 ?_;simp only [Act.put,sA,s0,s1];refine tL 2 ?_;simp only [Act.put,sA,s0,s1];refine tL 3 ?_;simp only [Act.put,sA,s0,s1];refine tL 4 ?_;simp only [Act.put,sA,s0,s1];refine tL 7 ?_;simp only [Act.put,sA,s0,s1];refine tL 8 ?_;simp only [Act.put,sA,s0,s1];refine tL 9 ?_;simp only [Act.put,sA,s0,s1];refine tL 10 ?_;simp only [Act.put,sA,s0,s1];refine aq (i:=5) rfl Q7 (fun K hK=>?_);refine aQ rfl 127 _ _ rfl #[.int .i64 (k:Int)] fk (Tryz.callWords _ _) ((gY k _ Q5).mono ?_);rintro e cw2 ⟨rfl,D3⟩;subst D3;refine .inl ⟨_,rfl,?_⟩;refine hK.out _ _ (Sw.out _ (Gr.drew (Gr.refl _))) (fun hH=>?_);clear hK;try simp only [Act.put,sA,s0,s1]
   refine tL 6 ?_;simp only [Act.put,sA,s0,s1];refine tL 11 ?_;simp only [Act.put,sA,s0,s1];refine tL 12 ?_;simp only [Act.put,sA,s0,s1];refine wpAnyH_done Q7 ?_ _;clear hH;go_wp2_with fail
   go_ret
   exact ⟨T7,ct+1,Q5,Int.le_refl _,by rw [hRN,<-HD.out];rfl,by rw [hRN];exact Qa.out.1.of_gr (Gr.drew (Gr.refl _)),Qa.out.2.trans (am.of_gr (Gr.drew (Gr.refl _)))⟩
 · have Fj:Hid (gx hp k L bs tk=tk):=aH (by unfold gx;rw [if_neg hgt]);rw [Fj.out];clear Fj;have Cz:¬(hp:Int) < ((tk+(k+1):Nat):Int):=by omega
   have HD:Hid (decide (((tk+(k+1):Nat):Int)<=(hp:Int))=decide (tk+(k+1)<=hp)):=aH (by congr 1;exact propext Q5);generalize ((tk+(k+1):Nat):Int)=TK at Cz D2 HD;generalize XD:C.mb=mb at KS0 LL |-;clear XD;go_enter Tryz.func94,Tryz.ntmps94
   go_wp2_with fail
   refine wp_region_held_drew (S:=(fun w'=>w'.cell? ⟨mb,7,none⟩=some (.int .i64 (tk:Int))/\w'.cell? ⟨mb,6,none⟩=some (.int .i64 (hp:Int)))) Q7 (KS0.out _ (Gr.drew (Gr.refl _))) (fun hH=>?_);refine tL 0 ?_;simp only [Act.put,sA,s0,s1];refine tL 1 ?_;simp only [Act.put,sA,s0,s1];refine tL 2 ?_;simp only [Act.put,sA,s0,s1];refine tL 3 ?_;simp only [Act.put,sA,s0,s1];refine tL 4 ?_;simp only [Act.put,sA,s0,s1];refine tL 7 ?_;simp only [Act.put,sA,s0,s1];refine tL 8 ?_;simp only [Act.put,sA,s0,s1];refine tL 9 ?_;simp only [Act.put,sA,s0,s1];refine tL 10 ?_;simp only [Act.put,sA,s0,s1];refine aq (i:=5) rfl Q7 (fun K hK=>?_);refine aQ rfl 127 _ _ rfl #[.int .i64 (k:Int)] fk (Tryz.callWords _ _) ((gY k _ Q5).mono ?_);rintro e dw2 ⟨rfl,D3⟩;subst D3;refine .inl ⟨_,rfl,?_⟩;refine hK.out _ _ (KS0.out _ (Gr.drew (Gr.refl _))) (fun hH=>?_);clear hK;try simp only [Act.put,sA,s0,s1]
   refine tL 6 ?_;simp only [Act.put,sA,s0,s1];refine tL 11 ?_;simp only [Act.put,sA,s0,s1];refine wpAnyH_done Q7 ?_ _;clear hH;go_upto_region 3 with fail
   have Yc:=aH (Gr.drew (Gr.refl w));have Sw:Hid (∀w',Gr w.drew w'->w'.cell? ⟨mb,7,none⟩=some (.int .i64 (tk:Int))/\w'.cell? ⟨mb,6,none⟩=some (.int .i64 (hp:Int))):=aH (fun w' g=>KS0.out _ (Yc.out.trans g));clear KS0 LL Cz;generalize w.drew=W3 at Sw Yc |-;refine wp_region_held_drew (S:=(fun w'=>w'.cell? ⟨mb,7,none⟩=some (.int .i64 (tk:Int))/\w'.cell? ⟨mb,6,none⟩=some (.int .i64 (hp:Int)))) Q7 (Sw.out _ (Gr.drew (Gr.refl _))) (fun hH=>?_);refine tL 0 ?_;simp only [Act.put,sA,s0,s1];refine tL 1 ?_;simp only [Act.put,sA,s0,s1];refine tL 2 ?_;simp only [Act.put,sA,s0,s1];refine tL 3 ?_;simp only [Act.put,sA,s0,s1];refine tL 4 ?_;simp only [Act.put,sA,s0,s1];refine tL 7 ?_;simp only [Act.put,sA,s0,s1];refine tL 8 ?_;simp only [Act.put,sA,s0,s1];refine tL 9 ?_;simp only [Act.put,sA,s0,s1];refine tL 10 ?_;simp only [Act.put,sA,s0,s1];refine aq (i:=5) rfl Q7 (fun K hK=>?_);refine aQ rfl 127 _ _ rfl #[.int .i64 (k:Int)] fk (Tryz.callWords _ _) ((gY k _ Q5).mono ?_);rintro e ew2 ⟨rfl,D3⟩;subst D3;refine .inl ⟨_,rfl,?_⟩;refine hK.out _ _ (Sw.out _ (Gr.drew (Gr.refl _))) (fun hH=>?_);clear hK;try simp only [Act.put,sA,s0,s1]
   refine tL 6 ?_;simp only [Act.put,sA,s0,s1];refine tL 11 ?_;simp only [Act.put,sA,s0,s1];refine tL 12 ?_;simp only [Act.put,sA,s0,s1];refine wpAnyH_done Q7 ?_ _;clear hH;go_wp2_with fail
   go_ret
   exact ⟨cs,ct,Int.le_refl _,Q5,by rw [show decide (tk+(k+1)<=hp)=true by simp;omega];rfl,HMW.out.of_gr (Yc.out.trans (Gr.drew (Gr.refl _))),am.of_gr (Yc.out.trans (Gr.drew (Gr.refl _)))⟩
end
open Go.RowKit
section
variable {P:Program} {ops:Array Oper} {Q:Exit->Act->World->Prop} {md:Region.Mode} {S:World->Prop}
def gI(P:Program)(md:Region.Mode)(ops:Array Oper)(Q:Exit->Act->World->Prop)(S:World->Prop)(zs:List Nat):Nat->Array Bool->Act->World->Prop
 | 0,C0,a,w=>Region.ready md ops C0= []/\Q .normal a w
 | fuel+1,C0,a,w=>
  (Region.ready md ops C0= []->Q .normal a w)/\
  ∀i∈Region.ready md ops C0,wpOp P ops Q i (fun a' w'=>(zs.contains i=false->S w')/\gI P md ops Q S zs fuel (C0.setIfInBounds i true) a' w') a w
theorem nN{zs:List Nat}:∀(fuel:Nat) (C0:Array Bool) (a:Act) (w:World),gI P md ops Q S zs fuel C0 a w->wpAny P md ops Q fuel C0 a w
 | 0,_,_,_,h=>h
 | fuel+1,_,_,_,h=>⟨h.1,fun i hi=>wpOp_mono (fun a' w' h'=>nN fuel _ a' w' h'.2) (h.2 i hi)⟩
theorem pS{zs:List Nat}{i:Nat}{oi:Oper}{v:Value}(hi:ops[i]? =some oi)(hsel:∀(j:Nat) (o:Oper) cs b,ops[j]? =some o->o.op≠.select cs b)
 (hQ:∀c a w,Q (.panic c) (a.put oi.dst v) w->Q (.panic c) a w):
 ∀(fuel:Nat) (C0:Array Bool) (a:Act) (w:World),(∀z,zs.contains z=true->jX md ops C0 i z)->
  (∀j oj,ops[j]? =some oj->j≠i->C0.getD j true=false->(∀e∈oj.after,Region.binds md e=true->e.on≠i)->oi.apart ops oj=true)->
  i∈Region.ready md ops C0->YieldsIf P ops S oi v a->S w->
  gI P md ops Q S zs fuel (C0.setIfInBounds i true) (a.put oi.dst v) w->gI P md ops Q S zs (fuel+1) C0 a w:=by
 intro fuel
 induction fuel with
 | zero=>
  intro C0 a w hw _ hr hy hS H;refine ⟨fun h=>(by rw [h] at hr;cases hr),fun j hj=>?_⟩;by_cases T8:j=i
  · subst T8;exact hy.wpOp hi hS ⟨fun _=>hS,H⟩
  · have:=ready_mono hj T8
    rw [H.1] at this;cases this
 | succ fuel ih=>
  intro C0 a w hw Ia hr hy hS H;refine ⟨fun h=>(by rw [h] at hr;cases hr),fun j hj=>?_⟩;by_cases T8:j=i
  · subst T8;exact hy.wpOp hi hS ⟨fun _=>hS,H⟩
  · have h1:=H.2 j (ready_mono hj T8);obtain ⟨Lg,oj,Pk,C2⟩:=mem_ready.1 hj;have I8:∀e∈oj.after,Region.binds md e=true->e.on≠i:=fun e he hb heq=>by
     have h1:=C2 e he hb;have h0:=(mem_ready.1 hr).1;rw [heq] at h1;rcases Nat.lt_or_ge i C0.size with h'|h'
     · simp [h'] at h0 h1;rw [h0] at h1;cases h1
     · simp [Array.getElem?_eq_none h'] at h1
    have OG:zs.contains j=false:=by
     cases e:zs.contains j with
     | false=>rfl
     | true=>exact absurd hj (hw j e).not_ready
    have h2:=wpOp_putIf Pk (Ia j oj Pk T8 Lg I8) (fun cs b=>hsel i oi cs b hi) (fun cs b=>hsel j oj cs b Pk) hQ hy h1;have Xb:∀k ok,ops[k]? =some ok->k≠i->(C0.setIfInBounds j true).getD k true=false->
     (∀e∈ok.after,Region.binds md e=true->e.on≠i)->oi.apart ops ok=true:=fun k ok hk Hf Jo Rj=>by
     refine Ia k ok hk Hf ?_ Rj;by_cases Wq:j=k
     · subst Wq;exact Lg
     · rw [getD_set_ne true Wq] at Jo;exact Jo
    refine wpOp_mono (fun a' w' h3=>⟨h3.2.1,ih (C0.setIfInBounds j true) a' w' (fun z hz=>(hw z hz).list hj T8) Xb (ready_mono hr (Ne.symm T8)) h3.1 (h3.2.1 OG) ?_⟩) h2;rw [Array.setIfInBounds_comm _ _ T8];exact h3.2.2
end
section
variable {P:Program} {l:List Oper} {md:Region.Mode} {Q:Exit->Act->World->Prop} {S:World->Prop}
theorem A7{zs:List Nat}{i:Nat}{oi:Oper}{v:Value}{fuel:Nat}{C0:Array Bool}{a:Act}{w:World}(hi:l[i]? =some oi)(Ko:(zs.all fun z=>kK md l C0 i 20 z)=true)
 (hs:Region.noSelect l.toArray=true) (hf:Region.free md l.toArray C0 i=true) (hr:(Region.ready md l.toArray C0).contains i=true)
 (hQ:∀c a w,Q (.panic c) (a.put oi.dst v) w->Q (.panic c) a w) (hw:Region.wanted oi (yielded l.toArray a.tmps)=true) (hy:∀w,S w->(execOp a.eval oi).run P w=.ok (.value v) w) (hS:S w)
 (h:gI P md l.toArray Q S zs fuel (C0.setIfInBounds i true) (a.put oi.dst v) w):gI P md l.toArray Q S zs (fuel+1) C0 a w:=
 pS (by simpa using hi) (Region.noSelect_spec hs) hQ fuel C0 a w (fun z hz=>jZ (List.all_eq_true.1 Ko z (by simpa using hz))) (Region.free_spec (by simpa using hi) hf) (by simpa using hr) (.inl ⟨hw,hy⟩) hS h
theorem tS{P:Program}{l:List Oper}{md:Region.Mode}{Q:Exit->Act->World->Prop}{S:World->Prop}{zs:List Nat}(i:Nat){oi:Oper}{v:Value}{fuel:Nat}{C0:Array Bool}{a:Act}{w:World}(h:gI P md l.toArray Q S zs fuel (C0.setIfInBounds i true) (a.put oi.dst v) w)(hi:l[i]? =some oi:=by rfl)(hy:∀w,S w->(execOp a.eval oi).run P w=.ok (.value v) w:=by intro w hS;go_simp<;>rfl)(hS:S w:=by assumption)(Ko:(zs.all fun z=>kK md l C0 i 20 z)=true:=by kernel_rfl)(hs:Region.noSelect l.toArray=true:=by kernel_rfl)(hf:Region.free md l.toArray C0 i=true:=by kernel_rfl)(hr:(Region.ready md l.toArray C0).contains i=true:=by kernel_rfl)(hQ:∀c a w,Q (.panic c) (a.put oi.dst v) w->Q (.panic c) a w:=by intro c a w h;exact h)(hw:Region.wanted oi (yielded l.toArray a.tmps)=true:=by rfl):gI P md l.toArray Q S zs (fuel+1) C0 a w:=A7 hi Ko hs hf hr hQ hw hy hS h
theorem lV{zs:List Nat}{i:Nat}{o:Oper}{fuel:Nat}{C0:Array Bool}{a:Act}{w:World}(ho:l[i]? =some o)(hr:Region.ready md l.toArray C0= [i])
 (h:∀K':Act->World->Prop,Shut (∀a w,(zs.contains i=false->S w)->gI P md l.toArray Q S zs fuel (C0.setIfInBounds i true) a w->K' a w)->if Region.wanted o (yielded l.toArray a.tmps)=true then Oper.wp P o a w K' Q else K' (a.put o.dst undef) w):gI P md l.toArray Q S zs (fuel+1) C0 a w:=by
 refine ⟨fun h0=>absurd (hr▸h0) Q6,hr▸fun j hj=>?_⟩;obtain rfl:j=i:=by simpa using hj
 exact wpOp_step (by simpa using ho) (fun K' hK=>h K' (fun a w hS hW=>hK a w ⟨hS,hW⟩))
theorem yH{zs:List Nat}{C0:Array Bool}{a:Act}{w:World}(hr:Region.ready md l.toArray C0= [])(h:Q .normal a w):∀fuel,gI P md l.toArray Q S zs fuel C0 a w
 | 0=>⟨hr,h⟩
 | _+1=>⟨fun _=>h,by rw [hr];simp⟩
theorem jB(zs:List Nat){id:Nat}{a:Act}{w:World}(hm:P.follows .mixedOrders=true)(hS:S w.drew)
 (h:S w.drew->gI P .any l.toArray Q S zs l.toArray.size (Array.replicate l.toArray.size false) a w.drew):(Code.region id l.toArray true).wp P Q a w:=
 wp_region_any hm (nN _ _ _ _ (h hS))
end
open Go.RowKit
def eD(u:aK)(heap:Nat):Nat->Nat->PM->i9
 | 0,s,m=>⟨7,0,0,0,0,m.told,(s:Int)⟩
 | n+1,s,m=>match bh u heap m with
  | .go m'=>eD u heap n (s+1) m'
  | .stop why res m'=>⟨why,0,0,0,res,m'.told,((s+1:Nat):Int)⟩
theorem vO(u:aK)(heap s:Nat)(m:PM):eD u heap 0 s m=⟨7,0,0,0,0,m.told,(s:Int)⟩:=rfl
theorem iI{u:aK}{heap n s:Nat}{m m':PM}(h:bh u heap m=.go m'):eD u heap (n+1) s m=eD u heap n (s+1) m':=by
 rw [eD,h]
theorem dI{u:aK}{heap n s:Nat}{m m':PM}{why res:Int}(h:bh u heap m=.stop why res m'):eD u heap (n+1) s m=⟨why,0,0,0,res,m'.told,((s+1:Nat):Int)⟩:=by
 rw [eD,h]
section
variable {C:MC} {w w':World} {ρ:Nat->bD} {nm I0:Nat->Nat} {cs:Nat->Int} {ct:Int} {L:List ch} {bs:List (List PV)} {tk:Nat} {told:List Int}
variable {u:aK} {Ts:Nat->Nat->Option (List Int)} {σ:List Int} {x:ch} {f:aO} {i:aw} {base ts ps:List Int} {a b:List PV}
theorem mE.len(hh:mE u Ts σ x f i base ts ps a b):x.stack.length<=20:=by
 have h1:=hh.short;have h2:=hh.below.1;have h3:=hh.upon.1;rw [hh.stack,List.length_append,<-h2,<-h3,<-List.length_append];exact h1
theorem iJ{a:Int}(h:0<=a):a=(a.toNat:Int):=Q5
theorem AS(heap:Nat)(hh:mE u Ts σ x f i base ts ps a b)(hk:(1<=i.op/\i.op<=10)\/i.op=18\/i.op=19)(h:MW C w ρ nm I0 cs ct (x :: L) bs tk told):∃sl st,(∀(low:List ch) (blks:List (List PV)) (taken:Nat) (told:List Int),eB u heap ⟨x,low,blks,taken,told⟩ i=.go ⟨⟨x.fn,x.pos+1,sl,st⟩,low,blks,taken,told⟩)/\Calls Tryz.prog 98 #[.pointer (some ⟨I0 L.length,0,none⟩),.agg #[.int .i64 i.op,.int .i64 i.a,.int .i64 i.b]] w (yu C w ρ nm I0 cs ct (⟨x.fn,x.pos,sl,st⟩ :: L) bs tk told):=by
 have hn:x.stack.length<=1000:=by have:=hh.len;omega
 have hS:=hh.stack;have hU:=hh.upon;have hL:=hh.slots;cases hh.ins with
 | small e=>
  refine ⟨x.slots,x.stack++ [⟨i.a,none⟩],fun low blks taken told=>?_,?_⟩
  · unfold eB;simp only [e];rfl
  · rw [e];exact xM i.a i.b h hn
 | load k e h0 Of=>
  obtain ⟨v,hv,_⟩:=hL.get Of;refine ⟨x.slots,x.stack++ [v],fun low blks taken told=>?_,?_⟩
  · unfold eB;simp only [e];have:x.slots.getD i.a.toNat oQ=v:=by rw [List.getD_eq_getElem?_getD,hv];rfl
    rw [this];rfl
  · rw [e,iJ h0];exact ym i.a.toNat hv i.b h hn
 | store k e h0 Of=>
  obtain ⟨v,rfl,hv⟩:=hU.of_one;have hl:=(List.getElem?_eq_some_iff.1 Of).1;refine ⟨x.slots.set i.a.toNat v,a,fun low blks taken told=>?_,?_⟩
  · unfold eB;simp only [e,hS,bY,cS];rfl
  · have:=yW (C:=C) hS i.a.toNat (hL.1▸hl) i.b h hn
    rw [<-iJ h0] at this;rw [e];exact this
 | pop k e=>
  obtain ⟨v,rfl,hv⟩:=hU.of_one;refine ⟨x.slots,a,fun low blks taken told=>?_,?_⟩
  · unfold eB;simp only [e,hS,bY,cS];rfl
  · rw [e];exact Am hS i.a i.b h hn
 | dup k e=>
  obtain ⟨v,rfl,hv⟩:=hU.of_one;refine ⟨x.slots,x.stack++ [v],fun low blks taken told=>?_,?_⟩
  · unfold eB;simp only [e];have:x.stack.getD (x.stack.length - 1) oQ=v:=by rw [hS,bY]
    rw [this];rfl
  · rw [e];exact AG hS i.a i.b h hn
 | reck e1 e2=>
  obtain ⟨v,v',rfl,hv,QR⟩:=hU.of_two;have n0:¬i.op=0:=Q5
  have n1:¬i.op=1:=Q5
  have n2:¬i.op=2:=Q5
  have n3:¬i.op=3:=Q5
  have n4:¬i.op=4:=Q5
  have n5:¬i.op=5:=Q5
  have n6:¬i.op=11:=Q5
  have n7:¬i.op=12:=Q5
  have n8:¬i.op=13:=Q5
  have n9:¬i.op=14:=Q5
  have n10:¬i.op=15:=Q5
  have RR:¬i.op=16:=Q5
  have SR:¬i.op=17:=Q5
  have TR:¬i.op=18:=Q5
  have VR:¬i.op=19:=Q5
  have WR:¬i.op=20:=Q5
  refine ⟨x.slots,a++ [⟨iF i.op v.num v'.num,none⟩],fun low blks taken told=>?_,?_⟩
  · unfold eB;simp only [n0,n1,n2,n3,n4,n5,n6,n7,n8,n9,n10,RR,SR,TR,VR,WR,if_false,hS,gj,fq,iE];rfl
  · exact zL hS i.op i.a i.b ⟨e1,e2⟩ h hn
 | nil e h1=>
  refine ⟨x.slots,x.stack++ [oQ],fun low blks taken told=>?_,?_⟩
  · unfold eB;simp only [e];rfl
  · rw [e];exact AY i.a i.b h hn
 | isnil e h1=>
  obtain ⟨v,rfl,hv⟩:=hU.of_one;refine ⟨x.slots,a++ [⟨eg v.blk.isNone,none⟩],fun low blks taken told=>?_,?_⟩
  · unfold eB;simp only [e,hS,bY,cS];rfl
  · rw [e];exact xA hS i.a i.b h hn
 | const e=>omega
 | jump e=>omega
 | zero e=>omega
 | call g e=>omega
 | ret e=>omega
 | new e=>omega
 | get s k e=>omega
 | set s k e=>omega
 | out e=>omega
theorem qv(heap:Nat)(hh:mE u Ts σ x f i base ts ps a b)(hk:i.op=16\/i.op=17)(h:MW C w ρ nm I0 cs ct (x :: L) bs tk told)(hl:σ.length=bs.length)(hB:∀(j:Nat) (k:Int) (fs:List PV),σ[j]? =some k->bs[j]? =some fs->∃s,1<=k/\u.aA[(k - 1).toNat]? =some s/\fJ σ s fs):∃r st Y_,(∀(low:List ch) (taken:Nat) (told:List Int),eB u heap ⟨x,low,bs,taken,told⟩ i=if r=true then .go ⟨⟨x.fn,x.pos+1,x.slots,st⟩,low,Y_,taken,told⟩ else .stop 10 0 ⟨x,low,bs,taken,told⟩)/\Calls Tryz.prog 96 #[.pointer (some ⟨I0 L.length,0,none⟩),.agg #[.int .i64 i.op,.int .i64 i.a,.int .i64 i.b]] w (BS C w ρ nm I0 cs ct (x.st st :: L) Y_ tk told r):=by
 have hn:x.stack.length<=1000:=by have:=hh.len;omega
 have hS:=hh.stack;have hU:=hh.upon;cases hh.ins with
 | get s k e h1 h0 hs Of=>
  obtain ⟨v,rfl,hv⟩:=hU.of_one;cases hb:v.blk with
  | none=>
   refine ⟨false,a,bs,fun low taken told=>?_,?_⟩
   · unfold eB;simp only [e,hS,bY,cS];rw [hb];rfl
   · rw [e];exact od i.b hS hb i.a h hn
  | some j=>
   obtain ⟨q1,q2⟩:=hv j hb;have D':j < bs.length:=by rw [<-hl];exact (List.getElem?_eq_some_iff.1 q2).1
   have hj:=List.getElem?_eq_getElem D';obtain ⟨s2,p1,p2,p3⟩:=hB j _ _ q2 hj;rw [hs] at p2;cases p2;obtain ⟨fv,hfv,_⟩:=p3.get Of;refine ⟨true,a++ [fv],bs,fun low taken told=>?_,?_⟩
   · unfold eB;simp only [e,hS,bY,cS];rw [hb];have e1:bs.getD j []=bs[j]:=by rw [List.getD_eq_getElem?_getD,hj];rfl
     have e2:(bs[j]).getD i.b.toNat oQ=fv:=by rw [List.getD_eq_getElem?_getD,hfv];rfl
     simp only [e1,e2];rfl
   · have:=wQ (C:=C) hS hb hj hfv i.a h hn
     rw [<-iJ h0] at this;rw [e];exact this
 | set s k e h1 h0 hs Of=>
  obtain ⟨v,v',rfl,hv,QR⟩:=hU.of_two;cases hb:v.blk with
  | none=>
   refine ⟨false,a,bs,fun low taken told=>?_,?_⟩
   · unfold eB;simp only [e,hS,gj,fq,iE];rw [hb];rfl
   · rw [e];exact pF i.b hS hb i.a h hn
  | some j=>
   obtain ⟨q1,q2⟩:=hv j hb;have D':j < bs.length:=by rw [<-hl];exact (List.getElem?_eq_some_iff.1 q2).1
   have hj:=List.getElem?_eq_getElem D';obtain ⟨s2,p1,p2,p3⟩:=hB j _ _ q2 hj;rw [hs] at p2;cases p2;refine ⟨true,a,bs.set j ((bs[j]).set i.b.toNat v'),fun low taken told=>?_,?_⟩
   · unfold eB;simp only [e,hS,gj,fq,iE];rw [hb];have e1:bs.getD j []=bs[j]:=by rw [List.getD_eq_getElem?_getD,hj];rfl
     simp only [e1];rfl
   · have:=yQ (C:=C) (b:=i.b.toNat) hS hb hj (by have:=(List.getElem?_eq_some_iff.1 Of).1;rw [<-p3.1];exact this) i.a h hn
     rw [<-iJ h0] at this;rw [e];exact this
 | reck e1 e2=>omega
 | _=>omega
end
def eF(w:World)(ob:Nat)(why res st:Int):Prop:=w.heap[ob]? =some (.cells #[.int .i64 why,.int .i64 0,.int .i64 0,.int .i64 0,.int .i64 res,.slice none 0 0,.int .i64 st] 35 (0,0))
structure UW(C:MC):Prop where
 ok:rZ C.u
 imp:C.u.aB= []
 sh:bM C.V C.v1 C.u.aA
 co:aW C.V C.v2 C.u.aD
 fu:dH C.V C.v3 C.u.aE
structure Bj(C:MC)(Ts:Nat->Nat->Option (List Int))(w0:World)(ρ0:Nat->bD)(ob rb fuel:Nat)(FIN:i9)(wr:World)(m:PM)(s:Nat)(ρ:Nat->bD)(nm I0:Nat->Nat)(cs:Nat->Int)(ct:Int)(σ:List Int):Prop where
 out:eF wr ob 7 0 (s:Int)
 res:wr.heap[rb]? =w0.heap[rb]?
 rlt:rb < w0.heap.size
 rro:ρ0 rb=.no
 olt:w0.heap.size<=ob
 oro:ρ ob=.no
 le:s<=fuel
 run:eD C.u C.heap (fuel - s) s m=FIN
 ok:oD C.u Ts σ m
 ct0:0<=ct
 cts:ct<=(s:Int)
 bls:m.blks.length<=s
 tak:m.taken<=C.heap
 mw:MW C wr ρ nm I0 cs ct (m.top :: m.low) m.blks m.taken m.told
 kp:am w0 wr ρ0 ρ
def kY(C:MC)(Ts:Nat->Nat->Option (List Int))(w0:World)(ρ0:Nat->bD)(ob rb fuel:Nat)(FIN:i9)(wr:World)(vf:Value):Prop:=∃m s ρ nm I0 cs ct σ,vf=.pointer (some ⟨I0 m.low.length,0,none⟩)/\Bj C Ts w0 ρ0 ob rb fuel FIN wr m s ρ nm I0 cs ct σ
theorem kY.go{C:MC}{Ts:Nat->Nat->Option (List Int)}{w0:World}{ρ0:Nat->bD}{ob rb fuel:Nat}{FIN:i9}{wr w':World}{m m':PM}{s:Nat}{ρ ρ':Nat->bD}{nm I0 Pa C9:Nat->Nat}{cs T7:Nat->Int}{ct Vf:Int}{σ:List Int}
 (h:Bj C Ts w0 ρ0 ob rb fuel FIN wr m s ρ nm I0 cs ct σ) (hu:UW C) (hT:∀n f,C.u.aE[n]? =some f->tf C.u f (Ts n)) (hs:s < fuel) (hp:bh C.u C.heap m=.go m') (hm:MW C w' ρ' Pa C9 T7 Vf (m'.top :: m'.low) m'.blks m'.taken m'.told) (hk:am w0 w' ρ0 ρ') (ho:eF w' ob 7 0 ((s:Int)+1)) (PD:ρ' ob=.no) (h0:0<=Vf) (h1:Vf<=ct+1) (ht:m'.taken<=C.heap):kY C Ts w0 ρ0 ob rb fuel FIN w' (.pointer (some ⟨C9 m'.low.length,0,none⟩)):=by
 have N2:=ku C.heap hu.ok hu.imp hT h.ok;rw [hp] at N2;obtain ⟨σ',N2,Y9⟩:=N2;refine ⟨m',s+1,ρ',Pa,C9,T7,Vf,σ',rfl,⟨ho,hk.keep rb h.rlt h.rro,h.rlt,h.rro,h.olt,PD,hs,?_,N2,h0,by have:=h.cts;omega,by have:=h.bls;omega,ht,hm,hk⟩⟩;rw [<-h.run,show fuel - s=(fuel - (s+1))+1 by omega,iI hp]
def nX(C:MC)(w0:World)(ρ0:Nat->bD)(FIN:i9)(w':World):Prop:=∃ρ' Pa C9 T7 Vf L' Y_ tk',MW C w' ρ' Pa C9 T7 Vf L' Y_ tk' FIN.told/\am w0 w' ρ0 ρ'
end Go.Proofs.YtkgncijcnlfhiabGreat
