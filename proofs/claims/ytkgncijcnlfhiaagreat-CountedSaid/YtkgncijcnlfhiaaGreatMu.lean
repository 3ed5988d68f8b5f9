import Derived.Test.YtkgncijcnlfhiaaGreatMs
import Derived.Test.YtkgncijcnlfhiaaGreatRg5
import Derived.Test.YtkgncijcnlfhiaaGreatZn
namespace Go.Proofs.YtkgncijcnlfhiaaGreat
set_option linter.unusedVariables false
set_option linter.unusedSimpArgs false
open Go.RowKit
attribute [local go_sem ↓] Go.wp_at_zero Go.wp_at_succ
section
variable {C:MC} {w:World} {ρ:Nat→bC} {nm fbn:Nat→Nat} {cs:Nat→Int} {ct:Int} {L:List dA} {bs:List (List PV)} {tk:Nat} {told:List Int}
def dD(heap k:Nat)(L:List dA)(bs:List (List PV))(tk:Nat):Nat:=if tk+(k+1) > heap then ch L bs else tk
set_option maxRecDepth 100000 in
set_option maxHeartbeats 2000000 in
theorem xO{vf vt:Value}(k:Nat)(hk:k≤1000)(htk:tk≤10000000)(hhp:C.heap≤10000000)(h:MW C w ρ nm fbn cs ct L bs tk told)(hm:wu C w ρ fbn L.length (tk:Int) ct told vf vt)(hL:0 < L.length)(hLB:L.length≤1000)(hct:0≤ct∧ct≤10000000)(hbb:bs.length≤200000)(h8:∀r∈bs,r.length≤1000)(bL:∀x∈L,Bd bs.length x.slots∧Bd bs.length x.stack)(sL:∀x∈L,x.slots.length≤1000∧x.stack.length≤1000)(bB:∀r∈bs,Bd bs.length r):
 Calls Tryz.prog 104 #[.pointer (some ⟨C.mb,6,none⟩),.int .i64 (k:Int),vf] w fun e w'=>∃cs' ct',ct≤ct'∧ct'≤ct+1∧e=.returned (.bool (decide (dD C.heap k L bs tk+(k+1)≤C.heap)))∧MW C w' ρ nm fbn cs' ct' L bs (dD C.heap k L bs tk) told∧an w w' ρ ρ:=by
 have hbox:=hm.box;have KS0:Hid (∀w',Gr w w'→w'.cell? ⟨C.mb,7,none⟩=some (.int .i64 (tk:Int))∧w'.cell? ⟨C.mb,6,none⟩=some (.int .i64 (C.heap:Int))):=aH (fun w' g=>⟨g.cell (by rw [aI hbox];rfl) (by simp),g.cell (by rw [aI hbox];rfl) (by simp)⟩);have hw1:IntKind.i64.wrap ((tk:Int)+((k:Int)+1))=((tk+(k+1):Nat):Int):=by rw [Go.IntWalk.i64_in _ (by omega)];omega
 have HRD:Hid (∀w',Gr w w'→Calls Tryz.prog 136 #[.pointer (some ⟨C.mb,6,none⟩),vf] w' fun e w2=>∃cs',e=.returned (.int .i64 (ch L bs:Int))∧ch L bs≤1001 * bs.length∧MW C w2 ρ nm fbn cs' (ct+1) L bs tk told∧an w' w2 ρ ρ):=aH (fun w' gg=>qU (h.of_gr gg) (hm.mv (S:=fun _=>True) (fun b hb _=>⟨gg.block b hb (by simp),rfl⟩) trivial trivial trivial) hL hLB hct hbb h8 bL sL bB);have HMW:=aH h;obtain ⟨va,vn,vcp,rfl⟩:∃a n c,vf=.slice a n c:=by obtain ⟨a,c,e⟩:=aL hm.fr;exact ⟨a,_,c,e⟩
 clear hbox h hm bL sL bB h8 hct hL hLB;obtain ⟨hp,hHP⟩:∃hp,C.heap=hp:=⟨_,rfl⟩;rw [hHP] at KS0 hhp ⊢;by_cases hgt:tk+(k+1) > hp
 · have HRM:Hid (dD hp k L bs tk=ch L bs):=aH (by unfold dD;rw [if_pos hgt]);rw [HRM.out];clear HRM;have hgi:(hp:Int) < ((tk+(k+1):Nat):Int):=by omega
   generalize ((tk+(k+1):Nat):Int)=TK at hgi hw1;generalize hMB:C.mb=mb at KS0 HRD ⊢;go_enter Tryz.func104,Tryz.ntmps104
   go_wp2_with fail
   refine wp_region_held_drew (S:=(fun w'=>w'.cell? ⟨mb,7,none⟩=some (.int .i64 (tk:Int))∧w'.cell? ⟨mb,6,none⟩=some (.int .i64 (hp:Int)))) (by kernel_rfl) (KS0.out _ (Gr.drew (Gr.refl _))) (fun hH=>?_);refine tL 0 ?_;simp only [Act.put,sA,s0,s1];refine tL 1 ?_;simp only [Act.put,sA,s0,s1];refine tL 2 ?_;simp only [Act.put,sA,s0,s1];refine tL 3 ?_;simp only [Act.put,sA,s0,s1];refine tL 4 ?_;simp only [Act.put,sA,s0,s1];refine tL 7 ?_;simp only [Act.put,sA,s0,s1];refine tL 8 ?_;simp only [Act.put,sA,s0,s1];refine tL 9 ?_;simp only [Act.put,sA,s0,s1];refine tL 10 ?_;simp only [Act.put,sA,s0,s1];refine au (i:=5) rfl (by kernel_rfl) (fun K hK=>?_);refine aS rfl 135 _ _ rfl #[.int .i64 (k:Int)] (by simp [Act.eval]) (Tryz.callWords _ _) ((fi k _ (by omega)).mono ?_);rintro e aw2 ⟨rfl,hw2⟩;subst hw2;refine .inl ⟨_,rfl,?_⟩;refine hK.out _ _ (KS0.out _ (Gr.drew (Gr.refl _))) (fun hH=>?_);clear hK;try simp only [Act.put,sA,s0,s1]
   refine tL 6 ?_;simp only [Act.put,sA,s0,s1];refine tL 11 ?_;simp only [Act.put,sA,s0,s1];refine wpAnyH_done (by kernel_rfl) ?_ _;clear hH;go_wp2_with fail
   refine (HRD.out _ (Gr.drew (Gr.refl _))).mono ?_;rintro e w2 ⟨cs',rfl,hrl,hM,hK⟩;have HM2:=aH hM;have HK2:=aH ((an.of_gr (Gr.drew (Gr.refl w))).trans hK);obtain ⟨vf2,vt2,hm2⟩:=hM.mb;have hb2:=hm2.box;rw [hMB,hHP] at hb2;have c7:w2.cell? ⟨mb,7,none⟩=some (.int .i64 (tk:Int)):=by rw [aI hb2];rfl
   have z7:w2.frozen? ⟨mb,7,none⟩=false:=aR hb2;have hB':=(heap_setCell_same w2 mb 7 _ _ (.int .i64 (ch L bs:Int)) hb2).trans (by simp:_=some (.cells #[C.v1,C.v2,C.v3,C.v4,C.v5,vf2,.int .i64 (hp:Int),.int .i64 (ch L bs:Int),.int .i64 (ct+1),vt2] 121 (0,0)));have h3:=hM.setMb (w':=w2.setCell ⟨mb,7,none⟩ (.int .i64 (ch L bs:Int))) (tk':=ch L bs) hm2 (by rw [hMB,hHP];exact hB') (Int.le_refl _) rfl rfl rfl (by simp) (fun b hb hne=>Below.heap_setCell _ _ _ _ (by show b≠mb;exact fun e=>hne (e.trans hMB.symm)));have HM3:=aH (And.intro h3.1 (HK2.out.trans h3.2));have KS3:Hid (∀w',Gr (w2.setCell ⟨mb,7,none⟩ (.int .i64 (ch L bs:Int))) w'→w'.cell? ⟨mb,7,none⟩=some (.int .i64 (ch L bs:Int))∧w'.cell? ⟨mb,6,none⟩=some (.int .i64 (hp:Int))):=aH (fun w' g=>⟨g.cell (by rw [aI hB'];rfl) (by simp),g.cell (by rw [aI hB'];rfl) (by simp)⟩);clear hM hK hm2 hb2 h3 hB' HM2 HK2 HRD KS0 hw1 hgi hMB;go_upto_region 3 with fail
   generalize w2.setCell ⟨mb,7,none⟩ (.int .i64 (ch L bs:Int))=W3 at HM3 KS3 ⊢;have hw2:IntKind.i64.wrap ((ch L bs:Int)+((k:Int)+1))=((ch L bs+(k+1):Nat):Int):=by rw [Go.IntWalk.i64_in _ (by omega)];omega
   generalize hRN:ch L bs=RN at HM3 KS3 hw2 hrl ⊢;have HD:Hid (decide (((RN+(k+1):Nat):Int)≤(hp:Int))=decide (RN+(k+1)≤hp)):=aH (by congr 1;exact propext (by omega));generalize hTK2:((RN+(k+1):Nat):Int)=TK2 at hw2 HD;clear hTK2 c7 z7;refine wp_region_held_drew (S:=(fun w'=>w'.cell? ⟨mb,7,none⟩=some (.int .i64 (RN:Int))∧w'.cell? ⟨mb,6,none⟩=some (.int .i64 (hp:Int)))) (by kernel_rfl) (KS3.out _ (Gr.drew (Gr.refl _))) (fun hH=>?_);refine tL 0 ?_;simp only [Act.put,sA,s0,s1];refine tL 1 ?_;simp only [Act.put,sA,s0,s1];refine tL 2 ?_;simp only [Act.put,sA,s0,s1];refine tL 3 ?_;simp only [Act.put,sA,s0,s1];refine tL 4 ?_;simp only [Act.put,sA,s0,s1];refine tL 7 ?_;simp only [Act.put,sA,s0,s1];refine tL 8 ?_;simp only [Act.put,sA,s0,s1];refine tL 9 ?_;simp only [Act.put,sA,s0,s1];refine tL 10 ?_;simp only [Act.put,sA,s0,s1];refine au (i:=5) rfl (by kernel_rfl) (fun K hK=>?_);refine aS rfl 135 _ _ rfl #[.int .i64 (k:Int)] (by simp [Act.eval]) (Tryz.callWords _ _) ((fi k _ (by omega)).mono ?_);rintro e cw2 ⟨rfl,hw2⟩;subst hw2;refine .inl ⟨_,rfl,?_⟩;refine hK.out _ _ (KS3.out _ (Gr.drew (Gr.refl _))) (fun hH=>?_);clear hK;try simp only [Act.put,sA,s0,s1]
   refine tL 6 ?_;simp only [Act.put,sA,s0,s1];refine tL 11 ?_;simp only [Act.put,sA,s0,s1];refine tL 12 ?_;simp only [Act.put,sA,s0,s1];refine wpAnyH_done (by kernel_rfl) ?_ _;clear hH;go_wp2_with fail
   go_ret
   exact ⟨cs',ct+1,by omega,Int.le_refl _,by rw [hRN,←HD.out];rfl,by rw [hRN];exact HM3.out.1.of_gr (Gr.drew (Gr.refl _)),HM3.out.2.trans (an.of_gr (Gr.drew (Gr.refl _)))⟩
 · have HRM:Hid (dD hp k L bs tk=tk):=aH (by unfold dD;rw [if_neg hgt]);rw [HRM.out];clear HRM;have hgi:¬(hp:Int) < ((tk+(k+1):Nat):Int):=by omega
   have HD:Hid (decide (((tk+(k+1):Nat):Int)≤(hp:Int))=decide (tk+(k+1)≤hp)):=aH (by congr 1;exact propext (by omega));generalize ((tk+(k+1):Nat):Int)=TK at hgi hw1 HD;generalize hMB:C.mb=mb at KS0 HRD ⊢;clear hMB;go_enter Tryz.func104,Tryz.ntmps104
   go_wp2_with fail
   refine wp_region_held_drew (S:=(fun w'=>w'.cell? ⟨mb,7,none⟩=some (.int .i64 (tk:Int))∧w'.cell? ⟨mb,6,none⟩=some (.int .i64 (hp:Int)))) (by kernel_rfl) (KS0.out _ (Gr.drew (Gr.refl _))) (fun hH=>?_);refine tL 0 ?_;simp only [Act.put,sA,s0,s1];refine tL 1 ?_;simp only [Act.put,sA,s0,s1];refine tL 2 ?_;simp only [Act.put,sA,s0,s1];refine tL 3 ?_;simp only [Act.put,sA,s0,s1];refine tL 4 ?_;simp only [Act.put,sA,s0,s1];refine tL 7 ?_;simp only [Act.put,sA,s0,s1];refine tL 8 ?_;simp only [Act.put,sA,s0,s1];refine tL 9 ?_;simp only [Act.put,sA,s0,s1];refine tL 10 ?_;simp only [Act.put,sA,s0,s1];refine au (i:=5) rfl (by kernel_rfl) (fun K hK=>?_);refine aS rfl 135 _ _ rfl #[.int .i64 (k:Int)] (by simp [Act.eval]) (Tryz.callWords _ _) ((fi k _ (by omega)).mono ?_);rintro e dw2 ⟨rfl,hw2⟩;subst hw2;refine .inl ⟨_,rfl,?_⟩;refine hK.out _ _ (KS0.out _ (Gr.drew (Gr.refl _))) (fun hH=>?_);clear hK;try simp only [Act.put,sA,s0,s1]
   refine tL 6 ?_;simp only [Act.put,sA,s0,s1];refine tL 11 ?_;simp only [Act.put,sA,s0,s1];refine wpAnyH_done (by kernel_rfl) ?_ _;clear hH;go_upto_region 3 with fail
   have HGD:=aH (Gr.drew (Gr.refl w));have KS3:Hid (∀w',Gr w.drew w'→w'.cell? ⟨mb,7,none⟩=some (.int .i64 (tk:Int))∧w'.cell? ⟨mb,6,none⟩=some (.int .i64 (hp:Int))):=aH (fun w' g=>KS0.out _ (HGD.out.trans g));clear KS0 HRD hgi;generalize w.drew=W3 at KS3 HGD ⊢;refine wp_region_held_drew (S:=(fun w'=>w'.cell? ⟨mb,7,none⟩=some (.int .i64 (tk:Int))∧w'.cell? ⟨mb,6,none⟩=some (.int .i64 (hp:Int)))) (by kernel_rfl) (KS3.out _ (Gr.drew (Gr.refl _))) (fun hH=>?_);refine tL 0 ?_;simp only [Act.put,sA,s0,s1];refine tL 1 ?_;simp only [Act.put,sA,s0,s1];refine tL 2 ?_;simp only [Act.put,sA,s0,s1];refine tL 3 ?_;simp only [Act.put,sA,s0,s1];refine tL 4 ?_;simp only [Act.put,sA,s0,s1];refine tL 7 ?_;simp only [Act.put,sA,s0,s1];refine tL 8 ?_;simp only [Act.put,sA,s0,s1];refine tL 9 ?_;simp only [Act.put,sA,s0,s1];refine tL 10 ?_;simp only [Act.put,sA,s0,s1];refine au (i:=5) rfl (by kernel_rfl) (fun K hK=>?_);refine aS rfl 135 _ _ rfl #[.int .i64 (k:Int)] (by simp [Act.eval]) (Tryz.callWords _ _) ((fi k _ (by omega)).mono ?_);rintro e ew2 ⟨rfl,hw2⟩;subst hw2;refine .inl ⟨_,rfl,?_⟩;refine hK.out _ _ (KS3.out _ (Gr.drew (Gr.refl _))) (fun hH=>?_);clear hK;try simp only [Act.put,sA,s0,s1]
   refine tL 6 ?_;simp only [Act.put,sA,s0,s1];refine tL 11 ?_;simp only [Act.put,sA,s0,s1];refine tL 12 ?_;simp only [Act.put,sA,s0,s1];refine wpAnyH_done (by kernel_rfl) ?_ _;clear hH;go_wp2_with fail
   go_ret
   exact ⟨cs,ct,Int.le_refl _,by omega,by rw [show decide (tk+(k+1)≤hp)=true by simp;omega];rfl,HMW.out.of_gr (HGD.out.trans (Gr.drew (Gr.refl _))),an.of_gr (HGD.out.trans (Gr.drew (Gr.refl _)))⟩
end
open Go.RowKit
section
variable {P:Program} {ops:Array Oper} {Q:Exit→Act→World→Prop} {md:Region.Mode} {S:World→Prop}
def fT(P:Program)(md:Region.Mode)(ops:Array Oper)(Q:Exit→Act→World→Prop)(S:World→Prop)(zs:List Nat):Nat→Array Bool→Act→World→Prop
 | 0,listed,a,w=>Region.ready md ops listed= []∧Q .normal a w
 | fuel+1,listed,a,w=>
  (Region.ready md ops listed= []→Q .normal a w)∧
  ∀i∈Region.ready md ops listed,wpOp P ops Q i (fun a' w'=>(zs.contains i=false→S w')∧fT P md ops Q S zs fuel (listed.setIfInBounds i true) a' w') a w
theorem lm{zs:List Nat}:∀(fuel:Nat) (listed:Array Bool) (a:Act) (w:World),fT P md ops Q S zs fuel listed a w→wpAny P md ops Q fuel listed a w
 | 0,_,_,_,h=>h
 | fuel+1,_,_,_,h=>⟨h.1,fun i hi=>wpOp_mono (fun a' w' h'=>lm fuel _ a' w' h'.2) (h.2 i hi)⟩
theorem nq{zs:List Nat}{i:Nat}{oi:Oper}{v:Value}(hi:ops[i]? =some oi)(hsel:∀(j:Nat) (o:Oper) cs b,ops[j]? =some o→o.op≠.select cs b)
 (hQ:∀c a w,Q (.panic c) (a.put oi.dst v) w→Q (.panic c) a w):
 ∀(fuel:Nat) (listed:Array Bool) (a:Act) (w:World),(∀z,zs.contains z=true→iv md ops listed i z)→
  (∀j oj,ops[j]? =some oj→j≠i→listed.getD j true=false→(∀e∈oj.after,Region.binds md e=true→e.on≠i)→oi.apart ops oj=true)→
  i∈Region.ready md ops listed→YieldsIf P ops S oi v a→S w→
  fT P md ops Q S zs fuel (listed.setIfInBounds i true) (a.put oi.dst v) w→fT P md ops Q S zs (fuel+1) listed a w:=by
 intro fuel
 induction fuel with
 | zero=>
  intro listed a w hw _ hr hy hS H;refine ⟨fun h=>(by rw [h] at hr;cases hr),fun j hj=>?_⟩;by_cases hji:j=i
  · subst hji;exact hy.wpOp hi hS ⟨fun _=>hS,H⟩
  · have:=ready_mono hj hji
    rw [H.1] at this;cases this
 | succ fuel ih=>
  intro listed a w hw hfree hr hy hS H;refine ⟨fun h=>(by rw [h] at hr;cases hr),fun j hj=>?_⟩;by_cases hji:j=i
  · subst hji;exact hy.wpOp hi hS ⟨fun _=>hS,H⟩
  · have h1:=H.2 j (ready_mono hj hji);obtain ⟨hjun,oj,hoj,hall⟩:=mem_ready.1 hj;have hnot:∀e∈oj.after,Region.binds md e=true→e.on≠i:=fun e he hb heq=>by
     have h1:=hall e he hb;have h0:=(mem_ready.1 hr).1;rw [heq] at h1;rcases Nat.lt_or_ge i listed.size with h'|h'
     · simp [h'] at h0 h1;rw [h0] at h1;cases h1
     · simp [Array.getElem?_eq_none h'] at h1
    have hjz:zs.contains j=false:=by
     cases e:zs.contains j with
     | false=>rfl
     | true=>exact absurd hj (hw j e).not_ready
    have h2:=wpOp_putIf hoj (hfree j oj hoj hji hjun hnot) (fun cs b=>hsel i oi cs b hi) (fun cs b=>hsel j oj cs b hoj) hQ hy h1;have hfree':∀k ok,ops[k]? =some ok→k≠i→(listed.setIfInBounds j true).getD k true=false→
     (∀e∈ok.after,Region.binds md e=true→e.on≠i)→oi.apart ops ok=true:=fun k ok hk hki hun hno=>by
     refine hfree k ok hk hki ?_ hno;by_cases hjk:j=k
     · subst hjk;exact hjun
     · rw [getD_set_ne true hjk] at hun;exact hun
    refine wpOp_mono (fun a' w' h3=>⟨h3.2.1,ih (listed.setIfInBounds j true) a' w' (fun z hz=>(hw z hz).list hj hji) hfree' (ready_mono hr (Ne.symm hji)) h3.1 (h3.2.1 hjz) ?_⟩) h2;rw [Array.setIfInBounds_comm _ _ hji];exact h3.2.2
end
section
variable {P:Program} {l:List Oper} {md:Region.Mode} {Q:Exit→Act→World→Prop} {S:World→Prop}
theorem zL{zs:List Nat}{i:Nat}{oi:Oper}{v:Value}{fuel:Nat}{listed:Array Bool}{a:Act}{w:World}(hi:l[i]? =some oi)(hzw:(zs.all fun z=>jk md l listed i 20 z)=true)
 (hs:Region.noSelect l.toArray=true) (hf:Region.free md l.toArray listed i=true) (hr:(Region.ready md l.toArray listed).contains i=true)
 (hQ:∀c a w,Q (.panic c) (a.put oi.dst v) w→Q (.panic c) a w) (hw:Region.wanted oi (yielded l.toArray a.tmps)=true) (hy:∀w,S w→(execOp a.eval oi).run P w=.ok (.value v) w) (hS:S w)
 (h:fT P md l.toArray Q S zs fuel (listed.setIfInBounds i true) (a.put oi.dst v) w):fT P md l.toArray Q S zs (fuel+1) listed a w:=
 nq (by simpa using hi) (Region.noSelect_spec hs) hQ fuel listed a w (fun z hz=>iz (List.all_eq_true.1 hzw z (by simpa using hz))) (Region.free_spec (by simpa using hi) hf) (by simpa using hr) (.inl ⟨hw,hy⟩) hS h
theorem tS{P:Program}{l:List Oper}{md:Region.Mode}{Q:Exit→Act→World→Prop}{S:World→Prop}{zs:List Nat}(i:Nat){oi:Oper}{v:Value}{fuel:Nat}{listed:Array Bool}{a:Act}{w:World}(h:fT P md l.toArray Q S zs fuel (listed.setIfInBounds i true) (a.put oi.dst v) w)(hi:l[i]? =some oi:=by rfl)(hy:∀w,S w→(execOp a.eval oi).run P w=.ok (.value v) w:=by intro w hS;go_simp<;>rfl)(hS:S w:=by assumption)(hzw:(zs.all fun z=>jk md l listed i 20 z)=true:=by kernel_rfl)(hs:Region.noSelect l.toArray=true:=by kernel_rfl)(hf:Region.free md l.toArray listed i=true:=by kernel_rfl)(hr:(Region.ready md l.toArray listed).contains i=true:=by kernel_rfl)(hQ:∀c a w,Q (.panic c) (a.put oi.dst v) w→Q (.panic c) a w:=by intro c a w h;exact h)(hw:Region.wanted oi (yielded l.toArray a.tmps)=true:=by rfl):fT P md l.toArray Q S zs (fuel+1) listed a w:=zL hi hzw hs hf hr hQ hw hy hS h
theorem kh{zs:List Nat}{i:Nat}{o:Oper}{fuel:Nat}{listed:Array Bool}{a:Act}{w:World}(ho:l[i]? =some o)(hr:Region.ready md l.toArray listed= [i])
 (h:∀K':Act→World→Prop,Shut (∀a w,(zs.contains i=false→S w)→fT P md l.toArray Q S zs fuel (listed.setIfInBounds i true) a w→K' a w)→if Region.wanted o (yielded l.toArray a.tmps)=true then Oper.wp P o a w K' Q else K' (a.put o.dst undef) w):fT P md l.toArray Q S zs (fuel+1) listed a w:=by
 refine ⟨fun h0=>absurd (hr▸h0) (by simp),hr▸fun j hj=>?_⟩;obtain rfl:j=i:=by simpa using hj
 exact wpOp_step (by simpa using ho) (fun K' hK=>h K' (fun a w hS hW=>hK a w ⟨hS,hW⟩))
theorem vG{zs:List Nat}{listed:Array Bool}{a:Act}{w:World}(hr:Region.ready md l.toArray listed= [])(h:Q .normal a w):∀fuel,fT P md l.toArray Q S zs fuel listed a w
 | 0=>⟨hr,h⟩
 | _+1=>⟨fun _=>h,by rw [hr];simp⟩
theorem i5(zs:List Nat){id:Nat}{a:Act}{w:World}(hm:P.follows .mixedOrders=true)(hS:S w.drew)
 (h:S w.drew→fT P .any l.toArray Q S zs l.toArray.size (Array.replicate l.toArray.size false) a w.drew):(Code.region id l.toArray true).wp P Q a w:=
 wp_region_any hm (lm _ _ _ _ (h hS))
end
open Go.RowKit
def b7(u:aK)(heap:Nat):Nat→Nat→PM→i4
 | 0,s,m=>⟨7,0,0,0,0,m.told,(s:Int)⟩
 | n+1,s,m=>match dI u heap m with
  | .go m'=>b7 u heap n (s+1) m'
  | .stop why res m'=>⟨why,0,0,0,res,m'.told,((s+1:Nat):Int)⟩
theorem tX(u:aK)(heap s:Nat)(m:PM):b7 u heap 0 s m=⟨7,0,0,0,0,m.told,(s:Int)⟩:=rfl
theorem eZ{u:aK}{heap n s:Nat}{m m':PM}(h:dI u heap m=.go m'):b7 u heap (n+1) s m=b7 u heap n (s+1) m':=by
 rw [b7,h]
theorem eo{u:aK}{heap n s:Nat}{m m':PM}{why res:Int}(h:dI u heap m=.stop why res m'):b7 u heap (n+1) s m=⟨why,0,0,0,res,m'.told,((s+1:Nat):Int)⟩:=by
 rw [b7,h]
section
variable {C:MC} {w w':World} {ρ:Nat→bC} {nm fbn:Nat→Nat} {cs:Nat→Int} {ct:Int} {L:List dA} {bs:List (List PV)} {tk:Nat} {told:List Int}
variable {u:aK} {Ts:Nat→Nat→Option (List Int)} {σ:List Int} {x:dA} {f:aO} {i:aw} {base ts ps:List Int} {a b:List PV}
theorem lF.len(hh:lF u Ts σ x f i base ts ps a b):x.stack.length≤20:=by
 have h1:=hh.short;have h2:=hh.below.1;have h3:=hh.upon.1;rw [hh.stack,List.length_append,←h2,←h3,←List.length_append];exact h1
theorem gZ{a:Int}(h:0≤a):a=(a.toNat:Int):=by omega
theorem yr(heap:Nat)(hh:lF u Ts σ x f i base ts ps a b)(hk:(1≤i.op∧i.op≤10)∨i.op=18∨i.op=19)(h:MW C w ρ nm fbn cs ct (x :: L) bs tk told):∃sl st,(∀(low:List dA) (blks:List (List PV)) (taken:Nat) (told:List Int),fP u heap ⟨x,low,blks,taken,told⟩ i=.go ⟨⟨x.fn,x.pos+1,sl,st⟩,low,blks,taken,told⟩)∧Calls Tryz.prog 108 #[.pointer (some ⟨fbn L.length,0,none⟩),.agg #[.int .i64 i.op,.int .i64 i.a,.int .i64 i.b]] w (xF C w ρ nm fbn cs ct (⟨x.fn,x.pos,sl,st⟩ :: L) bs tk told):=by
 have hn:x.stack.length≤1000:=by have:=hh.len;omega
 have hS:=hh.stack;have hU:=hh.upon;have hL:=hh.slots;cases hh.ins with
 | small e=>
  refine ⟨x.slots,x.stack++ [⟨i.a,none⟩],fun low blks taken told=>?_,?_⟩
  · unfold fP;simp only [e];rfl
  · rw [e];exact vK i.a i.b h hn
 | load k e h0 hk'=>
  obtain ⟨v,hv,_⟩:=hL.get hk';refine ⟨x.slots,x.stack++ [v],fun low blks taken told=>?_,?_⟩
  · unfold fP;simp only [e];have:x.slots.getD i.a.toNat i_=v:=by rw [List.getD_eq_getElem?_getD,hv];rfl
    rw [this];rfl
  · rw [e,gZ h0];exact xV i.a.toNat hv i.b h hn
 | store k e h0 hk'=>
  obtain ⟨v,rfl,hv⟩:=hU.of_one;have hl:=(List.getElem?_eq_some_iff.1 hk').1;refine ⟨x.slots.set i.a.toNat v,a,fun low blks taken told=>?_,?_⟩
  · unfold fP;simp only [e,hS,be,cN];rfl
  · have:=vV (C:=C) hS i.a.toNat (hL.1▸hl) i.b h hn
    rw [←gZ h0] at this;rw [e];exact this
 | pop k e=>
  obtain ⟨v,rfl,hv⟩:=hU.of_one;refine ⟨x.slots,a,fun low blks taken told=>?_,?_⟩
  · unfold fP;simp only [e,hS,be,cN];rfl
  · rw [e];exact yx hS i.a i.b h hn
 | dup k e=>
  obtain ⟨v,rfl,hv⟩:=hU.of_one;refine ⟨x.slots,x.stack++ [v],fun low blks taken told=>?_,?_⟩
  · unfold fP;simp only [e];have:x.stack.getD (x.stack.length - 1) i_=v:=by rw [hS,be]
    rw [this];rfl
  · rw [e];exact yp hS i.a i.b h hn
 | reck e1 e2=>
  obtain ⟨v,v',rfl,hv,hv'⟩:=hU.of_two;have n0:¬i.op=0:=by omega
  have n1:¬i.op=1:=by omega
  have n2:¬i.op=2:=by omega
  have n3:¬i.op=3:=by omega
  have n4:¬i.op=4:=by omega
  have n5:¬i.op=5:=by omega
  have n6:¬i.op=11:=by omega
  have n7:¬i.op=12:=by omega
  have n8:¬i.op=13:=by omega
  have n9:¬i.op=14:=by omega
  have n10:¬i.op=15:=by omega
  have n11:¬i.op=16:=by omega
  have n12:¬i.op=17:=by omega
  have n13:¬i.op=18:=by omega
  have n14:¬i.op=19:=by omega
  have n15:¬i.op=20:=by omega
  refine ⟨x.slots,a++ [⟨gh i.op v.num v'.num,none⟩],fun low blks taken told=>?_,?_⟩
  · unfold fP;simp only [n0,n1,n2,n3,n4,n5,n6,n7,n8,n9,n10,n11,n12,n13,n14,n15,if_false,hS,BF,fJ,gL];rfl
  · exact xW hS i.op i.a i.b ⟨e1,e2⟩ h hn
 | nil e h1=>
  refine ⟨x.slots,x.stack++ [i_],fun low blks taken told=>?_,?_⟩
  · unfold fP;simp only [e];rfl
  · rw [e];exact yw i.a i.b h hn
 | isnil e h1=>
  obtain ⟨v,rfl,hv⟩:=hU.of_one;refine ⟨x.slots,a++ [⟨eJ v.blk.isNone,none⟩],fun low blks taken told=>?_,?_⟩
  · unfold fP;simp only [e,hS,be,cN];rfl
  · rw [e];exact vO hS i.a i.b h hn
 | const e=>omega
 | jump e=>omega
 | zero e=>omega
 | call g e=>omega
 | ret e=>omega
 | new e=>omega
 | get s k e=>omega
 | set s k e=>omega
 | out e=>omega
theorem pj(heap:Nat)(hh:lF u Ts σ x f i base ts ps a b)(hk:i.op=16∨i.op=17)(h:MW C w ρ nm fbn cs ct (x :: L) bs tk told)(hl:σ.length=bs.length)(hB:∀(j:Nat) (k:Int) (fs:List PV),σ[j]? =some k→bs[j]? =some fs→∃s,1≤k∧u.aA[(k - 1).toNat]? =some s∧e_ σ s fs):∃r st bs',(∀(low:List dA) (taken:Nat) (told:List Int),fP u heap ⟨x,low,bs,taken,told⟩ i=if r=true then .go ⟨⟨x.fn,x.pos+1,x.slots,st⟩,low,bs',taken,told⟩ else .stop 10 0 ⟨x,low,bs,taken,told⟩)∧Calls Tryz.prog 106 #[.pointer (some ⟨fbn L.length,0,none⟩),.agg #[.int .i64 i.op,.int .i64 i.a,.int .i64 i.b]] w (z' C w ρ nm fbn cs ct (x.st st :: L) bs' tk told r):=by
 have hn:x.stack.length≤1000:=by have:=hh.len;omega
 have hS:=hh.stack;have hU:=hh.upon;cases hh.ins with
 | get s k e h1 h0 hs hk'=>
  obtain ⟨v,rfl,hv⟩:=hU.of_one;cases hb:v.blk with
  | none=>
   refine ⟨false,a,bs,fun low taken told=>?_,?_⟩
   · unfold fP;simp only [e,hS,be,cN];rw [hb];rfl
   · rw [e];exact nt i.b hS hb i.a h hn
  | some j=>
   obtain ⟨q1,q2⟩:=hv j hb;have hjl:j < bs.length:=by rw [←hl];exact (List.getElem?_eq_some_iff.1 q2).1
   have hj:=List.getElem?_eq_getElem hjl;obtain ⟨s2,p1,p2,p3⟩:=hB j _ _ q2 hj;rw [hs] at p2;cases p2;obtain ⟨fv,hfv,_⟩:=p3.get hk';refine ⟨true,a++ [fv],bs,fun low taken told=>?_,?_⟩
   · unfold fP;simp only [e,hS,be,cN];rw [hb];have e1:bs.getD j []=bs[j]:=by rw [List.getD_eq_getElem?_getD,hj];rfl
     have e2:(bs[j]).getD i.b.toNat i_=fv:=by rw [List.getD_eq_getElem?_getD,hfv];rfl
     simp only [e1,e2];rfl
   · have:=ui (C:=C) hS hb hj hfv i.a h hn
     rw [←gZ h0] at this;rw [e];exact this
 | set s k e h1 h0 hs hk'=>
  obtain ⟨v,v',rfl,hv,hv'⟩:=hU.of_two;cases hb:v.blk with
  | none=>
   refine ⟨false,a,bs,fun low taken told=>?_,?_⟩
   · unfold fP;simp only [e,hS,BF,fJ,gL];rw [hb];rfl
   · rw [e];exact nu i.b hS hb i.a h hn
  | some j=>
   obtain ⟨q1,q2⟩:=hv j hb;have hjl:j < bs.length:=by rw [←hl];exact (List.getElem?_eq_some_iff.1 q2).1
   have hj:=List.getElem?_eq_getElem hjl;obtain ⟨s2,p1,p2,p3⟩:=hB j _ _ q2 hj;rw [hs] at p2;cases p2;refine ⟨true,a,bs.set j ((bs[j]).set i.b.toNat v'),fun low taken told=>?_,?_⟩
   · unfold fP;simp only [e,hS,BF,fJ,gL];rw [hb];have e1:bs.getD j []=bs[j]:=by rw [List.getD_eq_getElem?_getD,hj];rfl
     simp only [e1];rfl
   · have:=wd (C:=C) (b:=i.b.toNat) hS hb hj (by have:=(List.getElem?_eq_some_iff.1 hk').1;rw [←p3.1];exact this) i.a h hn
     rw [←gZ h0] at this;rw [e];exact this
 | reck e1 e2=>omega
 | _=>omega
end
def dx(w:World)(ob:Nat)(why res st:Int):Prop:=w.heap[ob]? =some (.cells #[.int .i64 why,.int .i64 0,.int .i64 0,.int .i64 0,.int .i64 res,.slice none 0 0,.int .i64 st] 39 (0,0))
structure UW(C:MC):Prop where
 ok:vL C.u
 imp:C.u.aB= []
 sh:bG C.V C.v1 C.u.aA
 co:aX C.V C.v2 C.u.aD
 fu:cG C.V C.v3 C.u.aE
structure zT(C:MC)(Ts:Nat→Nat→Option (List Int))(w0:World)(ρ0:Nat→bC)(ob rb fuel:Nat)(FIN:i4)(wr:World)(m:PM)(s:Nat)(ρ:Nat→bC)(nm fbn:Nat→Nat)(cs:Nat→Int)(ct:Int)(σ:List Int):Prop where
 out:dx wr ob 7 0 (s:Int)
 res:wr.heap[rb]? =w0.heap[rb]?
 rlt:rb < w0.heap.size
 rro:ρ0 rb=.no
 olt:w0.heap.size≤ob
 oro:ρ ob=.no
 le:s≤fuel
 run:b7 C.u C.heap (fuel - s) s m=FIN
 ok:wq C.u Ts σ m
 ct0:0≤ct
 cts:ct≤(s:Int)
 bls:m.blks.length≤s
 tak:m.taken≤C.heap
 mw:MW C wr ρ nm fbn cs ct (m.top :: m.low) m.blks m.taken m.told
 kp:an w0 wr ρ0 ρ
def jl(C:MC)(Ts:Nat→Nat→Option (List Int))(w0:World)(ρ0:Nat→bC)(ob rb fuel:Nat)(FIN:i4)(wr:World)(vf:Value):Prop:=∃m s ρ nm fbn cs ct σ,vf=.pointer (some ⟨fbn m.low.length,0,none⟩)∧zT C Ts w0 ρ0 ob rb fuel FIN wr m s ρ nm fbn cs ct σ
theorem jl.go{C:MC}{Ts:Nat→Nat→Option (List Int)}{w0:World}{ρ0:Nat→bC}{ob rb fuel:Nat}{FIN:i4}{wr w':World}{m m':PM}{s:Nat}{ρ ρ':Nat→bC}{nm fbn nm' fbn':Nat→Nat}{cs cs':Nat→Int}{ct ct':Int}{σ:List Int}
 (h:zT C Ts w0 ρ0 ob rb fuel FIN wr m s ρ nm fbn cs ct σ) (hu:UW C) (hT:∀n f,C.u.aE[n]? =some f→yG C.u f (Ts n)) (hs:s < fuel) (hp:dI C.u C.heap m=.go m') (hm:MW C w' ρ' nm' fbn' cs' ct' (m'.top :: m'.low) m'.blks m'.taken m'.told) (hk:an w0 w' ρ0 ρ') (ho:dx w' ob 7 0 ((s:Int)+1)) (hro:ρ' ob=.no) (h0:0≤ct') (h1:ct'≤ct+1) (ht:m'.taken≤C.heap):jl C Ts w0 ρ0 ob rb fuel FIN w' (.pointer (some ⟨fbn' m'.low.length,0,none⟩)):=by
 have hok:=xC C.heap hu.ok hu.imp hT h.ok;rw [hp] at hok;obtain ⟨σ',hok,hbl⟩:=hok;refine ⟨m',s+1,ρ',nm',fbn',cs',ct',σ',rfl,⟨ho,hk.keep rb h.rlt h.rro,h.rlt,h.rro,h.olt,hro,hs,?_,hok,h0,by have:=h.cts;omega,by have:=h.bls;omega,ht,hm,hk⟩⟩;rw [←h.run,show fuel - s=(fuel - (s+1))+1 by omega,eZ hp]
def mc(C:MC)(w0:World)(ρ0:Nat→bC)(FIN:i4)(w':World):Prop:=∃ρ' nm' fbn' cs' ct' L' bs' tk',MW C w' ρ' nm' fbn' cs' ct' L' bs' tk' FIN.told∧an w0 w' ρ0 ρ'
end Go.Proofs.YtkgncijcnlfhiaaGreat
