import Derived.Test.YtkgncijcnlfhiaaGreatMs
namespace Go.Proofs.YtkgncijcnlfhiaaGreat
set_option linter.unusedVariables false
set_option linter.unusedSimpArgs false
open Go.RowKit
attribute [local go_sem ↓] Go.wp_at_zero Go.wp_at_succ
section
variable {C:MC} {w:World} {ρ:Nat→Role} {nm fbn:Nat→Nat} {cs:Nat→Int} {ct:Int} {L:List PFr} {bs:List (List PV)} {tk:Nat} {told:List Int}
def roomN(heap k:Nat)(L:List PFr)(bs:List (List PV))(tk:Nat):Nat:=if tk+(k+1) > heap then reachN L bs else tk
set_option maxRecDepth 100000 in
set_option maxHeartbeats 2000000 in
theorem room_mw{vf vt:Value}(k:Nat)(hk:k≤1000)(htk:tk≤10000000)(hhp:C.heap≤10000000)(h:MW C w ρ nm fbn cs ct L bs tk told)(hm:MbW C w ρ fbn L.length (tk:Int) ct told vf vt)(hL:0 < L.length)(hLB:L.length≤1000)(hct:0≤ct∧ct≤10000000)(hbb:bs.length≤200000)(h8:∀r∈bs,r.length≤1000)(bL:∀x∈L,Bd bs.length x.slots∧Bd bs.length x.stack)(sL:∀x∈L,x.slots.length≤1000∧x.stack.length≤1000)(bB:∀r∈bs,Bd bs.length r):
 Calls Tryz.prog 104 #[.pointer (some ⟨C.mb,6,none⟩),.int .i64 (k:Int),vf] w fun e w'=>∃cs' ct',ct≤ct'∧ct'≤ct+1∧e=.returned (.bool (decide (roomN C.heap k L bs tk+(k+1)≤C.heap)))∧MW C w' ρ nm fbn cs' ct' L bs (roomN C.heap k L bs tk) told∧Kept w w' ρ ρ:=by
 have hbox:=hm.box;have KS0:Hid (∀w',Gr w w'→w'.cell? ⟨C.mb,7,none⟩=some (.int .i64 (tk:Int))∧w'.cell? ⟨C.mb,6,none⟩=some (.int .i64 (C.heap:Int))):=hide (fun w' g=>⟨g.cell (by rw [hcell_ hbox];rfl) (by simp),g.cell (by rw [hcell_ hbox];rfl) (by simp)⟩);have hw1:IntKind.i64.wrap ((tk:Int)+((k:Int)+1))=((tk+(k+1):Nat):Int):=by rw [Go.IntWalk.i64_in _ (by omega)];omega
 have HRD:Hid (∀w',Gr w w'→Calls Tryz.prog 136 #[.pointer (some ⟨C.mb,6,none⟩),vf] w' fun e w2=>∃cs',e=.returned (.int .i64 (reachN L bs:Int))∧reachN L bs≤1001 * bs.length∧MW C w2 ρ nm fbn cs' (ct+1) L bs tk told∧Kept w' w2 ρ ρ):=hide (fun w' gg=>reached_mw (h.of_gr gg) (hm.mv (S:=fun _=>True) (fun b hb _=>⟨gg.block b hb (by simp),rfl⟩) trivial trivial trivial) hL hLB hct hbb h8 bL sL bB);have HMW:=hide h;obtain ⟨va,vn,vcp,rfl⟩:∃a n c,vf=.slice a n c:=by obtain ⟨a,c,e⟩:=own_shape_ hm.fr;exact ⟨a,_,c,e⟩
 clear hbox h hm bL sL bB h8 hct hL hLB;obtain ⟨hp,hHP⟩:∃hp,C.heap=hp:=⟨_,rfl⟩;rw [hHP] at KS0 hhp ⊢;by_cases hgt:tk+(k+1) > hp
 · have HRM:Hid (roomN hp k L bs tk=reachN L bs):=hide (by unfold roomN;rw [if_pos hgt]);rw [HRM.out];clear HRM;have hgi:(hp:Int) < ((tk+(k+1):Nat):Int):=by omega
   generalize ((tk+(k+1):Nat):Int)=TK at hgi hw1;generalize hMB:C.mb=mb at KS0 HRD ⊢;go_enter Tryz.func104,Tryz.ntmps104
   go_wp2_with fail
   refine wp_region_held_drew (S:=(fun w'=>w'.cell? ⟨mb,7,none⟩=some (.int .i64 (tk:Int))∧w'.cell? ⟨mb,6,none⟩=some (.int .i64 (hp:Int)))) (by kernel_rfl) (KS0.out _ (Gr.drew (Gr.refl _))) (fun hH=>?_);refine tL 0 _ rfl (fun w hS=>by go_simp<;>rfl) hH ?_
   simp only [Act.put,sA,s0,s1];refine tL 1 _ rfl (fun w hS=>by go_simp<;>rfl) hH ?_
   simp only [Act.put,sA,s0,s1];refine tL 2 _ rfl (fun w hS=>by go_simp<;>rfl) hH ?_
   simp only [Act.put,sA,s0,s1];refine tL 3 _ rfl (fun w hS=>by go_simp<;>rfl) hH ?_
   simp only [Act.put,sA,s0,s1];refine tL 4 _ rfl (fun w hS=>by go_simp<;>rfl) hH ?_
   simp only [Act.put,sA,s0,s1];refine tL 7 _ rfl (fun w hS=>by go_simp<;>rfl) hH ?_
   simp only [Act.put,sA,s0,s1];refine tL 8 _ rfl (fun w hS=>by go_simp<;>rfl) hH ?_
   simp only [Act.put,sA,s0,s1];refine tL 9 _ rfl (fun w hS=>by go_simp<;>rfl) hH ?_
   simp only [Act.put,sA,s0,s1];refine tL 10 _ rfl (fun w hS=>by go_simp<;>rfl) hH ?_
   simp only [Act.put,sA,s0,s1];refine aloneL (i:=5) rfl (by kernel_rfl) (fun K hK=>?_);refine step_calls_w rfl 135 _ _ rfl #[.int .i64 (k:Int)] (by simp [Act.eval]) (Tryz.callWords _ _) ((words_any k _ (by omega)).mono ?_);rintro e aw2 ⟨rfl,hw2⟩;subst hw2;refine .inl ⟨_,rfl,?_⟩;refine hK.out _ _ (KS0.out _ (Gr.drew (Gr.refl _))) (fun hH=>?_);clear hK;try simp only [Act.put,sA,s0,s1]
   refine tL 6 _ rfl (fun w hS=>by go_simp<;>rfl) hH ?_
   simp only [Act.put,sA,s0,s1];refine tL 11 _ rfl (fun w hS=>by go_simp<;>rfl) hH ?_
   simp only [Act.put,sA,s0,s1];refine wpAnyH_done (by kernel_rfl) ?_ _;clear hH;go_wp2_with fail
   refine (HRD.out _ (Gr.drew (Gr.refl _))).mono ?_;rintro e w2 ⟨cs',rfl,hrl,hM,hK⟩;have HM2:=hide hM;have HK2:=hide ((Kept.of_gr (Gr.drew (Gr.refl w))).trans hK);obtain ⟨vf2,vt2,hm2⟩:=hM.mb;have hb2:=hm2.box;rw [hMB,hHP] at hb2;have c7:w2.cell? ⟨mb,7,none⟩=some (.int .i64 (tk:Int)):=by rw [hcell_ hb2];rfl
   have z7:w2.frozen? ⟨mb,7,none⟩=false:=hfrozen_ hb2;have hB':=(heap_setCell_same w2 mb 7 _ _ (.int .i64 (reachN L bs:Int)) hb2).trans (by simp:_=some (.cells #[C.v1,C.v2,C.v3,C.v4,C.v5,vf2,.int .i64 (hp:Int),.int .i64 (reachN L bs:Int),.int .i64 (ct+1),vt2] 121 (0,0)));have h3:=hM.setMb (w':=w2.setCell ⟨mb,7,none⟩ (.int .i64 (reachN L bs:Int))) (tk':=reachN L bs) hm2 (by rw [hMB,hHP];exact hB') (Int.le_refl _) rfl rfl rfl (by simp) (fun b hb hne=>Below.heap_setCell _ _ _ _ (by show b≠mb;exact fun e=>hne (e.trans hMB.symm)));have HM3:=hide (And.intro h3.1 (HK2.out.trans h3.2));have KS3:Hid (∀w',Gr (w2.setCell ⟨mb,7,none⟩ (.int .i64 (reachN L bs:Int))) w'→w'.cell? ⟨mb,7,none⟩=some (.int .i64 (reachN L bs:Int))∧w'.cell? ⟨mb,6,none⟩=some (.int .i64 (hp:Int))):=hide (fun w' g=>⟨g.cell (by rw [hcell_ hB'];rfl) (by simp),g.cell (by rw [hcell_ hB'];rfl) (by simp)⟩);clear hM hK hm2 hb2 h3 hB' HM2 HK2 HRD KS0 hw1 hgi hMB;go_upto_region 3 with fail
   generalize w2.setCell ⟨mb,7,none⟩ (.int .i64 (reachN L bs:Int))=W3 at HM3 KS3 ⊢;have hw2:IntKind.i64.wrap ((reachN L bs:Int)+((k:Int)+1))=((reachN L bs+(k+1):Nat):Int):=by rw [Go.IntWalk.i64_in _ (by omega)];omega
   generalize hRN:reachN L bs=RN at HM3 KS3 hw2 hrl ⊢;have HD:Hid (decide (((RN+(k+1):Nat):Int)≤(hp:Int))=decide (RN+(k+1)≤hp)):=hide (by congr 1;exact propext (by omega));generalize hTK2:((RN+(k+1):Nat):Int)=TK2 at hw2 HD;clear hTK2 c7 z7;refine wp_region_held_drew (S:=(fun w'=>w'.cell? ⟨mb,7,none⟩=some (.int .i64 (RN:Int))∧w'.cell? ⟨mb,6,none⟩=some (.int .i64 (hp:Int)))) (by kernel_rfl) (KS3.out _ (Gr.drew (Gr.refl _))) (fun hH=>?_);refine tL 0 _ rfl (fun w hS=>by go_simp<;>rfl) hH ?_
   simp only [Act.put,sA,s0,s1];refine tL 1 _ rfl (fun w hS=>by go_simp<;>rfl) hH ?_
   simp only [Act.put,sA,s0,s1];refine tL 2 _ rfl (fun w hS=>by go_simp<;>rfl) hH ?_
   simp only [Act.put,sA,s0,s1];refine tL 3 _ rfl (fun w hS=>by go_simp<;>rfl) hH ?_
   simp only [Act.put,sA,s0,s1];refine tL 4 _ rfl (fun w hS=>by go_simp<;>rfl) hH ?_
   simp only [Act.put,sA,s0,s1];refine tL 7 _ rfl (fun w hS=>by go_simp<;>rfl) hH ?_
   simp only [Act.put,sA,s0,s1];refine tL 8 _ rfl (fun w hS=>by go_simp<;>rfl) hH ?_
   simp only [Act.put,sA,s0,s1];refine tL 9 _ rfl (fun w hS=>by go_simp<;>rfl) hH ?_
   simp only [Act.put,sA,s0,s1];refine tL 10 _ rfl (fun w hS=>by go_simp<;>rfl) hH ?_
   simp only [Act.put,sA,s0,s1];refine aloneL (i:=5) rfl (by kernel_rfl) (fun K hK=>?_);refine step_calls_w rfl 135 _ _ rfl #[.int .i64 (k:Int)] (by simp [Act.eval]) (Tryz.callWords _ _) ((words_any k _ (by omega)).mono ?_);rintro e cw2 ⟨rfl,hw2⟩;subst hw2;refine .inl ⟨_,rfl,?_⟩;refine hK.out _ _ (KS3.out _ (Gr.drew (Gr.refl _))) (fun hH=>?_);clear hK;try simp only [Act.put,sA,s0,s1]
   refine tL 6 _ rfl (fun w hS=>by go_simp<;>rfl) hH ?_
   simp only [Act.put,sA,s0,s1];refine tL 11 _ rfl (fun w hS=>by go_simp<;>rfl) hH ?_
   simp only [Act.put,sA,s0,s1];refine tL 12 _ rfl (fun w hS=>by go_simp<;>rfl) hH ?_
   simp only [Act.put,sA,s0,s1];refine wpAnyH_done (by kernel_rfl) ?_ _;clear hH;go_wp2_with fail
   go_ret
   exact ⟨cs',ct+1,by omega,Int.le_refl _,by rw [hRN,←HD.out];rfl,by rw [hRN];exact HM3.out.1.of_gr (Gr.drew (Gr.refl _)),HM3.out.2.trans (Kept.of_gr (Gr.drew (Gr.refl _)))⟩
 · have HRM:Hid (roomN hp k L bs tk=tk):=hide (by unfold roomN;rw [if_neg hgt]);rw [HRM.out];clear HRM;have hgi:¬(hp:Int) < ((tk+(k+1):Nat):Int):=by omega
   have HD:Hid (decide (((tk+(k+1):Nat):Int)≤(hp:Int))=decide (tk+(k+1)≤hp)):=hide (by congr 1;exact propext (by omega));generalize ((tk+(k+1):Nat):Int)=TK at hgi hw1 HD;generalize hMB:C.mb=mb at KS0 HRD ⊢;clear hMB;go_enter Tryz.func104,Tryz.ntmps104
   go_wp2_with fail
   refine wp_region_held_drew (S:=(fun w'=>w'.cell? ⟨mb,7,none⟩=some (.int .i64 (tk:Int))∧w'.cell? ⟨mb,6,none⟩=some (.int .i64 (hp:Int)))) (by kernel_rfl) (KS0.out _ (Gr.drew (Gr.refl _))) (fun hH=>?_);refine tL 0 _ rfl (fun w hS=>by go_simp<;>rfl) hH ?_
   simp only [Act.put,sA,s0,s1];refine tL 1 _ rfl (fun w hS=>by go_simp<;>rfl) hH ?_
   simp only [Act.put,sA,s0,s1];refine tL 2 _ rfl (fun w hS=>by go_simp<;>rfl) hH ?_
   simp only [Act.put,sA,s0,s1];refine tL 3 _ rfl (fun w hS=>by go_simp<;>rfl) hH ?_
   simp only [Act.put,sA,s0,s1];refine tL 4 _ rfl (fun w hS=>by go_simp<;>rfl) hH ?_
   simp only [Act.put,sA,s0,s1];refine tL 7 _ rfl (fun w hS=>by go_simp<;>rfl) hH ?_
   simp only [Act.put,sA,s0,s1];refine tL 8 _ rfl (fun w hS=>by go_simp<;>rfl) hH ?_
   simp only [Act.put,sA,s0,s1];refine tL 9 _ rfl (fun w hS=>by go_simp<;>rfl) hH ?_
   simp only [Act.put,sA,s0,s1];refine tL 10 _ rfl (fun w hS=>by go_simp<;>rfl) hH ?_
   simp only [Act.put,sA,s0,s1];refine aloneL (i:=5) rfl (by kernel_rfl) (fun K hK=>?_);refine step_calls_w rfl 135 _ _ rfl #[.int .i64 (k:Int)] (by simp [Act.eval]) (Tryz.callWords _ _) ((words_any k _ (by omega)).mono ?_);rintro e dw2 ⟨rfl,hw2⟩;subst hw2;refine .inl ⟨_,rfl,?_⟩;refine hK.out _ _ (KS0.out _ (Gr.drew (Gr.refl _))) (fun hH=>?_);clear hK;try simp only [Act.put,sA,s0,s1]
   refine tL 6 _ rfl (fun w hS=>by go_simp<;>rfl) hH ?_
   simp only [Act.put,sA,s0,s1];refine tL 11 _ rfl (fun w hS=>by go_simp<;>rfl) hH ?_
   simp only [Act.put,sA,s0,s1];refine wpAnyH_done (by kernel_rfl) ?_ _;clear hH;go_upto_region 3 with fail
   have HGD:=hide (Gr.drew (Gr.refl w));have KS3:Hid (∀w',Gr w.drew w'→w'.cell? ⟨mb,7,none⟩=some (.int .i64 (tk:Int))∧w'.cell? ⟨mb,6,none⟩=some (.int .i64 (hp:Int))):=hide (fun w' g=>KS0.out _ (HGD.out.trans g));clear KS0 HRD hgi;generalize w.drew=W3 at KS3 HGD ⊢;refine wp_region_held_drew (S:=(fun w'=>w'.cell? ⟨mb,7,none⟩=some (.int .i64 (tk:Int))∧w'.cell? ⟨mb,6,none⟩=some (.int .i64 (hp:Int)))) (by kernel_rfl) (KS3.out _ (Gr.drew (Gr.refl _))) (fun hH=>?_);refine tL 0 _ rfl (fun w hS=>by go_simp<;>rfl) hH ?_
   simp only [Act.put,sA,s0,s1];refine tL 1 _ rfl (fun w hS=>by go_simp<;>rfl) hH ?_
   simp only [Act.put,sA,s0,s1];refine tL 2 _ rfl (fun w hS=>by go_simp<;>rfl) hH ?_
   simp only [Act.put,sA,s0,s1];refine tL 3 _ rfl (fun w hS=>by go_simp<;>rfl) hH ?_
   simp only [Act.put,sA,s0,s1];refine tL 4 _ rfl (fun w hS=>by go_simp<;>rfl) hH ?_
   simp only [Act.put,sA,s0,s1];refine tL 7 _ rfl (fun w hS=>by go_simp<;>rfl) hH ?_
   simp only [Act.put,sA,s0,s1];refine tL 8 _ rfl (fun w hS=>by go_simp<;>rfl) hH ?_
   simp only [Act.put,sA,s0,s1];refine tL 9 _ rfl (fun w hS=>by go_simp<;>rfl) hH ?_
   simp only [Act.put,sA,s0,s1];refine tL 10 _ rfl (fun w hS=>by go_simp<;>rfl) hH ?_
   simp only [Act.put,sA,s0,s1];refine aloneL (i:=5) rfl (by kernel_rfl) (fun K hK=>?_);refine step_calls_w rfl 135 _ _ rfl #[.int .i64 (k:Int)] (by simp [Act.eval]) (Tryz.callWords _ _) ((words_any k _ (by omega)).mono ?_);rintro e ew2 ⟨rfl,hw2⟩;subst hw2;refine .inl ⟨_,rfl,?_⟩;refine hK.out _ _ (KS3.out _ (Gr.drew (Gr.refl _))) (fun hH=>?_);clear hK;try simp only [Act.put,sA,s0,s1]
   refine tL 6 _ rfl (fun w hS=>by go_simp<;>rfl) hH ?_
   simp only [Act.put,sA,s0,s1];refine tL 11 _ rfl (fun w hS=>by go_simp<;>rfl) hH ?_
   simp only [Act.put,sA,s0,s1];refine tL 12 _ rfl (fun w hS=>by go_simp<;>rfl) hH ?_
   simp only [Act.put,sA,s0,s1];refine wpAnyH_done (by kernel_rfl) ?_ _;clear hH;go_wp2_with fail
   go_ret
   exact ⟨cs,ct,Int.le_refl _,by omega,by rw [show decide (tk+(k+1)≤hp)=true by simp;omega];rfl,HMW.out.of_gr (HGD.out.trans (Gr.drew (Gr.refl _))),Kept.of_gr (HGD.out.trans (Gr.drew (Gr.refl _)))⟩
end
end Go.Proofs.YtkgncijcnlfhiaaGreat
