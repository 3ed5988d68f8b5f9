import Derived.Test.YtkgncijcnlfhiaaGreatMv
import Derived.Test.YtkgncijcnlfhiaaGreatE1
import Derived.Test.YtkgncijcnlfhiaaGreatW1
namespace Go.Proofs.YtkgncijcnlfhiaaGreat
set_option maxRecDepth 100000
set_option maxHeartbeats 2000000
set_option linter.unusedVariables false
set_option linter.unusedSimpArgs false
open Go.RowKit
attribute [local go_sem ↓] Go.wp_at_zero Go.wp_at_succ
def isMain(u:PUnit)(e:PExp):Bool:=decide (e.name= [109,97,105,110]) && (match u.funcs[e.func.toNat]? with
 | some f=>decide (f.params= []) && decide (f.result=0)
 | none=>false)
def mainL(u:PUnit):List PExp→Option Nat
 | []=>none
 | e :: l=>if isMain u e=true then some e.func.toNat else mainL u l
def mainP(u:PUnit):Option Nat:=mainL u u.exports
def MainV:Option Nat→Value
 | none=>.tuple #[.int .i64 0,.bool false]
 | some q=>.tuple #[.int .i64 (q:Int),.bool true]
theorem mainL_ok{u:PUnit}{q:Nat}:∀{l:List PExp},mainL u l=some q→∃f,u.funcs[q]? =some f∧f.params= []∧f.result=0
 | [],h=>by cases h
 | e :: l,h=>by
  rw [mainL] at h;split at h
  · rename_i hm
    cases h
    unfold isMain at hm;cases hf:u.funcs[e.func.toNat]? with
    | none=>rw [hf] at hm;simp at hm
    | some f=>
     rw [hf] at hm;simp only [Bool.and_eq_true,decide_eq_true_eq] at hm;exact ⟨f,rfl,hm.2.1,hm.2.2⟩
  · exact mainL_ok h
theorem bytes_main{s:ByteArray}{l:List UInt8}(h:s.data.toList=l):s=⟨#[109,97,105,110]⟩↔l= [109,97,105,110]:=by
 constructor
 · rintro rfl;exact h.symm
 · rintro rfl;obtain ⟨d⟩:=s;congr 1
   exact Array.toList_inj.1 h
theorem mainOf_any(u:PUnit)(hu:UOk u)(V:World)(v:Value)(hR:RUnit V v u):
 Calls Tryz.prog 65 #[v] V fun x w'=>x=.returned (MainV (mainP u))∧Gr V w':=by
 obtain ⟨a1,a2,a3,a4,a5,c1,c2,c3,c4,c5,rfl,r1,r2,r3,r4,r5⟩:=hR.parts;have g0:=(Gr.refl V).alloc (.cells #[.slice a1 u.shapes.length c1,.slice a2 u.consts.length c2,.slice a3 u.funcs.length c3,.slice a4 u.imports.length c4,.slice a5 u.exports.length c5] 33);have hb0:=heap_alloc_new V (.cells #[.slice a1 u.shapes.length c1,.slice a2 u.consts.length c2,.slice a3 u.funcs.length c3,.slice a4 u.imports.length c4,.slice a5 u.exports.length c5] 33);have HG0:=hide g0;have HU:=hide hu;have HR3:=hide r3;have HR5:=hide r5;have HB0:Hid (∀w',Gr (V.alloc (.cells #[.slice a1 u.shapes.length c1,.slice a2 u.consts.length c2,.slice a3 u.funcs.length c3,.slice a4 u.imports.length c4,.slice a5 u.exports.length c5] 33)) w'→w'.cell? ⟨V.heap.size,2,none⟩=some (.slice a3 u.funcs.length c3)):=hide (fun w' g=>g.cell (by rw [hcell_ hb0];rfl) (by simp));have hxl:=hu.exps.1;clear hR r1 r2 r3 r4 r5 g0 hb0 hu;go_enter Tryz.func65,Tryz.ntmps65
 go_wp2_with fail
 generalize V.alloc (.cells #[.slice a1 u.shapes.length c1,.slice a2 u.consts.length c2,.slice a3 u.funcs.length c3,.slice a4 u.imports.length c4,.slice a5 u.exports.length c5] 33)=W0 at HG0 HB0 ⊢;generalize hub:V.heap.size=ub at HB0 ⊢;clear hub;go_loopw [10] (fun i wr=>∃k:Nat,i=.int .i64 (k:Int)∧k≤u.exports.length∧mainL u (u.exports.drop k)=mainP u∧Gr W0 wr) (fun i _=>u.exports.length - (intOf i).toNat)
 case atStart=>exact ⟨0,rfl,Nat.zero_le _,rfl,Gr.refl _⟩
 case round=>
  obtain ⟨k,rfl,hk,hm,hg⟩:=hrel;have HG:=hide hg;have HM:=hide hm;clear hg hm;by_cases hlt:k < u.exports.length
  · have hki:(k:Int) < (u.exports.length:Int):=by omega
    have hw:IntKind.i64.wrap ((k:Int)+1)=(k:Int)+1:=Go.IntWalk.i64_in _ (by omega);obtain ⟨e,he⟩:∃e,u.exports[k]? =some e:=⟨_,List.getElem?_eq_getElem hlt⟩;have hdk:u.exports.drop k=e :: u.exports.drop (k+1):=by
     rw [List.drop_eq_getElem_cons hlt];rw [List.getElem?_eq_getElem hlt] at he;cases he;rfl
    obtain ⟨ao,cap,e1,_,hx⟩:=HR5.out;cases e1
    obtain ⟨b,off,vs,rfl,q0,q1,s,rfl,hsl,_⟩:=hx k e he;have hef:=HU.out.exps.2 e (List.mem_of_getElem? he);obtain ⟨f,hf⟩:∃f,u.funcs[e.func.toNat]? =some f:=⟨_,List.getElem?_eq_getElem (by omega)⟩;obtain ⟨ao3,cap3,e3,_,hx3⟩:=HR3.out;cases e3
    obtain ⟨b3,off3,vp,vl,vc,rfl,p0,p1,p2,p3,rp,rl,rc⟩:=hx3 _ f hf;obtain ⟨pa,pc,rfl,_⟩:=rp;obtain ⟨la,lc,rfl,_⟩:=rl;obtain ⟨ca,cc,rfl,_⟩:=rc;have q0:=(HG0.out.trans HG.out).cell q0 (by simp);have q1:=(HG0.out.trans HG.out).cell q1 (by simp);have p0:=(HG0.out.trans HG.out).cell p0 (by simp);have p1:=(HG0.out.trans HG.out).cell p1 (by simp);have p2:=(HG0.out.trans HG.out).cell p2 (by simp);have p3:=(HG0.out.trans HG.out).cell p3 (by simp);have ku2:wr.cell? ⟨ub,2,none⟩=some (.slice (some ⟨b3,off3,none⟩) u.funcs.length c3):=HB0.out _ HG.out;have hnm:=bytes_main hsl;have HEF:=hide hef;have hqi:(e.func.toNat:Int) < (u.funcs.length:Int):=by omega
    have hq0:e.func.toNat < u.funcs.length:=by omega
    have HQ:Hid (e.func=(e.func.toNat:Int)):=hide (by omega);rw [HQ.out] at q1;have HS:Hid (isMain u e=(decide (s=⟨#[109,97,105,110]⟩) && (decide (f.params.length=0) && decide (f.result=0)))):=hide (by
     unfold isMain;rw [hf];have h1:decide (e.name= [109,97,105,110])=decide (s=⟨#[109,97,105,110]⟩):=by simp only [hnm]
     have h2:decide (f.params= [])=decide (f.params.length=0):=by simp
     rw [h1];simp only [h2])
    have HD:=hide hdk;have HM2:Hid (mainP u=if isMain u e=true then some e.func.toNat else mainL u (u.exports.drop (k+1))):=hide (by rw [←HM.out,HD.out,mainL]);clear he hdk hx hx3 hf hnm hef hsl;generalize hQQ:e.func.toNat=q at q1 p0 p1 p2 p3 hqi hq0 HM2;clear hQQ;generalize u.funcs.length=nf at ku2 hqi hq0;have gA:=(Gr.refl wr).alloc (.cells #[.string s,.int .i64 (q:Int)] 50);have hbA:=heap_alloc_new wr (.cells #[.string s,.int .i64 (q:Int)] 50);have HGA:=hide gA;have HBA:=hide hbA;have HP:=hide (And.intro (gA.cell p0 (by simp)) (And.intro (gA.cell p1 (by simp)) (And.intro (gA.cell p2 (by simp)) (And.intro (gA.cell p3 (by simp)) (gA.cell ku2 (by simp))))));clear gA hbA p0 p1 p2 p3 ku2;go_upto_region 4 with fail
    generalize wr.alloc (.cells #[.string s,.int .i64 (q:Int)] 50)=W4 at HGA HBA HP ⊢;have y1:W4.cell? ⟨wr.heap.size,1,none⟩=some (.int .i64 (q:Int)):=by rw [hcell_ HBA.out];rfl
    obtain ⟨p0,p1,p2,p3,ku2⟩:=HP.out;have gB:=(Gr.refl W4).alloc (.cells #[.slice pa f.params.length pc,.int .i64 f.result,.slice la f.locals.length lc,.slice ca f.code.length cc] 48);have hbB:=heap_alloc_new W4 (.cells #[.slice pa f.params.length pc,.int .i64 f.result,.slice la f.locals.length lc,.slice ca f.code.length cc] 48);have hwl:wr.heap.size < W4.heap.size:=(Array.getElem?_eq_some_iff.1 HBA.out).1;have HX:=hide ((gB.block _ hwl (by simp)).trans HBA.out);have HGB:=hide (HGA.out.trans gB);have HBB:=hide hbB;clear gB hbB hwl HP;go_upto_region 5 with fail
    clear p0 p1 p2 p3 ku2 y1 q0 q1;generalize W4.alloc (.cells #[.slice pa f.params.length pc,.int .i64 f.result,.slice la f.locals.length lc,.slice ca f.code.length cc] 48)=W5 at HX HGB HBB ⊢;have x0:W5.cell? ⟨wr.heap.size,0,none⟩=some (.string s):=by rw [hcell_ HX.out];rfl
    have x1:W5.cell? ⟨wr.heap.size,1,none⟩=some (.int .i64 (q:Int)):=by rw [hcell_ HX.out];rfl
    have z0:W5.cell? ⟨W4.heap.size,0,none⟩=some (.slice pa f.params.length pc):=by rw [hcell_ HBB.out];rfl
    have z1:W5.cell? ⟨W4.heap.size,1,none⟩=some (.int .i64 f.result):=by rw [hcell_ HBB.out];rfl
    clear HX HBB HBA HGA;by_cases h1:s=⟨#[109,97,105,110]⟩
    · subst h1;by_cases h2:f.params.length=0
      · by_cases h3:f.result=0
        · have HM3:Hid (mainP u=some q):=hide (by rw [HM2.out,if_pos (by rw [HS.out];simp [h2,h3])]);rw [h2] at z0;rw [h3] at z1;clear HM HM2 HS h2 h3;go_wp2_with fail
          exact bodyPost_ret (v:=.tuple #[.int .i64 (q:Int),.bool true]) (by simp [results,Tryz.results65,go_sem]) rfl ⟨by rw [HM3.out];rfl,HG0.out.trans (HG.out.trans HGB.out)⟩
        · have HM3:Hid (mainL u (u.exports.drop (k+1))=mainP u):=hide (by rw [HM2.out,if_neg (by rw [HS.out];simp [h3])]);rw [h2] at z0;clear HM HM2 HS h2;go_wp2_with fail
          exact ⟨⟨k+1,by simp,hlt,HM3.out,HG.out.trans HGB.out⟩,by simp [intOf];omega⟩
      · have HM3:Hid (mainL u (u.exports.drop (k+1))=mainP u):=hide (by rw [HM2.out,if_neg (by rw [HS.out];simp [h2])]);have h2i:¬(f.params.length:Int)=0:=by omega
        clear HM HM2 HS;go_wp2_with fail
        exact ⟨⟨k+1,by simp,hlt,HM3.out,HG.out.trans HGB.out⟩,by simp [intOf];omega⟩
    · have HM3:Hid (mainL u (u.exports.drop (k+1))=mainP u):=hide (by rw [HM2.out,if_neg (by rw [HS.out];simp [h1])]);have hnl:¬s.toList= [109,97,105,110]:=by rw [ByteArray.toList_eq];exact fun h=>h1 ((bytes_main rfl).2 h)
      clear HM HM2 HS;go_wp2_with fail
      exact ⟨⟨k+1,by simp,hlt,HM3.out,HG.out.trans HGB.out⟩,by simp [intOf];omega⟩
  · have hkk:k=u.exports.length:=by omega
    subst hkk;have HM3:Hid (mainP u=none):=hide (by rw [←HM.out];simp [mainL]);clear hlt hk;go_wp2_with fail
    exact bodyPost_ret (v:=.tuple #[.int .i64 0,.bool false]) (by simp [results,Tryz.results65,go_sem]) rfl ⟨by rw [HM3.out];rfl,HG0.out.trans HG.out⟩
open Go.RowKit
def ThroughR(u:PUnit)(w:World)(x:Ending)(w':World):Prop:=Below w.heap.size w w'∧((x=.returned (.tuple #[])∧verifyP u=(0,0,0))∨(x=.panicked (thrown3 (verifyP u).1 ((verifyP u).2.1:Int) ((verifyP u).2.2:Int))))
def VfyR(u:PUnit)(w:World)(x:Ending)(w':World):Prop:=x=.returned (.tuple #[.int .i64 (verifyP u).1,.int .i64 ((verifyP u).2.1:Int),.int .i64 ((verifyP u).2.2:Int)])∧Below w.heap.size w w'
def ThroughC(u:PUnit):Prop:=∀(V:World) (vu:Value),RUnit V vu u→Calls Tryz.prog 18 #[vu] V (ThroughR u V)
theorem work_vfy(u:PUnit)(HT:ThroughC u)(ub:Nat)(x0 x1 x2 x3 x4:Value)(W:World)(hb:Box5 W ub x0 x1 x2 x3 x4)(hR:RUnit W (.agg #[x0,x1,x2,x3,x4]) u):
 Calls Tryz.prog 17 #[.pointer (some ⟨ub,0,none⟩)] W (ThroughR u W):=by
 obtain ⟨v1,v2,v3,v4,v5,he,k1,k2,k3,k4,k5⟩:=hR;have HR:Hid (RUnit W (.agg #[x0,x1,x2,x3,x4]) u):=hide ⟨v1,v2,v3,v4,v5,he,k1,k2,k3,k4,k5⟩;simp only [Value.agg.injEq,Array.mk.injEq,List.cons.injEq,and_true] at he;obtain ⟨rfl,rfl,rfl,rfl,rfl⟩:=he;obtain ⟨a1,c1,rfl⟩:=k1.shape;obtain ⟨a2,c2,rfl⟩:=k2.shape;obtain ⟨a3,c3,rfl⟩:=k3.shape;obtain ⟨a4,c4,rfl⟩:=k4.shape;obtain ⟨a5,c5,rfl⟩:=k5.shape;obtain ⟨l0,l1,l2,l3,l4,n0,n1,n2,n3,n4⟩:=hb;have HTC:=hide HT;clear k1 k2 k3 k4 k5 n0 n1 n2 n3 n4 HT;go_enter Tryz.func17,Tryz.ntmps17
 go_wp2_with fail
 refine (HTC.out W _ HR.out).mono ?_;rintro x w1 ⟨hlow,⟨rfl,hv⟩|rfl⟩
 · have HLo:=hide hlow;have HV:=hide hv;clear hlow hv;go_wp2_with fail
   go_end0
   exact ⟨HLo.out,.inl ⟨rfl,HV.out⟩⟩
 · exact ⟨rfl,hlow,.inr rfl⟩
theorem vfyW_box(W:World)(v1 v2 v3 v4 v5:Value):Box5 ((W.alloc (.cells #[v1,v2,v3,v4,v5] 33)).alloc (.cells #[.int .i64 0,.int .i64 0,.int .i64 0] 58)) W.heap.size v1 v2 v3 v4 v5:=(Box5.new W 33 v1 v2 v3 v4 v5).gr ((Gr.refl _).alloc _)
theorem verify_of(u:PUnit)(HT:ThroughC u)(vu:Value)(W:World)(hR:RUnit W vu u):
 Calls Tryz.prog 11 #[vu] W (VfyR u W):=by
 have hmf:∀(fn:Fn) (first cap:Array Value) (w:World),(Instr.makeFunc fn first cap).run Tryz.prog w=.ok (.func fn first cap) w:=fun _ _ _ _=>rfl
 have HRU:=hide hR;obtain ⟨v1,v2,v3,v4,v5,rfl,h1,h2,h3,h4,h5⟩:=hR;obtain ⟨a1,c1,rfl⟩:=h1.shape;obtain ⟨a2,c2,rfl⟩:=h2.shape;obtain ⟨a3,c3,rfl⟩:=h3.shape;obtain ⟨a4,c4,rfl⟩:=h4.shape;obtain ⟨a5,c5,rfl⟩:=h5.shape;have HTC:=hide HT;clear h1 h2 h3 h4 h5 HT;have HBX:=hide (vfyW_box W (.slice a1 u.shapes.length c1) (.slice a2 u.consts.length c2) (.slice a3 u.funcs.length c3) (.slice a4 u.imports.length c4) (.slice a5 u.exports.length c5));have hga:=Gr.alloc (Gr.refl W) (.cells #[.slice a1 u.shapes.length c1,.slice a2 u.consts.length c2,.slice a3 u.funcs.length c3,.slice a4 u.imports.length c4,.slice a5 u.exports.length c5] 33);have HGA:=hide hga;have hszV:(W.alloc (.cells #[.slice a1 u.shapes.length c1,.slice a2 u.consts.length c2,.slice a3 u.funcs.length c3,.slice a4 u.imports.length c4,.slice a5 u.exports.length c5] 33)).heap.size=W.heap.size+1:=by simp
 have HSZ:=hide hszV;clear hga hszV;go_enter Tryz.func11,Tryz.ntmps11
 go_wp2_with fail
 generalize W.alloc (.cells #[.slice a1 u.shapes.length c1,.slice a2 u.consts.length c2,.slice a3 u.funcs.length c3,.slice a4 u.imports.length c4,.slice a5 u.exports.length c5] 33)=V at HBX HGA HSZ ⊢;have hwb:Box3 (V.alloc (.cells #[.int .i64 0,.int .i64 0,.int .i64 0] 58)) V.heap.size (.int .i64 0) (.int .i64 0) (.int .i64 0):=Box3.new V 58 (.int .i64 0) (.int .i64 0) (.int .i64 0);have hgV:=HGA.out.alloc (.cells #[.int .i64 0,.int .i64 0,.int .i64 0] 58);refine (refusal_any 17 #[.pointer (some ⟨W.heap.size,0,none⟩)] V
  (fun w1=>verifyP u=(0,0,0)∧Below W.heap.size W w1)
  (fun e n a w1=>e=(verifyP u).1∧n=((verifyP u).2.1:Int)∧a=((verifyP u).2.2:Int)∧Below W.heap.size W w1) (fun w=>rfl)
  ((work_vfy u HTC.out W.heap.size _ _ _ _ _ _ HBX.out (HRU.out.gr hgV)).mono ?_)).mono ?_
 · rintro x w' ⟨hlow,⟨rfl,hv⟩|rfl⟩
   · exact ⟨hwb.below hlow,.inl ⟨rfl,hv,below_gr hgV hlow⟩⟩
   · exact ⟨hwb.below hlow,.inr ⟨_,_,_,rfl,rfl,rfl,rfl,below_gr hgV hlow⟩⟩
 · rintro x w2 ⟨w1,hgc,_,hx⟩;have hy:∃e n a:Int,x=.returned (.agg #[.int .i64 e,.int .i64 n,.int .i64 a])∧e=(verifyP u).1∧n=((verifyP u).2.1:Int)∧a=((verifyP u).2.2:Int)∧Below W.heap.size W w1:=by
    rcases hx with ⟨rfl,hv,hb⟩|⟨e,n,a,rfl,e1,e2,e3,hb⟩
    · exact ⟨0,0,0,rfl,by rw [hv],by rw [hv];rfl,by rw [hv];rfl,hb⟩
    · exact ⟨e,n,a,rfl,e1,e2,e3,hb⟩
   obtain ⟨e,n,a,rfl,e1,e2,e3,hlow⟩:=hy;have HE:=hide (And.intro e1 (And.intro e2 e3));have HB:=hide (hlow.grown hgc hlow.size (by intro k hk;simp only [Option.some.injEq] at hk;have:=HSZ.out;omega));clear hx e1 e2 e3 hlow hgc hmf hwb hgV HBX HRU HTC HGA HSZ;have hb2:=Box3.new w2 58 (.int .i64 e) (.int .i64 n) (.int .i64 a);have hg2:=Gr.alloc (Gr.refl w2) (.cells #[.int .i64 e,.int .i64 n,.int .i64 a] 58);have HB2:=hide (HB.out.grown hg2 HB.out.size (by simp));obtain ⟨p0,p1,p2,_⟩:=hb2;clear hg2 HB;go_wp2
   generalize w2.alloc (.cells #[.int .i64 e,.int .i64 n,.int .i64 a] 58)=W3 at p0 p1 p2 HB2 ⊢;go_quiet (fail)
   go_wp2_with fail
   go_ret3
   obtain ⟨e1,e2,e3⟩:=HE.out;subst e1 e2 e3;exact ⟨rfl,by first|exact HB2.out|exact ⟨HB2.out.os,HB2.out.tape,HB2.out.output,HB2.out.size,HB2.out.block⟩⟩
end Go.Proofs.YtkgncijcnlfhiaaGreat
