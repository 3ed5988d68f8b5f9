import Derived.Test.YtkgncijcnlfhiaaGreatMv
import Derived.Test.YtkgncijcnlfhiaaGreatNs
namespace Go.Proofs.YtkgncijcnlfhiaaGreat
set_option maxRecDepth 100000
set_option maxHeartbeats 1000000
set_option linter.unusedVariables false
set_option linter.unusedSimpArgs false
open Go.RowKit
attribute [local go_sem ↓] Go.wp_at_zero Go.wp_at_succ
def lh(u:aK)(e:du):Bool:=decide (e.name= [109,97,105,110]) && (match u.aE[e.func.toNat]? with
 | some f=>decide (f.aF= []) && decide (f.result=0)
 | none=>false)
def iu(u:aK):List du→Option Nat
 | []=>none
 | e :: l=>if lh u e=true then some e.func.toNat else iu u l
def jV(u:aK):Option Nat:=iu u u.aC
def ur:Option Nat→Value
 | none=>.tuple #[.int .i64 0,.bool false]
 | some q=>.tuple #[.int .i64 (q:Int),.bool true]
theorem pe{u:aK}{q:Nat}:∀{l:List du},iu u l=some q→∃f,u.aE[q]? =some f∧f.aF= []∧f.result=0
 | [],h=>by cases h
 | e :: l,h=>by
  rw [iu] at h;split at h
  · rename_i hm
    cases h
    unfold lh at hm;cases hf:u.aE[e.func.toNat]? with
    | none=>rw [hf] at hm;simp at hm
    | some f=>
     rw [hf] at hm;simp only [Bool.and_eq_true,decide_eq_true_eq] at hm;exact ⟨f,rfl,hm.2.1,hm.2.2⟩
  · exact pe h
theorem mN{s:ByteArray}{l:List UInt8}(h:s.data.toList=l):s=⟨#[109,97,105,110]⟩↔l= [109,97,105,110]:=by
 constructor
 · rintro rfl;exact h.symm
 · rintro rfl;obtain ⟨d⟩:=s;congr 1
   exact Array.toList_inj.1 h
theorem qm(u:aK)(hu:vL u)(V:World)(v:Value)(hR:cD V v u):
 Calls Tryz.prog 65 #[v] V fun x w'=>x=.returned (ur (jV u))∧Gr V w':=by
 obtain ⟨a1,a2,a3,a4,a5,c1,c2,c3,c4,c5,rfl,r1,r2,r3,r4,r5⟩:=hR.parts;have g0:=(Gr.refl V).alloc (.cells #[.slice a1 u.aA.length c1,.slice a2 u.aD.length c2,.slice a3 u.aE.length c3,.slice a4 u.aB.length c4,.slice a5 u.aC.length c5] 33);have hb0:=heap_alloc_new V (.cells #[.slice a1 u.aA.length c1,.slice a2 u.aD.length c2,.slice a3 u.aE.length c3,.slice a4 u.aB.length c4,.slice a5 u.aC.length c5] 33);have HG0:=aH g0;have HU:=aH hu;have HR3:=aH r3;have HR5:=aH r5;have HB0:Hid (∀w',Gr (V.alloc (.cells #[.slice a1 u.aA.length c1,.slice a2 u.aD.length c2,.slice a3 u.aE.length c3,.slice a4 u.aB.length c4,.slice a5 u.aC.length c5] 33)) w'→w'.cell? ⟨V.heap.size,2,none⟩=some (.slice a3 u.aE.length c3)):=aH (fun w' g=>g.cell (by rw [aI hb0];rfl) (by simp));have hxl:=hu.exps.1;clear hR r1 r2 r3 r4 r5 g0 hb0 hu;go_enter Tryz.func65,Tryz.ntmps65
 go_wp2_with fail
 generalize V.alloc (.cells #[.slice a1 u.aA.length c1,.slice a2 u.aD.length c2,.slice a3 u.aE.length c3,.slice a4 u.aB.length c4,.slice a5 u.aC.length c5] 33)=W0 at HG0 HB0 ⊢;generalize hub:V.heap.size=ub at HB0 ⊢;clear hub;go_loopw [10] (fun i wr=>∃k:Nat,i=.int .i64 (k:Int)∧k≤u.aC.length∧iu u (u.aC.drop k)=jV u∧Gr W0 wr) (fun i _=>u.aC.length - (intOf i).toNat)
 case atStart=>exact ⟨0,rfl,Nat.zero_le _,rfl,Gr.refl _⟩
 case round=>
  obtain ⟨k,rfl,hk,hm,hg⟩:=hrel;have HG:=aH hg;have HM:=aH hm;clear hg hm;by_cases hlt:k < u.aC.length
  · have hki:(k:Int) < (u.aC.length:Int):=by omega
    have hw:IntKind.i64.wrap ((k:Int)+1)=(k:Int)+1:=Go.IntWalk.i64_in _ (by omega);obtain ⟨e,he⟩:∃e,u.aC[k]? =some e:=⟨_,List.getElem?_eq_getElem hlt⟩;have hdk:u.aC.drop k=e :: u.aC.drop (k+1):=by
     rw [List.drop_eq_getElem_cons hlt];rw [List.getElem?_eq_getElem hlt] at he;cases he;rfl
    obtain ⟨ao,cap,e1,_,hx⟩:=HR5.out;cases e1
    obtain ⟨b,off,vs,rfl,q0,q1,s,rfl,hsl,_⟩:=hx k e he;have hef:=HU.out.exps.2 e (List.mem_of_getElem? he);obtain ⟨f,hf⟩:∃f,u.aE[e.func.toNat]? =some f:=⟨_,List.getElem?_eq_getElem (by omega)⟩;obtain ⟨ao3,cap3,e3,_,hx3⟩:=HR3.out;cases e3
    obtain ⟨b3,off3,vp,vl,vc,rfl,p0,p1,p2,p3,rp,rl,rc⟩:=hx3 _ f hf;obtain ⟨pa,pc,rfl,_⟩:=rp;obtain ⟨la,lc,rfl,_⟩:=rl;obtain ⟨ca,cc,rfl,_⟩:=rc;have q0:=(HG0.out.trans HG.out).cell q0 (by simp);have q1:=(HG0.out.trans HG.out).cell q1 (by simp);have p0:=(HG0.out.trans HG.out).cell p0 (by simp);have p1:=(HG0.out.trans HG.out).cell p1 (by simp);have p2:=(HG0.out.trans HG.out).cell p2 (by simp);have p3:=(HG0.out.trans HG.out).cell p3 (by simp);have ku2:wr.cell? ⟨ub,2,none⟩=some (.slice (some ⟨b3,off3,none⟩) u.aE.length c3):=HB0.out _ HG.out;have hnm:=mN hsl;have HEF:=aH hef;have hqi:(e.func.toNat:Int) < (u.aE.length:Int):=by omega
    have hq0:e.func.toNat < u.aE.length:=by omega
    have HQ:Hid (e.func=(e.func.toNat:Int)):=aH (by omega);rw [HQ.out] at q1;have HS:Hid (lh u e=(decide (s=⟨#[109,97,105,110]⟩) && (decide (f.aF.length=0) && decide (f.result=0)))):=aH (by
     unfold lh;rw [hf];have h1:decide (e.name= [109,97,105,110])=decide (s=⟨#[109,97,105,110]⟩):=by simp only [hnm]
     have h2:decide (f.aF= [])=decide (f.aF.length=0):=by simp
     rw [h1];simp only [h2])
    have HD:=aH hdk;have HM2:Hid (jV u=if lh u e=true then some e.func.toNat else iu u (u.aC.drop (k+1))):=aH (by rw [←HM.out,HD.out,iu]);clear he hdk hx hx3 hf hnm hef hsl;generalize hQQ:e.func.toNat=q at q1 p0 p1 p2 p3 hqi hq0 HM2;clear hQQ;generalize u.aE.length=nf at ku2 hqi hq0;have gA:=(Gr.refl wr).alloc (.cells #[.string s,.int .i64 (q:Int)] 50);have hbA:=heap_alloc_new wr (.cells #[.string s,.int .i64 (q:Int)] 50);have HGA:=aH gA;have HBA:=aH hbA;have HP:=aH (And.intro (gA.cell p0 (by simp)) (And.intro (gA.cell p1 (by simp)) (And.intro (gA.cell p2 (by simp)) (And.intro (gA.cell p3 (by simp)) (gA.cell ku2 (by simp))))));clear gA hbA p0 p1 p2 p3 ku2;go_upto_region 4 with fail
    generalize wr.alloc (.cells #[.string s,.int .i64 (q:Int)] 50)=W4 at HGA HBA HP ⊢;have y1:W4.cell? ⟨wr.heap.size,1,none⟩=some (.int .i64 (q:Int)):=by rw [aI HBA.out];rfl
    obtain ⟨p0,p1,p2,p3,ku2⟩:=HP.out;have gB:=(Gr.refl W4).alloc (.cells #[.slice pa f.aF.length pc,.int .i64 f.result,.slice la f.aG.length lc,.slice ca f.code.length cc] 48);have hbB:=heap_alloc_new W4 (.cells #[.slice pa f.aF.length pc,.int .i64 f.result,.slice la f.aG.length lc,.slice ca f.code.length cc] 48);have hwl:wr.heap.size < W4.heap.size:=(Array.getElem?_eq_some_iff.1 HBA.out).1;have HX:=aH ((gB.block _ hwl (by simp)).trans HBA.out);have HGB:=aH (HGA.out.trans gB);have HBB:=aH hbB;clear gB hbB hwl HP;go_upto_region 5 with fail
    clear p0 p1 p2 p3 ku2 y1 q0 q1;generalize W4.alloc (.cells #[.slice pa f.aF.length pc,.int .i64 f.result,.slice la f.aG.length lc,.slice ca f.code.length cc] 48)=W5 at HX HGB HBB ⊢;have x0:W5.cell? ⟨wr.heap.size,0,none⟩=some (.string s):=by rw [aI HX.out];rfl
    have x1:W5.cell? ⟨wr.heap.size,1,none⟩=some (.int .i64 (q:Int)):=by rw [aI HX.out];rfl
    have z0:W5.cell? ⟨W4.heap.size,0,none⟩=some (.slice pa f.aF.length pc):=by rw [aI HBB.out];rfl
    have z1:W5.cell? ⟨W4.heap.size,1,none⟩=some (.int .i64 f.result):=by rw [aI HBB.out];rfl
    clear HX HBB HBA HGA;by_cases h1:s=⟨#[109,97,105,110]⟩
    · subst h1;by_cases h2:f.aF.length=0
      · by_cases h3:f.result=0
        · have HM3:Hid (jV u=some q):=aH (by rw [HM2.out,if_pos (by rw [HS.out];simp [h2,h3])]);rw [h2] at z0;rw [h3] at z1;clear HM HM2 HS h2 h3;go_wp2_with fail
          exact bodyPost_ret (v:=.tuple #[.int .i64 (q:Int),.bool true]) (by simp [results,Tryz.results65,go_sem]) rfl ⟨by rw [HM3.out];rfl,HG0.out.trans (HG.out.trans HGB.out)⟩
        · have HM3:Hid (iu u (u.aC.drop (k+1))=jV u):=aH (by rw [HM2.out,if_neg (by rw [HS.out];simp [h3])]);rw [h2] at z0;clear HM HM2 HS h2;go_wp2_with fail
          exact ⟨⟨k+1,by simp,hlt,HM3.out,HG.out.trans HGB.out⟩,by simp [intOf];omega⟩
      · have HM3:Hid (iu u (u.aC.drop (k+1))=jV u):=aH (by rw [HM2.out,if_neg (by rw [HS.out];simp [h2])]);have h2i:¬(f.aF.length:Int)=0:=by omega
        clear HM HM2 HS;go_wp2_with fail
        exact ⟨⟨k+1,by simp,hlt,HM3.out,HG.out.trans HGB.out⟩,by simp [intOf];omega⟩
    · have HM3:Hid (iu u (u.aC.drop (k+1))=jV u):=aH (by rw [HM2.out,if_neg (by rw [HS.out];simp [h1])]);have hnl:¬s.toList= [109,97,105,110]:=by rw [ByteArray.toList_eq];exact fun h=>h1 ((mN rfl).2 h)
      clear HM HM2 HS;go_wp2_with fail
      exact ⟨⟨k+1,by simp,hlt,HM3.out,HG.out.trans HGB.out⟩,by simp [intOf];omega⟩
  · have hkk:k=u.aC.length:=by omega
    subst hkk;have HM3:Hid (jV u=none):=aH (by rw [←HM.out];simp [iu]);clear hlt hk;go_wp2_with fail
    exact bodyPost_ret (v:=.tuple #[.int .i64 0,.bool false]) (by simp [results,Tryz.results65,go_sem]) rfl ⟨by rw [HM3.out];rfl,HG0.out.trans HG.out⟩
open Go.RowKit
attribute [local go_sem ↓] Go.wp_at_zero Go.wp_at_succ
def fR(q:Nat)(f:aO):PM:=⟨⟨q,0,fS f.aG.length,[]⟩,[],[],0,[]⟩
def dH(fuel heap:Nat)(u:aK):i4:=match jV u with
 | none=>⟨5,0,0,0,0,[],0⟩
 | some q=>match u.aE[q]? with
  | none=>⟨5,0,0,0,0,[],0⟩
  | some f=>b7 u heap fuel 0 (fR q f)
theorem su{us:List aK}{u:aK}(h:bw us=.inl u):u.aB= []:=by
 cases us with
 | nil=>simp [bw] at h
 | cons a t=>
  rw [bw] at h;dsimp only at h
  repeat' split at h
  all_goals first
   |(cases h;done)
   |(cases h;rfl)
theorem wL{u:aK}(h:aa u=(0,0,0)):ak u=true:=by
 unfold aa at h;by_cases hu:ak u=true
 · exact hu
 · rw [if_neg hu] at h;simp at h
theorem wR{u:aK}{Ts:Nat→Nat→Option (List Int)}{q:Nat}{f:aO}(hT:∀n f,u.aE[n]? =some f→yG u f (Ts n))(hf:u.aE[q]? =some f)(hp:f.aF= [])(hr:f.result=0):wq u Ts [] (fR q f):=by
 refine ⟨⟨f,[],hf,(hT q f hf).zero,?_,.nil _,by simp⟩,trivial,⟨f,hf,hr⟩,by show 0≤99;omega,rfl,fun j k fs hj=>by simp at hj,by show 0≤1000;omega⟩;rw [hp,List.nil_append];exact .zeros _ _
theorem lj(u:aK)(heap:Nat):∀(n s:Nat) (m:PM),(b7 u heap n s m).unit=0∧(b7 u heap n s m).at_=0∧(b7 u heap n s m).e=0
 | 0,s,m=>⟨rfl,rfl,rfl⟩
 | n+1,s,m=>by
  rw [b7];cases dI u heap m with
  | go m'=>exact lj u heap n (s+1) m'
  | stop why res m'=>exact ⟨rfl,rfl,rfl⟩
theorem xZ{C:MC}{w:World}{ρ:Nat→bC}{nm fbn:Nat→Nat}{cs:Nat→Int}{ct:Int}{L:List dA}{bs:List (List PV)}{tk:Nat}{told:List Int}(h:MW C w ρ nm fbn cs ct L bs tk told):∃vf vt,wu C w ρ fbn L.length (tk:Int) ct told vf vt∧bY C.V.heap.size w vt told:=by
 obtain ⟨vf,vt,hm⟩:=h.mb;refine ⟨vf,vt,hm,?_⟩;obtain ⟨ao,cap,rfl⟩:=aL hm.tl;refine ⟨ao,cap,rfl,gd hm.tl,fun i y hi=>?_⟩;have hl:i < told.length:=(List.getElem?_eq_some_iff.1 hi).1;obtain ⟨b,cp,e1,e2⟩:=dN hm.tl (j:=i) (by omega);simp only [Value.slice.injEq,true_and] at e1;refine ⟨b,0,e1.1,(h.lo b (by rw [hm.rt b (by rw [e1.1];rfl)];nofun)).1,?_⟩;rw [Nat.zero_add,e2,eh,List.getElem?_map,hi];rfl
theorem Ci(fuel heap:Nat)(hf:fuel≤200000)(hh:heap≤10000000)(u:aK)(V:World)(v:Value)(him:u.aB= [])(hver:aa u=(0,0,0))(hR:cD V v u):
 Calls Tryz.prog 31 #[v,.int .i64 (fuel:Int),.int .i64 (heap:Int)] V fun x w'=>∃vo,x=.returned vo∧rn V.heap.size w' vo (dH fuel heap u)∧Gr V w':=by
 have hok:=vL.of (wL hver);obtain ⟨Ts,hT⟩:∃Ts:Nat→Nat→Option (List Int),∀n f,u.aE[n]? =some f→yG u f (Ts n):=by
  have h:=rP (wL hver) hver;refine ⟨fun n=>if hn:n < u.aE.length then (h u.aE[n] (List.getElem_mem hn)).choose else fun _=>none,fun n f hf=>?_⟩;obtain ⟨hn,rfl⟩:=List.getElem?_eq_some_iff.1 hf;simp only [hn,dif_pos];exact (h u.aE[n] (List.getElem_mem hn)).choose_spec
 have hRU:=hR;obtain ⟨a1,a2,a3,a4,a5,c1,c2,c3,c4,c5,rfl,r1,r2,r3,r4,r5⟩:=hR.parts;have g0:=(Gr.refl V).alloc (.cells #[.slice a1 u.aA.length c1,.slice a2 u.aD.length c2,.slice a3 u.aE.length c3,.slice a4 u.aB.length c4,.slice a5 u.aC.length c5] 33);have hb0:=heap_alloc_new V (.cells #[.slice a1 u.aA.length c1,.slice a2 u.aD.length c2,.slice a3 u.aE.length c3,.slice a4 u.aB.length c4,.slice a5 u.aC.length c5] 33);have hs0:(V.alloc (.cells #[.slice a1 u.aA.length c1,.slice a2 u.aD.length c2,.slice a3 u.aE.length c3,.slice a4 u.aB.length c4,.slice a5 u.aC.length c5] 33)).heap.size=V.heap.size+1:=by simp
 have g1:=(Gr.refl (V.alloc (.cells #[.slice a1 u.aA.length c1,.slice a2 u.aD.length c2,.slice a3 u.aE.length c3,.slice a4 u.aB.length c4,.slice a5 u.aC.length c5] 33))).alloc (.cells #[.int .i64 0,.int .i64 0,.int .i64 0,.int .i64 0,.int .i64 0,.slice none 0 0,.int .i64 0] 39);have hb1:=heap_alloc_new (V.alloc (.cells #[.slice a1 u.aA.length c1,.slice a2 u.aD.length c2,.slice a3 u.aE.length c3,.slice a4 u.aB.length c4,.slice a5 u.aC.length c5] 33)) (.cells #[.int .i64 0,.int .i64 0,.int .i64 0,.int .i64 0,.int .i64 0,.slice none 0 0,.int .i64 0] 39);rw [hs0] at hb1;have hb0':=(g1.block V.heap.size (by rw [hs0];omega) (by simp)).trans hb0;have HG1:=aH (g0.trans g1);have HB0:=aH hb0';have HB1:=aH hb1;have HMO:=aH (qm u hok _ _ (hRU.gr (g0.trans g1)));have HUW:Hid (∀mb,UW ⟨V,u,.slice a1 u.aA.length c1,.slice a2 u.aD.length c2,.slice a3 u.aE.length c3,.slice a4 u.aB.length c4,.slice a5 u.aC.length c5,mb,heap⟩):=aH (fun mb=>⟨hok,him,r1,r2,r3⟩);have HT:=aH hT;have HS2:Hid (((V.alloc (.cells #[.slice a1 u.aA.length c1,.slice a2 u.aD.length c2,.slice a3 u.aE.length c3,.slice a4 u.aB.length c4,.slice a5 u.aC.length c5] 33)).alloc (.cells #[.int .i64 0,.int .i64 0,.int .i64 0,.int .i64 0,.int .i64 0,.slice none 0 0,.int .i64 0] 39)).heap.size=V.heap.size+2):=aH (by simp);clear hR hRU r1 r2 r3 r4 r5 g0 hb0 hs0 g1 hb1 hb0' hT hok hver him;go_enter Tryz.func31,Tryz.ntmps31
 go_wp2_with fail
 refine HMO.out.mono ?_;rintro e w2 ⟨rfl,hg2⟩;have HG2:=aH (HG1.out.trans hg2);have HC0:=aH ((hg2.block _ (by rw [HS2.out];omega) (by simp)).trans HB0.out);have HC1:=aH ((hg2.block _ (by rw [HS2.out];omega) (by simp)).trans HB1.out);clear hg2 HB0 HB1 HMO HG1 HS2;generalize (V.alloc (.cells #[.slice a1 u.aA.length c1,.slice a2 u.aD.length c2,.slice a3 u.aE.length c3,.slice a4 u.aB.length c4,.slice a5 u.aC.length c5] 33)).alloc (.cells #[.int .i64 0,.int .i64 0,.int .i64 0,.int .i64 0,.int .i64 0,.slice none 0 0,.int .i64 0] 39)=W1;have hrr:=fW HC1.out;obtain ⟨⟨s0,s1,s2,s3,s4,s5,s6⟩,⟨y0,y1,y2,y3,y4,y5,y6⟩⟩:=hrr;cases hmp:jV u with
 | none=>
  have HFN:Hid (dH fuel heap u=⟨5,0,0,0,0,[],0⟩):=aH (by unfold dH;rw [hmp]);clear hmp HT HUW HC0;simp only [ur];go_wp2_with fail
  rw [BO];have hwb:=BE (y0:=.int .i64 5) (y1:=.int .i64 0) (y2:=.int .i64 0) (y3:=.int .i64 0) (y4:=.int .i64 0) (y5:=.slice none 0 0) (y6:=.int .i64 0) HC1.out;have hwf:∀k,¬k=V.heap.size+1→(eg w2 (V.heap.size+1) (.int .i64 5) (.int .i64 0) (.int .i64 0) (.int .i64 0) (.int .i64 0) (.slice none 0 0) (.int .i64 0)).heap[k]? =w2.heap[k]? :=fun k hk=>ev hk
  have hws:(eg w2 (V.heap.size+1) (.int .i64 5) (.int .i64 0) (.int .i64 0) (.int .i64 0) (.int .i64 0) (.slice none 0 0) (.int .i64 0)).heap.size=w2.heap.size:=ff;have hwe:=kZ w2 (V.heap.size+1) (.int .i64 5) (.int .i64 0) (.int .i64 0) (.int .i64 0) (.int .i64 0) (.slice none 0 0) (.int .i64 0);generalize eg w2 (V.heap.size+1) (.int .i64 5) (.int .i64 0) (.int .i64 0) (.int .i64 0) (.int .i64 0) (.slice none 0 0) (.int .i64 0)=WE at hwb hwf hws hwe ⊢;obtain ⟨dO,hu1⟩:=Tryz.undOut;refine bodyPost_ret (v:=.agg #[.int .i64 5,.int .i64 0,.int .i64 0,.int .i64 0,.int .i64 0,.slice none 0 0,.int .i64 0]) (results_cell_row rfl _ _ (V.heap.size+1) _ _ _ (.struct dO) rfl hwb hu1 rfl Tryz.sizOut) rfl ?_;rw [HFN.out];have g2:=HG2.out;exact ⟨_,rfl,⟨_,rfl,eQ _⟩,⟨hwe.1.trans g2.os,hwe.2.1.trans g2.tape,hwe.2.2.trans g2.output,by have:=g2.size;omega,fun b hb hne=>(hwf b (by omega)).trans (g2.block b hb hne)⟩⟩
 | some q=>
  obtain ⟨f,hq,hpa,hre⟩:=pe hmp;have HFN:Hid (dH fuel heap u=b7 u heap fuel 0 (fR q f)):=aH (by unfold dH;rw [hmp];simp only [hq]);have HSO:=aH (wR HT.out hq hpa hre);clear hmp;simp only [ur];have hsz:=HG2.out.size;have u0:w2.cell? ⟨V.heap.size,0,none⟩=some (.slice a1 u.aA.length c1):=by rw [aI HC0.out];rfl
  have u1:w2.cell? ⟨V.heap.size,1,none⟩=some (.slice a2 u.aD.length c2):=by rw [aI HC0.out];rfl
  have u2:w2.cell? ⟨V.heap.size,2,none⟩=some (.slice a3 u.aE.length c3):=by rw [aI HC0.out];rfl
  have u3:w2.cell? ⟨V.heap.size,3,none⟩=some (.slice a4 u.aB.length c4):=by rw [aI HC0.out];rfl
  have u4:w2.cell? ⟨V.heap.size,4,none⟩=some (.slice a5 u.aC.length c5):=by rw [aI HC0.out];rfl
  have HVS:Hid (V.heap.size+1 < w2.heap.size):=aH (Array.getElem?_eq_some_iff.1 HC1.out).1;have g3:=(Gr.refl w2).alloc (.cells #[.slice a1 u.aA.length c1,.slice a2 u.aD.length c2,.slice a3 u.aE.length c3,.slice a4 u.aB.length c4,.slice a5 u.aC.length c5,.slice none 0 0,.int .i64 (heap:Int),.int .i64 0,.int .i64 0,.slice none 0 0] 121);have hb3:=heap_alloc_new w2 (.cells #[.slice a1 u.aA.length c1,.slice a2 u.aD.length c2,.slice a3 u.aE.length c3,.slice a4 u.aB.length c4,.slice a5 u.aC.length c5,.slice none 0 0,.int .i64 (heap:Int),.int .i64 0,.int .i64 0,.slice none 0 0] 121);obtain ⟨C,hC⟩:∃C:MC,C=⟨V,u,.slice a1 u.aA.length c1,.slice a2 u.aD.length c2,.slice a3 u.aE.length c3,.slice a4 u.aB.length c4,.slice a5 u.aC.length c5,w2.heap.size,heap⟩:=⟨_,rfl⟩;have eV:C.V=V:=by rw [hC]
  have eu:C.u=u:=by rw [hC]
  have emb:C.mb=w2.heap.size:=by rw [hC]
  have ehp:C.heap=heap:=by rw [hC]
  have hUW:UW C:=by rw [hC];exact HUW.out _
  have hM3:MW C (w2.alloc (.cells #[.slice a1 u.aA.length c1,.slice a2 u.aD.length c2,.slice a3 u.aE.length c3,.slice a4 u.aB.length c4,.slice a5 u.aC.length c5,.slice none 0 0,.int .i64 (heap:Int),.int .i64 0,.int .i64 0,.slice none 0 0] 121)) (fun b=>if b=w2.heap.size then .mach else .no) (fun _=>0) (fun _=>0) (fun _=>0) 0 [] [] 0 []:=by
   refine ⟨by rw [eV];exact HG2.out.trans g3,fun b hb=>?_,⟨.slice none 0 0,.slice none 0 0,⟨?_,World.ownsRow_nil _ _ _ _,World.ownsRow_nil _ _ _ _,?_,fun b hb=>(by cases hb),fun b hb=>(by cases hb)⟩⟩,trivial,fun j fs hj=>by simp at hj⟩
   · by_cases e:b=w2.heap.size
     · subst e;rw [eV];exact ⟨hsz,by simp⟩
     · simp [e] at hb
   · rw [hC];exact hb3
   · show (if C.mb=w2.heap.size then bC.mach else bC.no)=_
     rw [if_pos emb]
  have hen:=o_ (q:=q) (g:=f) (ps:= []) (vp:=.slice none 0 0) hM3 (an.refl _ _) (by rw [eV];have:=g3.size;omega) hUW.fu (by rw [eu];exact hq) hUW.ok.few.2.2 (World.ownsRow_nil _ _ _ _) (fun k hk=>by cases hk) (by simp) (by have:=(hUW.ok.func f (by rw [eu];exact List.mem_of_getElem? hq)).2.1;simp;omega);have HEN:=aH hen;have HRN:Hid (∀(w4:World) (ρ4:Nat→bC) (fbn4:Nat→Nat),MW C w4 ρ4 (fun _=>0) fbn4 (fun _=>0) 0 [⟨q,0,fS f.aG.length,[]⟩] [] 0 []→Calls Tryz.prog 67 #[.pointer (some ⟨C.mb,0,none⟩),.pointer (some ⟨fbn4 0,0,none⟩),.int .i64 (fuel:Int)] w4 fun e w'=>e=.returned (.agg #[.int .i64 (b7 u heap fuel 0 (fR q f)).why,.int .i64 0,.int .i64 0,.int .i64 0,.int .i64 (b7 u heap fuel 0 (fR q f)).result,.slice none 0 0,.int .i64 (b7 u heap fuel 0 (fR q f)).steps])∧mc C w4 ρ4 (b7 u heap fuel 0 (fR q f)) w'):=aH (fun w4 ρ4 fbn4 hM4=>Cw C Ts w4 ρ4 (fun _=>0) fbn4 (fun _=>0) (fR q f) [] fuel hf (by rw [ehp];exact hh) hUW (by rw [eu];exact HT.out) hM4 (by rw [eu];exact HSO.out) rfl rfl _ (by rw [eu,ehp]));have HLW:Hid (∀b,V.heap.size≤b→b < w2.heap.size→(fun b=>if b=w2.heap.size then bC.mach else bC.no) b=bC.no):=aH (fun b _ hb=>if_neg (by omega));have HC13:=aH ((g3.block _ HVS.out (by simp)).trans HC1.out);have HG3:=aH (HG2.out.trans g3);have HS3:Hid ((w2.alloc (.cells #[.slice a1 u.aA.length c1,.slice a2 u.aD.length c2,.slice a3 u.aE.length c3,.slice a4 u.aB.length c4,.slice a5 u.aC.length c5,.slice none 0 0,.int .i64 (heap:Int),.int .i64 0,.int .i64 0,.slice none 0 0] 121)).heap.size=w2.heap.size+1):=aH (by simp);rw [←HFN.out] at HRN;have HFP:Hid ((dH fuel heap u).unit=0∧(dH fuel heap u).at_=0∧(dH fuel heap u).e=0):=aH (by rw [HFN.out];exact lj _ _ _ _ _);clear hen hM3 hb3 hUW hq hpa hre HSO HFN HC0 s0 s1 s2 s3 s4 s5 s6 y0 y1 y2 y3 y4 y5 y6;rw [emb] at HEN HRN;have HEMB:=aH emb;have HEV:=aH eV;clear emb eV eu ehp hC;generalize hF:dH fuel heap u=FIN at HRN HFP ⊢
  have HF:=aH hF;clear hF;go_upto_region 5 with fail
  clear u0 u1 u2 u3 u4;generalize w2.alloc (.cells #[.slice a1 u.aA.length c1,.slice a2 u.aD.length c2,.slice a3 u.aE.length c3,.slice a4 u.aB.length c4,.slice a5 u.aC.length c5,.slice none 0 0,.int .i64 (heap:Int),.int .i64 0,.int .i64 0,.slice none 0 0] 121)=W3 at HEN HC13 HG3 HS3 g3 ⊢;go_wp2_with fail
  refine HEN.out.mono ?_;rintro e w4 ⟨ρ4,fbn4,rfl,hM4,hK4⟩;have hc4:=hK4.keepAt HC13.out (HLW.out _ (by omega) HVS.out);have HR4:=aH (HRN.out _ _ _ hM4);have HC4:=aH hc4;have HK4:=aH hK4;clear hM4 hK4 hc4 HRN HEN HC13;go_wp2_with fail
  refine HR4.out.mono ?_;rintro e w5 ⟨rfl,ρ5,nm5,fbn5,cs5,ct5,L5,bs5,tk5,hM5,hK5⟩;obtain ⟨vf5,vt5,hm5,hto5⟩:=xZ hM5;have hc5:=hK5.keepAt HC4.out.1 HC4.out.2;have hbx:=hm5.box;rw [HEMB.out] at hbx;have g6:=(Gr.refl w5).alloc (.cells #[.int .i64 FIN.why,.int .i64 0,.int .i64 0,.int .i64 0,.int .i64 FIN.result,.slice none 0 0,.int .i64 FIN.steps] 39);have hb6:=heap_alloc_new w5 (.cells #[.int .i64 FIN.why,.int .i64 0,.int .i64 0,.int .i64 0,.int .i64 FIN.result,.slice none 0 0,.int .i64 FIN.steps] 39);obtain ⟨ta,tc,rfl⟩:∃a c,vt5=.slice a FIN.told.length c:=aL hm5.tl;have m9:=g6.cell (show w5.cell? ⟨w2.heap.size,9,none⟩=some (.slice ta FIN.told.length tc) by rw [aI hbx];rfl) (by simp);have HM9:=aH m9;have hrl:=(Array.getElem?_eq_some_iff.1 hc5.1).1;have HC6:=aH ((g6.block _ hrl (by simp)).trans hc5.1);have HB6:=aH hb6;have HTO:=aH hto5;have HOB:Hid (V.heap.size+1 < w5.heap.size):=aH hrl;have HG6:Hid (Gr V w5):=aH (by have:=hM5.gr;rw [HEV.out] at this;exact this);have HRB5:=aH hc5.2;have HBT:Hid (∀b,(Value.slice ta FIN.told.length tc).ownBlock=some b→¬b=V.heap.size+1∧b < w5.heap.size):=aH (fun b hb=>⟨fun e=>(by have:=hm5.rt b hb;rw [e,hc5.2] at this;cases this),(hm5.tl.lt b hb).2⟩);rw [HEV.out] at HTO;clear hM5 hK5 hm5 hto5 hc5 hbx g6 hb6 m9 hrl;go_upto_region 7 with fail
  generalize hW6:w5.alloc (.cells #[.int .i64 FIN.why,.int .i64 0,.int .i64 0,.int .i64 0,.int .i64 FIN.result,.slice none 0 0,.int .i64 FIN.steps] 39)=W6 at HC6 HB6 HM9 ⊢;have HG56:Hid (Gr w5 W6):=aH (by rw [←hW6];exact (Gr.refl w5).alloc _);clear hW6;have m9:=HM9.out;have h5c:=(fW HB6.out);have o5:W6.cell? ⟨w5.heap.size,5,none⟩=some (.slice none 0 0):=h5c.1.2.2.2.2.2.1;have z5:W6.frozen? ⟨w5.heap.size,5,none⟩=false:=h5c.2.2.2.2.2.2.1;have HB7:=aH ((heap_setCell_same W6 w5.heap.size 5 _ _ (.slice ta FIN.told.length tc) HB6.out).trans (by simp:_=some (.cells #[.int .i64 FIN.why,.int .i64 0,.int .i64 0,.int .i64 0,.int .i64 FIN.result,.slice ta FIN.told.length tc,.int .i64 FIN.steps] 39 (0,0))));have HC7:=aH ((Below.heap_setCell W6 ⟨w5.heap.size,5,none⟩ (.slice ta FIN.told.length tc) (V.heap.size+1) (by show V.heap.size+1≠w5.heap.size;have:=HOB.out;omega)).trans HC6.out);clear h5c;go_upto_region 8 with fail
  clear m9 o5 z5;have hoth:∀b,¬b=w5.heap.size→¬b=V.heap.size+1→∀row,((W6.setCell ⟨w5.heap.size,5,none⟩ (.slice ta FIN.told.length tc)).setRow (V.heap.size+1) row).heap[b]? =W6.heap[b]? :=fun b h1 h2 row=>(setRow_other _ _ _ _ h2).trans (Below.heap_setCell _ _ _ _ h1)
  have HOTH:=aH hoth;clear hoth;have HWZ:Hid ((W6.setCell ⟨w5.heap.size,5,none⟩ (.slice ta FIN.told.length tc)).heap.size=W6.heap.size∧(W6.setCell ⟨w5.heap.size,5,none⟩ (.slice ta FIN.told.length tc)).os=W6.os∧(W6.setCell ⟨w5.heap.size,5,none⟩ (.slice ta FIN.told.length tc)).tape=W6.tape∧(W6.setCell ⟨w5.heap.size,5,none⟩ (.slice ta FIN.told.length tc)).output=W6.output):=aH ⟨by simp,rfl,rfl,rfl⟩;generalize W6.setCell ⟨w5.heap.size,5,none⟩ (.slice ta FIN.told.length tc)=W7 at HB7 HC7 HOTH HWZ ⊢;obtain ⟨dO,hu1⟩:=Tryz.undOut;refine wp_region_lit ?_;refine wpList_load_row rfl 39 _ rfl w5.heap.size rfl _ _ _ (.struct dO) HB7.out hu1 rfl Tryz.sizOut ?_;refine wpList_store_row rfl 39 _ _ rfl (V.heap.size+1) #[.int .i64 FIN.why,.int .i64 0,.int .i64 0,.int .i64 0,.int .i64 FIN.result,.slice ta FIN.told.length tc,.int .i64 FIN.steps] rfl rfl _ _ HC7.out Tryz.sizOut rfl (by simp [Value.oneCell']) ?_;have HU1:=aH hu1;clear hu1;have HB8:=aH (setRow_heap W7 (V.heap.size+1) _ #[.int .i64 FIN.why,.int .i64 0,.int .i64 0,.int .i64 0,.int .i64 FIN.result,.slice ta FIN.told.length tc,.int .i64 FIN.steps] _ _ HC7.out);have HOT8:Hid (∀b,¬b=w5.heap.size→¬b=V.heap.size+1→(W7.setRow (V.heap.size+1) #[.int .i64 FIN.why,.int .i64 0,.int .i64 0,.int .i64 0,.int .i64 FIN.result,.slice ta FIN.told.length tc,.int .i64 FIN.steps]).heap[b]? =W6.heap[b]?):=aH (fun b h1 h2=>HOTH.out b h1 h2 _);have HSZ8:Hid ((W7.setRow (V.heap.size+1) #[.int .i64 FIN.why,.int .i64 0,.int .i64 0,.int .i64 0,.int .i64 FIN.result,.slice ta FIN.told.length tc,.int .i64 FIN.steps]).heap.size=W6.heap.size∧(W7.setRow (V.heap.size+1) #[.int .i64 FIN.why,.int .i64 0,.int .i64 0,.int .i64 0,.int .i64 FIN.result,.slice ta FIN.told.length tc,.int .i64 FIN.steps]).os=W6.os∧(W7.setRow (V.heap.size+1) #[.int .i64 FIN.why,.int .i64 0,.int .i64 0,.int .i64 0,.int .i64 FIN.result,.slice ta FIN.told.length tc,.int .i64 FIN.steps]).tape=W6.tape∧(W7.setRow (V.heap.size+1) #[.int .i64 FIN.why,.int .i64 0,.int .i64 0,.int .i64 0,.int .i64 FIN.result,.slice ta FIN.told.length tc,.int .i64 FIN.steps]).output=W6.output):=aH ⟨by rw [setRow_size];exact HWZ.out.1,HWZ.out.2.1,HWZ.out.2.2.1,HWZ.out.2.2.2⟩
  generalize W7.setRow (V.heap.size+1) #[.int .i64 FIN.why,.int .i64 0,.int .i64 0,.int .i64 0,.int .i64 FIN.result,.slice ta FIN.told.length tc,.int .i64 FIN.steps]=W8 at HB8 HOT8 HSZ8 ⊢;go_wp2_with fail
  refine bodyPost_ret (v:=.agg #[.int .i64 FIN.why,.int .i64 0,.int .i64 0,.int .i64 0,.int .i64 FIN.result,.slice ta FIN.told.length tc,.int .i64 FIN.steps]) (results_cell_row rfl _ _ (V.heap.size+1) _ _ _ (.struct dO) rfl HB8.out HU1.out rfl Tryz.sizOut) rfl ?_;rw [HF.out];have gw:=HG6.out.trans HG56.out;have hVo:=HOB.out;have gsz:=HG56.out.size;refine ⟨_,rfl,⟨.slice ta FIN.told.length tc,by rw [HFP.out.1,HFP.out.2.1,HFP.out.2.2],?_⟩,⟨HSZ8.out.2.1.trans gw.os,HSZ8.out.2.2.1.trans gw.tape,HSZ8.out.2.2.2.trans gw.output,by have:=gw.size;have:=HSZ8.out.1;omega,fun b hb hne=>(HOT8.out b (by omega) (by omega)).trans (gw.block b hb hne)⟩⟩;obtain ⟨ao,cap,e1,e2,hcl⟩:=HTO.out;refine ⟨ao,cap,e1,e2,fun i y hi=>?_⟩;obtain ⟨b,off,f1,f2,f3⟩:=hcl i y hi;refine ⟨b,off,f1,f2,?_⟩;have hb:(Value.slice ta FIN.told.length tc).ownBlock=some b:=by rw [e1,f1];rfl
  obtain ⟨n1,n2⟩:=HBT.out b hb;have e3:W8.heap[b]? =w5.heap[b]? :=(HOT8.out b (by omega) n1).trans (HG56.out.block b n2 (by simp));unfold World.cell? at f3 ⊢;rw [show W8.heap[(⟨b,off+i,none⟩:Addr).block]? =w5.heap[(⟨b,off+i,none⟩:Addr).block]? from e3];exact f3
theorem wC(fuel heap:Nat)(hf:fuel≤200000)(hh:heap≤10000000)(us:List aK):uY (dH fuel heap) (fuel:Int) (heap:Int) us:=fun u V v hl hv hR=>Ci fuel heap hf hh u V v (su hl) hv hR
end Go.Proofs.YtkgncijcnlfhiaaGreat
