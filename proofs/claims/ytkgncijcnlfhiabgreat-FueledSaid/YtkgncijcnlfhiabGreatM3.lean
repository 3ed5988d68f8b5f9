import Derived.Test.YtkgncijcnlfhiabGreatMv
import Derived.Test.YtkgncijcnlfhiabGreatNs
import Derived.BigRegion
import Derived.Test.YtkgncijcnlfhiabGreatQ3
import Derived.Test.YtkgncijcnlfhiabGreatZn
import Derived.Test.YtkgncijcnlfhiabGreatE1
import Derived.Laws.IdiomStrings
namespace Go.Proofs.YtkgncijcnlfhiabGreat
set_option maxRecDepth 100000
set_option maxHeartbeats 2000000
set_option linter.unusedVariables false
set_option linter.unusedSimpArgs false
open Go.RowKit
attribute [local go_sem ↓] Go.wp_at_zero Go.wp_at_succ
def nM(u:aK)(e:dq):Bool:=decide (e.name= [109,97,105,110]) && (match u.aE[e.func.toNat]? with
 | some f=>decide (f.aF= []) && decide (f.result=0)
 | none=>false)
def jj(u:aK):List dq->Option Nat
 | []=>none
 | e :: l=>if nM u e=true then some e.func.toNat else jj u l
def jf(u:aK):Option Nat:=jj u u.aC
def xz:Option Nat->Value
 | none=>.tuple #[.int .i64 0,.bool false]
 | some q=>.tuple #[.int .i64 (q:Int),.bool true]
theorem mt{u:aK}{q:Nat}:∀{l:List dq},jj u l=some q->∃f,u.aE[q]? =some f/\f.aF= []/\f.result=0
 | [],h=>by cases h
 | e :: l,h=>by
  rw [jj] at h;split at h
  · rename_i hm
    cases h
    unfold nM at hm;cases hf:u.aE[e.func.toNat]? with
    | none=>rw [hf] at hm;simp at hm
    | some f=>
     rw [hf] at hm;simp only [Bool.and_eq_true,decide_eq_true_eq] at hm;exact ⟨f,rfl,hm.2.1,hm.2.2⟩
  · exact mt h
theorem nJ{s:ByteArray}{l:List UInt8}(h:s.data.toList=l):s=⟨#[109,97,105,110]⟩↔l= [109,97,105,110]:=by
 constructor
 · rintro rfl;exact h.symm
 · rintro rfl;obtain ⟨d⟩:=s;congr 1
   exact Array.toList_inj.1 h
theorem sj(u:aK)(hu:rZ u)(V:World)(v:Value)(hR:cO V v u):
 Calls Tryz.prog 49 #[v] V fun x w'=>x=.returned (xz (jf u))/\Gr V w':=by
 obtain ⟨a1,a2,a3,a4,a5,c1,c2,c3,c4,c5,rfl,r1,r2,r3,r4,r5⟩:=hR.parts;have g0:=(Gr.refl V).alloc (.cells #[.slice a1 u.aA.length c1,.slice a2 u.aD.length c2,.slice a3 u.aE.length c3,.slice a4 u.aB.length c4,.slice a5 u.aC.length c5] 29);have D4:=heap_alloc_new V (.cells #[.slice a1 u.aA.length c1,.slice a2 u.aD.length c2,.slice a3 u.aE.length c3,.slice a4 u.aB.length c4,.slice a5 u.aC.length c5] 29);have D7:=aH g0;have HU:=aH hu;have Ld:=aH r3;have Ei:=aH r5;have H6:Hid (∀w',Gr (V.alloc (.cells #[.slice a1 u.aA.length c1,.slice a2 u.aD.length c2,.slice a3 u.aE.length c3,.slice a4 u.aB.length c4,.slice a5 u.aC.length c5] 29)) w'->w'.cell? ⟨V.heap.size,2,none⟩=some (.slice a3 u.aE.length c3)):=aH (fun w' g=>g.cell (by rw [aJ D4];rfl) Q6);have hxl:=hu.exps.1;clear hR r1 r2 r3 r4 r5 g0 D4 hu;go_enter Tryz.func49,Tryz.ntmps49
 go_wp2_with fail
 generalize V.alloc (.cells #[.slice a1 u.aA.length c1,.slice a2 u.aD.length c2,.slice a3 u.aE.length c3,.slice a4 u.aB.length c4,.slice a5 u.aC.length c5] 29)=W0 at D7 H6 |-;generalize X':V.heap.size=ub at H6 |-;clear X';go_loopw [10] (fun i wr=>∃k:Nat,i=.int .i64 (k:Int)/\k<=u.aC.length/\jj u (u.aC.drop k)=jf u/\Gr W0 wr) (fun i _=>u.aC.length - (intOf i).toNat)
 case atStart=>exact ⟨0,rfl,Nat.zero_le _,rfl,Gr.refl _⟩
 case round=>
  obtain ⟨k,rfl,hk,hm,hg⟩:=hrel;have HG:=aH hg;have HM:=aH hm;clear hg hm;by_cases J0:k < u.aC.length
  · have Hf:(k:Int) < (u.aC.length:Int):=by omega
    have hw:IntKind.i64.wrap ((k:Int)+1)=(k:Int)+1:=Q_;obtain ⟨e,he⟩:∃e,u.aC[k]? =some e:=⟨_,List.getElem?_eq_getElem J0⟩;have KL:u.aC.drop k=e :: u.aC.drop (k+1):=by
     rw [List.drop_eq_getElem_cons J0];rw [List.getElem?_eq_getElem J0] at he;cases he;rfl
    obtain ⟨ao,cap,e1,_,hx⟩:=Ei.out;cases e1
    obtain ⟨b,off,vs,rfl,q0,q1,s,rfl,hsl,_⟩:=hx k e he;have Im:=HU.out.exps.2 e (List.mem_of_getElem? he);obtain ⟨f,hf⟩:∃f,u.aE[e.func.toNat]? =some f:=⟨_,List.getElem?_eq_getElem Q5⟩;obtain ⟨N_,KU,e3,_,Wv⟩:=Ld.out;cases e3
    obtain ⟨b3,X6,vp,vl,vc,rfl,p0,p1,p2,p3,rp,rl,rc⟩:=Wv _ f hf;obtain ⟨pa,pc,rfl,_⟩:=rp;obtain ⟨la,lc,rfl,_⟩:=rl;obtain ⟨ca,cc,rfl,_⟩:=rc;have q0:=(D7.out.trans HG.out).cell q0 Q6;have q1:=(D7.out.trans HG.out).cell q1 Q6;have p0:=(D7.out.trans HG.out).cell p0 Q6;have p1:=(D7.out.trans HG.out).cell p1 Q6;have p2:=(D7.out.trans HG.out).cell p2 Q6;have p3:=(D7.out.trans HG.out).cell p3 Q6;have VL:wr.cell? ⟨ub,2,none⟩=some (.slice (some ⟨b3,X6,none⟩) u.aE.length c3):=H6.out _ HG.out;have Xw:=nJ hsl;have Xu:=aH Im;have Nj:(e.func.toNat:Int) < (u.aE.length:Int):=Q5
    have GJ:e.func.toNat < u.aE.length:=Q5
    have HQ:Hid (e.func=(e.func.toNat:Int)):=aH Q5;rw [HQ.out] at q1;have HS:Hid (nM u e=(decide (s=⟨#[109,97,105,110]⟩) && (decide (f.aF.length=0) && decide (f.result=0)))):=aH (by
     unfold nM;rw [hf];have h1:decide (e.name= [109,97,105,110])=decide (s=⟨#[109,97,105,110]⟩):=by simp only [Xw]
     have h2:decide (f.aF= [])=decide (f.aF.length=0):=Q6
     rw [h1];simp only [h2])
    have HD:=aH KL;have HM2:Hid (jf u=if nM u e=true then some e.func.toNat else jj u (u.aC.drop (k+1))):=aH (by rw [<-HM.out,HD.out,jj]);clear he KL hx Wv hf Xw Im hsl;generalize hQQ:e.func.toNat=q at q1 p0 p1 p2 p3 Nj GJ HM2;clear hQQ;generalize u.aE.length=nf at VL Nj GJ;have gA:=(Gr.refl wr).alloc (.cells #[.string s,.int .i64 (q:Int)] 60);have Hv:=heap_alloc_new wr (.cells #[.string s,.int .i64 (q:Int)] 60);have S7:=aH gA;have Pc:=aH Hv;have HP:=aH (And.intro (gA.cell p0 Q6) (And.intro (gA.cell p1 Q6) (And.intro (gA.cell p2 Q6) (And.intro (gA.cell p3 Q6) (gA.cell VL Q6)))));clear gA Hv p0 p1 p2 p3 VL;go_upto_region 4 with fail
    generalize wr.alloc (.cells #[.string s,.int .i64 (q:Int)] 60)=W4 at S7 Pc HP |-;have y1:W4.cell? ⟨wr.heap.size,1,none⟩=some (.int .i64 (q:Int)):=by rw [aJ Pc.out];rfl
    obtain ⟨p0,p1,p2,p3,VL⟩:=HP.out;have gB:=(Gr.refl W4).alloc (.cells #[.slice pa f.aF.length pc,.int .i64 f.result,.slice la f.aG.length lc,.slice ca f.code.length cc] 47);have hbB:=heap_alloc_new W4 (.cells #[.slice pa f.aF.length pc,.int .i64 f.result,.slice la f.aG.length lc,.slice ca f.code.length cc] 47);have QP:wr.heap.size < W4.heap.size:=(Array.getElem?_eq_some_iff.1 Pc.out).1;have HX:=aH ((gB.block _ QP Q6).trans Pc.out);have Tb:=aH (S7.out.trans gB);have Kd:=aH hbB;clear gB hbB QP HP;go_upto_region 5 with fail
    clear p0 p1 p2 p3 VL y1 q0 q1;generalize W4.alloc (.cells #[.slice pa f.aF.length pc,.int .i64 f.result,.slice la f.aG.length lc,.slice ca f.code.length cc] 47)=W5 at HX Tb Kd |-;have x0:W5.cell? ⟨wr.heap.size,0,none⟩=some (.string s):=by rw [aJ HX.out];rfl
    have x1:W5.cell? ⟨wr.heap.size,1,none⟩=some (.int .i64 (q:Int)):=by rw [aJ HX.out];rfl
    have z0:W5.cell? ⟨W4.heap.size,0,none⟩=some (.slice pa f.aF.length pc):=by rw [aJ Kd.out];rfl
    have z1:W5.cell? ⟨W4.heap.size,1,none⟩=some (.int .i64 f.result):=by rw [aJ Kd.out];rfl
    clear HX Kd Pc S7;by_cases h1:s=⟨#[109,97,105,110]⟩
    · subst h1;by_cases h2:f.aF.length=0
      · by_cases h3:f.result=0
        · have Qa:Hid (jf u=some q):=aH (by rw [HM2.out,if_pos (by rw [HS.out];simp [h2,h3])]);rw [h2] at z0;rw [h3] at z1;clear HM HM2 HS h2 h3;go_wp2_with fail
          exact bodyPost_ret (v:=.tuple #[.int .i64 (q:Int),.bool true]) (by simp [results,Tryz.results49,go_sem]) rfl ⟨by rw [Qa.out];rfl,D7.out.trans (HG.out.trans Tb.out)⟩
        · have Qa:Hid (jj u (u.aC.drop (k+1))=jf u):=aH (by rw [HM2.out,if_neg (by rw [HS.out];simp [h3])]);rw [h2] at z0;clear HM HM2 HS h2;go_wp2_with fail
          exact ⟨⟨k+1,Q6,J0,Qa.out,HG.out.trans Tb.out⟩,by simp [intOf];omega⟩
      · have Qa:Hid (jj u (u.aC.drop (k+1))=jf u):=aH (by rw [HM2.out,if_neg (by rw [HS.out];simp [h2])]);have h2i:¬(f.aF.length:Int)=0:=by omega
        clear HM HM2 HS;go_wp2_with fail
        exact ⟨⟨k+1,Q6,J0,Qa.out,HG.out.trans Tb.out⟩,by simp [intOf];omega⟩
    · have Qa:Hid (jj u (u.aC.drop (k+1))=jf u):=aH (by rw [HM2.out,if_neg (by rw [HS.out];simp [h1])]);have Nx:¬s.toList= [109,97,105,110]:=by rw [ByteArray.toList_eq];exact fun h=>h1 ((nJ rfl).2 h)
      clear HM HM2 HS;go_wp2_with fail
      exact ⟨⟨k+1,Q6,J0,Qa.out,HG.out.trans Tb.out⟩,by simp [intOf];omega⟩
  · have L7:k=u.aC.length:=by omega
    subst L7;have Qa:Hid (jf u=none):=aH (by rw [<-HM.out];simp [jj]);clear J0 hk;go_wp2_with fail
    exact bodyPost_ret (v:=.tuple #[.int .i64 0,.bool false]) (by simp [results,Tryz.results49,go_sem]) rfl ⟨by rw [Qa.out];rfl,D7.out.trans HG.out⟩
open Go.RowKit
attribute [local go_sem ↓] Go.wp_at_zero Go.wp_at_succ
def eY(q:Nat)(f:aO):PM:=⟨⟨q,0,fQ f.aG.length,[]⟩,[],[],0,[]⟩
def gL(fuel heap:Nat)(u:aK):i9:=match jf u with
 | none=>⟨5,0,0,0,0,[],0⟩
 | some q=>match u.aE[q]? with
  | none=>⟨5,0,0,0,0,[],0⟩
  | some f=>eD u heap fuel 0 (eY q f)
theorem oV{us:List aK}{u:aK}(h:cR us=.inl u):u.aB= []:=by
 cases us with
 | nil=>simp [cR] at h
 | cons a t=>
  rw [cR] at h;dsimp only at h
  repeat' split at h
  all_goals first
   |(cases h;done)
   |(cases h;rfl)
theorem pY{u:aK}(h:aY u=(0,0,0)):ai u=true:=by
 unfold aY at h;by_cases hu:ai u=true
 · exact hu
 · rw [if_neg hu] at h;simp at h
theorem qL{u:aK}{Ts:Nat->Nat->Option (List Int)}{q:Nat}{f:aO}(hT:∀n f,u.aE[n]? =some f->tf u f (Ts n))(hf:u.aE[q]? =some f)(hp:f.aF= [])(hr:f.result=0):oD u Ts [] (eY q f):=by
 refine ⟨⟨f,[],hf,(hT q f hf).zero,?_,.nil _,Q6⟩,trivial,⟨f,hf,hr⟩,by show 0<=99;omega,rfl,fun j k fs hj=>by simp at hj,by show 0<=1000;omega⟩;rw [hp,List.nil_append];exact .zeros _ _
theorem mi(u:aK)(heap:Nat):∀(n s:Nat) (m:PM),(eD u heap n s m).unit=0/\(eD u heap n s m).at_=0/\(eD u heap n s m).e=0
 | 0,s,m=>⟨rfl,rfl,rfl⟩
 | n+1,s,m=>by
  rw [eD];cases bh u heap m with
  | go m'=>exact mi u heap n (s+1) m'
  | stop why res m'=>exact ⟨rfl,rfl,rfl⟩
theorem yv{C:MC}{w:World}{ρ:Nat->bD}{nm I0:Nat->Nat}{cs:Nat->Int}{ct:Int}{L:List ch}{bs:List (List PV)}{tk:Nat}{told:List Int}(h:MW C w ρ nm I0 cs ct L bs tk told):∃vf vt,ya C w ρ I0 L.length (tk:Int) ct told vf vt/\dP C.V.heap.size w vt told:=by
 obtain ⟨vf,vt,hm⟩:=h.mb;refine ⟨vf,vt,hm,?_⟩;obtain ⟨ao,cap,rfl⟩:=aL hm.tl;have Il:told.length<=cap:=by
  rcases hm.tl.2 with ⟨_,h0⟩|⟨g,cp,cur,e,_,_,hn,_⟩
  · omega
  · rw [Value.slice.injEq] at e;omega
 refine ⟨ao,cap,rfl,⟨iP hm.tl,Il⟩,fun i y hi=>?_⟩;have hl:i < told.length:=(List.getElem?_eq_some_iff.1 hi).1;obtain ⟨b,cp,e1,e2⟩:=dT hm.tl (j:=i) Q5;simp only [Value.slice.injEq,true_and] at e1;refine ⟨b,0,e1.1,(h.lo b (by rw [hm.rt b (by rw [e1.1];rfl)];nofun)).1,?_⟩;rw [Nat.zero_add,e2,fP,List.getElem?_map,hi];rfl
theorem x_(fuel heap:Nat)(hf:fuel<=200000)(hh:heap<=10000000)(u:aK)(V:World)(v:Value)(P9:u.aB= [])(Ch:aY u=(0,0,0))(hR:cO V v u):
 Calls Tryz.prog 28 #[v,.int .i64 (fuel:Int),.int .i64 (heap:Int)] V fun x w'=>∃vo,x=.returned vo/\ti V.heap.size w' vo (gL fuel heap u)/\Gr V w':=by
 have N2:=rZ.of (pY Ch);obtain ⟨Ts,hT⟩:∃Ts:Nat->Nat->Option (List Int),∀n f,u.aE[n]? =some f->tf u f (Ts n):=by
  have h:=mN (pY Ch) Ch;refine ⟨fun n=>if hn:n < u.aE.length then (h u.aE[n] (List.getElem_mem hn)).choose else fun _=>none,fun n f hf=>?_⟩;obtain ⟨hn,rfl⟩:=List.getElem?_eq_some_iff.1 hf;simp only [hn,dif_pos];exact (h u.aE[n] (List.getElem_mem hn)).choose_spec
 have hRU:=hR;obtain ⟨a1,a2,a3,a4,a5,c1,c2,c3,c4,c5,rfl,r1,r2,r3,r4,r5⟩:=hR.parts;have g0:=(Gr.refl V).alloc (.cells #[.slice a1 u.aA.length c1,.slice a2 u.aD.length c2,.slice a3 u.aE.length c3,.slice a4 u.aB.length c4,.slice a5 u.aC.length c5] 29);have D4:=heap_alloc_new V (.cells #[.slice a1 u.aA.length c1,.slice a2 u.aD.length c2,.slice a3 u.aE.length c3,.slice a4 u.aB.length c4,.slice a5 u.aC.length c5] 29);have Ka:(V.alloc (.cells #[.slice a1 u.aA.length c1,.slice a2 u.aD.length c2,.slice a3 u.aE.length c3,.slice a4 u.aB.length c4,.slice a5 u.aC.length c5] 29)).heap.size=V.heap.size+1:=Q6
 have g1:=(Gr.refl (V.alloc (.cells #[.slice a1 u.aA.length c1,.slice a2 u.aD.length c2,.slice a3 u.aE.length c3,.slice a4 u.aB.length c4,.slice a5 u.aC.length c5] 29))).alloc (.cells #[.int .i64 0,.int .i64 0,.int .i64 0,.int .i64 0,.int .i64 0,.slice none 0 0,.int .i64 0] 35);have Y0:=heap_alloc_new (V.alloc (.cells #[.slice a1 u.aA.length c1,.slice a2 u.aD.length c2,.slice a3 u.aE.length c3,.slice a4 u.aB.length c4,.slice a5 u.aC.length c5] 29)) (.cells #[.int .i64 0,.int .i64 0,.int .i64 0,.int .i64 0,.int .i64 0,.slice none 0 0,.int .i64 0] 35);rw [Ka] at Y0;have Gj:=(g1.block V.heap.size (by rw [Ka];omega) Q6).trans D4;have I1:=aH (g0.trans g1);have H6:=aH Gj;have S6:=aH Y0;have HMO:=aH (sj u N2 _ _ (hRU.gr (g0.trans g1)));have HUW:Hid (∀mb,UW ⟨V,u,.slice a1 u.aA.length c1,.slice a2 u.aD.length c2,.slice a3 u.aE.length c3,.slice a4 u.aB.length c4,.slice a5 u.aC.length c5,mb,heap⟩):=aH (fun mb=>⟨N2,P9,r1,r2,r3⟩);have HT:=aH hT;have F':Hid (((V.alloc (.cells #[.slice a1 u.aA.length c1,.slice a2 u.aD.length c2,.slice a3 u.aE.length c3,.slice a4 u.aB.length c4,.slice a5 u.aC.length c5] 29)).alloc (.cells #[.int .i64 0,.int .i64 0,.int .i64 0,.int .i64 0,.int .i64 0,.slice none 0 0,.int .i64 0] 35)).heap.size=V.heap.size+2):=aH Q6;clear hR hRU r1 r2 r3 r4 r5 g0 D4 Ka g1 Y0 Gj hT N2 Ch P9;go_enter Tryz.func28,Tryz.ntmps28
 go_wp2_with fail
 refine HMO.out.mono ?_;rintro e w2 ⟨rfl,E0⟩;have O0:=aH (I1.out.trans E0);have Yk:=aH ((E0.block _ (by rw [F'.out];omega) Q6).trans H6.out);have E6:=aH ((E0.block _ (by rw [F'.out];omega) Q6).trans S6.out);clear E0 H6 S6 HMO I1 F';generalize (V.alloc (.cells #[.slice a1 u.aA.length c1,.slice a2 u.aD.length c2,.slice a3 u.aE.length c3,.slice a4 u.aB.length c4,.slice a5 u.aC.length c5] 29)).alloc (.cells #[.int .i64 0,.int .i64 0,.int .i64 0,.int .i64 0,.int .i64 0,.slice none 0 0,.int .i64 0] 35)=W1;have hrr:=fA E6.out;obtain ⟨⟨s0,s1,s2,s3,s4,s5,s6⟩,⟨y0,y1,y2,y3,y4,y5,y6⟩⟩:=hrr;cases WL:jf u with
 | none=>
  have Q':Hid (gL fuel heap u=⟨5,0,0,0,0,[],0⟩):=aH (by unfold gL;rw [WL]);clear WL HT HUW Yk;simp only [xz];go_wp2_with fail
  rw [jq];have M1:=gZ (y0:=.int .i64 5) (y1:=.int .i64 0) (y2:=.int .i64 0) (y3:=.int .i64 0) (y4:=.int .i64 0) (y5:=.slice none 0 0) (y6:=.int .i64 0) E6.out;have hwf:∀k,¬k=V.heap.size+1->(fG w2 (V.heap.size+1) (.int .i64 5) (.int .i64 0) (.int .i64 0) (.int .i64 0) (.int .i64 0) (.slice none 0 0) (.int .i64 0)).heap[k]? =w2.heap[k]? :=fun k hk=>fh hk
  have Y':(fG w2 (V.heap.size+1) (.int .i64 5) (.int .i64 0) (.int .i64 0) (.int .i64 0) (.int .i64 0) (.slice none 0 0) (.int .i64 0)).heap.size=w2.heap.size:=gT;have hwe:=lh w2 (V.heap.size+1) (.int .i64 5) (.int .i64 0) (.int .i64 0) (.int .i64 0) (.int .i64 0) (.slice none 0 0) (.int .i64 0);generalize fG w2 (V.heap.size+1) (.int .i64 5) (.int .i64 0) (.int .i64 0) (.int .i64 0) (.int .i64 0) (.slice none 0 0) (.int .i64 0)=WE at M1 hwf Y' hwe |-;obtain ⟨dO,M9⟩:=Tryz.undOut;refine bodyPost_ret (v:=.agg #[.int .i64 5,.int .i64 0,.int .i64 0,.int .i64 0,.int .i64 0,.slice none 0 0,.int .i64 0]) (results_cell_row rfl _ _ (V.heap.size+1) _ _ _ (.struct dO) rfl M1 M9 rfl Tryz.sizOut) rfl ?_;rw [Q'.out];have g2:=O0.out;exact ⟨_,rfl,⟨_,rfl,em _⟩,⟨hwe.1.trans g2.os,hwe.2.1.trans g2.tape,hwe.2.2.trans g2.output,by have:=g2.size;omega,fun b hb hne=>(hwf b Q5).trans (g2.block b hb hne)⟩⟩
 | some q=>
  obtain ⟨f,hq,XL,DL⟩:=mt WL;have Q':Hid (gL fuel heap u=eD u heap fuel 0 (eY q f)):=aH (by unfold gL;rw [WL];simp only [hq]);have HSO:=aH (qL HT.out hq XL DL);clear WL;simp only [xz];have R0:=O0.out.size;have u0:w2.cell? ⟨V.heap.size,0,none⟩=some (.slice a1 u.aA.length c1):=by rw [aJ Yk.out];rfl
  have u1:w2.cell? ⟨V.heap.size,1,none⟩=some (.slice a2 u.aD.length c2):=by rw [aJ Yk.out];rfl
  have u2:w2.cell? ⟨V.heap.size,2,none⟩=some (.slice a3 u.aE.length c3):=by rw [aJ Yk.out];rfl
  have u3:w2.cell? ⟨V.heap.size,3,none⟩=some (.slice a4 u.aB.length c4):=by rw [aJ Yk.out];rfl
  have u4:w2.cell? ⟨V.heap.size,4,none⟩=some (.slice a5 u.aC.length c5):=by rw [aJ Yk.out];rfl
  have EA:Hid (V.heap.size+1 < w2.heap.size):=aH (Array.getElem?_eq_some_iff.1 E6.out).1;have g3:=(Gr.refl w2).alloc (.cells #[.slice a1 u.aA.length c1,.slice a2 u.aD.length c2,.slice a3 u.aE.length c3,.slice a4 u.aB.length c4,.slice a5 u.aC.length c5,.slice none 0 0,.int .i64 (heap:Int),.int .i64 0,.int .i64 0,.slice none 0 0] 108);have O':=heap_alloc_new w2 (.cells #[.slice a1 u.aA.length c1,.slice a2 u.aD.length c2,.slice a3 u.aE.length c3,.slice a4 u.aB.length c4,.slice a5 u.aC.length c5,.slice none 0 0,.int .i64 (heap:Int),.int .i64 0,.int .i64 0,.slice none 0 0] 108);obtain ⟨C,hC⟩:∃C:MC,C=⟨V,u,.slice a1 u.aA.length c1,.slice a2 u.aD.length c2,.slice a3 u.aE.length c3,.slice a4 u.aB.length c4,.slice a5 u.aC.length c5,w2.heap.size,heap⟩:=⟨_,rfl⟩;have eV:C.V=V:=by rw [hC]
  have eu:C.u=u:=by rw [hC]
  have WS:C.mb=w2.heap.size:=by rw [hC]
  have ehp:C.heap=heap:=by rw [hC]
  have YL:UW C:=by rw [hC];exact HUW.out _
  have C5:MW C (w2.alloc (.cells #[.slice a1 u.aA.length c1,.slice a2 u.aD.length c2,.slice a3 u.aE.length c3,.slice a4 u.aB.length c4,.slice a5 u.aC.length c5,.slice none 0 0,.int .i64 (heap:Int),.int .i64 0,.int .i64 0,.slice none 0 0] 108)) (fun b=>if b=w2.heap.size then .mach else .no) (fun _=>0) (fun _=>0) (fun _=>0) 0 [] [] 0 []:=by
   refine ⟨by rw [eV];exact O0.out.trans g3,fun b hb=>?_,⟨.slice none 0 0,.slice none 0 0,⟨?_,World.ownsRow_nil _ _ _ _,World.ownsRow_nil _ _ _ _,?_,fun b hb=>(by cases hb),fun b hb=>(by cases hb)⟩⟩,trivial,fun j fs hj=>by simp at hj⟩
   · by_cases e:b=w2.heap.size
     · subst e;rw [eV];exact ⟨R0,Q6⟩
     · simp [e] at hb
   · rw [hC];exact O'
   · show (if C.mb=w2.heap.size then bD.mach else bD.no)=_
     rw [if_pos WS]
  have NQ:=qH (q:=q) (g:=f) (ps:= []) (vp:=.slice none 0 0) C5 (am.refl _ _) (by rw [eV];have:=g3.size;omega) YL.fu (by rw [eu];exact hq) YL.ok.few.2.2 (World.ownsRow_nil _ _ _ _) (fun k hk=>by cases hk) Q6 (by have:=(YL.ok.func f (by rw [eu];exact List.mem_of_getElem? hq)).2.1;simp;omega);have Ml:=aH NQ;have HRN:Hid (∀(w4:World) (ρ4:Nat->bD) (Vl:Nat->Nat),MW C w4 ρ4 (fun _=>0) Vl (fun _=>0) 0 [⟨q,0,fQ f.aG.length,[]⟩] [] 0 []->Calls Tryz.prog 51 #[.pointer (some ⟨C.mb,0,none⟩),.pointer (some ⟨Vl 0,0,none⟩),.int .i64 (fuel:Int)] w4 fun e w'=>e=.returned (.agg #[.int .i64 (eD u heap fuel 0 (eY q f)).why,.int .i64 0,.int .i64 0,.int .i64 0,.int .i64 (eD u heap fuel 0 (eY q f)).result,.slice none 0 0,.int .i64 (eD u heap fuel 0 (eY q f)).steps])/\nX C w4 ρ4 (eD u heap fuel 0 (eY q f)) w'):=aH (fun w4 ρ4 Vl Ve=>xu C Ts w4 ρ4 (fun _=>0) Vl (fun _=>0) (eY q f) [] fuel hf (by rw [ehp];exact hh) YL (by rw [eu];exact HT.out) Ve (by rw [eu];exact HSO.out) rfl rfl _ (by rw [eu,ehp]));have HLW:Hid (∀b,V.heap.size<=b->b < w2.heap.size->(fun b=>if b=w2.heap.size then bD.mach else bD.no) b=bD.no):=aH (fun b _ hb=>if_neg Q5);have DB:=aH ((g3.block _ EA.out Q6).trans E6.out);have HG3:=aH (O0.out.trans g3);have Hd:Hid ((w2.alloc (.cells #[.slice a1 u.aA.length c1,.slice a2 u.aD.length c2,.slice a3 u.aE.length c3,.slice a4 u.aB.length c4,.slice a5 u.aC.length c5,.slice none 0 0,.int .i64 (heap:Int),.int .i64 0,.int .i64 0,.slice none 0 0] 108)).heap.size=w2.heap.size+1):=aH Q6;rw [<-Q'.out] at HRN;have XS:Hid ((gL fuel heap u).unit=0/\(gL fuel heap u).at_=0/\(gL fuel heap u).e=0):=aH (by rw [Q'.out];exact mi _ _ _ _ _);clear NQ C5 O' YL hq XL DL HSO Q' Yk s0 s1 s2 s3 s4 s5 s6 y0 y1 y2 y3 y4 y5 y6;rw [WS] at Ml HRN;have HEMB:=aH WS;have HEV:=aH eV;clear WS eV eu ehp hC;generalize hF:gL fuel heap u=FIN at HRN XS |-
  have HF:=aH hF;clear hF;go_upto_region 5 with fail
  clear u0 u1 u2 u3 u4;generalize w2.alloc (.cells #[.slice a1 u.aA.length c1,.slice a2 u.aD.length c2,.slice a3 u.aE.length c3,.slice a4 u.aB.length c4,.slice a5 u.aC.length c5,.slice none 0 0,.int .i64 (heap:Int),.int .i64 0,.int .i64 0,.slice none 0 0] 108)=W3 at Ml DB HG3 Hd g3 |-;go_wp2_with fail
  refine Ml.out.mono ?_;rintro e w4 ⟨ρ4,Vl,rfl,Ve,Yg⟩;have Mk:=Yg.keepAt DB.out (HLW.out _ Q5 EA.out);have Qh:=aH (HRN.out _ _ _ Ve);have V7:=aH Mk;have Mn:=aH Yg;clear Ve Yg Mk HRN Ml DB;go_wp2_with fail
  refine Qh.out.mono ?_;rintro e w5 ⟨rfl,ρ5,nm5,fbn5,cs5,ct5,L5,bs5,tk5,Di,Zg⟩;obtain ⟨vf5,vt5,Mj,ZL⟩:=yv Di;have hc5:=Zg.keepAt V7.out.1 V7.out.2;have P4:=Mj.box;rw [HEMB.out] at P4;have g6:=(Gr.refl w5).alloc (.cells #[.int .i64 FIN.why,.int .i64 0,.int .i64 0,.int .i64 0,.int .i64 FIN.result,.slice none 0 0,.int .i64 FIN.steps] 35);have hb6:=heap_alloc_new w5 (.cells #[.int .i64 FIN.why,.int .i64 0,.int .i64 0,.int .i64 0,.int .i64 FIN.result,.slice none 0 0,.int .i64 FIN.steps] 35);obtain ⟨ta,tc,rfl⟩:∃a c,vt5=.slice a FIN.told.length c:=aL Mj.tl;have m9:=g6.cell (show w5.cell? ⟨w2.heap.size,9,none⟩=some (.slice ta FIN.told.length tc) by rw [aJ P4];rfl) Q6;have LS:=aH m9;have Tq:=(Array.getElem?_eq_some_iff.1 hc5.1).1;have Cp:=aH ((g6.block _ Tq Q6).trans hc5.1);have Sr:=aH hb6;have HTO:=aH ZL;have HOB:Hid (V.heap.size+1 < w5.heap.size):=aH Tq;have Wa:Hid (Gr V w5):=aH (by have:=Di.gr;rw [HEV.out] at this;exact this);have H7:=aH hc5.2;have HBT:Hid (∀b,(Value.slice ta FIN.told.length tc).ownBlock=some b->¬b=V.heap.size+1/\b < w5.heap.size):=aH (fun b hb=>⟨fun e=>(by have:=Mj.rt b hb;rw [e,hc5.2] at this;cases this),(Mj.tl.lt b hb).2⟩);rw [HEV.out] at HTO;clear Di Zg Mj ZL hc5 P4 g6 hb6 m9 Tq;go_upto_region 7 with fail
  generalize hW6:w5.alloc (.cells #[.int .i64 FIN.why,.int .i64 0,.int .i64 0,.int .i64 0,.int .i64 FIN.result,.slice none 0 0,.int .i64 FIN.steps] 35)=W6 at Cp Sr LS |-;have EB:Hid (Gr w5 W6):=aH (by rw [<-hW6];exact (Gr.refl w5).alloc _);clear hW6;have m9:=LS.out;have h5c:=(fA Sr.out);have o5:W6.cell? ⟨w5.heap.size,5,none⟩=some (.slice none 0 0):=h5c.1.2.2.2.2.2.1;have z5:W6.frozen? ⟨w5.heap.size,5,none⟩=false:=h5c.2.2.2.2.2.2.1;have HB7:=aH ((heap_setCell_same W6 w5.heap.size 5 _ _ (.slice ta FIN.told.length tc) Sr.out).trans (by simp:_=some (.cells #[.int .i64 FIN.why,.int .i64 0,.int .i64 0,.int .i64 0,.int .i64 FIN.result,.slice ta FIN.told.length tc,.int .i64 FIN.steps] 35 (0,0))));have HC7:=aH ((Below.heap_setCell W6 ⟨w5.heap.size,5,none⟩ (.slice ta FIN.told.length tc) (V.heap.size+1) (by show V.heap.size+1≠w5.heap.size;have:=HOB.out;omega)).trans Cp.out);clear h5c;go_upto_region 8 with fail
  clear m9 o5 z5;have hoth:∀b,¬b=w5.heap.size->¬b=V.heap.size+1->∀row,((W6.setCell ⟨w5.heap.size,5,none⟩ (.slice ta FIN.told.length tc)).setRow (V.heap.size+1) row).heap[b]? =W6.heap[b]? :=fun b h1 h2 row=>(setRow_other _ _ _ _ h2).trans (Below.heap_setCell _ _ _ _ h1)
  have HOTH:=aH hoth;clear hoth;have DM:Hid ((W6.setCell ⟨w5.heap.size,5,none⟩ (.slice ta FIN.told.length tc)).heap.size=W6.heap.size/\(W6.setCell ⟨w5.heap.size,5,none⟩ (.slice ta FIN.told.length tc)).os=W6.os/\(W6.setCell ⟨w5.heap.size,5,none⟩ (.slice ta FIN.told.length tc)).tape=W6.tape/\(W6.setCell ⟨w5.heap.size,5,none⟩ (.slice ta FIN.told.length tc)).output=W6.output):=aH ⟨Q6,rfl,rfl,rfl⟩;generalize W6.setCell ⟨w5.heap.size,5,none⟩ (.slice ta FIN.told.length tc)=W7 at HB7 HC7 HOTH DM |-;obtain ⟨dO,M9⟩:=Tryz.undOut;refine wp_region_lit ?_;refine wpList_load_row rfl 35 _ rfl w5.heap.size rfl _ _ _ (.struct dO) HB7.out M9 rfl Tryz.sizOut ?_;refine wpList_store_row rfl 35 _ _ rfl (V.heap.size+1) #[.int .i64 FIN.why,.int .i64 0,.int .i64 0,.int .i64 0,.int .i64 FIN.result,.slice ta FIN.told.length tc,.int .i64 FIN.steps] rfl rfl _ _ HC7.out Tryz.sizOut rfl (by simp [Value.oneCell']) ?_;have Wf:=aH M9;clear M9;have HB8:=aH (setRow_heap W7 (V.heap.size+1) _ #[.int .i64 FIN.why,.int .i64 0,.int .i64 0,.int .i64 0,.int .i64 FIN.result,.slice ta FIN.told.length tc,.int .i64 FIN.steps] _ _ HC7.out);have FB:Hid (∀b,¬b=w5.heap.size->¬b=V.heap.size+1->(W7.setRow (V.heap.size+1) #[.int .i64 FIN.why,.int .i64 0,.int .i64 0,.int .i64 0,.int .i64 FIN.result,.slice ta FIN.told.length tc,.int .i64 FIN.steps]).heap[b]? =W6.heap[b]?):=aH (fun b h1 h2=>HOTH.out b h1 h2 _);have Iq:Hid ((W7.setRow (V.heap.size+1) #[.int .i64 FIN.why,.int .i64 0,.int .i64 0,.int .i64 0,.int .i64 FIN.result,.slice ta FIN.told.length tc,.int .i64 FIN.steps]).heap.size=W6.heap.size/\(W7.setRow (V.heap.size+1) #[.int .i64 FIN.why,.int .i64 0,.int .i64 0,.int .i64 0,.int .i64 FIN.result,.slice ta FIN.told.length tc,.int .i64 FIN.steps]).os=W6.os/\(W7.setRow (V.heap.size+1) #[.int .i64 FIN.why,.int .i64 0,.int .i64 0,.int .i64 0,.int .i64 FIN.result,.slice ta FIN.told.length tc,.int .i64 FIN.steps]).tape=W6.tape/\(W7.setRow (V.heap.size+1) #[.int .i64 FIN.why,.int .i64 0,.int .i64 0,.int .i64 0,.int .i64 FIN.result,.slice ta FIN.told.length tc,.int .i64 FIN.steps]).output=W6.output):=aH ⟨by rw [setRow_size];exact DM.out.1,DM.out.2.1,DM.out.2.2.1,DM.out.2.2.2⟩
  generalize W7.setRow (V.heap.size+1) #[.int .i64 FIN.why,.int .i64 0,.int .i64 0,.int .i64 0,.int .i64 FIN.result,.slice ta FIN.told.length tc,.int .i64 FIN.steps]=W8 at HB8 FB Iq |-;go_wp2_with fail
  refine bodyPost_ret (v:=.agg #[.int .i64 FIN.why,.int .i64 0,.int .i64 0,.int .i64 0,.int .i64 FIN.result,.slice ta FIN.told.length tc,.int .i64 FIN.steps]) (results_cell_row rfl _ _ (V.heap.size+1) _ _ _ (.struct dO) rfl HB8.out Wf.out rfl Tryz.sizOut) rfl ?_;rw [HF.out];have gw:=Wa.out.trans EB.out;have hVo:=HOB.out;have gsz:=EB.out.size;refine ⟨_,rfl,⟨.slice ta FIN.told.length tc,by rw [XS.out.1,XS.out.2.1,XS.out.2.2],?_⟩,⟨Iq.out.2.1.trans gw.os,Iq.out.2.2.1.trans gw.tape,Iq.out.2.2.2.trans gw.output,by have:=gw.size;have:=Iq.out.1;omega,fun b hb hne=>(FB.out b Q5 Q5).trans (gw.block b hb hne)⟩⟩;obtain ⟨ao,cap,e1,e2,I5⟩:=HTO.out;refine ⟨ao,cap,e1,e2,fun i y hi=>?_⟩;obtain ⟨b,off,f1,f2,f3⟩:=I5 i y hi;refine ⟨b,off,f1,f2,?_⟩;have hb:(Value.slice ta FIN.told.length tc).ownBlock=some b:=by rw [e1,f1];rfl
  obtain ⟨n1,n2⟩:=HBT.out b hb;have e3:W8.heap[b]? =w5.heap[b]? :=(FB.out b Q5 n1).trans (EB.out.block b n2 Q6);unfold World.cell? at f3 |-;rw [show W8.heap[(⟨b,off+i,none⟩:Addr).block]? =w5.heap[(⟨b,off+i,none⟩:Addr).block]? from e3];exact f3
theorem AK(fuel heap:Nat)(hf:fuel<=200000)(hh:heap<=10000000)(us:List aK):yP (gL fuel heap) (fuel:Int) (heap:Int) us:=fun u V v hl hv hR=>x_ fuel heap hf hh u V v (oV hl) hv hR
open Go.RowKit
def i5(c n:Int):Int:=if c < 0 then (-(c+1)) % n else c % n
theorem vX{c n:Int}(hn:0 < n):0<=i5 c n/\i5 c n < n:=by
 unfold i5;split
 · exact ⟨Int.emod_nonneg _ Q5,Int.emod_lt_of_pos _ hn⟩
 · exact ⟨Int.emod_nonneg _ Q5,Int.emod_lt_of_pos _ hn⟩
theorem yU(c n:Int)(w:World)(hc:-9223372036854775808<=c/\c<=9223372036854775807)(hn:0 < n)(T6:n<=9223372036854775807):
 Calls Tryz.prog 7 #[.int .i64 c,.int .i64 n] w fun x w'=>x=.returned (.int .i64 (i5 c n))/\w'=w:=by
 go_enter Tryz.func7,Tryz.ntmps7
 go_wp2
 · rename_i h
   have e:i5 c n=-(c+1).tmod n:=by
    unfold i5;rw [if_pos h,<-Int.tmod_eq_emod_of_nonneg Q5,Int.neg_tmod]
   rw [e];go_ret
   exact ⟨rfl,rfl⟩
 · rename_i h
   have e:i5 c n=c % n:=by
    unfold i5;rw [if_neg Q5]
   rw [e];go_ret
   exact ⟨rfl,rfl⟩
theorem qK(s:ByteArray):s.data.toList.length=s.size:=Array.length_toList
open Go.RowKit
def gM(x:Int):Prop:=-9223372036854775808<=x/\x<=9223372036854775807
def dL(w:World)(mb:Nat)(r:List Int):Prop:=
 ∃(l:List Int) (at_:Nat) (ao:Option Addr) (cap:Nat),w.cell? ⟨mb,0,none⟩=some (.slice ao l.length cap)/\w.cell? ⟨mb,1,none⟩=some (.int .i64 at_)/\w.frozen? ⟨mb,1,none⟩=false/\at_<=l.length/\l.length<=maxLen/\r=l.drop at_/\
  (∀i,i < l.length->∃b off,ao=some ⟨b,off,none⟩/\b < mb/\w.cell? ⟨b,off+i,none⟩=some (.int .i64 (l.getD i 0)))/\∀x∈l,gM x
theorem dL.low{w w':World}{mb:Nat}{r:List Int}(h:dL w mb r)(g:∀k,k<=mb->w'.heap[k]? =w.heap[k]?):dL w' mb r:=by
 obtain ⟨l,at_,ao,cap,h0,h1,hz,ha,hm,hr,hc,hf⟩:=h;refine ⟨l,at_,ao,cap,(World.cell?_of_block (a:=⟨mb,0,none⟩) (g mb (Nat.le_refl _))).trans h0,(World.cell?_of_block (a:=⟨mb,1,none⟩) (g mb (Nat.le_refl _))).trans h1,(World.frozen?_of_block (a:=⟨mb,1,none⟩) (g mb (Nat.le_refl _))).trans hz,ha,hm,hr,fun i hi=>?_,hf⟩;obtain ⟨b,off,k1,k2,k3⟩:=hc i hi;exact ⟨b,off,k1,k2,(World.cell?_of_block (a:=⟨b,off+i,none⟩) (g b (Nat.le_of_lt k2))).trans k3⟩
theorem dL.lt{w:World}{mb:Nat}{r:List Int}(h:dL w mb r):mb < w.heap.size:=by
 obtain ⟨l,at_,ao,cap,h0,_⟩:=h;exact World.block_lt_of_cell? w _ h0
theorem dL.grown{w w':World}{mb:Nat}{r:List Int}{ob:Option Nat}(h:dL w mb r)(g:w.grownBy w' ob)(ho:∀k,ob=some k->mb < k):dL w' mb r:=
 h.low fun k hk=>g.block k (Nat.lt_of_le_of_lt hk h.lt) (fun e=>by have:=ho k e.symm;omega)
theorem dL.gr{w w':World}{mb:Nat}{r:List Int}(h:dL w mb r)(g:Gr w w'):dL w' mb r:=by
 obtain ⟨l,at_,ao,cap,h0,h1,hz,ha,hm,hr,hc,hf⟩:=h;refine ⟨l,at_,ao,cap,g.cell h0 Q6,g.cell h1 Q6,bw g h1 hz,ha,hm,hr,fun i hi=>?_,hf⟩;obtain ⟨b,off,k1,k2,k3⟩:=hc i hi;exact ⟨b,off,k1,k2,g.cell k3 Q6⟩
theorem dL.drew{w:World}{mb:Nat}{r:List Int}(h:dL w mb r):dL w.drew mb r:=h
theorem dL.fits{w:World}{mb:Nat}{r:List Int}(h:dL w mb r):gM (r.headD 0):=by
 obtain ⟨l,at_,ao,cap,_,_,_,_,_,rfl,_,hf⟩:=h;cases e:l.drop at_ with
 | nil=>exact ⟨by decide,by decide⟩
 | cons x t=>exact hf x (List.mem_of_mem_drop (by rw [e];exact List.mem_cons_self))
theorem tV(mb:Nat)(r:List Int)(w:World)(h:dL w mb r):
 Calls Tryz.prog 21 #[.pointer (some ⟨mb,0,none⟩)] w fun x w'=>x=.returned (.int .i64 (r.headD 0))/\dL w' mb r.tail/\Gc mb w w':=by
 obtain ⟨l,at_,ao,cap,h0,h1,hz,ha,hm,rfl,hc,hf⟩:=h;unfold maxLen at hm;by_cases J0:at_ < l.length
 · obtain ⟨b,off,rfl,hne,hx⟩:=hc at_ J0;have E1:Hid ((l.drop at_).headD 0=l[at_]):=aH (by simp [List.headD_eq_head?_getD,List.head?_drop,J0]);have HM:Hid (dL (w.setCell ⟨mb,1,none⟩ (.int .i64 ((at_:Int)+1))) mb (l.drop at_).tail):=aH (by
    refine ⟨l,at_+1,some ⟨b,off,none⟩,cap,(aI Q5).trans h0,World.cell?_setCell_same _ _ _ h1,by rw [World.frozen?_setCell];exact hz,J0,hm,List.tail_drop,fun i hi=>?_,hf⟩;obtain ⟨b',TG,e1,e2,e3⟩:=hc i hi;exact ⟨b',TG,e1,e2,(World.cell?_setCell_other w _ _ _ (by intro e;simp only [Addr.mk.injEq] at e;omega)).trans e3⟩)
   clear hc hf;go_enter Tryz.func21,Tryz.ntmps21
   have Gf:(w.setCell ⟨mb,1,none⟩ (.int .i64 ((at_:Int)+1))).cell? ⟨b,off+at_,none⟩=some (.int .i64 (l.getD at_ 0)):=(World.cell?_setCell_other w _ _ _ (by intro e;simp only [Addr.mk.injEq] at e;omega)).trans hx;go_wp2_with fail
   go_region
   go_wp2_with fail
   go_region
   clear hx Gf h0 h1 hz;go_wp2_with fail
   go_ret
   exact ⟨by rw [E1.out];rfl,HM.out.drew.drew,((Gc.refl mb w).set 1 _).drew.drew⟩
 · obtain rfl:at_=l.length:=by omega
   have E1:(l.drop l.length)= []:=Q6
   rw [E1];have HM:Hid (dL w mb ([]:List Int).tail):=aH ⟨l,l.length,ao,cap,h0,h1,hz,ha,hm,E1.symm,hc,hf⟩;clear hc hf;go_enter Tryz.func21,Tryz.ntmps21
   go_wp2_with fail
   go_region
   go_wp2_with fail
   go_ret
   exact ⟨rfl,HM.out,(Gc.refl mb w).drew⟩
def an(r:List Int)(n:Int):Int:=i5 (r.headD 0) n
theorem ce{r:List Int}{n:Int}(hn:0 < n):0<=an r n/\an r n < n:=vX hn
theorem cB(mb:Nat)(r:List Int)(n:Int)(hn:0 < n)(T6:n<=9223372036854775807)(w:World)(h:dL w mb r):
 Calls Tryz.prog 19 #[.pointer (some ⟨mb,0,none⟩),.int .i64 n] w fun x w'=>x=.returned (.int .i64 (an r n))/\dL w' mb r.tail/\Gc mb w w':=by
 have HM:=aH h;have hp:∀V:World,Hid (Calls Tryz.prog 7 #[.int .i64 (r.headD 0),.int .i64 n] V fun x w'=>x=.returned (.int .i64 (an r n))/\w'=V):=fun V=>aH (yU (r.headD 0) n V h.fits hn T6)
 generalize an r n=q at hp |-;have HR:∀V:World,Hid (dL V mb r->Calls Tryz.prog 21 #[.pointer (some ⟨mb,0,none⟩)] V fun x w'=>x=.returned (.int .i64 (r.headD 0))/\dL w' mb r.tail/\Gc mb V w'):=fun V=>aH (tV mb r V)
 generalize r.headD 0=y at hp HR;clear h;go_enter Tryz.func19,Tryz.ntmps19
 go_wp2_with fail
 refine ((HR w).out HM.out).mono ?_;rintro x w1 ⟨rfl,P5,hg1⟩;have V9:=aH P5;have I1:=aH hg1;clear P5 hg1;go_wp2_with fail
 refine (hp w1).out.mono ?_;rintro x w2 ⟨rfl,e2⟩;subst e2;go_wp2_with fail
 go_ret
 exact ⟨rfl,V9.out,I1.out⟩
open Go.RowKit
structure Ap(base:Nat)(e:TypeId)(n:Nat)(w:World)(v:Value)(w':World)(v':Value)(len:Nat)(xs:List Value):Prop where
 own:w'.ownsRow base e n v' len xs
 frm:w.grownBy w' v.ownBlock
 lies:∀k,v'.ownBlock=some k->v.ownBlock=some k\/w.heap.size<=k
theorem oC(w:World)(ys:Array Value)(t:TypeId):∀j u,ys.toList[j]? =some u->(w.alloc (.cells ys t)).cell? ((⟨w.heap.size,0,none⟩:Addr).add j)=some u:=by
 intro j u hj;have e:(⟨w.heap.size,0,none⟩:Addr).add j=⟨w.heap.size,j,none⟩:=by simp [Addr.add];try (intro h;exact h.symm)
 rw [e];have h:=World.cell?_alloc_mark w ys t (0,0) j;exact h.trans (by rw [<-Array.getElem?_toList];exact hj)
section
variable {ops:Array Oper} {rest:List Oper} {o:Oper} {a:Act} {Q:Exit->Act->World->Prop}
theorem cy(w:World)(Z':o.guard=none)(s x:Operand)(t e:TypeId)(n bytes:Nat)(zero:Value)(inf:(Tryz.prog.info? e).map (fun i=>(i.zero,i.size,i.bytes))=some (some zero,n,bytes))(ht:Tryz.prog.underlying t=some (.slice e))(Zn:zero.cells.size=n)(hn:0 < n)(Pj:bytes<=1000)
 (ho:o.op=.call { callee:=.builtin .append,args:=#[s,x],argTypes:=#[t,t] })
 (base:Nat) (v:Value) (len:Nat) (xs:List Value) (hs:a.eval s=v) (C1:w.ownsRow base e n v len xs) (ys:Array Value) (hys:ys.size=n) (h1:∀u∈ys.toList,u.oneCell'=true)
 (H:Nat) (hx:a.eval x=.slice (some ⟨H,0,none⟩) 1 1) (hH:w.heap.size=H) (hlen:len<=1000000) (C_:base<=w.heap.size)
 (h:∀v' w',Ap base e n w v w' v' (len+1) (xs++ys.toList)->wpList Tryz.prog ops Q rest (a.put o.dst v') w'):
 wpList Tryz.prog ops Q (o :: rest) a (w.alloc (.cells ys e)):=by
 subst hH;obtain ⟨i0,hi,O6,N5,D5⟩:=info_parts inf;refine wpList_append_own_at _ Z' s x t ho base e i0 zero n bytes ht hi O6 N5 D5 Zn hn v len xs hs (C1.alloc _) ⟨w.heap.size,0,none⟩ 1 1 ys.toList hx (by rw [Array.length_toList,hys,Nat.one_mul]) (oC _ _ _) h1 (by unfold maxLen;omega) (Nat.le_trans (Nat.mul_le_mul (Nat.add_le_add_right hlen 1) Pj) Q9) gS ?_;intro v' w' k1 k2 _ k4;refine h v' w' ⟨k1,(World.grownBy_alloc w _ _).trans k2,fun k hk=>?_⟩;rcases k4 with e|e
 · exact .inl (e▸hk)
 · rw [hk] at e;simp at e;right;omega
end
def fH:Nat->Int->List Int->List Int×List Int
 | 0,_,r=>([],r)
 | k+1,n,r=>(an r n :: (fH k n r.tail).1,(fH k n r.tail).2)
def ic(l:List Int):List Value:=l.map fun x=>Value.int .i64 x
open Go.RowKit
attribute [local go_sem ↓] Go.wp_at_zero Go.wp_at_succ
theorem rJ{mb:Nat}{w wr w':World}{ob:Option Nat}(h:Gc mb w wr)(g:wr.grownBy w' ob)(ho:∀k,ob=some k->w.heap.size<=k):Gc mb w w':=
 ⟨g.os.trans h.os,g.tape.trans h.tape,g.output.trans h.output,Nat.le_trans h.size g.size,fun i hi hne=>(g.block i (Nat.lt_of_lt_of_le hi h.size) (fun e=>by have:=ho i e.symm;omega)).trans (h.block i hi hne)⟩
theorem fW{w:World}{base:Nat}{e:TypeId}{n:Nat}{v:Value}{len:Nat}{xs:List Value}(h:w.ownsRow base e n v len xs):∀k,v.ownBlock=some k->base<=k:=by
 intro k hk;rcases h.2 with ⟨rfl,_⟩|⟨g,cap,cur,rfl,hg,_⟩
 · simp [Value.ownBlock] at hk
 · simp [Value.ownBlock] at hk;omega
theorem Tryz.infoint:(Tryz.prog.info? 3).map (fun i=>(i.zero,i.size,i.bytes))=some (some (.int .i64 0),1,8):=Q7
def lm(least most aA:Nat)(r:List Int):List Int×List Int:=fH ((least:Int)+an r ((most:Int) - least+1)).toNat ((aA:Int)+1) r.tail
theorem sp(mb:Nat)(r:List Int)(least most aA:Nat)(Xy:least<=most)(YS:most<=100)(Ff:aA<=100)(w:World)(h:dL w mb r):
 Calls Tryz.prog 20 #[.pointer (some ⟨mb,0,none⟩),.int .i64 least,.int .i64 most,.int .i64 aA] w fun x w'=>
  ∃v,x=.returned v/\w'.ownsRow w.heap.size 3 1 v (lm least most aA r).1.length (ic (lm least most aA r).1)/\dL w' mb (lm least most aA r).2/\Gc mb w w':=by
 have HM:=aH h;have J0:=h.lt;have hq:=ce (r:=r) (n:=(most:Int) - least+1) Q5;obtain ⟨N,hN⟩:∃N:Nat,(least:Int)+an r ((most:Int) - least+1)=N:=⟨((least:Int)+an r ((most:Int) - least+1)).toNat,Q5⟩;have HK:Hid (lm least most aA r=fH N ((aA:Int)+1) r.tail):=aH (by unfold lm;rw [hN];rfl);have hN2:N<=101:=Q5
 have Oz:∀V:World,Hid (dL V mb r->Calls Tryz.prog 19 #[.pointer (some ⟨mb,0,none⟩),.int .i64 ((most:Int) - least+1)] V fun x w'=>x=.returned (.int .i64 (an r ((most:Int) - least+1)))/\dL w' mb r.tail/\Gc mb V w'):=fun V=>aH (cB mb r _ Q5 Q5 V)
 generalize an r ((most:Int) - least+1)=q at hN hq Oz;clear h;go_enter Tryz.func20,Tryz.ntmps20
 go_wp2_with fail
 refine ((Oz w).out HM.out).mono ?_;rintro x w1 ⟨rfl,P5,hg1⟩;have V9:=aH P5;have I1:=aH hg1;clear P5 hg1 Oz;go_wp2_with fail
 go_loopw [9,10] (fun l n wr=>∃(k:Nat) (ys rk:List Int),n=.int .i64 k/\ys.length+k<=101/\wr.ownsRow w.heap.size 3 1 l ys.length (ic ys)/\dL wr mb rk/\Gc mb w wr/\fH N ((aA:Int)+1) r.tail=(ys++(fH k ((aA:Int)+1) rk).1,(fH k ((aA:Int)+1) rk).2)) (fun _ n _=>(intOf n).toNat)
 case atStart=>exact ⟨N,[],r.tail,rfl,by simpa using hN2,⟨rfl,.inl ⟨rfl,rfl⟩⟩,V9.out,I1.out,Q6⟩
 case round=>
  obtain ⟨k,ys,rk,rfl,hyk,C1,Rc,hgc,hT⟩:=hrel;have E9:=aH C1;have Hj:=aH Rc;have HGC:=aH hgc;have HTT:=aH hT;obtain ⟨ao,co,rfl⟩:=oB C1;clear C1 Rc hgc hT HM V9 I1 hN hq;by_cases hk:0 < k
  · have HP:∀V:World,Hid (dL V mb rk->Calls Tryz.prog 19 #[.pointer (some ⟨mb,0,none⟩),.int .i64 ((aA:Int)+1)] V fun x w'=>x=.returned (.int .i64 (an rk ((aA:Int)+1)))/\dL w' mb rk.tail/\Gc mb V w'):=fun V=>aH (cB mb rk _ Q5 Q5 V)
    obtain ⟨j,rfl⟩:∃j,k=j+1:=⟨k - 1,Q5⟩;have HT2:Hid (fH N ((aA:Int)+1) r.tail=((ys++ [an rk ((aA:Int)+1)])++(fH j ((aA:Int)+1) rk.tail).1,(fH j ((aA:Int)+1) rk.tail).2)):=aH (by rw [HTT.out];simp [fH]);generalize an rk ((aA:Int)+1)=q at HP HT2;go_wp2_with fail
    refine ((HP wr).out Hj.out).mono ?_;rintro x w2 ⟨rfl,O4,E0⟩;have Ee:w2.ownsRow w.heap.size 3 1 (.slice ao ys.length co) ys.length (ic ys):=E9.out.kept E0 (.inr (by intro e;have:=fW E9.out _ e;omega));have HM2:=aH O4;have O0:=aH (HGC.out.trans E0);have O5:=aH Ee;have R0:w.heap.size<=w2.heap.size:=O0.out.size;clear O4 E0 Ee HP E9 Hj HGC HTT;go_wp2_with (at_builtin;refine cy _ rfl _ _ 24 3 1 8 (.int .i64 0) Tryz.infoint Tryz.underlying24 rfl Q9 Q9 rfl w.heap.size _ ys.length (ic ys) rfl O5.out #[.int .i64 q] rfl (by intro u hu;simp at hu;subst hu;rfl) _ rfl rfl Q5 R0 ?_;intro v3 w3 N9)
    have IB:Ap w.heap.size 3 1 w2 (.slice ao ys.length co) w3 v3 (ys.length+1) (ic ys++ [Value.int .i64 q]):=N9;have Wt:=fW O5.out;refine ⟨⟨j,ys++ [q],rk.tail,rfl,by simp;omega,?_,HM2.out.grown IB.frm (fun k e=>by have:=Wt k e;omega),rJ O0.out IB.frm Wt,HT2.out⟩,by simp [intOf]⟩;have:=IB.own
    simpa [ic] using this
  · obtain rfl:k=0:=by omega
    go_wp2_with fail
    go_ret
    have hT:=HTT.out;rw [HK.out,hT];exact ⟨_,rfl,by simpa [fH] using E9.out,Hj.out,HGC.out⟩
end Go.Proofs.YtkgncijcnlfhiabGreat
