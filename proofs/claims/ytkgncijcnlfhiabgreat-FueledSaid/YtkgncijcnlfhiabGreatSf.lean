import Derived.Test.YtkgncijcnlfhiabGreatRows
import Derived.WalkKit
import Derived.ProofKit
import Derived.OpenShut
import Derived.ChangeMaps5
import Derived.Carry
import Derived.ChangeSlices
import Derived.Deep.Slices
import Derived.Test.YtkgncijcnlfhiabGreatUf
namespace Go.Proofs.YtkgncijcnlfhiabGreat
set_option linter.unusedVariables false
set_option linter.unusedSimpArgs false
open Go.ChangeShapes Go.WideShapes Go.ChangeAt Go.RowKit Go.ChangeMaps Go.Deep
theorem CH:ownKnob Tryz.prog.godebug=none:=Q7
theorem lY{n:Int}(h:(Lit.int .i64 n).wf=true):-9223372036854775808<=n/\n<=9223372036854775807:=by
 simp only [Lit.wf,Bool.and_eq_true,decide_eq_true_eq] at h;exact h
theorem xe{w w':World}(h:Gr w w'):Below w.heap.size w w':=(Below.refl w.heap.size w).grown h (Nat.le_refl _) Q6
theorem Tryz.laid:laidOutB Tryz.prog=true:=Q7
theorem Tryz.oneInt:Tryz.prog.cellsOf 3=1:=Q7
theorem Tryz.oneInts:Tryz.prog.cellsOf 24=1:=Q7
section
variable {H:Type} {enc:TypeId×Value->H} {w:World} {spare:Nat->Bool} {held:Bool}
theorem mO{t e:TypeId}{c:Nat}(ht:Tryz.prog.underlying t=some (.slice e))(hc:Tryz.prog.cellsOf e=c)(L8:0 < c){α:Type}(El:List Value->α->Prop)(B:α->Prop)
 (S9:∀fuel cs y,DataW.trod enc Tryz.prog w 0 spare held fuel e cs=some y->cs.length=c->∃x:α,El cs x/\B x) {fuel:Nat} {cs:List Value} {x:DataW H×List MemPlace} (h:DataW.trod enc Tryz.prog w 0 spare held fuel t cs=some x):
 ∃(v:Value) (l:List α) (ao:Option Addr) (cap:Nat),cs= [v]/\v=.slice ao l.length cap/\l.length<=maxLen/\(∀y∈l,B y)/\
  ∀(i:Nat) (y:α),l[i]? =some y->∃b off T7,ao=some ⟨b,off,none⟩/\T7.length=c/\(∀j,j < c->w.cell? ⟨b,off+i * c+j,none⟩=T7[j]?)/\El T7 y:=by
 rcases open_slice ht h with ⟨rfl,rfl⟩|⟨a,len,cap,m,n,D,Pl,rfl,hb,hl,hm,VU,rfl,hx⟩
 · exact ⟨_,[],none,0,rfl,rfl,Nat.zero_le _,Q6,fun i y hi=>by simp at hi⟩
 · have Xy:len<=m:=by rw [VU];split<;>omega
   have C2:∀i:_root_.Fin len,∃y:α,(∃T7,w.cells? 0 (a.add (i.1 * c)) c=some T7/\El T7 y)/\B y:=fun i=>by
    obtain ⟨T7,h1,h2⟩:=hx i.1 (by have:=i.2;omega);rw [hc] at h1;obtain ⟨_,hlen,_⟩:=World.cells?_some h1;obtain ⟨y,k1,k2⟩:=S9 n T7 _ h2 hlen;exact ⟨y,⟨T7,h1,k1⟩,k2⟩
   obtain ⟨f,hf⟩:=Classical.axiomOfChoice C2;refine ⟨_,List.ofFn f,some a,cap,rfl,by rw [List.length_ofFn],by rw [List.length_ofFn];omega,fun y hy=>?_,fun i y hi=>?_⟩
   · obtain ⟨i,rfl⟩:=(List.mem_ofFn).1 hy;exact (hf i).2
   · have Pr:i < len:=by have:=(List.getElem?_eq_some_iff.1 hi).1;rwa [List.length_ofFn] at this
     have hfy:f ⟨i,Pr⟩=y:=by
      rw [List.getElem?_ofFn,dif_pos Pr] at hi;exact Option.some.inj hi
     obtain ⟨⟨T7,h1,h2⟩,_⟩:=hf ⟨i,Pr⟩;rw [hfy] at h2;obtain ⟨_,hlen,Z0⟩:=World.cells?_some h1;obtain ⟨b,off,spot⟩:=a;have MO:spot=none:=by
      obtain ⟨PS,g1,_⟩:=hx 0 Q5;rw [hc] at g1;obtain ⟨_,glen,oO⟩:=World.cells?_some g1;have g2:=oO 0 L8;have g3:w.cell? (((⟨b,off,spot⟩:Addr).add (0 * c)).add 0)=some (PS[0]'Q5):=by rw [g2];simp
      simpa [Addr.add] using World.cell?_spot g3
     subst MO;refine ⟨b,off,T7,rfl,hlen,fun j hj=>?_,h2⟩;have:=Z0 j hj
     rw [add_add,add_plain] at this;rw [show off+i * c+j=off+(i * c+j) by omega];exact this
theorem sW{fuel:Nat}{cs:List Value}{x:DataW H×List MemPlace}(h:DataW.trod enc Tryz.prog w 0 spare held fuel 24 cs=some x):
 ∃v l,cs= [v]/\aW w v l/\∀z∈l,gM z:=by
 obtain ⟨v,l,ao,cap,rfl,hv,hm,hq,hc⟩:=mO (enc:=enc) (w:=w) (spare:=spare) (held:=held) Tryz.underlying24 Tryz.oneInt Q9 (fun cs z=>cs= [.int .i64 z]) gM (fun fuel cs y h _=>by
  obtain ⟨z,h1,_,h3⟩:=DataW.trod_int Tryz.underlying3 h;exact ⟨z,h1,bounds_i64 h3⟩) h
 refine ⟨v,l,rfl,⟨ao,cap,hv,hm,fun i hi=>?_⟩,hq⟩;obtain ⟨b,off,T7,h1,_,h3,rfl⟩:=hc i l[i] (List.getElem?_eq_getElem hi);refine ⟨b,off,h1,?_⟩;have:=h3 0 Q9
 rw [Nat.mul_one,Nat.add_zero] at this;rw [this,List.getD_eq_getElem?_getD,List.getElem?_eq_getElem hi];rfl
theorem pe{fuel:Nat}{cs:List Value}{x:DataW H×List MemPlace}(h:DataW.trod enc Tryz.prog w 0 spare held fuel 22 cs=some x):∃v l,cs= [v]/\bM w v l/\∀s∈l,∀z∈s,gM z:=by
 obtain ⟨v,l,ao,cap,rfl,hv,hm,hq,hc⟩:=mO (enc:=enc) (w:=w) (spare:=spare) (held:=held) Tryz.underlying22 Tryz.oneInts Q9 (fun cs (s:List Int)=>∃v,cs= [v]/\aW w v s) (fun s=>∀z∈s,gM z) (fun fuel cs y h hl=>by
  obtain ⟨v,l,h1,h2,h3⟩:=sW h;exact ⟨l,⟨v,h1,h2⟩,h3⟩) h
 refine ⟨v,l,rfl,⟨ao,cap,hv,hm,fun i y hi=>?_⟩,hq⟩;obtain ⟨b,off,T7,h1,_,h3,vx,rfl,h4⟩:=hc i y hi;refine ⟨b,off,vx,h1,?_,h4⟩;have:=h3 0 Q9
 rw [Nat.mul_one,Nat.add_zero] at this;exact this
end
set_option maxRecDepth 100000 in
theorem nW(os:Os)(started:os.Started)(H:Type)(enc:TypeId×Value->H):
 ReturnsInHanded {} Tryz.checked os 3 .any (Rows.fueledSpec.pre6 enc Tryz.prog Tryz.f3 Rows.fueledRow.domain false) (Rows.fueledSpec.post enc Tryz.prog Tryz.f3 false true false false):=by
 refine returnsInHanded_of_change (C:=Tryz.checked) CH started Q7 Tryz.func3
  (ChangeSpec.witness6 (enc:=enc) (C:=Tryz.checked) false ⟨#[],#[.slice none 0 0,.int .i64 0,.int .i64 0,.int .i64 0],[]⟩ 8 Q7 Q7 Q7 Q7) ?_
 intro W base args ds gs before Ex hW hcnd _;have Oq:∀(j:Nat) t v,Tryz.f3.params[j]? =some t->args[j]? =some v->Value.okWide Tryz.prog W .any base t v:=Ex;have hW':=hW;obtain ⟨p,q,hA0,hV,rfl,hfz,hnd⟩:=hW;have hA:DataW.TrodAll enc Tryz.prog W 0 (fun _=>true) true Tryz.f3.params.toList args.toList ds p:=hA0;rw [Tryz.params3] at hA Oq;obtain ⟨v0,vs0,d0,ds0,p0,q0,Fx,rfl,rfl,h0,r0⟩:=trodAll_cons hA;obtain ⟨v1,vs1,d1,ds1,p1,q1,rfl,rfl,rfl,h1,r1⟩:=trodAll_cons r0;obtain ⟨v2,vs2,d2,ds2,p2,q2,rfl,rfl,rfl,h2,r2⟩:=trodAll_cons r1;obtain ⟨v3,vs3,d3,ds3,p3,q3,rfl,rfl,rfl,h3,r3⟩:=trodAll_cons r2;obtain ⟨rfl,rfl,rfl⟩:=trodAll_nil r3;obtain rfl:args=#[v0,v1,v2,v3]:=by cases args;simp_all
 obtain ⟨rfl,rfl⟩:=trodVars_none hV;obtain ⟨a0,len,cap,rfl⟩:=okWide_slice Tryz.underlying22 (Oq 0 22 v0 rfl rfl);have h0k:=h0;obtain ⟨fuel,hf⟩:=h0;obtain ⟨b1,rfl,rfl,rfl,w1⟩:=open_int Tryz.underlying3 (Oq 1 3 v1 rfl rfl) h1;obtain ⟨b2,rfl,rfl,rfl,w2⟩:=open_int Tryz.underlying3 (Oq 2 3 v2 rfl rfl) h2;obtain ⟨b3,rfl,rfl,rfl,w3⟩:=open_int Tryz.underlying3 (Oq 3 3 v3 rfl rfl) h3;clear hA0 Ex;simp only [List.append_nil] at hW';have J0:∀x∈p0,x.block < W.heap.size:=fun x hx=>by simpa using hW'.lt x hx
 have Fx:∀(W':World),Below W.heap.size W W'->DataW.Trod enc Tryz.prog W' 0 (fun b=>decide (b < W.heap.size)) true 22 (.slice a0 len cap) d0 p0:=
  fun W' hn=>Below.trod Tryz.laid Q7 (of_decide_eq_true Q7) h0k hn J0
 obtain ⟨v,l,hv,hl,G3⟩:=pe hf;obtain rfl:v=.slice a0 len cap:=by simpa [Value.cells] using hv.symm
 refine (pz (.slice a0 len cap) l b1 b2 b3 W hl G3 (lY w1) (lY w2) (lY w3)).mono fun e W' ⟨he,M3⟩=>?_
 have hg:=xe M3;subst he;exact ⟨_,rfl,_,_,_,[],_,[],hW',trodAll_cons_mk (shut_bool Tryz.underlying4 _) trodAll_mk0,trodAll_cons_mk (Fx W' hg) (trodAll_cons_mk (shut_int Tryz.underlying3 w1) (trodAll_cons_mk (shut_int Tryz.underlying3 w2) (trodAll_cons_mk (shut_int Tryz.underlying3 w3) trodAll_mk0))),rfl,hg.frame _,fun h=>nomatch h⟩
theorem o7:Rows.fueledRow.holds Tryz.pinned (OpenSpec.ofChange Rows.fueledSpec):=
 OpenClaim.holds_of_wide 3 Tryz.f3 rfl rfl rfl rfl rfl rfl rfl ⟨rfl,rfl,rfl,rfl,rfl⟩ rfl rfl rfl rfl rfl Q7 Tryz.func3 Q7
  (of_decide_eq_true Q7) (by unfold Func.isWrapper;first|(rw [if_pos (by decide+kernel)];kernel_rfl)|(rw [if_neg (by decide+kernel)];exact ⟨rfl,rfl⟩))
  (fun os started H enc _=>nW os started H enc)
theorem fueled_said:Rows.FueledSaid:=o7
end Go.Proofs.YtkgncijcnlfhiabGreat
