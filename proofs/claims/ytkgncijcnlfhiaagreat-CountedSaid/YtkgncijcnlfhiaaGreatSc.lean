import Derived.Test.YtkgncijcnlfhiaaGreatRows
import Derived.WalkKit
import Derived.ProofKit
import Derived.OpenShut
import Derived.ChangeMaps5
import Derived.Carry
import Derived.ChangeSlices
import Derived.Test.YtkgncijcnlfhiaaGreatPo
namespace Go.Proofs.YtkgncijcnlfhiaaGreat
set_option linter.unusedVariables false
set_option linter.unusedSimpArgs false
open Go.ChangeShapes Go.WideShapes Go.ChangeAt Go.RowKit Go.ChangeMaps
theorem zC:ownKnob Tryz.prog.godebug=none:=by kernel_rfl
theorem mE{w w':World}(h:Gr w w'):Below w.heap.size w w':=(Below.refl w.heap.size w).grown h (Nat.le_refl _) (by simp)
theorem Tryz.laid:laidOutB Tryz.prog=true:=by kernel_rfl
theorem Tryz.oneInt:Tryz.prog.cellsOf 3=1:=by kernel_rfl
set_option maxRecDepth 100000 in
theorem Bj(os:Os)(started:os.Started)(H:Type)(enc:TypeId×Value→H):
 ReturnsInHanded {} Tryz.checked os 3 .any (Rows.countedSpec.pre6 enc Tryz.prog Tryz.f3 Rows.countedRow.domain false) (Rows.countedSpec.post enc Tryz.prog Tryz.f3 false true false false):=by
 refine returnsInHanded_of_change (C:=Tryz.checked) zC started (by kernel_rfl) Tryz.func3
  (ChangeSpec.witness6 (enc:=enc) (C:=Tryz.checked) false ⟨#[],#[.slice none 0 0],[]⟩ 8 (by kernel_rfl) (by kernel_rfl) (by kernel_rfl) (by kernel_rfl)) ?_
 intro W base args ds gs before hval0 hW hcnd _;have hval:∀(j:Nat) t v,Tryz.f3.params[j]? =some t→args[j]? =some v→Value.okWide Tryz.prog W .any base t v:=hval0;have hW':=hW;obtain ⟨p,q,hA0,hV,rfl,hfz,hnd⟩:=hW;have hA:DataW.TrodAll enc Tryz.prog W 0 (fun _=>true) true Tryz.f3.params.toList args.toList ds p:=hA0;rw [Tryz.params3] at hA hval;obtain ⟨v0,vs0,d0,ds0,p0,q0,hargs,rfl,rfl,h0,r0⟩:=trodAll_cons hA;obtain ⟨rfl,rfl,rfl⟩:=trodAll_nil r0;obtain rfl:args=#[v0]:=by cases args;simp_all
 obtain ⟨rfl,rfl⟩:=trodVars_none hV;obtain ⟨a0,len,cap,rfl⟩:=okWide_slice Tryz.underlying22 (hval 0 22 v0 rfl rfl);have h0k:=h0;obtain ⟨fuel,hf⟩:=h0;clear hA0 hval0;simp only [List.append_nil] at hW';have hlt:∀x∈p0,x.block < W.heap.size:=fun x hx=>by simpa using hW'.lt x hx
 have hargs:∀(W':World),Below W.heap.size W W'→DataW.Trod enc Tryz.prog W' 0 (fun b=>decide (b < W.heap.size)) true 22 (.slice a0 len cap) d0 p0:=
  fun W' hn=>Below.trod Tryz.laid (by kernel_rfl) (of_decide_eq_true (by kernel_rfl)) h0k hn hlt
 have key:∃l:List Int,aX W (.slice a0 len cap) l∧∀x∈l,B_ x:=by
  rcases open_ints Tryz.underlying22 Tryz.underlying3 Tryz.oneInt hf with ⟨hcs,hx⟩|⟨a,len',cap',zs,hcs,_,hl,hm,hz,hx,hcell,hwz⟩
  · simp [Value.cells] at hcs
    obtain ⟨rfl,rfl,rfl⟩:=hcs;exact ⟨[],⟨none,0,rfl,by decide,fun i hi=>absurd hi (by simp)⟩,by simp⟩
  · simp [Value.cells] at hcs
    obtain ⟨rfl,rfl,rfl⟩:=hcs;simp only [if_true] at hz;have hlen:(zs.take len).length=len:=by rw [List.length_take];omega
    refine ⟨zs.take len,⟨some a,cap,by rw [hlen],by rw [hlen];omega,fun i hi=>?_⟩,fun x hx=>bounds_i64 (hwz x (List.mem_of_mem_take hx))⟩;rw [hlen] at hi;obtain ⟨b,off,rfl,hc⟩:=ints_at hcell (by omega);refine ⟨b,off,rfl,(hc i (by omega)).trans ?_⟩;congr 2
    simp only [List.getD_eq_getElem?_getD,List.getElem?_take,if_pos hi]
 obtain ⟨l,hl,hfit⟩:=key;refine (CA (.slice a0 len cap) l W hl hfit).mono fun e W' ⟨he,hgr⟩=>?_
 have hg:=mE hgr;subst he;exact ⟨_,rfl,_,_,_,[],_,[],hW',trodAll_cons_mk (shut_bool Tryz.underlying4 _) trodAll_mk0,trodAll_cons_mk (hargs W' hg) trodAll_mk0,rfl,hg.frame _,fun h=>nomatch h⟩
theorem Bq:Rows.countedRow.holds Tryz.pinned (OpenSpec.ofChange Rows.countedSpec):=
 OpenClaim.holds_of_wide 3 Tryz.f3 rfl rfl rfl rfl rfl rfl rfl ⟨rfl,rfl,rfl,rfl,rfl⟩ rfl rfl rfl rfl rfl (by kernel_rfl) Tryz.func3 (by kernel_rfl)
  (of_decide_eq_true (by kernel_rfl)) (by unfold Func.isWrapper;first|(rw [if_pos (by decide+kernel)];kernel_rfl)|(rw [if_neg (by decide+kernel)];exact ⟨rfl,rfl⟩))
  (fun os started H enc _=>Bj os started H enc)
theorem counted_said:Rows.CountedSaid:=Bq
end Go.Proofs.YtkgncijcnlfhiaaGreat
