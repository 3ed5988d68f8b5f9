import Derived.Test.YtkgncijcnlfhiabGreatPb
import Derived.Test.YtkgncijcnlfhiabGreatMu
namespace Go.Proofs.YtkgncijcnlfhiabGreat
set_option linter.unusedVariables false
set_option linter.unusedSimpArgs false
open Go.RowKit
attribute [local go_sem ↓] Go.wp_at_zero Go.wp_at_succ
theorem pk{f:aO}(h1:f.aF.length<=6)(h2:f.aG.length<=10)(h3:f.code.length<=60):(b8 f).length<=1700:=by
 have a1:=bg (l:=f.aF) (N:=6) h1;have a2:=bg (l:=f.aG) (N:=10) h2;have a3:=bK f.result.toNat;have a4:=bu (f:=bl) (B:=23) (N:=60) (xs:=f.code) (fun x _=>kf x) h3;unfold b8;simp only [List.length_append];omega
theorem AD{u:aK}(hu:ai u=true)(hf:mn u)(h1:u.aE.length<=6)(h2:∀f∈u.aE,f.code.length<=60)(h3:u.aB.length<=1)(Rz:∀i∈u.aB,i.name.length<=100)(h4:u.aC.length<=1)(h4':∀e∈u.aC,e.name.length<=100):sS u:=by
 refine ⟨hu,hf,?_⟩;have ho:=rZ.of hu;have b1:(f9 u).length<=11+20 * 99:=bu (fun x hx=>bg (N:=8) (ho.shape x hx).2.1) ho.few.1;have b2:(f8 u).length<=11+50 * 11:=bu (fun x _=>bK _) ho.few.2.1;have b3:(f_ u).length<=11+6 * 1700:=bu (fun f hf=>pk (ho.func f hf).1 (ho.func f hf).2.1 (h2 f hf)) h1;have b4:(fx u).length<=11+1 * 250:=bu (fun i hi=>by
  have a1:=bg (l:=i.aF) (N:=6) (by
   have h:=hu;unfold ai bZ at h;simp only [Bool.and_eq_true] at h;have h:=List.all_eq_true.1 h.2.2.2.1.2 i hi;unfold iM fL at h;simp only [Bool.and_eq_true,wB,decide_eq_true_eq] at h;omega)
  have a2:=bK i.result.toNat;have a3:=bK i.name.length;have a4:=Rz i hi;unfold dW b_;simp only [List.length_append];omega) h3
 have b5:(gK u).length<=11+1 * 130:=bu (fun e he=>by
  have a2:=bK e.func.toNat;have a3:=bK e.name.length;have a4:=h4' e he;unfold db b_;simp only [List.length_append];omega) h4
 have hs:∀(n:Nat) (b:List UInt8),(cZ n b).length<=16+b.length:=fun n b=>by
  have:=bK b.length
  have hk:∀(x k:Nat),(nU x k).length=k:=fun x k=>by simp [nU]
  unfold cZ;simp only [List.length_append,List.length_cons,List.length_nil,hk];omega
 have s1:=hs 1 (f9 u);have s2:=hs 2 (f8 u);have s3:=hs 3 (f_ u);have s4:=hs 4 (fx u);have s5:=hs 5 (gK u);unfold enc jL mG mf na dg;simp only [List.length_append,List.length_cons,List.length_nil];omega
theorem xP{n:Nat}(hn:n < 400):sS (fD n):=AD Q7 (fun x hx=>by
 have:x=(n:Int):=by simpa [fD] using hx
 omega) (by simp [fD]) (fun f hf=>by
 have:f=⟨[],0,[0,1,0],mo⟩:=by simpa [fD] using hf
 subst this;decide) (by simp [fD]) (fun i hi=>by simp [fD] at hi) (by simp [fD]) (fun e he=>by
 have:e=xV:=by simpa [fD] using he
 subst this;decide)
theorem Tryz.sizUnit:(Tryz.prog.info? 29).map (fun x=>x.size)=some 5:=Q7
theorem Tryz.anyUnit:(Tryz.prog.underlying 29).any (fun d=>match d with| .struct _=>true|_=>false)=true:=Q7
theorem Tryz.undUnit:∃fs,Tryz.prog.underlying 29=some (.struct fs):=by
 have h:=Tryz.anyUnit;cases hd:Tryz.prog.underlying 29 with
 | none=>rw [hd] at h;cases h
 | some d=>
  rw [hd] at h;cases d<;>first|exact ⟨_,rfl⟩|cases h
end Go.Proofs.YtkgncijcnlfhiabGreat
