import Derived.Test.YtkgncijcnlfhiaaGreatPb
import Derived.Test.YtkgncijcnlfhiaaGreatMu
namespace Go.Proofs.YtkgncijcnlfhiaaGreat
set_option linter.unusedVariables false
set_option linter.unusedSimpArgs false
open Go.RowKit
attribute [local go_sem ↓] Go.wp_at_zero Go.wp_at_succ
theorem ig{f:aO}(h1:f.aF.length≤6)(h2:f.aG.length≤10)(h3:f.code.length≤60):(bq f).length≤1700:=by
 have a1:=bg (l:=f.aF) (N:=6) h1;have a2:=bg (l:=f.aG) (N:=10) h2;have a3:=bO f.result.toNat;have a4:=br (f:=bh) (B:=23) (N:=60) (xs:=f.code) (fun x _=>jc x) h3;unfold bq;simp only [List.length_append];omega
theorem rS{u:aK}(hu:ak u=true)(hf:mf u)(h1:u.aE.length≤6)(h2:∀f∈u.aE,f.code.length≤60)(h3:u.aB.length≤1)(h3':∀i∈u.aB,i.name.length≤100)(h4:u.aC.length≤1)(h4':∀e∈u.aC,e.name.length≤100):qH u:=by
 refine ⟨hu,hf,?_⟩;have ho:=vL.of hu;have b1:(fH u).length≤11+20 * 99:=br (fun x hx=>bg (N:=8) (ho.shape x hx).2.1) ho.few.1;have b2:(fL u).length≤11+50 * 11:=br (fun x _=>bO _) ho.few.2.1;have b3:(fN u).length≤11+6 * 1700:=br (fun f hf=>ig (ho.func f hf).1 (ho.func f hf).2.1 (h2 f hf)) h1;have b4:(fO u).length≤11+1 * 250:=br (fun i hi=>by
  have a1:=bg (l:=i.aF) (N:=6) (by
   have h:=hu;unfold ak bm at h;simp only [Bool.and_eq_true] at h;have h:=List.all_eq_true.1 h.2.2.2.1.2 i hi;unfold gQ fG at h;simp only [Bool.and_eq_true,wB,decide_eq_true_eq] at h;omega)
  have a2:=bO i.result.toNat;have a3:=bO i.name.length;have a4:=h3' i hi;unfold dR b6;simp only [List.length_append];omega) h3
 have b5:(fZ u).length≤11+1 * 130:=br (fun e he=>by
  have a2:=bO e.func.toNat;have a3:=bO e.name.length;have a4:=h4' e he;unfold dT b6;simp only [List.length_append];omega) h4
 have hs:∀(n:Nat) (b:List UInt8),(cS n b).length≤16+b.length:=fun n b=>by
  have:=bO b.length
  have hk:∀(x k:Nat),(lH x k).length=k:=fun x k=>by simp [lH]
  unfold cS;simp only [List.length_append,List.length_cons,List.length_nil,hk];omega
 have s1:=hs 1 (fH u);have s2:=hs 2 (fL u);have s3:=hs 3 (fN u);have s4:=hs 4 (fO u);have s5:=hs 5 (fZ u);unfold enc iV lG lV mY dW;simp only [List.length_append,List.length_cons,List.length_nil];omega
end Go.Proofs.YtkgncijcnlfhiaaGreat
