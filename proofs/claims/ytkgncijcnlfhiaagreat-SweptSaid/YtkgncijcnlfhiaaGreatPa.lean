import Derived.Test.YtkgncijcnlfhiaaGreatMx
namespace Go.Proofs.YtkgncijcnlfhiaaGreat
set_option linter.unusedVariables false
set_option linter.unusedSimpArgs false
open Go.RowKit
def o1(o a:Int):aw:=⟨o,a,0⟩
def mI:du:=⟨[109,97,105,110],0⟩
def ko:Nat→Option Nat
 | 0=>none
 | j+1=>some j
theorem mF{n:Int}(h0:-9223372036854775808≤n)(h1:n≤9223372036854775807):wrap64 n=n:=by
 unfold wrap64;omega
theorem iJ(bs:List (List PV))(n:Nat)(mark:Nat→Bool)(all:Nat)(p r:List PV):cK bs (n+1) ⟨mark,all,[p,r]⟩=cK bs n (cr bs r ⟨mark,all,[p]⟩):=fK (st:=⟨mark,all,[p,r]⟩) (wt:= [p]) rfl n
theorem iD(bs:List (List PV))(n:Nat)(mark:Nat→Bool)(all:Nat)(r:List PV):cK bs (n+1) ⟨mark,all,[r]⟩=cK bs n (cr bs r ⟨mark,all,[]⟩):=fK (st:=⟨mark,all,[r]⟩) (wt:= []) rfl n
end Go.Proofs.YtkgncijcnlfhiaaGreat
