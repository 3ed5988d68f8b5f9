import Derived.Test.YtkgncijcnlfhiaaGreatMx
namespace Go.Proofs.YtkgncijcnlfhiaaGreat
set_option linter.unusedVariables false
set_option linter.unusedSimpArgs false
open Go.RowKit
def o1(o a:Int):aw:=⟨o,a,0⟩
def mI:du:=⟨[109,97,105,110],0⟩
end Go.Proofs.YtkgncijcnlfhiaaGreat
