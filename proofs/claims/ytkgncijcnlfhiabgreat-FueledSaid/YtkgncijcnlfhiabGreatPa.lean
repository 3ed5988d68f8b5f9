import Derived.Test.YtkgncijcnlfhiabGreatM3
namespace Go.Proofs.YtkgncijcnlfhiabGreat
set_option linter.unusedVariables false
set_option linter.unusedSimpArgs false
open Go.RowKit
def o1(o a:Int):aw:=⟨o,a,0⟩
def mo:List aw:= [o1 0 0,o1 3 0,o1 2 0,o1 12 13,o1 2 0,o1 2 1,o1 15 1,o1 3 1,o1 2 0,o1 1 (-1),o1 6 0,o1 3 0,o1 11 2,o1 2 1,o1 19 1,o1 12 18,o1 2 2,o1 14 0,o1 2 2,o1 2 1,⟨16,1,0⟩,o1 6 0,o1 3 2,o1 2 1,⟨16,1,1⟩,o1 3 1,o1 11 13]
def xV:dq:=⟨[109,97,105,110],0⟩
def fD(n:Int):aK:=⟨[[0,1]],[n],[⟨[],0,[0,1,0],mo⟩],[],[xV]⟩
end Go.Proofs.YtkgncijcnlfhiabGreat
