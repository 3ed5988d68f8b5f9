import Derived.Test.YtkgncijcnlfhiaaGreatPf
import Derived.Test.YtkgncijcnlfhiaaGreatRg2
namespace Go.Proofs.YtkgncijcnlfhiaaGreat
set_option linter.unusedVariables false
set_option linter.unusedSimpArgs false
open Go.RowKit
attribute [local go_sem ↓] Go.wp_at_zero Go.wp_at_succ
theorem cells5{w:World}{b:Nat}{v0 v1 v2 v3 v4:Value}{t:TypeId}(h:w.heap[b]? =some (.cells #[v0,v1,v2,v3,v4] t (0,0))):w.cell? ⟨b,0,none⟩=some v0∧w.cell? ⟨b,1,none⟩=some v1∧w.cell? ⟨b,2,none⟩=some v2∧w.cell? ⟨b,3,none⟩=some v3∧w.cell? ⟨b,4,none⟩=some v4:=
 ⟨by rw [aI h];rfl,by rw [aI h];rfl,by rw [aI h];rfl,by rw [aI h];rfl,by rw [aI h];rfl⟩
end Go.Proofs.YtkgncijcnlfhiaaGreat
