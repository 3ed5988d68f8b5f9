import Derived.Test.YtkgncijcnlfhiaaDoorJ2a
import Derived.Test.YtkgncijcnlfhiaaDoorJ2b
import Derived.Test.YtkgncijcnlfhiaaDoorJ2c
import Derived.Test.YtkgncijcnlfhiaaDoorJ2d
import Derived.Test.YtkgncijcnlfhiaaDoorJ2e
namespace Go.Proofs.YtkgncijcnlfhiaaDoor
set_option linter.unusedVariables false
set_option linter.unusedSimpArgs false
open Go.RowKit
theorem effect_ref (u : PUnit) (f : PFunc) (i : PIns) (hi : insOk i = true) (v1 v2 v3 v4 v5 vp vl vc : Value) (w : World) (hU : RUnit w (.agg #[v1, v2, v3, v4, v5]) u) (hp : RInts w vp f.params) (hl : RInts w vl f.locals) (hc : ∃ a c, vc = .slice a f.code.length c) (hpl : f.params.length ≤ 10000) (hll : f.locals.length ≤ 10000) (hcl : f.code.length ≤ 1000000) (hul : u.shapes.length ≤ 1000000 ∧ u.consts.length ≤ 1000000 ∧ u.funcs.length ≤ 1000000 ∧ u.imports.length ≤ 1000000) (hsm : ∀ s ∈ u.shapes, s.length ≤ 1000000) (hfm : ∀ g ∈ u.funcs, g.params.length ≤ 1000000) (him : ∀ g ∈ u.imports, g.params.length ≤ 1000000) :
    Calls Tryd.prog 152 #[.agg #[v1, v2, v3, v4, v5], .agg #[vp, .int .i64 f.result, vl, vc], .agg #[.int .i64 i.op, .int .i64 i.a, .int .i64 i.b]] w (ErfR (effP u f i) w) := by
  have hn := (ins_natJ hi).1
  have hd : (i.op = 0 ∨ i.op = 1 ∨ i.op = 2 ∨ i.op = 3) ∨ (i.op = 4 ∨ i.op = 5 ∨ i.op = 6 ∨ i.op = 7 ∨ i.op = 8 ∨ i.op = 9 ∨ i.op = 10) ∨ (i.op = 11 ∨ i.op = 12 ∨ i.op = 14 ∨ i.op = 20) ∨ (i.op = 13 ∨ i.op = 15) ∨ (i.op = 16 ∨ i.op = 17 ∨ i.op = 18 ∨ i.op = 19) := by omega
  rcases hd with HX | HX | HX | HX | HX
  · exact effect_ref_a u f i hi HX v1 v2 v3 v4 v5 vp vl vc w hU hp hl hc hpl hll hcl hul hsm hfm him
  · exact effect_ref_b u f i hi HX v1 v2 v3 v4 v5 vp vl vc w hU hp hl hc hpl hll hcl hul hsm hfm him
  · exact effect_ref_c u f i hi HX v1 v2 v3 v4 v5 vp vl vc w hU hp hl hc hpl hll hcl hul hsm hfm him
  · exact effect_ref_d u f i hi HX v1 v2 v3 v4 v5 vp vl vc w hU hp hl hc hpl hll hcl hul hsm hfm him
  · exact effect_ref_e u f i hi HX v1 v2 v3 v4 v5 vp vl vc w hU hp hl hc hpl hll hcl hul hsm hfm him
end Go.Proofs.YtkgncijcnlfhiaaDoor

