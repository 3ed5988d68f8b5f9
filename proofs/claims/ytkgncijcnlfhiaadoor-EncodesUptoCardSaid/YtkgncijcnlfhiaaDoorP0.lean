
namespace Go.Proofs.YtkgncijcnlfhiaaDoor
set_option linter.unusedVariables false
set_option linter.unusedSimpArgs false
/- the document's things, plain: instructions, functions, imports, exports, units; when they are well formed -/
structure PIns where
  op : Int
  a : Int
  b : Int
structure PFunc where
  params : List Int
  result : Int
  locals : List Int
  code : List PIns
structure PImp where
  name : List UInt8
  params : List Int
  result : Int
structure PExp where
  name : List UInt8
  func : Int
structure PUnit where
  shapes : List (List Int)
  consts : List Int
  funcs : List PFunc
  imports : List PImp
  exports : List PExp

def wB (v l m : Int) : Bool := decide (l ≤ v ∧ v ≤ m)
def inB (n k : Int) : Bool := wB k 0 n
def operandsN (op : Int) : Int :=
  if op = 16 ∨ op = 17 then 2
  else if op = 0 ∨ op = 1 ∨ op = 2 ∨ op = 3 ∨ op = 11 ∨ op = 12 ∨ op = 13 ∨ op = 15 ∨ op = 18 ∨ op = 19 then 1 else 0
def operandOk (v : Int) (named : Bool) : Bool := if named then wB v 0 65535 else decide (v = 0)
def insOk (i : PIns) : Bool :=
  wB i.op 0 20 && ((if i.op = 1 then wB i.a (-2147483648) 2147483647 else operandOk i.a (decide (1 ≤ operandsN i.op))) && operandOk i.b (decide (2 ≤ operandsN i.op)))
def codeOk (l : List PIns) : Bool := wB l.length 1 200 && l.all insOk
def sigOk (ps : List Int) (r n : Int) : Bool := wB ps.length 0 6 && (ps.all (inB n) && inB n r)
def funcOk (n : Int) (f : PFunc) : Bool := sigOk f.params f.result n && (wB f.locals.length 0 10 && (f.locals.all (inB n) && codeOk f.code))
def funcsOk (l : List PFunc) (n : Int) : Bool := wB l.length 0 30 && l.all (funcOk n)
def nameOk (s : List UInt8) : Bool := wB s.length 1 20
def impOk (n : Int) (i : PImp) : Bool := nameOk i.name && sigOk i.params i.result n
def importsOk (l : List PImp) (n : Int) : Bool := wB l.length 0 20 && l.all (impOk n)
def expOk (m : Int) (e : PExp) : Bool := nameOk e.name && wB e.func 0 (m - 1)
def exportsOk (l : List PExp) (m : Int) : Bool := wB l.length 0 20 && l.all (expOk m)
def shapeOk (n : Int) (f : List Int) : Bool := wB f.length 1 8 && f.all (inB n)
def shapesOk (l : List (List Int)) : Bool := wB l.length 0 20 && l.all (shapeOk l.length)
def constsOk (l : List Int) : Bool := wB l.length 0 50
def unitOk (u : PUnit) : Bool :=
  shapesOk u.shapes && (constsOk u.consts && (funcsOk u.funcs u.shapes.length && (importsOk u.imports u.shapes.length && exportsOk u.exports u.funcs.length)))

theorem all_take_succ {α : Type} {p : α → Bool} {l : List α} {k : Nat} {x : α} (h : l[k]? = some x) :
    (l.take (k + 1)).all p = ((l.take k).all p && p x) := by
  obtain ⟨hk, rfl⟩ := List.getElem?_eq_some_iff.1 h
  rw [List.take_succ_eq_append_getElem hk, List.all_append]; simp
theorem all_false_at {α : Type} {p : α → Bool} {l : List α} {k : Nat} {x : α} (h : l[k]? = some x) (hp : p x = false) : l.all p = false := by
  obtain ⟨hk, rfl⟩ := List.getElem?_eq_some_iff.1 h
  rw [Bool.eq_false_iff]; intro hc
  rw [List.all_eq_true] at hc
  have := hc l[k] (List.getElem_mem hk)
  rw [hp] at this; cases this
theorem all_end {α : Type} {p : α → Bool} {l : List α} {k : Nat} (h : (l.take k).all p = true) (hk : ¬ k < l.length) : l.all p = true := by
  rwa [List.take_of_length_le (by omega)] at h
end Go.Proofs.YtkgncijcnlfhiaaDoor
