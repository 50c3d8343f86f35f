import Derived.WalkKit
namespace Go.Proofs.Ytepioeaomlmocaa
open Go.RowKit

/-- A value of the document: a number and a word. -/
structure Vl where
  n : Int
  s : ByteArray

/-- A condition. -/
structure Cd where
  attr : Int
  kind : Int
  a : Vl
  b : Vl

/-- A field of an event. -/
structure Fd where
  attr : Int
  v : Vl

def Vl.cells (v : Vl) : List Value := [.int .i64 v.n, .string v.s]
def Cd.cells (c : Cd) : List Value := [.int .i64 c.attr, .int .i64 c.kind, .int .i64 c.a.n, .string c.a.s, .int .i64 c.b.n, .string c.b.s]
def Fd.cells (f : Fd) : List Value := [.int .i64 f.attr, .int .i64 f.v.n, .string f.v.s]

/-- Does a value fit a type? -/
def fitsB (k : Int) (v : Vl) : Bool := if k == 1 then v.s.toList.isEmpty else (v.n == 0) && decide ((v.s.size : Int) ≤ 20)
/-- Has a value nothing? -/
def noneB (v : Vl) : Bool := (v.n == 0) && v.s.toList.isEmpty
def firstB (k : Int) (c : Cd) : Bool := if c.kind == 9 then noneB c.a else fitsB k c.a
def secondB (k : Int) (c : Cd) : Bool := if c.kind == 7 then fitsB k c.b else noneB c.b
/-- May a condition be, of an attribute of type k? -/
def mayK (k : Int) (c : Cd) : Bool := !((c.kind == 8) && !(k == 2)) && (firstB k c && secondB k c)
def mayB (sch : List Int) (c : Cd) : Bool :=
  decide (0 ≤ c.attr) && decide (c.attr < sch.length) && decide (1 ≤ c.kind) && decide (c.kind ≤ 9) && mayK (sch.getD c.attr.toNat 0) c

def inR (a : Int) (n : Nat) : Bool := decide (0 ≤ a ∧ a < n)

/-- What was there is as it was; there may be more. -/
def Ext (w w' : World) : Prop := Below w.heap.size w w'
theorem Ext.refl (w : World) : Ext w w := Below.refl _ _
theorem Ext.trans {a b c : World} (h : Ext a b) (k : Ext b c) : Ext a c := Below.trans h (Below.mono k h.size)
theorem Ext.alloc {a b : World} (h : Ext a b) (o : Obj) : Ext a (b.alloc o) := Below.alloc h h.size o
theorem Ext.drew {a b : World} (h : Ext a b) : Ext a b.drew := Below.drew h
theorem Ext.le {a b : World} (h : Ext a b) : a.heap.size ≤ b.heap.size := h.size
theorem Ext.blk {a b : World} (h : Ext a b) {k : Nat} {o : Obj} (hk : a.heap[k]? = some o) : b.heap[k]? = some o := by
  rw [h.block k (Array.getElem?_eq_some_iff.1 hk).1]; exact hk
theorem Ext.cell {a b : World} (h : Ext a b) {p : Addr} {v : Value} (hc : a.cell? p = some v) : b.cell? p = some v := by
  rw [Below.cell h (World.block_lt_of_cell? a p hc)]; exact hc
end Go.Proofs.Ytepioeaomlmocaa
