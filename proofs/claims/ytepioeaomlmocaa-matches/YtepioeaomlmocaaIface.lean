import Derived.Test.YtepioeaomlmocaaStill
namespace Go.Proofs.Ytepioeaomlmocaa
open Go.RowKit

/-- What the laws ask of the program's engine: its contracts. -/
structure EngC (E : World → Nat → (Nat → Prop) → List Int → List (Int × List Cd) → Prop) : Prop where
  kp : ∀ {w w' : World} {eb : Nat} {F M : Nat → Prop} {sch : List Int} {flt : List (Int × List Cd)}, E w eb F sch flt → Kp M w w' → (∀ b, F b → ¬ M b) → E w' eb F sch flt
  mono : ∀ {w : World} {eb : Nat} {F G : Nat → Prop} {sch : List Int} {flt : List (Int × List Cd)}, E w eb F sch flt → (∀ b, F b → G b) → E w eb G sch flt
  new_no : ∀ (ao : Option Addr) (cap : Nat) (xs : List Int) (w : World), xs.length * 8 ≤ 140737488351232 → Ixs w ao xs → (ao = none → xs.length = 0 ∧ cap = 0) → schB xs = false →
    Calls Try.prog 7 #[.slice ao xs.length cap] w fun e w' => e = .returned (.tuple #[.pointer none, .int .i64 1]) ∧ Ext w w'
  new_ok : ∀ (ao : Option Addr) (cap : Nat) (xs : List Int) (w : World), xs.length * 8 ≤ 140737488351232 → Ixs w ao xs → (ao = none → xs.length = 0 ∧ cap = 0) → schB xs = true →
    Calls Try.prog 7 #[.slice ao xs.length cap] w fun e w' => ∃ eb, e = .returned (.tuple #[.pointer (some ⟨eb, 0, none⟩), .int .i64 0]) ∧ Ext w w' ∧ E w' eb (fun b => w.heap.size ≤ b ∧ b < w'.heap.size) xs []
  sub : ∀ (eb : Nat) (F : Nat → Prop) (sch : List Int) (flt : List (Int × List Cd)) (id : Int) (ao : Option Addr) (cap : Nat) (l : List Cd) (w : World), 1 ≤ sch.length → sch.length ≤ 6 → flt.length ≤ 100 → SortedF flt → l.length * 64 ≤ 140737488351232 →
    (∀ j (hj : j < l.length), l[j].a.s.size ≤ 9223372036854775807 ∧ l[j].b.s.size ≤ 9223372036854775807) → E w eb F sch flt → Cxs w ao l → (∀ g, blkOf ao = some g → ¬ F g) → (ao = none → l.length = 0 ∧ cap = 0) → ∀ q k, PosOf flt id q → BadOf sch l k →
    Calls Try.prog 11 #[.pointer (some ⟨eb, 0, none⟩), .int .i64 id, .slice ao l.length cap] w fun e w' => e = .returned (.tuple #[.int .i64 (subErr flt id l q k), .int .i64 (subPlace flt id l q k)]) ∧ Kp F w w' ∧ E w' eb (Grow F w w') sch (subFlt flt id l q k)
  un : ∀ (eb : Nat) (F : Nat → Prop) (sch : List Int) (flt : List (Int × List Cd)) (id : Int) (w : World), flt.length ≤ 100 → SortedF flt → E w eb F sch flt → ∀ q, PosOf flt id q →
    Calls Try.prog 46 #[.pointer (some ⟨eb, 0, none⟩), .int .i64 id] w fun e w' => e = .returned (.int .i64 (unErr flt id q)) ∧ Kp F w w' ∧ E w' eb (Grow F w w') sch (unFlt flt id q)
  ma : ∀ (eb : Nat) (F : Nat → Prop) (sch : List Int) (flt : List (Int × List Cd)) (ao : Option Addr) (lcap : Nat) (ev : List Fd) (w : World), sch.length ≤ 6 → ev.length * 32 ≤ 140737488351232 → flt.length ≤ 100 → E w eb F sch flt → Fxs w ao ev → (∀ g, blkOf ao = some g → ¬ F g) →
    (∀ j (hj : j < ev.length), ev[j].v.s.size ≤ 9223372036854775807) → FltOK flt → ∀ q, FirstBad sch ev q →
    Calls Try.prog 41 #[.pointer (some ⟨eb, 0, none⟩), .slice ao ev.length lcap] w fun e w' => ∃ ro rcap F', e = .returned (.tuple #[.slice ro (maIds flt ev q).length rcap, .int .i64 (maErr ev q), .int .i64 (maPlace ev q)]) ∧ OSl w' 3 1 ro (maIds flt ev q).length rcap ((maIds flt ev q).map (Value.int .i64))
      ∧ (∀ g, blkOf ro = some g → w.heap.size ≤ g ∧ ¬ F' g) ∧ Kp F w w' ∧ E w' eb F' sch flt ∧ ∀ b, F' b → Grow F w w' b

/-- The blocks of two things that go together, behind a step: nothing but these and what is new. -/
structure Two (E : World → Nat → (Nat → Prop) → List Int → List (Int × List Cd) → Prop) (w : World) (eb rb : Nat) (Fe Fr : Nat → Prop) (sch : List Int) (flt : List (Int × List Cd)) : Prop where
  e : E w eb Fe sch flt
  r : RefAt w rb Fr sch flt
  le : ∀ b, Fe b → b < w.heap.size
  lr : ∀ b, Fr b → b < w.heap.size
  dis : ∀ b, Fe b → ¬ Fr b
theorem pad_cds {w : World} {g : Nat} {T : TypeId} {l : List Cd} (h : Row w g T (padCd l)) : Cds w g 0 l := by
  intro j hj
  have := cds_row h j (by simp; omega)
  rw [List.getElem_append_left hj] at this
  exact this
end Go.Proofs.Ytepioeaomlmocaa
