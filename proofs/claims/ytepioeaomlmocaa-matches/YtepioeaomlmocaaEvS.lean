import Derived.Test.YtepioeaomlmocaaMet3
namespace Go.Proofs.Ytepioeaomlmocaa
open Go.RowKit

/-- The value of an attribute among fields. -/
def fo (l : List Fd) (a : Int) : Option Vl := (l.find? (fun f => f.attr == a)).map (·.v)
/-- May a field be, behind others? -/
def fieldOK (sch : List Int) (pre : List Fd) (f : Fd) : Bool := inR f.attr sch.length && (fitsB (sch.getD f.attr.toNat 0) f.v && (fo pre f.attr).isNone)
theorem fo_nil (a : Int) : fo [] a = none := rfl
theorem fo_succ (l : List Fd) (k : Nat) (a : Int) (hk : k < l.length) : fo (l.take (k + 1)) a = (fo (l.take k) a).or (if l[k].attr == a then some l[k].v else none) := by
  unfold fo
  rw [List.take_succ_eq_append_getElem hk, List.find?_append]
  cases h : (l.take k).find? (fun f => f.attr == a) with
  | some x => simp
  | none =>
    by_cases e : (l[k].attr == a) = true
    · simp [e]
    · simp [e]
theorem none_succ (l : List Fd) (k : Nat) (a : Int) (hk : k < l.length) : (fo (l.take (k + 1)) a).isNone = ((fo (l.take k) a).isNone && (l[k].attr != a)) := by
  rw [fo_succ l k a hk]
  cases h : fo (l.take k) a with
  | some x => simp
  | none =>
    by_cases e : (l[k].attr == a) = true
    · simp [e, bne]
    · simp [e, bne]

/-- The place of the first field that may not be; the length, if there is none. -/
def FirstBad (sch : List Int) (l : List Fd) (q : Nat) : Prop := q ≤ l.length ∧ (∀ j (hj : j < l.length), j < q → fieldOK sch (l.take j) l[j] = true) ∧ ∀ hq : q < l.length, fieldOK sch (l.take q) l[q] = false
def placeOf (l : List Fd) (q : Nat) : Int := if q < l.length then (q : Int) else -1
theorem ex_bad (sch : List Int) (l : List Fd) : ∃ q, FirstBad sch l q := by
  have h : ∃ q, q = l.length ∨ ∃ hq : q < l.length, fieldOK sch (l.take q) l[q] = false := ⟨l.length, Or.inl rfl⟩
  obtain ⟨q, hq, hmin⟩ := exists_least h
  have hle : q ≤ l.length := by
    rcases hq with rfl | ⟨hq, _⟩ <;> omega
  refine ⟨q, hle, fun j hj hlt => ?_, fun hq' => ?_⟩
  · cases hf : fieldOK sch (l.take j) l[j]
    · have := hmin j (Or.inr ⟨hj, hf⟩); omega
    · rfl
  · rcases hq with rfl | ⟨_, hf⟩
    · omega
    · exact hf

end Go.Proofs.Ytepioeaomlmocaa
