import Derived.Test.YtepioeaomlmocaaOwn
namespace Go.Proofs.Ytepioeaomlmocaa
open Go.RowKit

/-- The reference's engine. -/
def RefAt (w : World) (rb : Nat) (F : Nat → Prop) (sch : List Int) (flt : List (Int × List Cd)) : Prop :=
  F rb ∧ ∃ (sb sc : Nat) (fa : Option Addr) (fcap : Nat) (ev : Int) (es : List Ent), es.map Ent.key = flt ∧ Row w rb 94 [.slice (some ⟨sb, 0, none⟩) sch.length sc, .slice fa es.length fcap, .int .i64 ev] ∧ F sb ∧ sb ≠ rb ∧ Ints w sb 0 sch
    ∧ OSl w 116 2 fa es.length fcap (es.flatMap Ent.cells) ∧ (∀ g, blkOf fa = some g → F g ∧ g ≠ rb) ∧ ∀ e ∈ es, EntOK w F (fun b => b = rb) e
theorem RefAt.kp {w w' : World} {rb : Nat} {F M : Nat → Prop} {sch : List Int} {flt : List (Int × List Cd)} (h : RefAt w rb F sch flt) (k : Kp M w w') (hm : ∀ b, F b → ¬ M b) : RefAt w' rb F sch flt := by
  obtain ⟨h1, sb, sc, fa, fcap, ev, es, he, hr, hF, hne, hI, hO, hg, hE⟩ := h
  exact ⟨h1, sb, sc, fa, fcap, ev, es, he, k.row hr (hm _ h1), hF, hne, hI.kp k (hm _ hF), hO.kp k (fun g hg' => hm _ (hg g hg').1), hg, fun e he => (hE e he).kp k (fun b hb _ => hm b hb)⟩
theorem RefAt.mono {w : World} {rb : Nat} {F G : Nat → Prop} {sch : List Int} {flt : List (Int × List Cd)} (h : RefAt w rb F sch flt) (hm : ∀ b, F b → G b) : RefAt w rb G sch flt := by
  obtain ⟨h1, sb, sc, fa, fcap, ev, es, he, hr, hF, hne, hI, hO, hg, hE⟩ := h
  exact ⟨hm _ h1, sb, sc, fa, fcap, ev, es, he, hr, hm _ hF, hne, hI, hO, fun g hg' => ⟨hm _ (hg g hg').1, (hg g hg').2⟩, fun e he => (hE e he).mono (fun b h1 h2 _ => ⟨hm b h1, h2⟩)⟩
/-- The blocks of F, and those that are new. -/
def Grow (F : Nat → Prop) (w w' : World) (b : Nat) : Prop := F b ∨ (w.heap.size ≤ b ∧ b < w'.heap.size)

/-- Where a number stands, or would. -/
def PosOf (flt : List (Int × List Cd)) (id : Int) (q : Nat) : Prop := q ≤ flt.length ∧ (∀ j (hj : j < flt.length), j < q → flt[j].1 < id) ∧ ∀ hq : q < flt.length, ¬ flt[q].1 < id
theorem ex_pos (flt : List (Int × List Cd)) (id : Int) : ∃ q, PosOf flt id q := by
  have h : ∃ q, q = flt.length ∨ ∃ hq : q < flt.length, ¬ flt[q].1 < id := ⟨flt.length, Or.inl rfl⟩
  obtain ⟨q, hq, hmin⟩ := exists_least h
  refine ⟨q, by rcases hq with rfl | ⟨hq, _⟩ <;> omega, fun j hj hlt => ?_, fun hq' => ?_⟩
  · apply Classical.byContradiction
    intro hn
    have := hmin j (Or.inr ⟨hj, hn⟩); omega
  · rcases hq with rfl | ⟨_, hf⟩
    · omega
    · exact hf
/-- The first condition that may not be; the length, if there is none. -/
def BadOf (sch : List Int) (l : List Cd) (k : Nat) : Prop := k ≤ l.length ∧ (∀ j (hj : j < l.length), j < k → mayB sch l[j] = true) ∧ ∀ hk : k < l.length, mayB sch l[k] = false
theorem ex_badc (sch : List Int) (l : List Cd) : ∃ k, BadOf sch l k := by
  have h : ∃ q, q = l.length ∨ ∃ hq : q < l.length, mayB sch l[q] = false := ⟨l.length, Or.inl rfl⟩
  obtain ⟨q, hq, hmin⟩ := exists_least h
  refine ⟨q, by rcases hq with rfl | ⟨hq, _⟩ <;> omega, fun j hj hlt => ?_, fun hq' => ?_⟩
  · cases hf : mayB sch l[j]
    · have := hmin j (Or.inr ⟨hj, hf⟩); omega
    · rfl
  · rcases hq with rfl | ⟨_, hf⟩
    · omega
    · exact hf
/-- Is there a filter of that number? (q is where it would stand.) -/
def thereB (flt : List (Int × List Cd)) (id : Int) (q : Nat) : Bool := match flt[q]? with
  | some e => e.1 == id
  | none => false
/-- What Subscribe answers. -/
def subErr (flt : List (Int × List Cd)) (id : Int) (l : List Cd) (q k : Nat) : Int :=
  if id < 0 then 2 else if thereB flt id q then 3 else if 8 < l.length then 4 else if k < l.length then 5 else if 100 ≤ flt.length then 6 else 0
def subPlace (flt : List (Int × List Cd)) (id : Int) (l : List Cd) (q k : Nat) : Int := if subErr flt id l q k == 5 then (k : Int) else 0
def subFlt (flt : List (Int × List Cd)) (id : Int) (l : List Cd) (q k : Nat) : List (Int × List Cd) := if subErr flt id l q k == 0 then flt.take q ++ (id, l) :: flt.drop q else flt
theorem ent_at (es : List Ent) (k : Nat) (hk : k < es.length) : (es.flatMap Ent.cells)[k * 2]? = some (.int .i64 es[k].id) ∧ (es.flatMap Ent.cells)[k * 2 + 1]? = some (.slice es[k].ao es[k].l.length es[k].cap) :=
  ⟨flat_at Ent.cells 2 (fun _ => rfl) es k 0 hk (by omega), flat_at Ent.cells 2 (fun _ => rfl) es k 1 hk (by omega)⟩
theorem key_at {es : List Ent} {flt : List (Int × List Cd)} (h : es.map Ent.key = flt) : flt.length = es.length ∧ ∀ k (hk : k < es.length) (hk' : k < flt.length), flt[k] = (es[k].id, es[k].l) := by
  subst h
  refine ⟨by simp, fun k hk hk' => ?_⟩
  simp [Ent.key]
end Go.Proofs.Ytepioeaomlmocaa
