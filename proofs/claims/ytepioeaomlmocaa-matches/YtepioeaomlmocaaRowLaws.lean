import Derived.Test.YtepioeaomlmocaaRowy
import Derived.Deep.MidRow
namespace Go.Proofs.Ytepioeaomlmocaa
open Go.RowKit

theorem Row.range {w : World} {g : Nat} {T : TypeId} {l : List Value} (h : Row w g T l) : w.rangeAt g 0 l := fun j v hv => by
  obtain ⟨h1, h2⟩ := List.getElem?_eq_some_iff.1 hv
  rw [Nat.zero_add, h.cell h1, h2]
theorem Row.there {w : World} {g : Nat} {T : TypeId} {l : List Value} (h : Row w g T l) (n : Nat) (hn : n ≤ l.length) : w.there g 0 n := fun j hj => by
  rw [Nat.zero_add, h.cell (j := j) (by omega)]
  exact ⟨rfl, h.frozen j⟩
theorem row_setCells {g : Nat} {T : TypeId} : ∀ (vs : List Value) (o : Nat) (w : World) (l : List Value), Row w g T l → o + vs.length ≤ l.length → Row (w.setCells g o vs) g T (l.take o ++ vs ++ l.drop (o + vs.length))
  | [], o, w, l, h, _ => by simpa [World.setCells] using h
  | v :: r, o, w, l, h, hl => by
    simp only [List.length_cons] at hl
    have ih := row_setCells r (o + 1) (w.setCell ⟨g, o, none⟩ v) (l.set o v) (h.set o v) (by simp; omega)
    have e := list_seg_step l o v r (by omega)
    rw [e] at ih
    simp only [World.setCells, List.length_cons]
    exact ih
theorem kp_setCells {M : Nat → Prop} {g : Nat} (hM : M g) : ∀ (vs : List Value) (o : Nat) (a w : World), Kp M a w → Kp M a (w.setCells g o vs)
  | [], _, _, _, h => h
  | v :: r, o, a, w, h => by
    simp only [World.setCells]
    exact kp_setCells hM r (o + 1) a _ (h.setCell (fun _ => hM) v)

theorem wpList_load_row {P : Program} {ops : Array Oper} {rest : List Oper} {op : Oper} {a : Act} {w : World} {Q : Exit → Act → World → Prop} (hgd : op.guard = none) (ty : TypeId) (x : Operand) (ho : op.op = .load ty x)
    (g : Nat) (hx : a.eval x = .pointer (some ⟨g, 0, none⟩)) (cs : List Value) (d : TypeDesc) (T : TypeId) (hr : Row w g T cs)
    (hu : P.underlying ty = some d) (hd : d.isRow = true) (hi : (P.info? ty).map (·.size) = some cs.length)
    (h : wpList P ops Q rest (a.put op.dst (.agg cs.toArray)) w) : wpList P ops Q (op :: rest) a w :=
  wpList_load_mid hgd ty x ho g 0 hx cs d hr.range hu hd hi h

theorem wpList_store_row {P : Program} {ops : Array Oper} {rest : List Oper} {op : Oper} {a : Act} {w : World} {Q : Exit → Act → World → Prop} (hgd : op.guard = none) (ty : TypeId) (x y : Operand) (ho : op.op = .store ty x y)
    (g : Nat) (cs cur : List Value) (hx : a.eval x = .pointer (some ⟨g, 0, none⟩)) (hy : a.eval y = .agg cs.toArray) (T : TypeId) (hr : Row w g T cur) (hl : cs.length = cur.length)
    (hi : (P.info? ty).map (·.size) = some cs.length) (h1 : ∀ v ∈ cs, v.oneCell' = true)
    (h : ∀ w', Row w' g T cs → Kp (fun k => k = g) w w' → wpList P ops Q rest (a.put op.dst undef) w') : wpList P ops Q (op :: rest) a w := by
  refine wpList_store_mid hgd ty x y ho g 0 cs.toArray hx hy (by simpa using hr.there cs.length (by omega)) (by simpa using hi) (all_oneCell_toArray h1) ?_
  refine h _ ?_ (kp_setCells (M := fun k => k = g) rfl _ _ _ _ (Kp.refl _ _))
  have := row_setCells (g := g) (T := T) cs 0 w cur hr (by omega)
  simpa [hl] using this

theorem results_cell2 {P : Program} {fn : Func} {p u v : Tmp} {ty : TypeId} (h : fn.results = #[.cell p ty, .tmp u, .tmp v]) (tmps : Array Value) (w : World) (g : Nat) (cs : List Value) (d : TypeDesc) (T : TypeId) (hr : Row w g T cs)
    (hu : P.underlying ty = some d) (hd : d.isRow = true) (hi : (P.info? ty).map (·.size) = some cs.length) (hp : tmps.getD p undef = .pointer (some ⟨g, 0, none⟩)) :
    (results fn tmps).run P w = .ok (.tuple #[.agg cs.toArray, tmps.getD u undef, tmps.getD v undef]) w := by
  have hl := run_loadVar_mid (P := P) w g 0 ty cs d hr.range hu hd hi
  have hp' : tmps[p]?.getD undef = .pointer (some ⟨g, 0, none⟩) := by simpa using hp
  simp only [results, h]
  simp [Result.andThen, hp', asAddr, hl]
end Go.Proofs.Ytepioeaomlmocaa
