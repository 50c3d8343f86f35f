import Derived.Test.YtepioeaomlmocaaData
namespace Go.Proofs.Ytepioeaomlmocaa
open Go.RowKit Go.ChangeShapes Go.WideShapes
section
variable {H : Type} {enc : TypeId × Value → H} {w : World} {base : Nat} {spare : Nat → Bool} {held : Bool}

theorem fxs_of {fuel : Nat} {v : Value} {x : DataW H × List MemPlace} (h : DataW.trod enc Try.prog w base spare held fuel 44 [v] = some x) (hz : Sz 44 x.1) : ∃ ao l cap, v = .slice ao (List.length (α := Fd) l) cap ∧ Fxs w ao l ∧ l.length * 32 ≤ 140737488351232 ∧ (ao = none → l.length = 0 ∧ cap = 0) ∧ (∀ g, blkOf ao = some g → 0 < l.length → g < w.heap.size) ∧ ∀ j (hj : j < l.length), l[j].v.s.size ≤ 9223372036854775807 := by
  rcases Go.Deep.open_slice Try.underlying44 h with ⟨hcs, hx⟩ | ⟨a, len, cap, m, n, D, Pl, hcs, _, hl, hm, hmm, hx, hel⟩
  · simp at hcs
    exact ⟨none, [], 0, hcs, fun h => absurd h (by simp), by simp, fun _ => ⟨rfl, rfl⟩, (fun g hg => by cases hg), fun j hj => absurd hj (by simp)⟩
  · simp at hcs
    have hle : len ≤ m := by rw [hmm]; split <;> omega
    subst hx
    have hb := hz.len Try.underlying44
    rw [Try.bytesFd] at hb
    simp only [List.length_map, List.length_range, reachBytes] at hb
    obtain ⟨l, hll, hp⟩ := list_of (α := Fd) (p := fun i c => (∀ j, j < 3 → w.cell? (a.add (i * 3 + j)) = c.cells[j]?) ∧ c.v.s.size ≤ 9223372036854775807) len (fun i hi => by
      obtain ⟨cs', h1, h2⟩ := hel i (by omega)
      rw [Try.cellsFd] at h1
      obtain ⟨c, rfl, hs⟩ := fd_of h2
      exact ⟨c, (cells_at h1).2, hs⟩)
    have key : 0 < l.length → ∃ b o, a = ⟨b, o, none⟩ ∧ Fds w b o l ∧ b < w.heap.size := fun h0 => by
      have c0 : w.cell? (a.add (0 * 3 + 0)) = some (.int .i64 l[0].attr) := (hp 0 h0).1 0 (by decide)
      obtain ⟨b, o, rfl⟩ := spot_of rfl c0
      refine ⟨b, o, rfl, fun k hk => ?_, World.block_lt_of_cell? w _ (by simpa [Addr.add] using c0)⟩
      have hh := (hp k hk).1
      have g0 := hh 0 (by decide)
      have g1 := hh 1 (by decide)
      have g2 := hh 2 (by decide)
      rw [add_at] at g0 g1 g2
      exact ⟨g0, g1, g2⟩
    refine ⟨some a, l, cap, by rw [hll]; exact hcs, fun h0 => ?_, by omega, (fun h => by cases h), fun g hg h0 => ?_, fun j hj => (hp j hj).2⟩
    · obtain ⟨b, o, rfl, hC, _⟩ := key h0
      exact ⟨b, o, rfl, hC⟩
    · obtain ⟨b, o, rfl, _, hb⟩ := key h0
      cases hg; exact hb

set_option maxRecDepth 100000 in
set_option maxHeartbeats 400000 in
theorem op_of {fuel : Nat} {cs : List Value} {x : DataW H × List MemPlace} (h : DataW.trod enc Try.prog w base spare held fuel 74 cs = some x) (hz : Sz 74 x.1) : ∃ d : OpD, cs = d.cells ∧ OpIn w d := by
  obtain ⟨xs, n, rfl, hx, hl, hxl, hf⟩ := DataW.trod_struct Try.underlying74 h
  rw [Try.cellsOp] at hl
  match cs, hl with
  | [c0, c1, c2, c3, c4, c5, c6, c7], _ =>
    have f0 : DataW.trod enc Try.prog w base spare held n 3 (List.take (Try.prog.cellsOf 3) (List.drop 0 [c0, c1, c2, c3, c4, c5, c6, c7])) = xs[0]? := hf 0 _ rfl
    have f1 : DataW.trod enc Try.prog w base spare held n 3 (List.take (Try.prog.cellsOf 3) (List.drop 1 [c0, c1, c2, c3, c4, c5, c6, c7])) = xs[1]? := hf 1 _ rfl
    have f2 : DataW.trod enc Try.prog w base spare held n 3 (List.take (Try.prog.cellsOf 3) (List.drop 2 [c0, c1, c2, c3, c4, c5, c6, c7])) = xs[2]? := hf 2 _ rfl
    have f3 : DataW.trod enc Try.prog w base spare held n 27 (List.take (Try.prog.cellsOf 27) (List.drop 3 [c0, c1, c2, c3, c4, c5, c6, c7])) = xs[3]? := hf 3 _ rfl
    have f4 : DataW.trod enc Try.prog w base spare held n 39 (List.take (Try.prog.cellsOf 39) (List.drop 4 [c0, c1, c2, c3, c4, c5, c6, c7])) = xs[4]? := hf 4 _ rfl
    have f5 : DataW.trod enc Try.prog w base spare held n 44 (List.take (Try.prog.cellsOf 44) (List.drop 5 [c0, c1, c2, c3, c4, c5, c6, c7])) = xs[5]? := hf 5 _ rfl
    have f6 : DataW.trod enc Try.prog w base spare held n 72 (List.take (Try.prog.cellsOf 72) (List.drop 6 [c0, c1, c2, c3, c4, c5, c6, c7])) = xs[6]? := hf 6 _ rfl
    have f7 : DataW.trod enc Try.prog w base spare held n 9 (List.take (Try.prog.cellsOf 9) (List.drop 7 [c0, c1, c2, c3, c4, c5, c6, c7])) = xs[7]? := hf 7 _ rfl
    rw [Try.cellsInt, List.getElem?_eq_getElem (by rw [hxl]; decide)] at f0
    rw [Try.cellsInt, List.getElem?_eq_getElem (by rw [hxl]; decide)] at f1
    rw [Try.cellsInt, List.getElem?_eq_getElem (by rw [hxl]; decide)] at f2
    rw [Try.cellsNs, List.getElem?_eq_getElem (by rw [hxl]; decide)] at f3
    rw [Try.cellsCs, List.getElem?_eq_getElem (by rw [hxl]; decide)] at f4
    rw [Try.cellsFs, List.getElem?_eq_getElem (by rw [hxl]; decide)] at f5
    rw [Try.cellsEs, List.getElem?_eq_getElem (by rw [hxl]; decide)] at f6
    rw [Try.cellsStr, List.getElem?_eq_getElem (by rw [hxl]; decide)] at f7
    subst hx
    have z3 : Sz 27 (xs[3]'(by rw [hxl]; decide)).1 := hz.part Try.underlying74 (j := 3) rfl (by simp [hxl])
    have z4 : Sz 39 (xs[4]'(by rw [hxl]; decide)).1 := hz.part Try.underlying74 (j := 4) rfl (by simp [hxl])
    have z5 : Sz 44 (xs[5]'(by rw [hxl]; decide)).1 := hz.part Try.underlying74 (j := 5) rfl (by simp [hxl])
    obtain ⟨a0, e0, _, _⟩ := DataW.trod_int Try.underlying3 f0
    obtain ⟨a1, e1, _, w1⟩ := DataW.trod_int Try.underlying3 f1
    obtain ⟨a2, e2, _, _⟩ := DataW.trod_int Try.underlying3 f2
    obtain ⟨no, ns, ncap, e3, n1, n2, n3⟩ := ixs_of f3 z3
    obtain ⟨fo, l, fcap, e4, l1, l2, l3, l4, l5⟩ := cxs_of f4 z4
    obtain ⟨eo, ev, ecap, e5, v1, v2, v3, v4, v5⟩ := fxs_of f5 z5
    obtain ⟨xo, xn, xcap, e6⟩ : ∃ xo xn xcap, c6 = .slice xo xn xcap := by
      rcases Go.Deep.open_slice Try.underlying72 f6 with ⟨hcs, _⟩ | ⟨a, len, cap, _, _, _, _, hcs, _⟩
      · simp at hcs; exact ⟨_, _, _, hcs⟩
      · simp at hcs; exact ⟨_, _, _, hcs⟩
    obtain ⟨s, e7, _, _⟩ := DataW.trod_string Try.underlying9 f7
    simp at e0 e1 e2 e7
    subst e0 e1 e2 e3 e4 e5 e6 e7
    exact ⟨⟨a0, a1, a2, no, ns, ncap, fo, l, fcap, eo, ev, ecap, xo, xn, xcap, s⟩, rfl, n1, n2, n3, l1, l2, l3, l4, l5, v1, v2, v3, v4, v5, bounds_i64 w1⟩

theorem ops_of {fuel : Nat} {v : Value} {x : DataW H × List MemPlace} (h : DataW.trod enc Try.prog w base spare held fuel 22 [v] = some x) (hz : Sz 22 x.1) : ∃ so ds cap, v = .slice so (List.length (α := OpD) ds) cap ∧ (0 < ds.length → ∃ b o, so = some ⟨b, o, none⟩ ∧ ∀ j (hj : j < ds.length), w.rangeAt b (o + j * 8) ds[j].cells) ∧ (∀ d ∈ ds, OpIn w d) ∧ (ds.length + 4) * 96 ≤ 140737488355328 := by
  rcases Go.Deep.open_slice Try.underlying22 h with ⟨hcs, hx⟩ | ⟨a, len, cap, m, n, D, Pl, hcs, _, hl, hm, hmm, hx, hel⟩
  · simp at hcs
    exact ⟨none, [], 0, hcs, fun h => absurd h (by simp), fun d hd => absurd hd (by simp), by simp⟩
  · simp at hcs
    have hle : len ≤ m := by rw [hmm]; split <;> omega
    subst hx
    have hb := hz.len Try.underlying22
    rw [Try.bytesOp] at hb
    simp only [List.length_map, List.length_range, reachBytes] at hb
    obtain ⟨ds, hdl, hp⟩ := list_of (α := OpD) (p := fun i d => (∀ j, j < 8 → w.cell? (a.add (i * 8 + j)) = d.cells[j]?) ∧ OpIn w d) len (fun i hi => by
      obtain ⟨cs', h1, h2⟩ := hel i (by omega)
      rw [Try.cellsOp] at h1
      obtain ⟨d, rfl, hd⟩ := op_of h2 (hz.elem Try.underlying22 (List.mem_map.2 ⟨i, by simpa using hi, rfl⟩))
      exact ⟨d, (cells_at h1).2, hd⟩)
    refine ⟨some a, ds, cap, by rw [hdl]; exact hcs, fun h0 => ?_, fun d hd => ?_, by omega⟩
    · have c0 : w.cell? (a.add (0 * 8 + 0)) = some (.int .i64 ds[0].kind) := (hp 0 h0).1 0 (by decide)
      obtain ⟨b, o, rfl⟩ := spot_of rfl c0
      refine ⟨b, o, rfl, fun k hk => fun j u hj => ?_⟩
      have hj8 : j < 8 := by have := (List.getElem?_eq_some_iff.1 hj).1; simpa [OpD.cells] using this
      have hh := (hp k hk).1 j hj8
      rw [add_at] at hh
      rw [Nat.add_assoc, hh, hj]
    · obtain ⟨i, hi, rfl⟩ := List.mem_iff_getElem.1 hd
      exact (hp i hi).2
end
end Go.Proofs.Ytepioeaomlmocaa
