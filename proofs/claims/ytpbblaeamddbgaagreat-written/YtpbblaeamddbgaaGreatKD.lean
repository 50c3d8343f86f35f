import Derived.Test.YtpbblaeamddbgaaGreatKB
import Derived.Test.YtpbblaeamddbgaaGreatHE
namespace Go.Proofs.YtpbblaeamddbgaaGreat
open Go.RowKit Go.ChangeShapes Go.WideShapes

section
variable {H : Type} {enc : TypeId × Value → H} {w : World} {base : Nat} {spare : Nat → Bool} {held : Bool}
theorem Tryz.cellsWt : Tryz.prog.cellsOf 136 = 6 := by kernel_rfl
theorem Tryz.cellsHv : Tryz.prog.cellsOf 42 = 12 := by kernel_rfl
theorem Tryz.cellsWs : Tryz.prog.cellsOf 37 = 1 := by kernel_rfl
theorem Tryz.cellsBo : Tryz.prog.cellsOf 4 = 1 := by kernel_rfl
theorem Tryz.cellsB4 : Tryz.prog.cellsOf 38 = 4 := by kernel_rfl
theorem Tryz.cellsI4 : Tryz.prog.cellsOf 39 = 4 := by kernel_rfl
theorem Tryz.cellsS4 : Tryz.prog.cellsOf 40 = 4 := by kernel_rfl
theorem Tryz.bytesWt : Tryz.prog.bytesOf 136 = 64 := by kernel_rfl
theorem Tryz.bytesWs : Tryz.prog.bytesOf 37 = 24 := by kernel_rfl
theorem Tryz.bytesHv : Tryz.prog.bytesOf 42 = 104 := by kernel_rfl

set_option maxRecDepth 100000 in
theorem wt_of {fuel : Nat} {cs : List Value} {x : DataW H × List MemPlace} (h : DataW.trod enc Tryz.prog w base spare held fuel 136 cs = some x) : ∃ c : Wt, cs = c.cells ∧ WtOK c := by
  obtain ⟨xs, n, rfl, hx, hl, hxl, hf⟩ := DataW.trod_struct Tryz.underlying136 h
  rw [Tryz.cellsWt] at hl
  match cs, hl with
  | [c0, c1, c2, c3, c4, c5], _ =>
    have f0 : DataW.trod enc Tryz.prog w base spare held n 3 (List.take (Tryz.prog.cellsOf 3) (List.drop 0 [c0, c1, c2, c3, c4, c5])) = xs[0]? := hf 0 _ rfl
    have f1 : DataW.trod enc Tryz.prog w base spare held n 3 (List.take (Tryz.prog.cellsOf 3) (List.drop 1 [c0, c1, c2, c3, c4, c5])) = xs[1]? := hf 1 _ rfl
    have f2 : DataW.trod enc Tryz.prog w base spare held n 2 (List.take (Tryz.prog.cellsOf 2) (List.drop 2 [c0, c1, c2, c3, c4, c5])) = xs[2]? := hf 2 _ rfl
    have f3 : DataW.trod enc Tryz.prog w base spare held n 2 (List.take (Tryz.prog.cellsOf 2) (List.drop 3 [c0, c1, c2, c3, c4, c5])) = xs[3]? := hf 3 _ rfl
    have f4 : DataW.trod enc Tryz.prog w base spare held n 9 (List.take (Tryz.prog.cellsOf 9) (List.drop 4 [c0, c1, c2, c3, c4, c5])) = xs[4]? := hf 4 _ rfl
    have f5 : DataW.trod enc Tryz.prog w base spare held n 9 (List.take (Tryz.prog.cellsOf 9) (List.drop 5 [c0, c1, c2, c3, c4, c5])) = xs[5]? := hf 5 _ rfl
    rw [Tryz.cellsInt, List.getElem?_eq_getElem (by rw [hxl]; decide)] at f0
    rw [Tryz.cellsInt, List.getElem?_eq_getElem (by rw [hxl]; decide)] at f1
    rw [Tryz.cellsI64, List.getElem?_eq_getElem (by rw [hxl]; decide)] at f2
    rw [Tryz.cellsI64, List.getElem?_eq_getElem (by rw [hxl]; decide)] at f3
    rw [Tryz.cellsStr, List.getElem?_eq_getElem (by rw [hxl]; decide)] at f4
    rw [Tryz.cellsStr, List.getElem?_eq_getElem (by rw [hxl]; decide)] at f5
    obtain ⟨a, e0, _, w0⟩ := DataW.trod_int Tryz.underlying3 f0
    obtain ⟨b, e1, _, w1⟩ := DataW.trod_int Tryz.underlying3 f1
    obtain ⟨c, e2, _, _⟩ := DataW.trod_int Tryz.underlying2 f2
    obtain ⟨d, e3, _, _⟩ := DataW.trod_int Tryz.underlying2 f3
    obtain ⟨s, e4, _, _⟩ := DataW.trod_string Tryz.underlying9 f4
    obtain ⟨t, e5, _, _⟩ := DataW.trod_string Tryz.underlying9 f5
    simp at e0 e1 e2 e3 e4 e5
    subst e0 e1 e2 e3 e4 e5
    exact ⟨⟨a, b, c, d, s, t⟩, rfl, bounds_i64 w0, bounds_i64 w1⟩
theorem wxs_of {fuel : Nat} {v : Value} {x : DataW H × List MemPlace} (h : DataW.trod enc Tryz.prog w base spare held fuel 37 [v] = some x) (hz : Sz 37 x.1) : ∃ y : WL, v = .slice y.ao y.l.length y.cap ∧ Wxs w y.ao y.l ∧ y.l.length ≤ 140737488355328 ∧ ∀ c ∈ y.l, WtOK c := by
  rcases Go.Deep.open_slice Tryz.underlying37 h with ⟨hcs, hx⟩ | ⟨a, len, cap, m, n, D, Pl, hcs, _, hl, hm, hmm, hx, hel⟩
  · simp at hcs
    exact ⟨⟨[], none, 0⟩, hcs, fun h => absurd h (by simp), by simp, fun c hc => absurd hc (by simp)⟩
  · simp at hcs
    have hle : len ≤ m := by rw [hmm]; split <;> omega
    subst hx
    have hb := hz.len Tryz.underlying37
    rw [Tryz.bytesWt] at hb
    simp only [List.length_map, List.length_range, reachBytes] at hb
    obtain ⟨l, hll, hp⟩ := list_of (α := Wt) (p := fun i c => (∀ j, j < 6 → w.cell? (a.add (i * 6 + j)) = c.cells[j]?) ∧ WtOK c) len (fun i hi => by
      obtain ⟨cs', h1, h2⟩ := hel i (by omega)
      rw [Tryz.cellsWt] at h1
      obtain ⟨c, rfl, hs⟩ := wt_of h2
      exact ⟨c, (cells_at h1).2, hs⟩)
    refine ⟨⟨l, some a, cap⟩, by show v = .slice (some a) l.length cap; rw [hll]; exact hcs, fun h0 => ?_, by show l.length ≤ _; omega, fun c hc => ?_⟩
    · have c0 : w.cell? (a.add (0 * 6 + 0)) = some (.int .i64 l[0].attr) := (hp 0 h0).1 0 (by decide)
      obtain ⟨b, o, rfl⟩ := spot_of rfl c0
      refine ⟨b, o, rfl, fun k hk => fun j u hj => ?_⟩
      have hj6 : j < 6 := by have := (List.getElem?_eq_some_iff.1 hj).1; simpa [Wt.cells] using this
      have hh := (hp k hk).1 j hj6
      rw [add_at] at hh
      rw [Nat.add_assoc, hh, hj]
    · obtain ⟨i, hi, rfl⟩ := List.mem_iff_getElem.1 hc
      exact (hp i hi).2
theorem wls_of {fuel : Nat} {v : Value} {x : DataW H × List MemPlace} (h : DataW.trod enc Tryz.prog w base spare held fuel 31 [v] = some x) (hz : Sz 31 x.1) : ∃ lo ls cap, v = .slice lo (List.length (α := WL) ls) cap ∧ WLs w lo ls := by
  rcases Go.Deep.open_slice Tryz.underlying31 h with ⟨hcs, hx⟩ | ⟨a, len, cap, m, n, D, Pl, hcs, _, hl, hm, hmm, hx, hel⟩
  · simp at hcs
    exact ⟨none, [], 0, hcs, by simp, fun h => absurd h (by simp), fun c hc => absurd hc (by simp)⟩
  · simp at hcs
    have hle : len ≤ m := by rw [hmm]; split <;> omega
    subst hx
    have hb := hz.len Tryz.underlying31
    rw [Tryz.bytesWs] at hb
    simp only [List.length_map, List.length_range, reachBytes] at hb
    obtain ⟨ls, hll, hp⟩ := list_of (α := WL) (p := fun i y => w.cell? (a.add i) = some (.slice y.ao y.l.length y.cap) ∧ Wxs w y.ao y.l ∧ y.l.length ≤ 140737488355328 ∧ ∀ c ∈ y.l, WtOK c) len (fun i hi => by
      obtain ⟨cs', h1, h2⟩ := hel i (by omega)
      rw [Tryz.cellsWs] at h1
      obtain ⟨hcl, hca⟩ := cells_at h1
      match cs', hcl with
      | [u], _ =>
        obtain ⟨y, hy, hw⟩ := wxs_of h2 (hz.elem Tryz.underlying31 (List.mem_map.2 ⟨i, by simpa using hi, rfl⟩))
        have h0 := hca 0 (by decide)
        rw [Nat.mul_one, Nat.add_zero] at h0
        exact ⟨y, by rw [h0, hy]; rfl, hw⟩)
    refine ⟨some a, ls, cap, by rw [hll]; exact hcs, by omega, fun h0 => ?_, fun y hy => ?_⟩
    · have c0 := (hp 0 h0).1
      obtain ⟨b, o, rfl⟩ := spot_of rfl c0
      refine ⟨b, o, rfl, fun j hj => ?_⟩
      have hh := (hp j hj).1
      rw [add_at] at hh
      exact hh
    · obtain ⟨i, hi, rfl⟩ := List.mem_iff_getElem.1 hy
      exact (hp i hi).2
end
end Go.Proofs.YtpbblaeamddbgaaGreat
namespace Go.Proofs.YtpbblaeamddbgaaGreat
open Go.RowKit Go.ChangeShapes Go.WideShapes

section
variable {H : Type} {enc : TypeId × Value → H} {w : World} {base : Nat} {spare : Nat → Bool} {held : Bool}
set_option maxRecDepth 100000 in
theorem four_of {α : Type} [Inhabited α] {t : TypeId} {e : TypeId} (ht : Tryz.prog.underlying t = some (.array 4 e)) (hc : Tryz.prog.cellsOf t = 4) (he : Tryz.prog.cellsOf e = 1) (mk : α → Value)
    (hm : ∀ (fuel : Nat) (c : Value) (x : DataW H × List MemPlace), DataW.trod enc Tryz.prog w base spare held fuel e [c] = some x → ∃ a, c = mk a) {fuel : Nat} {cs : List Value} {x : DataW H × List MemPlace} (h : DataW.trod enc Tryz.prog w base spare held fuel t cs = some x) : ∃ f : Nat → α, cs = [mk (f 0), mk (f 1), mk (f 2), mk (f 3)] := by
  obtain ⟨xs, m, rfl, _, hl, hxl, hf⟩ := DataW.trod_array ht h
  rw [hc] at hl
  match cs, hl with
  | [c0, c1, c2, c3], _ =>
    have g : ∀ i (hi : i < 4), ∃ a, [c0, c1, c2, c3][i]'(by simpa using hi) = mk a := fun i hi => by
      have h1 := hf i hi
      rw [he, List.getElem?_eq_getElem (by omega)] at h1
      have h2 : ([c0, c1, c2, c3].drop (i * 1)).take 1 = [[c0, c1, c2, c3][i]'(by simpa using hi)] := by
        match i, hi with
        | 0, _ => rfl
        | 1, _ => rfl
        | 2, _ => rfl
        | 3, _ => rfl
      rw [h2] at h1
      exact hm _ _ _ h1
    obtain ⟨a0, e0⟩ := g 0 (by decide)
    obtain ⟨a1, e1⟩ := g 1 (by decide)
    obtain ⟨a2, e2⟩ := g 2 (by decide)
    obtain ⟨a3, e3⟩ := g 3 (by decide)
    simp at e0 e1 e2 e3
    exact ⟨fun i => [a0, a1, a2, a3].getD i default, by rw [e0, e1, e2, e3]; rfl⟩
set_option maxRecDepth 100000 in
theorem hv_of {fuel : Nat} {cs : List Value} {x : DataW H × List MemPlace} (h : DataW.trod enc Tryz.prog w base spare held fuel 42 cs = some x) : ∃ h : Hv, cs = h.cells := by
  obtain ⟨xs, n, rfl, hx, hl, hxl, hf⟩ := DataW.trod_struct Tryz.underlying42 h
  rw [Tryz.cellsHv] at hl
  match cs, hl with
  | [c0, c1, c2, c3, c4, c5, c6, c7, c8, c9, c10, c11], _ =>
    have f0 : DataW.trod enc Tryz.prog w base spare held n 38 (List.take (Tryz.prog.cellsOf 38) (List.drop 0 [c0, c1, c2, c3, c4, c5, c6, c7, c8, c9, c10, c11])) = xs[0]? := hf 0 _ rfl
    have f1 : DataW.trod enc Tryz.prog w base spare held n 39 (List.take (Tryz.prog.cellsOf 39) (List.drop 4 [c0, c1, c2, c3, c4, c5, c6, c7, c8, c9, c10, c11])) = xs[1]? := hf 1 _ rfl
    have f2 : DataW.trod enc Tryz.prog w base spare held n 40 (List.take (Tryz.prog.cellsOf 40) (List.drop 8 [c0, c1, c2, c3, c4, c5, c6, c7, c8, c9, c10, c11])) = xs[2]? := hf 2 _ rfl
    rw [Tryz.cellsB4, List.getElem?_eq_getElem (by rw [hxl]; decide)] at f0
    rw [Tryz.cellsI4, List.getElem?_eq_getElem (by rw [hxl]; decide)] at f1
    rw [Tryz.cellsS4, List.getElem?_eq_getElem (by rw [hxl]; decide)] at f2
    obtain ⟨tb, e0⟩ := four_of Tryz.underlying38 Tryz.cellsB4 Tryz.cellsBo Value.bool (fun _ c x hx => by
      obtain ⟨b, hb, _⟩ := DataW.trod_bool Tryz.underlying4 hx
      exact ⟨b, by simpa using hb⟩) f0
    obtain ⟨tn, e1⟩ := four_of Tryz.underlying39 Tryz.cellsI4 Tryz.cellsI64 (Value.int .i64) (fun _ c x hx => by
      obtain ⟨b, hb, _⟩ := DataW.trod_int Tryz.underlying2 hx
      exact ⟨b, by simpa using hb⟩) f1
    obtain ⟨ts, e2⟩ := four_of (α := ByteArray) Tryz.underlying40 Tryz.cellsS4 Tryz.cellsStr Value.string (fun _ c x hx => by
      obtain ⟨b, hb, _⟩ := DataW.trod_string Tryz.underlying9 hx
      exact ⟨b, by simpa using hb⟩) f2
    simp at e0 e1 e2
    obtain ⟨rfl, rfl, rfl, rfl⟩ := e0
    obtain ⟨rfl, rfl, rfl, rfl⟩ := e1
    obtain ⟨rfl, rfl, rfl, rfl⟩ := e2
    exact ⟨⟨tb, tn, ts⟩, rfl⟩
theorem hvs_of {fuel : Nat} {v : Value} {x : DataW H × List MemPlace} (h : DataW.trod enc Tryz.prog w base spare held fuel 32 [v] = some x) (hz : Sz 32 x.1) : ∃ ho hs cap, v = .slice ho (List.length (α := Hv) hs) cap ∧ HVs w ho hs := by
  rcases Go.Deep.open_slice Tryz.underlying32 h with ⟨hcs, hx⟩ | ⟨a, len, cap, m, n, D, Pl, hcs, _, hl, hm, hmm, hx, hel⟩
  · simp at hcs
    exact ⟨none, [], 0, hcs, by simp, fun h => absurd h (by simp)⟩
  · simp at hcs
    have hle : len ≤ m := by rw [hmm]; split <;> omega
    subst hx
    have hb := hz.len Tryz.underlying32
    rw [Tryz.bytesHv] at hb
    simp only [List.length_map, List.length_range, reachBytes] at hb
    obtain ⟨l, hll, hp⟩ := list_of (α := Hv) (p := fun i c => ∀ j, j < 12 → w.cell? (a.add (i * 12 + j)) = c.cells[j]?) len (fun i hi => by
      obtain ⟨cs', h1, h2⟩ := hel i (by omega)
      rw [Tryz.cellsHv] at h1
      obtain ⟨c, rfl⟩ := hv_of h2
      exact ⟨c, (cells_at h1).2⟩)
    refine ⟨some a, l, cap, by rw [hll]; exact hcs, by omega, fun h0 => ?_⟩
    have c0 : w.cell? (a.add (0 * 12 + 0)) = some (.bool (l[0].th 0)) := hp 0 h0 0 (by decide)
    obtain ⟨b, o, rfl⟩ := spot_of rfl c0
    refine ⟨b, o, rfl, fun k hk => fun j u hj => ?_⟩
    have hj12 : j < 12 := by have := (List.getElem?_eq_some_iff.1 hj).1; simpa [Hv.cells] using this
    have hh := hp k hk j hj12
    rw [add_at] at hh
    rw [Nat.add_assoc, hh, hj]
theorem ixb_of {fuel : Nat} {v : Value} {x : DataW H × List MemPlace} (h : DataW.trod enc Tryz.prog w base spare held fuel 25 [v] = some x) (hz : Sz 25 x.1) : ∃ ao xs cap, v = .slice ao (List.length (α := Int) xs) cap ∧ Ixs w ao xs ∧ xs.length * 8 ≤ 140737488351232 ∧ ∀ j, -9223372036854775808 ≤ xs.getD j 0 ∧ xs.getD j 0 ≤ 9223372036854775807 := by
  have hh := ixs_of h hz
  rcases open_ints Tryz.underlying25 Tryz.underlying3 Tryz.cellsInt h with ⟨hcs, hx⟩ | ⟨a, len, cap, zs, hcs, _, hl, hm, hzl, hx, hcell, hwz⟩
  · simp at hcs
    exact ⟨none, [], 0, hcs, fun h => absurd h (by simp), by simp, fun j => by simp⟩
  · obtain ⟨ao, xs, cap', e, hx1, hx2, _⟩ := hh
    refine ⟨ao, xs, cap', e, hx1, hx2, fun j => ?_⟩
    simp at hcs
    rw [hcs] at e
    simp only [Value.slice.injEq] at e
    obtain ⟨rfl, hlen, rfl⟩ := e
    rcases Nat.lt_or_ge j xs.length with hj | hj
    · obtain ⟨b, o, eb, hI⟩ := hx1 (by omega)
      cases eb
      have h1 := hI j hj
      have hjz : j < zs.length := by rw [hzl]; split <;> omega
      have h2 := hcell j hjz
      rw [add_at, h1] at h2
      simp only [Option.some.injEq, Value.int.injEq, true_and] at h2
      rw [h2]
      have hmem : zs.getD j 0 ∈ zs := by
        rw [List.getD_eq_getElem?_getD, List.getElem?_eq_getElem hjz, Option.getD_some]
        exact List.getElem_mem hjz
      exact bounds_i64 (hwz _ hmem)
    · rw [List.getD_eq_getElem?_getD, List.getElem?_eq_none hj]
      simp
end
end Go.Proofs.YtpbblaeamddbgaaGreat
