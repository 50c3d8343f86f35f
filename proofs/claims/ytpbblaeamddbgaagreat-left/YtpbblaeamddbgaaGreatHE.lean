import Derived.SizedLaws
import Derived.Deep.Slices
import Derived.OpenShut
import Derived.Test.YtpbblaeamddbgaaGreatHC
namespace Go.Proofs.YtpbblaeamddbgaaGreat
open Go.RowKit Go.ChangeShapes Go.WideShapes

theorem list_of {α : Type} {p : Nat → α → Prop} : ∀ (n : Nat), (∀ i, i < n → ∃ x, p i x) → ∃ l : List α, l.length = n ∧ ∀ i (hi : i < l.length), p i l[i]
  | 0, _ => ⟨[], rfl, fun i hi => absurd hi (by simp)⟩
  | n + 1, h => by
    obtain ⟨l, hl, hp⟩ := list_of n (fun i hi => h i (by omega))
    obtain ⟨x, hx⟩ := h n (by omega)
    refine ⟨l ++ [x], by simp [hl], fun i hi => ?_⟩
    by_cases hin : i < l.length
    · rw [List.getElem_append_left hin]; exact hp i hin
    · have : i = l.length := by simp at hi; omega
      subst this
      simp only [List.getElem_concat_length]
      rw [hl]; exact hx
theorem weights_all {H : Type} {P : Program} {e : TypeId} : ∀ {l : List (DataW H)} {d : DataW H}, d ∈ l → ∀ n ∈ d.weights P e, n ∈ DataW.weightsAll P e l
  | x :: r, d, hd, n, hn => by
    simp only [DataW.weightsAll, List.mem_append]
    rcases List.mem_cons.1 hd with rfl | h
    · exact Or.inl hn
    · exact Or.inr (weights_all h n hn)
/-- All that a datum holds is within the reach. -/
def Sz {H : Type} (t : TypeId) (d : DataW H) : Prop := ∀ n ∈ d.weights Tryz.prog t, n ≤ reachBytes
theorem Sz.part {H : Type} {t : TypeId} {fs : Array Field} {parts : List (DataW H)} (h : Sz t (.agg parts)) (hu : Tryz.prog.underlying t = some (.struct fs)) {j : Nat} {u : TypeId} {d : DataW H} (ht : (fs.toList.map (·.type))[j]? = some u) (hd : parts[j]? = some d) : Sz u d := fun n hn => by
  refine h n ?_
  simp only [DataW.weights, hu]
  exact DataW.weights_mem_each ht hd n hn
theorem Sz.len {H : Type} {t e : TypeId} {elems spare : List (DataW H)} (h : Sz t (.slice elems spare)) (hu : Tryz.prog.underlying t = some (.slice e)) : (elems.length + spare.length) * Tryz.prog.bytesOf e ≤ reachBytes := by
  refine h _ ?_
  simp [DataW.weights, hu]
theorem Sz.elem {H : Type} {t e : TypeId} {elems spare : List (DataW H)} (h : Sz t (.slice elems spare)) (hu : Tryz.prog.underlying t = some (.slice e)) {d : DataW H} (hd : d ∈ elems) : Sz e d := fun n hn => by
  refine h n ?_
  simp only [DataW.weights, hu, List.mem_cons, List.mem_append]
  exact Or.inr (Or.inl (weights_all hd n hn))

section
variable {H : Type} {enc : TypeId × Value → H} {w : World} {base : Nat} {spare : Nat → Bool} {held : Bool}

theorem Tryz.cellsVl : Tryz.prog.cellsOf 69 = 2 := by kernel_rfl
theorem Tryz.cellsCd : Tryz.prog.cellsOf 80 = 6 := by kernel_rfl
theorem Tryz.cellsFd : Tryz.prog.cellsOf 71 = 3 := by kernel_rfl
theorem Tryz.cellsOp : Tryz.prog.cellsOf 30 = 8 := by kernel_rfl
theorem Tryz.cellsInt : Tryz.prog.cellsOf 3 = 1 := by kernel_rfl
theorem Tryz.cellsI64 : Tryz.prog.cellsOf 2 = 1 := by kernel_rfl
theorem Tryz.cellsStr : Tryz.prog.cellsOf 9 = 1 := by kernel_rfl
theorem Tryz.cellsNs : Tryz.prog.cellsOf 25 = 1 := by kernel_rfl
theorem Tryz.cellsCs : Tryz.prog.cellsOf 26 = 1 := by kernel_rfl
theorem Tryz.cellsFs : Tryz.prog.cellsOf 27 = 1 := by kernel_rfl
theorem Tryz.cellsEs : Tryz.prog.cellsOf 28 = 1 := by kernel_rfl
theorem Tryz.bytesInt : Tryz.prog.bytesOf 3 = 8 := by kernel_rfl
theorem Tryz.bytesCd : Tryz.prog.bytesOf 80 = 64 := by kernel_rfl
theorem Tryz.bytesFd : Tryz.prog.bytesOf 71 = 32 := by kernel_rfl
theorem Tryz.bytesOp : Tryz.prog.bytesOf 30 = 136 := by kernel_rfl

set_option maxRecDepth 100000 in
theorem vl_of {fuel : Nat} {cs : List Value} {x : DataW H × List MemPlace} (h : DataW.trod enc Tryz.prog w base spare held fuel 69 cs = some x) : ∃ v : Vl, cs = v.cells ∧ v.s.size ≤ 9223372036854775807 := by
  obtain ⟨xs, n, rfl, hx, hl, hxl, hf⟩ := DataW.trod_struct Tryz.underlying69 h
  rw [Tryz.cellsVl] at hl
  match cs, hl with
  | [c0, c1], _ =>
    have f0 : DataW.trod enc Tryz.prog w base spare held n 2 (List.take (Tryz.prog.cellsOf 2) (List.drop 0 [c0, c1])) = xs[0]? := hf 0 _ rfl
    have f1 : DataW.trod enc Tryz.prog w base spare held n 9 (List.take (Tryz.prog.cellsOf 9) (List.drop 1 [c0, c1])) = xs[1]? := hf 1 _ rfl
    simp only [Tryz.cellsI64, Tryz.cellsStr] at f0 f1
    rw [List.getElem?_eq_getElem (by rw [hxl]; decide)] at f0 f1
    obtain ⟨a, e0, _, _⟩ := DataW.trod_int Tryz.underlying2 f0
    obtain ⟨s, e1, _, hs⟩ := DataW.trod_string Tryz.underlying9 f1
    simp at e0 e1
    subst e0 e1
    exact ⟨⟨a, s⟩, rfl, by unfold maxLen at hs; exact hs⟩
set_option maxRecDepth 100000 in
theorem cd_of {fuel : Nat} {cs : List Value} {x : DataW H × List MemPlace} (h : DataW.trod enc Tryz.prog w base spare held fuel 80 cs = some x) : ∃ c : Cd, cs = c.cells ∧ c.a.s.size ≤ 9223372036854775807 ∧ c.b.s.size ≤ 9223372036854775807 := by
  obtain ⟨xs, n, rfl, hx, hl, hxl, hf⟩ := DataW.trod_struct Tryz.underlying80 h
  rw [Tryz.cellsCd] at hl
  match cs, hl with
  | [c0, c1, c2, c3, c4, c5], _ =>
    have f0 : DataW.trod enc Tryz.prog w base spare held n 3 (List.take (Tryz.prog.cellsOf 3) (List.drop 0 [c0, c1, c2, c3, c4, c5])) = xs[0]? := hf 0 _ rfl
    have f1 : DataW.trod enc Tryz.prog w base spare held n 3 (List.take (Tryz.prog.cellsOf 3) (List.drop 1 [c0, c1, c2, c3, c4, c5])) = xs[1]? := hf 1 _ rfl
    have f2 : DataW.trod enc Tryz.prog w base spare held n 69 (List.take (Tryz.prog.cellsOf 69) (List.drop 2 [c0, c1, c2, c3, c4, c5])) = xs[2]? := hf 2 _ rfl
    have f3 : DataW.trod enc Tryz.prog w base spare held n 69 (List.take (Tryz.prog.cellsOf 69) (List.drop 4 [c0, c1, c2, c3, c4, c5])) = xs[3]? := hf 3 _ rfl
    simp only [Tryz.cellsInt, Tryz.cellsVl] at f0 f1 f2 f3
    rw [List.getElem?_eq_getElem (by rw [hxl]; decide)] at f0 f1 f2 f3
    obtain ⟨a, e0, _, _⟩ := DataW.trod_int Tryz.underlying3 f0
    obtain ⟨b, e1, _, _⟩ := DataW.trod_int Tryz.underlying3 f1
    obtain ⟨u, e2, hu⟩ := vl_of f2
    obtain ⟨v, e3, hv⟩ := vl_of f3
    simp [Vl.cells] at e0 e1 e2 e3
    obtain ⟨rfl, rfl⟩ := e2
    obtain ⟨rfl, rfl⟩ := e3
    subst e0 e1
    exact ⟨⟨a, b, u, v⟩, rfl, hu, hv⟩
set_option maxRecDepth 100000 in
theorem fd_of {fuel : Nat} {cs : List Value} {x : DataW H × List MemPlace} (h : DataW.trod enc Tryz.prog w base spare held fuel 71 cs = some x) : ∃ f : Fd, cs = f.cells ∧ f.v.s.size ≤ 9223372036854775807 := by
  obtain ⟨xs, n, rfl, hx, hl, hxl, hf⟩ := DataW.trod_struct Tryz.underlying71 h
  rw [Tryz.cellsFd] at hl
  match cs, hl with
  | [c0, c1, c2], _ =>
    have f0 : DataW.trod enc Tryz.prog w base spare held n 3 (List.take (Tryz.prog.cellsOf 3) (List.drop 0 [c0, c1, c2])) = xs[0]? := hf 0 _ rfl
    have f1 : DataW.trod enc Tryz.prog w base spare held n 69 (List.take (Tryz.prog.cellsOf 69) (List.drop 1 [c0, c1, c2])) = xs[1]? := hf 1 _ rfl
    simp only [Tryz.cellsInt, Tryz.cellsVl] at f0 f1
    rw [List.getElem?_eq_getElem (by rw [hxl]; decide)] at f0 f1
    obtain ⟨a, e0, _, _⟩ := DataW.trod_int Tryz.underlying3 f0
    obtain ⟨u, e1, hu⟩ := vl_of f1
    simp [Vl.cells] at e0 e1
    obtain ⟨rfl, rfl⟩ := e1
    subst e0
    exact ⟨⟨a, u⟩, rfl, hu⟩
theorem spot_of {a : Addr} {j : Nat} {v : Value} (hj : j = 0) (h : w.cell? (a.add j) = some v) : ∃ b o, a = ⟨b, o, none⟩ := by
  subst hj
  obtain ⟨b, o, spot⟩ := a
  have hs : spot = none := by simpa [Addr.add] using World.cell?_spot h
  subst hs
  exact ⟨b, o, rfl⟩
theorem cells_at {a : Addr} {i k : Nat} {cs : List Value} (h : w.cells? base (a.add (i * k)) k = some cs) : cs.length = k ∧ ∀ j, j < k → w.cell? (a.add (i * k + j)) = cs[j]? := by
  obtain ⟨_, h2, h3⟩ := World.cells?_some h
  refine ⟨h2, fun j hj => ?_⟩
  have := h3 j hj
  rwa [Go.Deep.add_add] at this

theorem ixs_of {fuel : Nat} {v : Value} {x : DataW H × List MemPlace} (h : DataW.trod enc Tryz.prog w base spare held fuel 25 [v] = some x) (hz : Sz 25 x.1) : ∃ ao xs cap, v = .slice ao (List.length (α := Int) xs) cap ∧ Ixs w ao xs ∧ xs.length * 8 ≤ 140737488351232 ∧ (ao = none → xs.length = 0 ∧ cap = 0) := by
  rcases open_ints Tryz.underlying25 Tryz.underlying3 Tryz.cellsInt h with ⟨hcs, hx⟩ | ⟨a, len, cap, zs, hcs, _, hl, hm, hzl, hx, hcell, hwz⟩
  · simp at hcs
    exact ⟨none, [], 0, hcs, fun h => absurd h (by simp), by simp, fun _ => ⟨rfl, rfl⟩⟩
  · simp at hcs
    have hle : len ≤ zs.length := by rw [hzl]; split <;> omega
    have htl : (zs.take len).length = len := by simp; omega
    subst hx
    have hb := hz.len Tryz.underlying25
    rw [Tryz.bytesInt] at hb
    simp only [lits, List.length_map, List.length_take, List.length_drop, reachBytes] at hb
    refine ⟨some a, zs.take len, cap, by rw [htl]; exact hcs, fun hp => ?_, by rw [htl]; omega, fun h => by cases h⟩
    rw [htl] at hp
    obtain ⟨b, o, rfl⟩ := spot_of rfl (hcell 0 (by omega))
    refine ⟨b, o, rfl, fun j hj => ?_⟩
    rw [htl] at hj
    have := hcell j (by omega)
    rw [add_at] at this
    rw [this]
    simp [List.getD, hj]

theorem cxs_of {fuel : Nat} {v : Value} {x : DataW H × List MemPlace} (h : DataW.trod enc Tryz.prog w base spare held fuel 26 [v] = some x) (hz : Sz 26 x.1) : ∃ ao l cap, v = .slice ao (List.length (α := Cd) l) cap ∧ Cxs w ao l ∧ l.length * 64 ≤ 140737488351232 ∧ (ao = none → l.length = 0 ∧ cap = 0) ∧ (∀ g, blkOf ao = some g → 0 < l.length → g < w.heap.size) ∧ ∀ j (hj : j < l.length), l[j].a.s.size ≤ 9223372036854775807 ∧ l[j].b.s.size ≤ 9223372036854775807 := by
  rcases Go.Deep.open_slice Tryz.underlying26 h with ⟨hcs, hx⟩ | ⟨a, len, cap, m, n, D, Pl, hcs, _, hl, hm, hmm, hx, hel⟩
  · simp at hcs
    exact ⟨none, [], 0, hcs, fun h => absurd h (by simp), by simp, fun _ => ⟨rfl, rfl⟩, (fun g hg => by cases hg), fun j hj => absurd hj (by simp)⟩
  · simp at hcs
    have hle : len ≤ m := by rw [hmm]; split <;> omega
    subst hx
    have hb := hz.len Tryz.underlying26
    rw [Tryz.bytesCd] at hb
    simp only [List.length_map, List.length_range, reachBytes] at hb
    obtain ⟨l, hll, hp⟩ := list_of (α := Cd) (p := fun i c => (∀ j, j < 6 → w.cell? (a.add (i * 6 + j)) = c.cells[j]?) ∧ c.a.s.size ≤ 9223372036854775807 ∧ c.b.s.size ≤ 9223372036854775807) len (fun i hi => by
      obtain ⟨cs', h1, h2⟩ := hel i (by omega)
      rw [Tryz.cellsCd] at h1
      obtain ⟨c, rfl, hs⟩ := cd_of h2
      exact ⟨c, (cells_at h1).2, hs⟩)
    have key : 0 < l.length → ∃ b o, a = ⟨b, o, none⟩ ∧ Cds w b o l ∧ b < w.heap.size := fun h0 => by
      have c0 : w.cell? (a.add (0 * 6 + 0)) = some (.int .i64 l[0].attr) := (hp 0 h0).1 0 (by decide)
      obtain ⟨b, o, rfl⟩ := spot_of rfl c0
      refine ⟨b, o, rfl, fun k hk => ?_, World.block_lt_of_cell? w _ (by simpa [Addr.add] using c0)⟩
      have hh := (hp k hk).1
      have g0 := hh 0 (by decide)
      have g1 := hh 1 (by decide)
      have g2 := hh 2 (by decide)
      have g3 := hh 3 (by decide)
      have g4 := hh 4 (by decide)
      have g5 := hh 5 (by decide)
      rw [add_at] at g0 g1 g2 g3 g4 g5
      exact ⟨g0, g1, g2, g3, g4, g5⟩
    refine ⟨some a, l, cap, by rw [hll]; exact hcs, fun h0 => ?_, by omega, (fun h => by cases h), fun g hg h0 => ?_, fun j hj => (hp j hj).2⟩
    · obtain ⟨b, o, rfl, hC, _⟩ := key h0
      exact ⟨b, o, rfl, hC⟩
    · obtain ⟨b, o, rfl, _, hb⟩ := key h0
      cases hg; exact hb
end
end Go.Proofs.YtpbblaeamddbgaaGreat
namespace Go.Proofs.YtpbblaeamddbgaaGreat
open Go.RowKit Go.ChangeShapes Go.WideShapes
section
variable {H : Type} {enc : TypeId × Value → H} {w : World} {base : Nat} {spare : Nat → Bool} {held : Bool}

theorem fxs_of {fuel : Nat} {v : Value} {x : DataW H × List MemPlace} (h : DataW.trod enc Tryz.prog w base spare held fuel 27 [v] = some x) (hz : Sz 27 x.1) : ∃ ao l cap, v = .slice ao (List.length (α := Fd) l) cap ∧ Fxs w ao l ∧ l.length * 32 ≤ 140737488351232 ∧ (ao = none → l.length = 0 ∧ cap = 0) ∧ (∀ g, blkOf ao = some g → 0 < l.length → g < w.heap.size) ∧ ∀ j (hj : j < l.length), l[j].v.s.size ≤ 9223372036854775807 := by
  rcases Go.Deep.open_slice Tryz.underlying27 h with ⟨hcs, hx⟩ | ⟨a, len, cap, m, n, D, Pl, hcs, _, hl, hm, hmm, hx, hel⟩
  · simp at hcs
    exact ⟨none, [], 0, hcs, fun h => absurd h (by simp), by simp, fun _ => ⟨rfl, rfl⟩, (fun g hg => by cases hg), fun j hj => absurd hj (by simp)⟩
  · simp at hcs
    have hle : len ≤ m := by rw [hmm]; split <;> omega
    subst hx
    have hb := hz.len Tryz.underlying27
    rw [Tryz.bytesFd] at hb
    simp only [List.length_map, List.length_range, reachBytes] at hb
    obtain ⟨l, hll, hp⟩ := list_of (α := Fd) (p := fun i c => (∀ j, j < 3 → w.cell? (a.add (i * 3 + j)) = c.cells[j]?) ∧ c.v.s.size ≤ 9223372036854775807) len (fun i hi => by
      obtain ⟨cs', h1, h2⟩ := hel i (by omega)
      rw [Tryz.cellsFd] at h1
      obtain ⟨c, rfl, hs⟩ := fd_of h2
      exact ⟨c, (cells_at h1).2, hs⟩)
    have key : 0 < l.length → ∃ b o, a = ⟨b, o, none⟩ ∧ Fds w b o l ∧ b < w.heap.size := fun h0 => by
      have c0 : w.cell? (a.add (0 * 3 + 0)) = some (.int .i64 l[0].attr) := (hp 0 h0).1 0 (by decide)
      obtain ⟨b, o, rfl⟩ := spot_of rfl c0
      refine ⟨b, o, rfl, fun k hk => ?_, World.block_lt_of_cell? w _ (by simpa [Addr.add] using c0)⟩
      have hh := (hp k hk).1
      have g0 := hh 0 (by decide)
      have g1 := hh 1 (by decide)
      have g2 := hh 2 (by decide)
      rw [add_at] at g0 g1 g2
      exact ⟨g0, g1, g2⟩
    refine ⟨some a, l, cap, by rw [hll]; exact hcs, fun h0 => ?_, by omega, (fun h => by cases h), fun g hg h0 => ?_, fun j hj => (hp j hj).2⟩
    · obtain ⟨b, o, rfl, hC, _⟩ := key h0
      exact ⟨b, o, rfl, hC⟩
    · obtain ⟨b, o, rfl, _, hb⟩ := key h0
      cases hg; exact hb

set_option maxRecDepth 100000 in
set_option maxHeartbeats 400000 in
theorem op_of {fuel : Nat} {cs : List Value} {x : DataW H × List MemPlace} (h : DataW.trod enc Tryz.prog w base spare held fuel 30 cs = some x) (hz : Sz 30 x.1) : ∃ d : OpD, cs = d.cells ∧ OpIn w d := by
  obtain ⟨xs, n, rfl, hx, hl, hxl, hf⟩ := DataW.trod_struct Tryz.underlying30 h
  rw [Tryz.cellsOp] at hl
  match cs, hl with
  | [c0, c1, c2, c3, c4, c5, c6, c7], _ =>
    have f0 : DataW.trod enc Tryz.prog w base spare held n 3 (List.take (Tryz.prog.cellsOf 3) (List.drop 0 [c0, c1, c2, c3, c4, c5, c6, c7])) = xs[0]? := hf 0 _ rfl
    have f1 : DataW.trod enc Tryz.prog w base spare held n 3 (List.take (Tryz.prog.cellsOf 3) (List.drop 1 [c0, c1, c2, c3, c4, c5, c6, c7])) = xs[1]? := hf 1 _ rfl
    have f2 : DataW.trod enc Tryz.prog w base spare held n 3 (List.take (Tryz.prog.cellsOf 3) (List.drop 2 [c0, c1, c2, c3, c4, c5, c6, c7])) = xs[2]? := hf 2 _ rfl
    have f3 : DataW.trod enc Tryz.prog w base spare held n 25 (List.take (Tryz.prog.cellsOf 25) (List.drop 3 [c0, c1, c2, c3, c4, c5, c6, c7])) = xs[3]? := hf 3 _ rfl
    have f4 : DataW.trod enc Tryz.prog w base spare held n 26 (List.take (Tryz.prog.cellsOf 26) (List.drop 4 [c0, c1, c2, c3, c4, c5, c6, c7])) = xs[4]? := hf 4 _ rfl
    have f5 : DataW.trod enc Tryz.prog w base spare held n 27 (List.take (Tryz.prog.cellsOf 27) (List.drop 5 [c0, c1, c2, c3, c4, c5, c6, c7])) = xs[5]? := hf 5 _ rfl
    have f6 : DataW.trod enc Tryz.prog w base spare held n 28 (List.take (Tryz.prog.cellsOf 28) (List.drop 6 [c0, c1, c2, c3, c4, c5, c6, c7])) = xs[6]? := hf 6 _ rfl
    have f7 : DataW.trod enc Tryz.prog w base spare held n 9 (List.take (Tryz.prog.cellsOf 9) (List.drop 7 [c0, c1, c2, c3, c4, c5, c6, c7])) = xs[7]? := hf 7 _ rfl
    rw [Tryz.cellsInt, List.getElem?_eq_getElem (by rw [hxl]; decide)] at f0
    rw [Tryz.cellsInt, List.getElem?_eq_getElem (by rw [hxl]; decide)] at f1
    rw [Tryz.cellsInt, List.getElem?_eq_getElem (by rw [hxl]; decide)] at f2
    rw [Tryz.cellsNs, List.getElem?_eq_getElem (by rw [hxl]; decide)] at f3
    rw [Tryz.cellsCs, List.getElem?_eq_getElem (by rw [hxl]; decide)] at f4
    rw [Tryz.cellsFs, List.getElem?_eq_getElem (by rw [hxl]; decide)] at f5
    rw [Tryz.cellsEs, List.getElem?_eq_getElem (by rw [hxl]; decide)] at f6
    rw [Tryz.cellsStr, List.getElem?_eq_getElem (by rw [hxl]; decide)] at f7
    subst hx
    have z3 : Sz 25 (xs[3]'(by rw [hxl]; decide)).1 := hz.part Tryz.underlying30 (j := 3) rfl (by simp [hxl])
    have z4 : Sz 26 (xs[4]'(by rw [hxl]; decide)).1 := hz.part Tryz.underlying30 (j := 4) rfl (by simp [hxl])
    have z5 : Sz 27 (xs[5]'(by rw [hxl]; decide)).1 := hz.part Tryz.underlying30 (j := 5) rfl (by simp [hxl])
    obtain ⟨a0, e0, _, _⟩ := DataW.trod_int Tryz.underlying3 f0
    obtain ⟨a1, e1, _, w1⟩ := DataW.trod_int Tryz.underlying3 f1
    obtain ⟨a2, e2, _, w2⟩ := DataW.trod_int Tryz.underlying3 f2
    obtain ⟨no, ns, ncap, e3, n1, n2, n3⟩ := ixs_of f3 z3
    obtain ⟨fo, l, fcap, e4, l1, l2, l3, l4, l5⟩ := cxs_of f4 z4
    obtain ⟨eo, ev, ecap, e5, v1, v2, v3, v4, v5⟩ := fxs_of f5 z5
    obtain ⟨xo, xn, xcap, e6⟩ : ∃ xo xn xcap, c6 = .slice xo xn xcap := by
      rcases Go.Deep.open_slice Tryz.underlying28 f6 with ⟨hcs, _⟩ | ⟨a, len, cap, _, _, _, _, hcs, _⟩
      · simp at hcs; exact ⟨_, _, _, hcs⟩
      · simp at hcs; exact ⟨_, _, _, hcs⟩
    obtain ⟨s, e7, _, _⟩ := DataW.trod_string Tryz.underlying9 f7
    simp at e0 e1 e2 e7
    subst e0 e1 e2 e3 e4 e5 e6 e7
    exact ⟨⟨a0, a1, a2, no, ns, ncap, fo, l, fcap, eo, ev, ecap, xo, xn, xcap, s⟩, rfl, n1, n2, n3, l1, l2, l3, l4, l5, v1, v2, v3, v4, v5, bounds_i64 w1, w2⟩

theorem ops_of {fuel : Nat} {v : Value} {x : DataW H × List MemPlace} (h : DataW.trod enc Tryz.prog w base spare held fuel 22 [v] = some x) (hz : Sz 22 x.1) : ∃ so ds cap, v = .slice so (List.length (α := OpD) ds) cap ∧ (0 < ds.length → ∃ b o, so = some ⟨b, o, none⟩ ∧ ∀ j (hj : j < ds.length), w.rangeAt b (o + j * 8) ds[j].cells) ∧ (∀ d ∈ ds, OpIn w d) ∧ (ds.length + 4) * 96 ≤ 140737488355328 := by
  rcases Go.Deep.open_slice Tryz.underlying22 h with ⟨hcs, hx⟩ | ⟨a, len, cap, m, n, D, Pl, hcs, _, hl, hm, hmm, hx, hel⟩
  · simp at hcs
    exact ⟨none, [], 0, hcs, fun h => absurd h (by simp), fun d hd => absurd hd (by simp), by simp⟩
  · simp at hcs
    have hle : len ≤ m := by rw [hmm]; split <;> omega
    subst hx
    have hb := hz.len Tryz.underlying22
    rw [Tryz.bytesOp] at hb
    simp only [List.length_map, List.length_range, reachBytes] at hb
    obtain ⟨ds, hdl, hp⟩ := list_of (α := OpD) (p := fun i d => (∀ j, j < 8 → w.cell? (a.add (i * 8 + j)) = d.cells[j]?) ∧ OpIn w d) len (fun i hi => by
      obtain ⟨cs', h1, h2⟩ := hel i (by omega)
      rw [Tryz.cellsOp] at h1
      obtain ⟨d, rfl, hd⟩ := op_of h2 (hz.elem Tryz.underlying22 (List.mem_map.2 ⟨i, by simpa using hi, rfl⟩))
      exact ⟨d, (cells_at h1).2, hd⟩)
    refine ⟨some a, ds, cap, by rw [hdl]; exact hcs, fun h0 => ?_, fun d hd => ?_, by omega⟩
    · have c0 : w.cell? (a.add (0 * 8 + 0)) = some (.int .i64 ds[0].kind) := (hp 0 h0).1 0 (by decide)
      obtain ⟨b, o, rfl⟩ := spot_of rfl c0
      refine ⟨b, o, rfl, fun k hk => fun j u hj => ?_⟩
      have hj8 : j < 8 := by have := (List.getElem?_eq_some_iff.1 hj).1; simpa [OpD.cells] using this
      have hh := (hp k hk).1 j hj8
      rw [add_at] at hh
      rw [Nat.add_assoc, hh, hj]
    · obtain ⟨i, hi, rfl⟩ := List.mem_iff_getElem.1 hd
      exact (hp i hi).2
end
end Go.Proofs.YtpbblaeamddbgaaGreat
