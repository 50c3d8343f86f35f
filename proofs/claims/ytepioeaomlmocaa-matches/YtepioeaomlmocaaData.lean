import Derived.Test.YtepioeaomlmocaaInv
import Derived.SizedLaws
import Derived.Deep.Slices
import Derived.OpenShut
namespace Go.Proofs.Ytepioeaomlmocaa
open Go.RowKit Go.ChangeShapes Go.WideShapes

theorem list_of {α : Type} {p : Nat → α → Prop} : ∀ (n : Nat), (∀ i, i < n → ∃ x, p i x) → ∃ l : List α, l.length = n ∧ ∀ i (hi : i < l.length), p i l[i]
  | 0, _ => ⟨[], rfl, fun i hi => absurd hi (by simp)⟩
  | n + 1, h => by
    obtain ⟨l, hl, hp⟩ := list_of n (fun i hi => h i (by omega))
    obtain ⟨x, hx⟩ := h n (by omega)
    refine ⟨l ++ [x], by simp [hl], fun i hi => ?_⟩
    by_cases hin : i < l.length
    · rw [List.getElem_append_left hin]; exact hp i hin
    · have : i = l.length := by simp at hi; omega
      subst this
      simp only [List.getElem_concat_length]
      rw [hl]; exact hx
theorem weights_all {H : Type} {P : Program} {e : TypeId} : ∀ {l : List (DataW H)} {d : DataW H}, d ∈ l → ∀ n ∈ d.weights P e, n ∈ DataW.weightsAll P e l
  | x :: r, d, hd, n, hn => by
    simp only [DataW.weightsAll, List.mem_append]
    rcases List.mem_cons.1 hd with rfl | h
    · exact Or.inl hn
    · exact Or.inr (weights_all h n hn)
/-- All that a datum holds is within the reach. -/
def Sz {H : Type} (t : TypeId) (d : DataW H) : Prop := ∀ n ∈ d.weights Try.prog t, n ≤ reachBytes
theorem Sz.part {H : Type} {t : TypeId} {fs : Array Field} {parts : List (DataW H)} (h : Sz t (.agg parts)) (hu : Try.prog.underlying t = some (.struct fs)) {j : Nat} {u : TypeId} {d : DataW H} (ht : (fs.toList.map (·.type))[j]? = some u) (hd : parts[j]? = some d) : Sz u d := fun n hn => by
  refine h n ?_
  simp only [DataW.weights, hu]
  exact DataW.weights_mem_each ht hd n hn
theorem Sz.len {H : Type} {t e : TypeId} {elems spare : List (DataW H)} (h : Sz t (.slice elems spare)) (hu : Try.prog.underlying t = some (.slice e)) : (elems.length + spare.length) * Try.prog.bytesOf e ≤ reachBytes := by
  refine h _ ?_
  simp [DataW.weights, hu]
theorem Sz.elem {H : Type} {t e : TypeId} {elems spare : List (DataW H)} (h : Sz t (.slice elems spare)) (hu : Try.prog.underlying t = some (.slice e)) {d : DataW H} (hd : d ∈ elems) : Sz e d := fun n hn => by
  refine h n ?_
  simp only [DataW.weights, hu, List.mem_cons, List.mem_append]
  exact Or.inr (Or.inl (weights_all hd n hn))

section
variable {H : Type} {enc : TypeId × Value → H} {w : World} {base : Nat} {spare : Nat → Bool} {held : Bool}

theorem Try.cellsVl : Try.prog.cellsOf 66 = 2 := by kernel_rfl
theorem Try.cellsCd : Try.prog.cellsOf 68 = 6 := by kernel_rfl
theorem Try.cellsFd : Try.prog.cellsOf 71 = 3 := by kernel_rfl
theorem Try.cellsOp : Try.prog.cellsOf 74 = 8 := by kernel_rfl
theorem Try.cellsInt : Try.prog.cellsOf 3 = 1 := by kernel_rfl
theorem Try.cellsI64 : Try.prog.cellsOf 2 = 1 := by kernel_rfl
theorem Try.cellsStr : Try.prog.cellsOf 9 = 1 := by kernel_rfl
theorem Try.cellsNs : Try.prog.cellsOf 27 = 1 := by kernel_rfl
theorem Try.cellsCs : Try.prog.cellsOf 39 = 1 := by kernel_rfl
theorem Try.cellsFs : Try.prog.cellsOf 44 = 1 := by kernel_rfl
theorem Try.cellsEs : Try.prog.cellsOf 72 = 1 := by kernel_rfl
theorem Try.bytesInt : Try.prog.bytesOf 3 = 8 := by kernel_rfl
theorem Try.bytesCd : Try.prog.bytesOf 68 = 64 := by kernel_rfl
theorem Try.bytesFd : Try.prog.bytesOf 71 = 32 := by kernel_rfl
theorem Try.bytesOp : Try.prog.bytesOf 74 = 136 := by kernel_rfl

set_option maxRecDepth 100000 in
theorem vl_of {fuel : Nat} {cs : List Value} {x : DataW H × List MemPlace} (h : DataW.trod enc Try.prog w base spare held fuel 66 cs = some x) : ∃ v : Vl, cs = v.cells ∧ v.s.size ≤ 9223372036854775807 := by
  obtain ⟨xs, n, rfl, hx, hl, hxl, hf⟩ := DataW.trod_struct Try.underlying66 h
  rw [Try.cellsVl] at hl
  match cs, hl with
  | [c0, c1], _ =>
    have f0 : DataW.trod enc Try.prog w base spare held n 2 (List.take (Try.prog.cellsOf 2) (List.drop 0 [c0, c1])) = xs[0]? := hf 0 _ rfl
    have f1 : DataW.trod enc Try.prog w base spare held n 9 (List.take (Try.prog.cellsOf 9) (List.drop 1 [c0, c1])) = xs[1]? := hf 1 _ rfl
    simp only [Try.cellsI64, Try.cellsStr] at f0 f1
    rw [List.getElem?_eq_getElem (by rw [hxl]; decide)] at f0 f1
    obtain ⟨a, e0, _, _⟩ := DataW.trod_int Try.underlying2 f0
    obtain ⟨s, e1, _, hs⟩ := DataW.trod_string Try.underlying9 f1
    simp at e0 e1
    subst e0 e1
    exact ⟨⟨a, s⟩, rfl, by unfold maxLen at hs; exact hs⟩
set_option maxRecDepth 100000 in
theorem cd_of {fuel : Nat} {cs : List Value} {x : DataW H × List MemPlace} (h : DataW.trod enc Try.prog w base spare held fuel 68 cs = some x) : ∃ c : Cd, cs = c.cells ∧ c.a.s.size ≤ 9223372036854775807 ∧ c.b.s.size ≤ 9223372036854775807 := by
  obtain ⟨xs, n, rfl, hx, hl, hxl, hf⟩ := DataW.trod_struct Try.underlying68 h
  rw [Try.cellsCd] at hl
  match cs, hl with
  | [c0, c1, c2, c3, c4, c5], _ =>
    have f0 : DataW.trod enc Try.prog w base spare held n 3 (List.take (Try.prog.cellsOf 3) (List.drop 0 [c0, c1, c2, c3, c4, c5])) = xs[0]? := hf 0 _ rfl
    have f1 : DataW.trod enc Try.prog w base spare held n 3 (List.take (Try.prog.cellsOf 3) (List.drop 1 [c0, c1, c2, c3, c4, c5])) = xs[1]? := hf 1 _ rfl
    have f2 : DataW.trod enc Try.prog w base spare held n 66 (List.take (Try.prog.cellsOf 66) (List.drop 2 [c0, c1, c2, c3, c4, c5])) = xs[2]? := hf 2 _ rfl
    have f3 : DataW.trod enc Try.prog w base spare held n 66 (List.take (Try.prog.cellsOf 66) (List.drop 4 [c0, c1, c2, c3, c4, c5])) = xs[3]? := hf 3 _ rfl
    simp only [Try.cellsInt, Try.cellsVl] at f0 f1 f2 f3
    rw [List.getElem?_eq_getElem (by rw [hxl]; decide)] at f0 f1 f2 f3
    obtain ⟨a, e0, _, _⟩ := DataW.trod_int Try.underlying3 f0
    obtain ⟨b, e1, _, _⟩ := DataW.trod_int Try.underlying3 f1
    obtain ⟨u, e2, hu⟩ := vl_of f2
    obtain ⟨v, e3, hv⟩ := vl_of f3
    simp [Vl.cells] at e0 e1 e2 e3
    obtain ⟨rfl, rfl⟩ := e2
    obtain ⟨rfl, rfl⟩ := e3
    subst e0 e1
    exact ⟨⟨a, b, u, v⟩, rfl, hu, hv⟩
set_option maxRecDepth 100000 in
theorem fd_of {fuel : Nat} {cs : List Value} {x : DataW H × List MemPlace} (h : DataW.trod enc Try.prog w base spare held fuel 71 cs = some x) : ∃ f : Fd, cs = f.cells ∧ f.v.s.size ≤ 9223372036854775807 := by
  obtain ⟨xs, n, rfl, hx, hl, hxl, hf⟩ := DataW.trod_struct Try.underlying71 h
  rw [Try.cellsFd] at hl
  match cs, hl with
  | [c0, c1, c2], _ =>
    have f0 : DataW.trod enc Try.prog w base spare held n 3 (List.take (Try.prog.cellsOf 3) (List.drop 0 [c0, c1, c2])) = xs[0]? := hf 0 _ rfl
    have f1 : DataW.trod enc Try.prog w base spare held n 66 (List.take (Try.prog.cellsOf 66) (List.drop 1 [c0, c1, c2])) = xs[1]? := hf 1 _ rfl
    simp only [Try.cellsInt, Try.cellsVl] at f0 f1
    rw [List.getElem?_eq_getElem (by rw [hxl]; decide)] at f0 f1
    obtain ⟨a, e0, _, _⟩ := DataW.trod_int Try.underlying3 f0
    obtain ⟨u, e1, hu⟩ := vl_of f1
    simp [Vl.cells] at e0 e1
    obtain ⟨rfl, rfl⟩ := e1
    subst e0
    exact ⟨⟨a, u⟩, rfl, hu⟩
theorem spot_of {a : Addr} {j : Nat} {v : Value} (hj : j = 0) (h : w.cell? (a.add j) = some v) : ∃ b o, a = ⟨b, o, none⟩ := by
  subst hj
  obtain ⟨b, o, spot⟩ := a
  have hs : spot = none := by simpa [Addr.add] using World.cell?_spot h
  subst hs
  exact ⟨b, o, rfl⟩
theorem cells_at {a : Addr} {i k : Nat} {cs : List Value} (h : w.cells? base (a.add (i * k)) k = some cs) : cs.length = k ∧ ∀ j, j < k → w.cell? (a.add (i * k + j)) = cs[j]? := by
  obtain ⟨_, h2, h3⟩ := World.cells?_some h
  refine ⟨h2, fun j hj => ?_⟩
  have := h3 j hj
  rwa [Go.Deep.add_add] at this

theorem ixs_of {fuel : Nat} {v : Value} {x : DataW H × List MemPlace} (h : DataW.trod enc Try.prog w base spare held fuel 27 [v] = some x) (hz : Sz 27 x.1) : ∃ ao xs cap, v = .slice ao (List.length (α := Int) xs) cap ∧ Ixs w ao xs ∧ xs.length * 8 ≤ 140737488351232 ∧ (ao = none → xs.length = 0 ∧ cap = 0) := by
  rcases open_ints Try.underlying27 Try.underlying3 Try.cellsInt h with ⟨hcs, hx⟩ | ⟨a, len, cap, zs, hcs, _, hl, hm, hzl, hx, hcell, hwz⟩
  · simp at hcs
    exact ⟨none, [], 0, hcs, fun h => absurd h (by simp), by simp, fun _ => ⟨rfl, rfl⟩⟩
  · simp at hcs
    have hle : len ≤ zs.length := by rw [hzl]; split <;> omega
    have htl : (zs.take len).length = len := by simp; omega
    subst hx
    have hb := hz.len Try.underlying27
    rw [Try.bytesInt] at hb
    simp only [lits, List.length_map, List.length_take, List.length_drop, reachBytes] at hb
    refine ⟨some a, zs.take len, cap, by rw [htl]; exact hcs, fun hp => ?_, by rw [htl]; omega, fun h => by cases h⟩
    rw [htl] at hp
    obtain ⟨b, o, rfl⟩ := spot_of rfl (hcell 0 (by omega))
    refine ⟨b, o, rfl, fun j hj => ?_⟩
    rw [htl] at hj
    have := hcell j (by omega)
    rw [add_at] at this
    rw [this]
    simp [List.getD, hj]

theorem cxs_of {fuel : Nat} {v : Value} {x : DataW H × List MemPlace} (h : DataW.trod enc Try.prog w base spare held fuel 39 [v] = some x) (hz : Sz 39 x.1) : ∃ ao l cap, v = .slice ao (List.length (α := Cd) l) cap ∧ Cxs w ao l ∧ l.length * 64 ≤ 140737488351232 ∧ (ao = none → l.length = 0 ∧ cap = 0) ∧ (∀ g, blkOf ao = some g → 0 < l.length → g < w.heap.size) ∧ ∀ j (hj : j < l.length), l[j].a.s.size ≤ 9223372036854775807 ∧ l[j].b.s.size ≤ 9223372036854775807 := by
  rcases Go.Deep.open_slice Try.underlying39 h with ⟨hcs, hx⟩ | ⟨a, len, cap, m, n, D, Pl, hcs, _, hl, hm, hmm, hx, hel⟩
  · simp at hcs
    exact ⟨none, [], 0, hcs, fun h => absurd h (by simp), by simp, fun _ => ⟨rfl, rfl⟩, (fun g hg => by cases hg), fun j hj => absurd hj (by simp)⟩
  · simp at hcs
    have hle : len ≤ m := by rw [hmm]; split <;> omega
    subst hx
    have hb := hz.len Try.underlying39
    rw [Try.bytesCd] at hb
    simp only [List.length_map, List.length_range, reachBytes] at hb
    obtain ⟨l, hll, hp⟩ := list_of (α := Cd) (p := fun i c => (∀ j, j < 6 → w.cell? (a.add (i * 6 + j)) = c.cells[j]?) ∧ c.a.s.size ≤ 9223372036854775807 ∧ c.b.s.size ≤ 9223372036854775807) len (fun i hi => by
      obtain ⟨cs', h1, h2⟩ := hel i (by omega)
      rw [Try.cellsCd] at h1
      obtain ⟨c, rfl, hs⟩ := cd_of h2
      exact ⟨c, (cells_at h1).2, hs⟩)
    have key : 0 < l.length → ∃ b o, a = ⟨b, o, none⟩ ∧ Cds w b o l ∧ b < w.heap.size := fun h0 => by
      have c0 : w.cell? (a.add (0 * 6 + 0)) = some (.int .i64 l[0].attr) := (hp 0 h0).1 0 (by decide)
      obtain ⟨b, o, rfl⟩ := spot_of rfl c0
      refine ⟨b, o, rfl, fun k hk => ?_, World.block_lt_of_cell? w _ (by simpa [Addr.add] using c0)⟩
      have hh := (hp k hk).1
      have g0 := hh 0 (by decide)
      have g1 := hh 1 (by decide)
      have g2 := hh 2 (by decide)
      have g3 := hh 3 (by decide)
      have g4 := hh 4 (by decide)
      have g5 := hh 5 (by decide)
      rw [add_at] at g0 g1 g2 g3 g4 g5
      exact ⟨g0, g1, g2, g3, g4, g5⟩
    refine ⟨some a, l, cap, by rw [hll]; exact hcs, fun h0 => ?_, by omega, (fun h => by cases h), fun g hg h0 => ?_, fun j hj => (hp j hj).2⟩
    · obtain ⟨b, o, rfl, hC, _⟩ := key h0
      exact ⟨b, o, rfl, hC⟩
    · obtain ⟨b, o, rfl, _, hb⟩ := key h0
      cases hg; exact hb
end
end Go.Proofs.Ytepioeaomlmocaa
