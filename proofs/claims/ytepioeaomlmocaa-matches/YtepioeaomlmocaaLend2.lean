import Derived.Test.YtepioeaomlmocaaLend
namespace Go.Proofs.Ytepioeaomlmocaa
open Go.RowKit

theorem flat_len {α : Type} (f : α → List Value) (s : Nat) (hf : ∀ x, (f x).length = s) : ∀ l : List α, (l.flatMap f).length = l.length * s
  | [] => by simp
  | x :: l => by rw [List.flatMap_cons, List.length_append, hf, flat_len f s hf l, List.length_cons, Nat.succ_mul, Nat.add_comm]
theorem flat_at {α : Type} (f : α → List Value) (s : Nat) (hf : ∀ x, (f x).length = s) : ∀ (l : List α) (q r : Nat) (hq : q < l.length), r < s → (l.flatMap f)[q * s + r]? = (f l[q])[r]?
  | [], q, r, hq, _ => by simp at hq
  | x :: l, 0, r, _, hr => by
    rw [List.flatMap_cons, List.getElem?_append_left (by rw [hf]; omega)]; simp
  | x :: l, q + 1, r, hq, hr => by
    rw [List.flatMap_cons, List.getElem?_append_right (by rw [hf, Nat.succ_mul]; omega), hf]
    have e : (q + 1) * s + r - s = q * s + r := by rw [Nat.succ_mul]; omega
    rw [e, flat_at f s hf l q r (by simpa using hq) hr]; simp

/-- The fields of an event lie there. -/
def Fds (w : World) (b o : Nat) (l : List Fd) : Prop := ∀ j (hj : j < l.length), w.cell? ⟨b, o + j * 3, none⟩ = some (.int .i64 l[j].attr) ∧ w.cell? ⟨b, o + j * 3 + 1, none⟩ = some (.int .i64 l[j].v.n) ∧ w.cell? ⟨b, o + j * 3 + 2, none⟩ = some (.string l[j].v.s)
theorem Fds.ext {w w' : World} {b o : Nat} {l : List Fd} (h : Fds w b o l) (e : Ext w w') : Fds w' b o l := fun j hj => by
  obtain ⟨h0, h1, h2⟩ := h j hj
  exact ⟨e.cell h0, e.cell h1, e.cell h2⟩
def Fxs (w : World) (ao : Option Addr) (l : List Fd) : Prop := 0 < l.length → ∃ b o, ao = some ⟨b, o, none⟩ ∧ Fds w b o l
theorem Fxs.ext {w w' : World} {ao : Option Addr} {l : List Fd} (h : Fxs w ao l) (e : Ext w w') : Fxs w' ao l := fun hp => by
  obtain ⟨b, o, h1, h2⟩ := h hp
  exact ⟨b, o, h1, h2.ext e⟩

theorem set1_take (Z T : List Value) (m : Nat) (v : Value) (hl : m < Z.length) (h : Z.take m = T.take m) (hv : T[m]? = some v) : (Z.set m v).take (m + 1) = T.take (m + 1) := by
  obtain ⟨ht, e⟩ := List.getElem?_eq_some_iff.1 hv
  exact set_take_succ Z T m v hl ht h e
theorem set3_take (Z T : List Value) (m : Nat) (v0 v1 v2 : Value) (hl : m + 3 ≤ Z.length) (h : Z.take m = T.take m) (h0 : T[m + 0]? = some v0) (h1 : T[m + 1]? = some v1) (h2 : T[m + 2]? = some v2) :
    (((Z.set m v0).set (m + 1) v1).set (m + 2) v2).take (m + 3) = T.take (m + 3) := by
  have e0 := set1_take Z T m v0 (by omega) h h0
  have e1 := set1_take _ T (m + 1) v1 (by simp; omega) e0 h1
  exact set1_take _ T (m + 2) v2 (by simp; omega) e1 h2
theorem set6_take (Z T : List Value) (m : Nat) (v0 v1 v2 v3 v4 v5 : Value) (hl : m + 6 ≤ Z.length) (h : Z.take m = T.take m) (h0 : T[m + 0]? = some v0) (h1 : T[m + 1]? = some v1) (h2 : T[m + 2]? = some v2)
    (h3 : T[m + 3]? = some v3) (h4 : T[m + 4]? = some v4) (h5 : T[m + 5]? = some v5) :
    ((((((Z.set m v0).set (m + 1) v1).set (m + 2) v2).set (m + 3) v3).set (m + 4) v4).set (m + 5) v5).take (m + 6) = T.take (m + 6) := by
  have e0 := set3_take Z T m v0 v1 v2 (by omega) h h0 h1 h2
  exact set3_take _ T (m + 3) v3 v4 v5 (by simp; omega) e0 h3 h4 h5

def pC : Cd := ⟨0, 77, ⟨0, ⟨#[]⟩⟩, ⟨0, ⟨#[]⟩⟩⟩
def pF : Fd := ⟨77, ⟨0, ⟨#[]⟩⟩⟩

theorem Try.infoCd : (Try.prog.info? 68).map (fun i => (i.zero, i.size, i.bytes)) = some (some (.agg #[.int .i64 0, .int .i64 0, .int .i64 0, .string ⟨#[]⟩, .int .i64 0, .string ⟨#[]⟩]), 6, 64) := by kernel_rfl
theorem Try.sizeCd : (Try.prog.info? 68).map (·.size) = some 6 := by kernel_rfl
def padCd (l : List Cd) : List Value := (l ++ [pC, pC, pC]).flatMap Cd.cells
theorem padCd_len (l : List Cd) : (padCd l).length = (l.length + 3) * 6 := by
  unfold padCd; rw [flat_len _ 6 (fun _ => rfl)]; simp
theorem padCd_at (l : List Cd) (k r : Nat) (h : l.length ≤ k) (h3 : k < l.length + 3) (hr : r < 6) : (padCd l)[k * 6 + r]? = (Cd.cells pC)[r]? := by
  unfold padCd
  rw [flat_at Cd.cells 6 (fun _ => rfl) _ k r (by simp; omega) hr]
  have e : (l ++ [pC, pC, pC])[k]'(by simp; omega) = pC := by
    rw [List.getElem_append_right h]
    rcases (show k - l.length = 0 ∨ k - l.length = 1 ∨ k - l.length = 2 by omega) with e | e | e <;> simp [e]
  rw [e]
theorem padCd_take (l : List Cd) (Z : List Value) : (l.flatMap Cd.cells ++ Z).take (l.length * 6) = (padCd l).take (l.length * 6) := by
  unfold padCd
  rw [List.flatMap_append, List.take_left' (by rw [flat_len _ 6 (fun _ => rfl)]), List.take_left' (by rw [flat_len _ 6 (fun _ => rfl)])]
theorem cds_src {w : World} {ao : Option Addr} {l : List Cd} (hs : Cxs w ao l) : 0 < l.length → ∃ ad, ao = some ad ∧ ∀ j v, (l.flatMap Cd.cells)[j]? = some v → w.cell? (ad.add j) = some v := by
  intro hp
  obtain ⟨b, o, rfl, hI⟩ := hs hp
  refine ⟨_, rfl, fun j v hj => ?_⟩
  have hj' : j < l.length * 6 := by
    have := (List.getElem?_eq_some_iff.1 hj).1
    rwa [flat_len _ 6 (fun _ => rfl)] at this
  have hq : j / 6 < l.length := by omega
  have hr : j % 6 < 6 := Nat.mod_lt _ (by omega)
  have ej : j = j / 6 * 6 + j % 6 := by omega
  rw [ej, flat_at Cd.cells 6 (fun _ => rfl) l _ _ hq hr] at hj
  have hh := hI (j / 6) hq
  rw [add_at, ej, ← Nat.add_assoc]
  generalize j % 6 = r at hj hr
  obtain ⟨h0, h1, h2, h3, h4, h5⟩ := hh
  rcases (show r = 0 ∨ r = 1 ∨ r = 2 ∨ r = 3 ∨ r = 4 ∨ r = 5 by omega) with rfl | rfl | rfl | rfl | rfl | rfl <;> simp [Cd.cells] at hj <;> subst hj <;> assumption
theorem cds_oneCell (l : List Cd) : ∀ v ∈ l.flatMap Cd.cells, v.oneCell' = true := by
  intro v hv
  obtain ⟨x, _, hx⟩ := List.mem_flatMap.1 hv
  simp only [Cd.cells, List.mem_cons, List.not_mem_nil, or_false] at hx
  rcases hx with rfl | rfl | rfl | rfl | rfl | rfl <;> rfl
theorem cds_row {w : World} {g : Nat} {T : TypeId} {l : List Cd} (h : Row w g T (l.flatMap Cd.cells)) : Cds w g 0 l := by
  intro j hj
  have hl : (l.flatMap Cd.cells).length = l.length * 6 := flat_len _ 6 (fun _ => rfl) l
  have key : ∀ r, r < 6 → ∀ v, (Cd.cells l[j])[r]? = some v → w.cell? ⟨g, 0 + j * 6 + r, none⟩ = some v := by
    intro r hr v hv
    have hlt : 0 + j * 6 + r < (l.flatMap Cd.cells).length := by rw [hl]; omega
    rw [h.cell hlt]
    rw [← flat_at Cd.cells 6 (fun _ => rfl) l j r hj hr] at hv
    rw [← hv]; simp
  exact ⟨key 0 (by omega) _ rfl, key 1 (by omega) _ rfl, key 2 (by omega) _ rfl, key 3 (by omega) _ rfl, key 4 (by omega) _ rfl, key 5 (by omega) _ rfl⟩

set_option maxHeartbeats 800000 in
set_option maxRecDepth 100000 in
theorem conds_any (ao : Option Addr) (cap : Nat) (l : List Cd) (w : World) (hl : l.length * 64 ≤ 140737488351232) (hs : Cxs w ao l) :
    Calls Try.prog 36 #[.slice ao l.length cap] w fun e w' =>
      e = .returned (.slice (some ⟨w.heap.size, 0, none⟩) (l.length + 3) (l.length + 3)) ∧ Row w' w.heap.size 68 (padCd l) ∧ Ext w w' := by
  have hplen : Hid _ := padCd_len l
  go_enter Try.func36, Try.ntmps36
  go_wp2_with (first
    | (at_make; refine wpList_make_row _ rfl _ _ 39 rfl 68 (.agg #[.int .i64 0, .int .i64 0, .int .i64 0, .string ⟨#[]⟩, .int .i64 0, .string ⟨#[]⟩]) 6 64 Try.underlying39 Try.infoCd _ _ _ _ (l.length + 3) rfl rfl (by omega) (by omega) (by omega) (by unfold maxLen; omega) ?_; intro w1 Z hrow hlen hE1)
    | (refine wpList_copy_row rfl _ _ 39 39 rfl 68 6 Try.underlying39 Try.sizeCd w.heap.size (l.length + 3) (l.length + 3) l.length _ _ rfl rfl Z 68 hrow (l.flatMap Cd.cells) (by omega) (flat_len _ 6 (fun _ => rfl) l) (cds_src (hs.ext hE1)) (by have := hlen.out; rw [flat_len _ 6 (fun _ => rfl)]; omega) (cds_oneCell _) ?_; intro w2 Z2 hrow2 hZ2 hk2; clear hrow))
  have hE2 : Ext w w2 := hE1.kpFresh hk2 (Nat.le_refl _)
  have hlen2 : Hid (Z2.length = (l.length + 3) * 6) := by
    show Z2.length = _
    rw [hZ2.out]; have := hlen.out; simp [flat_len Cd.cells 6 (fun _ => rfl)]; omega
  have htk : Hid (Z2.take (l.length * 6) = (padCd l).take (l.length * 6)) := by
    show Z2.take _ = _
    rw [hZ2.out]; exact padCd_take l _
  clear hlen hE1 hk2 hZ2 hs
  go_wp2
  go_loopw [4] (fun i wr => ∃ k : Nat, l.length ≤ k ∧ k ≤ l.length + 3 ∧ i = .int .i64 k ∧ Ext w wr ∧ ∃ Z, Row wr w.heap.size 68 Z ∧ Z.length = (l.length + 3) * 6 ∧ Z.take (k * 6) = (padCd l).take (k * 6)) (fun i _ => l.length + 3 - (intOf i).toNat)
  case atStart => exact ⟨l.length, Nat.le_refl _, by omega, rfl, hE2, Z2, hrow2, hlen2.out, htk.out⟩
  case round =>
    obtain ⟨k, hk0, hk3, rfl, hE, Y, hY, hYl, hYt⟩ := hrel
    have HY : Hid (Y.length = (l.length + 3) * 6 ∧ Y.take (k * 6) = (padCd l).take (k * 6)) := ⟨hYl, hYt⟩
    clear hYl hYt hlen2 htk hrow2 hE2
    by_cases hlt : k < l.length + 3
    · have hc0 := hY.cell (j := k * 6) (by rw [HY.out.1]; omega)
      have hc1 := hY.cell (j := k * 6 + 1) (by rw [HY.out.1]; omega)
      have hc2 := hY.cell (j := k * 6 + 2) (by rw [HY.out.1]; omega)
      have hc3 := hY.cell (j := k * 6 + 3) (by rw [HY.out.1]; omega)
      have hc4 := hY.cell (j := k * 6 + 4) (by rw [HY.out.1]; omega)
      have hc5 := hY.cell (j := k * 6 + 5) (by rw [HY.out.1]; omega)
      have hf := hY.frozen
      go_wp2
      go_roundw
      case rel =>
        have hs6 := set6_take Y (padCd l) (k * 6) _ _ _ _ _ _ (by rw [HY.out.1]; omega) HY.out.2 (padCd_at l k 0 hk0 hlt (by omega)) (padCd_at l k 1 hk0 hlt (by omega)) (padCd_at l k 2 hk0 hlt (by omega)) (padCd_at l k 3 hk0 hlt (by omega)) (padCd_at l k 4 hk0 hlt (by omega)) (padCd_at l k 5 hk0 hlt (by omega))
        refine ⟨k + 1, by omega, by omega, by go_num, ((((((hE.setCell (Nat.le_refl _) _).setCell (Nat.le_refl _) _).setCell (Nat.le_refl _) _).setCell (Nat.le_refl _) _).setCell (Nat.le_refl _) _).setCell (Nat.le_refl _) _), _, ((((((hY.set _ _).set _ _).set _ _).set _ _).set _ _).set _ _), by simp; exact HY.out.1, ?_⟩
        rw [Nat.succ_mul]; exact hs6
      case measure => simp [intOf]; omega
    · go_wp2
      go_ret
      refine ⟨rfl, ?_, hE⟩
      have e1 : Y = padCd l := by
        have := HY.out.2
        rwa [List.take_of_length_le (by rw [HY.out.1]; omega), List.take_of_length_le (by rw [hplen.out]; omega)] at this
      rw [← e1]; exact hY

theorem Try.infoFd : (Try.prog.info? 71).map (fun i => (i.zero, i.size, i.bytes)) = some (some (.agg #[.int .i64 0, .int .i64 0, .string ⟨#[]⟩]), 3, 32) := by kernel_rfl
theorem Try.sizeFd : (Try.prog.info? 71).map (·.size) = some 3 := by kernel_rfl
def padFd (l : List Fd) : List Value := (l ++ [pF, pF, pF]).flatMap Fd.cells
theorem padFd_len (l : List Fd) : (padFd l).length = (l.length + 3) * 3 := by
  unfold padFd; rw [flat_len _ 3 (fun _ => rfl)]; simp
theorem padFd_at (l : List Fd) (k r : Nat) (h : l.length ≤ k) (h3 : k < l.length + 3) (hr : r < 3) : (padFd l)[k * 3 + r]? = (Fd.cells pF)[r]? := by
  unfold padFd
  rw [flat_at Fd.cells 3 (fun _ => rfl) _ k r (by simp; omega) hr]
  have e : (l ++ [pF, pF, pF])[k]'(by simp; omega) = pF := by
    rw [List.getElem_append_right h]
    rcases (show k - l.length = 0 ∨ k - l.length = 1 ∨ k - l.length = 2 by omega) with e | e | e <;> simp [e]
  rw [e]
theorem padFd_take (l : List Fd) (Z : List Value) : (l.flatMap Fd.cells ++ Z).take (l.length * 3) = (padFd l).take (l.length * 3) := by
  unfold padFd
  rw [List.flatMap_append, List.take_left' (by rw [flat_len _ 3 (fun _ => rfl)]), List.take_left' (by rw [flat_len _ 3 (fun _ => rfl)])]
theorem fds_src {w : World} {ao : Option Addr} {l : List Fd} (hs : Fxs w ao l) : 0 < l.length → ∃ ad, ao = some ad ∧ ∀ j v, (l.flatMap Fd.cells)[j]? = some v → w.cell? (ad.add j) = some v := by
  intro hp
  obtain ⟨b, o, rfl, hI⟩ := hs hp
  refine ⟨_, rfl, fun j v hj => ?_⟩
  have hj' : j < l.length * 3 := by
    have := (List.getElem?_eq_some_iff.1 hj).1
    rwa [flat_len _ 3 (fun _ => rfl)] at this
  have hq : j / 3 < l.length := by omega
  have hr : j % 3 < 3 := Nat.mod_lt _ (by omega)
  have ej : j = j / 3 * 3 + j % 3 := by omega
  rw [ej, flat_at Fd.cells 3 (fun _ => rfl) l _ _ hq hr] at hj
  have hh := hI (j / 3) hq
  rw [add_at, ej, ← Nat.add_assoc]
  generalize j % 3 = r at hj hr
  obtain ⟨h0, h1, h2⟩ := hh
  rcases (show r = 0 ∨ r = 1 ∨ r = 2 by omega) with rfl | rfl | rfl <;> simp [Fd.cells] at hj <;> subst hj <;> assumption
theorem fds_oneCell (l : List Fd) : ∀ v ∈ l.flatMap Fd.cells, v.oneCell' = true := by
  intro v hv
  obtain ⟨x, _, hx⟩ := List.mem_flatMap.1 hv
  simp only [Fd.cells, List.mem_cons, List.not_mem_nil, or_false] at hx
  rcases hx with rfl | rfl | rfl <;> rfl
theorem fds_row {w : World} {g : Nat} {T : TypeId} {l : List Fd} (h : Row w g T (l.flatMap Fd.cells)) : Fds w g 0 l := by
  intro j hj
  have hl : (l.flatMap Fd.cells).length = l.length * 3 := flat_len _ 3 (fun _ => rfl) l
  have key : ∀ r, r < 3 → ∀ v, (Fd.cells l[j])[r]? = some v → w.cell? ⟨g, 0 + j * 3 + r, none⟩ = some v := by
    intro r hr v hv
    have hlt : 0 + j * 3 + r < (l.flatMap Fd.cells).length := by rw [hl]; omega
    rw [h.cell hlt]
    rw [← flat_at Fd.cells 3 (fun _ => rfl) l j r hj hr] at hv
    rw [← hv]; simp
  exact ⟨key 0 (by omega) _ rfl, key 1 (by omega) _ rfl, key 2 (by omega) _ rfl⟩

set_option maxHeartbeats 800000 in
set_option maxRecDepth 100000 in
theorem fields_any (ao : Option Addr) (cap : Nat) (l : List Fd) (w : World) (hl : l.length * 32 ≤ 140737488351232) (hs : Fxs w ao l) :
    Calls Try.prog 39 #[.slice ao l.length cap] w fun e w' =>
      e = .returned (.slice (some ⟨w.heap.size, 0, none⟩) (l.length + 3) (l.length + 3)) ∧ Row w' w.heap.size 71 (padFd l) ∧ Ext w w' := by
  have hplen : Hid _ := padFd_len l
  go_enter Try.func39, Try.ntmps39
  go_wp2_with (first
    | (at_make; refine wpList_make_row _ rfl _ _ 44 rfl 71 (.agg #[.int .i64 0, .int .i64 0, .string ⟨#[]⟩]) 3 32 Try.underlying44 Try.infoFd _ _ _ _ (l.length + 3) rfl rfl (by omega) (by omega) (by omega) (by unfold maxLen; omega) ?_; intro w1 Z hrow hlen hE1)
    | (refine wpList_copy_row rfl _ _ 44 44 rfl 71 3 Try.underlying44 Try.sizeFd w.heap.size (l.length + 3) (l.length + 3) l.length _ _ rfl rfl Z 71 hrow (l.flatMap Fd.cells) (by omega) (flat_len _ 3 (fun _ => rfl) l) (fds_src (hs.ext hE1)) (by have := hlen.out; rw [flat_len _ 3 (fun _ => rfl)]; omega) (fds_oneCell _) ?_; intro w2 Z2 hrow2 hZ2 hk2; clear hrow))
  have hE2 : Ext w w2 := hE1.kpFresh hk2 (Nat.le_refl _)
  have hlen2 : Hid (Z2.length = (l.length + 3) * 3) := by
    show Z2.length = _
    rw [hZ2.out]; have := hlen.out; simp [flat_len Fd.cells 3 (fun _ => rfl)]; omega
  have htk : Hid (Z2.take (l.length * 3) = (padFd l).take (l.length * 3)) := by
    show Z2.take _ = _
    rw [hZ2.out]; exact padFd_take l _
  clear hlen hE1 hk2 hZ2 hs
  go_wp2
  go_loopw [4] (fun i wr => ∃ k : Nat, l.length ≤ k ∧ k ≤ l.length + 3 ∧ i = .int .i64 k ∧ Ext w wr ∧ ∃ Z, Row wr w.heap.size 71 Z ∧ Z.length = (l.length + 3) * 3 ∧ Z.take (k * 3) = (padFd l).take (k * 3)) (fun i _ => l.length + 3 - (intOf i).toNat)
  case atStart => exact ⟨l.length, Nat.le_refl _, by omega, rfl, hE2, Z2, hrow2, hlen2.out, htk.out⟩
  case round =>
    obtain ⟨k, hk0, hk3, rfl, hE, Y, hY, hYl, hYt⟩ := hrel
    have HY : Hid (Y.length = (l.length + 3) * 3 ∧ Y.take (k * 3) = (padFd l).take (k * 3)) := ⟨hYl, hYt⟩
    clear hYl hYt hlen2 htk hrow2 hE2
    by_cases hlt : k < l.length + 3
    · have hc0 := hY.cell (j := k * 3) (by rw [HY.out.1]; omega)
      have hc1 := hY.cell (j := k * 3 + 1) (by rw [HY.out.1]; omega)
      have hc2 := hY.cell (j := k * 3 + 2) (by rw [HY.out.1]; omega)
      have hf := hY.frozen
      go_wp2
      go_roundw
      case rel =>
        have hs6 := set3_take Y (padFd l) (k * 3) _ _ _ (by rw [HY.out.1]; omega) HY.out.2 (padFd_at l k 0 hk0 hlt (by omega)) (padFd_at l k 1 hk0 hlt (by omega)) (padFd_at l k 2 hk0 hlt (by omega))
        refine ⟨k + 1, by omega, by omega, by go_num, (((hE.setCell (Nat.le_refl _) _).setCell (Nat.le_refl _) _).setCell (Nat.le_refl _) _), _, (((hY.set _ _).set _ _).set _ _), by simp; exact HY.out.1, ?_⟩
        rw [Nat.succ_mul]; exact hs6
      case measure => simp [intOf]; omega
    · go_wp2
      go_ret
      refine ⟨rfl, ?_, hE⟩
      have e1 : Y = padFd l := by
        have := HY.out.2
        rwa [List.take_of_length_le (by rw [HY.out.1]; omega), List.take_of_length_le (by rw [hplen.out]; omega)] at this
      rw [← e1]; exact hY

end Go.Proofs.Ytepioeaomlmocaa
