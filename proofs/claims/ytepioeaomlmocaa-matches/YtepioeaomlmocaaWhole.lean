import Derived.Test.YtepioeaomlmocaaLend2
namespace Go.Proofs.Ytepioeaomlmocaa
open Go.RowKit

theorem padI_row {w : World} {g : Nat} {T : TypeId} {xs : List Int} (h : Row w g T (padI xs)) : Ixs w (some ⟨g, 0, none⟩) (xs ++ [77, 77, 77]) := fun _ => by
  refine ⟨g, 0, rfl, fun j hj => ?_⟩
  have hl : j < (padI xs).length := by unfold padI; simpa using hj
  rw [Nat.zero_add, h.cell hl, ← List.getElem?_eq_getElem hl]
  unfold padI
  have hj' : j < (xs ++ [77, 77, 77]).length := hj
  rw [List.getElem?_map, List.getD_eq_getElem?_getD, List.getElem?_eq_getElem hj']
  rfl

theorem drop3 (Y P : List Value) (k : Nat) (a b c : Value) (h : Y.drop (k * 3) = P.drop (k * 3)) : (((Y.set (k * 3) a).set (k * 3 + 1) b).set (k * 3 + 2) c).drop ((k + 1) * 3) = P.drop ((k + 1) * 3) := by
  apply List.ext_getElem?
  intro j
  have := congrArg (fun q => q[3 + j]?) h
  simp only [List.getElem?_drop] at this ⊢
  rw [List.getElem?_set_ne (by omega), List.getElem?_set_ne (by omega), List.getElem?_set_ne (by omega)]
  have e : (k + 1) * 3 + j = k * 3 + (3 + j) := by omega
  rw [e]; exact this
theorem eqB_refl (xs : List Int) : eqB xs xs = true := by simp [eqB]

set_option maxHeartbeats 400000 in
set_option maxRecDepth 100000 in
theorem wholeNumbers_any (g : Nat) (ao : Option Addr) (cap : Nat) (xs : List Int) (w : World) (hl : xs.length * 8 ≤ 140737488351232) (hg : Row w g 3 (padI xs)) (hs : Ixs w ao xs) :
    Calls Try.prog 34 #[.slice (some ⟨g, 0, none⟩) (xs.length + 3) (xs.length + 3), .slice ao xs.length cap] w fun e w' => e = .returned (.bool true) ∧ Kp (fun k => k = g) w w' := by
  go_enter Try.func34, Try.ntmps34
  go_wp2_with fail
  refine (numbers_any ao cap xs w hl hs).mono ?_
  rintro e w1 ⟨rfl, hr1, hE1⟩
  go_wp2_with fail
  have hlen : (xs ++ [77, 77, 77]).length = xs.length + 3 := by simp
  have h2 := sameNumbers_any (some ⟨g, 0, none⟩) (some ⟨w.heap.size, 0, none⟩) (xs.length + 3) (xs.length + 3) (xs ++ [77, 77, 77]) (xs ++ [77, 77, 77]) w1 (by rw [hlen]; omega) (by rw [hlen]; omega) (padI_row (hg.ext hE1)) (padI_row hr1)
  rw [hlen, eqB_refl] at h2
  refine h2.mono ?_
  rintro e w2 ⟨rfl, hE2⟩
  have hg2 := (hg.ext hE1).ext hE2
  have hK2 : Kp (fun k => k = g) w w2 := (hE1.trans hE2).kp _
  clear h2 hlen hE2 hE1 hr1 hs hg
  go_wp2
  go_loopw [7] (fun i wr => ∃ k : Nat, k ≤ xs.length + 3 ∧ i = .int .i64 k ∧ Kp (fun k => k = g) w wr ∧ ∃ Z, Row wr g 3 Z ∧ Z.length = xs.length + 3) (fun i _ => xs.length + 3 - (intOf i).toNat)
  case atStart => exact ⟨0, by omega, rfl, hK2, _, hg2, padI_len xs⟩
  case round =>
    obtain ⟨k, hk3, rfl, hK, Y, hY, hYl⟩ := hrel
    have HY : Hid (Y.length = xs.length + 3) := hYl
    clear hYl hg2 hK2
    by_cases hlt : k < xs.length + 3
    · have hc := hY.cell (j := k) (by rw [HY.out]; exact hlt)
      have hf := hY.frozen k
      go_wp2
      go_roundw
      case rel => exact ⟨k + 1, by omega, by go_num, hK.setCell (fun _ => rfl) _, _, hY.set k _, by simp; exact HY.out⟩
      case measure => simp [intOf]; omega
    · go_wp2
      go_ret
      exact ⟨rfl, hK⟩

set_option maxHeartbeats 400000 in
set_option maxRecDepth 100000 in
theorem wholeConds_any (g : Nat) (ao : Option Addr) (cap : Nat) (l : List Cd) (w : World) (hl : l.length * 64 ≤ 140737488351232) (hg : Row w g 68 (padCd l)) (hs : Cxs w ao l) :
    Calls Try.prog 38 #[.slice (some ⟨g, 0, none⟩) (l.length + 3) (l.length + 3), .slice ao l.length cap] w fun e w' => e = .returned (.bool true) ∧ Kp (fun k => k = g) w w' := by
  go_enter Try.func38, Try.ntmps38
  go_wp2_with fail
  refine (conds_any ao cap l w hl hs).mono ?_
  rintro e w1 ⟨rfl, hr1, hE1⟩
  go_wp2_with fail
  have hlen : (l ++ [pC, pC, pC]).length = l.length + 3 := by simp
  have h2 := sameConds_eq (some ⟨g, 0, none⟩) (some ⟨w.heap.size, 0, none⟩) (l.length + 3) (l.length + 3) (l ++ [pC, pC, pC]) (l ++ [pC, pC, pC]) w1 (by rw [hlen]; omega) (fun _ => ⟨_, _, rfl, cds_row (hg.ext hE1)⟩) (fun _ => ⟨_, _, rfl, cds_row hr1⟩) rfl
  rw [hlen] at h2
  refine h2.mono ?_
  rintro e w2 ⟨rfl, hE2⟩
  have hg2 := (hg.ext hE1).ext hE2
  have hK2 : Kp (fun k => k = g) w w2 := (hE1.trans hE2).kp _
  clear h2 hlen hE2 hE1 hr1 hs hg
  go_wp2
  go_loopw [7] (fun i wr => ∃ k : Nat, k ≤ l.length + 3 ∧ i = .int .i64 k ∧ Kp (fun k => k = g) w wr ∧ ∃ Z, Row wr g 68 Z ∧ Z.length = (l.length + 3) * 6) (fun i _ => l.length + 3 - (intOf i).toNat)
  case atStart => exact ⟨0, by omega, rfl, hK2, _, hg2, padCd_len l⟩
  case round =>
    obtain ⟨k, hk3, rfl, hK, Y, hY, hYl⟩ := hrel
    have HY : Hid (Y.length = (l.length + 3) * 6) := hYl
    clear hYl hg2 hK2
    by_cases hlt : k < l.length + 3
    · have hc0 := hY.cell (j := k * 6) (by rw [HY.out]; omega)
      have hc1 := hY.cell (j := k * 6 + 1) (by rw [HY.out]; omega)
      have hc2 := hY.cell (j := k * 6 + 2) (by rw [HY.out]; omega)
      have hc3 := hY.cell (j := k * 6 + 3) (by rw [HY.out]; omega)
      have hc4 := hY.cell (j := k * 6 + 4) (by rw [HY.out]; omega)
      have hc5 := hY.cell (j := k * 6 + 5) (by rw [HY.out]; omega)
      have hf := hY.frozen
      go_wp2
      go_roundw
      case rel => exact ⟨k + 1, by omega, by go_num, ((((((hK.setCell (fun _ => rfl) _).setCell (fun _ => rfl) _).setCell (fun _ => rfl) _).setCell (fun _ => rfl) _).setCell (fun _ => rfl) _).setCell (fun _ => rfl) _), _, ((((((hY.set _ _).set _ _).set _ _).set _ _).set _ _).set _ _), by simp; exact HY.out⟩
      case measure => simp [intOf]; omega
    · go_wp2
      go_ret
      exact ⟨rfl, hK⟩

set_option maxHeartbeats 800000 in
set_option maxRecDepth 100000 in
theorem wholeFields_any (g : Nat) (ao : Option Addr) (cap : Nat) (l : List Fd) (w : World) (hl : l.length * 32 ≤ 140737488351232) (hg : Row w g 71 (padFd l)) (hs : Fxs w ao l) :
    Calls Try.prog 44 #[.slice (some ⟨g, 0, none⟩) (l.length + 3) (l.length + 3), .slice ao l.length cap] w fun e w' => e = .returned (.bool true) ∧ Kp (fun k => k = g) w w' := by
  have hglt := hg.lt
  go_enter Try.func44, Try.ntmps44
  go_wp2_with fail
  refine (fields_any ao cap l w hl hs).mono ?_
  rintro e w1 ⟨rfl, hr1, hE1⟩
  have hg2 := hg.ext hE1
  have hK2 : Kp (fun k => k = g) w w1 := hE1.kp _
  have hWF : Hid (Fds w1 w.heap.size 0 (l ++ [pF, pF, pF])) := fds_row hr1
  have hGF : Hid (∀ k (hk : k < (l ++ [pF, pF, pF]).length), (padFd l)[k * 3]? = some (.int .i64 (l ++ [pF, pF, pF])[k].attr) ∧ (padFd l)[k * 3 + 1]? = some (.int .i64 (l ++ [pF, pF, pF])[k].v.n) ∧ (padFd l)[k * 3 + 2]? = some (.string (l ++ [pF, pF, pF])[k].v.s)) := by
    intro k hk
    unfold padFd
    exact ⟨flat_at Fd.cells 3 (fun _ => rfl) _ k 0 hk (by omega), flat_at Fd.cells 3 (fun _ => rfl) _ k 1 hk (by omega), flat_at Fd.cells 3 (fun _ => rfl) _ k 2 hk (by omega)⟩
  have hml : Hid ((l ++ [pF, pF, pF]).length = l.length + 3) := by show _ = _; simp
  have hpl : Hid _ := padFd_len l
  generalize l ++ [pF, pF, pF] = m at hWF hGF hml
  have hb : w.heap.size ≠ g := by omega
  clear hE1 hr1 hs hg
  go_wp2
  go_loopw [6, 7] (fun ok i wr => ok = .bool true ∧ ∃ k : Nat, k ≤ l.length + 3 ∧ i = .int .i64 k ∧ Kp (fun k => k = g) w1 wr ∧ ∃ Z, Row wr g 71 Z ∧ Z.length = (l.length + 3) * 3 ∧ Z.drop (k * 3) = (padFd l).drop (k * 3)) (fun _ i _ => l.length + 3 - (intOf i).toNat)
  case atStart => exact ⟨rfl, 0, by omega, rfl, Kp.refl _ _, _, hg2, padFd_len l, rfl⟩
  case round =>
    obtain ⟨rfl, k, hk3, rfl, hK, Y, hY, hYl, hYd⟩ := hrel
    have HY : Hid (Y.length = (l.length + 3) * 3 ∧ Y.drop (k * 3) = (padFd l).drop (k * 3)) := ⟨hYl, hYd⟩
    have hKK : Kp (fun k => k = g) w wr := hK2.trans (hK.mono (fun _ _ h => h))
    clear hYl hYd hg2 hK2
    by_cases hlt : k < l.length + 3
    · have hkm : k < m.length := by rw [hml.out]; exact hlt
      obtain ⟨a0, a1, a2⟩ := hWF.out k hkm
      simp only [Nat.zero_add] at a0 a1 a2
      have b0 := hK.cell a0 hb
      have b1 := hK.cell a1 hb
      have b2 := hK.cell a2 hb
      obtain ⟨f0, f1, f2⟩ := hGF.out k hkm
      have sh : ∀ r, Y[k * 3 + r]? = (padFd l)[k * 3 + r]? := fun r => by
        have := congrArg (fun q => q[r]?) HY.out.2
        simpa [List.getElem?_drop] using this
      have ycell : ∀ r v, (padFd l)[k * 3 + r]? = some v → wr.cell? ⟨g, k * 3 + r, none⟩ = some v := fun r v hv => by
        rw [← sh r] at hv
        obtain ⟨h1, h2⟩ := List.getElem?_eq_some_iff.1 hv
        rw [hY.cell h1, h2]
      have c0 := ycell 0 _ f0
      have c1 := ycell 1 _ f1
      have c2 := ycell 2 _ f2
      simp only [Nat.add_zero] at c0
      have hf := hY.frozen
      clear a0 a1 a2 f0 f1 f2 sh ycell
      generalize m[k] = x at *
      go_wp2
      go_quiet (fail)
      go_wp2
      go_roundw
      case rel =>
        refine ⟨by simp, k + 1, by omega, by go_num, (((hK.trans ((drewN_ext _ _).kp _)).setCell (fun _ => rfl) _).setCell (fun _ => rfl) _).setCell (fun _ => rfl) _, _, ((((hY.ext (drewN_ext _ _)).set _ _).set _ _).set _ _), by simp; exact HY.out.1, ?_⟩
        exact drop3 Y (padFd l) k _ _ _ HY.out.2
      case measure => simp [intOf]; omega
    · go_wp2
      go_ret
      exact ⟨rfl, hKK⟩
end Go.Proofs.Ytepioeaomlmocaa
