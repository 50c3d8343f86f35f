import Derived.Test.YtepioeaomlmocaaRowy
import Derived.Test.YtepioeaomlmocaaSame
namespace Go.Proofs.Ytepioeaomlmocaa
open Go.RowKit

theorem Try.infoInt : (Try.prog.info? 3).map (fun i => (i.zero, i.size, i.bytes)) = some (some (.int .i64 0), 1, 8) := by kernel_rfl
theorem Try.sizeInt : (Try.prog.info? 3).map (·.size) = some 1 := by kernel_rfl

/-- What is lent: the numbers, and three things behind them. -/
def padI (xs : List Int) : List Value := (xs ++ [77, 77, 77]).map (Value.int .i64)
theorem padI_len (xs : List Int) : (padI xs).length = xs.length + 3 := by simp [padI]
theorem padI_at (xs : List Int) (k : Nat) (h : xs.length ≤ k) (h3 : k < xs.length + 3) : (padI xs)[k]'(by rw [padI_len]; exact h3) = .int .i64 77 := by
  unfold padI
  simp only [List.getElem_map, Value.int.injEq, true_and]
  rw [List.getElem_append_right h]
  rcases (show k - xs.length = 0 ∨ k - xs.length = 1 ∨ k - xs.length = 2 by omega) with e | e | e <;> simp [e]

theorem ixs_src {w : World} {ao : Option Addr} {xs : List Int} (hs : Ixs w ao xs) : 0 < xs.length → ∃ ad, ao = some ad ∧ ∀ j v, (xs.map (Value.int .i64))[j]? = some v → w.cell? (ad.add j) = some v := by
  intro hp
  obtain ⟨b, o, rfl, hI⟩ := hs hp
  refine ⟨_, rfl, fun j v hj => ?_⟩
  rw [List.getElem?_map] at hj
  obtain ⟨x, hx, rfl⟩ := Option.map_eq_some_iff.1 hj
  have hj' : j < xs.length := (List.getElem?_eq_some_iff.1 hx).1
  rw [add_at, hI j hj']
  simp [hx]
theorem ints_oneCell' (xs : List Int) : ∀ v ∈ xs.map (Value.int .i64), v.oneCell' = true := by
  intro v hv
  obtain ⟨x, _, rfl⟩ := List.mem_map.1 hv
  rfl
theorem padI_take (xs : List Int) (Z : List Value) : (xs.map (Value.int .i64) ++ Z).take xs.length = (padI xs).take xs.length := by
  unfold padI
  rw [List.map_append, List.take_left' (by simp), List.take_left' (by simp)]

set_option maxHeartbeats 400000 in
set_option maxRecDepth 100000 in
theorem numbers_any (ao : Option Addr) (cap : Nat) (xs : List Int) (w : World) (hl : xs.length * 8 ≤ 140737488351232) (hs : Ixs w ao xs) :
    Calls Try.prog 32 #[.slice ao xs.length cap] w fun e w' =>
      e = .returned (.slice (some ⟨w.heap.size, 0, none⟩) (xs.length + 3) (xs.length + 3)) ∧ Row w' w.heap.size 3 (padI xs) ∧ Ext w w' := by
  have hplen : Hid _ := padI_len xs
  have hpt : Hid (∀ Z, (xs.map (Value.int .i64) ++ Z).take xs.length = (padI xs).take xs.length) := padI_take xs
  have hpa : Hid (∀ k (h : xs.length ≤ k) (h3 : k < xs.length + 3), (padI xs)[k]'(by rw [padI_len]; exact h3) = .int .i64 77) := padI_at xs
  go_enter Try.func32, Try.ntmps32
  go_wp2_with (first
    | (at_make; refine wpList_make_row _ rfl _ _ 27 rfl 3 (.int .i64 0) 1 8 Try.underlying27 Try.infoInt _ _ _ _ (xs.length + 3) rfl rfl (by omega) (by omega) (by omega) (by unfold maxLen; omega) ?_; intro w1 Z hrow hlen hE1)
    | (refine wpList_copy_row rfl _ _ 27 27 rfl 3 1 Try.underlying27 Try.sizeInt w.heap.size (xs.length + 3) (xs.length + 3) xs.length _ _ rfl rfl Z 3 hrow (xs.map (Value.int .i64)) (by omega) (by simp) (ixs_src (hs.ext hE1)) (by have := hlen.out; simp; omega) (ints_oneCell' _) ?_; intro w2 Z2 hrow2 hZ2 hk2; clear hrow))
  have hE2 : Ext w w2 := hE1.kpFresh hk2 (Nat.le_refl _)
  have hlen2 : Hid (Z2.length = xs.length + 3) := by
    show Z2.length = _
    rw [hZ2.out]; have := hlen.out; simp; omega
  have htk : Hid (Z2.take xs.length = (padI xs).take xs.length) := by
    show Z2.take _ = _
    rw [hZ2.out]; exact hpt.out _
  clear hlen hE1 hk2 hZ2 hs hpt
  go_wp2
  go_loopw [4] (fun i wr => ∃ k : Nat, xs.length ≤ k ∧ k ≤ xs.length + 3 ∧ i = .int .i64 k ∧ Ext w wr ∧ ∃ Z, Row wr w.heap.size 3 Z ∧ Z.length = xs.length + 3 ∧ Z.take k = (padI xs).take k) (fun i _ => xs.length + 3 - (intOf i).toNat)
  case atStart => exact ⟨xs.length, Nat.le_refl _, by omega, rfl, hE2, Z2, hrow2, hlen2.out, htk.out⟩
  case round =>
    obtain ⟨k, hk0, hk3, rfl, hE, Y, hY, hYl, hYt⟩ := hrel
    have HY : Hid (Y.length = xs.length + 3 ∧ Y.take k = (padI xs).take k) := ⟨hYl, hYt⟩
    clear hYl hYt hlen2 htk hrow2 hE2
    by_cases hlt : k < xs.length + 3
    · have hc := hY.cell (j := k) (by rw [HY.out.1]; exact hlt)
      have hf := hY.frozen k
      go_wp2
      go_roundw
      case rel =>
        refine ⟨k + 1, by omega, by omega, by go_num, hE.setCell (Nat.le_refl _) _, _, hY.set k _, ?_, ?_⟩
        · simp; exact HY.out.1
        · exact set_take_succ Y (padI xs) k _ (by rw [HY.out.1]; exact hlt) (by rw [hplen.out]; exact hlt) HY.out.2 (hpa.out k hk0 hlt)
      case measure => simp [intOf]; omega
    · go_wp2
      go_ret
      refine ⟨rfl, ?_, hE⟩
      have e1 : Y = padI xs := by
        have := HY.out.2
        rwa [List.take_of_length_le (by rw [HY.out.1]; omega), List.take_of_length_le (by rw [hplen.out]; omega)] at this
      rw [← e1]; exact hY
end Go.Proofs.Ytepioeaomlmocaa
