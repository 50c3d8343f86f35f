import Derived.Test.YtepioeaomlmocaaLeaf
import Derived.Test.YtepioeaomlmocaaMay
namespace Go.Proofs.Ytepioeaomlmocaa
open Go.RowKit

/-- May a list be a schema? -/
def typB (x : Int) : Bool := (x == 1) || (x == 2)
def schB (xs : List Int) : Bool := xs.all typB && (decide (1 ≤ xs.length) && decide (xs.length ≤ 6))

theorem all_take_succ {α : Type} (p : α → Bool) (xs : List α) (d : α) (k : Nat) (h : k < xs.length) : (xs.take (k + 1)).all p = ((xs.take k).all p && p (xs.getD k d)) := by
  rw [List.take_succ_eq_append_getElem h, List.all_append]
  simp [h]
theorem all_false_of {α : Type} (p : α → Bool) (xs : List α) (d : α) (k : Nat) (h : k < xs.length) (hp : p (xs.getD k d) = false) : xs.all p = false := by
  rw [List.all_eq_false]
  refine ⟨xs[k], List.getElem_mem h, ?_⟩
  have : xs.getD k d = xs[k] := by simp [h]
  rw [← this, hp]; simp

/-- The numbers of a slice: where there are some, they lie there. -/
def Ixs (w : World) (ao : Option Addr) (xs : List Int) : Prop := 0 < xs.length → ∃ b o, ao = some ⟨b, o, none⟩ ∧ Ints w b o xs
theorem Ixs.ext {w w' : World} {ao : Option Addr} {xs : List Int} (h : Ixs w ao xs) (e : Ext w w') : Ixs w' ao xs := fun hp => by
  obtain ⟨b, o, h1, h2⟩ := h hp
  exact ⟨b, o, h1, h2.ext e⟩

theorem schB_no {xs : List Int} {k : Nat} (h : k < xs.length) (hp : typB (xs.getD k 0) = false) : schB xs = false := by
  simp [schB, all_false_of typB xs 0 k h hp]
theorem schB_end {xs : List Int} {k : Nat} (h : (xs.take k).all typB = true) (hk : ¬ k < xs.length) : schB xs = (decide (1 ≤ xs.length) && decide (xs.length ≤ 6)) := by
  rw [List.take_of_length_le (by omega)] at h
  simp [schB, h]

set_option maxHeartbeats 400000 in
theorem rSchema_any (ao : Option Addr) (cap : Nat) (xs : List Int) (w : World) (_hl : xs.length * 8 ≤ 140737488351232) (hs : Ixs w ao xs) :
    Calls Try.prog 33 #[.slice ao xs.length cap] w fun e w' => e = .returned (.bool (schB xs)) ∧ w' = w := by
  go_enter Try.func33, Try.ntmps33
  go_wp2
  go_loop [3] (fun i => ∃ k : Nat, k ≤ xs.length ∧ i = .int .i64 k ∧ (xs.take k).all typB = true) (fun i => xs.length - (intOf i).toNat)
  case atStart => exact ⟨0, Nat.zero_le _, rfl, by simp⟩
  case round =>
    obtain ⟨k, hk, rfl, hall⟩ := hrel
    have HA : Hid ((xs.take k).all typB = true) := hall
    clear hall
    by_cases hlt : k < xs.length
    · obtain ⟨b, o, rfl, hI⟩ := hs (by omega)
      have hc := hI k hlt
      generalize hx : xs.getD k 0 = x at hc
      have HX : Hid (xs.getD k 0 = x) := hx
      clear hx hs hI
      go_wp2
      · go_round
        case rel => exact ⟨k + 1, by omega, by go_num, by rw [all_take_succ typB xs 0 k hlt, HA.out, HX.out]; simp [typB, *]⟩
        case measure => simp [intOf]; omega
      · go_ret
        exact ⟨ret_bool (schB_no hlt (by rw [HX.out]; simp_all [typB])).symm, rfl⟩
      · go_round
        case rel => exact ⟨k + 1, by omega, by go_num, by rw [all_take_succ typB xs 0 k hlt, HA.out, HX.out]; simp_all [typB]⟩
        case measure => simp [intOf]; omega
    · clear hs
      go_wp2
      all_goals
        go_ret
        exact ⟨ret_bool (by rw [schB_end HA.out hlt, Bool.eq_iff_iff]; simp; omega), rfl⟩

set_option maxHeartbeats 400000 in
theorem schemaMayBe_any (ao : Option Addr) (cap : Nat) (xs : List Int) (w : World) (_hl : xs.length * 8 ≤ 140737488351232) (hs : Ixs w ao xs) :
    Calls Try.prog 23 #[.slice ao xs.length cap] w fun e w' => e = .returned (.bool (schB xs)) ∧ w' = w := by
  by_cases h16 : 1 ≤ xs.length ∧ xs.length ≤ 6
  · obtain ⟨h1, h6⟩ := h16
    obtain ⟨b, o, rfl, hI⟩ := hs (by omega)
    clear hs
    go_enter Try.func23, Try.ntmps23
    go_wp2
    go_loop [15] (fun i => ∃ k : Nat, k ≤ xs.length ∧ i = .int .i64 k ∧ (xs.take k).all typB = true) (fun i => xs.length - (intOf i).toNat)
    case atStart => exact ⟨0, Nat.zero_le _, rfl, by simp⟩
    case round =>
      obtain ⟨k, hk, rfl, hall⟩ := hrel
      have HA : Hid ((xs.take k).all typB = true) := hall
      clear hall
      by_cases hlt : k < xs.length
      · have hc := hI k hlt
        generalize hx : xs.getD k 0 = x at hc
        have HX : Hid (xs.getD k 0 = x) := hx
        clear hx hI
        go_wp2
        · go_round
          case rel => exact ⟨k + 1, by omega, by go_num, by rw [all_take_succ typB xs 0 k hlt, HA.out, HX.out]; simp [typB, *]⟩
          case measure => simp [intOf]; omega
        · go_ret
          exact ⟨ret_bool (schB_no hlt (by rw [HX.out]; simp_all [typB])).symm, rfl⟩
        · go_round
          case rel => exact ⟨k + 1, by omega, by go_num, by rw [all_take_succ typB xs 0 k hlt, HA.out, HX.out]; simp_all [typB]⟩
          case measure => simp [intOf]; omega
      · clear hI
        go_wp2
        all_goals
          go_ret
          exact ⟨ret_bool (by rw [schB_end HA.out hlt]; simp; omega), rfl⟩
  · have hf : Hid (false = schB xs) := by
      show false = schB xs
      symm; simp only [schB, Bool.and_eq_false_iff, decide_eq_false_iff_not]; omega
    clear hs
    by_cases h0 : xs.length < 1
    · go_enter Try.func23, Try.ntmps23
      go_wp2
      go_ret
      exact ⟨ret_bool hf.out, rfl⟩
    · have h6 : 6 < xs.length := by omega
      go_enter Try.func23, Try.ntmps23
      go_wp2
      go_ret
      exact ⟨ret_bool hf.out, rfl⟩

end Go.Proofs.Ytepioeaomlmocaa
