import Derived.Test.YtepioeaomlmocaaInv
namespace Go.Proofs.Ytepioeaomlmocaa
open Go.RowKit

theorem pick_at (c : Int) (n : Nat) (hn : 1 ≤ n) : ∃ i : Nat, i < n ∧ c % n = i := by
  have h1 := Int.emod_nonneg c (show (n : Int) ≠ 0 by omega)
  have h2 := Int.emod_lt_of_pos c (show (0 : Int) < n by omega)
  exact ⟨(c % n).toNat, by omega, by omega⟩
theorem pick_any (c : Int) (n : Nat) (w : World) (h1 : -9223372036854775808 ≤ c) (h2 : c ≤ 9223372036854775807) (hn : 1 ≤ n) (hm : n ≤ 1000000000000000) :
    Calls Try.prog 19 #[.int .i64 c, .int .i64 n] w fun e w' => (∃ i : Nat, i < n ∧ e = .returned (.int .i64 i)) ∧ w' = w := by
  by_cases hc : c < 0
  · obtain ⟨i, hi, he⟩ := pick_at (-(c + 1)) n hn
    have he2 : Hid (-(c + 1).tmod (n : Int) = i) := by
      show _ = _
      rw [← Int.neg_tmod, Int.tmod_eq_emod_of_nonneg (by omega), he]
    clear he
    go_enter Try.func19, Try.ntmps19
    go_wp2
    go_ret
    exact ⟨⟨i, hi, by simp [he2.out]⟩, rfl⟩
  · obtain ⟨i, hi, he⟩ := pick_at c n hn
    have he2 : Hid (c % (n : Int) = i) := he
    clear he
    go_enter Try.func19, Try.ntmps19
    go_wp2
    go_ret
    exact ⟨⟨i, hi, by simp [he2.out]⟩, rfl⟩
end Go.Proofs.Ytepioeaomlmocaa
