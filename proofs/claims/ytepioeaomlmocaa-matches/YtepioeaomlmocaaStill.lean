import Derived.Test.YtepioeaomlmocaaKeep
namespace Go.Proofs.Ytepioeaomlmocaa
open Go.RowKit

/-- The lists in the book, each of its own mark. -/
def Book (w : World) (vs : List Value) : Prop := ∀ i (hi : i < vs.length), ∃ ao n cap, vs[i] = .slice ao n cap ∧ n ≤ 103 ∧ MarkAt w ao n ((-1000 : Int) - (i : Int) / 4)

set_option maxHeartbeats 800000 in
set_option maxRecDepth 100000 in
theorem still_any (wb : Nat) (v0 v1 v5 : Value) (ia : Option Addr) (ic icap : Nat) (vs : List Value) (w : World) (hl : vs.length = ic) (_hic : ic * 24 ≤ 140737488355328)
    (hW : Row w wb 61 [v0, v1, .slice ia ic icap, .slice none 0 0, .slice none 0 0, v5]) (hI : OSl w 27 1 ia ic icap vs) (hB : Book w vs) :
    Calls Try.prog 21 #[.pointer (some ⟨wb, 0, none⟩)] w fun e w' => e = .returned (.bool true) ∧ w' = w := by
  have a2 := hW.at (j := 2) rfl
  have a3 := hW.at (j := 3) rfl
  have a4 := hW.at (j := 4) rfl
  have HL : Hid (vs.length = ic) := hl
  have HB : Hid (Book w vs) := hB
  clear hl hB
  go_enter Try.func21, Try.ntmps21
  go_wp2
  go_loop [3] (fun i => ∃ k : Nat, k ≤ ic ∧ i = .int .i64 k) (fun i => ic - (intOf i).toNat)
  case atStart => exact ⟨0, Nat.zero_le _, rfl⟩
  case round =>
    obtain ⟨k, hk, rfl⟩ := hrel
    by_cases hlt : k < ic
    · have hkv : k < vs.length := by rw [HL.out]; exact hlt
      obtain ⟨ao, n, cap, hv, hn, hm⟩ := HB.out k hkv
      obtain ⟨g, rfl, hc⟩ := hI.at (List.getElem?_eq_getElem hkv)
      rw [hv] at hc
      generalize hmk : (-1000 : Int) - (k : Int) / 4 = mk at hm
      have HMK : Hid ((-1000 : Int) - (k : Int) / 4 = mk) := hmk
      clear hv
      go_wp2
      go_loop [4] (fun i => ∃ j : Nat, j ≤ n ∧ i = .int .i64 j) (fun i => n - (intOf i).toNat)
      case atStart => exact ⟨0, Nat.zero_le _, rfl⟩
      case round =>
        obtain ⟨j, hj, rfl⟩ := hrel
        by_cases hjn : j < n
        · obtain ⟨b, rfl, hcb⟩ := hm j hjn
          go_wp2
          go_round
          case rel => exact ⟨j + 1, by omega, by go_num⟩
          case measure => simp [intOf]; omega
        · clear hm
          go_wp2
          go_round
          case rel => exact ⟨k + 1, by omega, by go_num⟩
          case measure => simp [intOf]; omega
    · clear HB hI
      go_wp2
      go_loop [5] (fun i => i = .int .i64 0) (fun _ => 0)
      case atStart => rfl
      case round =>
        subst hrel
        go_wp2
        go_loop [7] (fun i => i = .int .i64 0) (fun _ => 0)
        case atStart => rfl
        case round =>
          subst hrel
          go_wp2
          go_ret
          exact ⟨rfl, rfl⟩
end Go.Proofs.Ytepioeaomlmocaa
