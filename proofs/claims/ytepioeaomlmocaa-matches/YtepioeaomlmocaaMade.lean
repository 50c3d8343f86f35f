import Derived.Test.YtepioeaomlmocaaMatchesN
namespace Go.Proofs.Ytepioeaomlmocaa
open Go.RowKit

theorem pad_ints {w : World} {g : Nat} {T : TypeId} {xs : List Int} (h : Row w g T (padI xs)) : Ixs w (some ⟨g, 0, none⟩) xs := fun _ => by
  obtain ⟨b, o, e, hI⟩ := padI_row h (by simp)
  cases e
  refine ⟨g, 0, rfl, fun j hj => ?_⟩
  have := hI j (by simp; omega)
  rw [this]
  simp [List.getElem?_append_left hj]
theorem ixs_kp {w w' : World} {ao : Option Addr} {l : List Int} {M : Nat → Prop} (h : Ixs w ao l) (k : Kp M w w') (hm : ∀ g, blkOf ao = some g → ¬ M g) : Ixs w' ao l := fun hp => by
  obtain ⟨b, o, h1, h2⟩ := h hp
  exact ⟨b, o, h1, h2.kp k (hm b (by rw [h1]; rfl))⟩

set_option maxHeartbeats 800000 in
set_option maxRecDepth 100000 in
theorem made_nil {E : World → Nat → (Nat → Prop) → List Int → List (Int × List Cd) → Prop} (C : EngC E) (wb : Nat) (w : World) :
    Calls Try.prog 16 #[.pointer (some ⟨wb, 0, none⟩), .slice none 0 0] w fun e w' => e = .returned (.bool true) ∧ Ext w w' := by
  have qT : ∀ (w : World) (a : Option Addr) (n c n' c' : Nat), (binOp .eql 27 (.slice a n c) (.slice none n' c')).run Try.prog w = .ok (.bool a.isNone) w := fun w a n c n' c' => Lib.run_eql_slice_nil w _ _ a n c n' c' Try.underlying27
  have hs : schB [] = false := rfl
  have hI : ∀ w, Ixs w none [] := fun _ h => absurd h (by simp)
  have HN := fun w => C.new_no none 0 [] w (by simp) (hI w) (fun _ => ⟨rfl, rfl⟩) hs
  have HN' : Hid _ := HN
  have HS : Hid (∀ w, Calls Try.prog 33 #[.slice none 0 0] w fun e w' => e = .returned (.bool false) ∧ w' = w) := fun w => rSchema_any none 0 [] w (by simp) (hI w)
  clear HN
  go_enter Try.func16, Try.ntmps16
  go_wp2_with fail
  refine (numbers_any none 0 [] w (by simp) (hI w)).mono ?_
  rintro e w1 ⟨rfl, hr1, hE1⟩
  go_wp2_with fail
  refine (HN'.out w1).mono ?_
  rintro e w2 ⟨rfl, hE2⟩
  go_wp2_with fail
  refine Calls.mono (HS.out w2) ?_
  rintro e w3 ⟨rfl, rfl⟩
  go_wp2_with fail
  refine (wholeNumbers_any w.heap.size none 0 [] w3 (by simp) (hr1.ext hE2) (hI _)).mono ?_
  rintro e w4 ⟨rfl, hk4⟩
  have hE4 : Ext w w4 := (hE1.trans hE2).kpFresh hk4 (Nat.le_refl _)
  go_wp2_with fail
  refine (num_any _ _).mono ?_
  rintro e w5 ⟨rfl, rfl⟩
  go_wp2
  go_ret
  exact ⟨rfl, hE4⟩

set_option maxHeartbeats 800000 in
set_option maxRecDepth 100000 in
theorem made_no {E : World → Nat → (Nat → Prop) → List Int → List (Int × List Cd) → Prop} (C : EngC E) (wb : Nat) (a : Addr) (cap : Nat) (xs : List Int) (w : World) (hl : xs.length * 8 ≤ 140737488351232) (hx : Ixs w (some a) xs) (hs : schB xs = false) :
    Calls Try.prog 16 #[.pointer (some ⟨wb, 0, none⟩), .slice (some a) xs.length cap] w fun e w' => e = .returned (.bool true) ∧ Ext w w' := by
  have qT : ∀ (w : World) (a : Option Addr) (n c n' c' : Nat), (binOp .eql 27 (.slice a n c) (.slice none n' c')).run Try.prog w = .ok (.bool a.isNone) w := fun w a n c n' c' => Lib.run_eql_slice_nil w _ _ a n c n' c' Try.underlying27
  have HS : Hid (∀ w, Ixs w (some a) xs → Calls Try.prog 33 #[.slice (some a) xs.length cap] w fun e w' => e = .returned (.bool false) ∧ w' = w) := fun w h => by
    have := rSchema_any (some a) cap xs w hl h
    rw [hs] at this; exact this
  have hsH : Hid (schB xs = false) := hs
  clear hs
  go_enter Try.func16, Try.ntmps16
  go_wp2_with fail
  refine (numbers_any _ cap xs w hl hx).mono ?_
  rintro e w1 ⟨rfl, hr1, hE1⟩
  go_wp2_with fail
  refine (C.new_no (some ⟨w.heap.size, 0, none⟩) (xs.length + 3) xs w1 hl (pad_ints hr1) (fun h => by cases h) hsH.out).mono ?_
  rintro e w2 ⟨rfl, hE2⟩
  go_wp2_with fail
  refine (HS.out w2 ((hx.ext hE1).ext hE2)).mono ?_
  rintro e w3 ⟨rfl, rfl⟩
  go_wp2_with fail
  refine (wholeNumbers_any w.heap.size _ cap xs w3 hl (hr1.ext hE2) ((hx.ext hE1).ext hE2)).mono ?_
  rintro e w4 ⟨rfl, hk4⟩
  have hE4 : Ext w w4 := (hE1.trans hE2).kpFresh hk4 (Nat.le_refl _)
  go_wp2_with fail
  refine (num_any _ _).mono ?_
  rintro e w5 ⟨rfl, rfl⟩
  go_wp2
  go_ret
  exact ⟨rfl, hE4⟩
end Go.Proofs.Ytepioeaomlmocaa
