import Derived.Test.YtepioeaomlmocaaRows
import Derived.Test.YtepioeaomlmocaaSpec
import Derived.WalkKit
import Derived.WalkSpells
import Derived.WalkLawsBesides
namespace Go.Proofs.Ytepioeaomlmocaa
open Go.RowKit

theorem ret_bool {a b : Bool} (h : a = b) : Ending.returned (.bool a) = .returned (.bool b) := by rw [h]
theorem ret_int {k : IntKind} {a b : Int} (h : a = b) : Ending.returned (.int k a) = .returned (.int k b) := by rw [h]

set_option maxHeartbeats 400000 in
theorem num_any (n : Int) (w : World) :
    Calls Try.prog 35 #[.int .i64 n] w fun e w' => e = .returned (.int .i64 n) ∧ w' = w := by
  go_enter Try.func35, Try.ntmps35
  go_wp2
  go_ret
  exact ⟨rfl, rfl⟩

set_option maxHeartbeats 400000 in
theorem fits_any (k n : Int) (s : ByteArray) (w : World) :
    Calls Try.prog 83 #[.int .i64 k, .agg #[.int .i64 n, .string s]] w fun e w' => e = .returned (.bool (fitsB k ⟨n, s⟩)) ∧ Ext w w' := by
  by_cases hk : k = 1
  · subst hk
    go_enter Try.func83, Try.ntmps83
    go_wp2
    go_ret
    exact ⟨ret_bool (by simp [fitsB]), (Ext.refl _).alloc _⟩
  · have hk' : (k == 1) = false := by simpa using hk
    go_enter Try.func83, Try.ntmps83
    go_wp2
    · go_ret
      exact ⟨ret_bool (by simp [fitsB, *]), (Ext.refl _).alloc _⟩
    · go_ret
      exact ⟨ret_bool (by simp [fitsB, *]), (Ext.refl _).alloc _⟩

set_option maxHeartbeats 400000 in
theorem rfits_any (k n : Int) (s : ByteArray) (w : World) :
    Calls Try.prog 81 #[.int .i64 k, .agg #[.int .i64 n, .string s]] w fun e w' => e = .returned (.bool (fitsB k ⟨n, s⟩)) ∧ Ext w w' := by
  by_cases hk : k = 1
  · subst hk
    go_enter Try.func81, Try.ntmps81
    go_wp2
    go_ret
    exact ⟨ret_bool (by simp [fitsB]), (Ext.refl _).alloc _⟩
  · have hk' : (k == 1) = false := by simpa using hk
    go_enter Try.func81, Try.ntmps81
    go_wp2
    · go_ret
      exact ⟨ret_bool (by simp [fitsB, *]), (Ext.refl _).alloc _⟩
    · go_ret
      exact ⟨ret_bool (by simp [fitsB, *]), (Ext.refl _).alloc _⟩

set_option maxHeartbeats 400000 in
theorem none_any (n : Int) (s : ByteArray) (w : World) :
    Calls Try.prog 82 #[.agg #[.int .i64 n, .string s]] w fun e w' => e = .returned (.bool (noneB ⟨n, s⟩)) ∧ Ext w w' := by
  go_enter Try.func82, Try.ntmps82
  go_wp2
  · go_ret
    exact ⟨ret_bool (by simp [noneB, *]), (Ext.refl _).alloc _⟩
  · go_ret
    exact ⟨ret_bool (by simp [noneB, *]), (Ext.refl _).alloc _⟩

set_option maxHeartbeats 400000 in
theorem hasAttr_any (ao : Option Addr) (n cap : Nat) (a : Int) (w : World) (_hn : n ≤ 100) :
    Calls Try.prog 76 #[.slice ao n cap, .int .i64 a] w fun e w' => e = .returned (.bool (inR a n)) ∧ w' = w := by
  go_enter Try.func76, Try.ntmps76
  go_wp2
  · go_ret
    exact ⟨ret_bool (by simp only [inR, decide_eq_decide]; omega), rfl⟩
  · go_ret
    exact ⟨ret_bool (by symm; simp only [inR, decide_eq_false_iff_not]; omega), rfl⟩

theorem hasAttr_yes (ao : Option Addr) (n cap : Nat) (a : Int) (w : World) (hn : n ≤ 100) (h0 : 0 ≤ a) (h1 : a < n) :
    Calls Try.prog 76 #[.slice ao n cap, .int .i64 a] w fun e w' => e = .returned (.bool true) ∧ w' = w :=
  (hasAttr_any ao n cap a w hn).mono fun e w' ⟨he, hw⟩ => ⟨he.trans (ret_bool (by simp [inR, h0, h1])), hw⟩
theorem hasAttr_no (ao : Option Addr) (n cap : Nat) (a : Int) (w : World) (hn : n ≤ 100) (h : ¬ (0 ≤ a ∧ a < n)) :
    Calls Try.prog 76 #[.slice ao n cap, .int .i64 a] w fun e w' => e = .returned (.bool false) ∧ w' = w :=
  (hasAttr_any ao n cap a w hn).mono fun e w' ⟨he, hw⟩ => ⟨he.trans (ret_bool (by simp only [inR, decide_eq_false_iff_not]; exact h)), hw⟩

set_option maxHeartbeats 400000 in
theorem first_any (k : Int) (c : Cd) (w : World) :
    Calls Try.prog 77 #[.int .i64 k, .agg #[.int .i64 c.attr, .int .i64 c.kind, .int .i64 c.a.n, .string c.a.s, .int .i64 c.b.n, .string c.b.s]] w fun e w' => e = .returned (.bool (firstB k c)) ∧ Ext w w' := by
  by_cases hk : c.kind = 9
  · have hk' : (c.kind == 9) = true := by simpa using hk
    go_enter Try.func77, Try.ntmps77
    go_wp2_with fail
    all_goals
      go_ret
      exact ⟨ret_bool (by simp [firstB, noneB, *]), (Ext.refl _).alloc _⟩
  · have hk' : (c.kind == 9) = false := by simpa using hk
    go_enter Try.func77, Try.ntmps77
    go_wp2_with fail
    refine (fits_any _ _ _ _).mono ?_
    rintro e w1 ⟨rfl, hb⟩
    go_wp2_with fail
    go_ret
    exact ⟨ret_bool (by simp [firstB, *]), ((Ext.refl _).alloc _).trans hb⟩

set_option maxHeartbeats 400000 in
theorem second_any (k : Int) (c : Cd) (w : World) :
    Calls Try.prog 78 #[.int .i64 k, .agg #[.int .i64 c.attr, .int .i64 c.kind, .int .i64 c.a.n, .string c.a.s, .int .i64 c.b.n, .string c.b.s]] w fun e w' => e = .returned (.bool (secondB k c)) ∧ Ext w w' := by
  by_cases hk : c.kind = 7
  · have hk' : (c.kind == 7) = true := by simpa using hk
    go_enter Try.func78, Try.ntmps78
    go_wp2_with fail
    refine (fits_any _ _ _ _).mono ?_
    rintro e w1 ⟨rfl, hb⟩
    go_wp2_with fail
    go_ret
    exact ⟨ret_bool (by simp [secondB, *]), ((Ext.refl _).alloc _).trans hb⟩
  · have hk' : (c.kind == 7) = false := by simpa using hk
    go_enter Try.func78, Try.ntmps78
    go_wp2_with fail
    all_goals
      go_ret
      exact ⟨ret_bool (by simp [secondB, noneB, *]), (Ext.refl _).alloc _⟩

theorem first_is (k : Int) (c : Cd) (w : World) (r : Bool) (hr : firstB k c = r) :
    Calls Try.prog 77 #[.int .i64 k, .agg #[.int .i64 c.attr, .int .i64 c.kind, .int .i64 c.a.n, .string c.a.s, .int .i64 c.b.n, .string c.b.s]] w fun e w' => e = .returned (.bool r) ∧ Ext w w' := by
  subst hr; exact first_any k c w

/-- The numbers of a list lie there. -/
def Ints (w : World) (b o : Nat) (xs : List Int) : Prop := ∀ j, j < xs.length → w.cell? ⟨b, o + j, none⟩ = some (.int .i64 (xs.getD j 0))
theorem Ints.ext {w w' : World} {b o : Nat} {xs : List Int} (h : Ints w b o xs) (e : Ext w w') : Ints w' b o xs := fun j hj => e.cell (h j hj)

set_option maxHeartbeats 400000 in
theorem condMayBe_any (b o cap : Nat) (sch : List Int) (c : Cd) (w : World) (hn : sch.length ≤ 6) (hs : Ints w b o sch) :
    Calls Try.prog 55 #[.slice (some ⟨b, o, none⟩) sch.length cap, .agg #[.int .i64 c.attr, .int .i64 c.kind, .int .i64 c.a.n, .string c.a.s, .int .i64 c.b.n, .string c.b.s]] w fun e w' => e = .returned (.bool (mayB sch c)) ∧ Ext w w' := by
  by_cases ha : 0 ≤ c.attr ∧ c.attr < sch.length
  · obtain ⟨ha0, ha1⟩ := ha
    obtain ⟨k, hk⟩ := Int.eq_ofNat_of_zero_le ha0
    obtain ⟨attr, kind, ca, cb⟩ := c
    simp only at hk ha0 ha1
    subst hk
    have hc := hs k (by omega)
    have hca : ∀ ob, (w.alloc ob).cell? ⟨b, o + k, none⟩ = some (.int .i64 (sch.getD k 0)) := fun ob => ((Ext.refl w).alloc ob).cell hc
    generalize hT : sch.getD k 0 = T at hca
    have HT : Hid (sch.getD k 0 = T) := hT
    clear hT hc hs
    have hsl : k < sch.length := by omega
    by_cases hkd : 1 ≤ kind ∧ kind ≤ 9
    · obtain ⟨hk1, hk9⟩ := hkd
      by_cases hbt : kind = 8 ∧ ¬ T = 2
      · obtain ⟨rfl, hT2⟩ := hbt
        have hT2' : (T != 2) = true := by simpa using hT2
        go_enter Try.func55, Try.ntmps55
        go_wp2_with fail
        refine (hasAttr_yes _ _ _ _ _ (by omega) (by omega) (by omega)).mono ?_
        rintro e w1 ⟨rfl, rfl⟩
        go_wp2_with fail
        go_ret
        exact ⟨ret_bool (by symm; simp [mayB, mayK]; intro _ h; exact absurd (HT.out.symm.trans (by simpa using h)) hT2), (Ext.refl _).alloc _⟩
      · have hk8 : ((kind == 8) && !(T == 2)) = false := by
          rcases Classical.em (kind = 8) with h | h
          · have : T = 2 := Classical.byContradiction fun h' => hbt ⟨h, h'⟩
            simp [h, this]
          · simp [h]
        have hmay : Hid (mayB sch ⟨k, kind, ca, cb⟩ = (firstB T ⟨k, kind, ca, cb⟩ && secondB T ⟨k, kind, ca, cb⟩)) := by
          have h1 : ((k : Int) < sch.length) := ha1
          show mayB sch ⟨k, kind, ca, cb⟩ = _
          simp only [mayB, mayK, Int.toNat_natCast, HT.out, hk8]
          simp [h1, hk1, hk9]
        clear hk8
        by_cases h8 : kind = 8
        · subst h8
          have hT2 : (T != 2) = false := by
            have : T = 2 := Classical.byContradiction fun h' => hbt ⟨rfl, h'⟩
            simp [this]
          clear hbt
          go_enter Try.func55, Try.ntmps55
          go_wp2_with fail
          refine (hasAttr_yes _ _ _ _ _ (by omega) (by omega) (by omega)).mono ?_
          rintro e w1 ⟨rfl, rfl⟩
          go_wp2_with fail
          cases hr : firstB T ⟨k, 8, ca, cb⟩
          · refine (first_is T ⟨k, 8, ca, cb⟩ _ _ hr).mono ?_
            rintro e w1 ⟨rfl, hb⟩
            go_wp2_with fail
            go_ret
            exact ⟨ret_bool (by rw [hmay.out, hr]; rfl), ((Ext.refl _).alloc _).trans hb⟩
          · refine (first_is T ⟨k, 8, ca, cb⟩ _ _ hr).mono ?_
            rintro e w1 ⟨rfl, hb⟩
            have hcell : ∀ j, w1.cell? ⟨w.heap.size, j, none⟩ = (w.alloc (.cells #[Value.int IntKind.i64 k, Value.int IntKind.i64 8, Value.int IntKind.i64 ca.n, Value.string ca.s, Value.int IntKind.i64 cb.n, Value.string cb.s] 68)).cell? ⟨w.heap.size, j, none⟩ := fun j => Below.cell hb (by simp)
            go_wp2_with fail
            refine (second_any T ⟨k, 8, ca, cb⟩ _).mono ?_
            rintro e w2 ⟨rfl, hb2⟩
            go_wp2_with fail
            go_ret
            exact ⟨ret_bool (by rw [hmay.out, hr]; rfl), (((Ext.refl _).alloc _).trans hb).trans hb2⟩
        · clear hbt
          go_enter Try.func55, Try.ntmps55
          go_wp2_with fail
          refine (hasAttr_yes _ _ _ _ _ (by omega) (by omega) (by omega)).mono ?_
          rintro e w1 ⟨rfl, rfl⟩
          go_wp2_with fail
          cases hr : firstB T ⟨k, kind, ca, cb⟩
          · refine (first_is T ⟨k, kind, ca, cb⟩ _ _ hr).mono ?_
            rintro e w1 ⟨rfl, hb⟩
            go_wp2_with fail
            go_ret
            exact ⟨ret_bool (by rw [hmay.out, hr]; rfl), ((Ext.refl _).alloc _).trans hb⟩
          · refine (first_is T ⟨k, kind, ca, cb⟩ _ _ hr).mono ?_
            rintro e w1 ⟨rfl, hb⟩
            have hcell : ∀ j, w1.cell? ⟨w.heap.size, j, none⟩ = (w.alloc (.cells #[Value.int IntKind.i64 k, Value.int IntKind.i64 kind, Value.int IntKind.i64 ca.n, Value.string ca.s, Value.int IntKind.i64 cb.n, Value.string cb.s] 68)).cell? ⟨w.heap.size, j, none⟩ := fun j => Below.cell hb (by simp)
            go_wp2_with fail
            refine (second_any T ⟨k, kind, ca, cb⟩ _).mono ?_
            rintro e w2 ⟨rfl, hb2⟩
            go_wp2_with fail
            go_ret
            exact ⟨ret_bool (by rw [hmay.out, hr]; rfl), (((Ext.refl _).alloc _).trans hb).trans hb2⟩
    · go_enter Try.func55, Try.ntmps55
      go_wp2_with fail
      refine (hasAttr_yes _ _ _ _ _ (by omega) (by omega) (by omega)).mono ?_
      rintro e w1 ⟨rfl, rfl⟩
      go_wp2_with fail
      all_goals first
        | omega
        | (go_ret
           exact ⟨ret_bool (by symm; simp only [mayB, Bool.and_eq_false_iff, decide_eq_false_iff_not]; omega), (Ext.refl _).alloc _⟩)
  · go_enter Try.func55, Try.ntmps55
    go_wp2_with fail
    refine (hasAttr_no _ _ _ _ _ (by omega) ha).mono ?_
    rintro e w1 ⟨rfl, rfl⟩
    go_wp2_with fail
    go_ret
    exact ⟨ret_bool (by
      symm; simp only [mayB, Bool.and_eq_false_iff, decide_eq_false_iff_not]; omega), ((Ext.refl _).alloc _)⟩

theorem condMayBe_is (b o cap : Nat) (sch : List Int) (c : Cd) (w : World) (hn : sch.length ≤ 6) (hs : Ints w b o sch) (r : Bool) (hr : mayB sch c = r) :
    Calls Try.prog 55 #[.slice (some ⟨b, o, none⟩) sch.length cap, .agg #[.int .i64 c.attr, .int .i64 c.kind, .int .i64 c.a.n, .string c.a.s, .int .i64 c.b.n, .string c.b.s]] w fun e w' => e = .returned (.bool r) ∧ Ext w w' := by
  subst hr; exact condMayBe_any b o cap sch c w hn hs

end Go.Proofs.Ytepioeaomlmocaa
