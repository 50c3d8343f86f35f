import Derived.Laws.Strings
import Derived.Laws.Cover1
import Derived.BigQuiet
import Derived.Test.YtpbblaeamddbgaaGreatKB
import Derived.Test.YtpbblaeamddbgaaGreatGD
import Derived.Test.YtpbblaeamddbgaaGreatGG
namespace Go.Proofs.YtpbblaeamddbgaaGreat
open Go.RowKit

theorem less_cmp : ∀ x y : List UInt8, Op.bytesLess x y = decide (Lib.compareBytes x y < 0)
  | [], [] => rfl
  | [], _ :: _ => rfl
  | _ :: _, [] => rfl
  | a :: x, b :: y => by
    simp only [Op.bytesLess, Lib.compareBytes]
    rw [less_cmp x y]
    by_cases h1 : a < b
    · simp [h1]
    · by_cases h2 : b < a
      · have hne : ¬ a = b := fun e => by rw [e] at h2; exact absurd h2 (UInt8.lt_irrefl _)
        simp [h1, h2, hne]
      · have he : a = b := UInt8.le_antisymm (UInt8.not_lt.1 h2) (UInt8.not_lt.1 h1)
        simp [he, UInt8.lt_irrefl]
theorem eq_cmp : ∀ x y : List UInt8, (x == y) = decide (Lib.compareBytes x y = 0)
  | [], [] => rfl
  | [], _ :: _ => rfl
  | _ :: _, [] => rfl
  | a :: x, b :: y => by
    have ih := eq_cmp x y
    simp only [Lib.compareBytes]
    by_cases h1 : a < b
    · have hne : ¬ a = b := fun e => by rw [e] at h1; exact absurd h1 (UInt8.lt_irrefl _)
      simp [h1, hne]
    · by_cases h2 : b < a
      · have hne : ¬ a = b := fun e => by rw [e] at h2; exact absurd h2 (UInt8.lt_irrefl _)
        simp [h1, h2, hne]
      · have he : a = b := UInt8.le_antisymm (UInt8.not_lt.1 h2) (UInt8.not_lt.1 h1)
        subst he
        simp [UInt8.lt_irrefl]
        simpa using ih
/-- Values of one attribute: both numbers, or both words. -/
def OneKind (v a : Vl) : Prop := (v.s.data.toList = [] ∧ a.s.data.toList = []) ∨ (v.n = 0 ∧ a.n = 0)
def lessK (v a : Vl) : Bool := decide (v.n < a.n) || Op.bytesLess v.s.toList a.s.toList
def moreK (v a : Vl) : Bool := decide (a.n < v.n) || !(Op.bytesLess v.s.toList a.s.toList || v.s.toList == a.s.toList)
theorem less_is {v a : Vl} (h : OneKind v a) : lessK v a = decide (cmpV v a < 0) := by
  unfold lessK cmpV cmpI orI
  rw [ByteArray.toList_eq, ByteArray.toList_eq, less_cmp]
  rcases h with ⟨h1, h2⟩ | ⟨h1, h2⟩
  · rw [h1, h2]
    by_cases hx : v.n < a.n
    · simp [hx]
    · by_cases hy : a.n < v.n
      · simp [hx, hy, Lib.compareBytes]
      · simp [hx, hy]
  · simp [h1, h2]
theorem more_is {v a : Vl} (h : OneKind v a) : moreK v a = decide (0 < cmpV v a) := by
  unfold moreK cmpV cmpI orI
  rw [ByteArray.toList_eq, ByteArray.toList_eq, less_cmp, eq_cmp]
  rcases h with ⟨h1, h2⟩ | ⟨h1, h2⟩
  · rw [h1, h2]
    by_cases hx : v.n < a.n
    · have : ¬ a.n < v.n := by omega
      simp [hx, this, Lib.compareBytes]
    · by_cases hy : a.n < v.n
      · simp [hx, hy]
      · simp [hx, hy, Lib.compareBytes]
  · simp only [h1, h2]
    generalize Lib.compareBytes v.s.data.toList a.s.data.toList = c
    simp
    rcases Int.lt_trichotomy c 0 with h | h | h
    · have h2 : ¬ 0 < c := by omega
      simp [h, h2]
    · simp [h]
    · have h2 : ¬ c < 0 := by omega
      have h3 : ¬ c = 0 := by omega
      simp [h, h2, h3]
end Go.Proofs.YtpbblaeamddbgaaGreat
namespace Go.Proofs.YtpbblaeamddbgaaGreat
open Go.RowKit

theorem eqV_run (x y : Vl) (w : World) : Sem.run Tryz.prog (binOp .eql 69 (.agg #[.int .i64 x.n, .string x.s]) (.agg #[.int .i64 y.n, .string y.s])) w = .ok (.bool (x.n == y.n && x.s.toList == y.s.toList)) w := by
  show (binOp .eql 69 _ _).run Tryz.prog w = _
  rw [run_eql_struct, show (10000 : Nat) = 9998 + 2 from rfl, eqVl_run]
  rfl
theorem neV_run (x y : Vl) (w : World) : Sem.run Tryz.prog (binOp .neq 69 (.agg #[.int .i64 x.n, .string x.s]) (.agg #[.int .i64 y.n, .string y.s])) w = .ok (.bool (!(x.n == y.n && x.s.toList == y.s.toList))) w := by
  show (binOp .neq 69 _ _).run Tryz.prog w = _
  rw [run_neq_struct, show (10000 : Nat) = 9998 + 2 from rfl, eqVl_run]
  rfl
def eqK (v a : Vl) : Bool := v.n == a.n && v.s.toList == a.s.toList

set_option maxHeartbeats 1600000 in
theorem kmet_1 (t : Int) (a b v : Vl) (w : World) :
    Calls Tryz.prog 39 #[.agg #[.int .i64 t, .int .i64 1, .int .i64 a.n, .string a.s, .int .i64 b.n, .string b.s], .agg #[.int .i64 v.n, .string v.s]] w fun e w' => e = .returned (.bool (eqK v a)) ∧ Ext w w' := by
  generalize hbr : (eqK v a) = br
  have HBR : Hid ((eqK v a) = br) := hbr
  clear hbr
  rcases Int.lt_trichotomy v.n a.n with h1 | h1 | h1
  · have h2 : ¬ a.n < v.n := by omega
    have H1 : Hid (decide (v.n < a.n) = true) := by (show _ = _); simp [h1]
    have H2 : Hid (decide (a.n < v.n) = false) := by (show _ = _); simp [h2]
    have heq : ∀ W, Sem.run Tryz.prog (binOp .eql 69 (.agg #[.int .i64 v.n, .string v.s]) (.agg #[.int .i64 a.n, .string a.s])) W = .ok (.bool br) W := fun W => by rw [← HBR.out]; exact eqV_run v a W
    go_enter Tryz.func39, Tryz.ntmps39
    go_wp2_with fail
    go_ret
    exact ⟨ret_bool (by rfl), ((Ext.refl _).alloc _).alloc _⟩
  · have h2 : ¬ a.n < v.n := by omega
    have h3 : ¬ v.n < a.n := by omega
    have H1 : Hid (decide (v.n < a.n) = false) := by (show _ = _); simp [h1]
    have H2 : Hid (decide (a.n < v.n) = false) := by (show _ = _); simp [h1]
    clear h1
    have heq : ∀ W, Sem.run Tryz.prog (binOp .eql 69 (.agg #[.int .i64 v.n, .string v.s]) (.agg #[.int .i64 a.n, .string a.s])) W = .ok (.bool br) W := fun W => by rw [← HBR.out]; exact eqV_run v a W
    go_enter Tryz.func39, Tryz.ntmps39
    go_wp2_with fail
    go_ret
    exact ⟨ret_bool (by rfl), ((Ext.refl _).alloc _).alloc _⟩
  · have h2 : ¬ v.n < a.n := by omega
    have H1 : Hid (decide (v.n < a.n) = false) := by (show _ = _); simp [h2]
    have H2 : Hid (decide (a.n < v.n) = true) := by (show _ = _); simp [h1]
    have heq : ∀ W, Sem.run Tryz.prog (binOp .eql 69 (.agg #[.int .i64 v.n, .string v.s]) (.agg #[.int .i64 a.n, .string a.s])) W = .ok (.bool br) W := fun W => by rw [← HBR.out]; exact eqV_run v a W
    go_enter Tryz.func39, Tryz.ntmps39
    go_wp2_with fail
    go_ret
    exact ⟨ret_bool (by rfl), ((Ext.refl _).alloc _).alloc _⟩

set_option maxHeartbeats 1600000 in
theorem kmet_2 (t : Int) (a b v : Vl) (w : World) :
    Calls Tryz.prog 39 #[.agg #[.int .i64 t, .int .i64 2, .int .i64 a.n, .string a.s, .int .i64 b.n, .string b.s], .agg #[.int .i64 v.n, .string v.s]] w fun e w' => e = .returned (.bool (!eqK v a)) ∧ Ext w w' := by
  generalize hbr : (!eqK v a) = br
  have HBR : Hid ((!eqK v a) = br) := hbr
  clear hbr
  rcases Int.lt_trichotomy v.n a.n with h1 | h1 | h1
  · have h2 : ¬ a.n < v.n := by omega
    have H1 : Hid (decide (v.n < a.n) = true) := by (show _ = _); simp [h1]
    have H2 : Hid (decide (a.n < v.n) = false) := by (show _ = _); simp [h2]
    have heq : ∀ W, Sem.run Tryz.prog (binOp .neq 69 (.agg #[.int .i64 v.n, .string v.s]) (.agg #[.int .i64 a.n, .string a.s])) W = .ok (.bool br) W := fun W => by rw [← HBR.out]; exact neV_run v a W
    go_enter Tryz.func39, Tryz.ntmps39
    go_wp2_with fail
    go_ret
    exact ⟨ret_bool (by rfl), ((Ext.refl _).alloc _).alloc _⟩
  · have h2 : ¬ a.n < v.n := by omega
    have h3 : ¬ v.n < a.n := by omega
    have H1 : Hid (decide (v.n < a.n) = false) := by (show _ = _); simp [h1]
    have H2 : Hid (decide (a.n < v.n) = false) := by (show _ = _); simp [h1]
    clear h1
    have heq : ∀ W, Sem.run Tryz.prog (binOp .neq 69 (.agg #[.int .i64 v.n, .string v.s]) (.agg #[.int .i64 a.n, .string a.s])) W = .ok (.bool br) W := fun W => by rw [← HBR.out]; exact neV_run v a W
    go_enter Tryz.func39, Tryz.ntmps39
    go_wp2_with fail
    go_ret
    exact ⟨ret_bool (by rfl), ((Ext.refl _).alloc _).alloc _⟩
  · have h2 : ¬ v.n < a.n := by omega
    have H1 : Hid (decide (v.n < a.n) = false) := by (show _ = _); simp [h2]
    have H2 : Hid (decide (a.n < v.n) = true) := by (show _ = _); simp [h1]
    have heq : ∀ W, Sem.run Tryz.prog (binOp .neq 69 (.agg #[.int .i64 v.n, .string v.s]) (.agg #[.int .i64 a.n, .string a.s])) W = .ok (.bool br) W := fun W => by rw [← HBR.out]; exact neV_run v a W
    go_enter Tryz.func39, Tryz.ntmps39
    go_wp2_with fail
    go_ret
    exact ⟨ret_bool (by rfl), ((Ext.refl _).alloc _).alloc _⟩

set_option maxHeartbeats 1600000 in
theorem kmet_3 (t : Int) (a b v : Vl) (w : World) :
    Calls Tryz.prog 39 #[.agg #[.int .i64 t, .int .i64 3, .int .i64 a.n, .string a.s, .int .i64 b.n, .string b.s], .agg #[.int .i64 v.n, .string v.s]] w fun e w' => e = .returned (.bool (lessK v a)) ∧ Ext w w' := by
  generalize hbr : (lessK v a) = br
  have HBR : Hid ((lessK v a) = br) := hbr
  clear hbr
  rcases Int.lt_trichotomy v.n a.n with h1 | h1 | h1
  · have h2 : ¬ a.n < v.n := by omega
    have H1 : Hid (decide (v.n < a.n) = true) := by (show _ = _); simp [h1]
    have H2 : Hid (decide (a.n < v.n) = false) := by (show _ = _); simp [h2]
    go_enter Tryz.func39, Tryz.ntmps39
    go_wp2_with fail
    go_ret
    exact ⟨ret_bool (by rw [← HBR.out]; simp [lessK, H1.out]), ((Ext.refl _).alloc _).alloc _⟩
  · have h2 : ¬ a.n < v.n := by omega
    have h3 : ¬ v.n < a.n := by omega
    have H1 : Hid (decide (v.n < a.n) = false) := by (show _ = _); simp [h1]
    have H2 : Hid (decide (a.n < v.n) = false) := by (show _ = _); simp [h1]
    clear h1
    go_enter Tryz.func39, Tryz.ntmps39
    go_wp2_with fail
    go_ret
    exact ⟨ret_bool (by rw [← HBR.out]; simp [lessK, H1.out]), ((Ext.refl _).alloc _).alloc _⟩
  · have h2 : ¬ v.n < a.n := by omega
    have H1 : Hid (decide (v.n < a.n) = false) := by (show _ = _); simp [h2]
    have H2 : Hid (decide (a.n < v.n) = true) := by (show _ = _); simp [h1]
    go_enter Tryz.func39, Tryz.ntmps39
    go_wp2_with fail
    go_ret
    exact ⟨ret_bool (by rw [← HBR.out]; simp [lessK, H1.out]), ((Ext.refl _).alloc _).alloc _⟩

set_option maxHeartbeats 1600000 in
theorem kmet_4 (t : Int) (a b v : Vl) (w : World) :
    Calls Tryz.prog 39 #[.agg #[.int .i64 t, .int .i64 4, .int .i64 a.n, .string a.s, .int .i64 b.n, .string b.s], .agg #[.int .i64 v.n, .string v.s]] w fun e w' => e = .returned (.bool (!moreK v a)) ∧ Ext w w' := by
  generalize hbr : (!moreK v a) = br
  have HBR : Hid ((!moreK v a) = br) := hbr
  clear hbr
  rcases Int.lt_trichotomy v.n a.n with h1 | h1 | h1
  · have h2 : ¬ a.n < v.n := by omega
    have H1 : Hid (decide (v.n < a.n) = true) := by (show _ = _); simp [h1]
    have H2 : Hid (decide (a.n < v.n) = false) := by (show _ = _); simp [h2]
    go_enter Tryz.func39, Tryz.ntmps39
    go_wp2_with fail
    go_ret
    exact ⟨ret_bool (by rw [← HBR.out]; simp [moreK, H2.out]), ((Ext.refl _).alloc _).alloc _⟩
  · have h2 : ¬ a.n < v.n := by omega
    have h3 : ¬ v.n < a.n := by omega
    have H1 : Hid (decide (v.n < a.n) = false) := by (show _ = _); simp [h1]
    have H2 : Hid (decide (a.n < v.n) = false) := by (show _ = _); simp [h1]
    clear h1
    go_enter Tryz.func39, Tryz.ntmps39
    go_wp2_with fail
    go_ret
    exact ⟨ret_bool (by rw [← HBR.out]; simp [moreK, H2.out]), ((Ext.refl _).alloc _).alloc _⟩
  · have h2 : ¬ v.n < a.n := by omega
    have H1 : Hid (decide (v.n < a.n) = false) := by (show _ = _); simp [h2]
    have H2 : Hid (decide (a.n < v.n) = true) := by (show _ = _); simp [h1]
    go_enter Tryz.func39, Tryz.ntmps39
    go_wp2_with fail
    go_ret
    exact ⟨ret_bool (by rw [← HBR.out]; simp [moreK, H2.out]), ((Ext.refl _).alloc _).alloc _⟩

set_option maxHeartbeats 1600000 in
theorem kmet_5 (t : Int) (a b v : Vl) (w : World) :
    Calls Tryz.prog 39 #[.agg #[.int .i64 t, .int .i64 5, .int .i64 a.n, .string a.s, .int .i64 b.n, .string b.s], .agg #[.int .i64 v.n, .string v.s]] w fun e w' => e = .returned (.bool (moreK v a)) ∧ Ext w w' := by
  generalize hbr : (moreK v a) = br
  have HBR : Hid ((moreK v a) = br) := hbr
  clear hbr
  rcases Int.lt_trichotomy v.n a.n with h1 | h1 | h1
  · have h2 : ¬ a.n < v.n := by omega
    have H1 : Hid (decide (v.n < a.n) = true) := by (show _ = _); simp [h1]
    have H2 : Hid (decide (a.n < v.n) = false) := by (show _ = _); simp [h2]
    go_enter Tryz.func39, Tryz.ntmps39
    go_wp2_with fail
    go_ret
    exact ⟨ret_bool (by rw [← HBR.out]; simp [moreK, H2.out]), ((Ext.refl _).alloc _).alloc _⟩
  · have h2 : ¬ a.n < v.n := by omega
    have h3 : ¬ v.n < a.n := by omega
    have H1 : Hid (decide (v.n < a.n) = false) := by (show _ = _); simp [h1]
    have H2 : Hid (decide (a.n < v.n) = false) := by (show _ = _); simp [h1]
    clear h1
    go_enter Tryz.func39, Tryz.ntmps39
    go_wp2_with fail
    go_ret
    exact ⟨ret_bool (by rw [← HBR.out]; simp [moreK, H2.out]), ((Ext.refl _).alloc _).alloc _⟩
  · have h2 : ¬ v.n < a.n := by omega
    have H1 : Hid (decide (v.n < a.n) = false) := by (show _ = _); simp [h2]
    have H2 : Hid (decide (a.n < v.n) = true) := by (show _ = _); simp [h1]
    go_enter Tryz.func39, Tryz.ntmps39
    go_wp2_with fail
    go_ret
    exact ⟨ret_bool (by rw [← HBR.out]; simp [moreK, H2.out]), ((Ext.refl _).alloc _).alloc _⟩

set_option maxHeartbeats 1600000 in
theorem kmet_6 (t : Int) (a b v : Vl) (w : World) :
    Calls Tryz.prog 39 #[.agg #[.int .i64 t, .int .i64 6, .int .i64 a.n, .string a.s, .int .i64 b.n, .string b.s], .agg #[.int .i64 v.n, .string v.s]] w fun e w' => e = .returned (.bool (!lessK v a)) ∧ Ext w w' := by
  generalize hbr : (!lessK v a) = br
  have HBR : Hid ((!lessK v a) = br) := hbr
  clear hbr
  rcases Int.lt_trichotomy v.n a.n with h1 | h1 | h1
  · have h2 : ¬ a.n < v.n := by omega
    have H1 : Hid (decide (v.n < a.n) = true) := by (show _ = _); simp [h1]
    have H2 : Hid (decide (a.n < v.n) = false) := by (show _ = _); simp [h2]
    go_enter Tryz.func39, Tryz.ntmps39
    go_wp2_with fail
    go_ret
    exact ⟨ret_bool (by rw [← HBR.out]; simp [lessK, H1.out]), ((Ext.refl _).alloc _).alloc _⟩
  · have h2 : ¬ a.n < v.n := by omega
    have h3 : ¬ v.n < a.n := by omega
    have H1 : Hid (decide (v.n < a.n) = false) := by (show _ = _); simp [h1]
    have H2 : Hid (decide (a.n < v.n) = false) := by (show _ = _); simp [h1]
    clear h1
    go_enter Tryz.func39, Tryz.ntmps39
    go_wp2_with fail
    go_ret
    exact ⟨ret_bool (by rw [← HBR.out]; simp [lessK, H1.out]), ((Ext.refl _).alloc _).alloc _⟩
  · have h2 : ¬ v.n < a.n := by omega
    have H1 : Hid (decide (v.n < a.n) = false) := by (show _ = _); simp [h2]
    have H2 : Hid (decide (a.n < v.n) = true) := by (show _ = _); simp [h1]
    go_enter Tryz.func39, Tryz.ntmps39
    go_wp2_with fail
    go_ret
    exact ⟨ret_bool (by rw [← HBR.out]; simp [lessK, H1.out]), ((Ext.refl _).alloc _).alloc _⟩

set_option maxHeartbeats 1600000 in
theorem kmet_7 (t : Int) (a b v : Vl) (w : World) :
    Calls Tryz.prog 39 #[.agg #[.int .i64 t, .int .i64 7, .int .i64 a.n, .string a.s, .int .i64 b.n, .string b.s], .agg #[.int .i64 v.n, .string v.s]] w fun e w' => e = .returned (.bool (!lessK v a && !moreK v b)) ∧ Ext w w' := by
  generalize hbr : (!lessK v a && !moreK v b) = br
  have HBR : Hid ((!lessK v a && !moreK v b) = br) := hbr
  clear hbr
  rcases Int.lt_trichotomy v.n a.n with h1 | h1 | h1
  · have h2 : ¬ a.n < v.n := by omega
    have H1 : Hid (decide (v.n < a.n) = true) := by (show _ = _); simp [h1]
    have H2 : Hid (decide (a.n < v.n) = false) := by (show _ = _); simp [h2]
    cases hq : Op.bytesLess v.s.toList a.s.toList
    · have HQ : Hid (Op.bytesLess v.s.toList a.s.toList = false) := hq
      by_cases h5 : v.n ≤ b.n
      · have H6 : Hid (decide (b.n < v.n) = false) := by (show _ = _); simp; omega
        go_enter Tryz.func39, Tryz.ntmps39
        go_wp2_with fail
        go_ret
        exact ⟨ret_bool (by rw [← HBR.out]; simp [lessK, moreK, H1.out, H6.out, HQ.out]), ((Ext.refl _).alloc _).alloc _⟩
      · have H6 : Hid (decide (b.n < v.n) = true) := by (show _ = _); simp; omega
        go_enter Tryz.func39, Tryz.ntmps39
        go_wp2_with fail
        go_ret
        exact ⟨ret_bool (by rw [← HBR.out]; simp [lessK, moreK, H1.out, H6.out, HQ.out]), ((Ext.refl _).alloc _).alloc _⟩
    · have HQ : Hid (Op.bytesLess v.s.toList a.s.toList = true) := hq
      by_cases h5 : v.n ≤ b.n
      · have H6 : Hid (decide (b.n < v.n) = false) := by (show _ = _); simp; omega
        go_enter Tryz.func39, Tryz.ntmps39
        go_wp2_with fail
        go_ret
        exact ⟨ret_bool (by rw [← HBR.out]; simp [lessK, moreK, H1.out, H6.out, HQ.out]), ((Ext.refl _).alloc _).alloc _⟩
      · have H6 : Hid (decide (b.n < v.n) = true) := by (show _ = _); simp; omega
        go_enter Tryz.func39, Tryz.ntmps39
        go_wp2_with fail
        go_ret
        exact ⟨ret_bool (by rw [← HBR.out]; simp [lessK, moreK, H1.out, H6.out, HQ.out]), ((Ext.refl _).alloc _).alloc _⟩
  · have h2 : ¬ a.n < v.n := by omega
    have h3 : ¬ v.n < a.n := by omega
    have H1 : Hid (decide (v.n < a.n) = false) := by (show _ = _); simp [h1]
    have H2 : Hid (decide (a.n < v.n) = false) := by (show _ = _); simp [h1]
    clear h1
    cases hq : Op.bytesLess v.s.toList a.s.toList
    · have HQ : Hid (Op.bytesLess v.s.toList a.s.toList = false) := hq
      by_cases h5 : v.n ≤ b.n
      · have H6 : Hid (decide (b.n < v.n) = false) := by (show _ = _); simp; omega
        go_enter Tryz.func39, Tryz.ntmps39
        go_wp2_with fail
        go_ret
        exact ⟨ret_bool (by rw [← HBR.out]; simp [lessK, moreK, H1.out, H6.out, HQ.out]), ((Ext.refl _).alloc _).alloc _⟩
      · have H6 : Hid (decide (b.n < v.n) = true) := by (show _ = _); simp; omega
        go_enter Tryz.func39, Tryz.ntmps39
        go_wp2_with fail
        go_ret
        exact ⟨ret_bool (by rw [← HBR.out]; simp [lessK, moreK, H1.out, H6.out, HQ.out]), ((Ext.refl _).alloc _).alloc _⟩
    · have HQ : Hid (Op.bytesLess v.s.toList a.s.toList = true) := hq
      by_cases h5 : v.n ≤ b.n
      · have H6 : Hid (decide (b.n < v.n) = false) := by (show _ = _); simp; omega
        go_enter Tryz.func39, Tryz.ntmps39
        go_wp2_with fail
        go_ret
        exact ⟨ret_bool (by rw [← HBR.out]; simp [lessK, moreK, H1.out, H6.out, HQ.out]), ((Ext.refl _).alloc _).alloc _⟩
      · have H6 : Hid (decide (b.n < v.n) = true) := by (show _ = _); simp; omega
        go_enter Tryz.func39, Tryz.ntmps39
        go_wp2_with fail
        go_ret
        exact ⟨ret_bool (by rw [← HBR.out]; simp [lessK, moreK, H1.out, H6.out, HQ.out]), ((Ext.refl _).alloc _).alloc _⟩
  · have h2 : ¬ v.n < a.n := by omega
    have H1 : Hid (decide (v.n < a.n) = false) := by (show _ = _); simp [h2]
    have H2 : Hid (decide (a.n < v.n) = true) := by (show _ = _); simp [h1]
    cases hq : Op.bytesLess v.s.toList a.s.toList
    · have HQ : Hid (Op.bytesLess v.s.toList a.s.toList = false) := hq
      by_cases h5 : v.n ≤ b.n
      · have H6 : Hid (decide (b.n < v.n) = false) := by (show _ = _); simp; omega
        go_enter Tryz.func39, Tryz.ntmps39
        go_wp2_with fail
        go_ret
        exact ⟨ret_bool (by rw [← HBR.out]; simp [lessK, moreK, H1.out, H6.out, HQ.out]), ((Ext.refl _).alloc _).alloc _⟩
      · have H6 : Hid (decide (b.n < v.n) = true) := by (show _ = _); simp; omega
        go_enter Tryz.func39, Tryz.ntmps39
        go_wp2_with fail
        go_ret
        exact ⟨ret_bool (by rw [← HBR.out]; simp [lessK, moreK, H1.out, H6.out, HQ.out]), ((Ext.refl _).alloc _).alloc _⟩
    · have HQ : Hid (Op.bytesLess v.s.toList a.s.toList = true) := hq
      by_cases h5 : v.n ≤ b.n
      · have H6 : Hid (decide (b.n < v.n) = false) := by (show _ = _); simp; omega
        go_enter Tryz.func39, Tryz.ntmps39
        go_wp2_with fail
        go_ret
        exact ⟨ret_bool (by rw [← HBR.out]; simp [lessK, moreK, H1.out, H6.out, HQ.out]), ((Ext.refl _).alloc _).alloc _⟩
      · have H6 : Hid (decide (b.n < v.n) = true) := by (show _ = _); simp; omega
        go_enter Tryz.func39, Tryz.ntmps39
        go_wp2_with fail
        go_ret
        exact ⟨ret_bool (by rw [← HBR.out]; simp [lessK, moreK, H1.out, H6.out, HQ.out]), ((Ext.refl _).alloc _).alloc _⟩

set_option maxHeartbeats 1600000 in
theorem kmet_8 (t : Int) (a b v : Vl) (w : World) (_ha : a.s.size ≤ 9223372036854775807) (_hv : v.s.size ≤ 9223372036854775807) :
    Calls Tryz.prog 39 #[.agg #[.int .i64 t, .int .i64 8, .int .i64 a.n, .string a.s, .int .i64 b.n, .string b.s], .agg #[.int .i64 v.n, .string v.s]] w fun e w' => e = .returned (.bool (Lib.hasPrefix v.s.data.toList a.s.data.toList)) ∧ Ext w w' := by
  generalize hbr : (Lib.hasPrefix v.s.data.toList a.s.data.toList) = br
  have HBR : Hid ((Lib.hasPrefix v.s.data.toList a.s.data.toList) = br) := hbr
  clear hbr
  rcases Int.lt_trichotomy v.n a.n with h1 | h1 | h1
  · have h2 : ¬ a.n < v.n := by omega
    have H1 : Hid (decide (v.n < a.n) = true) := by (show _ = _); simp [h1]
    have H2 : Hid (decide (a.n < v.n) = false) := by (show _ = _); simp [h2]
    by_cases h0 : (a.s.size : Int) ≤ v.s.size
    · go_enter Tryz.func39, Tryz.ntmps39
      go_wp2_with fail
      go_quiet (fail)
      go_wp2_with fail
      go_ret
      exact ⟨ret_bool (by rw [← HBR.out, pre_eq]), (((Ext.refl _).alloc _).alloc _).trans (drewN_ext _ _)⟩
    · have hd : decide (a.s.size ≤ v.s.size) = false := by rw [decide_eq_false_iff_not]; omega
      go_enter Tryz.func39, Tryz.ntmps39
      go_wp2_with fail
      go_quiet (fail)
      go_wp2_with fail
      go_ret
      exact ⟨ret_bool (by rw [← HBR.out, pre_no _ _ (by omega)]), (((Ext.refl _).alloc _).alloc _).trans (drewN_ext _ _)⟩
  · have h2 : ¬ a.n < v.n := by omega
    have h3 : ¬ v.n < a.n := by omega
    have H1 : Hid (decide (v.n < a.n) = false) := by (show _ = _); simp [h1]
    have H2 : Hid (decide (a.n < v.n) = false) := by (show _ = _); simp [h1]
    clear h1
    by_cases h0 : (a.s.size : Int) ≤ v.s.size
    · go_enter Tryz.func39, Tryz.ntmps39
      go_wp2_with fail
      go_quiet (fail)
      go_wp2_with fail
      go_ret
      exact ⟨ret_bool (by rw [← HBR.out, pre_eq]), (((Ext.refl _).alloc _).alloc _).trans (drewN_ext _ _)⟩
    · have hd : decide (a.s.size ≤ v.s.size) = false := by rw [decide_eq_false_iff_not]; omega
      go_enter Tryz.func39, Tryz.ntmps39
      go_wp2_with fail
      go_quiet (fail)
      go_wp2_with fail
      go_ret
      exact ⟨ret_bool (by rw [← HBR.out, pre_no _ _ (by omega)]), (((Ext.refl _).alloc _).alloc _).trans (drewN_ext _ _)⟩
  · have h2 : ¬ v.n < a.n := by omega
    have H1 : Hid (decide (v.n < a.n) = false) := by (show _ = _); simp [h2]
    have H2 : Hid (decide (a.n < v.n) = true) := by (show _ = _); simp [h1]
    by_cases h0 : (a.s.size : Int) ≤ v.s.size
    · go_enter Tryz.func39, Tryz.ntmps39
      go_wp2_with fail
      go_quiet (fail)
      go_wp2_with fail
      go_ret
      exact ⟨ret_bool (by rw [← HBR.out, pre_eq]), (((Ext.refl _).alloc _).alloc _).trans (drewN_ext _ _)⟩
    · have hd : decide (a.s.size ≤ v.s.size) = false := by rw [decide_eq_false_iff_not]; omega
      go_enter Tryz.func39, Tryz.ntmps39
      go_wp2_with fail
      go_quiet (fail)
      go_wp2_with fail
      go_ret
      exact ⟨ret_bool (by rw [← HBR.out, pre_no _ _ (by omega)]), (((Ext.refl _).alloc _).alloc _).trans (drewN_ext _ _)⟩

set_option maxHeartbeats 1600000 in
theorem kmet_9 (t : Int) (a b v : Vl) (w : World) :
    Calls Tryz.prog 39 #[.agg #[.int .i64 t, .int .i64 9, .int .i64 a.n, .string a.s, .int .i64 b.n, .string b.s], .agg #[.int .i64 v.n, .string v.s]] w fun e w' => e = .returned (.bool (true)) ∧ Ext w w' := by
  generalize hbr : (true) = br
  have HBR : Hid ((true) = br) := hbr
  clear hbr
  rcases Int.lt_trichotomy v.n a.n with h1 | h1 | h1
  · have h2 : ¬ a.n < v.n := by omega
    have H1 : Hid (decide (v.n < a.n) = true) := by (show _ = _); simp [h1]
    have H2 : Hid (decide (a.n < v.n) = false) := by (show _ = _); simp [h2]
    go_enter Tryz.func39, Tryz.ntmps39
    go_wp2_with fail
    go_ret
    exact ⟨ret_bool (by rw [← HBR.out]), ((Ext.refl _).alloc _).alloc _⟩
  · have h2 : ¬ a.n < v.n := by omega
    have h3 : ¬ v.n < a.n := by omega
    have H1 : Hid (decide (v.n < a.n) = false) := by (show _ = _); simp [h1]
    have H2 : Hid (decide (a.n < v.n) = false) := by (show _ = _); simp [h1]
    clear h1
    go_enter Tryz.func39, Tryz.ntmps39
    go_wp2_with fail
    go_ret
    exact ⟨ret_bool (by rw [← HBR.out]), ((Ext.refl _).alloc _).alloc _⟩
  · have h2 : ¬ v.n < a.n := by omega
    have H1 : Hid (decide (v.n < a.n) = false) := by (show _ = _); simp [h2]
    have H2 : Hid (decide (a.n < v.n) = true) := by (show _ = _); simp [h1]
    go_enter Tryz.func39, Tryz.ntmps39
    go_wp2_with fail
    go_ret
    exact ⟨ret_bool (by rw [← HBR.out]), ((Ext.refl _).alloc _).alloc _⟩

end Go.Proofs.YtpbblaeamddbgaaGreat
namespace Go.Proofs.YtpbblaeamddbgaaGreat
open Go.RowKit

theorem eq_is (v a : Vl) : eqK v a = (cmpV v a == 0) := by
  unfold eqK
  rw [ByteArray.toList_eq, ByteArray.toList_eq]
  by_cases h : v = a
  · subst h; simp [cmpV_ord.refl]
  · have h0 : cmpV v a ≠ 0 := fun e => h ((cmpV_ord.eq v a).1 e)
    have h1 : (cmpV v a == 0) = false := by simpa using h0
    rw [h1, Bool.eq_false_iff]
    intro h2
    rw [Bool.and_eq_true, beq_iff_eq, beq_iff_eq] at h2
    apply h
    cases v; cases a
    simp only [Vl.mk.injEq]
    exact ⟨h2.1, bs_inj _ _ h2.2⟩
theorem not_lt0 (c : Int) : (!decide (c < 0)) = decide (0 ≤ c) := by
  by_cases h : c < 0
  · have h2 : ¬ 0 ≤ c := by omega
    simp [h, h2]
  · have h2 : 0 ≤ c := by omega
    simp [h, h2]
theorem not_gt0 (c : Int) : (!decide (0 < c)) = decide (c ≤ 0) := by
  by_cases h : 0 < c
  · have h2 : ¬ c ≤ 0 := by omega
    simp [h, h2]
  · have h2 : c ≤ 0 := by omega
    simp [h, h2]
theorem kmet_any (c : Cd) (v : Vl) (w : World) (h1 : 1 ≤ c.kind) (h9 : c.kind ≤ 9) (hA : OneKind v c.a) (hB : OneKind v c.b) (ha : c.a.s.size ≤ 9223372036854775807) (hv : v.s.size ≤ 9223372036854775807) :
    Calls Tryz.prog 39 #[.agg #[.int .i64 c.attr, .int .i64 c.kind, .int .i64 c.a.n, .string c.a.s, .int .i64 c.b.n, .string c.b.s], .agg #[.int .i64 v.n, .string v.s]] w fun e w' => e = .returned (.bool (metB c v)) ∧ Ext w w' := by
  obtain ⟨t, k, a, b⟩ := c
  simp only at *
  rcases (show k = 1 ∨ k = 2 ∨ k = 3 ∨ k = 4 ∨ k = 5 ∨ k = 6 ∨ k = 7 ∨ k = 8 ∨ k = 9 by omega) with rfl | rfl | rfl | rfl | rfl | rfl | rfl | rfl | rfl
  · have h := kmet_1 t a b v w; rw [eq_is] at h; exact h
  · have h := kmet_2 t a b v w; rw [eq_is] at h; exact h
  · have h := kmet_3 t a b v w; rw [less_is hA] at h; exact h
  · have h := kmet_4 t a b v w; rw [more_is hA, not_gt0] at h; exact h
  · have h := kmet_5 t a b v w; rw [more_is hA] at h; exact h
  · have h := kmet_6 t a b v w; rw [less_is hA, not_lt0] at h; exact h
  · have h := kmet_7 t a b v w; rw [less_is hA, more_is hB, not_lt0, not_gt0] at h; exact h
  · exact kmet_8 t a b v w ha hv
  · exact kmet_9 t a b v w
theorem val_even {a : Nat} (h : a % 2 = 0) (n : Int) (s : ByteArray) : (valOf a n s).s.data.toList = [] := by simp [valOf, h]
theorem val_odd {a : Nat} (h : ¬ a % 2 = 0) (n : Int) (s : ByteArray) : (valOf a n s).n = 0 := by
  unfold valOf; rw [if_neg h]; split <;> rfl
theorem oneK (a : Nat) (n m : Int) (s t : ByteArray) : OneKind (valOf a n s) (valOf a m t) := by
  by_cases h : a % 2 = 0
  · exact .inl ⟨val_even h _ _, val_even h _ _⟩
  · exact .inr ⟨val_odd h _ _, val_odd h _ _⟩
theorem oneK_vz (a : Nat) (n : Int) (s : ByteArray) : OneKind (valOf a n s) vz := by
  by_cases h : a % 2 = 0
  · exact .inl ⟨val_even h _ _, rfl⟩
  · exact .inr ⟨val_odd h _ _, rfl⟩
theorem cond_one (x : Wt) (n : Int) (s : ByteArray) : OneKind (valOf (pickI x.attr 4) n s) (condOf x).a ∧ OneKind (valOf (pickI x.attr 4) n s) (condOf x).b := by
  unfold condOf
  constructor
  · show OneKind _ (if _ then _ else _)
    split
    · exact oneK_vz _ _ _
    · exact oneK _ _ _ _ _
  · show OneKind _ (if _ then _ else _)
    split
    · exact oneK _ _ _ _ _
    · exact oneK_vz _ _ _
theorem fo_fields (h : Hv) (a : Nat) : ∀ L : List Nat, fo (L.map (fieldOf h)) (a : Int) = if a ∈ L then some (valOf a (h.n a) (h.s a)) else none
  | [] => rfl
  | b :: L => by
    have ih := fo_fields h a L
    unfold fo at ih ⊢
    rw [List.map_cons, List.find?_cons]
    by_cases e : b = a
    · subst e
      have : ((fieldOf h b).attr == (b : Int)) = true := by simp [fieldOf]
      rw [this]; simp [fieldOf]
    · have : ((fieldOf h b).attr == (a : Int)) = false := by
        simp only [fieldOf, beq_eq_false_iff_ne]; omega
      rw [this]
      simp only
      rw [ih]
      have e2 : ¬ a = b := fun h => e h.symm
      simp [List.mem_cons, e2]
theorem fo_event (h : Hv) (a : Nat) (ha : a < 4) : fo (eventOf h) (a : Int) = if h.th a then some (valOf a (h.n a) (h.s a)) else none := by
  unfold eventOf eventUp
  rw [fo_fields]
  by_cases e : h.th a = true
  · rw [if_pos (List.mem_filter.2 ⟨List.mem_range.2 ha, e⟩), if_pos e]
  · rw [if_neg (fun hm => e (List.mem_filter.1 hm).2), if_neg e]
end Go.Proofs.YtpbblaeamddbgaaGreat
namespace Go.Proofs.YtpbblaeamddbgaaGreat
open Go.RowKit

set_option maxHeartbeats 1600000 in
set_option maxRecDepth 100000 in
theorem kmeets_any (ao : Option Addr) (cap : Nat) (l : List Wt) (h : Hv) (w : World) (hl : l.length ≤ 140737488355328) (hs : Wxs w ao l) (hx : ∀ x ∈ l, WtOK x) :
    Calls Tryz.prog 14 #[.slice ao l.length cap, .agg #[.bool (h.th 0), .bool (h.th 1), .bool (h.th 2), .bool (h.th 3), .int .i64 (h.n 0), .int .i64 (h.n 1), .int .i64 (h.n 2), .int .i64 (h.n 3), .string (h.s 0), .string (h.s 1), .string (h.s 2), .string (h.s 3)]] w fun e w' => e = .returned (.bool (meetsB (filterOf l) (fo (eventOf h)))) ∧ Ext w w' := by
  obtain ⟨w0, hw0⟩ : ∃ w0 : World, w0 = w.alloc (.cells #[.bool (h.th 0), .bool (h.th 1), .bool (h.th 2), .bool (h.th 3), .int .i64 (h.n 0), .int .i64 (h.n 1), .int .i64 (h.n 2), .int .i64 (h.n 3), .string (h.s 0), .string (h.s 1), .string (h.s 2), .string (h.s 3)] 42) := ⟨_, rfl⟩
  have hE0 : Ext w w0 := by rw [hw0]; exact (Ext.refl w).alloc _
  have HR0 : Hid (Row w0 w.heap.size 42 h.cells) := by
    show Row _ _ _ _
    rw [hw0]; exact row_alloc _ _ _ _ _ rfl rfl
  have HE0 : Hid (Ext w w0) := hE0
  have HF : Hid (∀ w', w' = w0 → Calls Tryz.prog 25 #[.slice ao l.length cap] w' fun e w1 => ∃ ro rcap, e = .returned (.slice ro (filterOf l).length rcap) ∧ OSl w1 80 6 ro (filterOf l).length rcap ((filterOf l).flatMap Cd.cells) ∧ (∀ g, blkOf ro = some g → w0.heap.size ≤ g) ∧ Ext w0 w1) := fun w' e => by rw [e]; exact filter_any ao cap l w0 hl (hs.ext hE0) hx
  have HW0 : Hid (w0 = w.alloc (.cells #[.bool (h.th 0), .bool (h.th 1), .bool (h.th 2), .bool (h.th 3), .int .i64 (h.n 0), .int .i64 (h.n 1), .int .i64 (h.n 2), .int .i64 (h.n 3), .string (h.s 0), .string (h.s 1), .string (h.s 2), .string (h.s 3)] 42)) := hw0
  have HAt : Hid (∀ k (hk : k < (filterOf l).length), ∃ a : Nat, a < 4 ∧ (filterOf l)[k].attr = (a : Int) ∧ (1 ≤ (filterOf l)[k].kind ∧ (filterOf l)[k].kind ≤ 9) ∧ OneKind (valOf a (h.n a) (h.s a)) (filterOf l)[k].a ∧ OneKind (valOf a (h.n a) (h.s a)) (filterOf l)[k].b ∧ (filterOf l)[k].a.s.size ≤ 9223372036854775807) := fun k hk => by
    have hsz := (filter_sz l k hk).1
    have hk' : k < l.length := by simp [filterOf] at hk; omega
    have e : (filterOf l)[k] = condOf l[k] := by simp [filterOf]
    rw [e] at hsz ⊢
    have hkd := kind_le l[k]
    exact ⟨pickI l[k].attr 4, pickI_lt _ _ (by omega), rfl, ⟨by show (1 : Int) ≤ (kindOf l[k] : Int); omega, by show (kindOf l[k] : Int) ≤ 9; omega⟩, (cond_one l[k] _ _).1, (cond_one l[k] _ _).2, hsz⟩
  have hL8 := filter_len l
  clear hw0 hE0 hs hx hl
  generalize filterOf l = F at *
  go_enter Tryz.func14, Tryz.ntmps14
  go_wp2_with fail
  refine Calls.mono (HF.out _ HW0.out.symm) ?_
  rintro e w1 ⟨ro, rcap, rfl, hown, hnew, hE1⟩
  have HR1 : Hid (Row w1 w.heap.size 42 h.cells) := HR0.out.ext hE1
  have HO : Hid (OSl w1 80 6 ro F.length rcap (F.flatMap Cd.cells)) := hown
  have HE1 : Hid (Ext w w1) := HE0.out.trans hE1
  clear HF HR0 HE0 HW0 hown hnew hE1
  go_wp2_with fail
  go_loopw [6] (fun i wr => ∃ k : Nat, k ≤ F.length ∧ i = .int .i64 k ∧ (∀ j (hj : j < F.length), j < k → condB (fo (eventOf h) F[j].attr) F[j] = true) ∧ Ext w1 wr) (fun i _ => F.length - (intOf i).toNat)
  case atStart => exact ⟨0, Nat.zero_le _, rfl, fun j _ h => absurd h (Nat.not_lt_zero _), Ext.refl _⟩
  case round =>
    obtain ⟨k, hk, rfl, hall, hE⟩ := hrel
    have HA : Hid (∀ j (hj : j < F.length), j < k → condB (fo (eventOf h) F[j].attr) F[j] = true) := hall
    clear hall
    have HEr : Hid (Ext w wr) := HE1.out.trans hE
    by_cases hlt : k < F.length
    · have hcell : ∀ r, r < 6 → ∀ v, (Cd.cells F[k])[r]? = some v → ∃ g, ro = some ⟨g, 0, none⟩ ∧ wr.cell? ⟨g, k * 6 + r, none⟩ = some v := fun r hr v hv => by
        rw [← flat_at Cd.cells 6 (fun _ => rfl) F k r hlt hr] at hv
        obtain ⟨g, e, hc⟩ := HO.out.at hv
        exact ⟨g, e, hE.cell hc⟩
      obtain ⟨g, rfl, c0⟩ := hcell 0 (by omega) _ rfl
      have hcell2 : ∀ r, r < 6 → ∀ v, (Cd.cells F[k])[r]? = some v → wr.cell? ⟨g, k * 6 + r, none⟩ = some v := fun r hr v hv => by
        obtain ⟨g', e, hc⟩ := hcell r hr v hv
        cases e; exact hc
      have c1 := hcell2 1 (by omega) _ rfl
      have c2 := hcell2 2 (by omega) _ rfl
      have c3 := hcell2 3 (by omega) _ rfl
      have c4 := hcell2 4 (by omega) _ rfl
      have c5 := hcell2 5 (by omega) _ rfl
      clear hcell hcell2
      obtain ⟨a, ha, hat, ⟨hk1, hk9⟩, hoa, hob, hsz⟩ := HAt.out k hlt
      have hR := HR1.out.ext hE
      have b0 := hR.at (hv_at h a ha).1
      have b4 := hR.at (hv_at h a ha).2.1
      have b8 := hR.at (hv_at h a ha).2.2
      have HFo : Hid (fo (eventOf h) F[k].attr = if h.th a then some (valOf a (h.n a) (h.s a)) else none) := by
        show _ = _
        rw [hat]; exact fo_event h a ha
      have hno : Hid (condB (fo (eventOf h) F[k].attr) F[k] = false → meetsB F (fo (eventOf h)) = false) := fun h => meets_no hlt h
      have hyes : Hid (condB (fo (eventOf h) F[k].attr) F[k] = true → ∀ j (hj : j < F.length), j < k + 1 → condB (fo (eventOf h) F[j].attr) F[j] = true) := fun h j hj hjk => by
        rcases Nat.lt_or_ge j k with h' | h'
        · exact HA.out j hj h'
        · obtain rfl : j = k := by omega
          exact h
      have HM : Hid (∀ w, Calls Tryz.prog 39 #[.agg #[.int .i64 a, .int .i64 F[k].kind, .int .i64 F[k].a.n, .string F[k].a.s, .int .i64 F[k].b.n, .string F[k].b.s], .agg #[.int .i64 (valOf a (h.n a) (h.s a)).n, .string (valOf a (h.n a) (h.s a)).s]] w fun e w' => e = .returned (.bool (metB F[k] (valOf a (h.n a) (h.s a)))) ∧ Ext w w') := fun w => by
        have := kmet_any F[k] (valOf a (h.n a) (h.s a)) w hk1 hk9 hoa hob hsz (by have := val_size a (h.n a) (h.s a); omega)
        rw [hat] at this
        exact this
      have HV : Hid (∀ w, Calls Tryz.prog 40 #[.int .i64 a, .int .i64 (h.n a), .string (h.s a)] w fun e w' => e = .returned (.agg #[.int .i64 (valOf a (h.n a) (h.s a)).n, .string (valOf a (h.n a) (h.s a)).s]) ∧ Ext w w') := fun w => kvalue_any a (h.n a) (h.s a) w ha
      rw [hat, Nat.add_zero] at c0
      have i1 : (0 : Int) ≤ (a : Int) := by omega
      have i2 : (a : Int) < 4 := by omega
      clear hat hk1 hk9 hoa hob hsz hR HR1 HO HAt
      generalize F[k] = c at *
      cases hth : h.th a with
      | false =>
        have HP : Hid (meetsB F (fo (eventOf h)) = false) := hno.out (by rw [HFo.out, hth]; rfl)
        rw [hth] at b0
        clear hth HFo hno hyes
        go_wp2
        go_ret
        exact ⟨ret_bool HP.out.symm, HEr.out⟩
      | true =>
        have HC : Hid (condB (fo (eventOf h) c.attr) c = metB c (valOf a (h.n a) (h.s a))) := by show _ = _; rw [HFo.out, hth]; rfl
        rw [hth] at b0
        generalize valOf a (h.n a) (h.s a) = v at *
        generalize h.n a = hn at *
        generalize h.s a = hs at *
        clear hth HFo
        cases hB : metB c v with
        | false =>
          have HP : Hid (meetsB F (fo (eventOf h)) = false) := hno.out (by rw [HC.out, hB])
          have HM2 : Hid (∀ w, Calls Tryz.prog 39 #[.agg #[.int .i64 a, .int .i64 c.kind, .int .i64 c.a.n, .string c.a.s, .int .i64 c.b.n, .string c.b.s], .agg #[.int .i64 v.n, .string v.s]] w fun e w' => e = .returned (.bool false) ∧ Ext w w') := fun w => by rw [← hB]; exact HM.out w
          clear hB HM HC hno hyes
          go_wp2_with fail
          go_region_held3 (fun w' => w'.cell? ⟨g, k * 6, none⟩ = some (.int .i64 a) ∧ w'.cell? ⟨g, k * 6 + 1, none⟩ = some (.int .i64 c.kind) ∧ w'.cell? ⟨g, k * 6 + 2, none⟩ = some (.int .i64 c.a.n) ∧ w'.cell? ⟨g, k * 6 + 3, none⟩ = some (.string c.a.s) ∧ w'.cell? ⟨g, k * 6 + 4, none⟩ = some (.int .i64 c.b.n) ∧ w'.cell? ⟨g, k * 6 + 5, none⟩ = some (.string c.b.s) ∧ w'.cell? ⟨w.heap.size, 4 + a, none⟩ = some (.int .i64 hn) ∧ w'.cell? ⟨w.heap.size, 8 + a, none⟩ = some (.string hs))
            (first | go_keep | exact ⟨hE2.cell (by exact c0), hE2.cell (by exact c1), hE2.cell (by exact c2), hE2.cell (by exact c3), hE2.cell (by exact c4), hE2.cell (by exact c5), hE2.cell (by exact b4), hE2.cell (by exact b8)⟩ | exact ⟨hE3.cell (hE2.cell (by exact c0)), hE3.cell (hE2.cell (by exact c1)), hE3.cell (hE2.cell (by exact c2)), hE3.cell (hE2.cell (by exact c3)), hE3.cell (hE2.cell (by exact c4)), hE3.cell (hE2.cell (by exact c5)), hE3.cell (hE2.cell (by exact b4)), hE3.cell (hE2.cell (by exact b8))⟩)
            (first
              | (go_at_call 40; refine Calls.mono (HV.out _) ?_; rintro e w2 ⟨rfl, hE2⟩)
              | (go_at_call 39; refine Calls.mono (HM2.out _) ?_; rintro e w3 ⟨rfl, hE3⟩))
          go_wp2
          go_ret
          exact ⟨ret_bool HP.out.symm, ((HEr.out.drew).trans hE2).trans hE3⟩
        | true =>
          have HY := hyes.out (by rw [HC.out, hB])
          have HM2 : Hid (∀ w, Calls Tryz.prog 39 #[.agg #[.int .i64 a, .int .i64 c.kind, .int .i64 c.a.n, .string c.a.s, .int .i64 c.b.n, .string c.b.s], .agg #[.int .i64 v.n, .string v.s]] w fun e w' => e = .returned (.bool true) ∧ Ext w w') := fun w => by rw [← hB]; exact HM.out w
          have HYY : Hid (∀ j (hj : j < F.length), j < k + 1 → condB (fo (eventOf h) F[j].attr) F[j] = true) := HY
          clear hB HM HC hno hyes HY
          go_wp2_with fail
          go_region_held3 (fun w' => w'.cell? ⟨g, k * 6, none⟩ = some (.int .i64 a) ∧ w'.cell? ⟨g, k * 6 + 1, none⟩ = some (.int .i64 c.kind) ∧ w'.cell? ⟨g, k * 6 + 2, none⟩ = some (.int .i64 c.a.n) ∧ w'.cell? ⟨g, k * 6 + 3, none⟩ = some (.string c.a.s) ∧ w'.cell? ⟨g, k * 6 + 4, none⟩ = some (.int .i64 c.b.n) ∧ w'.cell? ⟨g, k * 6 + 5, none⟩ = some (.string c.b.s) ∧ w'.cell? ⟨w.heap.size, 4 + a, none⟩ = some (.int .i64 hn) ∧ w'.cell? ⟨w.heap.size, 8 + a, none⟩ = some (.string hs))
            (first | go_keep | exact ⟨hE2.cell (by exact c0), hE2.cell (by exact c1), hE2.cell (by exact c2), hE2.cell (by exact c3), hE2.cell (by exact c4), hE2.cell (by exact c5), hE2.cell (by exact b4), hE2.cell (by exact b8)⟩ | exact ⟨hE3.cell (hE2.cell (by exact c0)), hE3.cell (hE2.cell (by exact c1)), hE3.cell (hE2.cell (by exact c2)), hE3.cell (hE2.cell (by exact c3)), hE3.cell (hE2.cell (by exact c4)), hE3.cell (hE2.cell (by exact c5)), hE3.cell (hE2.cell (by exact b4)), hE3.cell (hE2.cell (by exact b8))⟩)
            (first
              | (go_at_call 40; refine Calls.mono (HV.out _) ?_; rintro e w2 ⟨rfl, hE2⟩)
              | (go_at_call 39; refine Calls.mono (HM2.out _) ?_; rintro e w3 ⟨rfl, hE3⟩))
          go_wp2
          go_roundw
          case rel => exact ⟨k + 1, by omega, by go_num, HYY.out, ((hE.drew).trans hE2).trans hE3⟩
          case measure => simp [intOf]; omega
    · have HP : Hid (meetsB F (fo (eventOf h)) = true) := meets_yes fun j hj => HA.out j hj (by omega)
      go_wp2
      go_ret
      exact ⟨ret_bool HP.out.symm, HEr.out⟩
end Go.Proofs.YtpbblaeamddbgaaGreat
