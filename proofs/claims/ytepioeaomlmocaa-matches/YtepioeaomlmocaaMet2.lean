import Derived.Test.YtepioeaomlmocaaMet
namespace Go.Proofs.Ytepioeaomlmocaa
open Go.RowKit

theorem compare_is (x y : Vl) (w : World) (r : Int) (hr : cmpV x y = r) :
    Calls Try.prog 87 #[.agg #[.int .i64 x.n, .string x.s], .agg #[.int .i64 y.n, .string y.s]] w fun e w' => e = .returned (.int .i64 r) ∧ Ext w w' := by
  subst hr; exact compare_any x y w
theorem order_is (x y : Vl) (w : World) (o : Int) (hx : x.s.size ≤ 9223372036854775807) (hy : y.s.size ≤ 9223372036854775807) (ho : cmpV x y = o) :
    Calls Try.prog 89 #[.agg #[.int .i64 x.n, .string x.s], .agg #[.int .i64 y.n, .string y.s]] w fun e w' => ∃ r, e = .returned (.int .i64 r) ∧ Sgn r o ∧ Ext w w' := by
  subst ho; exact order_any x y w hx hy

set_option maxHeartbeats 400000 in
theorem holds_7 (t : Int) (a b v : Vl) (w : World) :
    Calls Try.prog 84 #[.agg #[.int .i64 t, .int .i64 7, .int .i64 a.n, .string a.s, .int .i64 b.n, .string b.s], .agg #[.int .i64 v.n, .string v.s]] w fun e w' => e = .returned (.bool (decide (0 ≤ cmpV v a) && decide (cmpV v b ≤ 0))) ∧ Ext w w' := by
  generalize hcv : cmpV v a = cv
  generalize hcu : cmpV v b = cu
  have HCV : Hid (cmpV v a = cv) := hcv
  have HCU : Hid (cmpV v b = cu) := hcu
  clear hcv hcu
  generalize hbr : (decide (0 ≤ cv) && decide (cu ≤ 0)) = br
  have HBR : Hid (_ = br) := hbr
  clear hbr
  by_cases h0 : 0 ≤ cv
  · go_enter Try.func84, Try.ntmps84
    go_wp2_with fail
    refine (compare_is v a _ _ HCV.out).mono ?_
    rintro e w1 ⟨rfl, hb⟩
    obtain ⟨hc1, hf1⟩ := bcell hb
    have hE : Ext w w1 := (((Ext.refl _).alloc _).alloc _).trans hb
    have hz : w.heap.size + 1 < w1.heap.size := by have := hb.le; simp at this; omega
    clear hb
    go_wp2_with fail
    refine (compare_is v b _ _ HCU.out).mono ?_
    rintro e w2 ⟨rfl, hb2⟩
    go_wp2_with fail
    go_ret
    exact ⟨ret_bool (by rw [← HBR.out]; simp [h0]), hE.trans hb2⟩
  · go_enter Try.func84, Try.ntmps84
    go_wp2_with fail
    refine (compare_is v a _ _ HCV.out).mono ?_
    rintro e w1 ⟨rfl, hb⟩
    obtain ⟨hc1, hf1⟩ := bcell hb
    have hE : Ext w w1 := (((Ext.refl _).alloc _).alloc _).trans hb
    have hz : w.heap.size + 1 < w1.heap.size := by have := hb.le; simp at this; omega
    clear hb
    go_wp2_with fail
    go_ret
    exact ⟨ret_bool (by rw [← HBR.out]; symm; simp; omega), hE⟩

set_option maxHeartbeats 400000 in
theorem holds_8 (t : Int) (a b v : Vl) (w : World) :
    Calls Try.prog 84 #[.agg #[.int .i64 t, .int .i64 8, .int .i64 a.n, .string a.s, .int .i64 b.n, .string b.s], .agg #[.int .i64 v.n, .string v.s]] w fun e w' => e = .returned (.bool (Lib.hasPrefix v.s.data.toList a.s.data.toList)) ∧ Ext w w' := by
  go_enter Try.func84, Try.ntmps84
  go_wp2_with fail
  refine (compare_any v a _).mono ?_
  rintro e w1 ⟨rfl, hb⟩
  obtain ⟨hc1, hf1⟩ := bcell hb
  have hE : Ext w w1 := (((Ext.refl _).alloc _).alloc _).trans hb
  have hz : w.heap.size + 1 < w1.heap.size := by have := hb.le; simp at this; omega
  clear hb
  go_wp2_with fail
  refine (Try.strings_HasPrefix _ _ _).mono ?_
  rintro e w2 ⟨rfl, rfl⟩
  go_wp2_with fail
  go_ret
  exact ⟨rfl, hE⟩

set_option maxHeartbeats 400000 in
theorem met_1 (t : Int) (a b v : Vl) (w : World) (ha : a.s.size ≤ 9223372036854775807) (hv : v.s.size ≤ 9223372036854775807) :
    Calls Try.prog 85 #[.agg #[.int .i64 t, .int .i64 1, .int .i64 a.n, .string a.s, .int .i64 b.n, .string b.s], .agg #[.int .i64 v.n, .string v.s]] w fun e w' => e = .returned (.bool (cmpV v a == 0)) ∧ Ext w w' := by
  generalize hcv : cmpV v a = cv
  have HCV : Hid (cmpV v a = cv) := hcv
  clear hcv
  generalize hbr : (cv == 0) = br
  have HBR : Hid (_ = br) := hbr
  clear hbr
  go_enter Try.func85, Try.ntmps85
  go_wp2_with fail
  refine (order_is v a _ _ hv ha HCV.out).mono ?_
  rintro e w1 ⟨r, rfl, hS, hb⟩
  obtain ⟨hc1, hf1⟩ := bcell hb
  have hE : Ext w w1 := (((Ext.refl _).alloc _).alloc _).trans hb
  have hz : w.heap.size + 1 < w1.heap.size := by have := hb.le; simp at this; omega
  clear hb
  go_wp2_with fail
  go_ret
  exact ⟨ret_bool (by rw [← HBR.out]; simp only [Sgn] at hS; rw [Bool.eq_iff_iff]; simp; omega), hE⟩

set_option maxHeartbeats 400000 in
theorem met_2 (t : Int) (a b v : Vl) (w : World) (ha : a.s.size ≤ 9223372036854775807) (hv : v.s.size ≤ 9223372036854775807) :
    Calls Try.prog 85 #[.agg #[.int .i64 t, .int .i64 2, .int .i64 a.n, .string a.s, .int .i64 b.n, .string b.s], .agg #[.int .i64 v.n, .string v.s]] w fun e w' => e = .returned (.bool (cmpV v a != 0)) ∧ Ext w w' := by
  generalize hcv : cmpV v a = cv
  have HCV : Hid (cmpV v a = cv) := hcv
  clear hcv
  generalize hbr : (cv != 0) = br
  have HBR : Hid (_ = br) := hbr
  clear hbr
  go_enter Try.func85, Try.ntmps85
  go_wp2_with fail
  refine (order_is v a _ _ hv ha HCV.out).mono ?_
  rintro e w1 ⟨r, rfl, hS, hb⟩
  obtain ⟨hc1, hf1⟩ := bcell hb
  have hE : Ext w w1 := (((Ext.refl _).alloc _).alloc _).trans hb
  have hz : w.heap.size + 1 < w1.heap.size := by have := hb.le; simp at this; omega
  clear hb
  go_wp2_with fail
  go_ret
  exact ⟨ret_bool (by rw [← HBR.out]; simp only [Sgn] at hS; rw [Bool.eq_iff_iff]; simp; omega), hE⟩

set_option maxHeartbeats 400000 in
theorem met_3 (t : Int) (a b v : Vl) (w : World) (ha : a.s.size ≤ 9223372036854775807) (hv : v.s.size ≤ 9223372036854775807) :
    Calls Try.prog 85 #[.agg #[.int .i64 t, .int .i64 3, .int .i64 a.n, .string a.s, .int .i64 b.n, .string b.s], .agg #[.int .i64 v.n, .string v.s]] w fun e w' => e = .returned (.bool (decide (cmpV v a < 0))) ∧ Ext w w' := by
  generalize hcv : cmpV v a = cv
  have HCV : Hid (cmpV v a = cv) := hcv
  clear hcv
  generalize hbr : (decide (cv < 0)) = br
  have HBR : Hid (_ = br) := hbr
  clear hbr
  go_enter Try.func85, Try.ntmps85
  go_wp2_with fail
  refine (order_is v a _ _ hv ha HCV.out).mono ?_
  rintro e w1 ⟨r, rfl, hS, hb⟩
  obtain ⟨hc1, hf1⟩ := bcell hb
  have hE : Ext w w1 := (((Ext.refl _).alloc _).alloc _).trans hb
  have hz : w.heap.size + 1 < w1.heap.size := by have := hb.le; simp at this; omega
  clear hb
  go_wp2_with fail
  go_ret
  exact ⟨ret_bool (by rw [← HBR.out]; simp only [Sgn] at hS; rw [decide_eq_decide]; omega), hE⟩

set_option maxHeartbeats 400000 in
theorem met_4 (t : Int) (a b v : Vl) (w : World) (ha : a.s.size ≤ 9223372036854775807) (hv : v.s.size ≤ 9223372036854775807) :
    Calls Try.prog 85 #[.agg #[.int .i64 t, .int .i64 4, .int .i64 a.n, .string a.s, .int .i64 b.n, .string b.s], .agg #[.int .i64 v.n, .string v.s]] w fun e w' => e = .returned (.bool (decide (cmpV v a ≤ 0))) ∧ Ext w w' := by
  generalize hcv : cmpV v a = cv
  have HCV : Hid (cmpV v a = cv) := hcv
  clear hcv
  generalize hbr : (decide (cv ≤ 0)) = br
  have HBR : Hid (_ = br) := hbr
  clear hbr
  go_enter Try.func85, Try.ntmps85
  go_wp2_with fail
  refine (order_is v a _ _ hv ha HCV.out).mono ?_
  rintro e w1 ⟨r, rfl, hS, hb⟩
  obtain ⟨hc1, hf1⟩ := bcell hb
  have hE : Ext w w1 := (((Ext.refl _).alloc _).alloc _).trans hb
  have hz : w.heap.size + 1 < w1.heap.size := by have := hb.le; simp at this; omega
  clear hb
  go_wp2_with fail
  go_ret
  exact ⟨ret_bool (by rw [← HBR.out]; simp only [Sgn] at hS; rw [decide_eq_decide]; omega), hE⟩

set_option maxHeartbeats 400000 in
theorem met_5 (t : Int) (a b v : Vl) (w : World) (ha : a.s.size ≤ 9223372036854775807) (hv : v.s.size ≤ 9223372036854775807) :
    Calls Try.prog 85 #[.agg #[.int .i64 t, .int .i64 5, .int .i64 a.n, .string a.s, .int .i64 b.n, .string b.s], .agg #[.int .i64 v.n, .string v.s]] w fun e w' => e = .returned (.bool (decide (0 < cmpV v a))) ∧ Ext w w' := by
  generalize hcv : cmpV v a = cv
  have HCV : Hid (cmpV v a = cv) := hcv
  clear hcv
  generalize hbr : (decide (0 < cv)) = br
  have HBR : Hid (_ = br) := hbr
  clear hbr
  go_enter Try.func85, Try.ntmps85
  go_wp2_with fail
  refine (order_is v a _ _ hv ha HCV.out).mono ?_
  rintro e w1 ⟨r, rfl, hS, hb⟩
  obtain ⟨hc1, hf1⟩ := bcell hb
  have hE : Ext w w1 := (((Ext.refl _).alloc _).alloc _).trans hb
  have hz : w.heap.size + 1 < w1.heap.size := by have := hb.le; simp at this; omega
  clear hb
  go_wp2_with fail
  go_ret
  exact ⟨ret_bool (by rw [← HBR.out]; simp only [Sgn] at hS; rw [decide_eq_decide]; omega), hE⟩

set_option maxHeartbeats 400000 in
theorem met_6 (t : Int) (a b v : Vl) (w : World) (ha : a.s.size ≤ 9223372036854775807) (hv : v.s.size ≤ 9223372036854775807) :
    Calls Try.prog 85 #[.agg #[.int .i64 t, .int .i64 6, .int .i64 a.n, .string a.s, .int .i64 b.n, .string b.s], .agg #[.int .i64 v.n, .string v.s]] w fun e w' => e = .returned (.bool (decide (0 ≤ cmpV v a))) ∧ Ext w w' := by
  generalize hcv : cmpV v a = cv
  have HCV : Hid (cmpV v a = cv) := hcv
  clear hcv
  generalize hbr : (decide (0 ≤ cv)) = br
  have HBR : Hid (_ = br) := hbr
  clear hbr
  go_enter Try.func85, Try.ntmps85
  go_wp2_with fail
  refine (order_is v a _ _ hv ha HCV.out).mono ?_
  rintro e w1 ⟨r, rfl, hS, hb⟩
  obtain ⟨hc1, hf1⟩ := bcell hb
  have hE : Ext w w1 := (((Ext.refl _).alloc _).alloc _).trans hb
  have hz : w.heap.size + 1 < w1.heap.size := by have := hb.le; simp at this; omega
  clear hb
  go_wp2_with fail
  go_ret
  exact ⟨ret_bool (by rw [← HBR.out]; simp only [Sgn] at hS; rw [decide_eq_decide]; omega), hE⟩

set_option maxHeartbeats 400000 in
theorem met_9 (t : Int) (a b v : Vl) (w : World) (ha : a.s.size ≤ 9223372036854775807) (hv : v.s.size ≤ 9223372036854775807) :
    Calls Try.prog 85 #[.agg #[.int .i64 t, .int .i64 9, .int .i64 a.n, .string a.s, .int .i64 b.n, .string b.s], .agg #[.int .i64 v.n, .string v.s]] w fun e w' => e = .returned (.bool true) ∧ Ext w w' := by
  generalize hcv : cmpV v a = cv
  have HCV : Hid (cmpV v a = cv) := hcv
  clear hcv
  generalize hbr : true = br
  have HBR : Hid (_ = br) := hbr
  clear hbr
  go_enter Try.func85, Try.ntmps85
  go_wp2_with fail
  refine (order_is v a _ _ hv ha HCV.out).mono ?_
  rintro e w1 ⟨r, rfl, hS, hb⟩
  obtain ⟨hc1, hf1⟩ := bcell hb
  have hE : Ext w w1 := (((Ext.refl _).alloc _).alloc _).trans hb
  have hz : w.heap.size + 1 < w1.heap.size := by have := hb.le; simp at this; omega
  clear hb
  go_wp2_with fail
  go_ret
  exact ⟨ret_bool (by rw [← HBR.out]), hE⟩

set_option maxHeartbeats 400000 in
theorem met_7 (t : Int) (a b v : Vl) (w : World) (ha : a.s.size ≤ 9223372036854775807) (hbs : b.s.size ≤ 9223372036854775807) (hv : v.s.size ≤ 9223372036854775807) :
    Calls Try.prog 85 #[.agg #[.int .i64 t, .int .i64 7, .int .i64 a.n, .string a.s, .int .i64 b.n, .string b.s], .agg #[.int .i64 v.n, .string v.s]] w fun e w' => e = .returned (.bool (decide (0 ≤ cmpV v a) && decide (cmpV v b ≤ 0))) ∧ Ext w w' := by
  generalize hcv : cmpV v a = cv
  have HCV : Hid (cmpV v a = cv) := hcv
  clear hcv
  generalize hcu : cmpV v b = cu
  have HCU : Hid (cmpV v b = cu) := hcu
  clear hcu
  generalize hbr : (decide (0 ≤ cv) && decide (cu ≤ 0)) = br
  have HBR : Hid (_ = br) := hbr
  clear hbr
  go_enter Try.func85, Try.ntmps85
  go_wp2_with fail
  refine (order_is v a _ _ hv ha HCV.out).mono ?_
  rintro e w1 ⟨r, rfl, hS, hb⟩
  obtain ⟨hc1, hf1⟩ := bcell hb
  have hE : Ext w w1 := (((Ext.refl _).alloc _).alloc _).trans hb
  have hz : w.heap.size + 1 < w1.heap.size := by have := hb.le; simp at this; omega
  clear hb
  by_cases h0 : 0 ≤ r
  · go_wp2_with fail
    refine (order_is v b _ _ hv hbs HCU.out).mono ?_
    rintro e w2 ⟨r2, rfl, hS2, hb2⟩
    go_wp2_with fail
    go_ret
    refine ⟨ret_bool ?_, hE.trans hb2⟩
    rw [← HBR.out]; simp only [Sgn] at hS hS2; rw [Bool.eq_iff_iff]; simp; omega
  · go_wp2_with fail
    go_ret
    refine ⟨ret_bool ?_, hE⟩
    rw [← HBR.out]; simp only [Sgn] at hS; symm; simp; omega

end Go.Proofs.Ytepioeaomlmocaa
