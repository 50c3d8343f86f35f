import Derived.Deep.MidRow
import Derived.Test.YtpbblaeamddbgaaGreatGC
import Derived.Test.YtpbblaeamddbgaaGreatGA
namespace Go.Proofs.YtpbblaeamddbgaaGreat
open Go.RowKit

/-- Does a value meet a condition? (Of the kinds 1 to 9.) -/
def metB (c : Cd) (v : Vl) : Bool :=
  if c.kind == 1 then cmpV v c.a == 0 else if c.kind == 2 then cmpV v c.a != 0 else if c.kind == 3 then decide (cmpV v c.a < 0) else if c.kind == 4 then decide (cmpV v c.a ≤ 0)
  else if c.kind == 5 then decide (0 < cmpV v c.a) else if c.kind == 6 then decide (0 ≤ cmpV v c.a) else if c.kind == 7 then decide (0 ≤ cmpV v c.a) && decide (cmpV v c.b ≤ 0)
  else if c.kind == 8 then Lib.hasPrefix v.s.data.toList c.a.s.data.toList else true

set_option maxHeartbeats 400000 in
theorem holds_1 (t : Int) (a b v : Vl) (w : World) :
    Calls Tryz.prog 84 #[.agg #[.int .i64 t, .int .i64 1, .int .i64 a.n, .string a.s, .int .i64 b.n, .string b.s], .agg #[.int .i64 v.n, .string v.s]] w fun e w' => e = .returned (.bool (cmpV v a == 0)) ∧ Ext w w' := by
  have HR : Hid (∀ x : Bool, x = (cmpV v a == 0) → x = (cmpV v a == 0)) := fun _ h => h
  generalize hcv : cmpV v a = cv at *
  have HCV : Hid (cmpV v a = cv) := hcv
  clear hcv
  generalize hbr : (cv == 0) = br
  have HBR : Hid (_ = br) := hbr
  clear hbr HR
  go_enter Tryz.func84, Tryz.ntmps84
  go_wp2_with fail
  refine (compare_any v a _).mono ?_
  rintro e w1 ⟨rfl, hb⟩
  obtain ⟨hc1, hf1⟩ := bcell hb
  have hE : Ext w w1 := (((Ext.refl _).alloc _).alloc _).trans hb
  have hz : w.heap.size + 1 < w1.heap.size := by have := hb.le; simp at this; omega
  clear hb
  go_wp2_with fail
  go_ret
  exact ⟨ret_bool (by rw [← HBR.out, HCV.out]), hE⟩

set_option maxHeartbeats 400000 in
theorem holds_2 (t : Int) (a b v : Vl) (w : World) :
    Calls Tryz.prog 84 #[.agg #[.int .i64 t, .int .i64 2, .int .i64 a.n, .string a.s, .int .i64 b.n, .string b.s], .agg #[.int .i64 v.n, .string v.s]] w fun e w' => e = .returned (.bool (cmpV v a != 0)) ∧ Ext w w' := by
  have HR : Hid (∀ x : Bool, x = (cmpV v a != 0) → x = (cmpV v a != 0)) := fun _ h => h
  generalize hcv : cmpV v a = cv at *
  have HCV : Hid (cmpV v a = cv) := hcv
  clear hcv
  generalize hbr : (cv != 0) = br
  have HBR : Hid (_ = br) := hbr
  clear hbr HR
  go_enter Tryz.func84, Tryz.ntmps84
  go_wp2_with fail
  refine (compare_any v a _).mono ?_
  rintro e w1 ⟨rfl, hb⟩
  obtain ⟨hc1, hf1⟩ := bcell hb
  have hE : Ext w w1 := (((Ext.refl _).alloc _).alloc _).trans hb
  have hz : w.heap.size + 1 < w1.heap.size := by have := hb.le; simp at this; omega
  clear hb
  go_wp2_with fail
  go_ret
  exact ⟨ret_bool (by rw [← HBR.out, HCV.out]), hE⟩

set_option maxHeartbeats 400000 in
theorem holds_3 (t : Int) (a b v : Vl) (w : World) :
    Calls Tryz.prog 84 #[.agg #[.int .i64 t, .int .i64 3, .int .i64 a.n, .string a.s, .int .i64 b.n, .string b.s], .agg #[.int .i64 v.n, .string v.s]] w fun e w' => e = .returned (.bool (decide (cmpV v a < 0))) ∧ Ext w w' := by
  have HR : Hid (∀ x : Bool, x = (decide (cmpV v a < 0)) → x = (decide (cmpV v a < 0))) := fun _ h => h
  generalize hcv : cmpV v a = cv at *
  have HCV : Hid (cmpV v a = cv) := hcv
  clear hcv
  generalize hbr : (decide (cv < 0)) = br
  have HBR : Hid (_ = br) := hbr
  clear hbr HR
  go_enter Tryz.func84, Tryz.ntmps84
  go_wp2_with fail
  refine (compare_any v a _).mono ?_
  rintro e w1 ⟨rfl, hb⟩
  obtain ⟨hc1, hf1⟩ := bcell hb
  have hE : Ext w w1 := (((Ext.refl _).alloc _).alloc _).trans hb
  have hz : w.heap.size + 1 < w1.heap.size := by have := hb.le; simp at this; omega
  clear hb
  go_wp2_with fail
  go_ret
  exact ⟨ret_bool (by rw [← HBR.out, HCV.out]), hE⟩

set_option maxHeartbeats 400000 in
theorem holds_4 (t : Int) (a b v : Vl) (w : World) :
    Calls Tryz.prog 84 #[.agg #[.int .i64 t, .int .i64 4, .int .i64 a.n, .string a.s, .int .i64 b.n, .string b.s], .agg #[.int .i64 v.n, .string v.s]] w fun e w' => e = .returned (.bool (decide (cmpV v a ≤ 0))) ∧ Ext w w' := by
  have HR : Hid (∀ x : Bool, x = (decide (cmpV v a ≤ 0)) → x = (decide (cmpV v a ≤ 0))) := fun _ h => h
  generalize hcv : cmpV v a = cv at *
  have HCV : Hid (cmpV v a = cv) := hcv
  clear hcv
  generalize hbr : (decide (cv ≤ 0)) = br
  have HBR : Hid (_ = br) := hbr
  clear hbr HR
  go_enter Tryz.func84, Tryz.ntmps84
  go_wp2_with fail
  refine (compare_any v a _).mono ?_
  rintro e w1 ⟨rfl, hb⟩
  obtain ⟨hc1, hf1⟩ := bcell hb
  have hE : Ext w w1 := (((Ext.refl _).alloc _).alloc _).trans hb
  have hz : w.heap.size + 1 < w1.heap.size := by have := hb.le; simp at this; omega
  clear hb
  go_wp2_with fail
  go_ret
  exact ⟨ret_bool (by rw [← HBR.out, HCV.out]), hE⟩

set_option maxHeartbeats 400000 in
theorem holds_5 (t : Int) (a b v : Vl) (w : World) :
    Calls Tryz.prog 84 #[.agg #[.int .i64 t, .int .i64 5, .int .i64 a.n, .string a.s, .int .i64 b.n, .string b.s], .agg #[.int .i64 v.n, .string v.s]] w fun e w' => e = .returned (.bool (decide (0 < cmpV v a))) ∧ Ext w w' := by
  have HR : Hid (∀ x : Bool, x = (decide (0 < cmpV v a)) → x = (decide (0 < cmpV v a))) := fun _ h => h
  generalize hcv : cmpV v a = cv at *
  have HCV : Hid (cmpV v a = cv) := hcv
  clear hcv
  generalize hbr : (decide (0 < cv)) = br
  have HBR : Hid (_ = br) := hbr
  clear hbr HR
  go_enter Tryz.func84, Tryz.ntmps84
  go_wp2_with fail
  refine (compare_any v a _).mono ?_
  rintro e w1 ⟨rfl, hb⟩
  obtain ⟨hc1, hf1⟩ := bcell hb
  have hE : Ext w w1 := (((Ext.refl _).alloc _).alloc _).trans hb
  have hz : w.heap.size + 1 < w1.heap.size := by have := hb.le; simp at this; omega
  clear hb
  go_wp2_with fail
  go_ret
  exact ⟨ret_bool (by rw [← HBR.out, HCV.out]), hE⟩

set_option maxHeartbeats 400000 in
theorem holds_6 (t : Int) (a b v : Vl) (w : World) :
    Calls Tryz.prog 84 #[.agg #[.int .i64 t, .int .i64 6, .int .i64 a.n, .string a.s, .int .i64 b.n, .string b.s], .agg #[.int .i64 v.n, .string v.s]] w fun e w' => e = .returned (.bool (decide (0 ≤ cmpV v a))) ∧ Ext w w' := by
  have HR : Hid (∀ x : Bool, x = (decide (0 ≤ cmpV v a)) → x = (decide (0 ≤ cmpV v a))) := fun _ h => h
  generalize hcv : cmpV v a = cv at *
  have HCV : Hid (cmpV v a = cv) := hcv
  clear hcv
  generalize hbr : (decide (0 ≤ cv)) = br
  have HBR : Hid (_ = br) := hbr
  clear hbr HR
  go_enter Tryz.func84, Tryz.ntmps84
  go_wp2_with fail
  refine (compare_any v a _).mono ?_
  rintro e w1 ⟨rfl, hb⟩
  obtain ⟨hc1, hf1⟩ := bcell hb
  have hE : Ext w w1 := (((Ext.refl _).alloc _).alloc _).trans hb
  have hz : w.heap.size + 1 < w1.heap.size := by have := hb.le; simp at this; omega
  clear hb
  go_wp2_with fail
  go_ret
  exact ⟨ret_bool (by rw [← HBR.out, HCV.out]), hE⟩

set_option maxHeartbeats 400000 in
theorem holds_9 (t : Int) (a b v : Vl) (w : World) :
    Calls Tryz.prog 84 #[.agg #[.int .i64 t, .int .i64 9, .int .i64 a.n, .string a.s, .int .i64 b.n, .string b.s], .agg #[.int .i64 v.n, .string v.s]] w fun e w' => e = .returned (.bool true) ∧ Ext w w' := by
  have HR : Hid (∀ x : Bool, x = true → x = true) := fun _ h => h
  generalize hcv : cmpV v a = cv at *
  have HCV : Hid (cmpV v a = cv) := hcv
  clear hcv
  generalize hbr : true = br
  have HBR : Hid (_ = br) := hbr
  clear hbr HR
  go_enter Tryz.func84, Tryz.ntmps84
  go_wp2_with fail
  refine (compare_any v a _).mono ?_
  rintro e w1 ⟨rfl, hb⟩
  obtain ⟨hc1, hf1⟩ := bcell hb
  have hE : Ext w w1 := (((Ext.refl _).alloc _).alloc _).trans hb
  have hz : w.heap.size + 1 < w1.heap.size := by have := hb.le; simp at this; omega
  clear hb
  go_wp2_with fail
  go_ret
  exact ⟨ret_bool (by rw [← HBR.out]), hE⟩

end Go.Proofs.YtpbblaeamddbgaaGreat
namespace Go.Proofs.YtpbblaeamddbgaaGreat
open Go.RowKit

theorem compare_is (x y : Vl) (w : World) (r : Int) (hr : cmpV x y = r) :
    Calls Tryz.prog 129 #[.agg #[.int .i64 x.n, .string x.s], .agg #[.int .i64 y.n, .string y.s]] w fun e w' => e = .returned (.int .i64 r) ∧ Ext w w' := by
  subst hr; exact compare_any x y w
theorem order_is (x y : Vl) (w : World) (o : Int) (hx : x.s.size ≤ 9223372036854775807) (hy : y.s.size ≤ 9223372036854775807) (ho : cmpV x y = o) :
    Calls Tryz.prog 213 #[.agg #[.int .i64 x.n, .string x.s], .agg #[.int .i64 y.n, .string y.s]] w fun e w' => ∃ r, e = .returned (.int .i64 r) ∧ Sgn r o ∧ Ext w w' := by
  subst ho; exact order_any x y w hx hy

set_option maxHeartbeats 400000 in
theorem holds_7 (t : Int) (a b v : Vl) (w : World) :
    Calls Tryz.prog 84 #[.agg #[.int .i64 t, .int .i64 7, .int .i64 a.n, .string a.s, .int .i64 b.n, .string b.s], .agg #[.int .i64 v.n, .string v.s]] w fun e w' => e = .returned (.bool (decide (0 ≤ cmpV v a) && decide (cmpV v b ≤ 0))) ∧ Ext w w' := by
  generalize hcv : cmpV v a = cv
  generalize hcu : cmpV v b = cu
  have HCV : Hid (cmpV v a = cv) := hcv
  have HCU : Hid (cmpV v b = cu) := hcu
  clear hcv hcu
  generalize hbr : (decide (0 ≤ cv) && decide (cu ≤ 0)) = br
  have HBR : Hid (_ = br) := hbr
  clear hbr
  by_cases h0 : 0 ≤ cv
  · go_enter Tryz.func84, Tryz.ntmps84
    go_wp2_with fail
    refine (compare_is v a _ _ HCV.out).mono ?_
    rintro e w1 ⟨rfl, hb⟩
    obtain ⟨hc1, hf1⟩ := bcell hb
    have hE : Ext w w1 := (((Ext.refl _).alloc _).alloc _).trans hb
    have hz : w.heap.size + 1 < w1.heap.size := by have := hb.le; simp at this; omega
    clear hb
    go_wp2_with fail
    refine (compare_is v b _ _ HCU.out).mono ?_
    rintro e w2 ⟨rfl, hb2⟩
    go_wp2_with fail
    go_ret
    exact ⟨ret_bool (by rw [← HBR.out]; simp [h0]), hE.trans hb2⟩
  · go_enter Tryz.func84, Tryz.ntmps84
    go_wp2_with fail
    refine (compare_is v a _ _ HCV.out).mono ?_
    rintro e w1 ⟨rfl, hb⟩
    obtain ⟨hc1, hf1⟩ := bcell hb
    have hE : Ext w w1 := (((Ext.refl _).alloc _).alloc _).trans hb
    have hz : w.heap.size + 1 < w1.heap.size := by have := hb.le; simp at this; omega
    clear hb
    go_wp2_with fail
    go_ret
    exact ⟨ret_bool (by rw [← HBR.out]; symm; simp; omega), hE⟩

set_option maxHeartbeats 400000 in
theorem holds_8 (t : Int) (a b v : Vl) (w : World) :
    Calls Tryz.prog 84 #[.agg #[.int .i64 t, .int .i64 8, .int .i64 a.n, .string a.s, .int .i64 b.n, .string b.s], .agg #[.int .i64 v.n, .string v.s]] w fun e w' => e = .returned (.bool (Lib.hasPrefix v.s.data.toList a.s.data.toList)) ∧ Ext w w' := by
  go_enter Tryz.func84, Tryz.ntmps84
  go_wp2_with fail
  refine (compare_any v a _).mono ?_
  rintro e w1 ⟨rfl, hb⟩
  obtain ⟨hc1, hf1⟩ := bcell hb
  have hE : Ext w w1 := (((Ext.refl _).alloc _).alloc _).trans hb
  have hz : w.heap.size + 1 < w1.heap.size := by have := hb.le; simp at this; omega
  clear hb
  go_wp2_with fail
  refine (Tryz.strings_HasPrefix _ _ _).mono ?_
  rintro e w2 ⟨rfl, rfl⟩
  go_wp2_with fail
  go_ret
  exact ⟨rfl, hE⟩

set_option maxHeartbeats 400000 in
theorem met_1 (t : Int) (a b v : Vl) (w : World) (ha : a.s.size ≤ 9223372036854775807) (hv : v.s.size ≤ 9223372036854775807) :
    Calls Tryz.prog 168 #[.agg #[.int .i64 t, .int .i64 1, .int .i64 a.n, .string a.s, .int .i64 b.n, .string b.s], .agg #[.int .i64 v.n, .string v.s]] w fun e w' => e = .returned (.bool (cmpV v a == 0)) ∧ Ext w w' := by
  generalize hcv : cmpV v a = cv
  have HCV : Hid (cmpV v a = cv) := hcv
  clear hcv
  generalize hbr : (cv == 0) = br
  have HBR : Hid (_ = br) := hbr
  clear hbr
  go_enter Tryz.func168, Tryz.ntmps168
  go_wp2_with fail
  refine (order_is v a _ _ hv ha HCV.out).mono ?_
  rintro e w1 ⟨r, rfl, hS, hb⟩
  obtain ⟨hc1, hf1⟩ := bcell hb
  have hE : Ext w w1 := (((Ext.refl _).alloc _).alloc _).trans hb
  have hz : w.heap.size + 1 < w1.heap.size := by have := hb.le; simp at this; omega
  clear hb
  go_wp2_with fail
  go_ret
  exact ⟨ret_bool (by rw [← HBR.out]; simp only [Sgn] at hS; rw [Bool.eq_iff_iff]; simp; omega), hE⟩

set_option maxHeartbeats 400000 in
theorem met_2 (t : Int) (a b v : Vl) (w : World) (ha : a.s.size ≤ 9223372036854775807) (hv : v.s.size ≤ 9223372036854775807) :
    Calls Tryz.prog 168 #[.agg #[.int .i64 t, .int .i64 2, .int .i64 a.n, .string a.s, .int .i64 b.n, .string b.s], .agg #[.int .i64 v.n, .string v.s]] w fun e w' => e = .returned (.bool (cmpV v a != 0)) ∧ Ext w w' := by
  generalize hcv : cmpV v a = cv
  have HCV : Hid (cmpV v a = cv) := hcv
  clear hcv
  generalize hbr : (cv != 0) = br
  have HBR : Hid (_ = br) := hbr
  clear hbr
  go_enter Tryz.func168, Tryz.ntmps168
  go_wp2_with fail
  refine (order_is v a _ _ hv ha HCV.out).mono ?_
  rintro e w1 ⟨r, rfl, hS, hb⟩
  obtain ⟨hc1, hf1⟩ := bcell hb
  have hE : Ext w w1 := (((Ext.refl _).alloc _).alloc _).trans hb
  have hz : w.heap.size + 1 < w1.heap.size := by have := hb.le; simp at this; omega
  clear hb
  go_wp2_with fail
  go_ret
  exact ⟨ret_bool (by rw [← HBR.out]; simp only [Sgn] at hS; rw [Bool.eq_iff_iff]; simp; omega), hE⟩

set_option maxHeartbeats 400000 in
theorem met_3 (t : Int) (a b v : Vl) (w : World) (ha : a.s.size ≤ 9223372036854775807) (hv : v.s.size ≤ 9223372036854775807) :
    Calls Tryz.prog 168 #[.agg #[.int .i64 t, .int .i64 3, .int .i64 a.n, .string a.s, .int .i64 b.n, .string b.s], .agg #[.int .i64 v.n, .string v.s]] w fun e w' => e = .returned (.bool (decide (cmpV v a < 0))) ∧ Ext w w' := by
  generalize hcv : cmpV v a = cv
  have HCV : Hid (cmpV v a = cv) := hcv
  clear hcv
  generalize hbr : (decide (cv < 0)) = br
  have HBR : Hid (_ = br) := hbr
  clear hbr
  go_enter Tryz.func168, Tryz.ntmps168
  go_wp2_with fail
  refine (order_is v a _ _ hv ha HCV.out).mono ?_
  rintro e w1 ⟨r, rfl, hS, hb⟩
  obtain ⟨hc1, hf1⟩ := bcell hb
  have hE : Ext w w1 := (((Ext.refl _).alloc _).alloc _).trans hb
  have hz : w.heap.size + 1 < w1.heap.size := by have := hb.le; simp at this; omega
  clear hb
  go_wp2_with fail
  go_ret
  exact ⟨ret_bool (by rw [← HBR.out]; simp only [Sgn] at hS; rw [decide_eq_decide]; omega), hE⟩

set_option maxHeartbeats 400000 in
theorem met_4 (t : Int) (a b v : Vl) (w : World) (ha : a.s.size ≤ 9223372036854775807) (hv : v.s.size ≤ 9223372036854775807) :
    Calls Tryz.prog 168 #[.agg #[.int .i64 t, .int .i64 4, .int .i64 a.n, .string a.s, .int .i64 b.n, .string b.s], .agg #[.int .i64 v.n, .string v.s]] w fun e w' => e = .returned (.bool (decide (cmpV v a ≤ 0))) ∧ Ext w w' := by
  generalize hcv : cmpV v a = cv
  have HCV : Hid (cmpV v a = cv) := hcv
  clear hcv
  generalize hbr : (decide (cv ≤ 0)) = br
  have HBR : Hid (_ = br) := hbr
  clear hbr
  go_enter Tryz.func168, Tryz.ntmps168
  go_wp2_with fail
  refine (order_is v a _ _ hv ha HCV.out).mono ?_
  rintro e w1 ⟨r, rfl, hS, hb⟩
  obtain ⟨hc1, hf1⟩ := bcell hb
  have hE : Ext w w1 := (((Ext.refl _).alloc _).alloc _).trans hb
  have hz : w.heap.size + 1 < w1.heap.size := by have := hb.le; simp at this; omega
  clear hb
  go_wp2_with fail
  go_ret
  exact ⟨ret_bool (by rw [← HBR.out]; simp only [Sgn] at hS; rw [decide_eq_decide]; omega), hE⟩

set_option maxHeartbeats 400000 in
theorem met_5 (t : Int) (a b v : Vl) (w : World) (ha : a.s.size ≤ 9223372036854775807) (hv : v.s.size ≤ 9223372036854775807) :
    Calls Tryz.prog 168 #[.agg #[.int .i64 t, .int .i64 5, .int .i64 a.n, .string a.s, .int .i64 b.n, .string b.s], .agg #[.int .i64 v.n, .string v.s]] w fun e w' => e = .returned (.bool (decide (0 < cmpV v a))) ∧ Ext w w' := by
  generalize hcv : cmpV v a = cv
  have HCV : Hid (cmpV v a = cv) := hcv
  clear hcv
  generalize hbr : (decide (0 < cv)) = br
  have HBR : Hid (_ = br) := hbr
  clear hbr
  go_enter Tryz.func168, Tryz.ntmps168
  go_wp2_with fail
  refine (order_is v a _ _ hv ha HCV.out).mono ?_
  rintro e w1 ⟨r, rfl, hS, hb⟩
  obtain ⟨hc1, hf1⟩ := bcell hb
  have hE : Ext w w1 := (((Ext.refl _).alloc _).alloc _).trans hb
  have hz : w.heap.size + 1 < w1.heap.size := by have := hb.le; simp at this; omega
  clear hb
  go_wp2_with fail
  go_ret
  exact ⟨ret_bool (by rw [← HBR.out]; simp only [Sgn] at hS; rw [decide_eq_decide]; omega), hE⟩

set_option maxHeartbeats 400000 in
theorem met_6 (t : Int) (a b v : Vl) (w : World) (ha : a.s.size ≤ 9223372036854775807) (hv : v.s.size ≤ 9223372036854775807) :
    Calls Tryz.prog 168 #[.agg #[.int .i64 t, .int .i64 6, .int .i64 a.n, .string a.s, .int .i64 b.n, .string b.s], .agg #[.int .i64 v.n, .string v.s]] w fun e w' => e = .returned (.bool (decide (0 ≤ cmpV v a))) ∧ Ext w w' := by
  generalize hcv : cmpV v a = cv
  have HCV : Hid (cmpV v a = cv) := hcv
  clear hcv
  generalize hbr : (decide (0 ≤ cv)) = br
  have HBR : Hid (_ = br) := hbr
  clear hbr
  go_enter Tryz.func168, Tryz.ntmps168
  go_wp2_with fail
  refine (order_is v a _ _ hv ha HCV.out).mono ?_
  rintro e w1 ⟨r, rfl, hS, hb⟩
  obtain ⟨hc1, hf1⟩ := bcell hb
  have hE : Ext w w1 := (((Ext.refl _).alloc _).alloc _).trans hb
  have hz : w.heap.size + 1 < w1.heap.size := by have := hb.le; simp at this; omega
  clear hb
  go_wp2_with fail
  go_ret
  exact ⟨ret_bool (by rw [← HBR.out]; simp only [Sgn] at hS; rw [decide_eq_decide]; omega), hE⟩

set_option maxHeartbeats 400000 in
theorem met_9 (t : Int) (a b v : Vl) (w : World) (ha : a.s.size ≤ 9223372036854775807) (hv : v.s.size ≤ 9223372036854775807) :
    Calls Tryz.prog 168 #[.agg #[.int .i64 t, .int .i64 9, .int .i64 a.n, .string a.s, .int .i64 b.n, .string b.s], .agg #[.int .i64 v.n, .string v.s]] w fun e w' => e = .returned (.bool true) ∧ Ext w w' := by
  generalize hcv : cmpV v a = cv
  have HCV : Hid (cmpV v a = cv) := hcv
  clear hcv
  generalize hbr : true = br
  have HBR : Hid (_ = br) := hbr
  clear hbr
  go_enter Tryz.func168, Tryz.ntmps168
  go_wp2_with fail
  refine (order_is v a _ _ hv ha HCV.out).mono ?_
  rintro e w1 ⟨r, rfl, hS, hb⟩
  obtain ⟨hc1, hf1⟩ := bcell hb
  have hE : Ext w w1 := (((Ext.refl _).alloc _).alloc _).trans hb
  have hz : w.heap.size + 1 < w1.heap.size := by have := hb.le; simp at this; omega
  clear hb
  go_wp2_with fail
  go_ret
  exact ⟨ret_bool (by rw [← HBR.out]), hE⟩

set_option maxHeartbeats 400000 in
theorem met_7 (t : Int) (a b v : Vl) (w : World) (ha : a.s.size ≤ 9223372036854775807) (hbs : b.s.size ≤ 9223372036854775807) (hv : v.s.size ≤ 9223372036854775807) :
    Calls Tryz.prog 168 #[.agg #[.int .i64 t, .int .i64 7, .int .i64 a.n, .string a.s, .int .i64 b.n, .string b.s], .agg #[.int .i64 v.n, .string v.s]] w fun e w' => e = .returned (.bool (decide (0 ≤ cmpV v a) && decide (cmpV v b ≤ 0))) ∧ Ext w w' := by
  generalize hcv : cmpV v a = cv
  have HCV : Hid (cmpV v a = cv) := hcv
  clear hcv
  generalize hcu : cmpV v b = cu
  have HCU : Hid (cmpV v b = cu) := hcu
  clear hcu
  generalize hbr : (decide (0 ≤ cv) && decide (cu ≤ 0)) = br
  have HBR : Hid (_ = br) := hbr
  clear hbr
  go_enter Tryz.func168, Tryz.ntmps168
  go_wp2_with fail
  refine (order_is v a _ _ hv ha HCV.out).mono ?_
  rintro e w1 ⟨r, rfl, hS, hb⟩
  obtain ⟨hc1, hf1⟩ := bcell hb
  have hE : Ext w w1 := (((Ext.refl _).alloc _).alloc _).trans hb
  have hz : w.heap.size + 1 < w1.heap.size := by have := hb.le; simp at this; omega
  clear hb
  by_cases h0 : 0 ≤ r
  · go_wp2_with fail
    refine (order_is v b _ _ hv hbs HCU.out).mono ?_
    rintro e w2 ⟨r2, rfl, hS2, hb2⟩
    go_wp2_with fail
    go_ret
    refine ⟨ret_bool ?_, hE.trans hb2⟩
    rw [← HBR.out]; simp only [Sgn] at hS hS2; rw [Bool.eq_iff_iff]; simp; omega
  · go_wp2_with fail
    go_ret
    refine ⟨ret_bool ?_, hE⟩
    rw [← HBR.out]; simp only [Sgn] at hS; symm; simp; omega

end Go.Proofs.YtpbblaeamddbgaaGreat
namespace Go.Proofs.YtpbblaeamddbgaaGreat
open Go.RowKit

theorem pre_eq (v a : ByteArray) : ((v.extract 0 a.size).toList == a.toList) = Lib.hasPrefix v.data.toList a.data.toList := by
  rw [ByteArray.toList_eq, ByteArray.toList_eq]
  have e : (v.extract 0 a.size).data.toList = v.data.toList.take a.data.toList.length := by
    simp [ByteArray.data_extract]
  rw [e, Bool.eq_iff_iff, beq_iff_eq]
  unfold Lib.hasPrefix
  rw [List.isPrefixOf_iff_prefix, List.prefix_iff_eq_take, eq_comm]
theorem pre_no (v a : ByteArray) (h : v.size < a.size) : Lib.hasPrefix v.data.toList a.data.toList = false := by
  rw [Bool.eq_false_iff]
  intro h'
  have h2 := (List.isPrefixOf_iff_prefix.1 h').length_le
  have e1 : v.data.toList.length = v.size := rfl
  have e2 : a.data.toList.length = a.size := rfl
  omega

set_option maxHeartbeats 400000 in
theorem met_8 (t : Int) (a b v : Vl) (w : World) (ha : a.s.size ≤ 9223372036854775807) (hv : v.s.size ≤ 9223372036854775807) :
    Calls Tryz.prog 168 #[.agg #[.int .i64 t, .int .i64 8, .int .i64 a.n, .string a.s, .int .i64 b.n, .string b.s], .agg #[.int .i64 v.n, .string v.s]] w fun e w' => e = .returned (.bool (Lib.hasPrefix v.s.data.toList a.s.data.toList)) ∧ Ext w w' := by
  generalize hbr : (Lib.hasPrefix v.s.data.toList a.s.data.toList) = br
  have HBR : Hid (_ = br) := hbr
  clear hbr
  go_enter Tryz.func168, Tryz.ntmps168
  go_wp2_with fail
  refine (order_is v a _ _ hv ha rfl).mono ?_
  rintro e w1 ⟨r, rfl, hS, hb⟩
  obtain ⟨hc1, hf1⟩ := bcell hb
  have hE : Ext w w1 := (((Ext.refl _).alloc _).alloc _).trans hb
  have hz : w.heap.size + 1 < w1.heap.size := by have := hb.le; simp at this; omega
  clear hb
  by_cases h0 : (a.s.size : Int) ≤ v.s.size
  · go_wp2_with fail
    go_quiet (fail)
    go_wp2_with fail
    go_ret
    exact ⟨ret_bool (by rw [← HBR.out, pre_eq]), hE.trans (drewN_ext _ _)⟩
  · have hd : decide (a.s.size ≤ v.s.size) = false := by rw [decide_eq_false_iff_not]; omega
    go_wp2_with fail
    go_quiet (fail)
    go_wp2_with fail
    go_ret
    exact ⟨ret_bool (by rw [← HBR.out, pre_no _ _ (by omega)]), hE.trans (drewN_ext _ _)⟩

theorem holds_any (c : Cd) (v : Vl) (w : World) (h1 : 1 ≤ c.kind) (h9 : c.kind ≤ 9) :
    Calls Tryz.prog 84 #[.agg #[.int .i64 c.attr, .int .i64 c.kind, .int .i64 c.a.n, .string c.a.s, .int .i64 c.b.n, .string c.b.s], .agg #[.int .i64 v.n, .string v.s]] w fun e w' => e = .returned (.bool (metB c v)) ∧ Ext w w' := by
  obtain ⟨t, k, a, b⟩ := c
  simp only at *
  rcases (show k = 1 ∨ k = 2 ∨ k = 3 ∨ k = 4 ∨ k = 5 ∨ k = 6 ∨ k = 7 ∨ k = 8 ∨ k = 9 by omega) with rfl | rfl | rfl | rfl | rfl | rfl | rfl | rfl | rfl
  · exact holds_1 t a b v w
  · exact holds_2 t a b v w
  · exact holds_3 t a b v w
  · exact holds_4 t a b v w
  · exact holds_5 t a b v w
  · exact holds_6 t a b v w
  · exact holds_7 t a b v w
  · exact holds_8 t a b v w
  · exact holds_9 t a b v w

theorem met_any (c : Cd) (v : Vl) (w : World) (h1 : 1 ≤ c.kind) (h9 : c.kind ≤ 9) (ha : c.a.s.size ≤ 9223372036854775807) (hb : c.b.s.size ≤ 9223372036854775807) (hv : v.s.size ≤ 9223372036854775807) :
    Calls Tryz.prog 168 #[.agg #[.int .i64 c.attr, .int .i64 c.kind, .int .i64 c.a.n, .string c.a.s, .int .i64 c.b.n, .string c.b.s], .agg #[.int .i64 v.n, .string v.s]] w fun e w' => e = .returned (.bool (metB c v)) ∧ Ext w w' := by
  obtain ⟨t, k, a, b⟩ := c
  simp only at *
  rcases (show k = 1 ∨ k = 2 ∨ k = 3 ∨ k = 4 ∨ k = 5 ∨ k = 6 ∨ k = 7 ∨ k = 8 ∨ k = 9 by omega) with rfl | rfl | rfl | rfl | rfl | rfl | rfl | rfl | rfl
  · exact met_1 t a b v w ha hv
  · exact met_2 t a b v w ha hv
  · exact met_3 t a b v w ha hv
  · exact met_4 t a b v w ha hv
  · exact met_5 t a b v w ha hv
  · exact met_6 t a b v w ha hv
  · exact met_7 t a b v w ha hb hv
  · exact met_8 t a b v w ha hv
  · exact met_9 t a b v w ha hv

end Go.Proofs.YtpbblaeamddbgaaGreat
namespace Go.Proofs.YtpbblaeamddbgaaGreat
open Go.RowKit

/-- The value of an attribute among fields. -/
def fo (l : List Fd) (a : Int) : Option Vl := (l.find? (fun f => f.attr == a)).map (·.v)
/-- May a field be, behind others? -/
def fieldOK (sch : List Int) (pre : List Fd) (f : Fd) : Bool := inR f.attr sch.length && (fitsB (sch.getD f.attr.toNat 0) f.v && (fo pre f.attr).isNone)
theorem fo_nil (a : Int) : fo [] a = none := rfl
theorem fo_succ (l : List Fd) (k : Nat) (a : Int) (hk : k < l.length) : fo (l.take (k + 1)) a = (fo (l.take k) a).or (if l[k].attr == a then some l[k].v else none) := by
  unfold fo
  rw [List.take_succ_eq_append_getElem hk, List.find?_append]
  cases h : (l.take k).find? (fun f => f.attr == a) with
  | some x => simp
  | none =>
    by_cases e : (l[k].attr == a) = true
    · simp [e]
    · simp [e]
theorem none_succ (l : List Fd) (k : Nat) (a : Int) (hk : k < l.length) : (fo (l.take (k + 1)) a).isNone = ((fo (l.take k) a).isNone && (l[k].attr != a)) := by
  rw [fo_succ l k a hk]
  cases h : fo (l.take k) a with
  | some x => simp
  | none =>
    by_cases e : (l[k].attr == a) = true
    · simp [e, bne]
    · simp [e, bne]

/-- The place of the first field that may not be; the length, if there is none. -/
def FirstBad (sch : List Int) (l : List Fd) (q : Nat) : Prop := q ≤ l.length ∧ (∀ j (hj : j < l.length), j < q → fieldOK sch (l.take j) l[j] = true) ∧ ∀ hq : q < l.length, fieldOK sch (l.take q) l[q] = false
def placeOf (l : List Fd) (q : Nat) : Int := if q < l.length then (q : Int) else -1
theorem ex_bad (sch : List Int) (l : List Fd) : ∃ q, FirstBad sch l q := by
  have h : ∃ q, q = l.length ∨ ∃ hq : q < l.length, fieldOK sch (l.take q) l[q] = false := ⟨l.length, Or.inl rfl⟩
  obtain ⟨q, hq, hmin⟩ := exists_least h
  have hle : q ≤ l.length := by
    rcases hq with rfl | ⟨hq, _⟩ <;> omega
  refine ⟨q, hle, fun j hj hlt => ?_, fun hq' => ?_⟩
  · cases hf : fieldOK sch (l.take j) l[j]
    · have := hmin j (Or.inr ⟨hj, hf⟩); omega
    · rfl
  · rcases hq with rfl | ⟨_, hf⟩
    · omega
    · exact hf

end Go.Proofs.YtpbblaeamddbgaaGreat
namespace Go.Proofs.YtpbblaeamddbgaaGreat
open Go.RowKit

theorem fieldOK_in (sch : List Int) (pre : List Fd) (a : Nat) (v : Vl) (T : Int) (r : Bool) (h : a < sch.length) (hT : sch.getD a 0 = T) (hr : fitsB T v = r) : fieldOK sch pre ⟨a, v⟩ = (r && (fo pre a).isNone) := by
  have : inR (a : Int) sch.length = true := by simp [inR]; omega
  simp only [fieldOK, this, Int.toNat_natCast, hT, hr, Bool.true_and]
theorem fieldOK_out (sch : List Int) (pre : List Fd) (a : Int) (v : Vl) (h : ¬ (0 ≤ a ∧ a < sch.length)) : fieldOK sch pre ⟨a, v⟩ = false := by
  have : inR a sch.length = false := by simp only [inR, decide_eq_false_iff_not]; exact h
  simp [fieldOK, this]

set_option maxHeartbeats 1600000 in
set_option maxRecDepth 100000 in
theorem rEvent_any (rb b o cap : Nat) (sch : List Int) (ao : Option Addr) (lcap : Nat) (l : List Fd) (w : World) (_hn : sch.length ≤ 6) (_hl : l.length * 32 ≤ 140737488351232) (hr : w.cell? ⟨rb, 0, none⟩ = some (.slice (some ⟨b, o, none⟩) sch.length cap)) (hs : Ints w b o sch) (hf : Fxs w ao l)
    (q : Nat) (hq : FirstBad sch l q) :
    Calls Tryz.prog 118 #[.pointer (some ⟨rb, 0, none⟩), .slice ao l.length lcap] w fun e w' => e = .returned (.int .i64 (placeOf l q)) ∧ Ext w w' := by
  obtain ⟨hql, hqa, hqb⟩ := hq
  have HQ : Hid ((∀ j (hj : j < l.length), j < q → fieldOK sch (l.take j) l[j] = true) ∧ ∀ hq : q < l.length, fieldOK sch (l.take q) l[q] = false) := ⟨hqa, hqb⟩
  clear hqa hqb
  go_enter Tryz.func118, Tryz.ntmps118
  go_wp2
  go_loopw [5] (fun i wr => ∃ k : Nat, k ≤ q ∧ i = .int .i64 k ∧ Ext w wr) (fun i _ => l.length - (intOf i).toNat)
  case atStart => exact ⟨0, Nat.zero_le _, rfl, Ext.refl _⟩
  case round =>
    obtain ⟨k, hk, rfl, hE⟩ := hrel
    obtain ⟨wo, hwo⟩ : ∃ wo : World, wo = wr := ⟨_, rfl⟩
    subst hwo
    by_cases hlt : k < l.length
    · obtain ⟨fb, fo', rfl, hF⟩ := hf (by omega)
      obtain ⟨c0, c1, c2⟩ := hF.ext hE k hlt
      have hrr := hE.cell hr
      have hSS := hs.ext hE
      have hFF := hF.ext hE
      have hOK : Hid ((k < q → fieldOK sch (l.take k) l[k] = true) ∧ (k = q → fieldOK sch (l.take k) l[k] = false)) := ⟨fun h => HQ.out.1 k hlt h, fun h => by subst h; exact HQ.out.2 hlt⟩
      have hpl : Hid (k = q → placeOf l q = (k : Int)) := fun h => by subst h; simp [placeOf, hlt]
      clear hF hr hs HQ hf
      generalize hfd : l[k] = fd at *
      have HFD : Hid (l[k] = fd) := hfd
      clear hfd
      obtain ⟨at_, fv⟩ := fd
      simp only at c0 c1 c2
      by_cases ha : 0 ≤ at_ ∧ at_ < sch.length
      · obtain ⟨ha0, ha1⟩ := ha
        obtain ⟨a, rfl⟩ := Int.eq_ofNat_of_zero_le ha0
        have hal : a < sch.length := by omega
        have hc := hSS a hal
        generalize hT : sch.getD a 0 = T at hc
        have HT : Hid (sch.getD a 0 = T) := hT
        clear hT hSS
        have hd0 : decide ((a : Int) < 0) = false := by rw [decide_eq_false_iff_not]; omega
        have hd1 : decide (sch.length ≤ a) = false := by rw [decide_eq_false_iff_not]; omega
        go_wp2_with fail
        go_quiet (fail)
        go_wp2_with fail
        go_region_held3 (fun w' => w'.cell? ⟨rb, 0, none⟩ = some (.slice (some ⟨b, o, none⟩) sch.length cap) ∧ w'.cell? ⟨fb, fo' + k * 3, none⟩ = some (.int .i64 a) ∧ w'.cell? ⟨b, o + a, none⟩ = some (.int .i64 T) ∧ w'.cell? ⟨fb, fo' + k * 3 + 1, none⟩ = some (.int .i64 fv.n) ∧ w'.cell? ⟨fb, fo' + k * 3 + 2, none⟩ = some (.string fv.s)) (first | go_keep | exact ⟨hbb.cell (by exact hrr), hbb.cell (by exact c0), hbb.cell (by exact hc), hbb.cell (by exact c1), hbb.cell (by exact c2)⟩)
          (first | (go_at_call 166; refine (rfits_any _ _ _ _).mono ?_; rintro e w' ⟨rfl, hbb⟩))
        obtain ⟨w1, hw1⟩ : ∃ w1 : World, w1 = w' := ⟨_, rfl⟩
        subst hw1
        have hE1 : Ext w w1 := (hE.trans (drewN_ext _ _)).trans hbb
        have hEo : Ext wo w1 := (drewN_ext _ _).trans hbb
        clear hbb hE
        generalize hrr' : fitsB T { n := fv.n, s := fv.s } = r
        have HR : Hid (fitsB T fv = r) := hrr'
        clear hrr'
        go_wp2
        go_loopw [6, 7] (fun ok i wr => ∃ j : Nat, j ≤ k ∧ i = .int .i64 j ∧ ok = .bool (r && (fo (l.take j) a).isNone) ∧ Ext w1 wr) (fun _ i _ => k - (intOf i).toNat)
        case atStart => exact ⟨0, Nat.zero_le _, rfl, by simp [fo_nil], Ext.refl _⟩
        case round =>
          obtain ⟨j, hj, rfl, rfl, hE2⟩ := hrel
          generalize hB : (r && (fo (l.take j) a).isNone) = B
          have HB : Hid ((r && (fo (l.take j) a).isNone) = B) := hB
          clear hB
          by_cases hjk : j < k
          · have hjl : j < l.length := by omega
            obtain ⟨d0, d1, d2⟩ := hFF.ext (hEo.trans hE2) j hjl
            have e0 := (hEo.trans hE2).cell c0
            clear d1 d2
            generalize hx : l[j].attr = x at d0
            have HX : Hid (l[j].attr = x) := hx
            clear hx hFF c0 c1 c2 hrr hc
            have hstep : Hid ((r && (fo (l.take (j + 1)) a).isNone) = (B && (x != (a : Int)))) := by
              show _ = _
              rw [none_succ l j a hjl, HX.out, ← Bool.and_assoc, HB.out]
            cases B with
            | false =>
              go_wp2_with fail
              go_quiet (fail)
              go_wp2
              go_roundw
              case rel => exact ⟨j + 1, by omega, by go_num, by rw [hstep.out]; rfl, hE2.trans (drewN_ext _ _)⟩
              case measure => simp [intOf]; omega
            | true =>
              go_wp2_with fail
              go_quiet (fail)
              go_wp2
              go_roundw
              case rel => exact ⟨j + 1, by omega, by go_num, by rw [hstep.out]; simp, hE2.trans (drewN_ext _ _)⟩
              case measure => simp [intOf]; omega
          · obtain rfl : j = k := by omega
            have hfin : Hid (fieldOK sch (l.take j) ⟨(a : Int), fv⟩ = B) := by
              show _ = _
              rw [fieldOK_in sch _ a fv T r hal HT.out HR.out, HB.out]
            have hEw := hE1.trans hE2
            clear hFF c0 c1 c2 hrr hc
            cases B with
            | false =>
              have hkq : j = q := by
                rcases Nat.lt_or_ge j q with h | h
                · have h1 := hOK.out.1 h
                  rw [hfin.out] at h1; cases h1
                · omega
              have hp := hpl.out hkq
              have HP : Hid (placeOf l q = (j : Int)) := hp
              clear hp hkq
              go_wp2
              go_ret
              exact ⟨ret_int HP.out.symm, hEw⟩
            | true =>
              have hkq : j < q := by
                rcases Nat.lt_or_ge j q with h | h
                · exact h
                · have h1 := hOK.out.2 (by omega)
                  rw [hfin.out] at h1; cases h1
              go_wp2
              go_roundw
              case rel => exact ⟨j + 1, by omega, by go_num, hEw⟩
              case measure => simp [intOf]; omega
      · have hfin := fieldOK_out sch (l.take k) at_ fv ha
        have hkq : k = q := by
          rcases Nat.lt_or_ge k q with h | h
          · have h1 := hOK.out.1 h
            rw [hfin] at h1; cases h1
          · omega
        have HP : Hid (placeOf l q = (k : Int)) := hpl.out hkq
        clear hkq hfin hFF hSS c1 c2
        by_cases h0 : at_ < 0
        · go_wp2_with fail
          go_quiet (fail)
          go_wp2
          go_ret
          exact ⟨ret_int HP.out.symm, hE.trans (drewN_ext _ _)⟩
        · have h1 : (sch.length : Int) ≤ at_ := by omega
          go_wp2_with fail
          go_quiet (fail)
          go_wp2
          go_ret
          exact ⟨ret_int HP.out.symm, hE.trans (drewN_ext _ _)⟩
    · have HP : Hid (placeOf l q = -1) := by show _ = _; unfold placeOf; rw [if_neg (by omega)]
      clear hf hs hr
      go_wp2
      go_ret
      exact ⟨ret_int HP.out.symm, hE⟩
end Go.Proofs.YtpbblaeamddbgaaGreat
namespace Go.Proofs.YtpbblaeamddbgaaGreat
open Go.RowKit

def condB (f : Option Vl) (c : Cd) : Bool := match f with
  | none => false
  | some v => metB c v
def meetsB (l : List Cd) (f : Int → Option Vl) : Bool := l.all (fun c => condB (f c.attr) c)
theorem meets_no {l : List Cd} {f : Int → Option Vl} {k : Nat} (hk : k < l.length) (h : condB (f l[k].attr) l[k] = false) : meetsB l f = false := by
  unfold meetsB
  rw [List.all_eq_false]
  exact ⟨l[k], List.getElem_mem hk, by simp [h]⟩
theorem meets_yes {l : List Cd} {f : Int → Option Vl} (h : ∀ j (hj : j < l.length), condB (f l[j].attr) l[j] = true) : meetsB l f = true := by
  unfold meetsB
  rw [List.all_eq_true]
  intro x hx
  obtain ⟨j, hj, rfl⟩ := List.getElem_of_mem hx
  exact h j hj

/-- Conditions that can be asked. -/
def CdsOK (l : List Cd) : Prop := ∀ j (hj : j < l.length), 0 ≤ l[j].attr ∧ l[j].attr < 6 ∧ 1 ≤ l[j].kind ∧ l[j].kind ≤ 9 ∧ l[j].a.s.size ≤ 9223372036854775807 ∧ l[j].b.s.size ≤ 9223372036854775807
/-- Fields that can be asked. -/
def FdsOK (l : List Fd) : Prop := ∀ j (hj : j < l.length), l[j].v.s.size ≤ 9223372036854775807 ∧ (fo (l.take j) l[j].attr).isNone = true

theorem met_is (c : Cd) (v : Vl) (w : World) (r : Bool) (h1 : 1 ≤ c.kind) (h9 : c.kind ≤ 9) (ha : c.a.s.size ≤ 9223372036854775807) (hb : c.b.s.size ≤ 9223372036854775807) (hv : v.s.size ≤ 9223372036854775807) (hr : metB c v = r) :
    Calls Tryz.prog 168 #[.agg #[.int .i64 c.attr, .int .i64 c.kind, .int .i64 c.a.n, .string c.a.s, .int .i64 c.b.n, .string c.b.s], .agg #[.int .i64 v.n, .string v.s]] w fun e w' => e = .returned (.bool r) ∧ Ext w w' := by
  subst hr; exact met_any c v w h1 h9 ha hb hv
theorem holds_is (c : Cd) (v : Vl) (w : World) (r : Bool) (h1 : 1 ≤ c.kind) (h9 : c.kind ≤ 9) (hr : metB c v = r) :
    Calls Tryz.prog 84 #[.agg #[.int .i64 c.attr, .int .i64 c.kind, .int .i64 c.a.n, .string c.a.s, .int .i64 c.b.n, .string c.b.s], .agg #[.int .i64 v.n, .string v.s]] w fun e w' => e = .returned (.bool r) ∧ Ext w w' := by
  subst hr; exact holds_any c v w h1 h9

theorem cond_succ (ev : List Fd) (hU : FdsOK ev) (j : Nat) (hj : j < ev.length) (c : Cd) : condB (fo (ev.take (j + 1)) c.attr) c = if ev[j].attr == c.attr then metB c ev[j].v else condB (fo (ev.take j) c.attr) c := by
  rw [fo_succ ev j c.attr hj]
  by_cases e : (ev[j].attr == c.attr) = true
  · have h := (hU j hj).2
    have e' : ev[j].attr = c.attr := by simpa using e
    rw [e'] at h
    rw [if_pos e, if_pos e, Option.isNone_iff_eq_none.1 h]
    rfl
  · rw [if_neg e, if_neg e]
    simp

set_option maxHeartbeats 1600000 in
set_option maxRecDepth 100000 in
theorem rmeets_any (ao : Option Addr) (cap : Nat) (l : List Cd) (bo : Option Addr) (ecap : Nat) (ev : List Fd) (w : World) (_hl : l.length ≤ 8) (_he : ev.length * 32 ≤ 140737488351232) (hc : Cxs w ao l) (hf : Fxs w bo ev) (hC : CdsOK l) (hU : FdsOK ev) :
    Calls Tryz.prog 119 #[.slice ao l.length cap, .slice bo ev.length ecap] w fun e w' => e = .returned (.bool (meetsB l (fo ev))) ∧ Ext w w' := by
  have HC : Hid (CdsOK l) := hC
  have HU : Hid (FdsOK ev) := hU
  clear hC hU
  go_enter Tryz.func119, Tryz.ntmps119
  go_wp2
  go_loopw [5] (fun i wr => ∃ k : Nat, k ≤ l.length ∧ i = .int .i64 k ∧ (∀ j (hj : j < l.length), j < k → condB (fo ev l[j].attr) l[j] = true) ∧ Ext w wr) (fun i _ => l.length - (intOf i).toNat)
  case atStart => exact ⟨0, Nat.zero_le _, rfl, fun j _ h => absurd h (Nat.not_lt_zero _), Ext.refl _⟩
  case round =>
    obtain ⟨k, hk, rfl, hall, hE⟩ := hrel
    have HA : Hid (∀ j (hj : j < l.length), j < k → condB (fo ev l[j].attr) l[j] = true) := hall
    clear hall
    obtain ⟨wo, hwo⟩ : ∃ wo : World, wo = wr := ⟨_, rfl⟩
    subst hwo
    by_cases hlt : k < l.length
    · obtain ⟨b, o, rfl, hD⟩ := hc (by omega)
      have hDo := hD.ext hE k hlt
      have hfo := hf.ext hE
      have hOKc := HC.out k hlt
      clear hD hc hf
      have hno : Hid (condB (fo ev l[k].attr) l[k] = false → meetsB l (fo ev) = false) := fun h => meets_no hlt h
      have hyes : Hid (condB (fo ev l[k].attr) l[k] = true → ∀ j (hj : j < l.length), j < k + 1 → condB (fo ev l[j].attr) l[j] = true) := fun h j hj hjk => by
        rcases Nat.lt_or_ge j k with h' | h'
        · exact HA.out j hj h'
        · obtain rfl : j = k := by omega
          exact h
      generalize l[k] = c at *
      obtain ⟨h0, h1, h2, h3, h4, h5⟩ := hDo
      obtain ⟨_, _, ok1, ok9, oka, okb⟩ := hOKc
      go_wp2
      go_loopw [6, 7] (fun fd i wr => ∃ j : Nat, j ≤ ev.length ∧ i = .int .i64 j ∧ fd = .bool (condB (fo (ev.take j) c.attr) c) ∧ Ext wo wr) (fun _ i _ => ev.length - (intOf i).toNat)
      case atStart => exact ⟨0, Nat.zero_le _, rfl, rfl, Ext.refl _⟩
      case round =>
        obtain ⟨j, hj, rfl, rfl, hE2⟩ := hrel
        generalize hB : condB (fo (ev.take j) c.attr) c = B
        have HB : Hid (condB (fo (ev.take j) c.attr) c = B) := hB
        clear hB
        by_cases hjl : j < ev.length
        · obtain ⟨fb, fo', rfl, hF⟩ := hfo (by omega)
          obtain ⟨d0, d1, d2⟩ := hF.ext hE2 j hjl
          have e0 := hE2.cell h0
          have e1 := hE2.cell h1
          have e2 := hE2.cell h2
          have e3 := hE2.cell h3
          have e4 := hE2.cell h4
          have e5 := hE2.cell h5
          have hz := (HU.out j hjl).1
          have hst : Hid _ := cond_succ ev HU.out j hjl c
          clear hfo hF h0 h1 h2 h3 h4 h5
          generalize ev[j] = fd at *
          obtain ⟨fa, fv⟩ := fd
          simp only at d0 d1 d2 hz hst
          by_cases hea : fa = c.attr
          · have hbe : (fa == c.attr) = true := by simpa using hea
            have hst2 : Hid (condB (fo (ev.take (j + 1)) c.attr) c = metB c fv) := by
              show _ = _
              rw [hst.out, if_pos hbe]
            clear hst hea
            go_wp2_with fail
            go_quiet (fail)
            go_wp2_with fail
            go_region_held3 (fun w' => w'.cell? ⟨b, o + k * 6, none⟩ = some (.int .i64 c.attr) ∧ w'.cell? ⟨b, o + k * 6 + 1, none⟩ = some (.int .i64 c.kind) ∧ w'.cell? ⟨b, o + k * 6 + 2, none⟩ = some (.int .i64 c.a.n) ∧ w'.cell? ⟨b, o + k * 6 + 3, none⟩ = some (.string c.a.s) ∧ w'.cell? ⟨b, o + k * 6 + 4, none⟩ = some (.int .i64 c.b.n) ∧ w'.cell? ⟨b, o + k * 6 + 5, none⟩ = some (.string c.b.s) ∧ w'.cell? ⟨fb, fo' + j * 3 + 1, none⟩ = some (.int .i64 fv.n) ∧ w'.cell? ⟨fb, fo' + j * 3 + 2, none⟩ = some (.string fv.s)) (first | go_keep | exact ⟨hbb.cell (by exact e0), hbb.cell (by exact e1), hbb.cell (by exact e2), hbb.cell (by exact e3), hbb.cell (by exact e4), hbb.cell (by exact e5), hbb.cell (by exact d1), hbb.cell (by exact d2)⟩)
              (first | (go_at_call 168; refine (met_any c fv _ ok1 ok9 oka okb hz).mono ?_; rintro e w' ⟨rfl, hbb⟩))
            go_wp2
            go_roundw
            case rel => exact ⟨j + 1, by omega, by go_num, by rw [hst2.out], (hE2.trans (drewN_ext _ _)).trans hbb⟩
            case measure => simp [intOf]; omega
          · have hbe : (fa == c.attr) = false := by simpa using hea
            have hst2 : Hid (condB (fo (ev.take (j + 1)) c.attr) c = B) := by
              show _ = _
              rw [hst.out, hbe, HB.out]; rfl
            clear hst hea
            go_wp2_with fail
            go_quiet (fail)
            go_wp2
            go_roundw
            case rel => exact ⟨j + 1, by omega, by go_num, by rw [hst2.out], hE2.trans (drewN_ext _ _)⟩
            case measure => simp [intOf]; omega
        · have hB2 : Hid (condB (fo ev c.attr) c = B) := by
            show _ = _
            have e := HB.out
            rwa [List.take_of_length_le (by omega)] at e
          have hEw := hE.trans hE2
          clear hfo h0 h1 h2 h3 h4 h5
          cases B with
          | false =>
            have HP : Hid (meetsB l (fo ev) = false) := hno.out hB2.out
            go_wp2
            go_ret
            exact ⟨ret_bool HP.out.symm, hEw⟩
          | true =>
            go_wp2
            go_roundw
            case rel => exact ⟨k + 1, by omega, by go_num, hyes.out hB2.out, hEw⟩
            case measure => simp [intOf]; omega
    · have HP : Hid (meetsB l (fo ev) = true) := meets_yes fun j hj => HA.out j hj (by omega)
      clear hc hf
      go_wp2
      go_ret
      exact ⟨ret_bool HP.out.symm, hE⟩
end Go.Proofs.YtpbblaeamddbgaaGreat
namespace Go.Proofs.YtpbblaeamddbgaaGreat
open Go.RowKit

def vz : Vl := ⟨0, ⟨#[]⟩⟩
/-- An event laid out by its attributes. -/
def evCells (f : Int → Option Vl) : List Value :=
  [.bool (f 0).isSome, .bool (f 1).isSome, .bool (f 2).isSome, .bool (f 3).isSome, .bool (f 4).isSome, .bool (f 5).isSome,
   .int .i64 ((f 0).getD vz).n, .string ((f 0).getD vz).s, .int .i64 ((f 1).getD vz).n, .string ((f 1).getD vz).s, .int .i64 ((f 2).getD vz).n, .string ((f 2).getD vz).s,
   .int .i64 ((f 3).getD vz).n, .string ((f 3).getD vz).s, .int .i64 ((f 4).getD vz).n, .string ((f 4).getD vz).s, .int .i64 ((f 5).getD vz).n, .string ((f 5).getD vz).s]
theorem ev_has (f : Int → Option Vl) (a : Nat) (h : a < 6) : (evCells f)[a]? = some (.bool (f a).isSome) := by
  rcases (show a = 0 ∨ a = 1 ∨ a = 2 ∨ a = 3 ∨ a = 4 ∨ a = 5 by omega) with rfl | rfl | rfl | rfl | rfl | rfl <;> rfl
theorem ev_n (f : Int → Option Vl) (a : Nat) (h : a < 6) : (evCells f)[6 + a * 2]? = some (.int .i64 ((f a).getD vz).n) := by
  rcases (show a = 0 ∨ a = 1 ∨ a = 2 ∨ a = 3 ∨ a = 4 ∨ a = 5 by omega) with rfl | rfl | rfl | rfl | rfl | rfl <;> rfl
theorem ev_s (f : Int → Option Vl) (a : Nat) (h : a < 6) : (evCells f)[6 + a * 2 + 1]? = some (.string ((f a).getD vz).s) := by
  rcases (show a = 0 ∨ a = 1 ∨ a = 2 ∨ a = 3 ∨ a = 4 ∨ a = 5 by omega) with rfl | rfl | rfl | rfl | rfl | rfl <;> rfl
theorem Row.at {w : World} {g : Nat} {T : TypeId} {l : List Value} (h : Row w g T l) {j : Nat} {v : Value} (hj : l[j]? = some v) : w.cell? ⟨g, j, none⟩ = some v := by
  obtain ⟨h1, h2⟩ := List.getElem?_eq_some_iff.1 hj
  rw [h.cell h1, h2]

end Go.Proofs.YtpbblaeamddbgaaGreat
namespace Go.Proofs.YtpbblaeamddbgaaGreat
open Go.RowKit

theorem Row.range {w : World} {g : Nat} {T : TypeId} {l : List Value} (h : Row w g T l) : w.rangeAt g 0 l := fun j v hv => by
  obtain ⟨h1, h2⟩ := List.getElem?_eq_some_iff.1 hv
  rw [Nat.zero_add, h.cell h1, h2]
theorem Row.there {w : World} {g : Nat} {T : TypeId} {l : List Value} (h : Row w g T l) (n : Nat) (hn : n ≤ l.length) : w.there g 0 n := fun j hj => by
  rw [Nat.zero_add, h.cell (j := j) (by omega)]
  exact ⟨rfl, h.frozen j⟩
theorem row_setCells {g : Nat} {T : TypeId} : ∀ (vs : List Value) (o : Nat) (w : World) (l : List Value), Row w g T l → o + vs.length ≤ l.length → Row (w.setCells g o vs) g T (l.take o ++ vs ++ l.drop (o + vs.length))
  | [], o, w, l, h, _ => by simpa [World.setCells] using h
  | v :: r, o, w, l, h, hl => by
    simp only [List.length_cons] at hl
    have ih := row_setCells r (o + 1) (w.setCell ⟨g, o, none⟩ v) (l.set o v) (h.set o v) (by simp; omega)
    have e := list_seg_step l o v r (by omega)
    rw [e] at ih
    simp only [World.setCells, List.length_cons]
    exact ih
theorem kp_setCells {M : Nat → Prop} {g : Nat} (hM : M g) : ∀ (vs : List Value) (o : Nat) (a w : World), Kp M a w → Kp M a (w.setCells g o vs)
  | [], _, _, _, h => h
  | v :: r, o, a, w, h => by
    simp only [World.setCells]
    exact kp_setCells hM r (o + 1) a _ (h.setCell (fun _ => hM) v)

theorem wpList_load_row {P : Program} {ops : Array Oper} {rest : List Oper} {op : Oper} {a : Act} {w : World} {Q : Exit → Act → World → Prop} (hgd : op.guard = none) (ty : TypeId) (x : Operand) (ho : op.op = .load ty x)
    (g : Nat) (hx : a.eval x = .pointer (some ⟨g, 0, none⟩)) (cs : List Value) (d : TypeDesc) (T : TypeId) (hr : Row w g T cs)
    (hu : P.underlying ty = some d) (hd : d.isRow = true) (hi : (P.info? ty).map (·.size) = some cs.length)
    (h : wpList P ops Q rest (a.put op.dst (.agg cs.toArray)) w) : wpList P ops Q (op :: rest) a w :=
  wpList_load_mid hgd ty x ho g 0 hx cs d hr.range hu hd hi h

theorem wpList_store_row {P : Program} {ops : Array Oper} {rest : List Oper} {op : Oper} {a : Act} {w : World} {Q : Exit → Act → World → Prop} (hgd : op.guard = none) (ty : TypeId) (x y : Operand) (ho : op.op = .store ty x y)
    (g : Nat) (cs cur : List Value) (hx : a.eval x = .pointer (some ⟨g, 0, none⟩)) (hy : a.eval y = .agg cs.toArray) (T : TypeId) (hr : Row w g T cur) (hl : cs.length = cur.length)
    (hi : (P.info? ty).map (·.size) = some cs.length) (h1 : ∀ v ∈ cs, v.oneCell' = true)
    (h : ∀ w', Row w' g T cs → Kp (fun k => k = g) w w' → wpList P ops Q rest (a.put op.dst undef) w') : wpList P ops Q (op :: rest) a w := by
  refine wpList_store_mid hgd ty x y ho g 0 cs.toArray hx hy (by simpa using hr.there cs.length (by omega)) (by simpa using hi) (all_oneCell_toArray h1) ?_
  refine h _ ?_ (kp_setCells (M := fun k => k = g) rfl _ _ _ _ (Kp.refl _ _))
  have := row_setCells (g := g) (T := T) cs 0 w cur hr (by omega)
  simpa [hl] using this

theorem results_cell2 {P : Program} {fn : Func} {p u v : Tmp} {ty : TypeId} (h : fn.results = #[.cell p ty, .tmp u, .tmp v]) (tmps : Array Value) (w : World) (g : Nat) (cs : List Value) (d : TypeDesc) (T : TypeId) (hr : Row w g T cs)
    (hu : P.underlying ty = some d) (hd : d.isRow = true) (hi : (P.info? ty).map (·.size) = some cs.length) (hp : tmps.getD p undef = .pointer (some ⟨g, 0, none⟩)) :
    (results fn tmps).run P w = .ok (.tuple #[.agg cs.toArray, tmps.getD u undef, tmps.getD v undef]) w := by
  have hl := run_loadVar_mid (P := P) w g 0 ty cs d hr.range hu hd hi
  have hp' : tmps[p]?.getD undef = .pointer (some ⟨g, 0, none⟩) := by simpa using hp
  simp only [results, h]
  simp [Result.andThen, hp', asAddr, hl]
theorem results_cell1 {P : Program} {fn : Func} {p u : Tmp} {ty : TypeId} (h : fn.results = #[.cell p ty, .tmp u]) (tmps : Array Value) (w : World) (g : Nat) (cs : List Value) (d : TypeDesc) (T : TypeId) (hr : Row w g T cs)
    (hu : P.underlying ty = some d) (hd : d.isRow = true) (hi : (P.info? ty).map (·.size) = some cs.length) (hp : tmps.getD p undef = .pointer (some ⟨g, 0, none⟩)) :
    (results fn tmps).run P w = .ok (.tuple #[.agg cs.toArray, tmps.getD u undef]) w := by
  have hl := run_loadVar_mid (P := P) w g 0 ty cs d hr.range hu hd hi
  have hp' : tmps[p]?.getD undef = .pointer (some ⟨g, 0, none⟩) := by simpa using hp
  simp only [results, h]
  simp [Result.andThen, hp', asAddr, hl]
theorem results_cell0 {P : Program} {fn : Func} {p : Tmp} {ty : TypeId} (h : fn.results = #[.cell p ty]) (tmps : Array Value) (w : World) (g : Nat) (cs : List Value) (d : TypeDesc) (T : TypeId) (hr : Row w g T cs)
    (hu : P.underlying ty = some d) (hd : d.isRow = true) (hi : (P.info? ty).map (·.size) = some cs.length) (hp : tmps.getD p undef = .pointer (some ⟨g, 0, none⟩)) :
    (results fn tmps).run P w = .ok (.agg cs.toArray) w := by
  have hl := run_loadVar_mid (P := P) w g 0 ty cs d hr.range hu hd hi
  have hp' : tmps[p]?.getD undef = .pointer (some ⟨g, 0, none⟩) := by simpa using hp
  simp only [results, h]
  simp [hp', asAddr, hl]
end Go.Proofs.YtpbblaeamddbgaaGreat
namespace Go.Proofs.YtpbblaeamddbgaaGreat
open Go.RowKit

theorem ev_upd (f g : Int → Option Vl) (a : Nat) (v : Vl) (h : a < 6) (h1 : g a = some v) (h2 : ∀ x : Int, x ≠ a → g x = f x) :
    (((evCells f).set a (.bool true)).set (6 + a * 2) (.int .i64 v.n)).set (6 + a * 2 + 1) (.string v.s) = evCells g := by
  rcases (show a = 0 ∨ a = 1 ∨ a = 2 ∨ a = 3 ∨ a = 4 ∨ a = 5 by omega) with rfl | rfl | rfl | rfl | rfl | rfl
  · have e1 := h2 1 (by decide); have e2 := h2 2 (by decide); have e3 := h2 3 (by decide); have e4 := h2 4 (by decide); have e5 := h2 5 (by decide)
    have e0 : g 0 = some v := h1
    simp [evCells, e0, e1, e2, e3, e4, e5]
  · have e1 := h2 0 (by decide); have e2 := h2 2 (by decide); have e3 := h2 3 (by decide); have e4 := h2 4 (by decide); have e5 := h2 5 (by decide)
    have e0 : g 1 = some v := h1
    simp [evCells, e0, e1, e2, e3, e4, e5]
  · have e1 := h2 0 (by decide); have e2 := h2 1 (by decide); have e3 := h2 3 (by decide); have e4 := h2 4 (by decide); have e5 := h2 5 (by decide)
    have e0 : g 2 = some v := h1
    simp [evCells, e0, e1, e2, e3, e4, e5]
  · have e1 := h2 0 (by decide); have e2 := h2 1 (by decide); have e3 := h2 2 (by decide); have e4 := h2 4 (by decide); have e5 := h2 5 (by decide)
    have e0 : g 3 = some v := h1
    simp [evCells, e0, e1, e2, e3, e4, e5]
  · have e1 := h2 0 (by decide); have e2 := h2 1 (by decide); have e3 := h2 2 (by decide); have e4 := h2 3 (by decide); have e5 := h2 5 (by decide)
    have e0 : g 4 = some v := h1
    simp [evCells, e0, e1, e2, e3, e4, e5]
  · have e1 := h2 0 (by decide); have e2 := h2 1 (by decide); have e3 := h2 2 (by decide); have e4 := h2 3 (by decide); have e5 := h2 4 (by decide)
    have e0 : g 5 = some v := h1
    simp [evCells, e0, e1, e2, e3, e4, e5]
theorem fo_in (l : List Fd) (k : Nat) (hk : k < l.length) (h : (fo (l.take k) l[k].attr).isNone = true) : fo (l.take (k + 1)) l[k].attr = some l[k].v := by
  rw [fo_succ l k _ hk, Option.isNone_iff_eq_none.1 h]; simp
theorem fo_other (l : List Fd) (k : Nat) (hk : k < l.length) (x : Int) (h : x ≠ l[k].attr) : fo (l.take (k + 1)) x = fo (l.take k) x := by
  rw [fo_succ l k _ hk, if_neg (by simpa using fun e => h e.symm)]; simp

theorem Tryz.infoEv : (Tryz.prog.info? 166).map (·.size) = some 18 := by kernel_rfl
theorem evCells_one (f : Int → Option Vl) : ∀ v ∈ evCells f, v.oneCell' = true := by
  intro v hv
  simp only [evCells, List.mem_cons, List.not_mem_nil, or_false] at hv
  rcases hv with rfl | rfl | rfl | rfl | rfl | rfl | rfl | rfl | rfl | rfl | rfl | rfl | rfl | rfl | rfl | rfl | rfl | rfl <;> rfl
theorem row_alloc (w : World) (b : Nat) (T : TypeId) (l : List Value) (cs : Array Value) (hb : b = w.heap.size) (hc : cs = l.toArray) : Row (w.alloc (.cells cs T)) b T l := by
  subst hb; subst hc; exact heap_alloc_new w _
def zCells : List Value := evCells (fun _ => none)

theorem fits_is (k : Int) (v : Vl) (w : World) (r : Bool) (hr : fitsB k v = r) :
    Calls Tryz.prog 125 #[.int .i64 k, .agg #[.int .i64 v.n, .string v.s]] w fun e w' => e = .returned (.bool r) ∧ Ext w w' := by
  subst hr; exact fits_any k v.n v.s w

set_option maxHeartbeats 3200000 in
set_option maxRecDepth 100000 in
theorem readEvent_any (b o cap : Nat) (sch : List Int) (ao : Option Addr) (lcap : Nat) (l : List Fd) (w : World) (hn : sch.length ≤ 6) (_hl : l.length * 32 ≤ 140737488351232) (hs : Ints w b o sch) (hf : Fxs w ao l)
    (q : Nat) (hq : FirstBad sch l q) :
    Calls Tryz.prog 79 #[.slice (some ⟨b, o, none⟩) sch.length cap, .slice ao l.length lcap] w fun e w' => (e = if q < l.length then .returned (.tuple #[.agg zCells.toArray, .int .i64 q, .bool false]) else .returned (.tuple #[.agg (evCells (fo l)).toArray, .int .i64 0, .bool true])) ∧ Ext w w' := by
  obtain ⟨hql, hqa, hqb⟩ := hq
  have HQ : Hid ((∀ j (hj : j < l.length), j < q → fieldOK sch (l.take j) l[j] = true) ∧ ∀ hq : q < l.length, fieldOK sch (l.take q) l[q] = false) := ⟨hqa, hqb⟩
  clear hqa hqb
  generalize hre : (if q < l.length then Ending.returned (.tuple #[.agg zCells.toArray, .int .i64 q, .bool false]) else .returned (.tuple #[.agg (evCells (fo l)).toArray, .int .i64 0, .bool true])) = re
  have HRE : Hid ((if q < l.length then Ending.returned (.tuple #[.agg zCells.toArray, .int .i64 q, .bool false]) else .returned (.tuple #[.agg (evCells (fo l)).toArray, .int .i64 0, .bool true])) = re) := hre
  clear hre
  go_enter Tryz.func79, Tryz.ntmps79
  go_wp2
  go_loopw [12] (fun i wr => ∃ k : Nat, k ≤ q ∧ i = .int .i64 k ∧ Ext w wr ∧ Row wr w.heap.size 166 zCells ∧ Row wr (w.heap.size + 1) 166 (evCells (fo (l.take k)))) (fun i _ => l.length - (intOf i).toNat)
  case atStart => exact ⟨0, Nat.zero_le _, rfl, ((Ext.refl _).alloc _).alloc _, Row.ext (row_alloc _ _ _ _ _ rfl rfl) ((Ext.refl _).alloc _), row_alloc _ _ _ _ _ (by simp) rfl⟩
  case round =>
    obtain ⟨k, hk, rfl, hE, hA, hB⟩ := hrel
    by_cases hlt : k < l.length
    · obtain ⟨fb, fo', rfl, hF⟩ := hf (by omega)
      obtain ⟨c0, c1, c2⟩ := hF.ext hE k hlt
      have hSS := hs.ext hE
      have hOK : Hid ((k < q → fieldOK sch (l.take k) l[k] = true) ∧ (k = q → fieldOK sch (l.take k) l[k] = false)) := ⟨fun h => HQ.out.1 k hlt h, fun h => by subst h; exact HQ.out.2 hlt⟩
      have hbadE : Hid (k = q → Ending.returned (.tuple #[.agg zCells.toArray, .int .i64 k, .bool false]) = re) := fun h => by
        subst h; rw [← HRE.out, if_pos hlt]
      have hin : Hid ((fo (l.take k) l[k].attr).isNone = true → fo (l.take (k + 1)) l[k].attr = some l[k].v) := fo_in l k hlt
      have hot : Hid (∀ x : Int, x ≠ l[k].attr → fo (l.take (k + 1)) x = fo (l.take k) x) := fo_other l k hlt
      clear hF hs HQ hf HRE
      generalize hfd : l[k] = fd at *
      have HFD : Hid (l[k] = fd) := hfd
      clear hfd
      obtain ⟨at_, fv⟩ := fd
      simp only at c0 c1 c2
      generalize hpf : fo (l.take k) = pf at *
      generalize hpg : fo (l.take (k + 1)) = pg at *
      have HPF : Hid (fo (l.take k) = pf) := hpf
      have HPG : Hid (fo (l.take (k + 1)) = pg) := hpg
      clear hpf hpg
      by_cases ha : 0 ≤ at_ ∧ at_ < sch.length
      · obtain ⟨ha0, ha1⟩ := ha
        obtain ⟨a, rfl⟩ := Int.eq_ofNat_of_zero_le ha0
        have hal : a < sch.length := by omega
        have ha6 : a < 6 := by omega
        have hc := hSS a hal
        generalize hT : sch.getD a 0 = T at hc
        have HT : Hid (sch.getD a 0 = T) := hT
        clear hT hSS
        have g0 := hB.at (ev_has pf a ha6)
        have g1 := hB.at (ev_n pf a ha6)
        have g2 := hB.at (ev_s pf a ha6)
        have hal0 : ∀ ob, Ext wr (wr.alloc ob) := fun ob => (Ext.refl wr).alloc ob
        have g0a : ∀ ob, (wr.alloc ob).cell? ⟨w.heap.size + 1, a, none⟩ = _ := fun ob => (hal0 ob).cell g0
        have hca : ∀ ob, (wr.alloc ob).cell? ⟨b, o + a, none⟩ = _ := fun ob => (hal0 ob).cell hc
        have hi1 : (a : Int) < sch.length := by omega
        have hi6 : (a : Int) < 6 := by omega
        have hszA := hA.lt
        have hszB := hB.lt
        clear g0 hc
        cases hsome : pf (a : Int) with
        | some v0 =>
          have hkq : k = q := by
            rcases Nat.lt_or_ge k q with h | h
            · have h1 := hOK.out.1 h
              rw [fieldOK_in sch _ a fv T (fitsB T fv) hal HT.out rfl, HPF.out, hsome] at h1
              simp at h1
            · omega
          have HB2 : Hid _ := hbadE.out hkq
          rw [hsome] at g0a
          simp only [Option.isSome_some] at g0a
          clear hkq hsome g1 g2
          go_wp2_with fail
          go_quiet ((go_at_call 87; exact Calls.quiet_of_same (hasAttr_yes _ _ _ _ _ (by omega) (by omega) (by omega))))
          have hE1 : Ext w _ := (hE.alloc (.cells #[.int .i64 a, .int .i64 fv.n, .string fv.s] 71)).trans (drewN_ext _ nq)
          have hA1 := hA.ext ((hal0 (.cells #[.int .i64 a, .int .i64 fv.n, .string fv.s] 71)).trans (drewN_ext _ nq))
          clear hA hE
          go_wp2_with (first
            | (refine wpList_store_row rfl 166 _ _ rfl w.heap.size zCells zCells rfl rfl 166 hA1 rfl Tryz.infoEv (evCells_one _) ?_; intro w2 hA2 hk2; clear hA1))
          refine bodyPost_ret (results_cell2 (u := 5) (v := 6) Tryz.results79 _ _ _ zCells _ _ hA2 Tryz.underlying166 rfl Tryz.infoEv rfl) rfl ⟨HB2.out, ?_⟩
          exact hE1.kpFresh hk2 (Nat.le_refl _)
        | none =>
          rw [hsome] at g0a
          simp only [Option.isSome_none] at g0a
          have hsomeH : Hid (pf (a : Int) = none) := hsome
          clear hsome
          generalize hB' : fitsB T fv = B
          have HB : Hid (fitsB T fv = B) := hB'
          clear hB'
          have hfin : Hid (fieldOK sch (l.take k) ⟨(a : Int), fv⟩ = B) := by
            show _ = _
            rw [fieldOK_in sch _ a fv T B hal HT.out HB.out, HPF.out, hsomeH.out]; simp
          go_wp2_with fail
          go_region_held3 (fun w' => w'.cell? ⟨wr.heap.size, 0, none⟩ = some (.int .i64 a) ∧ w'.cell? ⟨wr.heap.size, 1, none⟩ = some (.int .i64 fv.n) ∧ w'.cell? ⟨wr.heap.size, 2, none⟩ = some (.string fv.s) ∧ w'.cell? ⟨w.heap.size + 1, a, none⟩ = some (.bool false) ∧ w'.cell? ⟨b, o + a, none⟩ = some (.int .i64 T)) (first | go_keep | exact ⟨hbb.cell (by exact cell_new _ _ _ _ _ rfl rfl), hbb.cell (by exact cell_new _ _ _ _ _ rfl rfl), hbb.cell (by exact cell_new _ _ _ _ _ rfl rfl), hbb.cell (by exact g0a _), hbb.cell (by exact hca _)⟩)
            (first | (go_at_call 87; refine (hasAttr_yes _ _ _ _ _ (by omega) (by omega) (by omega)).mono ?_; rintro e w' ⟨rfl, rfl⟩) | (go_at_call 125; refine (fits_is T fv _ B HB.out).mono ?_; rintro e w' ⟨rfl, hbb⟩))
          have hEw : Ext wr w' := (((hal0 _).trans (drewN_ext _ _))).trans hbb
          have hE1 := hE.trans hEw
          have hA1 := hA.ext hEw
          have hB1 := hB.ext hEw
          have f0 : w'.cell? ⟨wr.heap.size, 0, none⟩ = some (.int .i64 a) := hbb.cell (by exact cell_new _ _ _ _ _ rfl rfl)
          have f1 : w'.cell? ⟨wr.heap.size, 1, none⟩ = some (.int .i64 fv.n) := hbb.cell (by exact cell_new _ _ _ _ _ rfl rfl)
          have f2 : w'.cell? ⟨wr.heap.size, 2, none⟩ = some (.string fv.s) := hbb.cell (by exact cell_new _ _ _ _ _ rfl rfl)
          have e0 := hB1.at (ev_has pf a ha6)
          have e1 := hB1.at (ev_n pf a ha6)
          have e2 := hB1.at (ev_s pf a ha6)
          have efz := hB1.frozen
          have hne : wr.heap.size ≠ w.heap.size + 1 := by omega
          clear hA hB hE hbb hEw g0a hca g1 g2 hal0 c0 c1 c2
          cases B with
          | false =>
            have hkq : k = q := by
              rcases Nat.lt_or_ge k q with h | h
              · have h1 := hOK.out.1 h
                rw [hfin.out] at h1; cases h1
              · omega
            have HB2 : Hid _ := hbadE.out hkq
            clear hkq
            go_wp2_with (first
              | (refine wpList_store_row rfl 166 _ _ rfl w.heap.size zCells zCells rfl rfl 166 hA1 rfl Tryz.infoEv (evCells_one _) ?_; intro w2 hA2 hk2; clear hA1))
            refine bodyPost_ret (results_cell2 (u := 5) (v := 6) Tryz.results79 _ _ _ zCells _ _ hA2 Tryz.underlying166 rfl Tryz.infoEv rfl) rfl ⟨HB2.out, ?_⟩
            exact hE1.kpFresh hk2 (Nat.le_refl _)
          | true =>
            have hkq : k < q := by
              rcases Nat.lt_or_ge k q with h | h
              · exact h
              · have h1 := hOK.out.2 (by omega)
                rw [hfin.out] at h1; cases h1
            go_wp2
            go_roundw
            case rel =>
              refine ⟨k + 1, by omega, by go_num, ((hE1.setCell (by simp) _).setCell (by simp) _).setCell (by simp) _, ((hA1.setOther (by simp) _).setOther (by simp) _).setOther (by simp) _, ?_⟩
              rw [HPG.out, ← ev_upd pf pg a fv ha6 (hin.out (by rw [hsomeH.out]; rfl)) (fun x hx => hot.out x hx)]
              exact (((hB1.set _ _).set _ _).set _ _)
            case measure => simp [intOf]; omega
      · have hfin := fieldOK_out sch (l.take k) at_ fv ha
        have hkq : k = q := by
          rcases Nat.lt_or_ge k q with h | h
          · have h1 := hOK.out.1 h
            rw [hfin] at h1; cases h1
          · omega
        have HB2 : Hid _ := hbadE.out hkq
        clear hkq hfin hSS
        go_wp2_with fail
        go_quiet ((go_at_call 87; exact Calls.quiet_of_same (hasAttr_no _ _ _ _ _ (by omega) ha)))
        have hE1 : Ext w _ := (hE.alloc (.cells #[.int .i64 at_, .int .i64 fv.n, .string fv.s] 71)).trans (drewN_ext _ nq)
        have hA1 := hA.ext (((Ext.refl wr).alloc (.cells #[.int .i64 at_, .int .i64 fv.n, .string fv.s] 71)).trans (drewN_ext _ nq))
        clear hA hE
        go_wp2_with (first
          | (refine wpList_store_row rfl 166 _ _ rfl w.heap.size zCells zCells rfl rfl 166 hA1 rfl Tryz.infoEv (evCells_one _) ?_; intro w2 hA2 hk2; clear hA1))
        refine bodyPost_ret (results_cell2 (u := 5) (v := 6) Tryz.results79 _ _ _ zCells _ _ hA2 Tryz.underlying166 rfl Tryz.infoEv rfl) rfl ⟨HB2.out, ?_⟩
        exact hE1.kpFresh hk2 (Nat.le_refl _)
    · obtain rfl : k = q := by omega
      rw [List.take_of_length_le (by omega)] at hB
      have HR2 : Hid (Ending.returned (.tuple #[.agg (evCells (fo l)).toArray, .int .i64 0, .bool true]) = re) := by
        show _ = _
        rw [← HRE.out, if_neg hlt]
      generalize hgf : evCells (fo l) = EC at *
      have HL : Hid (EC.length = 18) := by show _ = _; rw [← hgf]; rfl
      have HO : Hid (∀ v ∈ EC, v.oneCell' = true) := by show ∀ v ∈ EC, _; rw [← hgf]; exact evCells_one _
      clear hgf HRE hf hs
      go_wp2_with (first
        | (refine wpList_load_row rfl 166 _ rfl (w.heap.size + 1) rfl EC _ 166 hB Tryz.underlying166 rfl (by rw [HL.out]; exact Tryz.infoEv) ?_; clear hB)
        | (refine wpList_store_row rfl 166 _ _ rfl w.heap.size EC zCells rfl rfl 166 hA (by rw [HL.out]; rfl) (by rw [HL.out]; exact Tryz.infoEv) HO.out ?_; intro w2 hA2 hk2; clear hA))
      refine bodyPost_ret (results_cell2 (u := 5) (v := 6) Tryz.results79 _ _ _ EC _ _ hA2 Tryz.underlying166 rfl (by rw [HL.out]; exact Tryz.infoEv) rfl) rfl ⟨HR2.out, ?_⟩
      exact hE.kpFresh hk2 (Nat.le_refl _)
end Go.Proofs.YtpbblaeamddbgaaGreat
