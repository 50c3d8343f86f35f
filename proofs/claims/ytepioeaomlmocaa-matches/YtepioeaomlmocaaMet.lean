import Derived.Test.YtepioeaomlmocaaOrder
namespace Go.Proofs.Ytepioeaomlmocaa
open Go.RowKit

/-- Does a value meet a condition? (Of the kinds 1 to 9.) -/
def metB (c : Cd) (v : Vl) : Bool :=
  if c.kind == 1 then cmpV v c.a == 0 else if c.kind == 2 then cmpV v c.a != 0 else if c.kind == 3 then decide (cmpV v c.a < 0) else if c.kind == 4 then decide (cmpV v c.a ≤ 0)
  else if c.kind == 5 then decide (0 < cmpV v c.a) else if c.kind == 6 then decide (0 ≤ cmpV v c.a) else if c.kind == 7 then decide (0 ≤ cmpV v c.a) && decide (cmpV v c.b ≤ 0)
  else if c.kind == 8 then Lib.hasPrefix v.s.data.toList c.a.s.data.toList else true

set_option maxHeartbeats 400000 in
theorem holds_1 (t : Int) (a b v : Vl) (w : World) :
    Calls Try.prog 84 #[.agg #[.int .i64 t, .int .i64 1, .int .i64 a.n, .string a.s, .int .i64 b.n, .string b.s], .agg #[.int .i64 v.n, .string v.s]] w fun e w' => e = .returned (.bool (cmpV v a == 0)) ∧ Ext w w' := by
  have HR : Hid (∀ x : Bool, x = (cmpV v a == 0) → x = (cmpV v a == 0)) := fun _ h => h
  generalize hcv : cmpV v a = cv at *
  have HCV : Hid (cmpV v a = cv) := hcv
  clear hcv
  generalize hbr : (cv == 0) = br
  have HBR : Hid (_ = br) := hbr
  clear hbr HR
  go_enter Try.func84, Try.ntmps84
  go_wp2_with fail
  refine (compare_any v a _).mono ?_
  rintro e w1 ⟨rfl, hb⟩
  obtain ⟨hc1, hf1⟩ := bcell hb
  have hE : Ext w w1 := (((Ext.refl _).alloc _).alloc _).trans hb
  have hz : w.heap.size + 1 < w1.heap.size := by have := hb.le; simp at this; omega
  clear hb
  go_wp2_with fail
  go_ret
  exact ⟨ret_bool (by rw [← HBR.out, HCV.out]), hE⟩

set_option maxHeartbeats 400000 in
theorem holds_2 (t : Int) (a b v : Vl) (w : World) :
    Calls Try.prog 84 #[.agg #[.int .i64 t, .int .i64 2, .int .i64 a.n, .string a.s, .int .i64 b.n, .string b.s], .agg #[.int .i64 v.n, .string v.s]] w fun e w' => e = .returned (.bool (cmpV v a != 0)) ∧ Ext w w' := by
  have HR : Hid (∀ x : Bool, x = (cmpV v a != 0) → x = (cmpV v a != 0)) := fun _ h => h
  generalize hcv : cmpV v a = cv at *
  have HCV : Hid (cmpV v a = cv) := hcv
  clear hcv
  generalize hbr : (cv != 0) = br
  have HBR : Hid (_ = br) := hbr
  clear hbr HR
  go_enter Try.func84, Try.ntmps84
  go_wp2_with fail
  refine (compare_any v a _).mono ?_
  rintro e w1 ⟨rfl, hb⟩
  obtain ⟨hc1, hf1⟩ := bcell hb
  have hE : Ext w w1 := (((Ext.refl _).alloc _).alloc _).trans hb
  have hz : w.heap.size + 1 < w1.heap.size := by have := hb.le; simp at this; omega
  clear hb
  go_wp2_with fail
  go_ret
  exact ⟨ret_bool (by rw [← HBR.out, HCV.out]), hE⟩

set_option maxHeartbeats 400000 in
theorem holds_3 (t : Int) (a b v : Vl) (w : World) :
    Calls Try.prog 84 #[.agg #[.int .i64 t, .int .i64 3, .int .i64 a.n, .string a.s, .int .i64 b.n, .string b.s], .agg #[.int .i64 v.n, .string v.s]] w fun e w' => e = .returned (.bool (decide (cmpV v a < 0))) ∧ Ext w w' := by
  have HR : Hid (∀ x : Bool, x = (decide (cmpV v a < 0)) → x = (decide (cmpV v a < 0))) := fun _ h => h
  generalize hcv : cmpV v a = cv at *
  have HCV : Hid (cmpV v a = cv) := hcv
  clear hcv
  generalize hbr : (decide (cv < 0)) = br
  have HBR : Hid (_ = br) := hbr
  clear hbr HR
  go_enter Try.func84, Try.ntmps84
  go_wp2_with fail
  refine (compare_any v a _).mono ?_
  rintro e w1 ⟨rfl, hb⟩
  obtain ⟨hc1, hf1⟩ := bcell hb
  have hE : Ext w w1 := (((Ext.refl _).alloc _).alloc _).trans hb
  have hz : w.heap.size + 1 < w1.heap.size := by have := hb.le; simp at this; omega
  clear hb
  go_wp2_with fail
  go_ret
  exact ⟨ret_bool (by rw [← HBR.out, HCV.out]), hE⟩

set_option maxHeartbeats 400000 in
theorem holds_4 (t : Int) (a b v : Vl) (w : World) :
    Calls Try.prog 84 #[.agg #[.int .i64 t, .int .i64 4, .int .i64 a.n, .string a.s, .int .i64 b.n, .string b.s], .agg #[.int .i64 v.n, .string v.s]] w fun e w' => e = .returned (.bool (decide (cmpV v a ≤ 0))) ∧ Ext w w' := by
  have HR : Hid (∀ x : Bool, x = (decide (cmpV v a ≤ 0)) → x = (decide (cmpV v a ≤ 0))) := fun _ h => h
  generalize hcv : cmpV v a = cv at *
  have HCV : Hid (cmpV v a = cv) := hcv
  clear hcv
  generalize hbr : (decide (cv ≤ 0)) = br
  have HBR : Hid (_ = br) := hbr
  clear hbr HR
  go_enter Try.func84, Try.ntmps84
  go_wp2_with fail
  refine (compare_any v a _).mono ?_
  rintro e w1 ⟨rfl, hb⟩
  obtain ⟨hc1, hf1⟩ := bcell hb
  have hE : Ext w w1 := (((Ext.refl _).alloc _).alloc _).trans hb
  have hz : w.heap.size + 1 < w1.heap.size := by have := hb.le; simp at this; omega
  clear hb
  go_wp2_with fail
  go_ret
  exact ⟨ret_bool (by rw [← HBR.out, HCV.out]), hE⟩

set_option maxHeartbeats 400000 in
theorem holds_5 (t : Int) (a b v : Vl) (w : World) :
    Calls Try.prog 84 #[.agg #[.int .i64 t, .int .i64 5, .int .i64 a.n, .string a.s, .int .i64 b.n, .string b.s], .agg #[.int .i64 v.n, .string v.s]] w fun e w' => e = .returned (.bool (decide (0 < cmpV v a))) ∧ Ext w w' := by
  have HR : Hid (∀ x : Bool, x = (decide (0 < cmpV v a)) → x = (decide (0 < cmpV v a))) := fun _ h => h
  generalize hcv : cmpV v a = cv at *
  have HCV : Hid (cmpV v a = cv) := hcv
  clear hcv
  generalize hbr : (decide (0 < cv)) = br
  have HBR : Hid (_ = br) := hbr
  clear hbr HR
  go_enter Try.func84, Try.ntmps84
  go_wp2_with fail
  refine (compare_any v a _).mono ?_
  rintro e w1 ⟨rfl, hb⟩
  obtain ⟨hc1, hf1⟩ := bcell hb
  have hE : Ext w w1 := (((Ext.refl _).alloc _).alloc _).trans hb
  have hz : w.heap.size + 1 < w1.heap.size := by have := hb.le; simp at this; omega
  clear hb
  go_wp2_with fail
  go_ret
  exact ⟨ret_bool (by rw [← HBR.out, HCV.out]), hE⟩

set_option maxHeartbeats 400000 in
theorem holds_6 (t : Int) (a b v : Vl) (w : World) :
    Calls Try.prog 84 #[.agg #[.int .i64 t, .int .i64 6, .int .i64 a.n, .string a.s, .int .i64 b.n, .string b.s], .agg #[.int .i64 v.n, .string v.s]] w fun e w' => e = .returned (.bool (decide (0 ≤ cmpV v a))) ∧ Ext w w' := by
  have HR : Hid (∀ x : Bool, x = (decide (0 ≤ cmpV v a)) → x = (decide (0 ≤ cmpV v a))) := fun _ h => h
  generalize hcv : cmpV v a = cv at *
  have HCV : Hid (cmpV v a = cv) := hcv
  clear hcv
  generalize hbr : (decide (0 ≤ cv)) = br
  have HBR : Hid (_ = br) := hbr
  clear hbr HR
  go_enter Try.func84, Try.ntmps84
  go_wp2_with fail
  refine (compare_any v a _).mono ?_
  rintro e w1 ⟨rfl, hb⟩
  obtain ⟨hc1, hf1⟩ := bcell hb
  have hE : Ext w w1 := (((Ext.refl _).alloc _).alloc _).trans hb
  have hz : w.heap.size + 1 < w1.heap.size := by have := hb.le; simp at this; omega
  clear hb
  go_wp2_with fail
  go_ret
  exact ⟨ret_bool (by rw [← HBR.out, HCV.out]), hE⟩

set_option maxHeartbeats 400000 in
theorem holds_9 (t : Int) (a b v : Vl) (w : World) :
    Calls Try.prog 84 #[.agg #[.int .i64 t, .int .i64 9, .int .i64 a.n, .string a.s, .int .i64 b.n, .string b.s], .agg #[.int .i64 v.n, .string v.s]] w fun e w' => e = .returned (.bool true) ∧ Ext w w' := by
  have HR : Hid (∀ x : Bool, x = true → x = true) := fun _ h => h
  generalize hcv : cmpV v a = cv at *
  have HCV : Hid (cmpV v a = cv) := hcv
  clear hcv
  generalize hbr : true = br
  have HBR : Hid (_ = br) := hbr
  clear hbr HR
  go_enter Try.func84, Try.ntmps84
  go_wp2_with fail
  refine (compare_any v a _).mono ?_
  rintro e w1 ⟨rfl, hb⟩
  obtain ⟨hc1, hf1⟩ := bcell hb
  have hE : Ext w w1 := (((Ext.refl _).alloc _).alloc _).trans hb
  have hz : w.heap.size + 1 < w1.heap.size := by have := hb.le; simp at this; omega
  clear hb
  go_wp2_with fail
  go_ret
  exact ⟨ret_bool (by rw [← HBR.out]), hE⟩

end Go.Proofs.Ytepioeaomlmocaa
