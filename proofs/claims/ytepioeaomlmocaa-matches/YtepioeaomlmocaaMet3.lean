import Derived.Test.YtepioeaomlmocaaMet2
namespace Go.Proofs.Ytepioeaomlmocaa
open Go.RowKit

theorem pre_eq (v a : ByteArray) : ((v.extract 0 a.size).toList == a.toList) = Lib.hasPrefix v.data.toList a.data.toList := by
  rw [ByteArray.toList_eq, ByteArray.toList_eq]
  have e : (v.extract 0 a.size).data.toList = v.data.toList.take a.data.toList.length := by
    simp [ByteArray.data_extract]
  rw [e, Bool.eq_iff_iff, beq_iff_eq]
  unfold Lib.hasPrefix
  rw [List.isPrefixOf_iff_prefix, List.prefix_iff_eq_take, eq_comm]
theorem pre_no (v a : ByteArray) (h : v.size < a.size) : Lib.hasPrefix v.data.toList a.data.toList = false := by
  rw [Bool.eq_false_iff]
  intro h'
  have h2 := (List.isPrefixOf_iff_prefix.1 h').length_le
  have e1 : v.data.toList.length = v.size := rfl
  have e2 : a.data.toList.length = a.size := rfl
  omega

set_option maxHeartbeats 400000 in
theorem met_8 (t : Int) (a b v : Vl) (w : World) (ha : a.s.size ≤ 9223372036854775807) (hv : v.s.size ≤ 9223372036854775807) :
    Calls Try.prog 85 #[.agg #[.int .i64 t, .int .i64 8, .int .i64 a.n, .string a.s, .int .i64 b.n, .string b.s], .agg #[.int .i64 v.n, .string v.s]] w fun e w' => e = .returned (.bool (Lib.hasPrefix v.s.data.toList a.s.data.toList)) ∧ Ext w w' := by
  generalize hbr : (Lib.hasPrefix v.s.data.toList a.s.data.toList) = br
  have HBR : Hid (_ = br) := hbr
  clear hbr
  go_enter Try.func85, Try.ntmps85
  go_wp2_with fail
  refine (order_is v a _ _ hv ha rfl).mono ?_
  rintro e w1 ⟨r, rfl, hS, hb⟩
  obtain ⟨hc1, hf1⟩ := bcell hb
  have hE : Ext w w1 := (((Ext.refl _).alloc _).alloc _).trans hb
  have hz : w.heap.size + 1 < w1.heap.size := by have := hb.le; simp at this; omega
  clear hb
  by_cases h0 : (a.s.size : Int) ≤ v.s.size
  · go_wp2_with fail
    go_quiet (fail)
    go_wp2_with fail
    go_ret
    exact ⟨ret_bool (by rw [← HBR.out, pre_eq]), hE.trans (drewN_ext _ _)⟩
  · have hd : decide (a.s.size ≤ v.s.size) = false := by rw [decide_eq_false_iff_not]; omega
    go_wp2_with fail
    go_quiet (fail)
    go_wp2_with fail
    go_ret
    exact ⟨ret_bool (by rw [← HBR.out, pre_no _ _ (by omega)]), hE.trans (drewN_ext _ _)⟩

theorem holds_any (c : Cd) (v : Vl) (w : World) (h1 : 1 ≤ c.kind) (h9 : c.kind ≤ 9) :
    Calls Try.prog 84 #[.agg #[.int .i64 c.attr, .int .i64 c.kind, .int .i64 c.a.n, .string c.a.s, .int .i64 c.b.n, .string c.b.s], .agg #[.int .i64 v.n, .string v.s]] w fun e w' => e = .returned (.bool (metB c v)) ∧ Ext w w' := by
  obtain ⟨t, k, a, b⟩ := c
  simp only at *
  rcases (show k = 1 ∨ k = 2 ∨ k = 3 ∨ k = 4 ∨ k = 5 ∨ k = 6 ∨ k = 7 ∨ k = 8 ∨ k = 9 by omega) with rfl | rfl | rfl | rfl | rfl | rfl | rfl | rfl | rfl
  · exact holds_1 t a b v w
  · exact holds_2 t a b v w
  · exact holds_3 t a b v w
  · exact holds_4 t a b v w
  · exact holds_5 t a b v w
  · exact holds_6 t a b v w
  · exact holds_7 t a b v w
  · exact holds_8 t a b v w
  · exact holds_9 t a b v w

theorem met_any (c : Cd) (v : Vl) (w : World) (h1 : 1 ≤ c.kind) (h9 : c.kind ≤ 9) (ha : c.a.s.size ≤ 9223372036854775807) (hb : c.b.s.size ≤ 9223372036854775807) (hv : v.s.size ≤ 9223372036854775807) :
    Calls Try.prog 85 #[.agg #[.int .i64 c.attr, .int .i64 c.kind, .int .i64 c.a.n, .string c.a.s, .int .i64 c.b.n, .string c.b.s], .agg #[.int .i64 v.n, .string v.s]] w fun e w' => e = .returned (.bool (metB c v)) ∧ Ext w w' := by
  obtain ⟨t, k, a, b⟩ := c
  simp only at *
  rcases (show k = 1 ∨ k = 2 ∨ k = 3 ∨ k = 4 ∨ k = 5 ∨ k = 6 ∨ k = 7 ∨ k = 8 ∨ k = 9 by omega) with rfl | rfl | rfl | rfl | rfl | rfl | rfl | rfl | rfl
  · exact met_1 t a b v w ha hv
  · exact met_2 t a b v w ha hv
  · exact met_3 t a b v w ha hv
  · exact met_4 t a b v w ha hv
  · exact met_5 t a b v w ha hv
  · exact met_6 t a b v w ha hv
  · exact met_7 t a b v w ha hb hv
  · exact met_8 t a b v w ha hv
  · exact met_9 t a b v w ha hv

end Go.Proofs.Ytepioeaomlmocaa
