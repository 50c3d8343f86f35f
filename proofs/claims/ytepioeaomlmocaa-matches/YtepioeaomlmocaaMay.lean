import Derived.Test.YtepioeaomlmocaaLeaf
import Derived.Deep.QuietTactic
import Derived.BigQuiet
namespace Go.Proofs.Ytepioeaomlmocaa
open Go.RowKit

theorem drewN_ext (w : World) (n : Nat) : Ext w (w.drewN n) := ⟨rfl, rfl, rfl, Nat.le_refl _, fun _ _ => rfl⟩

theorem rfits_is (k n : Int) (s : ByteArray) (w : World) (r : Bool) (hr : fitsB k ⟨n, s⟩ = r) :
    Calls Try.prog 81 #[.int .i64 k, .agg #[.int .i64 n, .string s]] w fun e w' => e = .returned (.bool r) ∧ Ext w w' := by
  subst hr; exact rfits_any k n s w
theorem none_is (n : Int) (s : ByteArray) (w : World) (r : Bool) (hr : noneB ⟨n, s⟩ = r) :
    Calls Try.prog 82 #[.agg #[.int .i64 n, .string s]] w fun e w' => e = .returned (.bool r) ∧ Ext w w' := by
  subst hr; exact none_any n s w

set_option maxHeartbeats 400000 in
theorem May_no (rb b o cap : Nat) (sch : List Int) (c : Cd) (w : World) (_hn : sch.length ≤ 6) (hr : w.cell? ⟨rb, 0, none⟩ = some (.slice (some ⟨b, o, none⟩) sch.length cap)) (ha : ¬ (0 ≤ c.attr ∧ c.attr < sch.length)) :
    Calls Try.prog 59 #[.pointer (some ⟨rb, 0, none⟩), .agg #[.int .i64 c.attr, .int .i64 c.kind, .int .i64 c.a.n, .string c.a.s, .int .i64 c.b.n, .string c.b.s]] w fun e w' => e = .returned (.bool (mayB sch c)) ∧ Ext w w' := by
  have hra : ∀ ob, (w.alloc ob).cell? ⟨rb, 0, none⟩ = some (.slice (some ⟨b, o, none⟩) sch.length cap) := fun ob => ((Ext.refl w).alloc ob).cell hr
  have hm : Hid (false = mayB sch c) := by
    show false = mayB sch c
    symm; simp only [mayB, Bool.and_eq_false_iff, decide_eq_false_iff_not]; omega
  by_cases h0 : c.attr < 0
  · go_enter Try.func59, Try.ntmps59
    go_wp2_with fail
    go_quiet (fail)
    go_wp2_with fail
    go_ret
    exact ⟨ret_bool hm.out, ((Ext.refl _).alloc _).trans (drewN_ext _ _)⟩
  · have h1 : (sch.length : Int) ≤ c.attr := by omega
    go_enter Try.func59, Try.ntmps59
    go_wp2_with fail
    go_quiet (fail)
    go_wp2_with fail
    go_ret
    exact ⟨ret_bool hm.out, ((Ext.refl _).alloc _).trans (drewN_ext _ _)⟩


theorem bcell {W w1 : World} (hb : Ext W w1) : (∀ b o, b < W.heap.size → w1.cell? ⟨b, o, none⟩ = W.cell? ⟨b, o, none⟩) ∧ (∀ b o, b < W.heap.size → w1.frozen? ⟨b, o, none⟩ = W.frozen? ⟨b, o, none⟩) :=
  ⟨fun b o h => Below.cell (p := ⟨b, o, none⟩) hb h, fun b o h => Below.frozen (p := ⟨b, o, none⟩) hb h⟩

set_option maxHeartbeats 800000 in
theorem May_kindlow (rb b o cap k : Nat) (sch : List Int) (kind T : Int) (ca cb : Vl) (w : World) (_hn : sch.length ≤ 6) (hr : w.cell? ⟨rb, 0, none⟩ = some (.slice (some ⟨b, o, none⟩) sch.length cap)) (hk : k < sch.length) (hs : w.cell? ⟨b, o + k, none⟩ = some (.int .i64 T)) (hkd : kind < 1) :
    Calls Try.prog 59 #[.pointer (some ⟨rb, 0, none⟩), .agg #[.int .i64 k, .int .i64 kind, .int .i64 ca.n, .string ca.s, .int .i64 cb.n, .string cb.s]] w fun e w' => e = .returned (.bool false) ∧ Ext w w' := by
  have hra : ∀ ob, (w.alloc ob).cell? ⟨rb, 0, none⟩ = some (.slice (some ⟨b, o, none⟩) sch.length cap) := fun ob => ((Ext.refl w).alloc ob).cell hr
  have hsa : ∀ ob, (w.alloc ob).cell? ⟨b, o + k, none⟩ = some (.int .i64 T) := fun ob => ((Ext.refl w).alloc ob).cell hs
  clear hr hs
  have hd0 : decide ((k : Int) < 0) = false := by rw [decide_eq_false_iff_not]; omega
  have hd1 : decide (sch.length ≤ k) = false := by rw [decide_eq_false_iff_not]; omega
  have hd2 : decide (kind < 1) = true := by rw [decide_eq_true_iff]; omega
  go_enter Try.func59, Try.ntmps59
  go_wp2_with fail
  go_quiet (fail)
  go_wp2_with fail
  go_ret
  exact ⟨rfl, ((Ext.refl _).alloc _).trans (drewN_ext _ _)⟩

set_option maxHeartbeats 800000 in
theorem May_kindhigh (rb b o cap k : Nat) (sch : List Int) (kind T : Int) (ca cb : Vl) (w : World) (_hn : sch.length ≤ 6) (hr : w.cell? ⟨rb, 0, none⟩ = some (.slice (some ⟨b, o, none⟩) sch.length cap)) (hk : k < sch.length) (hs : w.cell? ⟨b, o + k, none⟩ = some (.int .i64 T)) (hkd : 9 < kind) :
    Calls Try.prog 59 #[.pointer (some ⟨rb, 0, none⟩), .agg #[.int .i64 k, .int .i64 kind, .int .i64 ca.n, .string ca.s, .int .i64 cb.n, .string cb.s]] w fun e w' => e = .returned (.bool false) ∧ Ext w w' := by
  have hra : ∀ ob, (w.alloc ob).cell? ⟨rb, 0, none⟩ = some (.slice (some ⟨b, o, none⟩) sch.length cap) := fun ob => ((Ext.refl w).alloc ob).cell hr
  have hsa : ∀ ob, (w.alloc ob).cell? ⟨b, o + k, none⟩ = some (.int .i64 T) := fun ob => ((Ext.refl w).alloc ob).cell hs
  clear hr hs
  have hd0 : decide ((k : Int) < 0) = false := by rw [decide_eq_false_iff_not]; omega
  have hd1 : decide (sch.length ≤ k) = false := by rw [decide_eq_false_iff_not]; omega
  have hd2 : decide (kind < 1) = false := by rw [decide_eq_false_iff_not]; omega
  have hd3 : decide (9 < kind) = true := by rw [decide_eq_true_iff]; omega
  go_enter Try.func59, Try.ntmps59
  go_wp2_with fail
  go_quiet (fail)
  go_wp2_with fail
  go_ret
  exact ⟨rfl, ((Ext.refl _).alloc _).trans (drewN_ext _ _)⟩

set_option maxHeartbeats 800000 in
theorem May_9 (rb b o cap k : Nat) (sch : List Int) (kind T : Int) (ca cb : Vl) (w : World) (_hn : sch.length ≤ 6) (hr : w.cell? ⟨rb, 0, none⟩ = some (.slice (some ⟨b, o, none⟩) sch.length cap)) (hk : k < sch.length) (hs : w.cell? ⟨b, o + k, none⟩ = some (.int .i64 T)) (hkd : kind = 9) :
    Calls Try.prog 59 #[.pointer (some ⟨rb, 0, none⟩), .agg #[.int .i64 k, .int .i64 kind, .int .i64 ca.n, .string ca.s, .int .i64 cb.n, .string cb.s]] w fun e w' => e = .returned (.bool (noneB ca && noneB cb)) ∧ Ext w w' := by
  have hra : ∀ ob, (w.alloc ob).cell? ⟨rb, 0, none⟩ = some (.slice (some ⟨b, o, none⟩) sch.length cap) := fun ob => ((Ext.refl w).alloc ob).cell hr
  have hsa : ∀ ob, (w.alloc ob).cell? ⟨b, o + k, none⟩ = some (.int .i64 T) := fun ob => ((Ext.refl w).alloc ob).cell hs
  clear hr hs
  subst hkd
  have hd0 : decide ((k : Int) < 0) = false := by rw [decide_eq_false_iff_not]; omega
  have hd1 : decide (sch.length ≤ k) = false := by rw [decide_eq_false_iff_not]; omega
  go_enter Try.func59, Try.ntmps59
  go_wp2_with fail
  go_quiet (fail)
  go_wp2_with fail
  go_quiet (fail)
  go_wp2_with fail
  refine (rfits_any _ _ _ _).mono ?_
  rintro e w1 ⟨rfl, hb1⟩
  obtain ⟨hc1, hf1⟩ := bcell hb1
  have hz1 : w.heap.size < w1.heap.size := by have := hb1.le; simp at this; omega
  go_wp2_with fail
  refine (rfits_any _ _ _ _).mono ?_
  rintro e w2 ⟨rfl, hb2⟩
  obtain ⟨hc2, hf2⟩ := bcell hb2
  have hz2 : w.heap.size < w2.heap.size := by have := hb2.le; omega
  go_wp2_with fail
  refine (none_any _ _ _).mono ?_
  rintro e w3 ⟨rfl, hb3⟩
  obtain ⟨hc3, hf3⟩ := bcell hb3
  have hz3 : w.heap.size < w3.heap.size := by have := hb3.le; omega
  go_wp2_with fail
  refine (none_any _ _ _).mono ?_
  rintro e w4 ⟨rfl, hb4⟩
  obtain ⟨hc4, hf4⟩ := bcell hb4
  have hz4 : w.heap.size < w4.heap.size := by have := hb4.le; omega
  have hE : Ext w w4 := (((((Ext.refl _).alloc _).trans (drewN_ext _ _)).trans hb1).trans hb2).trans (hb3.trans hb4)
  go_wp2_with fail
  all_goals
    go_ret
    exact ⟨ret_bool (by simp [*]), hE⟩

set_option maxHeartbeats 800000 in
theorem May_7 (rb b o cap k : Nat) (sch : List Int) (kind T : Int) (ca cb : Vl) (w : World) (_hn : sch.length ≤ 6) (hr : w.cell? ⟨rb, 0, none⟩ = some (.slice (some ⟨b, o, none⟩) sch.length cap)) (hk : k < sch.length) (hs : w.cell? ⟨b, o + k, none⟩ = some (.int .i64 T)) (hkd : kind = 7) :
    Calls Try.prog 59 #[.pointer (some ⟨rb, 0, none⟩), .agg #[.int .i64 k, .int .i64 kind, .int .i64 ca.n, .string ca.s, .int .i64 cb.n, .string cb.s]] w fun e w' => e = .returned (.bool (fitsB T ca && fitsB T cb)) ∧ Ext w w' := by
  have hra : ∀ ob, (w.alloc ob).cell? ⟨rb, 0, none⟩ = some (.slice (some ⟨b, o, none⟩) sch.length cap) := fun ob => ((Ext.refl w).alloc ob).cell hr
  have hsa : ∀ ob, (w.alloc ob).cell? ⟨b, o + k, none⟩ = some (.int .i64 T) := fun ob => ((Ext.refl w).alloc ob).cell hs
  clear hr hs
  subst hkd
  have hd0 : decide ((k : Int) < 0) = false := by rw [decide_eq_false_iff_not]; omega
  have hd1 : decide (sch.length ≤ k) = false := by rw [decide_eq_false_iff_not]; omega
  go_enter Try.func59, Try.ntmps59
  go_wp2_with fail
  go_quiet (fail)
  go_wp2_with fail
  go_quiet (fail)
  go_wp2_with fail
  refine (rfits_any _ _ _ _).mono ?_
  rintro e w1 ⟨rfl, hb1⟩
  obtain ⟨hc1, hf1⟩ := bcell hb1
  have hz1 : w.heap.size < w1.heap.size := by have := hb1.le; simp at this; omega
  go_wp2_with fail
  refine (rfits_any _ _ _ _).mono ?_
  rintro e w2 ⟨rfl, hb2⟩
  obtain ⟨hc2, hf2⟩ := bcell hb2
  have hz2 : w.heap.size < w2.heap.size := by have := hb2.le; omega
  go_wp2_with fail
  refine (none_any _ _ _).mono ?_
  rintro e w3 ⟨rfl, hb3⟩
  obtain ⟨hc3, hf3⟩ := bcell hb3
  have hz3 : w.heap.size < w3.heap.size := by have := hb3.le; omega
  go_wp2_with fail
  refine (none_any _ _ _).mono ?_
  rintro e w4 ⟨rfl, hb4⟩
  obtain ⟨hc4, hf4⟩ := bcell hb4
  have hz4 : w.heap.size < w4.heap.size := by have := hb4.le; omega
  have hE : Ext w w4 := (((((Ext.refl _).alloc _).trans (drewN_ext _ _)).trans hb1).trans hb2).trans (hb3.trans hb4)
  go_wp2_with fail
  all_goals
    go_ret
    exact ⟨ret_bool (by simp [*]), hE⟩

set_option maxHeartbeats 800000 in
theorem May_8 (rb b o cap k : Nat) (sch : List Int) (kind T : Int) (ca cb : Vl) (w : World) (_hn : sch.length ≤ 6) (hr : w.cell? ⟨rb, 0, none⟩ = some (.slice (some ⟨b, o, none⟩) sch.length cap)) (hk : k < sch.length) (hs : w.cell? ⟨b, o + k, none⟩ = some (.int .i64 T)) (hkd : kind = 8) :
    Calls Try.prog 59 #[.pointer (some ⟨rb, 0, none⟩), .agg #[.int .i64 k, .int .i64 kind, .int .i64 ca.n, .string ca.s, .int .i64 cb.n, .string cb.s]] w fun e w' => e = .returned (.bool ((T == 2) && fitsB T ca && noneB cb)) ∧ Ext w w' := by
  have hra : ∀ ob, (w.alloc ob).cell? ⟨rb, 0, none⟩ = some (.slice (some ⟨b, o, none⟩) sch.length cap) := fun ob => ((Ext.refl w).alloc ob).cell hr
  have hsa : ∀ ob, (w.alloc ob).cell? ⟨b, o + k, none⟩ = some (.int .i64 T) := fun ob => ((Ext.refl w).alloc ob).cell hs
  clear hr hs
  subst hkd
  have hd0 : decide ((k : Int) < 0) = false := by rw [decide_eq_false_iff_not]; omega
  have hd1 : decide (sch.length ≤ k) = false := by rw [decide_eq_false_iff_not]; omega
  go_enter Try.func59, Try.ntmps59
  go_wp2_with fail
  go_quiet (fail)
  go_wp2_with fail
  go_quiet (fail)
  go_wp2_with fail
  refine (rfits_any _ _ _ _).mono ?_
  rintro e w1 ⟨rfl, hb1⟩
  obtain ⟨hc1, hf1⟩ := bcell hb1
  have hz1 : w.heap.size < w1.heap.size := by have := hb1.le; simp at this; omega
  go_wp2_with fail
  refine (rfits_any _ _ _ _).mono ?_
  rintro e w2 ⟨rfl, hb2⟩
  obtain ⟨hc2, hf2⟩ := bcell hb2
  have hz2 : w.heap.size < w2.heap.size := by have := hb2.le; omega
  go_wp2_with fail
  refine (none_any _ _ _).mono ?_
  rintro e w3 ⟨rfl, hb3⟩
  obtain ⟨hc3, hf3⟩ := bcell hb3
  have hz3 : w.heap.size < w3.heap.size := by have := hb3.le; omega
  go_wp2_with fail
  refine (none_any _ _ _).mono ?_
  rintro e w4 ⟨rfl, hb4⟩
  obtain ⟨hc4, hf4⟩ := bcell hb4
  have hz4 : w.heap.size < w4.heap.size := by have := hb4.le; omega
  have hE : Ext w w4 := (((((Ext.refl _).alloc _).trans (drewN_ext _ _)).trans hb1).trans hb2).trans (hb3.trans hb4)
  go_wp2_with fail
  all_goals
    go_ret
    exact ⟨ret_bool (by simp [*]), hE⟩

set_option maxHeartbeats 800000 in
theorem May_else (rb b o cap k : Nat) (sch : List Int) (kind T : Int) (ca cb : Vl) (w : World) (_hn : sch.length ≤ 6) (hr : w.cell? ⟨rb, 0, none⟩ = some (.slice (some ⟨b, o, none⟩) sch.length cap)) (hk : k < sch.length) (hs : w.cell? ⟨b, o + k, none⟩ = some (.int .i64 T)) (hk1 : 1 ≤ kind) (hk9 : kind ≤ 9) (n9 : ¬ kind = 9) (n7 : ¬ kind = 7) (n8 : ¬ kind = 8) :
    Calls Try.prog 59 #[.pointer (some ⟨rb, 0, none⟩), .agg #[.int .i64 k, .int .i64 kind, .int .i64 ca.n, .string ca.s, .int .i64 cb.n, .string cb.s]] w fun e w' => e = .returned (.bool (fitsB T ca && noneB cb)) ∧ Ext w w' := by
  have hra : ∀ ob, (w.alloc ob).cell? ⟨rb, 0, none⟩ = some (.slice (some ⟨b, o, none⟩) sch.length cap) := fun ob => ((Ext.refl w).alloc ob).cell hr
  have hsa : ∀ ob, (w.alloc ob).cell? ⟨b, o + k, none⟩ = some (.int .i64 T) := fun ob => ((Ext.refl w).alloc ob).cell hs
  clear hr hs
  have hd0 : decide ((k : Int) < 0) = false := by rw [decide_eq_false_iff_not]; omega
  have hd1 : decide (sch.length ≤ k) = false := by rw [decide_eq_false_iff_not]; omega
  have hd2 : decide (kind < 1) = false := by rw [decide_eq_false_iff_not]; omega
  have hd3 : decide (9 < kind) = false := by rw [decide_eq_false_iff_not]; omega
  have e9 : (kind == 9) = false := by simpa using n9
  have e7 : (kind == 7) = false := by simpa using n7
  have e8 : (kind == 8) = false := by simpa using n8
  go_enter Try.func59, Try.ntmps59
  go_wp2_with fail
  go_quiet (fail)
  go_wp2_with fail
  go_quiet (fail)
  go_wp2_with fail
  refine (rfits_any _ _ _ _).mono ?_
  rintro e w1 ⟨rfl, hb1⟩
  obtain ⟨hc1, hf1⟩ := bcell hb1
  have hz1 : w.heap.size < w1.heap.size := by have := hb1.le; simp at this; omega
  go_wp2_with fail
  refine (rfits_any _ _ _ _).mono ?_
  rintro e w2 ⟨rfl, hb2⟩
  obtain ⟨hc2, hf2⟩ := bcell hb2
  have hz2 : w.heap.size < w2.heap.size := by have := hb2.le; omega
  go_wp2_with fail
  refine (none_any _ _ _).mono ?_
  rintro e w3 ⟨rfl, hb3⟩
  obtain ⟨hc3, hf3⟩ := bcell hb3
  have hz3 : w.heap.size < w3.heap.size := by have := hb3.le; omega
  go_wp2_with fail
  refine (none_any _ _ _).mono ?_
  rintro e w4 ⟨rfl, hb4⟩
  obtain ⟨hc4, hf4⟩ := bcell hb4
  have hz4 : w.heap.size < w4.heap.size := by have := hb4.le; omega
  have hE : Ext w w4 := (((((Ext.refl _).alloc _).trans (drewN_ext _ _)).trans hb1).trans hb2).trans (hb3.trans hb4)
  go_wp2_with fail
  all_goals
    go_ret
    exact ⟨ret_bool (by simp [*]), hE⟩

theorem May_any (rb b o cap : Nat) (sch : List Int) (c : Cd) (w : World) (hn : sch.length ≤ 6) (hr : w.cell? ⟨rb, 0, none⟩ = some (.slice (some ⟨b, o, none⟩) sch.length cap)) (hs : Ints w b o sch) :
    Calls Try.prog 59 #[.pointer (some ⟨rb, 0, none⟩), .agg #[.int .i64 c.attr, .int .i64 c.kind, .int .i64 c.a.n, .string c.a.s, .int .i64 c.b.n, .string c.b.s]] w fun e w' => e = .returned (.bool (mayB sch c)) ∧ Ext w w' := by
  by_cases ha : 0 ≤ c.attr ∧ c.attr < sch.length
  · obtain ⟨ha0, ha1⟩ := ha
    obtain ⟨attr, kind, ca, cb⟩ := c
    simp only at ha0 ha1
    obtain ⟨k, rfl⟩ := Int.eq_ofNat_of_zero_le ha0
    have hk : k < sch.length := by omega
    have hc := hs k hk
    have go : ∀ r, mayB sch ⟨k, kind, ca, cb⟩ = r → (Calls Try.prog 59 #[.pointer (some ⟨rb, 0, none⟩), .agg #[.int .i64 k, .int .i64 kind, .int .i64 ca.n, .string ca.s, .int .i64 cb.n, .string cb.s]] w fun e w' => e = .returned (.bool r) ∧ Ext w w') →
        Calls Try.prog 59 #[.pointer (some ⟨rb, 0, none⟩), .agg #[.int .i64 k, .int .i64 kind, .int .i64 ca.n, .string ca.s, .int .i64 cb.n, .string cb.s]] w fun e w' => e = .returned (.bool (mayB sch ⟨k, kind, ca, cb⟩)) ∧ Ext w w' := by
      intro r h hc; rw [h]; exact hc
    by_cases h1 : kind < 1
    · exact go _ (by simp [mayB]; omega) (May_kindlow rb b o cap k sch kind _ ca cb w hn hr hk hc h1)
    by_cases h9 : 9 < kind
    · exact go _ (by simp [mayB]; omega) (May_kindhigh rb b o cap k sch kind _ ca cb w hn hr hk hc h9)
    by_cases e9 : kind = 9
    · subst e9
      exact go _ (by simp [mayB, mayK, firstB, secondB, hk]) (May_9 rb b o cap k sch 9 _ ca cb w hn hr hk hc rfl)
    by_cases e7 : kind = 7
    · subst e7
      exact go _ (by simp [mayB, mayK, firstB, secondB, hk]) (May_7 rb b o cap k sch 7 _ ca cb w hn hr hk hc rfl)
    by_cases e8 : kind = 8
    · subst e8
      exact go _ (by simp [mayB, mayK, firstB, secondB, hk, Bool.and_assoc]) (May_8 rb b o cap k sch 8 _ ca cb w hn hr hk hc rfl)
    have a1 : (1 : Int) ≤ kind := by omega
    have a9 : kind ≤ 9 := by omega
    have b9 : (kind == 9) = false := by simpa using e9
    have b7 : (kind == 7) = false := by simpa using e7
    have b8 : (kind == 8) = false := by simpa using e8
    exact go _ (by simp only [mayB, mayK, firstB, secondB, b9, b7, b8]; simp [hk, a1, a9]) (May_else rb b o cap k sch kind _ ca cb w hn hr hk hc (by omega) (by omega) e9 e7 e8)
  · exact May_no rb b o cap sch c w hn hr ha

end Go.Proofs.Ytepioeaomlmocaa
