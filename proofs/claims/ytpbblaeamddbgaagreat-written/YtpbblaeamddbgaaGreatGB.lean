import Derived.Deep.QuietTactic
import Derived.BigQuiet
import Derived.Test.YtpbblaeamddbgaaGreatGA
namespace Go.Proofs.YtpbblaeamddbgaaGreat
open Go.RowKit

theorem drewN_ext (w : World) (n : Nat) : Ext w (w.drewN n) := ⟨rfl, rfl, rfl, Nat.le_refl _, fun _ _ => rfl⟩

theorem rfits_is (k n : Int) (s : ByteArray) (w : World) (r : Bool) (hr : fitsB k ⟨n, s⟩ = r) :
    Calls Tryz.prog 166 #[.int .i64 k, .agg #[.int .i64 n, .string s]] w fun e w' => e = .returned (.bool r) ∧ Ext w w' := by
  subst hr; exact rfits_any k n s w
theorem none_is (n : Int) (s : ByteArray) (w : World) (r : Bool) (hr : noneB ⟨n, s⟩ = r) :
    Calls Tryz.prog 167 #[.agg #[.int .i64 n, .string s]] w fun e w' => e = .returned (.bool r) ∧ Ext w w' := by
  subst hr; exact none_any n s w

set_option maxHeartbeats 400000 in
theorem May_no (rb b o cap : Nat) (sch : List Int) (c : Cd) (w : World) (_hn : sch.length ≤ 6) (hr : w.cell? ⟨rb, 0, none⟩ = some (.slice (some ⟨b, o, none⟩) sch.length cap)) (ha : ¬ (0 ≤ c.attr ∧ c.attr < sch.length)) :
    Calls Tryz.prog 116 #[.pointer (some ⟨rb, 0, none⟩), .agg #[.int .i64 c.attr, .int .i64 c.kind, .int .i64 c.a.n, .string c.a.s, .int .i64 c.b.n, .string c.b.s]] w fun e w' => e = .returned (.bool (mayB sch c)) ∧ Ext w w' := by
  have hra : ∀ ob, (w.alloc ob).cell? ⟨rb, 0, none⟩ = some (.slice (some ⟨b, o, none⟩) sch.length cap) := fun ob => ((Ext.refl w).alloc ob).cell hr
  have hm : Hid (false = mayB sch c) := by
    show false = mayB sch c
    symm; simp only [mayB, Bool.and_eq_false_iff, decide_eq_false_iff_not]; omega
  by_cases h0 : c.attr < 0
  · go_enter Tryz.func116, Tryz.ntmps116
    go_wp2_with fail
    go_quiet (fail)
    go_wp2_with fail
    go_ret
    exact ⟨ret_bool hm.out, ((Ext.refl _).alloc _).trans (drewN_ext _ _)⟩
  · have h1 : (sch.length : Int) ≤ c.attr := by omega
    go_enter Tryz.func116, Tryz.ntmps116
    go_wp2_with fail
    go_quiet (fail)
    go_wp2_with fail
    go_ret
    exact ⟨ret_bool hm.out, ((Ext.refl _).alloc _).trans (drewN_ext _ _)⟩


theorem bcell {W w1 : World} (hb : Ext W w1) : (∀ b o, b < W.heap.size → w1.cell? ⟨b, o, none⟩ = W.cell? ⟨b, o, none⟩) ∧ (∀ b o, b < W.heap.size → w1.frozen? ⟨b, o, none⟩ = W.frozen? ⟨b, o, none⟩) :=
  ⟨fun b o h => Below.cell (p := ⟨b, o, none⟩) hb h, fun b o h => Below.frozen (p := ⟨b, o, none⟩) hb h⟩

set_option maxHeartbeats 800000 in
theorem May_kindlow (rb b o cap k : Nat) (sch : List Int) (kind T : Int) (ca cb : Vl) (w : World) (_hn : sch.length ≤ 6) (hr : w.cell? ⟨rb, 0, none⟩ = some (.slice (some ⟨b, o, none⟩) sch.length cap)) (hk : k < sch.length) (hs : w.cell? ⟨b, o + k, none⟩ = some (.int .i64 T)) (hkd : kind < 1) :
    Calls Tryz.prog 116 #[.pointer (some ⟨rb, 0, none⟩), .agg #[.int .i64 k, .int .i64 kind, .int .i64 ca.n, .string ca.s, .int .i64 cb.n, .string cb.s]] w fun e w' => e = .returned (.bool false) ∧ Ext w w' := by
  have hra : ∀ ob, (w.alloc ob).cell? ⟨rb, 0, none⟩ = some (.slice (some ⟨b, o, none⟩) sch.length cap) := fun ob => ((Ext.refl w).alloc ob).cell hr
  have hsa : ∀ ob, (w.alloc ob).cell? ⟨b, o + k, none⟩ = some (.int .i64 T) := fun ob => ((Ext.refl w).alloc ob).cell hs
  clear hr hs
  have hd0 : decide ((k : Int) < 0) = false := by rw [decide_eq_false_iff_not]; omega
  have hd1 : decide (sch.length ≤ k) = false := by rw [decide_eq_false_iff_not]; omega
  have hd2 : decide (kind < 1) = true := by rw [decide_eq_true_iff]; omega
  go_enter Tryz.func116, Tryz.ntmps116
  go_wp2_with fail
  go_quiet (fail)
  go_wp2_with fail
  go_ret
  exact ⟨rfl, ((Ext.refl _).alloc _).trans (drewN_ext _ _)⟩

set_option maxHeartbeats 800000 in
theorem May_kindhigh (rb b o cap k : Nat) (sch : List Int) (kind T : Int) (ca cb : Vl) (w : World) (_hn : sch.length ≤ 6) (hr : w.cell? ⟨rb, 0, none⟩ = some (.slice (some ⟨b, o, none⟩) sch.length cap)) (hk : k < sch.length) (hs : w.cell? ⟨b, o + k, none⟩ = some (.int .i64 T)) (hkd : 9 < kind) :
    Calls Tryz.prog 116 #[.pointer (some ⟨rb, 0, none⟩), .agg #[.int .i64 k, .int .i64 kind, .int .i64 ca.n, .string ca.s, .int .i64 cb.n, .string cb.s]] w fun e w' => e = .returned (.bool false) ∧ Ext w w' := by
  have hra : ∀ ob, (w.alloc ob).cell? ⟨rb, 0, none⟩ = some (.slice (some ⟨b, o, none⟩) sch.length cap) := fun ob => ((Ext.refl w).alloc ob).cell hr
  have hsa : ∀ ob, (w.alloc ob).cell? ⟨b, o + k, none⟩ = some (.int .i64 T) := fun ob => ((Ext.refl w).alloc ob).cell hs
  clear hr hs
  have hd0 : decide ((k : Int) < 0) = false := by rw [decide_eq_false_iff_not]; omega
  have hd1 : decide (sch.length ≤ k) = false := by rw [decide_eq_false_iff_not]; omega
  have hd2 : decide (kind < 1) = false := by rw [decide_eq_false_iff_not]; omega
  have hd3 : decide (9 < kind) = true := by rw [decide_eq_true_iff]; omega
  go_enter Tryz.func116, Tryz.ntmps116
  go_wp2_with fail
  go_quiet (fail)
  go_wp2_with fail
  go_ret
  exact ⟨rfl, ((Ext.refl _).alloc _).trans (drewN_ext _ _)⟩

set_option maxHeartbeats 800000 in
theorem May_9 (rb b o cap k : Nat) (sch : List Int) (kind T : Int) (ca cb : Vl) (w : World) (_hn : sch.length ≤ 6) (hr : w.cell? ⟨rb, 0, none⟩ = some (.slice (some ⟨b, o, none⟩) sch.length cap)) (hk : k < sch.length) (hs : w.cell? ⟨b, o + k, none⟩ = some (.int .i64 T)) (hkd : kind = 9) :
    Calls Tryz.prog 116 #[.pointer (some ⟨rb, 0, none⟩), .agg #[.int .i64 k, .int .i64 kind, .int .i64 ca.n, .string ca.s, .int .i64 cb.n, .string cb.s]] w fun e w' => e = .returned (.bool (noneB ca && noneB cb)) ∧ Ext w w' := by
  have hra : ∀ ob, (w.alloc ob).cell? ⟨rb, 0, none⟩ = some (.slice (some ⟨b, o, none⟩) sch.length cap) := fun ob => ((Ext.refl w).alloc ob).cell hr
  have hsa : ∀ ob, (w.alloc ob).cell? ⟨b, o + k, none⟩ = some (.int .i64 T) := fun ob => ((Ext.refl w).alloc ob).cell hs
  clear hr hs
  subst hkd
  have hd0 : decide ((k : Int) < 0) = false := by rw [decide_eq_false_iff_not]; omega
  have hd1 : decide (sch.length ≤ k) = false := by rw [decide_eq_false_iff_not]; omega
  go_enter Tryz.func116, Tryz.ntmps116
  go_wp2_with fail
  go_quiet (fail)
  go_wp2_with fail
  go_quiet (fail)
  go_wp2_with fail
  refine (rfits_any _ _ _ _).mono ?_
  rintro e w1 ⟨rfl, hb1⟩
  obtain ⟨hc1, hf1⟩ := bcell hb1
  have hz1 : w.heap.size < w1.heap.size := by have := hb1.le; simp at this; omega
  go_wp2_with fail
  refine (rfits_any _ _ _ _).mono ?_
  rintro e w2 ⟨rfl, hb2⟩
  obtain ⟨hc2, hf2⟩ := bcell hb2
  have hz2 : w.heap.size < w2.heap.size := by have := hb2.le; omega
  go_wp2_with fail
  refine (none_any _ _ _).mono ?_
  rintro e w3 ⟨rfl, hb3⟩
  obtain ⟨hc3, hf3⟩ := bcell hb3
  have hz3 : w.heap.size < w3.heap.size := by have := hb3.le; omega
  go_wp2_with fail
  refine (none_any _ _ _).mono ?_
  rintro e w4 ⟨rfl, hb4⟩
  obtain ⟨hc4, hf4⟩ := bcell hb4
  have hz4 : w.heap.size < w4.heap.size := by have := hb4.le; omega
  have hE : Ext w w4 := (((((Ext.refl _).alloc _).trans (drewN_ext _ _)).trans hb1).trans hb2).trans (hb3.trans hb4)
  go_wp2_with fail
  all_goals
    go_ret
    exact ⟨ret_bool (by simp [*]), hE⟩

set_option maxHeartbeats 800000 in
theorem May_7 (rb b o cap k : Nat) (sch : List Int) (kind T : Int) (ca cb : Vl) (w : World) (_hn : sch.length ≤ 6) (hr : w.cell? ⟨rb, 0, none⟩ = some (.slice (some ⟨b, o, none⟩) sch.length cap)) (hk : k < sch.length) (hs : w.cell? ⟨b, o + k, none⟩ = some (.int .i64 T)) (hkd : kind = 7) :
    Calls Tryz.prog 116 #[.pointer (some ⟨rb, 0, none⟩), .agg #[.int .i64 k, .int .i64 kind, .int .i64 ca.n, .string ca.s, .int .i64 cb.n, .string cb.s]] w fun e w' => e = .returned (.bool (fitsB T ca && fitsB T cb)) ∧ Ext w w' := by
  have hra : ∀ ob, (w.alloc ob).cell? ⟨rb, 0, none⟩ = some (.slice (some ⟨b, o, none⟩) sch.length cap) := fun ob => ((Ext.refl w).alloc ob).cell hr
  have hsa : ∀ ob, (w.alloc ob).cell? ⟨b, o + k, none⟩ = some (.int .i64 T) := fun ob => ((Ext.refl w).alloc ob).cell hs
  clear hr hs
  subst hkd
  have hd0 : decide ((k : Int) < 0) = false := by rw [decide_eq_false_iff_not]; omega
  have hd1 : decide (sch.length ≤ k) = false := by rw [decide_eq_false_iff_not]; omega
  go_enter Tryz.func116, Tryz.ntmps116
  go_wp2_with fail
  go_quiet (fail)
  go_wp2_with fail
  go_quiet (fail)
  go_wp2_with fail
  refine (rfits_any _ _ _ _).mono ?_
  rintro e w1 ⟨rfl, hb1⟩
  obtain ⟨hc1, hf1⟩ := bcell hb1
  have hz1 : w.heap.size < w1.heap.size := by have := hb1.le; simp at this; omega
  go_wp2_with fail
  refine (rfits_any _ _ _ _).mono ?_
  rintro e w2 ⟨rfl, hb2⟩
  obtain ⟨hc2, hf2⟩ := bcell hb2
  have hz2 : w.heap.size < w2.heap.size := by have := hb2.le; omega
  go_wp2_with fail
  refine (none_any _ _ _).mono ?_
  rintro e w3 ⟨rfl, hb3⟩
  obtain ⟨hc3, hf3⟩ := bcell hb3
  have hz3 : w.heap.size < w3.heap.size := by have := hb3.le; omega
  go_wp2_with fail
  refine (none_any _ _ _).mono ?_
  rintro e w4 ⟨rfl, hb4⟩
  obtain ⟨hc4, hf4⟩ := bcell hb4
  have hz4 : w.heap.size < w4.heap.size := by have := hb4.le; omega
  have hE : Ext w w4 := (((((Ext.refl _).alloc _).trans (drewN_ext _ _)).trans hb1).trans hb2).trans (hb3.trans hb4)
  go_wp2_with fail
  all_goals
    go_ret
    exact ⟨ret_bool (by simp [*]), hE⟩

set_option maxHeartbeats 800000 in
theorem May_8 (rb b o cap k : Nat) (sch : List Int) (kind T : Int) (ca cb : Vl) (w : World) (_hn : sch.length ≤ 6) (hr : w.cell? ⟨rb, 0, none⟩ = some (.slice (some ⟨b, o, none⟩) sch.length cap)) (hk : k < sch.length) (hs : w.cell? ⟨b, o + k, none⟩ = some (.int .i64 T)) (hkd : kind = 8) :
    Calls Tryz.prog 116 #[.pointer (some ⟨rb, 0, none⟩), .agg #[.int .i64 k, .int .i64 kind, .int .i64 ca.n, .string ca.s, .int .i64 cb.n, .string cb.s]] w fun e w' => e = .returned (.bool ((T == 2) && fitsB T ca && noneB cb)) ∧ Ext w w' := by
  have hra : ∀ ob, (w.alloc ob).cell? ⟨rb, 0, none⟩ = some (.slice (some ⟨b, o, none⟩) sch.length cap) := fun ob => ((Ext.refl w).alloc ob).cell hr
  have hsa : ∀ ob, (w.alloc ob).cell? ⟨b, o + k, none⟩ = some (.int .i64 T) := fun ob => ((Ext.refl w).alloc ob).cell hs
  clear hr hs
  subst hkd
  have hd0 : decide ((k : Int) < 0) = false := by rw [decide_eq_false_iff_not]; omega
  have hd1 : decide (sch.length ≤ k) = false := by rw [decide_eq_false_iff_not]; omega
  go_enter Tryz.func116, Tryz.ntmps116
  go_wp2_with fail
  go_quiet (fail)
  go_wp2_with fail
  go_quiet (fail)
  go_wp2_with fail
  refine (rfits_any _ _ _ _).mono ?_
  rintro e w1 ⟨rfl, hb1⟩
  obtain ⟨hc1, hf1⟩ := bcell hb1
  have hz1 : w.heap.size < w1.heap.size := by have := hb1.le; simp at this; omega
  go_wp2_with fail
  refine (rfits_any _ _ _ _).mono ?_
  rintro e w2 ⟨rfl, hb2⟩
  obtain ⟨hc2, hf2⟩ := bcell hb2
  have hz2 : w.heap.size < w2.heap.size := by have := hb2.le; omega
  go_wp2_with fail
  refine (none_any _ _ _).mono ?_
  rintro e w3 ⟨rfl, hb3⟩
  obtain ⟨hc3, hf3⟩ := bcell hb3
  have hz3 : w.heap.size < w3.heap.size := by have := hb3.le; omega
  go_wp2_with fail
  refine (none_any _ _ _).mono ?_
  rintro e w4 ⟨rfl, hb4⟩
  obtain ⟨hc4, hf4⟩ := bcell hb4
  have hz4 : w.heap.size < w4.heap.size := by have := hb4.le; omega
  have hE : Ext w w4 := (((((Ext.refl _).alloc _).trans (drewN_ext _ _)).trans hb1).trans hb2).trans (hb3.trans hb4)
  go_wp2_with fail
  all_goals
    go_ret
    exact ⟨ret_bool (by simp [*]), hE⟩

set_option maxHeartbeats 800000 in
theorem May_else (rb b o cap k : Nat) (sch : List Int) (kind T : Int) (ca cb : Vl) (w : World) (_hn : sch.length ≤ 6) (hr : w.cell? ⟨rb, 0, none⟩ = some (.slice (some ⟨b, o, none⟩) sch.length cap)) (hk : k < sch.length) (hs : w.cell? ⟨b, o + k, none⟩ = some (.int .i64 T)) (hk1 : 1 ≤ kind) (hk9 : kind ≤ 9) (n9 : ¬ kind = 9) (n7 : ¬ kind = 7) (n8 : ¬ kind = 8) :
    Calls Tryz.prog 116 #[.pointer (some ⟨rb, 0, none⟩), .agg #[.int .i64 k, .int .i64 kind, .int .i64 ca.n, .string ca.s, .int .i64 cb.n, .string cb.s]] w fun e w' => e = .returned (.bool (fitsB T ca && noneB cb)) ∧ Ext w w' := by
  have hra : ∀ ob, (w.alloc ob).cell? ⟨rb, 0, none⟩ = some (.slice (some ⟨b, o, none⟩) sch.length cap) := fun ob => ((Ext.refl w).alloc ob).cell hr
  have hsa : ∀ ob, (w.alloc ob).cell? ⟨b, o + k, none⟩ = some (.int .i64 T) := fun ob => ((Ext.refl w).alloc ob).cell hs
  clear hr hs
  have hd0 : decide ((k : Int) < 0) = false := by rw [decide_eq_false_iff_not]; omega
  have hd1 : decide (sch.length ≤ k) = false := by rw [decide_eq_false_iff_not]; omega
  have hd2 : decide (kind < 1) = false := by rw [decide_eq_false_iff_not]; omega
  have hd3 : decide (9 < kind) = false := by rw [decide_eq_false_iff_not]; omega
  have e9 : (kind == 9) = false := by simpa using n9
  have e7 : (kind == 7) = false := by simpa using n7
  have e8 : (kind == 8) = false := by simpa using n8
  go_enter Tryz.func116, Tryz.ntmps116
  go_wp2_with fail
  go_quiet (fail)
  go_wp2_with fail
  go_quiet (fail)
  go_wp2_with fail
  refine (rfits_any _ _ _ _).mono ?_
  rintro e w1 ⟨rfl, hb1⟩
  obtain ⟨hc1, hf1⟩ := bcell hb1
  have hz1 : w.heap.size < w1.heap.size := by have := hb1.le; simp at this; omega
  go_wp2_with fail
  refine (rfits_any _ _ _ _).mono ?_
  rintro e w2 ⟨rfl, hb2⟩
  obtain ⟨hc2, hf2⟩ := bcell hb2
  have hz2 : w.heap.size < w2.heap.size := by have := hb2.le; omega
  go_wp2_with fail
  refine (none_any _ _ _).mono ?_
  rintro e w3 ⟨rfl, hb3⟩
  obtain ⟨hc3, hf3⟩ := bcell hb3
  have hz3 : w.heap.size < w3.heap.size := by have := hb3.le; omega
  go_wp2_with fail
  refine (none_any _ _ _).mono ?_
  rintro e w4 ⟨rfl, hb4⟩
  obtain ⟨hc4, hf4⟩ := bcell hb4
  have hz4 : w.heap.size < w4.heap.size := by have := hb4.le; omega
  have hE : Ext w w4 := (((((Ext.refl _).alloc _).trans (drewN_ext _ _)).trans hb1).trans hb2).trans (hb3.trans hb4)
  go_wp2_with fail
  all_goals
    go_ret
    exact ⟨ret_bool (by simp [*]), hE⟩

theorem May_any (rb b o cap : Nat) (sch : List Int) (c : Cd) (w : World) (hn : sch.length ≤ 6) (hr : w.cell? ⟨rb, 0, none⟩ = some (.slice (some ⟨b, o, none⟩) sch.length cap)) (hs : Ints w b o sch) :
    Calls Tryz.prog 116 #[.pointer (some ⟨rb, 0, none⟩), .agg #[.int .i64 c.attr, .int .i64 c.kind, .int .i64 c.a.n, .string c.a.s, .int .i64 c.b.n, .string c.b.s]] w fun e w' => e = .returned (.bool (mayB sch c)) ∧ Ext w w' := by
  by_cases ha : 0 ≤ c.attr ∧ c.attr < sch.length
  · obtain ⟨ha0, ha1⟩ := ha
    obtain ⟨attr, kind, ca, cb⟩ := c
    simp only at ha0 ha1
    obtain ⟨k, rfl⟩ := Int.eq_ofNat_of_zero_le ha0
    have hk : k < sch.length := by omega
    have hc := hs k hk
    have go : ∀ r, mayB sch ⟨k, kind, ca, cb⟩ = r → (Calls Tryz.prog 116 #[.pointer (some ⟨rb, 0, none⟩), .agg #[.int .i64 k, .int .i64 kind, .int .i64 ca.n, .string ca.s, .int .i64 cb.n, .string cb.s]] w fun e w' => e = .returned (.bool r) ∧ Ext w w') →
        Calls Tryz.prog 116 #[.pointer (some ⟨rb, 0, none⟩), .agg #[.int .i64 k, .int .i64 kind, .int .i64 ca.n, .string ca.s, .int .i64 cb.n, .string cb.s]] w fun e w' => e = .returned (.bool (mayB sch ⟨k, kind, ca, cb⟩)) ∧ Ext w w' := by
      intro r h hc; rw [h]; exact hc
    by_cases h1 : kind < 1
    · exact go _ (by simp [mayB]; omega) (May_kindlow rb b o cap k sch kind _ ca cb w hn hr hk hc h1)
    by_cases h9 : 9 < kind
    · exact go _ (by simp [mayB]; omega) (May_kindhigh rb b o cap k sch kind _ ca cb w hn hr hk hc h9)
    by_cases e9 : kind = 9
    · subst e9
      exact go _ (by simp [mayB, mayK, firstB, secondB, hk]) (May_9 rb b o cap k sch 9 _ ca cb w hn hr hk hc rfl)
    by_cases e7 : kind = 7
    · subst e7
      exact go _ (by simp [mayB, mayK, firstB, secondB, hk]) (May_7 rb b o cap k sch 7 _ ca cb w hn hr hk hc rfl)
    by_cases e8 : kind = 8
    · subst e8
      exact go _ (by simp [mayB, mayK, firstB, secondB, hk, Bool.and_assoc]) (May_8 rb b o cap k sch 8 _ ca cb w hn hr hk hc rfl)
    have a1 : (1 : Int) ≤ kind := by omega
    have a9 : kind ≤ 9 := by omega
    have b9 : (kind == 9) = false := by simpa using e9
    have b7 : (kind == 7) = false := by simpa using e7
    have b8 : (kind == 8) = false := by simpa using e8
    exact go _ (by simp only [mayB, mayK, firstB, secondB, b9, b7, b8]; simp [hk, a1, a9]) (May_else rb b o cap k sch kind _ ca cb w hn hr hk hc (by omega) (by omega) e9 e7 e8)
  · exact May_no rb b o cap sch c w hn hr ha

end Go.Proofs.YtpbblaeamddbgaaGreat
namespace Go.Proofs.YtpbblaeamddbgaaGreat
open Go.RowKit

/-- May a list be a schema? -/
def typB (x : Int) : Bool := (x == 1) || (x == 2)
def schB (xs : List Int) : Bool := xs.all typB && (decide (1 ≤ xs.length) && decide (xs.length ≤ 6))

theorem all_take_succ {α : Type} (p : α → Bool) (xs : List α) (d : α) (k : Nat) (h : k < xs.length) : (xs.take (k + 1)).all p = ((xs.take k).all p && p (xs.getD k d)) := by
  rw [List.take_succ_eq_append_getElem h, List.all_append]
  simp [h]
theorem all_false_of {α : Type} (p : α → Bool) (xs : List α) (d : α) (k : Nat) (h : k < xs.length) (hp : p (xs.getD k d) = false) : xs.all p = false := by
  rw [List.all_eq_false]
  refine ⟨xs[k], List.getElem_mem h, ?_⟩
  have : xs.getD k d = xs[k] := by simp [h]
  rw [← this, hp]; simp

/-- The numbers of a slice: where there are some, they lie there. -/
def Ixs (w : World) (ao : Option Addr) (xs : List Int) : Prop := 0 < xs.length → ∃ b o, ao = some ⟨b, o, none⟩ ∧ Ints w b o xs
theorem Ixs.ext {w w' : World} {ao : Option Addr} {xs : List Int} (h : Ixs w ao xs) (e : Ext w w') : Ixs w' ao xs := fun hp => by
  obtain ⟨b, o, h1, h2⟩ := h hp
  exact ⟨b, o, h1, h2.ext e⟩

theorem schB_no {xs : List Int} {k : Nat} (h : k < xs.length) (hp : typB (xs.getD k 0) = false) : schB xs = false := by
  simp [schB, all_false_of typB xs 0 k h hp]
theorem schB_end {xs : List Int} {k : Nat} (h : (xs.take k).all typB = true) (hk : ¬ k < xs.length) : schB xs = (decide (1 ≤ xs.length) && decide (xs.length ≤ 6)) := by
  rw [List.take_of_length_le (by omega)] at h
  simp [schB, h]

set_option maxHeartbeats 400000 in
theorem rSchema_any (ao : Option Addr) (cap : Nat) (xs : List Int) (w : World) (_hl : xs.length * 8 ≤ 140737488351232) (hs : Ixs w ao xs) :
    Calls Tryz.prog 63 #[.slice ao xs.length cap] w fun e w' => e = .returned (.bool (schB xs)) ∧ w' = w := by
  go_enter Tryz.func63, Tryz.ntmps63
  go_wp2
  go_loop [3] (fun i => ∃ k : Nat, k ≤ xs.length ∧ i = .int .i64 k ∧ (xs.take k).all typB = true) (fun i => xs.length - (intOf i).toNat)
  case atStart => exact ⟨0, Nat.zero_le _, rfl, by simp⟩
  case round =>
    obtain ⟨k, hk, rfl, hall⟩ := hrel
    have HA : Hid ((xs.take k).all typB = true) := hall
    clear hall
    by_cases hlt : k < xs.length
    · obtain ⟨b, o, rfl, hI⟩ := hs (by omega)
      have hc := hI k hlt
      generalize hx : xs.getD k 0 = x at hc
      have HX : Hid (xs.getD k 0 = x) := hx
      clear hx hs hI
      go_wp2
      · go_round
        case rel => exact ⟨k + 1, by omega, by go_num, by rw [all_take_succ typB xs 0 k hlt, HA.out, HX.out]; simp [typB, *]⟩
        case measure => simp [intOf]; omega
      · go_ret
        exact ⟨ret_bool (schB_no hlt (by rw [HX.out]; simp_all [typB])).symm, rfl⟩
      · go_round
        case rel => exact ⟨k + 1, by omega, by go_num, by rw [all_take_succ typB xs 0 k hlt, HA.out, HX.out]; simp_all [typB]⟩
        case measure => simp [intOf]; omega
    · clear hs
      go_wp2
      all_goals
        go_ret
        exact ⟨ret_bool (by rw [schB_end HA.out hlt, Bool.eq_iff_iff]; simp; omega), rfl⟩

set_option maxHeartbeats 400000 in
theorem schemaMayBe_any (ao : Option Addr) (cap : Nat) (xs : List Int) (w : World) (_hl : xs.length * 8 ≤ 140737488351232) (hs : Ixs w ao xs) :
    Calls Tryz.prog 44 #[.slice ao xs.length cap] w fun e w' => e = .returned (.bool (schB xs)) ∧ w' = w := by
  by_cases h16 : 1 ≤ xs.length ∧ xs.length ≤ 6
  · obtain ⟨h1, h6⟩ := h16
    obtain ⟨b, o, rfl, hI⟩ := hs (by omega)
    clear hs
    go_enter Tryz.func44, Tryz.ntmps44
    go_wp2
    go_loop [15] (fun i => ∃ k : Nat, k ≤ xs.length ∧ i = .int .i64 k ∧ (xs.take k).all typB = true) (fun i => xs.length - (intOf i).toNat)
    case atStart => exact ⟨0, Nat.zero_le _, rfl, by simp⟩
    case round =>
      obtain ⟨k, hk, rfl, hall⟩ := hrel
      have HA : Hid ((xs.take k).all typB = true) := hall
      clear hall
      by_cases hlt : k < xs.length
      · have hc := hI k hlt
        generalize hx : xs.getD k 0 = x at hc
        have HX : Hid (xs.getD k 0 = x) := hx
        clear hx hI
        go_wp2
        · go_round
          case rel => exact ⟨k + 1, by omega, by go_num, by rw [all_take_succ typB xs 0 k hlt, HA.out, HX.out]; simp [typB, *]⟩
          case measure => simp [intOf]; omega
        · go_ret
          exact ⟨ret_bool (schB_no hlt (by rw [HX.out]; simp_all [typB])).symm, rfl⟩
        · go_round
          case rel => exact ⟨k + 1, by omega, by go_num, by rw [all_take_succ typB xs 0 k hlt, HA.out, HX.out]; simp_all [typB]⟩
          case measure => simp [intOf]; omega
      · clear hI
        go_wp2
        all_goals
          go_ret
          exact ⟨ret_bool (by rw [schB_end HA.out hlt]; simp; omega), rfl⟩
  · have hf : Hid (false = schB xs) := by
      show false = schB xs
      symm; simp only [schB, Bool.and_eq_false_iff, decide_eq_false_iff_not]; omega
    clear hs
    by_cases h0 : xs.length < 1
    · go_enter Tryz.func44, Tryz.ntmps44
      go_wp2
      go_ret
      exact ⟨ret_bool hf.out, rfl⟩
    · have h6 : 6 < xs.length := by omega
      go_enter Tryz.func44, Tryz.ntmps44
      go_wp2
      go_ret
      exact ⟨ret_bool hf.out, rfl⟩

end Go.Proofs.YtpbblaeamddbgaaGreat
namespace Go.Proofs.YtpbblaeamddbgaaGreat
open Go.RowKit

def eqB (xs ys : List Int) : Bool := decide (xs = ys)

theorem eq_of_take {xs ys : List Int} {k : Nat} (hlen : xs.length = ys.length) (hk : ¬ k < ys.length) (h : xs.take k = ys.take k) : eqB xs ys = true := by
  rw [List.take_of_length_le (by omega), List.take_of_length_le (by omega)] at h
  simp [eqB, h]
theorem take_succ_eq {α : Type} {xs ys : List α} (d : α) {k : Nat} (h1 : k < xs.length) (h2 : k < ys.length) (h : xs.take k = ys.take k) (he : xs.getD k d = ys.getD k d) : xs.take (k + 1) = ys.take (k + 1) := by
  rw [List.take_succ_eq_append_getElem h1, List.take_succ_eq_append_getElem h2, h]
  have e1 : xs.getD k d = xs[k] := by simp [h1]
  have e2 : ys.getD k d = ys[k] := by simp [h2]
  rw [← e1, ← e2, he]
theorem ne_of_getD {xs ys : List Int} {k : Nat} (h : ¬ xs.getD k 0 = ys.getD k 0) : eqB xs ys = false := by
  simp only [eqB, decide_eq_false_iff_not]; rintro rfl; exact h rfl

set_option maxHeartbeats 400000 in
theorem sameNumbers_any (ao bo : Option Addr) (ca cb : Nat) (xs ys : List Int) (w : World) (_hl : xs.length ≤ 9223372036854775807) (_hm : ys.length ≤ 9223372036854775807) (hs : Ixs w ao xs) (ht : Ixs w bo ys) :
    Calls Tryz.prog 71 #[.slice ao xs.length ca, .slice bo ys.length cb] w fun e w' => e = .returned (.bool (eqB xs ys)) ∧ Ext w w' := by
  by_cases hlen : xs.length = ys.length
  · have HL : Hid (xs.length = ys.length) := hlen
    have hneq : ((xs.length : Int) != (ys.length : Int)) = false := by simp [hlen]
    have hle : xs.length ≤ ys.length := by omega
    have hge : ys.length ≤ xs.length := by omega
    clear hlen
    go_enter Tryz.func71, Tryz.ntmps71
    go_wp2
    go_loopw [5] (fun i wr => ∃ k : Nat, k ≤ xs.length ∧ i = .int .i64 k ∧ xs.take k = ys.take k ∧ Ext w wr) (fun i _ => xs.length - (intOf i).toNat)
    case atStart => exact ⟨0, Nat.zero_le _, rfl, by simp, Ext.refl _⟩
    case round =>
      obtain ⟨k, hk, rfl, hall, hE⟩ := hrel
      have HA : Hid (xs.take k = ys.take k) := hall
      clear hall
      by_cases hlt : k < xs.length
      · obtain ⟨b, o, rfl, hI⟩ := hs (by omega)
        obtain ⟨b', o', rfl, hJ⟩ := ht (by omega)
        have hc := hE.cell (hI k hlt)
        have hd := hE.cell (hJ k (by omega))
        clear hs hI ht hJ
        generalize hx : xs.getD k 0 = x at hc
        generalize hy : ys.getD k 0 = y at hd
        have HX : Hid (xs.getD k 0 = x) := hx
        have HY : Hid (ys.getD k 0 = y) := hy
        clear hx hy
        by_cases hxy : x = y
        · subst hxy
          go_wp2
          go_quiet (fail)
          go_wp2
          go_roundw
          case rel => exact ⟨k + 1, by omega, by go_num, take_succ_eq 0 hlt (by omega) HA.out (HX.out.trans HY.out.symm), hE.trans (drewN_ext _ _)⟩
          case measure => simp [intOf]; omega
        · have hne : (x != y) = true := by simpa using hxy
          go_wp2
          go_quiet (fail)
          go_wp2
          go_ret
          exact ⟨ret_bool (ne_of_getD (by rw [HX.out, HY.out]; exact hxy)).symm, hE.trans (drewN_ext _ _)⟩
      · clear hs ht
        go_wp2
        go_ret
        exact ⟨ret_bool (eq_of_take HL.out (by omega) HA.out).symm, hE⟩
  · have hneq : ((xs.length : Int) != (ys.length : Int)) = true := by simp; omega
    have hf : Hid (false = eqB xs ys) := by
      show false = eqB xs ys
      symm; simp only [eqB, decide_eq_false_iff_not]; rintro rfl; exact hlen rfl
    clear hs ht
    go_enter Tryz.func71, Tryz.ntmps71
    go_wp2
    go_ret
    exact ⟨ret_bool hf.out, Ext.refl _⟩

/-- The conditions of a list lie there. -/
def Cds (w : World) (b o : Nat) (l : List Cd) : Prop := ∀ j (hj : j < l.length), w.cell? ⟨b, o + j * 6, none⟩ = some (.int .i64 l[j].attr) ∧ w.cell? ⟨b, o + j * 6 + 1, none⟩ = some (.int .i64 l[j].kind) ∧ w.cell? ⟨b, o + j * 6 + 2, none⟩ = some (.int .i64 l[j].a.n)
  ∧ w.cell? ⟨b, o + j * 6 + 3, none⟩ = some (.string l[j].a.s) ∧ w.cell? ⟨b, o + j * 6 + 4, none⟩ = some (.int .i64 l[j].b.n) ∧ w.cell? ⟨b, o + j * 6 + 5, none⟩ = some (.string l[j].b.s)
theorem Cds.ext {w w' : World} {b o : Nat} {l : List Cd} (h : Cds w b o l) (e : Ext w w') : Cds w' b o l := fun j hj => by
  obtain ⟨h0, h1, h2, h3, h4, h5⟩ := h j hj
  exact ⟨e.cell h0, e.cell h1, e.cell h2, e.cell h3, e.cell h4, e.cell h5⟩
def Cxs (w : World) (ao : Option Addr) (l : List Cd) : Prop := 0 < l.length → ∃ b o, ao = some ⟨b, o, none⟩ ∧ Cds w b o l
theorem Cxs.ext {w w' : World} {ao : Option Addr} {l : List Cd} (h : Cxs w ao l) (e : Ext w w') : Cxs w' ao l := fun hp => by
  obtain ⟨b, o, h1, h2⟩ := h hp
  exact ⟨b, o, h1, h2.ext e⟩

set_option maxHeartbeats 400000 in
theorem badCond_bad (sb so scap : Nat) (sch : List Int) (ao : Option Addr) (cap : Nat) (l : List Cd) (w : World) (hn : sch.length ≤ 6) (hI : Ints w sb so sch) (_hl : l.length ≤ 8) (hs : Cxs w ao l)
    (q : Nat) (hq : q < l.length) (hqa : ∀ j (hj : j < l.length), j < q → mayB sch l[j] = true) (hqb : mayB sch l[q] = false) :
    Calls Tryz.prog 48 #[.slice (some ⟨sb, so, none⟩) sch.length scap, .slice ao l.length cap] w fun e w' => e = .returned (.tuple #[.int .i64 q, .bool true]) ∧ Ext w w' := by
  obtain ⟨b, o, rfl, hC⟩ := hs (by omega)
  clear hs
  have HQ : Hid ((∀ j (hj : j < l.length), j < q → mayB sch l[j] = true) ∧ mayB sch l[q] = false) := ⟨hqa, hqb⟩
  clear hqa hqb
  go_enter Tryz.func48, Tryz.ntmps48
  go_wp2
  go_loopw [10] (fun i wr => ∃ k : Nat, k ≤ q ∧ i = .int .i64 k ∧ Ext w wr) (fun i _ => l.length - (intOf i).toNat)
  case atStart => exact ⟨0, Nat.zero_le _, rfl, Ext.refl _⟩
  case round =>
    obtain ⟨k, hk, rfl, hE⟩ := hrel
    have hlt : k < l.length := by omega
    obtain ⟨h0, h1, h2, h3, h4, h5⟩ := hC.ext hE k hlt
    have hS := hI.ext hE
    clear hC hI
    go_wp2_with fail
    by_cases hkq : k = q
    · subst hkq
      refine (condMayBe_is sb so scap sch l[k] _ hn (hS.ext ((Ext.refl _).alloc _)) _ HQ.out.2).mono ?_
      rintro e w1 ⟨rfl, hb⟩
      go_wp2
      go_ret2
      exact ⟨rfl, (hE.alloc _).trans hb⟩
    · refine (condMayBe_is sb so scap sch l[k] _ hn (hS.ext ((Ext.refl _).alloc _)) _ (HQ.out.1 k hlt (by omega))).mono ?_
      rintro e w1 ⟨rfl, hb⟩
      have hkq' : k < q := by omega
      clear hS h0 h1 h2 h3 h4 h5
      go_wp2
      go_roundw
      case rel => exact ⟨k + 1, by omega, by go_num, (hE.alloc _).trans hb⟩
      case measure => simp [intOf]; omega

set_option maxHeartbeats 400000 in
theorem badCond_ok (sb so scap : Nat) (sch : List Int) (ao : Option Addr) (cap : Nat) (l : List Cd) (w : World) (hn : sch.length ≤ 6) (hI : Ints w sb so sch) (_hl : l.length ≤ 8) (hs : Cxs w ao l)
    (hqa : ∀ j (hj : j < l.length), mayB sch l[j] = true) :
    Calls Tryz.prog 48 #[.slice (some ⟨sb, so, none⟩) sch.length scap, .slice ao l.length cap] w fun e w' => e = .returned (.tuple #[.int .i64 0, .bool false]) ∧ Ext w w' := by
  have HQ : Hid (∀ j (hj : j < l.length), mayB sch l[j] = true) := hqa
  clear hqa
  go_enter Tryz.func48, Tryz.ntmps48
  go_wp2
  go_loopw [10] (fun i wr => ∃ k : Nat, k ≤ l.length ∧ i = .int .i64 k ∧ Ext w wr) (fun i _ => l.length - (intOf i).toNat)
  case atStart => exact ⟨0, Nat.zero_le _, rfl, Ext.refl _⟩
  case round =>
    obtain ⟨k, hk, rfl, hE⟩ := hrel
    by_cases hlt : k < l.length
    · obtain ⟨b, o, rfl, hC⟩ := hs (by omega)
      obtain ⟨h0, h1, h2, h3, h4, h5⟩ := hC.ext hE k hlt
      have hS := hI.ext hE
      clear hC hI hs
      go_wp2_with fail
      refine (condMayBe_is sb so scap sch l[k] _ hn (hS.ext ((Ext.refl _).alloc _)) _ (HQ.out k hlt)).mono ?_
      rintro e w1 ⟨rfl, hb⟩
      clear hS h0 h1 h2 h3 h4 h5
      go_wp2
      go_roundw
      case rel => exact ⟨k + 1, by omega, by go_num, (hE.alloc _).trans hb⟩
      case measure => simp [intOf]; omega
    · clear hs hI
      go_wp2
      go_ret2
      exact ⟨rfl, hE⟩

set_option maxHeartbeats 400000 in
theorem sameConds_eq (ao bo : Option Addr) (ca cb : Nat) (l m : List Cd) (w : World) (_hl : l.length ≤ 9223372036854775807) (hs : Cxs w ao l) (ht : Cxs w bo m) (hlm : l = m) :
    Calls Tryz.prog 117 #[.slice ao l.length ca, .slice bo m.length cb] w fun e w' => e = .returned (.bool true) ∧ Ext w w' := by
  subst hlm
  go_enter Tryz.func117, Tryz.ntmps117
  go_wp2
  go_loopw [5] (fun i wr => ∃ k : Nat, k ≤ l.length ∧ i = .int .i64 k ∧ Ext w wr) (fun i _ => l.length - (intOf i).toNat)
  case atStart => exact ⟨0, Nat.zero_le _, rfl, Ext.refl _⟩
  case round =>
    obtain ⟨k, hk, rfl, hE⟩ := hrel
    by_cases hlt : k < l.length
    · obtain ⟨b, o, rfl, hC⟩ := hs (by omega)
      obtain ⟨b', o', rfl, hD⟩ := ht (by omega)
      obtain ⟨h0, h1, h2, h3, h4, h5⟩ := hC.ext hE k hlt
      obtain ⟨g0, g1, g2, g3, g4, g5⟩ := hD.ext hE k hlt
      clear hC hD hs ht
      go_wp2
      go_quiet (fail)
      go_wp2
      go_roundw
      case rel => exact ⟨k + 1, by omega, by go_num, hE.trans (drewN_ext _ _)⟩
      case measure => simp [intOf]; omega
    · clear hs ht
      go_wp2
      go_ret
      exact ⟨rfl, hE⟩
end Go.Proofs.YtpbblaeamddbgaaGreat
