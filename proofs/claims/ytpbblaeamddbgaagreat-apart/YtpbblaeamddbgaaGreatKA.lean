import Derived.Deep.RegionHeld3
import Derived.Test.YtpbblaeamddbgaaGreatGD
import Derived.Test.YtpbblaeamddbgaaGreatGG
import Derived.Test.YtpbblaeamddbgaaGreatGE
import Derived.Test.YtpbblaeamddbgaaGreatGF
import Derived.Test.YtpbblaeamddbgaaGreatHC
namespace Go.Proofs.YtpbblaeamddbgaaGreat
open Go.RowKit

theorem kresults_cell1 {P : Program} {fn : Func} {p : Tmp} {ty : TypeId} (h : fn.results = #[.cell p ty]) (tmps : Array Value) (w : World) (g : Nat) (cs : List Value) (d : TypeDesc) (T : TypeId) (hr : Row w g T cs)
    (hu : P.underlying ty = some d) (hd : d.isRow = true) (hi : (P.info? ty).map (·.size) = some cs.length) (hp : tmps.getD p undef = .pointer (some ⟨g, 0, none⟩)) :
    (results fn tmps).run P w = .ok (.agg cs.toArray) w := by
  have hl := run_loadVar_mid (P := P) w g 0 ty cs d hr.range hu hd hi
  have hp' : tmps[p]?.getD undef = .pointer (some ⟨g, 0, none⟩) := by simpa using hp
  simp only [results, h]
  simp [hp', asAddr, hl]
theorem Tryz.sizeVl : (Tryz.prog.info? 69).map (·.size) = some 2 := by kernel_rfl

/-- The value of an attribute, by raw ones. -/
def valOf (a : Nat) (n : Int) (s : ByteArray) : Vl := if a % 2 = 0 then ⟨n, ⟨#[]⟩⟩ else if 20 < s.size then ⟨0, s.extract 0 20⟩ else ⟨0, s⟩
theorem kvalue_any (a : Nat) (n : Int) (s : ByteArray) (w : World) (ha : a < 4) :
    Calls Tryz.prog 40 #[.int .i64 a, .int .i64 n, .string s] w fun e w' => e = .returned (.agg (valOf a n s).cells.toArray) ∧ Ext w w' := by
  rcases (show a = 0 ∨ a = 1 ∨ a = 2 ∨ a = 3 by omega) with rfl | rfl | rfl | rfl
  · go_enter Tryz.func40, Tryz.ntmps40
    go_wp2
    refine bodyPost_ret (kresults_cell1 Tryz.results40 _ _ _ _ _ _ (row_alloc _ _ _ _ _ rfl rfl) Tryz.underlying69 rfl Tryz.sizeVl rfl) rfl ⟨by simp [valOf, Vl.cells], (Ext.refl _).alloc _⟩
  · by_cases hs : 20 < s.size
    · go_enter Tryz.func40, Tryz.ntmps40
      go_wp2
      refine bodyPost_ret (kresults_cell1 Tryz.results40 _ _ _ _ _ _ (row_alloc _ _ _ _ _ rfl rfl) Tryz.underlying69 rfl Tryz.sizeVl rfl) rfl ⟨by simp [valOf, Vl.cells, hs], (Ext.refl _).alloc _⟩
    · go_enter Tryz.func40, Tryz.ntmps40
      go_wp2
      refine bodyPost_ret (kresults_cell1 Tryz.results40 _ _ _ _ _ _ (row_alloc _ _ _ _ _ rfl rfl) Tryz.underlying69 rfl Tryz.sizeVl rfl) rfl ⟨by simp [valOf, Vl.cells, hs], (Ext.refl _).alloc _⟩
  · go_enter Tryz.func40, Tryz.ntmps40
    go_wp2
    refine bodyPost_ret (kresults_cell1 Tryz.results40 _ _ _ _ _ _ (row_alloc _ _ _ _ _ rfl rfl) Tryz.underlying69 rfl Tryz.sizeVl rfl) rfl ⟨by simp [valOf, Vl.cells], (Ext.refl _).alloc _⟩
  · by_cases hs : 20 < s.size
    · go_enter Tryz.func40, Tryz.ntmps40
      go_wp2
      refine bodyPost_ret (kresults_cell1 Tryz.results40 _ _ _ _ _ _ (row_alloc _ _ _ _ _ rfl rfl) Tryz.underlying69 rfl Tryz.sizeVl rfl) rfl ⟨by simp [valOf, Vl.cells, hs], (Ext.refl _).alloc _⟩
    · go_enter Tryz.func40, Tryz.ntmps40
      go_wp2
      refine bodyPost_ret (kresults_cell1 Tryz.results40 _ _ _ _ _ _ (row_alloc _ _ _ _ _ rfl rfl) Tryz.underlying69 rfl Tryz.sizeVl rfl) rfl ⟨by simp [valOf, Vl.cells, hs], (Ext.refl _).alloc _⟩
theorem val_size (a : Nat) (n : Int) (s : ByteArray) : (valOf a n s).s.size ≤ 20 := by
  unfold valOf
  split
  · exact Nat.zero_le _
  · split
    · simp [ByteArray.size_extract]; omega
    · simp; omega
theorem val_fits (a : Nat) (n : Int) (s : ByteArray) (k : Int) (hk : k = if a % 2 = 0 then 1 else 2) : fitsB k (valOf a n s) = true := by
  have hz := val_size a n s
  unfold fitsB
  subst hk
  by_cases h : a % 2 = 0
  · simp [h, valOf]
  · simp only [h, if_false]
    have e : (valOf a n s).n = 0 := by unfold valOf; rw [if_neg h]; split <;> rfl
    simp [e]; omega

/-- A condition, by raw numbers. -/
structure Wt where
  attr : Int
  kind : Int
  n : Int
  m : Int
  s : ByteArray
  t : ByteArray
def Wt.cells (x : Wt) : List Value := [.int .i64 x.attr, .int .i64 x.kind, .int .i64 x.n, .int .i64 x.m, .string x.s, .string x.t]
def pickI (c : Int) (n : Nat) : Nat := ((if c < 0 then -(c + 1) else c) % (n : Int)).toNat
theorem pickI_lt (c : Int) (n : Nat) (hn : 1 ≤ n) : pickI c n < n := by
  unfold pickI
  have h1 := Int.emod_nonneg (if c < 0 then -(c + 1) else c) (show (n : Int) ≠ 0 by omega)
  have h2 := Int.emod_lt_of_pos (if c < 0 then -(c + 1) else c) (show (0 : Int) < n by omega)
  omega
theorem kpick_any (c : Int) (n : Nat) (w : World) (h1 : -9223372036854775808 ≤ c) (h2 : c ≤ 9223372036854775807) (hn : 1 ≤ n) (hm : n ≤ 1000000000000000) :
    Calls Tryz.prog 26 #[.int .i64 c, .int .i64 n] w fun e w' => e = .returned (.int .i64 (pickI c n)) ∧ w' = w := by
  have h3 := Int.emod_nonneg (if c < 0 then -(c + 1) else c) (show (n : Int) ≠ 0 by omega)
  by_cases hc : c < 0
  · have he2 : Hid (-(c + 1).tmod (n : Int) = (pickI c n : Int)) := by
      show _ = _
      rw [if_pos hc] at h3
      rw [← Int.neg_tmod, Int.tmod_eq_emod_of_nonneg (by omega)]
      simp only [pickI, if_pos hc]; omega
    clear h3
    generalize pickI c n = i at *
    go_enter Tryz.func26, Tryz.ntmps26
    go_wp2
    go_ret
    exact ⟨by simp [he2.out], rfl⟩
  · have he2 : Hid (c % (n : Int) = (pickI c n : Int)) := by
      show _ = _
      rw [if_neg hc] at h3
      simp only [pickI, if_neg hc]; omega
    clear h3
    generalize pickI c n = i at *
    go_enter Tryz.func26, Tryz.ntmps26
    go_wp2
    go_ret
    exact ⟨by simp [he2.out], rfl⟩
end Go.Proofs.YtpbblaeamddbgaaGreat
namespace Go.Proofs.YtpbblaeamddbgaaGreat
open Go.RowKit

def kindOf (x : Wt) : Nat := if 1 + pickI x.kind 9 = 8 ∧ pickI x.attr 4 % 2 = 0 then 1 else 1 + pickI x.kind 9
/-- The condition that raw numbers stand for. -/
def condOf (x : Wt) : Cd := ⟨pickI x.attr 4, kindOf x, if kindOf x = 9 then vz else valOf (pickI x.attr 4) x.n x.s, if kindOf x = 7 then valOf (pickI x.attr 4) x.m x.t else vz⟩
def WtOK (x : Wt) : Prop := (-9223372036854775808 ≤ x.attr ∧ x.attr ≤ 9223372036854775807) ∧ -9223372036854775808 ≤ x.kind ∧ x.kind ≤ 9223372036854775807

theorem vl_one (v : Vl) : ∀ u ∈ v.cells, u.oneCell' = true := by
  intro u hu
  simp only [Vl.cells, List.mem_cons, List.not_mem_nil, or_false] at hu
  rcases hu with rfl | rfl <;> rfl

set_option maxHeartbeats 800000 in
set_option maxRecDepth 100000 in
theorem cond_has (xa xk xn xm : Int) (xs xt : ByteArray) (w : World) (a k : Nat) (H1 : Hid (∀ w, Calls Tryz.prog 26 #[.int .i64 xa, .int .i64 4] w fun e w' => e = .returned (.int .i64 a) ∧ w' = w)) (H2 : Hid (∀ w, Calls Tryz.prog 26 #[.int .i64 xk, .int .i64 9] w fun e w' => e = .returned (.int .i64 k) ∧ w' = w)) (_ha : a < 4) (_hk : k < 9) (h8 : k = 8) :
    Calls Tryz.prog 52 #[.agg #[.int .i64 xa, .int .i64 xk, .int .i64 xn, .int .i64 xm, .string xs, .string xt]] w fun e w' => e = .returned (.agg (Cd.cells ⟨(a : Int), 9, vz, vz⟩).toArray) ∧ Ext w w' := by
  subst h8
  go_enter Tryz.func52, Tryz.ntmps52
  go_wp2_with fail
  refine Calls.mono (H1.out _) ?_
  rintro e w1 ⟨rfl, rfl⟩
  go_wp2_with fail
  refine Calls.mono (H2.out _) ?_
  rintro e w2 ⟨rfl, rfl⟩
  go_wp2_with fail
  refine bodyPost_ret (kresults_cell1 Tryz.results52 _ _ _ _ _ _ (Row.ext (row_alloc _ _ _ _ _ (by simp) rfl) ((Ext.refl _).alloc _)) Tryz.underlying80 rfl Tryz.sizeCd rfl) rfl ⟨rfl, (((Ext.refl w).alloc _).alloc _).alloc _⟩

set_option maxHeartbeats 800000 in
set_option maxRecDepth 100000 in
theorem cond_even (xa xk xn xm : Int) (xs xt : ByteArray) (w : World) (a k : Nat) (H1 : Hid (∀ w, Calls Tryz.prog 26 #[.int .i64 xa, .int .i64 4] w fun e w' => e = .returned (.int .i64 a) ∧ w' = w)) (H2 : Hid (∀ w, Calls Tryz.prog 26 #[.int .i64 xk, .int .i64 9] w fun e w' => e = .returned (.int .i64 k) ∧ w' = w)) (ha : a < 4) (_hk : k < 9) (h7 : k = 7) (hp : (a : Int) % 2 = 0) :
    Calls Tryz.prog 52 #[.agg #[.int .i64 xa, .int .i64 xk, .int .i64 xn, .int .i64 xm, .string xs, .string xt]] w fun e w' => e = .returned (.agg (Cd.cells ⟨(a : Int), 1, valOf a xn xs, vz⟩).toArray) ∧ Ext w w' := by
  subst h7
  have hv : ∀ w, Calls Tryz.prog 40 #[.int .i64 a, .int .i64 xn, .string xs] w fun e w' => e = .returned (.agg (valOf a xn xs).cells.toArray) ∧ Ext w w' := fun w => kvalue_any a xn xs w ha
  generalize valOf a xn xs = v at *
  have HV : Hid (∀ w, Calls Tryz.prog 40 #[.int .i64 a, .int .i64 xn, .string xs] w fun e w' => e = .returned (.agg v.cells.toArray) ∧ Ext w w') := hv
  clear hv
  go_enter Tryz.func52, Tryz.ntmps52
  go_wp2_with fail
  refine Calls.mono (H1.out _) ?_
  rintro e w1 ⟨rfl, rfl⟩
  go_wp2_with fail
  refine Calls.mono (H2.out _) ?_
  rintro e w2 ⟨rfl, rfl⟩
  go_wp2_with fail
  refine Calls.mono (HV.out _) ?_
  rintro e w4 ⟨rfl, hE4⟩
  have hEw : Ext w w4 := Ext.trans ((((Ext.refl w).alloc _).alloc _).alloc _) hE4
  have rB : Row w4 (w.heap.size + 1) 80 [.int .i64 0, .int .i64 0, .int .i64 0, .string ⟨#[]⟩, .int .i64 0, .string ⟨#[]⟩] := Row.ext (Row.ext (row_alloc _ _ _ _ _ (by simp) rfl) ((Ext.refl _).alloc _)) hE4
  have rC : Row w4 (w.heap.size + 1 + 1) 80 [.int .i64 a, .int .i64 (1), .int .i64 0, .string ⟨#[]⟩, .int .i64 0, .string ⟨#[]⟩] := Row.ext (row_alloc _ _ _ _ _ (by simp) rfl) hE4
  obtain ⟨w5, hw5⟩ : ∃ w5, w5 = w4.setCells (w.heap.size + 1 + 1) 2 v.cells := ⟨_, rfl⟩
  have rC5 : Row w5 (w.heap.size + 1 + 1) 80 [.int .i64 a, .int .i64 (1), .int .i64 v.n, .string v.s, .int .i64 0, .string ⟨#[]⟩] := by
    rw [hw5]; exact row_setCells v.cells 2 w4 _ rC (by show 2 + 2 ≤ 6; decide)
  have k5 : Kp (fun b => b = w.heap.size + 1 + 1) w4 w5 := by rw [hw5]; exact kp_setCells (M := fun b => b = w.heap.size + 1 + 1) rfl _ _ _ _ (Kp.refl _ _)
  have rB5 := k5.row rB (by omega)
  have E5 : Ext w w5 := hEw.kpFresh k5 (by omega)
  have q1 := rC5.at (j := 1) rfl
  have HW5 : Hid (w5 = w4.setCells (w.heap.size + 1 + 1) 2 v.cells) := hw5
  clear hw5 k5
  have ta : True := trivial
  have tb : True := trivial
  go_wp2_with (first
    | (have _t := ta; refine wpList_store_mid rfl 69 _ _ rfl (w.heap.size + 1 + 1) 2 v.cells.toArray rfl rfl (rC.mid 2 2 (by simp)) Tryz.sizeVl (all_oneCell_toArray (vl_one v)) ?_; rw [← HW5.out]; clear ta)
    | (refine wpList_load_row rfl 80 _ rfl (w.heap.size + 1 + 1) rfl [.int .i64 a, .int .i64 (1), .int .i64 v.n, .string v.s, .int .i64 0, .string ⟨#[]⟩] _ 80 rC5 Tryz.underlying80 rfl Tryz.sizeCd ?_; clear rC5)
    | (have _t := tb; refine wpList_store_row rfl 80 _ _ rfl (w.heap.size + 1) [.int .i64 a, .int .i64 (1), .int .i64 v.n, .string v.s, .int .i64 0, .string ⟨#[]⟩] _ rfl rfl 80 rB5 rfl Tryz.sizeCd (cd_one ⟨(a : Int), 1, v, vz⟩) ?_; intro w7 r7 k7; clear tb))
  refine bodyPost_ret (kresults_cell1 Tryz.results52 _ _ _ _ _ _ r7 Tryz.underlying80 rfl Tryz.sizeCd rfl) rfl ⟨rfl, E5.kpFresh k7 (by omega)⟩

set_option maxHeartbeats 800000 in
set_option maxRecDepth 100000 in
theorem cond_odd (xa xk xn xm : Int) (xs xt : ByteArray) (w : World) (a k : Nat) (H1 : Hid (∀ w, Calls Tryz.prog 26 #[.int .i64 xa, .int .i64 4] w fun e w' => e = .returned (.int .i64 a) ∧ w' = w)) (H2 : Hid (∀ w, Calls Tryz.prog 26 #[.int .i64 xk, .int .i64 9] w fun e w' => e = .returned (.int .i64 k) ∧ w' = w)) (ha : a < 4) (_hk : k < 9) (h7 : k = 7) (hp : (a : Int) % 2 = 1) :
    Calls Tryz.prog 52 #[.agg #[.int .i64 xa, .int .i64 xk, .int .i64 xn, .int .i64 xm, .string xs, .string xt]] w fun e w' => e = .returned (.agg (Cd.cells ⟨(a : Int), 8, valOf a xn xs, vz⟩).toArray) ∧ Ext w w' := by
  subst h7
  have hv : ∀ w, Calls Tryz.prog 40 #[.int .i64 a, .int .i64 xn, .string xs] w fun e w' => e = .returned (.agg (valOf a xn xs).cells.toArray) ∧ Ext w w' := fun w => kvalue_any a xn xs w ha
  generalize valOf a xn xs = v at *
  have HV : Hid (∀ w, Calls Tryz.prog 40 #[.int .i64 a, .int .i64 xn, .string xs] w fun e w' => e = .returned (.agg v.cells.toArray) ∧ Ext w w') := hv
  clear hv
  go_enter Tryz.func52, Tryz.ntmps52
  go_wp2_with fail
  refine Calls.mono (H1.out _) ?_
  rintro e w1 ⟨rfl, rfl⟩
  go_wp2_with fail
  refine Calls.mono (H2.out _) ?_
  rintro e w2 ⟨rfl, rfl⟩
  go_wp2_with fail
  refine Calls.mono (HV.out _) ?_
  rintro e w4 ⟨rfl, hE4⟩
  have hEw : Ext w w4 := Ext.trans ((((Ext.refl w).alloc _).alloc _).alloc _) hE4
  have rB : Row w4 (w.heap.size + 1) 80 [.int .i64 0, .int .i64 0, .int .i64 0, .string ⟨#[]⟩, .int .i64 0, .string ⟨#[]⟩] := Row.ext (Row.ext (row_alloc _ _ _ _ _ (by simp) rfl) ((Ext.refl _).alloc _)) hE4
  have rC : Row w4 (w.heap.size + 1 + 1) 80 [.int .i64 a, .int .i64 (8), .int .i64 0, .string ⟨#[]⟩, .int .i64 0, .string ⟨#[]⟩] := Row.ext (row_alloc _ _ _ _ _ (by simp) rfl) hE4
  obtain ⟨w5, hw5⟩ : ∃ w5, w5 = w4.setCells (w.heap.size + 1 + 1) 2 v.cells := ⟨_, rfl⟩
  have rC5 : Row w5 (w.heap.size + 1 + 1) 80 [.int .i64 a, .int .i64 (8), .int .i64 v.n, .string v.s, .int .i64 0, .string ⟨#[]⟩] := by
    rw [hw5]; exact row_setCells v.cells 2 w4 _ rC (by show 2 + 2 ≤ 6; decide)
  have k5 : Kp (fun b => b = w.heap.size + 1 + 1) w4 w5 := by rw [hw5]; exact kp_setCells (M := fun b => b = w.heap.size + 1 + 1) rfl _ _ _ _ (Kp.refl _ _)
  have rB5 := k5.row rB (by omega)
  have E5 : Ext w w5 := hEw.kpFresh k5 (by omega)
  have q1 := rC5.at (j := 1) rfl
  have HW5 : Hid (w5 = w4.setCells (w.heap.size + 1 + 1) 2 v.cells) := hw5
  clear hw5 k5
  have ta : True := trivial
  have tb : True := trivial
  go_wp2_with (first
    | (have _t := ta; refine wpList_store_mid rfl 69 _ _ rfl (w.heap.size + 1 + 1) 2 v.cells.toArray rfl rfl (rC.mid 2 2 (by simp)) Tryz.sizeVl (all_oneCell_toArray (vl_one v)) ?_; rw [← HW5.out]; clear ta)
    | (refine wpList_load_row rfl 80 _ rfl (w.heap.size + 1 + 1) rfl [.int .i64 a, .int .i64 (8), .int .i64 v.n, .string v.s, .int .i64 0, .string ⟨#[]⟩] _ 80 rC5 Tryz.underlying80 rfl Tryz.sizeCd ?_; clear rC5)
    | (have _t := tb; refine wpList_store_row rfl 80 _ _ rfl (w.heap.size + 1) [.int .i64 a, .int .i64 (8), .int .i64 v.n, .string v.s, .int .i64 0, .string ⟨#[]⟩] _ rfl rfl 80 rB5 rfl Tryz.sizeCd (cd_one ⟨(a : Int), 8, v, vz⟩) ?_; intro w7 r7 k7; clear tb))
  refine bodyPost_ret (kresults_cell1 Tryz.results52 _ _ _ _ _ _ r7 Tryz.underlying80 rfl Tryz.sizeCd rfl) rfl ⟨rfl, E5.kpFresh k7 (by omega)⟩

set_option maxHeartbeats 800000 in
set_option maxRecDepth 100000 in
theorem cond_plain (xa xk xn xm : Int) (xs xt : ByteArray) (w : World) (a k : Nat) (H1 : Hid (∀ w, Calls Tryz.prog 26 #[.int .i64 xa, .int .i64 4] w fun e w' => e = .returned (.int .i64 a) ∧ w' = w)) (H2 : Hid (∀ w, Calls Tryz.prog 26 #[.int .i64 xk, .int .i64 9] w fun e w' => e = .returned (.int .i64 k) ∧ w' = w)) (ha : a < 4) (_hk : k < 9) (h8 : ¬ k = 8) (h7 : ¬ k = 7) (h6 : ¬ k = 6) :
    Calls Tryz.prog 52 #[.agg #[.int .i64 xa, .int .i64 xk, .int .i64 xn, .int .i64 xm, .string xs, .string xt]] w fun e w' => e = .returned (.agg (Cd.cells ⟨(a : Int), 1 + (k : Int), valOf a xn xs, vz⟩).toArray) ∧ Ext w w' := by
  have hv : ∀ w, Calls Tryz.prog 40 #[.int .i64 a, .int .i64 xn, .string xs] w fun e w' => e = .returned (.agg (valOf a xn xs).cells.toArray) ∧ Ext w w' := fun w => kvalue_any a xn xs w ha
  generalize valOf a xn xs = v at *
  have HV : Hid (∀ w, Calls Tryz.prog 40 #[.int .i64 a, .int .i64 xn, .string xs] w fun e w' => e = .returned (.agg v.cells.toArray) ∧ Ext w w') := hv
  clear hv
  go_enter Tryz.func52, Tryz.ntmps52
  go_wp2_with fail
  refine Calls.mono (H1.out _) ?_
  rintro e w1 ⟨rfl, rfl⟩
  go_wp2_with fail
  refine Calls.mono (H2.out _) ?_
  rintro e w2 ⟨rfl, rfl⟩
  go_wp2_with fail
  refine Calls.mono (HV.out _) ?_
  rintro e w4 ⟨rfl, hE4⟩
  have hEw : Ext w w4 := Ext.trans ((((Ext.refl w).alloc _).alloc _).alloc _) hE4
  have rB : Row w4 (w.heap.size + 1) 80 [.int .i64 0, .int .i64 0, .int .i64 0, .string ⟨#[]⟩, .int .i64 0, .string ⟨#[]⟩] := Row.ext (Row.ext (row_alloc _ _ _ _ _ (by simp) rfl) ((Ext.refl _).alloc _)) hE4
  have rC : Row w4 (w.heap.size + 1 + 1) 80 [.int .i64 a, .int .i64 (1 + (k : Int)), .int .i64 0, .string ⟨#[]⟩, .int .i64 0, .string ⟨#[]⟩] := Row.ext (row_alloc _ _ _ _ _ (by simp) rfl) hE4
  obtain ⟨w5, hw5⟩ : ∃ w5, w5 = w4.setCells (w.heap.size + 1 + 1) 2 v.cells := ⟨_, rfl⟩
  have rC5 : Row w5 (w.heap.size + 1 + 1) 80 [.int .i64 a, .int .i64 (1 + (k : Int)), .int .i64 v.n, .string v.s, .int .i64 0, .string ⟨#[]⟩] := by
    rw [hw5]; exact row_setCells v.cells 2 w4 _ rC (by show 2 + 2 ≤ 6; decide)
  have k5 : Kp (fun b => b = w.heap.size + 1 + 1) w4 w5 := by rw [hw5]; exact kp_setCells (M := fun b => b = w.heap.size + 1 + 1) rfl _ _ _ _ (Kp.refl _ _)
  have rB5 := k5.row rB (by omega)
  have E5 : Ext w w5 := hEw.kpFresh k5 (by omega)
  have q1 := rC5.at (j := 1) rfl
  have HW5 : Hid (w5 = w4.setCells (w.heap.size + 1 + 1) 2 v.cells) := hw5
  clear hw5 k5
  have ta : True := trivial
  have tb : True := trivial
  go_wp2_with (first
    | (have _t := ta; refine wpList_store_mid rfl 69 _ _ rfl (w.heap.size + 1 + 1) 2 v.cells.toArray rfl rfl (rC.mid 2 2 (by simp)) Tryz.sizeVl (all_oneCell_toArray (vl_one v)) ?_; rw [← HW5.out]; clear ta)
    | (refine wpList_load_row rfl 80 _ rfl (w.heap.size + 1 + 1) rfl [.int .i64 a, .int .i64 (1 + (k : Int)), .int .i64 v.n, .string v.s, .int .i64 0, .string ⟨#[]⟩] _ 80 rC5 Tryz.underlying80 rfl Tryz.sizeCd ?_; clear rC5)
    | (have _t := tb; refine wpList_store_row rfl 80 _ _ rfl (w.heap.size + 1) [.int .i64 a, .int .i64 (1 + (k : Int)), .int .i64 v.n, .string v.s, .int .i64 0, .string ⟨#[]⟩] _ rfl rfl 80 rB5 rfl Tryz.sizeCd (cd_one ⟨(a : Int), 1 + (k : Int), v, vz⟩) ?_; intro w7 r7 k7; clear tb))
  refine bodyPost_ret (kresults_cell1 Tryz.results52 _ _ _ _ _ _ r7 Tryz.underlying80 rfl Tryz.sizeCd rfl) rfl ⟨rfl, E5.kpFresh k7 (by omega)⟩

set_option maxHeartbeats 800000 in
set_option maxRecDepth 100000 in
theorem cond_between (xa xk xn xm : Int) (xs xt : ByteArray) (w : World) (a k : Nat) (H1 : Hid (∀ w, Calls Tryz.prog 26 #[.int .i64 xa, .int .i64 4] w fun e w' => e = .returned (.int .i64 a) ∧ w' = w)) (H2 : Hid (∀ w, Calls Tryz.prog 26 #[.int .i64 xk, .int .i64 9] w fun e w' => e = .returned (.int .i64 k) ∧ w' = w)) (ha : a < 4) (_hk : k < 9) (h6 : k = 6) :
    Calls Tryz.prog 52 #[.agg #[.int .i64 xa, .int .i64 xk, .int .i64 xn, .int .i64 xm, .string xs, .string xt]] w fun e w' => e = .returned (.agg (Cd.cells ⟨(a : Int), 7, valOf a xn xs, valOf a xm xt⟩).toArray) ∧ Ext w w' := by
  subst h6
  have hv : ∀ w, Calls Tryz.prog 40 #[.int .i64 a, .int .i64 xn, .string xs] w fun e w' => e = .returned (.agg (valOf a xn xs).cells.toArray) ∧ Ext w w' := fun w => kvalue_any a xn xs w ha
  generalize valOf a xn xs = v at *
  have HV : Hid (∀ w, Calls Tryz.prog 40 #[.int .i64 a, .int .i64 xn, .string xs] w fun e w' => e = .returned (.agg v.cells.toArray) ∧ Ext w w') := hv
  clear hv
  have hu : ∀ w, Calls Tryz.prog 40 #[.int .i64 a, .int .i64 xm, .string xt] w fun e w' => e = .returned (.agg (valOf a xm xt).cells.toArray) ∧ Ext w w' := fun w => kvalue_any a xm xt w ha
  generalize valOf a xm xt = u at *
  have HU : Hid (∀ w, Calls Tryz.prog 40 #[.int .i64 a, .int .i64 xm, .string xt] w fun e w' => e = .returned (.agg u.cells.toArray) ∧ Ext w w') := hu
  clear hu
  go_enter Tryz.func52, Tryz.ntmps52
  go_wp2_with fail
  refine Calls.mono (H1.out _) ?_
  rintro e w1 ⟨rfl, rfl⟩
  go_wp2_with fail
  refine Calls.mono (H2.out _) ?_
  rintro e w2 ⟨rfl, rfl⟩
  go_wp2_with fail
  refine Calls.mono (HV.out _) ?_
  rintro e w4 ⟨rfl, hE4⟩
  have hEw : Ext w w4 := Ext.trans ((((Ext.refl w).alloc _).alloc _).alloc _) hE4
  have rB : Row w4 (w.heap.size + 1) 80 [.int .i64 0, .int .i64 0, .int .i64 0, .string ⟨#[]⟩, .int .i64 0, .string ⟨#[]⟩] := Row.ext (Row.ext (row_alloc _ _ _ _ _ (by simp) rfl) ((Ext.refl _).alloc _)) hE4
  have rC : Row w4 (w.heap.size + 1 + 1) 80 [.int .i64 a, .int .i64 (7), .int .i64 0, .string ⟨#[]⟩, .int .i64 0, .string ⟨#[]⟩] := Row.ext (row_alloc _ _ _ _ _ (by simp) rfl) hE4
  obtain ⟨w5, hw5⟩ : ∃ w5, w5 = w4.setCells (w.heap.size + 1 + 1) 2 v.cells := ⟨_, rfl⟩
  have rC5 : Row w5 (w.heap.size + 1 + 1) 80 [.int .i64 a, .int .i64 (7), .int .i64 v.n, .string v.s, .int .i64 0, .string ⟨#[]⟩] := by
    rw [hw5]; exact row_setCells v.cells 2 w4 _ rC (by show 2 + 2 ≤ 6; decide)
  have k5 : Kp (fun b => b = w.heap.size + 1 + 1) w4 w5 := by rw [hw5]; exact kp_setCells (M := fun b => b = w.heap.size + 1 + 1) rfl _ _ _ _ (Kp.refl _ _)
  have rB5 := k5.row rB (by omega)
  have E5 : Ext w w5 := hEw.kpFresh k5 (by omega)
  have q1 := rC5.at (j := 1) rfl
  have HW5 : Hid (w5 = w4.setCells (w.heap.size + 1 + 1) 2 v.cells) := hw5
  have rA5 : Row w5 w.heap.size 136 [.int .i64 xa, .int .i64 xk, .int .i64 xn, .int .i64 xm, .string xs, .string xt] := k5.row (Row.ext (Row.ext (Row.ext (row_alloc _ _ _ _ _ rfl rfl) ((Ext.refl _).alloc _)) ((Ext.refl _).alloc _)) hE4) (by omega)
  have p3 := rA5.at (j := 3) rfl
  have p5 := rA5.at (j := 5) rfl
  clear hw5 k5 rA5
  have ta : True := trivial
  go_wp2_with (first
    | (have _t := ta; refine wpList_store_mid rfl 69 _ _ rfl (w.heap.size + 1 + 1) 2 v.cells.toArray rfl rfl (rC.mid 2 2 (by simp)) Tryz.sizeVl (all_oneCell_toArray (vl_one v)) ?_; rw [← HW5.out]; clear ta))
  refine Calls.mono (HU.out _) ?_
  rintro e w6 ⟨rfl, hE6⟩
  have rB6 := rB5.ext hE6
  have rC6 := rC5.ext hE6
  obtain ⟨w7, hw7⟩ : ∃ w7, w7 = w6.setCells (w.heap.size + 1 + 1) 4 u.cells := ⟨_, rfl⟩
  have rC7 : Row w7 (w.heap.size + 1 + 1) 80 [.int .i64 a, .int .i64 7, .int .i64 v.n, .string v.s, .int .i64 u.n, .string u.s] := by
    rw [hw7]; exact row_setCells u.cells 4 w6 _ rC6 (by show 4 + 2 ≤ 6; decide)
  have k7 : Kp (fun b => b = w.heap.size + 1 + 1) w6 w7 := by rw [hw7]; exact kp_setCells (M := fun b => b = w.heap.size + 1 + 1) rfl _ _ _ _ (Kp.refl _ _)
  have rB7 := k7.row rB6 (by omega)
  have E7 : Ext w w7 := (E5.trans hE6).kpFresh k7 (by omega)
  have HW7 : Hid (w7 = w6.setCells (w.heap.size + 1 + 1) 4 u.cells) := hw7
  clear hw7 k7 rC5 rB5 q1 p3 p5
  have ta : True := trivial
  have tb : True := trivial
  go_wp2_with (first
    | (have _t := ta; refine wpList_store_mid rfl 69 _ _ rfl (w.heap.size + 1 + 1) 4 u.cells.toArray rfl rfl (rC6.mid 4 2 (by simp)) Tryz.sizeVl (all_oneCell_toArray (vl_one u)) ?_; rw [← HW7.out]; clear ta)
    | (refine wpList_load_row rfl 80 _ rfl (w.heap.size + 1 + 1) rfl [.int .i64 a, .int .i64 7, .int .i64 v.n, .string v.s, .int .i64 u.n, .string u.s] _ 80 rC7 Tryz.underlying80 rfl Tryz.sizeCd ?_; clear rC7)
    | (have _t := tb; refine wpList_store_row rfl 80 _ _ rfl (w.heap.size + 1) [.int .i64 a, .int .i64 7, .int .i64 v.n, .string v.s, .int .i64 u.n, .string u.s] _ rfl rfl 80 rB7 rfl Tryz.sizeCd (cd_one ⟨(a : Int), 7, v, u⟩) ?_; intro w8 r8 k8; clear tb))
  refine bodyPost_ret (kresults_cell1 Tryz.results52 _ _ _ _ _ _ r8 Tryz.underlying80 rfl Tryz.sizeCd rfl) rfl ⟨rfl, E7.kpFresh k8 (by omega)⟩

theorem cond_any (x : Wt) (w : World) (hx : WtOK x) : Calls Tryz.prog 52 #[.agg x.cells.toArray] w fun e w' => e = .returned (.agg (condOf x).cells.toArray) ∧ Ext w w' := by
  have H1 : Hid (∀ w, Calls Tryz.prog 26 #[.int .i64 x.attr, .int .i64 4] w fun e w' => e = .returned (.int .i64 (pickI x.attr 4)) ∧ w' = w) := fun w => kpick_any x.attr 4 w hx.1.1 hx.1.2 (by decide) (by decide)
  have H2 : Hid (∀ w, Calls Tryz.prog 26 #[.int .i64 x.kind, .int .i64 9] w fun e w' => e = .returned (.int .i64 (pickI x.kind 9)) ∧ w' = w) := fun w => kpick_any x.kind 9 w hx.2.1 hx.2.2 (by decide) (by decide)
  have ha := pickI_lt x.attr 4 (by decide)
  have hk := pickI_lt x.kind 9 (by decide)
  unfold condOf kindOf
  generalize pickI x.attr 4 = a at *
  generalize pickI x.kind 9 = k at *
  obtain ⟨xa, xk, xn, xm, xs, xt⟩ := x
  by_cases h8 : k = 8
  · subst h8
    exact cond_has xa xk xn xm xs xt w a 8 H1 H2 ha hk rfl
  by_cases h6 : k = 6
  · subst h6
    exact cond_between xa xk xn xm xs xt w a 6 H1 H2 ha hk rfl
  by_cases h7 : k = 7
  · subst h7
    by_cases hp : a % 2 = 0
    · have := cond_even xa xk xn xm xs xt w a 7 H1 H2 ha hk rfl (by omega)
      simp only [hp, and_self, if_true]
      exact this
    · have := cond_odd xa xk xn xm xs xt w a 7 H1 H2 ha hk rfl (by omega)
      simp only [hp, and_false, if_false]
      exact this
  · have h7' : ¬ (1 + k = 8 ∧ a % 2 = 0) := by omega
    have h9 : ¬ 1 + k = 9 := by omega
    have h77 : ¬ 1 + k = 7 := by omega
    have := cond_plain xa xk xn xm xs xt w a k H1 H2 ha hk h8 h7 h6
    simp only [if_neg h7', if_neg h9, if_neg h77]
    have ec : ((1 + k : Nat) : Int) = 1 + (k : Int) := by omega
    rw [ec]
    exact this
end Go.Proofs.YtpbblaeamddbgaaGreat
namespace Go.Proofs.YtpbblaeamddbgaaGreat
open Go.RowKit

/-- Raw conditions that came in. -/
def Wxs (w : World) (ao : Option Addr) (l : List Wt) : Prop := 0 < l.length → ∃ b o, ao = some ⟨b, o, none⟩ ∧ ∀ j (hj : j < l.length), w.rangeAt b (o + j * 6) l[j].cells
theorem Wxs.ext {w w' : World} {ao : Option Addr} {l : List Wt} (h : Wxs w ao l) (hE : Ext w w') : Wxs w' ao l := fun hp => by
  obtain ⟨b, o, h1, h2⟩ := h hp
  exact ⟨b, o, h1, fun j hj => range_ext' (h2 j hj) hE⟩
def filterOf (l : List Wt) : List Cd := (l.take 8).map condOf
theorem filter_len (l : List Wt) : (filterOf l).length ≤ 8 := by simp [filterOf]; omega
theorem ksix_new (w : World) (T : TypeId) (c : Cd) : ∀ j u, c.cells[j]? = some u → (w.alloc (.cells #[.int .i64 c.attr, .int .i64 c.kind, .int .i64 c.a.n, .string c.a.s, .int .i64 c.b.n, .string c.b.s] T)).cell? ((⟨w.heap.size, 0, none⟩ : Addr).add j) = some u := by
  intro j u hj
  rw [add_lt]
  exact (show Row (w.alloc (.cells #[.int .i64 c.attr, .int .i64 c.kind, .int .i64 c.a.n, .string c.a.s, .int .i64 c.b.n, .string c.b.s] T)) w.heap.size T c.cells from row_alloc _ _ _ _ _ rfl rfl).at hj
theorem Tryz.sizeWt : (Tryz.prog.info? 136).map (·.size) = some 6 := by kernel_rfl

set_option maxHeartbeats 800000 in
set_option maxRecDepth 100000 in
theorem filter_any (ao : Option Addr) (cap : Nat) (l : List Wt) (w : World) (_hl : l.length ≤ 140737488355328) (hs : Wxs w ao l) (hx : ∀ x ∈ l, WtOK x) :
    Calls Tryz.prog 25 #[.slice ao l.length cap] w fun e w' => ∃ ro rcap, e = .returned (.slice ro (filterOf l).length rcap) ∧ OSl w' 80 6 ro (filterOf l).length rcap ((filterOf l).flatMap Cd.cells) ∧ (∀ g, blkOf ro = some g → w.heap.size ≤ g) ∧ Ext w w' := by
  have HS : Hid (Wxs w ao l) := hs
  have HX : Hid (∀ x ∈ l, WtOK x) := hx
  clear hs hx
  go_enter Tryz.func25, Tryz.ntmps25
  go_wp2
  go_loopw [3, 4] (fun v i wr => ∃ (ro : Option Addr) (rcap : Nat) (k : Nat), k ≤ l.length ∧ k ≤ 8 ∧ i = .int .i64 k ∧ v = .slice ro k rcap ∧ OSl wr 80 6 ro k rcap (((l.take k).map condOf).flatMap Cd.cells) ∧ (∀ g, blkOf ro = some g → w.heap.size ≤ g) ∧ Ext w wr) (fun _ i _ => l.length - (intOf i).toNat)
  case atStart => exact ⟨none, 0, 0, Nat.zero_le _, Nat.zero_le _, rfl, rfl, OSl.nil _ _ _, (fun g hg => by cases hg), Ext.refl _⟩
  case round =>
    obtain ⟨ro, rcap, k, hk, hk8, rfl, rfl, hown, hnew, hEr⟩ := hrel
    have HN : Hid (∀ g, blkOf ro = some g → w.heap.size ≤ g) := hnew
    clear hnew
    by_cases hlt : k < l.length
    · by_cases h8 : k < 8
      · obtain ⟨b, o, rfl, hr0⟩ := HS.out (by omega)
        have hr := range_ext' (hr0 k hlt) hEr
        have HT : Hid (((l.take (k + 1)).map condOf).flatMap Cd.cells = ((l.take k).map condOf).flatMap Cd.cells ++ (condOf l[k]).cells) := by
          show _ = _
          rw [List.take_succ_eq_append_getElem hlt, List.map_append, List.flatMap_append, List.map_singleton, List.flatMap_singleton]
        have HC : Hid (∀ w, Calls Tryz.prog 52 #[.agg l[k].cells.toArray] w fun e w' => e = .returned (.agg #[.int .i64 (condOf l[k]).attr, .int .i64 (condOf l[k]).kind, .int .i64 (condOf l[k]).a.n, .string (condOf l[k]).a.s, .int .i64 (condOf l[k]).b.n, .string (condOf l[k]).b.s]) ∧ Ext w w') := fun w => cond_any l[k] w (HX.out _ (List.getElem_mem hlt))
        generalize condOf l[k] = c at *
        generalize l[k] = x at *
        generalize ((l.take k).map condOf).flatMap Cd.cells = ys at *
        clear hr0
        go_wp2_with (first
          | (refine wpList_load_mid rfl 136 _ rfl b (o + k * 6) rfl x.cells _ hr Tryz.underlying136 rfl Tryz.sizeWt ?_; clear hr))
        refine Calls.mono (HC.out wr) ?_
        rintro e w2 ⟨rfl, hE2⟩
        have hown2 := hown.ext hE2
        have hEr2 := hEr.trans hE2
        clear hown HC
        go_wp2_with (at_builtin; go_must (refine wpList_app rfl (.tmp 15) (.tmp 21) 26 rfl 80 (.agg #[.int .i64 0, .int .i64 0, .int .i64 0, .string ⟨#[]⟩, .int .i64 0, .string ⟨#[]⟩]) 6 64 Tryz.underlying26 Tryz.infoCd rfl (by decide) ro k rcap _ rfl (OSl.ext hown2 ((Ext.refl _).alloc _)) (some ⟨w2.heap.size, 0, none⟩) 1 1 c.cells rfl (by intro h; cases h) rfl (fun _ => ⟨_, rfl, ksix_new _ _ _⟩) (cd_one c) (by unfold maxLen; omega) (by omega) ?_; intro ro3 rcap3 w3 hown3 hk3 hat3))
        go_roundw
        case rel =>
          refine ⟨ro3, rcap3, k + 1, by omega, by omega, by go_num, rfl, ?_, fresh2 ((hEr2.alloc _).le) HN.out hat3, (hEr2.alloc _).kpNew hk3 HN.out⟩
          rw [HT.out]
          exact hown3
        case measure => simp [intOf]; omega
      · have hk8' : k = 8 := by omega
        subst hk8'
        have el : (filterOf l).length = 8 := by simp [filterOf]; omega
        have HF : Hid (OSl wr 80 6 ro (filterOf l).length rcap ((filterOf l).flatMap Cd.cells)) := by rw [el]; exact hown
        have HL : Hid ((filterOf l).length = 8) := el
        clear hown el
        go_wp2
        go_ret
        exact ⟨ro, rcap, by rw [HL.out]; rfl, HF.out, HN.out, hEr⟩
    · have hkl : k = l.length := by omega
      subst hkl
      have el : (filterOf l).length = l.length := by simp [filterOf]; omega
      have HF : Hid (OSl wr 80 6 ro (filterOf l).length rcap ((filterOf l).flatMap Cd.cells)) := by
        have e2 : filterOf l = (l.take l.length).map condOf := by
          unfold filterOf; rw [List.take_of_length_le (by omega), List.take_of_length_le (Nat.le_refl _)]
        rw [el]
        show OSl _ _ _ _ _ _ _
        rw [e2]; exact hown
      have HL : Hid ((filterOf l).length = l.length) := el
      clear hown el
      go_wp2
      go_ret
      exact ⟨ro, rcap, by rw [HL.out]; rfl, HF.out, HN.out, hEr⟩
end Go.Proofs.YtpbblaeamddbgaaGreat
namespace Go.Proofs.YtpbblaeamddbgaaGreat
open Go.RowKit

/-- An event, by raw numbers: which attributes are there, and their values. -/
structure Hv where
  th : Nat → Bool
  n : Nat → Int
  s : Nat → ByteArray
def Hv.cells (h : Hv) : List Value := [.bool (h.th 0), .bool (h.th 1), .bool (h.th 2), .bool (h.th 3), .int .i64 (h.n 0), .int .i64 (h.n 1), .int .i64 (h.n 2), .int .i64 (h.n 3), .string (h.s 0), .string (h.s 1), .string (h.s 2), .string (h.s 3)]
def fieldOf (h : Hv) (a : Nat) : Fd := ⟨a, valOf a (h.n a) (h.s a)⟩
def eventUp (h : Hv) (k : Nat) : List Fd := ((List.range k).filter h.th).map (fieldOf h)
def eventOf (h : Hv) : List Fd := eventUp h 4
theorem up_succ (h : Hv) (k : Nat) : eventUp h (k + 1) = if h.th k then eventUp h k ++ [fieldOf h k] else eventUp h k := by
  unfold eventUp
  rw [List.range_succ, List.filter_append, List.map_append]
  cases hb : h.th k <;> simp [hb]
theorem up_len (h : Hv) (k : Nat) : (eventUp h k).length ≤ k := by
  unfold eventUp
  rw [List.length_map]
  exact Nat.le_trans (List.length_filter_le _ _) (by simp)
theorem hv_at (h : Hv) (k : Nat) (hk : k < 4) : h.cells[k]? = some (.bool (h.th k)) ∧ h.cells[4 + k]? = some (.int .i64 (h.n k)) ∧ h.cells[8 + k]? = some (.string (h.s k)) := by
  rcases (show k = 0 ∨ k = 1 ∨ k = 2 ∨ k = 3 by omega) with rfl | rfl | rfl | rfl <;> exact ⟨rfl, rfl, rfl⟩
theorem fd_new (w : World) (T : TypeId) (f : Fd) : ∀ j u, f.cells[j]? = some u → (w.alloc (.cells #[.int .i64 f.attr, .int .i64 f.v.n, .string f.v.s] T)).cell? ((⟨w.heap.size, 0, none⟩ : Addr).add j) = some u := by
  intro j u hj
  rw [add_lt]
  exact (show Row (w.alloc (.cells #[.int .i64 f.attr, .int .i64 f.v.n, .string f.v.s] T)) w.heap.size T f.cells from row_alloc _ _ _ _ _ rfl rfl).at hj
theorem fd_one (f : Fd) : ∀ v ∈ f.cells, v.oneCell' = true := by
  intro v hv
  simp only [Fd.cells, List.mem_cons, List.not_mem_nil, or_false] at hv
  rcases hv with rfl | rfl | rfl <;> rfl

set_option maxHeartbeats 1600000 in
set_option maxRecDepth 100000 in
theorem event_any (h : Hv) (w : World) :
    Calls Tryz.prog 15 #[.agg #[.bool (h.th 0), .bool (h.th 1), .bool (h.th 2), .bool (h.th 3), .int .i64 (h.n 0), .int .i64 (h.n 1), .int .i64 (h.n 2), .int .i64 (h.n 3), .string (h.s 0), .string (h.s 1), .string (h.s 2), .string (h.s 3)]] w fun e w' => ∃ ro rcap, e = .returned (.slice ro (eventOf h).length rcap) ∧ OSl w' 71 3 ro (eventOf h).length rcap ((eventOf h).flatMap Fd.cells) ∧ (∀ g, blkOf ro = some g → w.heap.size ≤ g) ∧ Ext w w' := by
  obtain ⟨w0, hw0⟩ : ∃ w0 : World, w0 = w.alloc (.cells #[.bool (h.th 0), .bool (h.th 1), .bool (h.th 2), .bool (h.th 3), .int .i64 (h.n 0), .int .i64 (h.n 1), .int .i64 (h.n 2), .int .i64 (h.n 3), .string (h.s 0), .string (h.s 1), .string (h.s 2), .string (h.s 3)] 42) := ⟨_, rfl⟩
  have hE0 : Ext w w0 := by rw [hw0]; exact (Ext.refl w).alloc _
  have HR : Hid (Row w0 w.heap.size 42 h.cells) := by
    show Row _ _ _ _
    rw [hw0]; exact row_alloc _ _ _ _ _ rfl rfl
  have hz0 : w0.heap.size = w.heap.size + 1 := by rw [hw0]; simp
  have HW0 : Hid (w0 = w.alloc (.cells #[.bool (h.th 0), .bool (h.th 1), .bool (h.th 2), .bool (h.th 3), .int .i64 (h.n 0), .int .i64 (h.n 1), .int .i64 (h.n 2), .int .i64 (h.n 3), .string (h.s 0), .string (h.s 1), .string (h.s 2), .string (h.s 3)] 42)) := hw0
  clear hw0
  go_enter Tryz.func15, Tryz.ntmps15
  go_wp2
  go_loopw [3, 4] (fun v i wr => ∃ (ro : Option Addr) (rcap : Nat) (k : Nat), k ≤ 4 ∧ i = .int .i64 k ∧ v = .slice ro (eventUp h k).length rcap ∧ OSl wr 71 3 ro (eventUp h k).length rcap ((eventUp h k).flatMap Fd.cells) ∧ (∀ g, blkOf ro = some g → w0.heap.size ≤ g) ∧ Ext w0 wr) (fun _ i _ => 4 - (intOf i).toNat)
  case atStart => exact ⟨none, 0, 0, Nat.zero_le _, rfl, rfl, OSl.nil _ _ _, (fun g hg => by cases hg), by rw [HW0.out]; exact Ext.refl _⟩
  case round =>
    obtain ⟨ro, rcap, k, hk, rfl, rfl, hown, hnew, hEr⟩ := hrel
    have HN : Hid (∀ g, blkOf ro = some g → w0.heap.size ≤ g) := hnew
    have hbox : ∀ g, blkOf ro = some g → ¬ w.heap.size = g := fun g hg e => by have := hnew g hg; omega
    have hul := up_len h k
    clear hnew
    by_cases hlt : k < 4
    · have hR := HR.out.ext hEr
      have c0 := hR.at (hv_at h k hlt).1
      have c4 := hR.at (hv_at h k hlt).2.1
      have c8 := hR.at (hv_at h k hlt).2.2
      have HU : Hid _ := up_succ h k
      have HF : Hid (fieldOf h k = ⟨k, valOf k (h.n k) (h.s k)⟩) := rfl
      have i1 : (0 : Int) ≤ (k : Int) := by omega
      have i2 : (k : Int) < 4 := by omega
      cases hth : h.th k with
      | false =>
        have HU2 : Hid (eventUp h (k + 1) = eventUp h k) := by show _ = _; rw [HU.out, hth]; rfl
        rw [hth] at c0
        generalize eventUp h k = eu at *
        clear HU hth
        go_wp2
        go_roundw
        case rel => exact ⟨ro, rcap, k + 1, by omega, by go_num, by rw [HU2.out], by rw [HU2.out]; exact hown, HN.out, hEr⟩
        case measure => simp [intOf]; omega
      | true =>
        have HU2 : Hid (eventUp h (k + 1) = eventUp h k ++ [fieldOf h k]) := by show _ = _; rw [HU.out, hth]; rfl
        have HV : Hid (∀ w, Calls Tryz.prog 40 #[.int .i64 k, .int .i64 (h.n k), .string (h.s k)] w fun e w' => e = .returned (.agg #[.int .i64 (fieldOf h k).v.n, .string (fieldOf h k).v.s]) ∧ Ext w w') := fun w => kvalue_any k (h.n k) (h.s k) w hlt
        have HA : Hid ((fieldOf h k).attr = (k : Int)) := rfl
        rw [hth] at c0
        generalize eventUp h k = eu at *
        generalize fieldOf h k = f at *
        generalize h.n k = hn at *
        generalize h.s k = hs at *
        clear HU hth HF
        go_wp2_with fail
        have hownd : OSl wr.drew 71 3 ro eu.length rcap (eu.flatMap Fd.cells) := hown.ext (Ext.refl _).drew
        have hb1 : eu.length + 1 ≤ maxLen := by unfold maxLen; omega
        have hb2 : (eu.length + 1) * 32 ≤ 140737488355328 := by omega
        have HB1 : Hid (eu.length + 1 ≤ maxLen) := hb1
        have HB2 : Hid ((eu.length + 1) * 32 ≤ 140737488355328) := hb2
        clear hb1 hb2
        go_region_held3 (fun w' => w'.cell? ⟨w.heap.size, 4 + k, none⟩ = some (.int .i64 hn) ∧ w'.cell? ⟨w.heap.size, 8 + k, none⟩ = some (.string hs))
          (first | go_keep | exact ⟨d4, d8⟩ | exact ⟨hk3.cell (((Ext.refl w2).alloc _).cell d4) (fun e => hbox _ e rfl), hk3.cell (((Ext.refl w2).alloc _).cell d8) (fun e => hbox _ e rfl)⟩)
          (first
            | (go_at_call 40; refine Calls.mono (HV.out _) ?_; rintro e w2 ⟨rfl, hE2⟩; have d4 : w2.cell? ⟨w.heap.size, 4 + k, none⟩ = some (.int .i64 hn) := hE2.cell (by exact c4); have d8 : w2.cell? ⟨w.heap.size, 8 + k, none⟩ = some (.string hs) := hE2.cell (by exact c8); have n4 := World.new_ne w2 _ d4)
            | (refine step_app (by rfl) _ _ 27 (by rfl) 71 (.agg #[.int .i64 0, .int .i64 0, .string ⟨#[]⟩]) 3 32 Tryz.underlying27 Tryz.infoFd rfl (by decide) ro eu.length rcap _ (by rfl) (OSl.ext (OSl.ext hownd hE2) ((Ext.refl _).alloc _)) ⟨w2.heap.size, 0, none⟩ 1 1 (Fd.cells ⟨k, f.v⟩) (by rfl) rfl (fd_new w2 71 ⟨k, f.v⟩) (fd_one _) (by decide) HB1.out HB2.out ?_; intro ro3 rcap3 w3 hown3 hk3 hat3))
        have hErr : Ext w0 (w2.alloc (.cells #[.int .i64 k, .int .i64 f.v.n, .string f.v.s] 71)) := ((hEr.drew).trans hE2).alloc _
        go_wp2
        go_roundw
        case rel =>
          have ef : f = ⟨k, f.v⟩ := by
            have := HA.out
            cases f; simp at this; subst this; rfl
          refine ⟨ro3, rcap3, k + 1, by omega, by go_num, by rw [HU2.out]; simp, ?_, fresh2 hErr.le HN.out hat3, hErr.kpNew hk3 HN.out⟩
          rw [HU2.out, ef]
          simpa using hown3
        case measure => simp [intOf]; omega
    · have hk4 : k = 4 := by omega
      subst hk4
      have HF : Hid (OSl wr 71 3 ro (eventOf h).length rcap ((eventOf h).flatMap Fd.cells)) := hown
      have HL : Hid ((eventUp h 4).length = (eventOf h).length) := rfl
      clear hown
      generalize (eventUp h 4).length = n at *
      go_wp2
      go_ret
      exact ⟨ro, rcap, by rw [← HL.out]; rfl, HF.out, fun g hg => by have := HN.out g hg; omega, hE0.trans hEr⟩
end Go.Proofs.YtpbblaeamddbgaaGreat
namespace Go.Proofs.YtpbblaeamddbgaaGreat
open Go.RowKit

set_option maxHeartbeats 400000 in
theorem ksame_any (ao bo : Option Addr) (ca cb : Nat) (xs ys : List Int) (w : World) (_hl : xs.length ≤ 9223372036854775807) (_hm : ys.length ≤ 9223372036854775807) (hs : Ixs w ao xs) (ht : Ixs w bo ys) :
    Calls Tryz.prog 19 #[.slice ao xs.length ca, .slice bo ys.length cb] w fun e w' => e = .returned (.bool (eqB xs ys)) ∧ Ext w w' := by
  by_cases hlen : xs.length = ys.length
  · have HL : Hid (xs.length = ys.length) := hlen
    have hneq : ((xs.length : Int) != (ys.length : Int)) = false := by simp [hlen]
    have hle : xs.length ≤ ys.length := by omega
    have hge : ys.length ≤ xs.length := by omega
    clear hlen
    go_enter Tryz.func19, Tryz.ntmps19
    go_wp2
    go_loopw [5] (fun i wr => ∃ k : Nat, k ≤ xs.length ∧ i = .int .i64 k ∧ xs.take k = ys.take k ∧ Ext w wr) (fun i _ => xs.length - (intOf i).toNat)
    case atStart => exact ⟨0, Nat.zero_le _, rfl, by simp, Ext.refl _⟩
    case round =>
      obtain ⟨k, hk, rfl, hall, hE⟩ := hrel
      have HA : Hid (xs.take k = ys.take k) := hall
      clear hall
      by_cases hlt : k < xs.length
      · obtain ⟨b, o, rfl, hI⟩ := hs (by omega)
        obtain ⟨b', o', rfl, hJ⟩ := ht (by omega)
        have hc := hE.cell (hI k hlt)
        have hd := hE.cell (hJ k (by omega))
        clear hs hI ht hJ
        generalize hx : xs.getD k 0 = x at hc
        generalize hy : ys.getD k 0 = y at hd
        have HX : Hid (xs.getD k 0 = x) := hx
        have HY : Hid (ys.getD k 0 = y) := hy
        clear hx hy
        by_cases hxy : x = y
        · subst hxy
          go_wp2
          go_quiet (fail)
          go_wp2
          go_roundw
          case rel => exact ⟨k + 1, by omega, by go_num, take_succ_eq 0 hlt (by omega) HA.out (HX.out.trans HY.out.symm), hE.trans (drewN_ext _ _)⟩
          case measure => simp [intOf]; omega
        · have hne : (x != y) = true := by simpa using hxy
          go_wp2
          go_quiet (fail)
          go_wp2
          go_ret
          exact ⟨ret_bool (ne_of_getD (by rw [HX.out, HY.out]; exact hxy)).symm, hE.trans (drewN_ext _ _)⟩
      · clear hs ht
        go_wp2
        go_ret
        exact ⟨ret_bool (eq_of_take HL.out (by omega) HA.out).symm, hE⟩
  · have hneq : ((xs.length : Int) != (ys.length : Int)) = true := by simp; omega
    have hf : Hid (false = eqB xs ys) := by
      show false = eqB xs ys
      symm; simp only [eqB, decide_eq_false_iff_not]; rintro rfl; exact hlen rfl
    clear hs ht
    go_enter Tryz.func19, Tryz.ntmps19
    go_wp2
    go_ret
    exact ⟨ret_bool hf.out, Ext.refl _⟩


theorem kschema_any (w : World) : Calls Tryz.prog 21 #[] w fun e w' => e = .returned (.slice (some ⟨w.heap.size, 0, none⟩) 4 4) ∧ Ixs w' (some ⟨w.heap.size, 0, none⟩) [1, 2, 1, 2] ∧ Ext w w' := by
  go_enter Tryz.func21, Tryz.ntmps21
  go_wp2
  go_ret
  refine ⟨rfl, fun _ => ⟨w.heap.size, 0, rfl, fun j hj => ?_⟩, (Ext.refl w).alloc _⟩
  have hr : Row (w.alloc (.cells #[.int .i64 1, .int .i64 2, .int .i64 1, .int .i64 2] 3)) w.heap.size 3 [.int .i64 1, .int .i64 2, .int .i64 1, .int .i64 2] := row_alloc _ _ _ _ _ rfl rfl
  rcases (show j = 0 ∨ j = 1 ∨ j = 2 ∨ j = 3 by simp at hj; omega) with rfl | rfl | rfl | rfl
  · exact hr.at (j := 0) rfl
  · exact hr.at (j := 1) rfl
  · exact hr.at (j := 2) rfl
  · exact hr.at (j := 3) rfl

/-- An order of the four attributes. -/
def Ord4 (xs : List Int) : Prop := xs.length = 4 ∧ ∀ k : Nat, k < 4 → (k : Int) ∈ xs
theorem ord_swap {xs : List Int} (h : Ord4 xs) (a b : Nat) (ha : a < 4) (hb : b < 4) : Ord4 ((xs.set a (xs.getD b 0)).set b (xs.getD a 0)) := by
  obtain ⟨hl, hm⟩ := h
  refine ⟨by simp [hl], fun k hk => ?_⟩
  obtain ⟨i, hi, he⟩ := List.mem_iff_getElem.1 (hm k hk)
  rw [List.mem_iff_getElem]
  by_cases h1 : i = b
  · subst h1
    by_cases h2 : i = a
    · subst h2
      exact ⟨i, by simpa using hi, by simp [List.getD, hi, he]⟩
    · refine ⟨a, by simp; omega, ?_⟩
      rw [List.getElem_set, if_neg h2, List.getElem_set, if_pos rfl]
      simp [List.getD, hi, he]
  · by_cases h2 : i = a
    · subst h2
      refine ⟨b, by simp; omega, ?_⟩
      rw [List.getElem_set, if_pos rfl]
      simp [List.getD, hi, he]
    · refine ⟨i, by simpa using hi, ?_⟩
      rw [List.getElem_set, if_neg (fun e => h1 e.symm), List.getElem_set, if_neg (fun e => h2 e.symm)]
      exact he

theorem tdiv4 (z : Int) (h1 : -9223372036854775808 ≤ z) (h2 : z ≤ 9223372036854775807) : -9223372036854775808 ≤ z.tdiv 4 ∧ z.tdiv 4 ≤ 9223372036854775807 := by
  rcases Int.le_total 0 z with h | h
  · rw [Int.tdiv_eq_ediv_of_nonneg h]; omega
  · have e : z.tdiv 4 = -((-z).tdiv 4) := by rw [Int.neg_tdiv]; omega
    rw [e, Int.tdiv_eq_ediv_of_nonneg (by omega)]; omega

set_option maxHeartbeats 800000 in
set_option maxRecDepth 100000 in
theorem korder_any (ao : Option Addr) (cap : Nat) (zs : List Int) (w : World) (_hl : zs.length * 8 ≤ 140737488351232) (hs : Ixs w ao zs) (hz : ∀ j, -9223372036854775808 ≤ zs.getD j 0 ∧ zs.getD j 0 ≤ 9223372036854775807) :
    Calls Tryz.prog 23 #[.slice ao zs.length cap] w fun e w' => ∃ xs, e = .returned (.slice (some ⟨w.heap.size, 0, none⟩) 4 4) ∧ Row w' w.heap.size 3 (xs.map (Value.int .i64)) ∧ Ord4 xs ∧ Ext w w' := by
  have HS : Hid (Ixs w ao zs) := hs
  have HZ : Hid (∀ j, -9223372036854775808 ≤ zs.getD j 0 ∧ zs.getD j 0 ≤ 9223372036854775807) := hz
  clear hs hz
  go_enter Tryz.func23, Tryz.ntmps23
  go_wp2
  go_loopw [4] (fun i wr => ∃ k : Nat, k ≤ zs.length ∧ i = .int .i64 k ∧ Ext w wr ∧ ∃ xs, Row wr w.heap.size 3 (xs.map (Value.int .i64)) ∧ Ord4 xs) (fun i _ => zs.length - (intOf i).toNat)
  case atStart => exact ⟨0, Nat.zero_le _, rfl, (Ext.refl w).alloc _, [0, 1, 2, 3], row_alloc _ _ _ _ _ rfl rfl, rfl, fun k hk => by
    rcases (show k = 0 ∨ k = 1 ∨ k = 2 ∨ k = 3 by omega) with rfl | rfl | rfl | rfl <;> simp⟩
  case round =>
    obtain ⟨k, hk, rfl, hE, xs, hR, hO⟩ := hrel
    have HO : Hid (Ord4 xs) := hO
    have hl4 : xs.length = 4 := hO.1
    clear hO
    by_cases hlt : k < zs.length
    · obtain ⟨b, o, rfl, hI⟩ := HS.out (by omega)
      have hc := hE.cell (hI k hlt)
      obtain ⟨z1, z2⟩ := HZ.out k
      clear hI
      generalize zs.getD k 0 = z at *
      obtain ⟨hq1, hq2⟩ := tdiv4 z z1 z2
      have H1 : Hid (∀ w, Calls Tryz.prog 26 #[.int .i64 z, .int .i64 4] w fun e w' => e = .returned (.int .i64 (pickI z 4)) ∧ w' = w) := fun w => kpick_any z 4 w z1 z2 (by decide) (by decide)
      have H2 : Hid (∀ w, Calls Tryz.prog 26 #[.int .i64 (z.tdiv 4), .int .i64 4] w fun e w' => e = .returned (.int .i64 (pickI (z.tdiv 4) 4)) ∧ w' = w) := fun w => kpick_any (z.tdiv 4) 4 w hq1 hq2 (by decide) (by decide)
      have hp := pickI_lt z 4 (by decide)
      have hq := pickI_lt (z.tdiv 4) 4 (by decide)
      generalize pickI z 4 = p at *
      generalize pickI (z.tdiv 4) 4 = q at *
      go_wp2_with fail
      refine Calls.mono (H1.out _) ?_
      rintro e w1 ⟨rfl, rfl⟩
      go_wp2_with fail
      refine Calls.mono (H2.out _) ?_
      rintro e w2 ⟨rfl, rfl⟩
      have gp : (xs.map (Value.int .i64))[p]? = some (.int .i64 (xs.getD p 0)) := by simp [List.getD, show p < xs.length by omega]
      have gq : (xs.map (Value.int .i64))[q]? = some (.int .i64 (xs.getD q 0)) := by simp [List.getD, show q < xs.length by omega]
      have cp := hR.at gp
      have cq := hR.at gq
      have fz := hR.frozen
      have hR1 := hR.set p (.int .i64 (xs.getD q 0))
      obtain ⟨vq, cq2⟩ : ∃ v, (w2.setCell ⟨w.heap.size, p, none⟩ (.int .i64 (xs.getD q 0))).cell? ⟨w.heap.size, q, none⟩ = some v := ⟨_, hR1.cell (j := q) (by simp; omega)⟩
      have HR2 : Hid (Row ((w2.setCell ⟨w.heap.size, p, none⟩ (.int .i64 (xs.getD q 0))).setCell ⟨w.heap.size, q, none⟩ (.int .i64 (xs.getD p 0))) w.heap.size 3 (((xs.set p (xs.getD q 0)).set q (xs.getD p 0)).map (Value.int .i64))) := by
        show Row _ _ _ _
        rw [List.map_set, List.map_set]
        exact hR1.set q _
      have HO2 : Hid _ := ord_swap HO.out p q hp hq
      have hEE : Ext w ((w2.setCell ⟨w.heap.size, p, none⟩ (.int .i64 (xs.getD q 0))).setCell ⟨w.heap.size, q, none⟩ (.int .i64 (xs.getD p 0))) := (hE.setCell (Nat.le_refl _) _).setCell (Nat.le_refl _) _
      have ip1 : (0 : Int) ≤ (p : Int) := by omega
      have ip2 : (p : Int) < 4 := by omega
      have iq1 : (0 : Int) ≤ (q : Int) := by omega
      have iq2 : (q : Int) < 4 := by omega
      clear gp gq hR1 HO
      generalize ((xs.set p (xs.getD q 0)).set q (xs.getD p 0)) = ys at *
      generalize xs.getD p 0 = xp at *
      generalize xs.getD q 0 = xq at *
      go_wp2
      go_roundw
      case rel => exact ⟨k + 1, by omega, by go_num, hEE, ys, HR2.out, HO2.out⟩
      case measure => simp [intOf]; omega
    · clear HS HZ
      go_wp2
      go_ret
      exact ⟨xs, rfl, hR, HO.out, hE⟩
end Go.Proofs.YtpbblaeamddbgaaGreat
namespace Go.Proofs.YtpbblaeamddbgaaGreat
open Go.RowKit

/-- An engine of a statement. -/
structure KE where
  eb : Nat
  sch : List Int
  flt : List (Int × List Cd)
  n : Int
/-- Engines side by side; whose each block is: i + 1: engine i's; 0: nobody's. -/
structure KS (E : World → Nat → (Nat → Prop) → List Int → List (Int × List Cd) → Int → Prop) (w0 w : World) (own : Nat → Nat) (es : List KE) : Prop where
  eng : ∀ i (hi : i < es.length), E w es[i].eb (fun b => own b = i + 1) es[i].sch es[i].flt es[i].n ∧ Good es[i].sch es[i].flt
  old : ∀ b, b < w0.heap.size → own b = 0
  fresh : ∀ b, w.heap.size ≤ b → own b = 0
  ext : Ext w0 w
  top : ∀ b, own b ≤ es.length
section
variable {E : World → Nat → (Nat → Prop) → List Int → List (Int × List Cd) → Int → Prop}
theorem KS.start (w : World) : KS E w w (fun _ => 0) [] := ⟨fun i hi => absurd hi (by simp), fun _ _ => rfl, fun _ _ => rfl, Ext.refl _, fun _ => Nat.zero_le _⟩
theorem KS.ahead (C : EngC E) {w0 w w1 : World} {own : Nat → Nat} {es : List KE} (S : KS E w0 w own es) (hE : Ext w w1) : KS E w0 w1 own es :=
  ⟨fun i hi => ⟨C.kp (S.eng i hi).1 (hE.kp (fun _ => False)) (fun _ _ h => h), (S.eng i hi).2⟩, S.old, fun b hb => S.fresh b (Nat.le_trans hE.le hb), S.ext.trans hE, S.top⟩
theorem KS.lt {w0 w : World} {own : Nat → Nat} {es : List KE} (S : KS E w0 w own es) {b : Nat} (hb : 0 < own b) : b < w.heap.size := by
  rcases Nat.lt_or_ge b w.heap.size with h | h
  · exact h
  · have := S.fresh b h; omega
/-- What a call on engine i leaves. -/
def KPost (E : World → Nat → (Nat → Prop) → List Int → List (Int × List Cd) → Int → Prop) (w0 w w' : World) (own : Nat → Nat) (es : List KE) (i : Nat) (x : KE) (R : Nat → Prop) : Prop :=
  ∃ own', KS E w0 w' own' (es.set i x) ∧ Kp (fun b => own b = i + 1) w w' ∧ (∀ b, b < w.heap.size → own' b = own b) ∧ ∀ b, R b → own' b = 0
theorem KS.turn (C : EngC E) {w0 w w' : World} {own : Nat → Nat} {es : List KE} (S : KS E w0 w own es) {i : Nat} (hi : i < es.length) {F' : Nat → Prop} {x : KE} (hx : E w' x.eb F' x.sch x.flt x.n) (hG : Good x.sch x.flt) (hK : Kp (fun b => own b = i + 1) w w') (hF : ∀ b, F' b → Grow (fun b => own b = i + 1) w w' b) (R : Nat → Prop) (hR : ∀ b, R b → w.heap.size ≤ b ∧ ¬ F' b) :
    KPost E w0 w w' own es i x R := by
  have hdec : ∃ own' : Nat → Nat, (∀ b, b < w.heap.size → own' b = own b) ∧ (∀ b, w'.heap.size ≤ b → own' b = 0) ∧ (∀ b, w.heap.size ≤ b → b < w'.heap.size → F' b → own' b = i + 1) ∧ (∀ b, w.heap.size ≤ b → ¬ F' b → own' b = 0) := by
    have z := hK.size
    refine ⟨fun b => @ite _ (b < w.heap.size) (Classical.propDecidable _) (own b) (@ite _ (w'.heap.size ≤ b) (Classical.propDecidable _) 0 (@ite _ (F' b) (Classical.propDecidable _) (i + 1) 0)), ?_, ?_, ?_, ?_⟩
    · intro b h; simp [h]
    · intro b h; simp [show ¬ b < w.heap.size by omega, h]
    · intro b h1 h2 h3; simp [show ¬ b < w.heap.size by omega, show ¬ w'.heap.size ≤ b by omega, h3]
    · intro b h1 h2; simp [show ¬ b < w.heap.size by omega, h2]
  obtain ⟨own', o1, o2, o3, o4⟩ := hdec
  refine ⟨own', ⟨fun j hj => ?_, fun b hb => ?_, o2, ?_, fun b => ?_⟩, hK, o1, fun b hb => o4 b (hR b hb).1 (hR b hb).2⟩
  · have hj' : j < es.length := by simpa using hj
    by_cases hij : i = j
    · subst hij
      simp only [List.getElem_set_self]
      refine ⟨C.mono hx (fun b hb => ?_), hG⟩
      rcases hF b hb with h | ⟨h1, h2⟩
      · rw [o1 b (S.lt (by omega))]; exact h
      · exact o3 b h1 h2 hb
    · rw [List.getElem_set_ne hij]
      obtain ⟨e1, e2⟩ := S.eng j hj'
      refine ⟨C.mono (C.kp e1 hK (fun b hb e => by omega)) (fun b hb => ?_), e2⟩
      rw [o1 b (S.lt (by omega))]; exact hb
  · rw [o1 b (Nat.lt_of_lt_of_le hb S.ext.le)]; exact S.old b hb
  · exact ⟨hK.os.trans S.ext.os, hK.tape.trans S.ext.tape, hK.output.trans S.ext.output, Nat.le_trans S.ext.size hK.size, fun b hb => (hK.block b (Nat.lt_of_lt_of_le hb S.ext.le) (fun e => by have := S.old b hb; omega)).trans (S.ext.block b hb)⟩
  · rw [List.length_set]
    rcases Nat.lt_or_ge b w.heap.size with h | h
    · rw [o1 b h]; exact S.top b
    · by_cases hb : F' b
      · rcases Nat.lt_or_ge b w'.heap.size with h' | h'
        · rw [o3 b h h' hb]; omega
        · rw [o2 b h']; omega
      · rw [o4 b h hb]; omega

theorem KS.new (C : EngC E) {w0 w : World} {own : Nat → Nat} {es : List KE} (S : KS E w0 w own es) (ao : Option Addr) (cap : Nat) (xs : List Int) (hl : xs.length * 8 ≤ 140737488351232) (hx : Ixs w ao xs) (hn : ao = none → xs.length = 0 ∧ cap = 0) (hs : schB xs = true) :
    Calls Tryz.prog 20 #[.slice ao xs.length cap] w fun e w' => ∃ eb own', e = .returned (.tuple #[.pointer (some ⟨eb, 0, none⟩), .int .i64 0]) ∧ KS E w0 w' own' (es ++ [⟨eb, xs, [], 0⟩]) ∧ (∀ b, b < w.heap.size → own' b = own b) ∧ Ext w w' := by
  refine (C.new_ok ao cap xs w hl hx hn hs).mono ?_
  rintro e w' ⟨eb, rfl, hE, he⟩
  have z := hE.le
  refine ⟨eb, fun b => if b < w.heap.size then own b else if b < w'.heap.size then es.length + 1 else 0, rfl, ⟨fun j hj => ?_, fun b hb => ?_, fun b hb => ?_, S.ext.trans hE, fun b => ?_⟩, fun b hb => if_pos hb, hE⟩
  · by_cases hjn : j < es.length
    · rw [List.getElem_append_left hjn]
      obtain ⟨e1, e2⟩ := S.eng j hjn
      refine ⟨C.mono (C.kp e1 (hE.kp (fun _ => False)) (fun _ _ h => h)) (fun b hb => ?_), e2⟩
      simp only [if_pos (S.lt (b := b) (by omega))]; exact hb
    · have ej : j = es.length := by simp at hj; omega
      subst ej
      simp only [List.getElem_concat_length]
      refine ⟨C.mono he (fun b hb => ?_), ?_⟩
      · simp only [if_neg (show ¬ b < w.heap.size by omega), if_pos hb.2]
      · simp only [schB, Bool.and_eq_true, decide_eq_true_eq] at hs
        exact ⟨hs.2.1, hs.2.2, by simp, fun i j hi => absurd hi (by simp), fun i hi => absurd hi (by simp)⟩
  · have := Nat.lt_of_lt_of_le hb S.ext.le
    simp only [if_pos this]; exact S.old b hb
  · simp only [if_neg (show ¬ b < w.heap.size by omega), if_neg (show ¬ b < w'.heap.size by omega)]
  · have := S.top b
    rw [List.length_append]
    split
    · simp; omega
    · split <;> simp
theorem KS.subs (C : EngC E) {w0 w : World} {own : Nat → Nat} {es : List KE} (S : KS E w0 w own es) {i : Nat} {x : KE} (hi : es[i]? = some x) (id : Int) (hwf : (Lit.int .i64 id).wf = true) (ao : Option Addr) (cap : Nat) (l : List Cd) (hc : Cxs w ao l) (hz : ∀ j (hj : j < l.length), l[j].a.s.size ≤ 9223372036854775807 ∧ l[j].b.s.size ≤ 9223372036854775807) (q k : Nat) (hq : PosOf x.flt id q) (hk : BadOf x.sch l k) :
    Calls Tryz.prog 24 #[.pointer (some ⟨x.eb, 0, none⟩), .int .i64 id, .slice ao l.length cap] w fun e w' => e = .returned (.tuple #[.int .i64 (subErr x.flt id l q k), .int .i64 (subPlace x.flt id l q k)]) ∧ KPost E w0 w w' own es i ⟨x.eb, x.sch, subFlt x.flt id l q k, x.n⟩ (fun _ => False) := by
  obtain ⟨hi', rfl⟩ := List.getElem?_eq_some_iff.1 hi
  obtain ⟨he, hG⟩ := S.eng i hi'
  refine (C.sub _ _ _ _ _ id ao cap l w hG.len hG.srt hwf he hc q k hq hk).mono ?_
  rintro e w' ⟨rfl, hK, he'⟩
  exact ⟨rfl, S.turn C hi' (x := ⟨es[i].eb, es[i].sch, subFlt es[i].flt id l q k, es[i].n⟩) he' (sub_good hG hq hk hz) hK (fun b hb => hb) _ (fun _ h => h.elim)⟩
theorem KS.uns (C : EngC E) {w0 w : World} {own : Nat → Nat} {es : List KE} (S : KS E w0 w own es) {i : Nat} {x : KE} (hi : es[i]? = some x) (id : Int) (q : Nat) (hq : PosOf x.flt id q) :
    Calls Tryz.prog 27 #[.pointer (some ⟨x.eb, 0, none⟩), .int .i64 id] w fun e w' => e = .returned (.int .i64 (unErr x.flt id q)) ∧ KPost E w0 w w' own es i ⟨x.eb, x.sch, unFlt x.flt id q, x.n⟩ (fun _ => False) := by
  obtain ⟨hi', rfl⟩ := List.getElem?_eq_some_iff.1 hi
  obtain ⟨he, hG⟩ := S.eng i hi'
  refine (C.un _ _ _ _ _ id w hG.len hG.srt he q hq).mono ?_
  rintro e w' ⟨rfl, hK, he'⟩
  exact ⟨rfl, S.turn C hi' (x := ⟨es[i].eb, es[i].sch, unFlt es[i].flt id q, es[i].n⟩) he' (un_good hG) hK (fun b hb => hb) _ (fun _ h => h.elim)⟩
theorem KS.mat (C : EngC E) {w0 w : World} {own : Nat → Nat} {es : List KE} (S : KS E w0 w own es) {i : Nat} {x : KE} (hi : es[i]? = some x) (fn : Nat) (hfn : fn = 16 ∨ fn = 17 ∨ fn = 18) (ao : Option Addr) (lcap : Nat) (ev : List Fd) (hl : ev.length * 32 ≤ 140737488351232) (hc : Fxs w ao ev) (hq : FirstBad x.sch ev ev.length) :
    Calls Tryz.prog fn #[.pointer (some ⟨x.eb, 0, none⟩), .slice ao ev.length lcap] w fun e w' => ∃ ro rcap, e = .returned (.tuple #[.slice ro (metIds x.flt (fo ev)).length rcap, .int .i64 0, .int .i64 0]) ∧ OSl w' 3 1 ro (metIds x.flt (fo ev)).length rcap ((metIds x.flt (fo ev)).map (Value.int .i64)) ∧ (∀ g, blkOf ro = some g → w.heap.size ≤ g) ∧ KPost E w0 w w' own es i ⟨x.eb, x.sch, x.flt, nxt x.n⟩ (fun g => blkOf ro = some g) := by
  obtain ⟨hi', rfl⟩ := List.getElem?_eq_some_iff.1 hi
  obtain ⟨he, hG⟩ := S.eng i hi'
  have e1 : maIds es[i].flt ev ev.length = metIds es[i].flt (fo ev) := by simp [maIds]
  have e2 : maErr ev ev.length = 0 := by simp [maErr]
  have e3 : maPlace ev ev.length = 0 := by simp [maPlace]
  have e4 : maN ev ev.length es[i].n = nxt es[i].n := by simp [maN]
  refine (C.ma fn hfn _ _ _ _ _ ao lcap ev w hl he hc ev.length hq).mono ?_
  rw [e1, e2, e3, e4]
  rintro e w' ⟨ro, rcap, F', rfl, hO, hr, hK, he', hF⟩
  exact ⟨ro, rcap, rfl, hO, fun g hg => (hr g hg).1, S.turn C hi' (x := ⟨es[i].eb, es[i].sch, es[i].flt, nxt es[i].n⟩) he' hG hK hF _ (fun g hg => hr g hg)⟩
theorem KS.reb (C : EngC E) {w0 w : World} {own : Nat → Nat} {es : List KE} (S : KS E w0 w own es) {i : Nat} {x : KE} (hi : es[i]? = some x) (ao : Option Addr) (cap : Nat) (xs : List Int) (hx : Ixs w ao xs) :
    Calls Tryz.prog 22 #[.pointer (some ⟨x.eb, 0, none⟩), .slice ao xs.length cap] w fun e w' => e = .returned (.int .i64 (if orderB x.sch.length xs then 0 else 9)) ∧ KPost E w0 w w' own es i x (fun _ => False) := by
  obtain ⟨hi', rfl⟩ := List.getElem?_eq_some_iff.1 hi
  obtain ⟨he, hG⟩ := S.eng i hi'
  refine (C.rb _ _ _ _ _ ao cap xs w he hx).mono ?_
  rintro e w' ⟨rfl, hK, he'⟩
  exact ⟨rfl, S.turn C hi' he' hG hK (fun b hb => hb) _ (fun _ h => h.elim)⟩
theorem KS.sta (C : EngC E) {w0 w : World} {own : Nat → Nat} {es : List KE} (S : KS E w0 w own es) {i : Nat} {x : KE} (hi : es[i]? = some x) :
    Calls Tryz.prog 28 #[.pointer (some ⟨x.eb, 0, none⟩)] w fun e w' => ∃ k : Nat, e = .returned (.agg #[.int .i64 x.flt.length, .int .i64 k, .int .i64 x.n]) ∧ 1 ≤ k ∧ k ≤ 1 + x.flt.length * x.sch.length ∧ KPost E w0 w w' own es i x (fun _ => False) := by
  obtain ⟨hi', rfl⟩ := List.getElem?_eq_some_iff.1 hi
  obtain ⟨he, hG⟩ := S.eng i hi'
  refine (C.st _ _ _ _ _ w he).mono ?_
  rintro e w' ⟨k, rfl, k1, k2, hK, he'⟩
  exact ⟨k, rfl, k1, k2, S.turn C hi' he' hG hK (fun b hb => hb) _ (fun _ h => h.elim)⟩
end
end Go.Proofs.YtpbblaeamddbgaaGreat
namespace Go.Proofs.YtpbblaeamddbgaaGreat
open Go.RowKit

/-- The document's first words' case. -/
def exA : List Cd := [⟨0, 6, ⟨5, ⟨#[]⟩⟩, vz⟩, ⟨1, 8, ⟨0, ⟨#[97, 98]⟩⟩, vz⟩]
def exC : List Cd := [⟨0, 2, ⟨5, ⟨#[]⟩⟩, vz⟩]
def exV : List Fd := [⟨0, ⟨5, ⟨#[]⟩⟩⟩, ⟨1, ⟨0, ⟨#[97, 98, 99]⟩⟩⟩]
def exW : List Fd := [⟨0, ⟨6, ⟨#[]⟩⟩⟩]
def exF : List (Int × List Cd) := [(3, []), (7, exA), (9, exC)]
theorem exA_may : BadOf [1, 2] exA 2 := by
  refine ⟨by decide, fun j hj _ => ?_, fun h => absurd h (by decide)⟩
  have hj' : j < 2 := hj
  match j, hj' with
  | 0, _ => simp [exA, mayB, mayK, firstB, secondB, fitsB, noneB, vz, ByteArray.toList_eq]
  | 1, _ => simp [exA, mayB, mayK, firstB, secondB, fitsB, noneB, vz, ByteArray.toList_eq, ByteArray.size]
theorem exC_may : BadOf [1, 2] exC 1 := by
  refine ⟨by decide, fun j hj _ => ?_, fun h => absurd h (by decide)⟩
  have hj' : j < 1 := hj
  match j, hj' with
  | 0, _ => simp [exC, mayB, mayK, firstB, secondB, fitsB, noneB, vz, ByteArray.toList_eq]
theorem ex0_may : BadOf [1, 2] [] 0 := ⟨by decide, fun j hj _ => absurd hj (by simp), fun h => absurd h (by decide)⟩
theorem exV_may : FirstBad [1, 2] exV 2 := by
  refine ⟨by decide, fun j hj _ => ?_, fun h => absurd h (by decide)⟩
  have hj' : j < 2 := hj
  match j, hj' with
  | 0, _ => simp [exV, fieldOK, inR, fitsB, fo, ByteArray.toList_eq]
  | 1, _ => simp [exV, fieldOK, inR, fitsB, fo, ByteArray.size]
theorem exW_may : FirstBad [1, 2] exW 1 := by
  refine ⟨by decide, fun j hj _ => ?_, fun h => absurd h (by decide)⟩
  have hj' : j < 1 := hj
  match j, hj' with
  | 0, _ => simp [exW, fieldOK, inR, fitsB, fo, ByteArray.toList_eq]
theorem ex_pos1 : PosOf [] 7 0 := ⟨by decide, fun j hj => absurd hj (by simp), fun h => absurd h (by decide)⟩
theorem ex_pos2 : PosOf [(7, exA)] 3 0 := ⟨by decide, fun j _ h => absurd h (by omega), fun _ => show ¬ (7 : Int) < 3 by decide⟩
theorem ex_pos3 : PosOf [(3, []), (7, exA)] 9 2 := by
  refine ⟨by decide, fun j hj _ => ?_, fun h => absurd h (by decide)⟩
  have hj' : j < 2 := hj
  match j, hj' with
  | 0, _ => exact show (3 : Int) < 9 by decide
  | 1, _ => exact show (7 : Int) < 9 by decide
theorem ex_sub1 : subErr [] 7 exA 0 2 = 0 ∧ subFlt [] 7 exA 0 2 = [(7, exA)] := by
  have h : subErr [] 7 exA 0 2 = 0 := rfl
  exact ⟨h, by simp [subFlt, h]⟩
theorem ex_sub2 : subErr [(7, exA)] 3 [] 0 0 = 0 ∧ subFlt [(7, exA)] 3 [] 0 0 = [(3, []), (7, exA)] := by
  have h : subErr [(7, exA)] 3 [] 0 0 = 0 := by simp [subErr, thereB]
  exact ⟨h, by simp [subFlt, h]⟩
theorem ex_sub3 : subErr [(3, []), (7, exA)] 9 exC 2 1 = 0 ∧ subFlt [(3, []), (7, exA)] 9 exC 2 1 = exF := by
  have h : subErr [(3, []), (7, exA)] 9 exC 2 1 = 0 := by simp [subErr, thereB, exC]
  exact ⟨h, by simp [subFlt, h, exF]⟩
theorem ex_m1 : metB ⟨0, 6, ⟨5, ⟨#[]⟩⟩, vz⟩ ⟨5, ⟨#[]⟩⟩ = true := by decide
theorem ex_m2 : metB ⟨1, 8, ⟨0, ⟨#[97, 98]⟩⟩, vz⟩ ⟨0, ⟨#[97, 98, 99]⟩⟩ = true := by decide
theorem ex_m3 : metB ⟨0, 2, ⟨5, ⟨#[]⟩⟩, vz⟩ ⟨5, ⟨#[]⟩⟩ = false := by decide
theorem ex_m5 : metB ⟨0, 2, ⟨5, ⟨#[]⟩⟩, vz⟩ ⟨6, ⟨#[]⟩⟩ = true := by decide
theorem ex_met1 : metIds exF (fo exV) = [3, 7] := by
  have f0 : fo exV 0 = some ⟨5, ⟨#[]⟩⟩ := rfl
  have f1 : fo exV 1 = some ⟨0, ⟨#[97, 98, 99]⟩⟩ := rfl
  have a : meetsB exA (fo exV) = true := by simp only [meetsB, exA, List.all_cons, List.all_nil, f0, f1, condB, ex_m1, ex_m2, Bool.and_true]
  have c : meetsB exC (fo exV) = false := by simp only [meetsB, exC, List.all_cons, List.all_nil, f0, condB, ex_m3, Bool.and_true]
  have z : meetsB [] (fo exV) = true := rfl
  simp [metIds, exF, a, c, z]
theorem ex_met2 : metIds exF (fo exW) = [3, 9] := by
  have f0 : fo exW 0 = some ⟨6, ⟨#[]⟩⟩ := rfl
  have f1 : fo exW 1 = none := rfl
  have a : meetsB exA (fo exW) = false := by simp only [meetsB, exA, List.all_cons, List.all_nil, f1, condB, Bool.and_true, Bool.and_false]
  have c : meetsB exC (fo exW) = true := by simp only [meetsB, exC, List.all_cons, List.all_nil, f0, condB, ex_m5, Bool.and_true]
  have z : meetsB [] (fo exW) = true := rfl
  simp [metIds, exF, a, c, z]
end Go.Proofs.YtpbblaeamddbgaaGreat
