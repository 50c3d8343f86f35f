import Derived.Test.YtpbblaeamddbgaaGreatKA
import Derived.Test.YtpbblaeamddbgaaGreatHD
namespace Go.Proofs.YtpbblaeamddbgaaGreat
open Go.RowKit

section
variable {E : World → Nat → (Nat → Prop) → List Int → List (Int × List Cd) → Int → Prop}
theorem exA_sz : ∀ j (hj : j < exA.length), exA[j].a.s.size ≤ 9223372036854775807 ∧ exA[j].b.s.size ≤ 9223372036854775807 := fun j hj => by
  have hj' : j < 2 := hj
  match j, hj' with
  | 0, _ => exact ⟨by simp [exA, ByteArray.size], by simp [exA, vz, ByteArray.size]⟩
  | 1, _ => exact ⟨by simp [exA, ByteArray.size], by simp [exA, vz, ByteArray.size]⟩
theorem exC_sz : ∀ j (hj : j < exC.length), exC[j].a.s.size ≤ 9223372036854775807 ∧ exC[j].b.s.size ≤ 9223372036854775807 := fun j hj => by
  have hj' : j < 1 := hj
  match j, hj' with
  | 0, _ => exact ⟨by simp [exC, ByteArray.size], by simp [exC, vz, ByteArray.size]⟩
theorem osl_ix {w : World} {ro : Option Addr} {rcap n : Nat} {xs ys : List Int} (h : OSl w 3 1 ro n rcap (xs.map (Value.int .i64))) (e : xs = ys) (hn : n = xs.length) : Ixs w ro ys := by
  subst e hn
  exact ixs_of_osl h
theorem ixs_two (w : World) (T : TypeId) (a b : Int) : Ixs (w.alloc (.cells #[.int .i64 a, .int .i64 b] T)) (some ⟨w.heap.size, 0, none⟩) [a, b] := fun _ => ⟨w.heap.size, 0, rfl, fun j hj => by
  have hr : Row (w.alloc (.cells #[.int .i64 a, .int .i64 b] T)) w.heap.size T [.int .i64 a, .int .i64 b] := row_alloc _ _ _ _ _ rfl rfl
  rw [Nat.zero_add]
  have hj' : j < 2 := hj
  match j, hj' with
  | 0, _ => exact hr.at (j := 0) rfl
  | 1, _ => exact hr.at (j := 1) rfl⟩
theorem same_yes (ro : Option Addr) (rcap : Nat) (a b : Int) (w : World) (T : TypeId) (h : Ixs w ro [a, b]) :
    Calls Tryz.prog 19 #[.slice ro 2 rcap, .slice (some ⟨w.heap.size, 0, none⟩) 2 2] (w.alloc (.cells #[.int .i64 a, .int .i64 b] T)) fun e w' => e = .returned (.bool true) ∧ Ext w w' := by
  refine (ksame_any ro (some ⟨w.heap.size, 0, none⟩) rcap 2 [a, b] [a, b] _ (by simp) (by simp) (h.ext ((Ext.refl _).alloc _)) (ixs_two w T a b)).mono ?_
  rintro e w' ⟨rfl, hE⟩
  exact ⟨by rw [eqB_refl], ((Ext.refl _).alloc _).trans hE⟩
set_option maxHeartbeats 3200000 in
set_option maxRecDepth 100000 in
theorem known_any (C : EngC E) (w : World) : Calls Tryz.prog 31 #[] w fun e w' => e = .returned (.bool true) ∧ Ext w w' := by
  have HN : Hid (∀ w1, Ext w w1 → ∀ g, Ixs w1 (some ⟨g, 0, none⟩) [1, 2] → Calls Tryz.prog 20 #[.slice (some ⟨g, 0, none⟩) 2 2] w1 fun e w' => ∃ eb own, e = .returned (.tuple #[.pointer (some ⟨eb, 0, none⟩), .int .i64 0]) ∧ KS E w w' own [⟨eb, [1, 2], [], 0⟩]) := fun w1 h1 g hx => by
    refine (KS.new C ((KS.start (E := E) w).ahead C h1) (some ⟨g, 0, none⟩) 2 [1, 2] (by decide) hx (fun h => by cases h) (by decide)).mono ?_
    rintro e w' ⟨eb, own, rfl, S, _, _⟩
    exact ⟨eb, own, rfl, S⟩
  have HA : Hid (∀ w1 w2 own eb, KS E w w1 own [⟨eb, [1, 2], [], 0⟩] → Ext w1 w2 → ∀ g, Cxs w2 (some ⟨g, 0, none⟩) exA → Calls Tryz.prog 24 #[.pointer (some ⟨eb, 0, none⟩), .int .i64 7, .slice (some ⟨g, 0, none⟩) 2 2] w2 fun e w' => e = .returned (.tuple #[.int .i64 0, .int .i64 0]) ∧ ∃ own', KS E w w' own' [⟨eb, [1, 2], [(7, exA)], 0⟩]) := fun w1 w2 own eb S h g hc => by
    refine (KS.subs C (S.ahead C h) (i := 0) rfl 7 (by decide) (some ⟨g, 0, none⟩) 2 exA hc exA_sz 0 2 ex_pos1 exA_may).mono ?_
    simp only [subPlace, ex_sub1.1, ex_sub1.2]
    rintro e w' ⟨rfl, own', S', _⟩
    exact ⟨rfl, own', S'⟩
  have HB : Hid (∀ w1 own eb, KS E w w1 own [⟨eb, [1, 2], [(7, exA)], 0⟩] → Calls Tryz.prog 24 #[.pointer (some ⟨eb, 0, none⟩), .int .i64 3, .slice none 0 0] w1 fun e w' => e = .returned (.tuple #[.int .i64 0, .int .i64 0]) ∧ ∃ own', KS E w w' own' [⟨eb, [1, 2], [(3, []), (7, exA)], 0⟩]) := fun w1 own eb S => by
    refine (KS.subs C S (i := 0) rfl 3 (by decide) none 0 [] (fun h => absurd h (by simp)) (fun j hj => absurd hj (by simp)) 0 0 ex_pos2 ex0_may).mono ?_
    simp only [subPlace, ex_sub2.1, ex_sub2.2]
    rintro e w' ⟨rfl, own', S', _⟩
    exact ⟨rfl, own', S'⟩
  have HC : Hid (∀ w1 w2 own eb, KS E w w1 own [⟨eb, [1, 2], [(3, []), (7, exA)], 0⟩] → Ext w1 w2 → ∀ g, Cxs w2 (some ⟨g, 0, none⟩) exC → Calls Tryz.prog 24 #[.pointer (some ⟨eb, 0, none⟩), .int .i64 9, .slice (some ⟨g, 0, none⟩) 1 1] w2 fun e w' => e = .returned (.tuple #[.int .i64 0, .int .i64 0]) ∧ ∃ own', KS E w w' own' [⟨eb, [1, 2], exF, 0⟩]) := fun w1 w2 own eb S h g hc => by
    refine (KS.subs C (S.ahead C h) (i := 0) rfl 9 (by decide) (some ⟨g, 0, none⟩) 1 exC hc exC_sz 2 1 ex_pos3 exC_may).mono ?_
    simp only [subPlace, ex_sub3.1, ex_sub3.2]
    rintro e w' ⟨rfl, own', S', _⟩
    exact ⟨rfl, own', S'⟩
  have HV : Hid (∀ w1 w2 own eb, KS E w w1 own [⟨eb, [1, 2], exF, 0⟩] → Ext w1 w2 → ∀ g, Fxs w2 (some ⟨g, 0, none⟩) exV → Calls Tryz.prog 16 #[.pointer (some ⟨eb, 0, none⟩), .slice (some ⟨g, 0, none⟩) 2 2] w2 fun e w' => ∃ ro rcap own', e = .returned (.tuple #[.slice ro 2 rcap, .int .i64 0, .int .i64 0]) ∧ OSl w' 3 1 ro 2 rcap ([3, 7].map (Value.int .i64)) ∧ KS E w w' own' [⟨eb, [1, 2], exF, nxt 0⟩] ∧ ∀ g, blkOf ro = some g → own' g = 0) := fun w1 w2 own eb S h g hc => by
    refine (KS.mat C (S.ahead C h) (i := 0) rfl _ (Or.inl rfl) (some ⟨g, 0, none⟩) 2 exV (by decide) hc exV_may).mono ?_
    simp only [ex_met1]
    rintro e w' ⟨ro, rcap, rfl, hO, _, own', S', _, _, hR⟩
    exact ⟨ro, rcap, own', rfl, hO, S', hR⟩
  have HW : Hid (∀ w1 w2 own eb, KS E w w1 own [⟨eb, [1, 2], exF, nxt 0⟩] → Ext w1 w2 → ∀ g, Fxs w2 (some ⟨g, 0, none⟩) exW → Calls Tryz.prog 16 #[.pointer (some ⟨eb, 0, none⟩), .slice (some ⟨g, 0, none⟩) 1 1] w2 fun e w' => ∃ ro rcap own', e = .returned (.tuple #[.slice ro 2 rcap, .int .i64 0, .int .i64 0]) ∧ OSl w' 3 1 ro 2 rcap ([3, 9].map (Value.int .i64)) ∧ KS E w w' own' [⟨eb, [1, 2], exF, nxt (nxt 0)⟩] ∧ Kp (fun b => own b = 1) w2 w') := fun w1 w2 own eb S h g hc => by
    refine (KS.mat C (S.ahead C h) (i := 0) rfl _ (Or.inl rfl) (some ⟨g, 0, none⟩) 1 exW (by decide) hc exW_may).mono ?_
    simp only [ex_met2]
    rintro e w' ⟨ro, rcap, rfl, hO, _, own', S', hK, _, hR⟩
    exact ⟨ro, rcap, own', rfl, hO, S', hK⟩
  go_enter Tryz.func31, Tryz.ntmps31
  go_wp2_with fail
  refine Calls.mono (HN.out _ ((Ext.refl w).alloc _) w.heap.size (two_ix w _ _ rfl)) ?_
  rintro e w1 ⟨eb, own1, rfl, S1⟩
  clear HN
  go_wp2_with fail
  refine Calls.mono (HA.out w1 _ own1 eb S1 ((Ext.refl w1).alloc _) w1.heap.size (cxs_row (row_alloc _ _ _ _ _ rfl rfl))) ?_
  rintro e w2 ⟨rfl, own2, S2⟩
  clear HA S1
  go_wp2_with fail
  refine Calls.mono (HB.out w2 own2 eb S2) ?_
  rintro e w3 ⟨rfl, own3, S3⟩
  clear HB S2
  go_wp2_with fail
  refine Calls.mono (HC.out w3 _ own3 eb S3 ((Ext.refl w3).alloc _) w3.heap.size (cxs_row (row_alloc _ _ _ _ _ rfl rfl))) ?_
  rintro e w4 ⟨rfl, own4, S4⟩
  clear HC S3
  go_wp2_with fail
  refine Calls.mono (HV.out w4 _ own4 eb S4 ((Ext.refl w4).alloc _) w4.heap.size (fxs_row (row_alloc _ _ _ _ _ rfl rfl))) ?_
  rintro e w5 ⟨ro, rcap, own5, rfl, hO5, S5, hR5⟩
  clear HV S4
  go_wp2_with fail
  refine Calls.mono (HW.out w5 _ own5 eb S5 ((Ext.refl w5).alloc _) w5.heap.size (fxs_row (row_alloc _ _ _ _ _ rfl rfl))) ?_
  rintro e w6 ⟨so, scap, own6, rfl, hO6, S6, hK6⟩
  have hO56 : OSl w6 3 1 ro 2 rcap ([3, 7].map (Value.int .i64)) := OSl.kp (OSl.ext hO5 ((Ext.refl w5).alloc _)) hK6 (fun g hg e => by have := hR5 g hg; omega)
  have hE6 := S6.ext
  have I5 : Hid (Ixs w6 ro [3, 7]) := osl_ix hO56 rfl rfl
  have I6 : Hid (Ixs w6 so [3, 9]) := osl_ix hO6 rfl rfl
  clear HW S5 S6 hO5 hO6 hO56 hK6 hR5
  go_wp2_with fail
  refine Calls.mono (same_yes ro rcap 3 7 w6 _ I5.out) ?_
  rintro e w7 ⟨rfl, hE7⟩
  go_wp2_with fail
  refine Calls.mono (same_yes so scap 3 9 w7 _ (Ixs.ext I6.out hE7)) ?_
  rintro e w8 ⟨rfl, hE8⟩
  go_wp2
  go_ret
  exact ⟨rfl, (hE6.trans hE7).trans hE8⟩
end
end Go.Proofs.YtpbblaeamddbgaaGreat
namespace Go.Proofs.YtpbblaeamddbgaaGreat
open Go.RowKit

/-- A filter of raw numbers, as it came in. -/
structure WL where
  l : List Wt
  ao : Option Addr
  cap : Nat
/-- Lists of raw conditions, as they came in. -/
def WLs (w : World) (lo : Option Addr) (ls : List WL) : Prop := ls.length ≤ 140737488355328 ∧ (0 < ls.length → ∃ b o, lo = some ⟨b, o, none⟩ ∧ ∀ j (hj : j < ls.length), w.cell? ⟨b, o + j, none⟩ = some (.slice ls[j].ao ls[j].l.length ls[j].cap)) ∧ ∀ x ∈ ls, Wxs w x.ao x.l ∧ x.l.length ≤ 140737488355328 ∧ ∀ c ∈ x.l, WtOK c
theorem WLs.ext {w w' : World} {lo : Option Addr} {ls : List WL} (h : WLs w lo ls) (e : Ext w w') : WLs w' lo ls :=
  ⟨h.1, fun hp => by
    obtain ⟨b, o, h1, h2⟩ := h.2.1 hp
    exact ⟨b, o, h1, fun j hj => e.cell (h2 j hj)⟩, fun x hx => ⟨(h.2.2 x hx).1.ext e, (h.2.2 x hx).2⟩⟩
def sch4 : List Int := [1, 2, 1, 2]
def lAt (ls : List WL) (i : Nat) : List Wt := (ls[i]?.map (·.l)).getD []
/-- The filters of an engine, numbered from 0 on. -/
def fltOf (ls : List WL) (n : Nat) : List (Int × List Cd) := (List.range n).map (fun i : Nat => ((i : Int), filterOf (lAt ls i)))
theorem fltOf_len (ls : List WL) (n : Nat) : (fltOf ls n).length = n := by simp [fltOf]
theorem fltOf_at (ls : List WL) (n i : Nat) (hi : i < (fltOf ls n).length) : (fltOf ls n)[i] = ((i : Int), filterOf (lAt ls i)) := by simp [fltOf]
theorem fltOf_succ (ls : List WL) (n : Nat) : fltOf ls (n + 1) = fltOf ls n ++ [((n : Int), filterOf (lAt ls n))] := by simp [fltOf, List.range_succ]
theorem fltOf_pos (ls : List WL) (n : Nat) : PosOf (fltOf ls n) n n := by
  refine ⟨by rw [fltOf_len]; exact Nat.le_refl _, fun j hj hjn => ?_, fun h => ?_⟩
  · rw [fltOf_at]; simp only; omega
  · rw [fltOf_len] at h; omega
theorem none_vz : noneB vz = true := by simp [noneB, vz, ByteArray.toList_eq]
theorem kind_le (x : Wt) : 1 ≤ kindOf x ∧ kindOf x ≤ 9 := by
  have h := pickI_lt x.kind 9 (by decide)
  unfold kindOf
  split <;> omega
/-- A condition of raw numbers may be. -/
theorem cond_may (x : Wt) : mayB sch4 (condOf x) = true := by
  have ha := pickI_lt x.attr 4 (by decide)
  have hk := kind_le x
  have hs : sch4.getD (pickI x.attr 4) 0 = if pickI x.attr 4 % 2 = 0 then 1 else 2 := by
    rcases (show pickI x.attr 4 = 0 ∨ pickI x.attr 4 = 1 ∨ pickI x.attr 4 = 2 ∨ pickI x.attr 4 = 3 by omega) with h | h | h | h <;> rw [h] <;> rfl
  have hf : ∀ n s, fitsB (sch4.getD (pickI x.attr 4) 0) (valOf (pickI x.attr 4) n s) = true := fun n s => val_fits _ n s _ hs
  have h8 : kindOf x = 8 → ¬ pickI x.attr 4 % 2 = 0 := fun h => by
    unfold kindOf at h
    split at h
    · omega
    · rename_i hn
      exact fun e => hn ⟨h, e⟩
  have hat : (condOf x).attr.toNat = pickI x.attr 4 := by simp [condOf]
  have h1 : firstB (sch4.getD (pickI x.attr 4) 0) (condOf x) = true := by
    unfold firstB condOf
    by_cases h9 : kindOf x = 9
    · simp [h9, none_vz]
    · have : ¬ ((kindOf x : Nat) : Int) = 9 := by omega
      simp [h9, this]
      simpa using hf x.n x.s
  have h2 : secondB (sch4.getD (pickI x.attr 4) 0) (condOf x) = true := by
    unfold secondB condOf
    by_cases h7 : kindOf x = 7
    · simp [h7]
      simpa using hf x.m x.t
    · have : ¬ ((kindOf x : Nat) : Int) = 7 := by omega
      simp [h7, this, none_vz]
  have h3 : ((condOf x).kind == 8 && !(sch4.getD (pickI x.attr 4) 0 == 2)) = false := by
    by_cases h : kindOf x = 8
    · rw [hs, if_neg (h8 h)]; simp
    · have : ¬ ((kindOf x : Nat) : Int) = 8 := by omega
      simp [condOf, this]
  simp only [mayB, mayK, hat, h1, h2, h3, Bool.not_false, Bool.and_true, Bool.and_eq_true, decide_eq_true_eq]
  simp only [condOf, sch4, List.length_cons, List.length_nil]
  omega
theorem filter_may (l : List Wt) : BadOf sch4 (filterOf l) (filterOf l).length := by
  refine ⟨Nat.le_refl _, fun j hj _ => ?_, fun h => absurd h (Nat.lt_irrefl _)⟩
  simp only [filterOf, List.getElem_map]
  exact cond_may _
theorem filter_sz (l : List Wt) : ∀ j (hj : j < (filterOf l).length), (filterOf l)[j].a.s.size ≤ 9223372036854775807 ∧ (filterOf l)[j].b.s.size ≤ 9223372036854775807 := fun j hj => by
  simp only [filterOf, List.getElem_map, condOf]
  refine ⟨?_, ?_⟩
  · split
    · simp [vz, ByteArray.size]
    · exact Nat.le_trans (val_size _ _ _) (by decide)
  · split
    · exact Nat.le_trans (val_size _ _ _) (by decide)
    · simp [vz, ByteArray.size]
theorem engine_sub (ls : List WL) (n : Nat) (hn : n < 90) : subErr (fltOf ls n) n (filterOf (lAt ls n)) n (filterOf (lAt ls n)).length = 0 ∧ subFlt (fltOf ls n) n (filterOf (lAt ls n)) n (filterOf (lAt ls n)).length = fltOf ls (n + 1) := by
  have h8 := filter_len (lAt ls n)
  have hl := fltOf_len ls n
  have hth : thereB (fltOf ls n) n n = false := thereB_no (fun h => by omega)
  have h : subErr (fltOf ls n) n (filterOf (lAt ls n)) n (filterOf (lAt ls n)).length = 0 := by
    unfold subErr
    rw [if_neg (by omega), hth]
    simp only [Bool.false_eq_true, if_false]
    rw [if_neg (by omega), if_neg (by omega), if_neg (by omega)]
  refine ⟨h, ?_⟩
  unfold subFlt
  rw [h, fltOf_succ]
  simp only [beq_self_eq_true, if_true]
  rw [List.take_of_length_le (by omega), List.drop_of_length_le (by omega)]
end Go.Proofs.YtpbblaeamddbgaaGreat
namespace Go.Proofs.YtpbblaeamddbgaaGreat
open Go.RowKit

section
variable {E : World → Nat → (Nat → Prop) → List Int → List (Int × List Cd) → Int → Prop}
/-- One engine more, with the filters that were handed in. -/
def EngAdd (E : World → Nat → (Nat → Prop) → List Int → List (Int × List Cd) → Int → Prop) (w0 w : World) (own : Nat → Nat) (es : List KE) (ls : List WL) (e : Ending) (w' : World) : Prop :=
  ∃ (eb n : Nat) (own' : Nat → Nat), e = .returned (.tuple #[.pointer (some ⟨eb, 0, none⟩), .int .i64 n, .bool true]) ∧ n ≤ ls.length ∧ n ≤ 90 ∧ KS E w0 w' own' (es ++ [⟨eb, sch4, fltOf ls n, 0⟩]) ∧ (∀ b, b < w.heap.size → own' b = own b) ∧ Ext w w' ∧ n = min ls.length 90
theorem KS.ahead' (C : EngC E) {w0 w w1 : World} {own own1 : Nat → Nat} {es : List KE} {x : KE} (S : KS E w0 w own es) (hE : Ext w w1) {w2 : World} {i : Nat} (hi : i = es.length) (ho : ∀ b, b < w.heap.size → own1 b = own b) (k : Kp (fun b => own1 b = i + 1) w1 w2) (_h : KS E w0 w1 own1 (es ++ [x])) (_C : EngC E := C) : Ext w w2 :=
  ⟨k.os.trans hE.os, k.tape.trans hE.tape, k.output.trans hE.output, Nat.le_trans hE.size k.size, fun b hb => (k.block b (Nat.lt_of_lt_of_le hb hE.le) (fun e => by have h1 := ho b hb; have h2 := S.top b; omega)).trans (hE.block b hb)⟩
theorem cxs_osl {w : World} {T : Nat} {ao : Option Addr} {cap : Nat} {l : List Cd} (h : OSl w T 6 ao l.length cap (l.flatMap Cd.cells)) : Cxs w ao l := fun hp => by
  obtain ⟨b, h1, h2⟩ := osl_cds h hp
  exact ⟨b, 0, h1, h2⟩

set_option maxHeartbeats 1600000 in
set_option maxRecDepth 100000 in
theorem engine_any (C : EngC E) {w0 w : World} {own : Nat → Nat} {es : List KE} (S : KS E w0 w own es) (lo : Option Addr) (cap : Nat) (ls : List WL) (hL : WLs w lo ls) :
    Calls Tryz.prog 13 #[.slice lo ls.length cap] w fun e w' => EngAdd E w0 w own es ls e w' := by
  have HK : Hid _ := known_any C w
  have HN : Hid (∀ w1 w2 g, Ext w w1 → Ext w1 w2 → Ixs w2 (some ⟨g, 0, none⟩) [1, 2, 1, 2] → Calls Tryz.prog 20 #[.slice (some ⟨g, 0, none⟩) 4 4] w2 fun e w' => ∃ eb own', e = .returned (.tuple #[.pointer (some ⟨eb, 0, none⟩), .int .i64 0]) ∧ KS E w0 w' own' (es ++ [⟨eb, sch4, fltOf ls 0, 0⟩]) ∧ (∀ b, b < w.heap.size → own' b = own b) ∧ Ext w w') := fun w1 w2 g h1 h2 hx => by
    refine (KS.new C (S.ahead C (h1.trans h2)) (some ⟨g, 0, none⟩) 4 [1, 2, 1, 2] (by decide) hx (fun h => by cases h) (by decide)).mono ?_
    rintro e w' ⟨eb, own', rfl, S', ho, hE⟩
    exact ⟨eb, own', rfl, S', fun b hb => ho b (Nat.lt_of_lt_of_le hb (h1.trans h2).le), (h1.trans h2).trans hE⟩
  have HSub : Hid (∀ (wr w2 : World) (own1 : Nat → Nat) (eb n : Nat) (ro : Option Addr) (rcap : Nat), n < 90 → KS E w0 wr own1 (es ++ [⟨eb, sch4, fltOf ls n, 0⟩]) → (∀ b, b < w.heap.size → own1 b = own b) → Ext w wr → Ext wr w2 → Cxs w2 ro (filterOf (lAt ls n)) → Calls Tryz.prog 24 #[.pointer (some ⟨eb, 0, none⟩), .int .i64 n, .slice ro (filterOf (lAt ls n)).length rcap] w2 fun e w' => e = .returned (.tuple #[.int .i64 0, .int .i64 0]) ∧ ∃ own', KS E w0 w' own' (es ++ [⟨eb, sch4, fltOf ls (n + 1), 0⟩]) ∧ (∀ b, b < w.heap.size → own' b = own b) ∧ Ext w w') := fun wr w2 own1 eb n ro rcap hn S1 ho hE1 hE2 hc => by
    have hwf : (Lit.int .i64 (n : Int)).wf = true := by
      simp only [Lit.wf, IntKind.min, IntKind.max, IntKind.signed, IntKind.bits, Bool.and_eq_true, decide_eq_true_eq, if_true]
      omega
    obtain ⟨e1, e2⟩ := engine_sub ls n hn
    refine (KS.subs C (S1.ahead C hE2) (i := es.length) (x := ⟨eb, sch4, fltOf ls n, 0⟩) (by simp) n hwf ro rcap (filterOf (lAt ls n)) hc (filter_sz _) n _ (fltOf_pos ls n) (filter_may _)).mono ?_
    simp only [subPlace, e1, e2]
    rintro e w' ⟨rfl, own', S', hK, ho', _⟩
    refine ⟨rfl, own', ?_, fun b hb => (ho' b (Nat.lt_of_lt_of_le hb (hE1.trans hE2).le)).trans (ho b hb), S.ahead' C (hE1.trans hE2) rfl ho hK (S1.ahead C hE2)⟩
    have hset : (es ++ [(⟨eb, sch4, fltOf ls n, 0⟩ : KE)]).set es.length ⟨eb, sch4, fltOf ls (n + 1), 0⟩ = es ++ [⟨eb, sch4, fltOf ls (n + 1), 0⟩] := by simp
    rw [hset] at S'
    exact S'
  have HLs : Hid (WLs w lo ls) := hL
  have hll := hL.1
  clear hL
  go_enter Tryz.func13, Tryz.ntmps13
  go_wp2_with fail
  refine Calls.mono HK.out ?_
  rintro e w1 ⟨rfl, hE1⟩
  clear HK
  go_wp2_with fail
  refine Calls.mono (kschema_any w1) ?_
  rintro e w2 ⟨rfl, hx2, hE2⟩
  go_wp2_with fail
  refine Calls.mono (HN.out w1 w2 w1.heap.size hE1 hE2 hx2) ?_
  rintro e w3 ⟨eb, own3, rfl, S3, ho3, hE3⟩
  clear HN hx2 hE2 hE1
  go_wp2_with fail
  go_loopw [8] (fun v8 wr => ∃ (n : Nat) (own1 : Nat → Nat), n ≤ ls.length ∧ n ≤ 90 ∧ v8 = .int .i64 n ∧ KS E w0 wr own1 (es ++ [⟨eb, sch4, fltOf ls n, 0⟩]) ∧ (∀ b, b < w.heap.size → own1 b = own b) ∧ Ext w wr) (fun v8 _ => ls.length - (intOf v8).toNat)
  case atStart => exact ⟨0, own3, Nat.zero_le _, by omega, rfl, S3, ho3, hE3⟩
  case round =>
    obtain ⟨n, own1, hn1, hn2, rfl, S1, ho1, hEr⟩ := hrel
    have HS1 : Hid (KS E w0 wr own1 (es ++ [⟨eb, sch4, fltOf ls n, 0⟩])) := S1
    have HO1 : Hid (∀ b, b < w.heap.size → own1 b = own b) := ho1
    clear S1 ho1 S3 ho3
    by_cases hlt : n < ls.length
    · have hni : (n : Int) < (ls.length : Int) := by omega
      by_cases h90 : n < 90
      · have hn9 : (n : Int) < 90 := by omega
        obtain ⟨b, o, rfl, hcell⟩ := HLs.out.2.1 (by omega)
        have c0 := hEr.cell (hcell n hlt)
        obtain ⟨hw, hwl, hok⟩ := HLs.out.2.2 ls[n] (List.getElem_mem hlt)
        have hla : lAt ls n = ls[n].l := by simp [lAt, hlt]
        have HF : Hid (∀ W, Ext w W → Calls Tryz.prog 25 #[.slice ls[n].ao ls[n].l.length ls[n].cap] W fun e w' => ∃ ro rcap, e = .returned (.slice ro (filterOf (lAt ls n)).length rcap) ∧ Cxs w' ro (filterOf (lAt ls n)) ∧ Ext W w') := fun W h => by
          refine (filter_any ls[n].ao ls[n].cap ls[n].l W hwl (hw.ext h) hok).mono ?_
          rintro e w' ⟨ro, rcap, rfl, hO, _, hE⟩
          rw [hla]
          exact ⟨ro, rcap, rfl, cxs_osl hO, hE⟩
        clear hw hwl hok hcell hla
        generalize ls[n].ao = xa at *
        generalize ls[n].l.length = xl at *
        generalize ls[n].cap = xc at *
        go_wp2_with fail
        refine Calls.mono (HF.out wr hEr) ?_
        rintro e w4 ⟨ro, rcap, rfl, hc4, hE4⟩
        clear HF
        go_wp2_with fail
        refine Calls.mono (HSub.out wr w4 own1 eb n ro rcap h90 HS1.out HO1.out hEr hE4 hc4) ?_
        rintro e w5 ⟨rfl, own5, S5, ho5, hE5⟩
        clear HS1 HO1 hc4 hE4 c0
        go_wp2
        go_roundw
        case rel => exact ⟨n + 1, own5, by omega, by omega, by go_num, S5, ho5, hE5⟩
        case measure => simp [intOf]; omega
      · have hn9 : ¬ (n : Int) < 90 := by omega
        go_wp2
        go_ret3
        exact ⟨eb, n, own1, rfl, hn1, hn2, HS1.out, HO1.out, hEr, by omega⟩
    · have hni : ¬ (n : Int) < (ls.length : Int) := by omega
      go_wp2
      go_ret3
      exact ⟨eb, n, own1, rfl, hn1, hn2, HS1.out, HO1.out, hEr, by omega⟩
end
end Go.Proofs.YtpbblaeamddbgaaGreat
namespace Go.Proofs.YtpbblaeamddbgaaGreat
open Go.RowKit

/-- Events of raw numbers, as they came in. -/
def HVs (w : World) (ho : Option Addr) (hs : List Hv) : Prop := hs.length ≤ 140737488355328 ∧ (0 < hs.length → ∃ b o, ho = some ⟨b, o, none⟩ ∧ ∀ j (hj : j < hs.length), w.rangeAt b (o + j * 12) hs[j].cells)
theorem HVs.ext {w w' : World} {ho : Option Addr} {hs : List Hv} (h : HVs w ho hs) (e : Ext w w') : HVs w' ho hs :=
  ⟨h.1, fun hp => by
    obtain ⟨b, o, h1, h2⟩ := h.2 hp
    exact ⟨b, o, h1, fun j hj i v hv => e.cell (h2 j hj i v hv)⟩⟩
theorem fxs_osl {w : World} {T : Nat} {ao : Option Addr} {cap : Nat} {l : List Fd} (h : OSl w T 3 ao l.length cap (l.flatMap Fd.cells)) : Fxs w ao l := fun hp => by
  obtain ⟨g, rfl, _⟩ := h.at (flat_at Fd.cells 3 (fun _ => rfl) l 0 0 hp (by omega))
  refine ⟨g, 0, rfl, fun j hj => ?_⟩
  have key : ∀ r, r < 3 → ∀ v, (Fd.cells l[j])[r]? = some v → w.cell? ⟨g, 0 + j * 3 + r, none⟩ = some v := by
    intro r hr v hv
    rw [← flat_at Fd.cells 3 (fun _ => rfl) l j r hj hr] at hv
    obtain ⟨g', e, hc⟩ := h.at hv
    cases e
    rw [Nat.zero_add]; exact hc
  exact ⟨key 0 (by omega) _ rfl, key 1 (by omega) _ rfl, key 2 (by omega) _ rfl⟩
theorem fields_may (h : Hv) (L : List Nat) (hn : L.Nodup) (h4 : ∀ a ∈ L, a < 4) : FirstBad sch4 (L.map (fieldOf h)) (L.map (fieldOf h)).length := by
  refine ⟨Nat.le_refl _, fun j hj _ => ?_, fun h => absurd h (Nat.lt_irrefl _)⟩
  have hj' : j < L.length := by simpa using hj
  have ha := h4 L[j] (List.getElem_mem hj')
  rw [List.getElem_map]
  have hs : sch4.getD L[j] 0 = if L[j] % 2 = 0 then 1 else 2 := by
    rcases (show L[j] = 0 ∨ L[j] = 1 ∨ L[j] = 2 ∨ L[j] = 3 by omega) with h | h | h | h <;> rw [h] <;> rfl
  have hf : fitsB (sch4.getD L[j] 0) (valOf L[j] (h.n L[j]) (h.s L[j])) = true := val_fits _ _ _ _ hs
  have hfo : (fo ((L.map (fieldOf h)).take j) (L[j] : Int)).isNone = true := by
    have hno : ((L.map (fieldOf h)).take j).find? (fun f => f.attr == (L[j] : Int)) = none := List.find?_eq_none.2 (fun x hx e => by
      rw [← List.map_take] at hx
      obtain ⟨a, haL, rfl⟩ := List.mem_map.1 hx
      obtain ⟨i, hi, rfl⟩ := List.getElem_of_mem haL
      rw [List.getElem_take] at e
      simp only [fieldOf, beq_iff_eq] at e
      have hi' : i < j := by simp at hi; omega
      exact (List.pairwise_iff_getElem.1 hn) i j (by omega) hj' hi' (by omega))
    unfold fo
    rw [hno]; rfl
  have hin : inR (L[j] : Int) sch4.length = true := by
    unfold inR
    refine decide_eq_true ⟨by omega, ?_⟩
    show (L[j] : Int) < ((4 : Nat) : Int)
    omega
  simp only [fieldOK, fieldOf, Int.toNat_natCast, hin, hf, hfo, Bool.and_self]
theorem event_may (h : Hv) : FirstBad sch4 (eventOf h) (eventOf h).length := by
  unfold eventOf eventUp
  exact fields_may h _ (List.Pairwise.filter _ List.nodup_range) (fun a ha => List.mem_range.1 (List.mem_filter.1 ha).1)
section
variable {E : World → Nat → (Nat → Prop) → List Int → List (Int × List Cd) → Int → Prop}
/-- What is told of an event of raw numbers. -/
def TelPost (E : World → Nat → (Nat → Prop) → List Int → List (Int × List Cd) → Int → Prop) (w0 w : World) (own : Nat → Nat) (es : List KE) (i : Nat) (x : KE) (h : Hv) (e : Ending) (w' : World) : Prop :=
  ∃ (ro : Option Addr) (rcap : Nat) (own' : Nat → Nat), e = .returned (.tuple #[.slice ro (metIds x.flt (fo (eventOf h))).length rcap, .int .i64 0, .int .i64 0]) ∧ OSl w' 3 1 ro (metIds x.flt (fo (eventOf h))).length rcap ((metIds x.flt (fo (eventOf h))).map (Value.int .i64)) ∧ KS E w0 w' own' (es.set i ⟨x.eb, x.sch, x.flt, nxt x.n⟩) ∧ (∀ g, blkOf ro = some g → w.heap.size ≤ g ∧ own' g = 0) ∧ Kp (fun b => own b = i + 1) w w' ∧ ∀ b, b < w.heap.size → own' b = own b
theorem KS.tel (C : EngC E) {w0 w : World} {own : Nat → Nat} {es : List KE} (S : KS E w0 w own es) {i : Nat} {x : KE} (hi : es[i]? = some x) (hs : x.sch = sch4) (h : Hv) (fn : Nat) (hfn : fn = 16 ∨ fn = 17 ∨ fn = 18) (ro : Option Addr) (rcap : Nat) (hc : Fxs w ro (eventOf h)) :
    Calls Tryz.prog fn #[.pointer (some ⟨x.eb, 0, none⟩), .slice ro (eventOf h).length rcap] w fun e w' => TelPost E w0 w own es i x h e w' := by
  have hl : (eventOf h).length ≤ 4 := up_len h 4
  refine (KS.mat C S hi fn hfn ro rcap (eventOf h) (by omega) hc (by rw [hs]; exact event_may h)).mono ?_
  rintro e w' ⟨ro', rcap', rfl, hO, hr, own', S', hK, ho, hR⟩
  exact ⟨ro', rcap', own', rfl, hO, S', fun g hg => ⟨hr g hg, hR g hg⟩, hK, ho⟩
end
end Go.Proofs.YtpbblaeamddbgaaGreat
