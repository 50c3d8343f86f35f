import Derived.Test.YtepioeaomlmocaaIface
import Derived.Lib.SliceRun
import Derived.Test.YtepioeaomlmocaaWhole
namespace Go.Proofs.Ytepioeaomlmocaa
open Go.RowKit

theorem cxs_kp {w w' : World} {ao : Option Addr} {l : List Cd} {M : Nat → Prop} (h : Cxs w ao l) (k : Kp M w w') (hm : ∀ g, blkOf ao = some g → 0 < l.length → ¬ M g) : Cxs w' ao l := fun hp => by
  obtain ⟨b, o, h1, h2⟩ := h hp
  exact ⟨b, o, h1, h2.kp k (hm b (by rw [h1]; rfl) hp)⟩
theorem Two.ext1 {E : World → Nat → (Nat → Prop) → List Int → List (Int × List Cd) → Prop} (C : EngC E) {w w1 : World} {eb rb : Nat} {Fe Fr : Nat → Prop} {sch : List Int} {flt : List (Int × List Cd)} (T : Two E w eb rb Fe Fr sch flt) (h : Ext w w1) : E w1 eb Fe sch flt ∧ RefAt w1 rb Fr sch flt :=
  ⟨C.kp T.e (h.kp (fun _ => False)) (fun _ _ h => h), T.r.kp (h.kp (fun _ => False)) (fun _ _ h => h)⟩
/-- What a step on an engine and its reference leaves. -/
def StepPost (E : World → Nat → (Nat → Prop) → List Int → List (Int × List Cd) → Prop) (w w' : World) (eb rb : Nat) (Fe Fr : Nat → Prop) (sch : List Int) (flt' : List (Int × List Cd)) : Prop :=
  ∃ Fe' Fr', Two E w' eb rb Fe' Fr' sch flt' ∧ Kp (fun b => Fe b ∨ Fr b) w w' ∧ (∀ b, Fe' b → Grow Fe w w' b) ∧ ∀ b, Fr' b → Grow Fr w w' b
theorem enters_end {E : World → Nat → (Nat → Prop) → List Int → List (Int × List Cd) → Prop} (C : EngC E) {w w1 w2 w3 w4 : World} {eb rb : Nat} {Fe Fr : Nat → Prop} {sch : List Int} {flt flt' : List (Int × List Cd)} (T : Two E w eb rb Fe Fr sch flt) (hE1 : Ext w w1) (hg : w.heap.size < w1.heap.size) (hk2 : Kp Fe w1 w2)
    (he2 : E w2 eb (Grow Fe w1 w2) sch flt') (hk3 : Kp Fr w2 w3) (hr3 : RefAt w3 rb (Grow Fr w2 w3) sch flt') (hk4 : Kp (fun k => k = w.heap.size) w3 w4) : StepPost E w w4 eb rb Fe Fr sch flt' := by
  have z1 := hE1.le
  have z2 := hk2.size
  have z3 := hk3.size
  have z4 := hk4.size
  have dis : ∀ b, Grow Fe w1 w2 b → ¬ Grow Fr w2 w3 b := by
    intro b h1 h2
    rcases h1 with h1 | ⟨h1, h1'⟩
    · rcases h2 with h2 | ⟨h2, _⟩
      · exact T.dis b h1 h2
      · have := T.le b h1; omega
    · rcases h2 with h2 | ⟨h2, _⟩
      · have := T.lr b h2; omega
      · omega
  have e3 : E w3 eb (Grow Fe w1 w2) sch flt' := C.kp he2 hk3 (fun b hb hF => dis b hb (Or.inl hF))
  have n1 : ∀ b, Grow Fe w1 w2 b → ¬ b = w.heap.size := by
    intro b h e
    rcases h with h | ⟨h, _⟩
    · have := T.le b h; omega
    · omega
  have n2 : ∀ b, Grow Fr w2 w3 b → ¬ b = w.heap.size := by
    intro b h e
    rcases h with h | ⟨h, _⟩
    · have := T.lr b h; omega
    · omega
  refine ⟨Grow Fe w1 w2, Grow Fr w2 w3, ⟨C.kp e3 hk4 n1, hr3.kp hk4 n2, ?_, ?_, dis⟩, ?_, ?_, ?_⟩
  · intro b h
    rcases h with h | ⟨_, h⟩
    · have := T.le b h; omega
    · omega
  · intro b h
    rcases h with h | ⟨_, h⟩
    · have := T.lr b h; omega
    · omega
  · have k1 : Kp (fun b => Fe b ∨ Fr b) w w3 := ((hE1.kp _).trans (hk2.mono (fun _ _ h => Or.inl h))).trans (hk3.mono (fun _ _ h => Or.inr h))
    exact ⟨hk4.os.trans k1.os, hk4.tape.trans k1.tape, hk4.output.trans k1.output, Nat.le_trans k1.size hk4.size, fun i hi hn => (hk4.block i (Nat.lt_of_lt_of_le hi k1.size) (by omega)).trans (k1.block i hi hn)⟩
  · intro b h
    rcases h with h | ⟨h, h'⟩
    · exact Or.inl h
    · exact Or.inr ⟨by omega, by omega⟩
  · intro b h
    rcases h with h | ⟨h, h'⟩
    · exact Or.inl h
    · exact Or.inr ⟨by omega, by omega⟩

set_option maxHeartbeats 800000 in
set_option maxRecDepth 100000 in
theorem enters_any {E : World → Nat → (Nat → Prop) → List Int → List (Int × List Cd) → Prop} (C : EngC E) (eb rb : Nat) (Fe Fr : Nat → Prop) (sch : List Int) (flt : List (Int × List Cd)) (id : Int) (ao : Option Addr) (cap : Nat) (l : List Cd) (w : World) (hs1 : 1 ≤ sch.length) (hs6 : sch.length ≤ 6) (hf : flt.length ≤ 100) (hS : SortedF flt) (hl : l.length * 64 ≤ 140737488351232)
    (hz : ∀ j (hj : j < l.length), l[j].a.s.size ≤ 9223372036854775807 ∧ l[j].b.s.size ≤ 9223372036854775807) (T : Two E w eb rb Fe Fr sch flt) (hc : Cxs w ao l) (ha : ∀ g, blkOf ao = some g → 0 < l.length → ¬ Fe g ∧ ¬ Fr g) (hcn : ao = none → l.length = 0 ∧ cap = 0) (q k : Nat) (hq : PosOf flt id q) (hk : BadOf sch l k) :
    Calls Try.prog 17 #[.pointer (some ⟨eb, 0, none⟩), .pointer (some ⟨rb, 0, none⟩), .int .i64 id, .slice ao l.length cap] w fun e w' => e = .returned (.bool true) ∧ StepPost E w w' eb rb Fe Fr sch (subFlt flt id l q k) := by
  have qT : ∀ (w : World) (a : Option Addr) (n c n' c' : Nat), (binOp .eql 39 (.slice a n c) (.slice none n' c')).run Try.prog w = .ok (.bool a.isNone) w := fun w a n c n' c' => Lib.run_eql_slice_nil w _ _ a n c n' c' Try.underlying39
  cases ao with
  | none =>
    obtain ⟨hl0, rfl⟩ := hcn rfl
    obtain rfl : l = [] := List.eq_nil_of_length_eq_zero hl0
    go_enter Try.func17, Try.ntmps17
    go_wp2_with fail
    refine (conds_any none 0 [] w hl hc).mono ?_
    rintro e w1 ⟨rfl, hr1, hE1⟩
    have t1 := T.ext1 C hE1
    go_wp2_with fail
    refine (C.sub eb Fe sch flt id none 0 [] w1 hs1 hs6 hf hS hl hz t1.1 (fun h => absurd h (by simp)) (fun g hg => by cases hg) (fun _ => ⟨rfl, rfl⟩) q k hq hk).mono ?_
    rintro e w2 ⟨rfl, hk2, he2⟩
    have hc2 : Cxs w2 none [] := cxs_kp (hc.ext hE1) hk2 (fun g hg hp => (ha g hg hp).1)
    have hr2 : RefAt w2 rb Fr sch flt := t1.2.kp hk2 (fun b hb hF => T.dis b hF hb)
    have hg2 : Row w2 w.heap.size 68 (padCd []) := hk2.row hr1 (fun hF => absurd (T.le _ hF) (by simp))
    go_wp2_with fail
    refine (rSub_any rb Fr sch flt id none 0 [] w2 hs6 hf hl hr2 hc2 (fun _ => ⟨rfl, rfl⟩) q k hq hk).mono ?_
    rintro e w3 ⟨rfl, hk3, hr3⟩
    have hc3 : Cxs w3 none [] := cxs_kp hc2 hk3 (fun g hg hp => (ha g hg hp).2)
    have hg3 : Row w3 w.heap.size 68 (padCd []) := hk3.row hg2 (fun hF => absurd (T.lr _ hF) (by simp))
    go_wp2_with fail
    refine (wholeConds_any w.heap.size none 0 [] w3 hl hg3 hc3).mono ?_
    rintro e w4 ⟨rfl, hk4⟩
    have fin := enters_end C T hE1 hr1.lt hk2 he2 hk3 hr3 hk4
    generalize subErr flt id [] q k = se at *
    generalize subPlace flt id [] q k = sp at *
    clear hg3 hc3 hg2 hc2 hr1 hr2 t1 he2 hr3
    go_wp2
    go_ret
    exact ⟨rfl, fin⟩
  | some a =>
    go_enter Try.func17, Try.ntmps17
    go_wp2_with fail
    refine (conds_any _ cap l w hl hc).mono ?_
    rintro e w1 ⟨rfl, hr1, hE1⟩
    have t1 := T.ext1 C hE1
    go_wp2_with fail
    refine (C.sub eb Fe sch flt id (some ⟨w.heap.size, 0, none⟩) (l.length + 3) l w1 hs1 hs6 hf hS hl hz t1.1 (fun _ => ⟨_, _, rfl, pad_cds hr1⟩) (fun g hg => by cases hg; exact fun hF => absurd (T.le _ hF) (by simp)) (fun h => by cases h) q k hq hk).mono ?_
    rintro e w2 ⟨rfl, hk2, he2⟩
    have hc2 : Cxs w2 _ l := cxs_kp (hc.ext hE1) hk2 (fun g hg hp => (ha g hg hp).1)
    have hr2 : RefAt w2 rb Fr sch flt := t1.2.kp hk2 (fun b hb hF => T.dis b hF hb)
    have hg2 : Row w2 w.heap.size 68 (padCd l) := hk2.row hr1 (fun hF => absurd (T.le _ hF) (by simp))
    go_wp2_with fail
    refine (rSub_any rb Fr sch flt id _ cap l w2 hs6 hf hl hr2 hc2 hcn q k hq hk).mono ?_
    rintro e w3 ⟨rfl, hk3, hr3⟩
    have hc3 : Cxs w3 _ l := cxs_kp hc2 hk3 (fun g hg hp => (ha g hg hp).2)
    have hg3 : Row w3 w.heap.size 68 (padCd l) := hk3.row hg2 (fun hF => absurd (T.lr _ hF) (by simp))
    go_wp2_with fail
    refine (wholeConds_any w.heap.size _ cap l w3 hl hg3 hc3).mono ?_
    rintro e w4 ⟨rfl, hk4⟩
    have fin := enters_end C T hE1 hr1.lt hk2 he2 hk3 hr3 hk4
    generalize subErr flt id l q k = se at *
    generalize subPlace flt id l q k = sp at *
    clear hg3 hc3 hg2 hc2 hr1 hr2 t1 he2 hr3
    go_wp2
    go_ret
    exact ⟨rfl, fin⟩
end Go.Proofs.Ytepioeaomlmocaa
