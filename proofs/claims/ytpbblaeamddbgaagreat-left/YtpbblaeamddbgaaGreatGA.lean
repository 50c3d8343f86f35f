import Derived.Test.YtpbblaeamddbgaaGreatRows
import Derived.WalkKit
import Derived.WalkSpells
import Derived.WalkLawsBesides
import Derived.Laws.CopyOwn
import Derived.Test.YtpbblaeamddbgaaGreatG0
namespace Go.Proofs.YtpbblaeamddbgaaGreat
open Go.RowKit

theorem ret_bool {a b : Bool} (h : a = b) : Ending.returned (.bool a) = .returned (.bool b) := by rw [h]
theorem ret_int {k : IntKind} {a b : Int} (h : a = b) : Ending.returned (.int k a) = .returned (.int k b) := by rw [h]

set_option maxHeartbeats 400000 in
theorem num_any (n : Int) (w : World) :
    Calls Tryz.prog 65 #[.int .i64 n] w fun e w' => e = .returned (.int .i64 n) ∧ w' = w := by
  go_enter Tryz.func65, Tryz.ntmps65
  go_wp2
  go_ret
  exact ⟨rfl, rfl⟩

set_option maxHeartbeats 400000 in
theorem fits_any (k n : Int) (s : ByteArray) (w : World) :
    Calls Tryz.prog 125 #[.int .i64 k, .agg #[.int .i64 n, .string s]] w fun e w' => e = .returned (.bool (fitsB k ⟨n, s⟩)) ∧ Ext w w' := by
  by_cases hk : k = 1
  · subst hk
    go_enter Tryz.func125, Tryz.ntmps125
    go_wp2
    go_ret
    exact ⟨ret_bool (by simp [fitsB]), (Ext.refl _).alloc _⟩
  · have hk' : (k == 1) = false := by simpa using hk
    go_enter Tryz.func125, Tryz.ntmps125
    go_wp2
    · go_ret
      exact ⟨ret_bool (by simp [fitsB, *]), (Ext.refl _).alloc _⟩
    · go_ret
      exact ⟨ret_bool (by simp [fitsB, *]), (Ext.refl _).alloc _⟩

set_option maxHeartbeats 400000 in
theorem rfits_any (k n : Int) (s : ByteArray) (w : World) :
    Calls Tryz.prog 166 #[.int .i64 k, .agg #[.int .i64 n, .string s]] w fun e w' => e = .returned (.bool (fitsB k ⟨n, s⟩)) ∧ Ext w w' := by
  by_cases hk : k = 1
  · subst hk
    go_enter Tryz.func166, Tryz.ntmps166
    go_wp2
    go_ret
    exact ⟨ret_bool (by simp [fitsB]), (Ext.refl _).alloc _⟩
  · have hk' : (k == 1) = false := by simpa using hk
    go_enter Tryz.func166, Tryz.ntmps166
    go_wp2
    · go_ret
      exact ⟨ret_bool (by simp [fitsB, *]), (Ext.refl _).alloc _⟩
    · go_ret
      exact ⟨ret_bool (by simp [fitsB, *]), (Ext.refl _).alloc _⟩

set_option maxHeartbeats 400000 in
theorem none_any (n : Int) (s : ByteArray) (w : World) :
    Calls Tryz.prog 167 #[.agg #[.int .i64 n, .string s]] w fun e w' => e = .returned (.bool (noneB ⟨n, s⟩)) ∧ Ext w w' := by
  go_enter Tryz.func167, Tryz.ntmps167
  go_wp2
  · go_ret
    exact ⟨ret_bool (by simp [noneB, *]), (Ext.refl _).alloc _⟩
  · go_ret
    exact ⟨ret_bool (by simp [noneB, *]), (Ext.refl _).alloc _⟩

set_option maxHeartbeats 400000 in
theorem hasAttr_any (ao : Option Addr) (n cap : Nat) (a : Int) (w : World) (_hn : n ≤ 100) :
    Calls Tryz.prog 87 #[.slice ao n cap, .int .i64 a] w fun e w' => e = .returned (.bool (inR a n)) ∧ w' = w := by
  go_enter Tryz.func87, Tryz.ntmps87
  go_wp2
  · go_ret
    exact ⟨ret_bool (by simp only [inR, decide_eq_decide]; omega), rfl⟩
  · go_ret
    exact ⟨ret_bool (by symm; simp only [inR, decide_eq_false_iff_not]; omega), rfl⟩

theorem hasAttr_yes (ao : Option Addr) (n cap : Nat) (a : Int) (w : World) (hn : n ≤ 100) (h0 : 0 ≤ a) (h1 : a < n) :
    Calls Tryz.prog 87 #[.slice ao n cap, .int .i64 a] w fun e w' => e = .returned (.bool true) ∧ w' = w :=
  (hasAttr_any ao n cap a w hn).mono fun e w' ⟨he, hw⟩ => ⟨he.trans (ret_bool (by simp [inR, h0, h1])), hw⟩
theorem hasAttr_no (ao : Option Addr) (n cap : Nat) (a : Int) (w : World) (hn : n ≤ 100) (h : ¬ (0 ≤ a ∧ a < n)) :
    Calls Tryz.prog 87 #[.slice ao n cap, .int .i64 a] w fun e w' => e = .returned (.bool false) ∧ w' = w :=
  (hasAttr_any ao n cap a w hn).mono fun e w' ⟨he, hw⟩ => ⟨he.trans (ret_bool (by simp only [inR, decide_eq_false_iff_not]; exact h)), hw⟩

theorem kind_any (k : Int) (w : World) :
    Calls Tryz.prog 134 #[.int .i64 k] w fun e w' => e = .returned (.bool (decide (1 ≤ k ∧ k ≤ 9))) ∧ w' = w := by
  by_cases h : 1 ≤ k ∧ k ≤ 9
  · obtain ⟨h1, h9⟩ := h
    go_enter Tryz.func134, Tryz.ntmps134
    go_wp2
    all_goals first
      | omega
      | (go_ret
         exact ⟨ret_bool (by simp [h1, h9]), rfl⟩)
  · have hd : decide (1 ≤ k ∧ k ≤ 9) = false := decide_eq_false_iff_not.2 h
    rw [hd]
    go_enter Tryz.func134, Tryz.ntmps134
    go_wp2
    all_goals first
      | omega
      | (go_ret
         exact ⟨ret_bool (by first | rfl | (simp only [decide_eq_false_iff_not]; omega) | (symm; simp; omega) | (simp; omega)), rfl⟩)
theorem kind_yes (k : Int) (w : World) (h0 : 1 ≤ k) (h1 : k ≤ 9) :
    Calls Tryz.prog 134 #[.int .i64 k] w fun e w' => e = .returned (.bool true) ∧ w' = w :=
  (kind_any k w).mono fun e w' ⟨he, hw⟩ => ⟨he.trans (ret_bool (by simp [h0, h1])), hw⟩
theorem kind_no (k : Int) (w : World) (h : ¬ (1 ≤ k ∧ k ≤ 9)) :
    Calls Tryz.prog 134 #[.int .i64 k] w fun e w' => e = .returned (.bool false) ∧ w' = w :=
  (kind_any k w).mono fun e w' ⟨he, hw⟩ => ⟨he.trans (ret_bool (by simp only [decide_eq_false_iff_not]; exact h)), hw⟩

set_option maxHeartbeats 400000 in
theorem first_any (k : Int) (c : Cd) (w : World) :
    Calls Tryz.prog 135 #[.int .i64 k, .agg #[.int .i64 c.attr, .int .i64 c.kind, .int .i64 c.a.n, .string c.a.s, .int .i64 c.b.n, .string c.b.s]] w fun e w' => e = .returned (.bool (firstB k c)) ∧ Ext w w' := by
  by_cases hk : c.kind = 9
  · have hk' : (c.kind == 9) = true := by simpa using hk
    go_enter Tryz.func135, Tryz.ntmps135
    go_wp2_with fail
    all_goals
      go_ret
      exact ⟨ret_bool (by simp [firstB, noneB, *]), (Ext.refl _).alloc _⟩
  · have hk' : (c.kind == 9) = false := by simpa using hk
    go_enter Tryz.func135, Tryz.ntmps135
    go_wp2_with fail
    refine (fits_any _ _ _ _).mono ?_
    rintro e w1 ⟨rfl, hb⟩
    go_wp2_with fail
    go_ret
    exact ⟨ret_bool (by simp [firstB, *]), ((Ext.refl _).alloc _).trans hb⟩

set_option maxHeartbeats 400000 in
theorem second_any (k : Int) (c : Cd) (w : World) :
    Calls Tryz.prog 136 #[.int .i64 k, .agg #[.int .i64 c.attr, .int .i64 c.kind, .int .i64 c.a.n, .string c.a.s, .int .i64 c.b.n, .string c.b.s]] w fun e w' => e = .returned (.bool (secondB k c)) ∧ Ext w w' := by
  by_cases hk : c.kind = 7
  · have hk' : (c.kind == 7) = true := by simpa using hk
    go_enter Tryz.func136, Tryz.ntmps136
    go_wp2_with fail
    refine (fits_any _ _ _ _).mono ?_
    rintro e w1 ⟨rfl, hb⟩
    go_wp2_with fail
    go_ret
    exact ⟨ret_bool (by simp [secondB, *]), ((Ext.refl _).alloc _).trans hb⟩
  · have hk' : (c.kind == 7) = false := by simpa using hk
    go_enter Tryz.func136, Tryz.ntmps136
    go_wp2_with fail
    all_goals
      go_ret
      exact ⟨ret_bool (by simp [secondB, noneB, *]), (Ext.refl _).alloc _⟩

theorem first_is (k : Int) (c : Cd) (w : World) (r : Bool) (hr : firstB k c = r) :
    Calls Tryz.prog 135 #[.int .i64 k, .agg #[.int .i64 c.attr, .int .i64 c.kind, .int .i64 c.a.n, .string c.a.s, .int .i64 c.b.n, .string c.b.s]] w fun e w' => e = .returned (.bool r) ∧ Ext w w' := by
  subst hr; exact first_any k c w

/-- The numbers of a list lie there. -/
def Ints (w : World) (b o : Nat) (xs : List Int) : Prop := ∀ j, j < xs.length → w.cell? ⟨b, o + j, none⟩ = some (.int .i64 (xs.getD j 0))
theorem Ints.ext {w w' : World} {b o : Nat} {xs : List Int} (h : Ints w b o xs) (e : Ext w w') : Ints w' b o xs := fun j hj => e.cell (h j hj)

set_option maxHeartbeats 400000 in
theorem condMayBe_any (b o cap : Nat) (sch : List Int) (c : Cd) (w : World) (hn : sch.length ≤ 6) (hs : Ints w b o sch) :
    Calls Tryz.prog 91 #[.slice (some ⟨b, o, none⟩) sch.length cap, .agg #[.int .i64 c.attr, .int .i64 c.kind, .int .i64 c.a.n, .string c.a.s, .int .i64 c.b.n, .string c.b.s]] w fun e w' => e = .returned (.bool (mayB sch c)) ∧ Ext w w' := by
  by_cases ha : 0 ≤ c.attr ∧ c.attr < sch.length
  · obtain ⟨ha0, ha1⟩ := ha
    obtain ⟨k, hk⟩ := Int.eq_ofNat_of_zero_le ha0
    obtain ⟨attr, kind, ca, cb⟩ := c
    simp only at hk ha0 ha1
    subst hk
    have hc := hs k (by omega)
    have hca : ∀ ob, (w.alloc ob).cell? ⟨b, o + k, none⟩ = some (.int .i64 (sch.getD k 0)) := fun ob => ((Ext.refl w).alloc ob).cell hc
    generalize hT : sch.getD k 0 = T at hca
    have HT : Hid (sch.getD k 0 = T) := hT
    clear hT hc hs
    have hsl : k < sch.length := by omega
    by_cases hkd : 1 ≤ kind ∧ kind ≤ 9
    · obtain ⟨hk1, hk9⟩ := hkd
      by_cases hbt : kind = 8 ∧ ¬ T = 2
      · obtain ⟨rfl, hT2⟩ := hbt
        have hT2' : (T != 2) = true := by simpa using hT2
        go_enter Tryz.func91, Tryz.ntmps91
        go_wp2_with fail
        refine (hasAttr_yes _ _ _ _ _ (by omega) (by omega) (by omega)).mono ?_
        rintro e w1 ⟨rfl, rfl⟩
        go_wp2_with fail
        refine (kind_yes _ _ (by omega) (by omega)).mono ?_
        rintro e w1 ⟨rfl, rfl⟩
        go_wp2_with fail
        go_ret
        exact ⟨ret_bool (by symm; simp [mayB, mayK]; intro _ h; exact absurd (HT.out.symm.trans (by simpa using h)) hT2), (Ext.refl _).alloc _⟩
      · have hk8 : ((kind == 8) && !(T == 2)) = false := by
          rcases Classical.em (kind = 8) with h | h
          · have : T = 2 := Classical.byContradiction fun h' => hbt ⟨h, h'⟩
            simp [h, this]
          · simp [h]
        have hmay : Hid (mayB sch ⟨k, kind, ca, cb⟩ = (firstB T ⟨k, kind, ca, cb⟩ && secondB T ⟨k, kind, ca, cb⟩)) := by
          have h1 : ((k : Int) < sch.length) := ha1
          show mayB sch ⟨k, kind, ca, cb⟩ = _
          simp only [mayB, mayK, Int.toNat_natCast, HT.out, hk8]
          simp [h1, hk1, hk9]
        clear hk8
        by_cases h8 : kind = 8
        · subst h8
          have hT2 : (T != 2) = false := by
            have : T = 2 := Classical.byContradiction fun h' => hbt ⟨rfl, h'⟩
            simp [this]
          clear hbt
          go_enter Tryz.func91, Tryz.ntmps91
          go_wp2_with fail
          refine (hasAttr_yes _ _ _ _ _ (by omega) (by omega) (by omega)).mono ?_
          rintro e w1 ⟨rfl, rfl⟩
          go_wp2_with fail
          refine (kind_yes _ _ (by omega) (by omega)).mono ?_
          rintro e w1 ⟨rfl, rfl⟩
          go_wp2_with fail
          cases hr : firstB T ⟨k, 8, ca, cb⟩
          · refine (first_is T ⟨k, 8, ca, cb⟩ _ _ hr).mono ?_
            rintro e w1 ⟨rfl, hb⟩
            go_wp2_with fail
            go_ret
            exact ⟨ret_bool (by rw [hmay.out, hr]; rfl), ((Ext.refl _).alloc _).trans hb⟩
          · refine (first_is T ⟨k, 8, ca, cb⟩ _ _ hr).mono ?_
            rintro e w1 ⟨rfl, hb⟩
            have hcell : ∀ j, w1.cell? ⟨w.heap.size, j, none⟩ = (w.alloc (.cells #[Value.int IntKind.i64 k, Value.int IntKind.i64 8, Value.int IntKind.i64 ca.n, Value.string ca.s, Value.int IntKind.i64 cb.n, Value.string cb.s] 80)).cell? ⟨w.heap.size, j, none⟩ := fun j => Below.cell hb (by simp)
            go_wp2_with fail
            refine (second_any T ⟨k, 8, ca, cb⟩ _).mono ?_
            rintro e w2 ⟨rfl, hb2⟩
            go_wp2_with fail
            go_ret
            exact ⟨ret_bool (by rw [hmay.out, hr]; rfl), (((Ext.refl _).alloc _).trans hb).trans hb2⟩
        · clear hbt
          go_enter Tryz.func91, Tryz.ntmps91
          go_wp2_with fail
          refine (hasAttr_yes _ _ _ _ _ (by omega) (by omega) (by omega)).mono ?_
          rintro e w1 ⟨rfl, rfl⟩
          go_wp2_with fail
          refine (kind_yes _ _ (by omega) (by omega)).mono ?_
          rintro e w1 ⟨rfl, rfl⟩
          go_wp2_with fail
          cases hr : firstB T ⟨k, kind, ca, cb⟩
          · refine (first_is T ⟨k, kind, ca, cb⟩ _ _ hr).mono ?_
            rintro e w1 ⟨rfl, hb⟩
            go_wp2_with fail
            go_ret
            exact ⟨ret_bool (by rw [hmay.out, hr]; rfl), ((Ext.refl _).alloc _).trans hb⟩
          · refine (first_is T ⟨k, kind, ca, cb⟩ _ _ hr).mono ?_
            rintro e w1 ⟨rfl, hb⟩
            have hcell : ∀ j, w1.cell? ⟨w.heap.size, j, none⟩ = (w.alloc (.cells #[Value.int IntKind.i64 k, Value.int IntKind.i64 kind, Value.int IntKind.i64 ca.n, Value.string ca.s, Value.int IntKind.i64 cb.n, Value.string cb.s] 80)).cell? ⟨w.heap.size, j, none⟩ := fun j => Below.cell hb (by simp)
            go_wp2_with fail
            refine (second_any T ⟨k, kind, ca, cb⟩ _).mono ?_
            rintro e w2 ⟨rfl, hb2⟩
            go_wp2_with fail
            go_ret
            exact ⟨ret_bool (by rw [hmay.out, hr]; rfl), (((Ext.refl _).alloc _).trans hb).trans hb2⟩
    · go_enter Tryz.func91, Tryz.ntmps91
      go_wp2_with fail
      refine (hasAttr_yes _ _ _ _ _ (by omega) (by omega) (by omega)).mono ?_
      rintro e w1 ⟨rfl, rfl⟩
      go_wp2_with fail
      refine (kind_no _ _ (by omega)).mono ?_
      rintro e w1 ⟨rfl, rfl⟩
      go_wp2_with fail
      all_goals first
        | omega
        | (go_ret
           exact ⟨ret_bool (by symm; simp only [mayB, Bool.and_eq_false_iff, decide_eq_false_iff_not]; omega), (Ext.refl _).alloc _⟩)
  · go_enter Tryz.func91, Tryz.ntmps91
    go_wp2_with fail
    refine (hasAttr_no _ _ _ _ _ (by omega) ha).mono ?_
    rintro e w1 ⟨rfl, rfl⟩
    go_wp2_with fail
    go_ret
    exact ⟨ret_bool (by
      symm; simp only [mayB, Bool.and_eq_false_iff, decide_eq_false_iff_not]; omega), ((Ext.refl _).alloc _)⟩

theorem condMayBe_is (b o cap : Nat) (sch : List Int) (c : Cd) (w : World) (hn : sch.length ≤ 6) (hs : Ints w b o sch) (r : Bool) (hr : mayB sch c = r) :
    Calls Tryz.prog 91 #[.slice (some ⟨b, o, none⟩) sch.length cap, .agg #[.int .i64 c.attr, .int .i64 c.kind, .int .i64 c.a.n, .string c.a.s, .int .i64 c.b.n, .string c.b.s]] w fun e w' => e = .returned (.bool r) ∧ Ext w w' := by
  subst hr; exact condMayBe_any b o cap sch c w hn hs

end Go.Proofs.YtpbblaeamddbgaaGreat
namespace Go.Proofs.YtpbblaeamddbgaaGreat
open Go.RowKit

/-- A copy of elements of several cells each into a row of one's own, from its head on: the run. -/
theorem run_copy_wide {P : Program} (w : World) (dT sT ty elem : TypeId) (size g dLen dCap : Nat) (a : Addr) (sLen sCap : Nat) (cur : Array Value) (t : TypeId) (cs : List Value)
    (hu : P.underlying dT = some (.slice elem)) (hs : (P.info? elem).map (·.size) = some size)
    (hg : w.heap[g]? = some (.cells cur t (0, 0))) (hle : sLen ≤ dLen) (hn : cs.length = sLen * size)
    (hsrc : ∀ j v, cs[j]? = some v → w.cell? (a.add j) = some v) (hfit : cs.length ≤ cur.size) (h1 : ∀ v ∈ cs, v.oneCell' = true) :
    (Builtin.copy_ #[dT, sT] ty #[.slice (some ⟨g, 0, none⟩) dLen dCap, .slice (some a) sLen sCap]).run P w =
      .ok (goInt sLen) (w.setRow g (cs ++ cur.toList.drop cs.length).toArray) := by
  have hl := run_loadCells_list (P := P) w a cs hsrc
  have hst := run_storeCells_at P g 0 t cs 0 cur w hg (by simpa using hfit) h1
  have hmin : Nat.min sLen dLen = sLen := Nat.min_eq_left hle
  cases hq : P.info? elem with
  | none => simp [hq] at hs
  | some i =>
    have hi : i.size = size := by simpa [hq] using hs
    simp [Builtin.copy_, run_underlying hu, Builtin.lenOf, Builtin.firstCells, sizeOf, typeInfo, hq, hi, hmin, ← hn, hl, hst]

theorem run_copy_zero {P : Program} (w : World) (dT sT ty elem : TypeId) (size : Nat) (d a : Option Addr) (dLen dCap sCap : Nat)
    (hu : P.underlying dT = some (.slice elem)) (hs : (P.info? elem).map (·.size) = some size) :
    (Builtin.copy_ #[dT, sT] ty #[.slice d dLen dCap, .slice a 0 sCap]).run P w = .ok (goInt 0) w := by
  have hmin : Nat.min 0 dLen = 0 := Nat.min_eq_left (Nat.zero_le _)
  cases hq : P.info? elem with
  | none => simp [hq] at hs
  | some i =>
    cases a with
    | none => cases d <;> simp [Builtin.copy_, run_underlying hu, Builtin.lenOf, Builtin.firstCells, sizeOf, typeInfo, hq, hmin, storeCells]
    | some a =>
      have hl := run_loadCells_list (P := P) w a [] (by simp)
      simp at hl
      cases d <;> simp [Builtin.copy_, run_underlying hu, Builtin.lenOf, Builtin.firstCells, sizeOf, typeInfo, hq, hmin, storeCells, hl]

/-- The law for the walk: 'copy(out, l)', out a row of one's own, at least as long as l. -/
theorem wpList_copy_wide {P : Program} {w : World} {ops : Array Oper} {rest : List Oper} {o : Oper} {a : Act} {Q : Exit → Act → World → Prop} (hgd : o.guard = none) (d s : Operand) (dT sT : TypeId)
    (ho : o.op = .call { callee := .builtin .copy, args := #[d, s], argTypes := #[dT, sT] }) (elem : TypeId) (size : Nat) (hu : P.underlying dT = some (.slice elem)) (hsz : (P.info? elem).map (·.size) = some size)
    (g dLen dCap sLen sCap : Nat) (sp : Option Addr) (hd : a.eval d = .slice (some ⟨g, 0, none⟩) dLen dCap) (hs : a.eval s = .slice sp sLen sCap)
    (cur : List Value) (t : TypeId) (hg : w.heap[g]? = some (.cells cur.toArray t (0, 0))) (cs : List Value) (hle : sLen ≤ dLen) (hn : cs.length = sLen * size)
    (hpos : 0 < sLen → ∃ ad, sp = some ad ∧ ∀ j v, cs[j]? = some v → w.cell? (ad.add j) = some v)
    (hfit : cs.length ≤ cur.length) (h1 : ∀ v ∈ cs, v.oneCell' = true)
    (h : ∀ w', Hid (w'.heap[g]? = some (.cells (cs ++ cur.drop cs.length).toArray t (0, 0))) → Hid (w.grownBy w' (some g)) → wpList P ops Q rest (a.put o.dst (goInt sLen)) w') :
    wpList P ops Q (o :: rest) a w := by
  refine wpList_plain hgd fun K hK => ?_
  by_cases h0 : sLen = 0
  · subst h0
    obtain rfl : cs = [] := List.eq_nil_of_length_eq_zero (by simpa using hn)
    have hrun := run_copy_zero (P := P) w dT sT o.type elem size (some ⟨g, 0, none⟩) sp dLen dCap sCap hu hsz
    unfold Oper.wp
    simp [execOp, ho, resolve, invoke, builtin, hd, hs, hrun, Result.andThen]
    exact hK _ _ (h w (show _ = _ by simpa using hg) ⟨rfl, rfl, rfl, Nat.le_refl _, fun _ _ _ => rfl⟩)
  · obtain ⟨ad, rfl, hsrc⟩ := hpos (by omega)
    have hrun := run_copy_wide (P := P) w dT sT o.type elem size g dLen dCap ad sLen sCap cur.toArray t cs hu hsz hg hle hn hsrc (by simpa using hfit) h1
    unfold Oper.wp
    simp [execOp, ho, resolve, invoke, builtin, hd, hs, hrun, Result.andThen]
    refine hK _ _ (h _ (show _ = _ by simpa using setRow_heap w g _ _ t _ hg) ⟨rfl, rfl, rfl, by simp [World.setRow], fun k hk hne => setRow_other w g k _ (by intro e; exact hne (by rw [e]))⟩)
end Go.Proofs.YtpbblaeamddbgaaGreat
namespace Go.Proofs.YtpbblaeamddbgaaGreat
open Go.RowKit

/-- A block of one's own, known whole. -/
def Row (w : World) (g : Nat) (T : TypeId) (l : List Value) : Prop := w.heap[g]? = some (.cells l.toArray T (0, 0))
theorem Row.lt {w : World} {g : Nat} {T : TypeId} {l : List Value} (h : Row w g T l) : g < w.heap.size := (Array.getElem?_eq_some_iff.1 h).1
theorem Row.cell {w : World} {g : Nat} {T : TypeId} {l : List Value} (h : Row w g T l) {j : Nat} (hj : j < l.length) : w.cell? ⟨g, j, none⟩ = some l[j] := by
  unfold Row at h
  simp [World.cell?, h, hj]
theorem Row.frozen {w : World} {g : Nat} {T : TypeId} {l : List Value} (h : Row w g T l) (j : Nat) : w.frozen? ⟨g, j, none⟩ = false := by
  unfold Row at h
  simp [World.frozen?, h]
theorem Row.set {w : World} {g : Nat} {T : TypeId} {l : List Value} (h : Row w g T l) (j : Nat) (v : Value) : Row (w.setCell ⟨g, j, none⟩ v) g T (l.set j v) := by
  unfold Row at h ⊢
  rw [setCell_eq_setRow w g j l.toArray T (0, 0) v h, setRow_heap w g _ _ T _ h]
  simp
theorem Row.ext {w w' : World} {g : Nat} {T : TypeId} {l : List Value} (h : Row w g T l) (e : Ext w w') : Row w' g T l := e.blk h
theorem Row.own {w : World} {base e size g n : Nat} {xs : List Value} (h : w.ownsRow base e size (.slice (some ⟨g, 0, none⟩) n n) n xs) : Row w g e xs := by
  obtain ⟨h1, h2 | ⟨g', cap, cur, hv, hb, hh, hc, hm, hs, ht⟩⟩ := h
  · simp at h2
  · simp only [Value.slice.injEq, Option.some.injEq, Addr.mk.injEq, and_true, true_and] at hv
    obtain ⟨rfl, rfl⟩ := hv
    unfold Row
    rw [hh]
    have : cur.toList.take (n * size) = cur.toList := List.take_of_length_le (by simp [hs])
    rw [this] at ht
    rw [← ht]

theorem Row.setOther {w : World} {g : Nat} {T : TypeId} {l : List Value} (h : Row w g T l) {p : Addr} (hp : p.block ≠ g) (v : Value) : Row (w.setCell p v) g T l := by
  unfold Row at h ⊢
  rw [Below.heap_setCell _ _ _ _ (fun e => hp e.symm)]; exact h

/-- All blocks but those of M are as they were. -/
structure Kp (M : Nat → Prop) (w w' : World) : Prop where
  os : w'.os = w.os
  tape : w'.tape = w.tape
  output : w'.output = w.output
  size : w.heap.size ≤ w'.heap.size
  block : ∀ k, k < w.heap.size → ¬ M k → w'.heap[k]? = w.heap[k]?
theorem Kp.refl (M : Nat → Prop) (w : World) : Kp M w w := ⟨rfl, rfl, rfl, Nat.le_refl _, fun _ _ _ => rfl⟩
theorem Kp.trans {M : Nat → Prop} {a b c : World} (h : Kp M a b) (k : Kp M b c) : Kp M a c :=
  ⟨k.os.trans h.os, k.tape.trans h.tape, k.output.trans h.output, Nat.le_trans h.size k.size, fun i hi hm => (k.block i (Nat.lt_of_lt_of_le hi h.size) hm).trans (h.block i hi hm)⟩
theorem Kp.mono {M N : Nat → Prop} {a b : World} (h : Kp M a b) (hm : ∀ k, k < a.heap.size → M k → N k) : Kp N a b :=
  ⟨h.os, h.tape, h.output, h.size, fun i hi hn => h.block i hi (fun hM => hn (hm i hi hM))⟩
theorem Ext.kp {a b : World} (h : Ext a b) (M : Nat → Prop) : Kp M a b := ⟨h.os, h.tape, h.output, h.size, fun i hi _ => h.block i hi⟩
theorem Kp.ext {a b : World} {M : Nat → Prop} (h : Kp M a b) (hm : ∀ k, k < a.heap.size → ¬ M k) : Ext a b := ⟨h.os, h.tape, h.output, h.size, fun i hi => h.block i hi (hm i hi)⟩
theorem Kp.setCell {M : Nat → Prop} {a b : World} (h : Kp M a b) {p : Addr} (hp : p.block < a.heap.size → M p.block) (u : Value) : Kp M a (b.setCell p u) :=
  ⟨h.os, h.tape, h.output, by have := h.size; simpa [World.setCell] using this, fun i hi hm => (Below.heap_setCell _ _ _ _ (by intro e; exact hm (e ▸ hp (e ▸ hi)))).trans (h.block i hi hm)⟩
theorem Kp.row {M : Nat → Prop} {w w' : World} {g : Nat} {T : TypeId} {l : List Value} (h : Kp M w w') (r : Row w g T l) (hg : ¬ M g) : Row w' g T l := by
  unfold Row at r ⊢
  rw [h.block g (Array.getElem?_eq_some_iff.1 r).1 hg]; exact r
theorem Kp.cell {M : Nat → Prop} {w w' : World} (h : Kp M w w') {p : Addr} {v : Value} (hc : w.cell? p = some v) (hg : ¬ M p.block) : w'.cell? p = some v := by
  rw [World.cell?_of_block (w := w) (h.block p.block (World.block_lt_of_cell? w p hc) hg)]; exact hc
theorem Ext.setCell {a b : World} (h : Ext a b) {p : Addr} (hp : a.heap.size ≤ p.block) (u : Value) : Ext a (b.setCell p u) := Below.setCell h hp u
theorem Ext.grown {a b c : World} {r : Option Nat} (h : Ext a b) (hg : b.grownBy c r) (hr : ∀ k, r = some k → a.heap.size ≤ k) : Ext a c := Below.grown h hg h.size hr

theorem set_take_succ (l t : List Value) (k : Nat) (v : Value) (hl : k < l.length) (ht : k < t.length) (h : l.take k = t.take k) (hv : t[k] = v) : (l.set k v).take (k + 1) = t.take (k + 1) := by
  rw [List.take_succ_eq_append_getElem (by simpa using hl), List.take_succ_eq_append_getElem ht, hv]
  simp [List.take_set_of_le, h]
theorem add_lt (g j : Nat) : (⟨g, 0, none⟩ : Addr).add j = ⟨g, j, none⟩ := by unfold Addr.add; split <;> simp_all
theorem add_at (b o j : Nat) : (⟨b, o, none⟩ : Addr).add j = ⟨b, o + j, none⟩ := by unfold Addr.add; split <;> simp_all


/-- 'make([]T, n)': a row of one's own. -/
theorem wpList_make_row {P : Program} (w : World) {ops : Array Oper} {rest : List Oper} {o : Oper} {a : Act} {Q : Exit → Act → World → Prop}
    (hg : o.guard = none) (l c : Operand) (t : TypeId) (hop : o.op = Op.makeSlice t l c)
    (e : TypeId) (z : Value) (size bytes : Nat) (h1 : P.underlying t = some (.slice e)) (h2 : (P.info? e).map (fun i => (i.zero, i.size, i.bytes)) = some (some z, size, bytes))
    (kl kc : IntKind) (L C : Int) (n : Nat) (hl : a.eval l = .int kl L) (hc : a.eval c = .int kc C) (hL : L = (n : Int)) (hC : C = (n : Int)) (b2 : bytes * n ≤ 281474976710656) (b3 : n ≤ maxLen)
    (hK : ∀ w' Z, Row w' w.heap.size e Z → Hid (Z.length = n * size) → Ext w w' → wpList P ops Q rest (a.put o.dst (.slice (some ⟨w.heap.size, 0, none⟩) n n)) w') :
    wpList P ops Q (o :: rest) a w := by
  obtain ⟨i, hi, hz0, hz1, hz2⟩ := info_parts h2
  subst hz2
  refine wpList_make_full w hg l c t hop w.heap.size e i z size h1 hi hz0 hz1 kl kc L C n hl hc hL hC b2 b3 (Nat.le_refl _) ?_
  intro w' hown hgrow
  exact hK w' _ (Row.own hown) hown.1 ((Ext.refl _).grown hgrow (by simp))

theorem wpList_copy_row {P : Program} {w : World} {ops : Array Oper} {rest : List Oper} {o : Oper} {a : Act} {Q : Exit → Act → World → Prop} (hgd : o.guard = none) (d s : Operand) (dT sT : TypeId)
    (ho : o.op = .call { callee := .builtin .copy, args := #[d, s], argTypes := #[dT, sT] }) (elem : TypeId) (size : Nat) (hu : P.underlying dT = some (.slice elem)) (hsz : (P.info? elem).map (·.size) = some size)
    (g dLen dCap sLen sCap : Nat) (sp : Option Addr) (hd : a.eval d = .slice (some ⟨g, 0, none⟩) dLen dCap) (hs : a.eval s = .slice sp sLen sCap)
    (cur : List Value) (t : TypeId) (hg : Row w g t cur) (cs : List Value) (hle : sLen ≤ dLen) (hn : cs.length = sLen * size)
    (hpos : 0 < sLen → ∃ ad, sp = some ad ∧ ∀ j v, cs[j]? = some v → w.cell? (ad.add j) = some v)
    (hfit : cs.length ≤ cur.length) (h1 : ∀ v ∈ cs, v.oneCell' = true)
    (h : ∀ w' Z, Row w' g t Z → Hid (Z = cs ++ cur.drop cs.length) → Kp (fun k => k = g) w w' → wpList P ops Q rest (a.put o.dst (goInt sLen)) w') :
    wpList P ops Q (o :: rest) a w :=
  wpList_copy_wide hgd d s dT sT ho elem size hu hsz g dLen dCap sLen sCap sp hd hs cur t hg cs hle hn hpos hfit h1
    fun w' hr hgr => h w' _ hr.out rfl ⟨hgr.out.os, hgr.out.tape, hgr.out.output, hgr.out.size, fun k hk hne => hgr.out.block k hk (by intro e; exact hne (Option.some.inj e))⟩
theorem Ext.kpFresh {a b c : World} {g : Nat} (h : Ext a b) (k : Kp (fun k => k = g) b c) (hg : a.heap.size ≤ g) : Ext a c :=
  ⟨k.os.trans h.os, k.tape.trans h.tape, k.output.trans h.output, Nat.le_trans h.size k.size, fun i hi => (k.block i (Nat.lt_of_lt_of_le hi h.size) (by omega)).trans (h.block i hi)⟩

end Go.Proofs.YtpbblaeamddbgaaGreat
