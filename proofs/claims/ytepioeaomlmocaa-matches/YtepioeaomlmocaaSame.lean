import Derived.Test.YtepioeaomlmocaaLoops
namespace Go.Proofs.Ytepioeaomlmocaa
open Go.RowKit

def eqB (xs ys : List Int) : Bool := decide (xs = ys)

theorem eq_of_take {xs ys : List Int} {k : Nat} (hlen : xs.length = ys.length) (hk : ¬ k < ys.length) (h : xs.take k = ys.take k) : eqB xs ys = true := by
  rw [List.take_of_length_le (by omega), List.take_of_length_le (by omega)] at h
  simp [eqB, h]
theorem take_succ_eq {α : Type} {xs ys : List α} (d : α) {k : Nat} (h1 : k < xs.length) (h2 : k < ys.length) (h : xs.take k = ys.take k) (he : xs.getD k d = ys.getD k d) : xs.take (k + 1) = ys.take (k + 1) := by
  rw [List.take_succ_eq_append_getElem h1, List.take_succ_eq_append_getElem h2, h]
  have e1 : xs.getD k d = xs[k] := by simp [h1]
  have e2 : ys.getD k d = ys[k] := by simp [h2]
  rw [← e1, ← e2, he]
theorem ne_of_getD {xs ys : List Int} {k : Nat} (h : ¬ xs.getD k 0 = ys.getD k 0) : eqB xs ys = false := by
  simp only [eqB, decide_eq_false_iff_not]; rintro rfl; exact h rfl

set_option maxHeartbeats 400000 in
theorem sameNumbers_any (ao bo : Option Addr) (ca cb : Nat) (xs ys : List Int) (w : World) (_hl : xs.length ≤ 9223372036854775807) (_hm : ys.length ≤ 9223372036854775807) (hs : Ixs w ao xs) (ht : Ixs w bo ys) :
    Calls Try.prog 43 #[.slice ao xs.length ca, .slice bo ys.length cb] w fun e w' => e = .returned (.bool (eqB xs ys)) ∧ Ext w w' := by
  by_cases hlen : xs.length = ys.length
  · have HL : Hid (xs.length = ys.length) := hlen
    have hneq : ((xs.length : Int) != (ys.length : Int)) = false := by simp [hlen]
    have hle : xs.length ≤ ys.length := by omega
    have hge : ys.length ≤ xs.length := by omega
    clear hlen
    go_enter Try.func43, Try.ntmps43
    go_wp2
    go_loopw [5] (fun i wr => ∃ k : Nat, k ≤ xs.length ∧ i = .int .i64 k ∧ xs.take k = ys.take k ∧ Ext w wr) (fun i _ => xs.length - (intOf i).toNat)
    case atStart => exact ⟨0, Nat.zero_le _, rfl, by simp, Ext.refl _⟩
    case round =>
      obtain ⟨k, hk, rfl, hall, hE⟩ := hrel
      have HA : Hid (xs.take k = ys.take k) := hall
      clear hall
      by_cases hlt : k < xs.length
      · obtain ⟨b, o, rfl, hI⟩ := hs (by omega)
        obtain ⟨b', o', rfl, hJ⟩ := ht (by omega)
        have hc := hE.cell (hI k hlt)
        have hd := hE.cell (hJ k (by omega))
        clear hs hI ht hJ
        generalize hx : xs.getD k 0 = x at hc
        generalize hy : ys.getD k 0 = y at hd
        have HX : Hid (xs.getD k 0 = x) := hx
        have HY : Hid (ys.getD k 0 = y) := hy
        clear hx hy
        by_cases hxy : x = y
        · subst hxy
          go_wp2
          go_quiet (fail)
          go_wp2
          go_roundw
          case rel => exact ⟨k + 1, by omega, by go_num, take_succ_eq 0 hlt (by omega) HA.out (HX.out.trans HY.out.symm), hE.trans (drewN_ext _ _)⟩
          case measure => simp [intOf]; omega
        · have hne : (x != y) = true := by simpa using hxy
          go_wp2
          go_quiet (fail)
          go_wp2
          go_ret
          exact ⟨ret_bool (ne_of_getD (by rw [HX.out, HY.out]; exact hxy)).symm, hE.trans (drewN_ext _ _)⟩
      · clear hs ht
        go_wp2
        go_ret
        exact ⟨ret_bool (eq_of_take HL.out (by omega) HA.out).symm, hE⟩
  · have hneq : ((xs.length : Int) != (ys.length : Int)) = true := by simp; omega
    have hf : Hid (false = eqB xs ys) := by
      show false = eqB xs ys
      symm; simp only [eqB, decide_eq_false_iff_not]; rintro rfl; exact hlen rfl
    clear hs ht
    go_enter Try.func43, Try.ntmps43
    go_wp2
    go_ret
    exact ⟨ret_bool hf.out, Ext.refl _⟩

/-- The conditions of a list lie there. -/
def Cds (w : World) (b o : Nat) (l : List Cd) : Prop := ∀ j (hj : j < l.length), w.cell? ⟨b, o + j * 6, none⟩ = some (.int .i64 l[j].attr) ∧ w.cell? ⟨b, o + j * 6 + 1, none⟩ = some (.int .i64 l[j].kind) ∧ w.cell? ⟨b, o + j * 6 + 2, none⟩ = some (.int .i64 l[j].a.n)
  ∧ w.cell? ⟨b, o + j * 6 + 3, none⟩ = some (.string l[j].a.s) ∧ w.cell? ⟨b, o + j * 6 + 4, none⟩ = some (.int .i64 l[j].b.n) ∧ w.cell? ⟨b, o + j * 6 + 5, none⟩ = some (.string l[j].b.s)
theorem Cds.ext {w w' : World} {b o : Nat} {l : List Cd} (h : Cds w b o l) (e : Ext w w') : Cds w' b o l := fun j hj => by
  obtain ⟨h0, h1, h2, h3, h4, h5⟩ := h j hj
  exact ⟨e.cell h0, e.cell h1, e.cell h2, e.cell h3, e.cell h4, e.cell h5⟩
def Cxs (w : World) (ao : Option Addr) (l : List Cd) : Prop := 0 < l.length → ∃ b o, ao = some ⟨b, o, none⟩ ∧ Cds w b o l
theorem Cxs.ext {w w' : World} {ao : Option Addr} {l : List Cd} (h : Cxs w ao l) (e : Ext w w') : Cxs w' ao l := fun hp => by
  obtain ⟨b, o, h1, h2⟩ := h hp
  exact ⟨b, o, h1, h2.ext e⟩

set_option maxHeartbeats 400000 in
theorem badCond_bad (sb so scap : Nat) (sch : List Int) (ao : Option Addr) (cap : Nat) (l : List Cd) (w : World) (hn : sch.length ≤ 6) (hI : Ints w sb so sch) (_hl : l.length ≤ 8) (hs : Cxs w ao l)
    (q : Nat) (hq : q < l.length) (hqa : ∀ j (hj : j < l.length), j < q → mayB sch l[j] = true) (hqb : mayB sch l[q] = false) :
    Calls Try.prog 27 #[.slice (some ⟨sb, so, none⟩) sch.length scap, .slice ao l.length cap] w fun e w' => e = .returned (.tuple #[.int .i64 q, .bool true]) ∧ Ext w w' := by
  obtain ⟨b, o, rfl, hC⟩ := hs (by omega)
  clear hs
  have HQ : Hid ((∀ j (hj : j < l.length), j < q → mayB sch l[j] = true) ∧ mayB sch l[q] = false) := ⟨hqa, hqb⟩
  clear hqa hqb
  go_enter Try.func27, Try.ntmps27
  go_wp2
  go_loopw [10] (fun i wr => ∃ k : Nat, k ≤ q ∧ i = .int .i64 k ∧ Ext w wr) (fun i _ => l.length - (intOf i).toNat)
  case atStart => exact ⟨0, Nat.zero_le _, rfl, Ext.refl _⟩
  case round =>
    obtain ⟨k, hk, rfl, hE⟩ := hrel
    have hlt : k < l.length := by omega
    obtain ⟨h0, h1, h2, h3, h4, h5⟩ := hC.ext hE k hlt
    have hS := hI.ext hE
    clear hC hI
    go_wp2_with fail
    by_cases hkq : k = q
    · subst hkq
      refine (condMayBe_is sb so scap sch l[k] _ hn (hS.ext ((Ext.refl _).alloc _)) _ HQ.out.2).mono ?_
      rintro e w1 ⟨rfl, hb⟩
      go_wp2
      go_ret2
      exact ⟨rfl, (hE.alloc _).trans hb⟩
    · refine (condMayBe_is sb so scap sch l[k] _ hn (hS.ext ((Ext.refl _).alloc _)) _ (HQ.out.1 k hlt (by omega))).mono ?_
      rintro e w1 ⟨rfl, hb⟩
      have hkq' : k < q := by omega
      clear hS h0 h1 h2 h3 h4 h5
      go_wp2
      go_roundw
      case rel => exact ⟨k + 1, by omega, by go_num, (hE.alloc _).trans hb⟩
      case measure => simp [intOf]; omega

set_option maxHeartbeats 400000 in
theorem badCond_ok (sb so scap : Nat) (sch : List Int) (ao : Option Addr) (cap : Nat) (l : List Cd) (w : World) (hn : sch.length ≤ 6) (hI : Ints w sb so sch) (_hl : l.length ≤ 8) (hs : Cxs w ao l)
    (hqa : ∀ j (hj : j < l.length), mayB sch l[j] = true) :
    Calls Try.prog 27 #[.slice (some ⟨sb, so, none⟩) sch.length scap, .slice ao l.length cap] w fun e w' => e = .returned (.tuple #[.int .i64 0, .bool false]) ∧ Ext w w' := by
  have HQ : Hid (∀ j (hj : j < l.length), mayB sch l[j] = true) := hqa
  clear hqa
  go_enter Try.func27, Try.ntmps27
  go_wp2
  go_loopw [10] (fun i wr => ∃ k : Nat, k ≤ l.length ∧ i = .int .i64 k ∧ Ext w wr) (fun i _ => l.length - (intOf i).toNat)
  case atStart => exact ⟨0, Nat.zero_le _, rfl, Ext.refl _⟩
  case round =>
    obtain ⟨k, hk, rfl, hE⟩ := hrel
    by_cases hlt : k < l.length
    · obtain ⟨b, o, rfl, hC⟩ := hs (by omega)
      obtain ⟨h0, h1, h2, h3, h4, h5⟩ := hC.ext hE k hlt
      have hS := hI.ext hE
      clear hC hI hs
      go_wp2_with fail
      refine (condMayBe_is sb so scap sch l[k] _ hn (hS.ext ((Ext.refl _).alloc _)) _ (HQ.out k hlt)).mono ?_
      rintro e w1 ⟨rfl, hb⟩
      clear hS h0 h1 h2 h3 h4 h5
      go_wp2
      go_roundw
      case rel => exact ⟨k + 1, by omega, by go_num, (hE.alloc _).trans hb⟩
      case measure => simp [intOf]; omega
    · clear hs hI
      go_wp2
      go_ret2
      exact ⟨rfl, hE⟩

set_option maxHeartbeats 400000 in
theorem sameConds_eq (ao bo : Option Addr) (ca cb : Nat) (l m : List Cd) (w : World) (_hl : l.length ≤ 9223372036854775807) (hs : Cxs w ao l) (ht : Cxs w bo m) (hlm : l = m) :
    Calls Try.prog 60 #[.slice ao l.length ca, .slice bo m.length cb] w fun e w' => e = .returned (.bool true) ∧ Ext w w' := by
  subst hlm
  go_enter Try.func60, Try.ntmps60
  go_wp2
  go_loopw [5] (fun i wr => ∃ k : Nat, k ≤ l.length ∧ i = .int .i64 k ∧ Ext w wr) (fun i _ => l.length - (intOf i).toNat)
  case atStart => exact ⟨0, Nat.zero_le _, rfl, Ext.refl _⟩
  case round =>
    obtain ⟨k, hk, rfl, hE⟩ := hrel
    by_cases hlt : k < l.length
    · obtain ⟨b, o, rfl, hC⟩ := hs (by omega)
      obtain ⟨b', o', rfl, hD⟩ := ht (by omega)
      obtain ⟨h0, h1, h2, h3, h4, h5⟩ := hC.ext hE k hlt
      obtain ⟨g0, g1, g2, g3, g4, g5⟩ := hD.ext hE k hlt
      clear hC hD hs ht
      go_wp2
      go_quiet (fail)
      go_wp2
      go_roundw
      case rel => exact ⟨k + 1, by omega, by go_num, hE.trans (drewN_ext _ _)⟩
      case measure => simp [intOf]; omega
    · clear hs ht
      go_wp2
      go_ret
      exact ⟨rfl, hE⟩
end Go.Proofs.Ytepioeaomlmocaa
