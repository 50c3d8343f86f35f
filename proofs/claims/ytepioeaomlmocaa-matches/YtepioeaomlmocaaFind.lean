import Derived.Test.YtepioeaomlmocaaEng
namespace Go.Proofs.Ytepioeaomlmocaa
open Go.RowKit

theorem cmpf_any (eid : Int) (ao : Option Addr) (n cap : Nat) (id : Int) (w : World) :
    Calls Try.prog 53 #[.agg #[.int .i64 eid, .slice ao n cap], .int .i64 id] w fun e w' => e = .returned (.int .i64 (Lib.compareInt eid id)) ∧ Ext w w' := by
  go_enter Try.func53, Try.ntmps53
  go_wp2_with fail
  refine (Try.cmp_Compare_int eid id _).mono ?_
  rintro e w1 ⟨rfl, rfl⟩
  go_wp2
  go_ret
  exact ⟨rfl, (Ext.refl w).alloc _⟩

theorem pos_iff {flt : List (Int × List Cd)} {id : Int} {q : Nat} (hS : SortedF flt) (hq : PosOf flt id q) (h : Nat) (hh : h < flt.length) : flt[h].1 < id ↔ h < q := by
  constructor
  · intro hl
    rcases Nat.lt_or_ge h q with e | e
    · exact e
    · have hq' : q < flt.length := by omega
      have h1 := hq.2.2 hq'
      rcases Nat.lt_or_ge q h with e2 | e2
      · have := hS q h hq' hh e2; omega
      · obtain rfl : h = q := by omega
        exact absurd hl h1
  · intro hl; exact hq.2.1 h hh hl

set_option maxHeartbeats 400000 in
theorem bsf_any (fa : Option Addr) (cap : Nat) (es : List Ent) (id : Int) (q : Nat) (r : Bool) (w : World) (hO : OSl w 85 2 fa es.length cap (es.flatMap Ent.cells)) (hf : es.length ≤ 100) (hqn : q ≤ es.length) (hQ : ∀ h (hh : h < es.length), es[h].id < id ↔ h < q) (hr : ∀ hq : q < es.length, (es[q].id == id) = r) (hr' : ¬ q < es.length → r = false) :
    Calls Try.prog 52 #[.slice fa es.length cap, .int .i64 id, .func (Fn.func 53) #[] #[]] w fun e w' => e = .returned (.tuple #[.int .i64 q, .bool r]) ∧ Ext w w' := by
  have HQ : Hid (∀ h (hh : h < es.length), es[h].id < id ↔ h < q) := hQ
  have HR : Hid (∀ hq : q < es.length, (es[q].id == id) = r) := hr
  have HR' : Hid (¬ q < es.length → r = false) := hr'
  clear hQ hr hr'
  go_enter Try.func52, Try.ntmps52
  go_wp2_with fail
  go_loopw [9, 10] (fun i j wr => ∃ a b : Nat, i = .int .i64 a ∧ j = .int .i64 b ∧ a ≤ q ∧ q ≤ b ∧ b ≤ es.length ∧ Ext w wr) (fun i j _ => (intOf j).toNat - (intOf i).toNat)
  case atStart => exact ⟨0, es.length, rfl, rfl, Nat.zero_le _, hqn, Nat.le_refl _, Ext.refl _⟩
  case round =>
    obtain ⟨a, b, rfl, rfl, ha, hb, hbn, hE⟩ := hrel
    by_cases hab : a < b
    · have hh : (a + b) / 2 < es.length := by omega
      have hq2 := HQ.out ((a + b) / 2) hh
      obtain ⟨g, rfl, e0⟩ := hO.at (ent_at es ((a + b) / 2) hh).1
      obtain ⟨_, efb, e1⟩ := hO.at (ent_at es ((a + b) / 2) hh).2
      cases efb
      have d0 := hE.cell e0
      have d1 := hE.cell e1
      clear e0 e1 hO
      generalize hm : (a + b) / 2 = m at *
      go_wp2_with fail
      refine (cmpf_any es[m].id es[m].ao es[m].l.length es[m].cap id wr).mono ?_
      rintro e w2 ⟨rfl, hE2⟩
      by_cases hlt : es[m].id < id
      · have hmq := hq2.1 hlt
        have hc : Lib.compareInt es[m].id id = -1 := by simp [Lib.compareInt, hlt]
        rw [hc]
        have hEE := hE.trans hE2
        clear d0 d1 hc hlt hq2 HR HR' HQ hE hE2
        go_wp2
        go_roundw
        case rel => exact ⟨m + 1, b, by rw [← hm]; simp, rfl, by omega, hb, hbn, hEE⟩
        case measure => simp [intOf]; omega
      · have hmq : q ≤ m := by
          rcases Nat.lt_or_ge m q with h | h
          · exact absurd (hq2.2 h) hlt
          · exact h
        have hEE := hE.trans hE2
        by_cases hgt : es[m].id > id
        · have hc : Lib.compareInt es[m].id id = 1 := by simp [Lib.compareInt, hlt, hgt]
          rw [hc]
          clear d0 d1 hc hlt hq2 HR HR' HQ hE hE2 hgt
          go_wp2
          go_roundw
          case rel => exact ⟨a, m, rfl, by rw [← hm]; simp, by omega, by omega, by omega, hEE⟩
          case measure => simp [intOf]; omega
        · have hc : Lib.compareInt es[m].id id = 0 := by simp [Lib.compareInt, hlt, hgt]
          rw [hc]
          clear d0 d1 hc hlt hq2 HR HR' HQ hE hE2 hgt
          go_wp2
          go_roundw
          case rel => exact ⟨a, m, rfl, by rw [← hm]; simp, by omega, by omega, by omega, hEE⟩
          case measure => simp [intOf]; omega
    · obtain rfl : a = q := by omega
      obtain rfl : b = a := by omega
      by_cases hqn' : b < es.length
      · have hrr := HR.out hqn'
        obtain ⟨g, rfl, e0⟩ := hO.at (ent_at es b hqn').1
        obtain ⟨_, efb, e1⟩ := hO.at (ent_at es b hqn').2
        cases efb
        have d0 := hE.cell e0
        have d1 := hE.cell e1
        clear e0 e1 hO HQ HR HR'
        go_wp2_with fail
        refine (cmpf_any es[b].id es[b].ao es[b].l.length es[b].cap id wr).mono ?_
        rintro e w2 ⟨rfl, hE2⟩
        have hc : (Lib.compareInt es[b].id id == 0) = r := by
          rw [← hrr]
          unfold Lib.compareInt
          split
          · rename_i h; simp; omega
          · split
            · rename_i h1 h2; simp; omega
            · rename_i h1 h2; simp; omega
        have hEE := hE.trans hE2
        generalize Lib.compareInt es[b].id id = ci at *
        clear d0 d1 hE hE2 hrr
        go_wp2
        go_ret2
        exact ⟨by simp, hEE⟩
      · have hrr := HR'.out hqn'
        subst hrr
        clear HQ HR HR' hO
        go_wp2
        go_ret2
        exact ⟨rfl, hE⟩
theorem find_any (eb : Nat) (F : Nat → Prop) (sch : List Int) (flt : List (Int × List Cd)) (id : Int) (w : World) (hf : flt.length ≤ 100) (hS : SortedF flt) (hE : EngAt w eb F sch flt) (q : Nat) (hq : PosOf flt id q) :
    Calls Try.prog 26 #[.pointer (some ⟨eb, 0, none⟩), .int .i64 id] w fun e w' => e = .returned (.tuple #[.int .i64 q, .bool (thereB flt id q)]) ∧ Ext w w' := by
  obtain ⟨h1, sb, sc, fa, fcap, es, he, hr, hF, hne, hI, hO, hg, hEs⟩ := hE
  obtain ⟨hkl, hky⟩ := key_at he
  have c1 := hr.at (j := 1) rfl
  have H : Hid _ := bsf_any fa fcap es id q (thereB flt id q) w hO (by omega) (by have := hq.1; omega) (fun h hh => by have := pos_iff hS hq h (by omega); rw [hky h hh (by omega)] at this; exact this) (fun hqe => by
      have hqf : q < flt.length := by omega
      have hk := hky q hqe hqf
      unfold thereB
      rw [List.getElem?_eq_getElem hqf, hk]) (fun hqe => by
      unfold thereB
      rw [List.getElem?_eq_none (by omega)])
  generalize thereB flt id q = r at *
  clear hO hEs hI hr
  go_enter Try.func26, Try.ntmps26
  go_wp2_with fail
  refine Calls.mono H.out ?_
  rintro e w2 ⟨rfl, hE2⟩
  go_wp2
  go_ret2
  exact ⟨rfl, hE2⟩
end Go.Proofs.Ytepioeaomlmocaa
