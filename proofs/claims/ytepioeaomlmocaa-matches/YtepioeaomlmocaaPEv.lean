import Derived.Test.YtepioeaomlmocaaMeets
namespace Go.Proofs.Ytepioeaomlmocaa
open Go.RowKit

def vz : Vl := ⟨0, ⟨#[]⟩⟩
/-- An event laid out by its attributes. -/
def evCells (f : Int → Option Vl) : List Value :=
  [.bool (f 0).isSome, .bool (f 1).isSome, .bool (f 2).isSome, .bool (f 3).isSome, .bool (f 4).isSome, .bool (f 5).isSome,
   .int .i64 ((f 0).getD vz).n, .string ((f 0).getD vz).s, .int .i64 ((f 1).getD vz).n, .string ((f 1).getD vz).s, .int .i64 ((f 2).getD vz).n, .string ((f 2).getD vz).s,
   .int .i64 ((f 3).getD vz).n, .string ((f 3).getD vz).s, .int .i64 ((f 4).getD vz).n, .string ((f 4).getD vz).s, .int .i64 ((f 5).getD vz).n, .string ((f 5).getD vz).s]
theorem ev_has (f : Int → Option Vl) (a : Nat) (h : a < 6) : (evCells f)[a]? = some (.bool (f a).isSome) := by
  rcases (show a = 0 ∨ a = 1 ∨ a = 2 ∨ a = 3 ∨ a = 4 ∨ a = 5 by omega) with rfl | rfl | rfl | rfl | rfl | rfl <;> rfl
theorem ev_n (f : Int → Option Vl) (a : Nat) (h : a < 6) : (evCells f)[6 + a * 2]? = some (.int .i64 ((f a).getD vz).n) := by
  rcases (show a = 0 ∨ a = 1 ∨ a = 2 ∨ a = 3 ∨ a = 4 ∨ a = 5 by omega) with rfl | rfl | rfl | rfl | rfl | rfl <;> rfl
theorem ev_s (f : Int → Option Vl) (a : Nat) (h : a < 6) : (evCells f)[6 + a * 2 + 1]? = some (.string ((f a).getD vz).s) := by
  rcases (show a = 0 ∨ a = 1 ∨ a = 2 ∨ a = 3 ∨ a = 4 ∨ a = 5 by omega) with rfl | rfl | rfl | rfl | rfl | rfl <;> rfl
theorem Row.at {w : World} {g : Nat} {T : TypeId} {l : List Value} (h : Row w g T l) {j : Nat} {v : Value} (hj : l[j]? = some v) : w.cell? ⟨g, j, none⟩ = some v := by
  obtain ⟨h1, h2⟩ := List.getElem?_eq_some_iff.1 hj
  rw [h.cell h1, h2]

set_option maxHeartbeats 1600000 in
set_option maxRecDepth 100000 in
theorem meets_any (eb : Nat) (f : Int → Option Vl) (ao : Option Addr) (cap : Nat) (l : List Cd) (w : World) (_hl : l.length ≤ 8) (hr : Row w eb 121 (evCells f)) (hc : Cxs w ao l) (hC : CdsOK l) :
    Calls Try.prog 62 #[.pointer (some ⟨eb, 0, none⟩), .slice ao l.length cap] w fun e w' => e = .returned (.bool (meetsB l f)) ∧ Ext w w' := by
  have HC : Hid (CdsOK l) := hC
  clear hC
  go_enter Try.func62, Try.ntmps62
  go_wp2
  go_loopw [9] (fun i wr => ∃ k : Nat, k ≤ l.length ∧ i = .int .i64 k ∧ (∀ j (hj : j < l.length), j < k → condB (f l[j].attr) l[j] = true) ∧ Ext w wr) (fun i _ => l.length - (intOf i).toNat)
  case atStart => exact ⟨0, Nat.zero_le _, rfl, fun j _ h => absurd h (Nat.not_lt_zero _), Ext.refl _⟩
  case round =>
    obtain ⟨k, hk, rfl, hall, hE⟩ := hrel
    have HA : Hid (∀ j (hj : j < l.length), j < k → condB (f l[j].attr) l[j] = true) := hall
    clear hall
    by_cases hlt : k < l.length
    · obtain ⟨b, o, rfl, hD⟩ := hc (by omega)
      have hDo := hD.ext hE k hlt
      have hOKc := HC.out k hlt
      have hro := hr.ext hE
      clear hD hc hr
      have hno : Hid (condB (f l[k].attr) l[k] = false → meetsB l f = false) := fun h => meets_no hlt h
      have hyes : Hid (condB (f l[k].attr) l[k] = true → ∀ j (hj : j < l.length), j < k + 1 → condB (f l[j].attr) l[j] = true) := fun h j hj hjk => by
        rcases Nat.lt_or_ge j k with h' | h'
        · exact HA.out j hj h'
        · obtain rfl : j = k := by omega
          exact h
      generalize l[k] = c at *
      obtain ⟨h0, h1, h2, h3, h4, h5⟩ := hDo
      obtain ⟨a0, a6, ok1, ok9, oka, okb⟩ := hOKc
      obtain ⟨attr, kind, ca, cb⟩ := c
      simp only at h0 h1 h2 h3 h4 h5 a0 a6 ok1 ok9 oka okb hno hyes
      obtain ⟨a, rfl⟩ := Int.eq_ofNat_of_zero_le a0
      have ha6 : a < 6 := by omega
      have g0 := hro.at (ev_has f a ha6)
      have g1 := hro.at (ev_n f a ha6)
      have g2 := hro.at (ev_s f a ha6)
      have ebl := hro.lt
      have g0a : ∀ ob, (wr.alloc ob).cell? ⟨eb, a, none⟩ = _ := fun ob => ((Ext.refl wr).alloc ob).cell g0
      have g1a : ∀ ob, (wr.alloc ob).cell? ⟨eb, 6 + a * 2, none⟩ = _ := fun ob => ((Ext.refl wr).alloc ob).cell g1
      have g2a : ∀ ob, (wr.alloc ob).cell? ⟨eb, 6 + a * 2 + 1, none⟩ = _ := fun ob => ((Ext.refl wr).alloc ob).cell g2
      clear g0 g1 g2 hro
      cases hfa : f (a : Int) with
      | none =>
        have hcb : Hid (condB (f (a : Int)) ⟨a, kind, ca, cb⟩ = false) := by show _ = _; rw [hfa]; rfl
        have HP : Hid (meetsB l f = false) := hno.out hcb.out
        rw [hfa] at g0a
        clear g1a g2a hfa
        simp only [Option.isSome_none] at g0a
        go_wp2_with fail
        go_quiet (fail)
        go_wp2
        go_ret
        exact ⟨ret_bool HP.out.symm, (hE.alloc _).trans (drewN_ext _ _)⟩
      | some v =>
        have hcb : Hid (condB (f (a : Int)) ⟨a, kind, ca, cb⟩ = metB ⟨a, kind, ca, cb⟩ v) := by show _ = _; rw [hfa]; rfl
        rw [hfa] at g0a g1a g2a
        clear hfa
        simp only [Option.isSome_some, Option.getD_some] at g0a g1a g2a
        generalize hB : metB ⟨a, kind, ca, cb⟩ v = B
        have HB : Hid (metB ⟨a, kind, ca, cb⟩ v = B) := hB
        clear hB
        go_wp2_with fail
        go_region_held3 (fun w' => w'.cell? ⟨wr.heap.size, 0, none⟩ = some (.int .i64 a) ∧ w'.cell? ⟨wr.heap.size, 1, none⟩ = some (.int .i64 kind) ∧ w'.cell? ⟨wr.heap.size, 2, none⟩ = some (.int .i64 ca.n) ∧ w'.cell? ⟨wr.heap.size, 3, none⟩ = some (.string ca.s) ∧ w'.cell? ⟨wr.heap.size, 4, none⟩ = some (.int .i64 cb.n) ∧ w'.cell? ⟨wr.heap.size, 5, none⟩ = some (.string cb.s) ∧ w'.cell? ⟨eb, a, none⟩ = some (.bool true) ∧ w'.cell? ⟨eb, 6 + a * 2, none⟩ = some (.int .i64 v.n) ∧ w'.cell? ⟨eb, 6 + a * 2 + 1, none⟩ = some (.string v.s)) (first | go_keep | exact ⟨hbb.cell (by exact cell_new _ _ _ _ _ rfl rfl), hbb.cell (by exact cell_new _ _ _ _ _ rfl rfl), hbb.cell (by exact cell_new _ _ _ _ _ rfl rfl), hbb.cell (by exact cell_new _ _ _ _ _ rfl rfl), hbb.cell (by exact cell_new _ _ _ _ _ rfl rfl), hbb.cell (by exact cell_new _ _ _ _ _ rfl rfl), hbb.cell (by exact g0a _), hbb.cell (by exact g1a _), hbb.cell (by exact g2a _)⟩)
          (first | (go_at_call 84; refine (holds_is ⟨a, kind, ca, cb⟩ v _ B ok1 ok9 HB.out).mono ?_; rintro e w' ⟨rfl, hbb⟩))
        have hEw := ((hE.alloc _).trans (drewN_ext _ _)).trans hbb
        clear g0a g1a g2a h0 h1 h2 h3 h4 h5
        cases B with
        | false =>
          have HP : Hid (meetsB l f = false) := hno.out (hcb.out.trans HB.out)
          go_wp2
          go_ret
          exact ⟨ret_bool HP.out.symm, hEw⟩
        | true =>
          go_wp2
          go_roundw
          case rel => exact ⟨k + 1, by omega, by go_num, hyes.out (hcb.out.trans HB.out), hEw⟩
          case measure => simp [intOf]; omega
    · have HP : Hid (meetsB l f = true) := meets_yes fun j hj => HA.out j hj (by omega)
      clear hc
      go_wp2
      go_ret
      exact ⟨ret_bool HP.out.symm, hE⟩
end Go.Proofs.Ytepioeaomlmocaa
