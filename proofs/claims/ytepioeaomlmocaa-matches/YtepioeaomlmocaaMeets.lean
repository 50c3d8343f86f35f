import Derived.Test.YtepioeaomlmocaaEvS
namespace Go.Proofs.Ytepioeaomlmocaa
open Go.RowKit

def condB (f : Option Vl) (c : Cd) : Bool := match f with
  | none => false
  | some v => metB c v
def meetsB (l : List Cd) (f : Int → Option Vl) : Bool := l.all (fun c => condB (f c.attr) c)
theorem meets_no {l : List Cd} {f : Int → Option Vl} {k : Nat} (hk : k < l.length) (h : condB (f l[k].attr) l[k] = false) : meetsB l f = false := by
  unfold meetsB
  rw [List.all_eq_false]
  exact ⟨l[k], List.getElem_mem hk, by simp [h]⟩
theorem meets_yes {l : List Cd} {f : Int → Option Vl} (h : ∀ j (hj : j < l.length), condB (f l[j].attr) l[j] = true) : meetsB l f = true := by
  unfold meetsB
  rw [List.all_eq_true]
  intro x hx
  obtain ⟨j, hj, rfl⟩ := List.getElem_of_mem hx
  exact h j hj

/-- Conditions that can be asked. -/
def CdsOK (l : List Cd) : Prop := ∀ j (hj : j < l.length), 0 ≤ l[j].attr ∧ l[j].attr < 6 ∧ 1 ≤ l[j].kind ∧ l[j].kind ≤ 9 ∧ l[j].a.s.size ≤ 9223372036854775807 ∧ l[j].b.s.size ≤ 9223372036854775807
/-- Fields that can be asked. -/
def FdsOK (l : List Fd) : Prop := ∀ j (hj : j < l.length), l[j].v.s.size ≤ 9223372036854775807 ∧ (fo (l.take j) l[j].attr).isNone = true

theorem met_is (c : Cd) (v : Vl) (w : World) (r : Bool) (h1 : 1 ≤ c.kind) (h9 : c.kind ≤ 9) (ha : c.a.s.size ≤ 9223372036854775807) (hb : c.b.s.size ≤ 9223372036854775807) (hv : v.s.size ≤ 9223372036854775807) (hr : metB c v = r) :
    Calls Try.prog 85 #[.agg #[.int .i64 c.attr, .int .i64 c.kind, .int .i64 c.a.n, .string c.a.s, .int .i64 c.b.n, .string c.b.s], .agg #[.int .i64 v.n, .string v.s]] w fun e w' => e = .returned (.bool r) ∧ Ext w w' := by
  subst hr; exact met_any c v w h1 h9 ha hb hv
theorem holds_is (c : Cd) (v : Vl) (w : World) (r : Bool) (h1 : 1 ≤ c.kind) (h9 : c.kind ≤ 9) (hr : metB c v = r) :
    Calls Try.prog 84 #[.agg #[.int .i64 c.attr, .int .i64 c.kind, .int .i64 c.a.n, .string c.a.s, .int .i64 c.b.n, .string c.b.s], .agg #[.int .i64 v.n, .string v.s]] w fun e w' => e = .returned (.bool r) ∧ Ext w w' := by
  subst hr; exact holds_any c v w h1 h9

theorem cond_succ (ev : List Fd) (hU : FdsOK ev) (j : Nat) (hj : j < ev.length) (c : Cd) : condB (fo (ev.take (j + 1)) c.attr) c = if ev[j].attr == c.attr then metB c ev[j].v else condB (fo (ev.take j) c.attr) c := by
  rw [fo_succ ev j c.attr hj]
  by_cases e : (ev[j].attr == c.attr) = true
  · have h := (hU j hj).2
    have e' : ev[j].attr = c.attr := by simpa using e
    rw [e'] at h
    rw [if_pos e, if_pos e, Option.isNone_iff_eq_none.1 h]
    rfl
  · rw [if_neg e, if_neg e]
    simp

set_option maxHeartbeats 1600000 in
set_option maxRecDepth 100000 in
theorem rmeets_any (ao : Option Addr) (cap : Nat) (l : List Cd) (bo : Option Addr) (ecap : Nat) (ev : List Fd) (w : World) (_hl : l.length ≤ 8) (_he : ev.length * 32 ≤ 140737488351232) (hc : Cxs w ao l) (hf : Fxs w bo ev) (hC : CdsOK l) (hU : FdsOK ev) :
    Calls Try.prog 64 #[.slice ao l.length cap, .slice bo ev.length ecap] w fun e w' => e = .returned (.bool (meetsB l (fo ev))) ∧ Ext w w' := by
  have HC : Hid (CdsOK l) := hC
  have HU : Hid (FdsOK ev) := hU
  clear hC hU
  go_enter Try.func64, Try.ntmps64
  go_wp2
  go_loopw [5] (fun i wr => ∃ k : Nat, k ≤ l.length ∧ i = .int .i64 k ∧ (∀ j (hj : j < l.length), j < k → condB (fo ev l[j].attr) l[j] = true) ∧ Ext w wr) (fun i _ => l.length - (intOf i).toNat)
  case atStart => exact ⟨0, Nat.zero_le _, rfl, fun j _ h => absurd h (Nat.not_lt_zero _), Ext.refl _⟩
  case round =>
    obtain ⟨k, hk, rfl, hall, hE⟩ := hrel
    have HA : Hid (∀ j (hj : j < l.length), j < k → condB (fo ev l[j].attr) l[j] = true) := hall
    clear hall
    obtain ⟨wo, hwo⟩ : ∃ wo : World, wo = wr := ⟨_, rfl⟩
    subst hwo
    by_cases hlt : k < l.length
    · obtain ⟨b, o, rfl, hD⟩ := hc (by omega)
      have hDo := hD.ext hE k hlt
      have hfo := hf.ext hE
      have hOKc := HC.out k hlt
      clear hD hc hf
      have hno : Hid (condB (fo ev l[k].attr) l[k] = false → meetsB l (fo ev) = false) := fun h => meets_no hlt h
      have hyes : Hid (condB (fo ev l[k].attr) l[k] = true → ∀ j (hj : j < l.length), j < k + 1 → condB (fo ev l[j].attr) l[j] = true) := fun h j hj hjk => by
        rcases Nat.lt_or_ge j k with h' | h'
        · exact HA.out j hj h'
        · obtain rfl : j = k := by omega
          exact h
      generalize l[k] = c at *
      obtain ⟨h0, h1, h2, h3, h4, h5⟩ := hDo
      obtain ⟨_, _, ok1, ok9, oka, okb⟩ := hOKc
      go_wp2
      go_loopw [6, 7] (fun fd i wr => ∃ j : Nat, j ≤ ev.length ∧ i = .int .i64 j ∧ fd = .bool (condB (fo (ev.take j) c.attr) c) ∧ Ext wo wr) (fun _ i _ => ev.length - (intOf i).toNat)
      case atStart => exact ⟨0, Nat.zero_le _, rfl, rfl, Ext.refl _⟩
      case round =>
        obtain ⟨j, hj, rfl, rfl, hE2⟩ := hrel
        generalize hB : condB (fo (ev.take j) c.attr) c = B
        have HB : Hid (condB (fo (ev.take j) c.attr) c = B) := hB
        clear hB
        by_cases hjl : j < ev.length
        · obtain ⟨fb, fo', rfl, hF⟩ := hfo (by omega)
          obtain ⟨d0, d1, d2⟩ := hF.ext hE2 j hjl
          have e0 := hE2.cell h0
          have e1 := hE2.cell h1
          have e2 := hE2.cell h2
          have e3 := hE2.cell h3
          have e4 := hE2.cell h4
          have e5 := hE2.cell h5
          have hz := (HU.out j hjl).1
          have hst : Hid _ := cond_succ ev HU.out j hjl c
          clear hfo hF h0 h1 h2 h3 h4 h5
          generalize ev[j] = fd at *
          obtain ⟨fa, fv⟩ := fd
          simp only at d0 d1 d2 hz hst
          by_cases hea : fa = c.attr
          · have hbe : (fa == c.attr) = true := by simpa using hea
            have hst2 : Hid (condB (fo (ev.take (j + 1)) c.attr) c = metB c fv) := by
              show _ = _
              rw [hst.out, if_pos hbe]
            clear hst hea
            go_wp2_with fail
            go_quiet (fail)
            go_wp2_with fail
            go_region_held3 (fun w' => w'.cell? ⟨b, o + k * 6, none⟩ = some (.int .i64 c.attr) ∧ w'.cell? ⟨b, o + k * 6 + 1, none⟩ = some (.int .i64 c.kind) ∧ w'.cell? ⟨b, o + k * 6 + 2, none⟩ = some (.int .i64 c.a.n) ∧ w'.cell? ⟨b, o + k * 6 + 3, none⟩ = some (.string c.a.s) ∧ w'.cell? ⟨b, o + k * 6 + 4, none⟩ = some (.int .i64 c.b.n) ∧ w'.cell? ⟨b, o + k * 6 + 5, none⟩ = some (.string c.b.s) ∧ w'.cell? ⟨fb, fo' + j * 3 + 1, none⟩ = some (.int .i64 fv.n) ∧ w'.cell? ⟨fb, fo' + j * 3 + 2, none⟩ = some (.string fv.s)) (first | go_keep | exact ⟨hbb.cell (by exact e0), hbb.cell (by exact e1), hbb.cell (by exact e2), hbb.cell (by exact e3), hbb.cell (by exact e4), hbb.cell (by exact e5), hbb.cell (by exact d1), hbb.cell (by exact d2)⟩)
              (first | (go_at_call 85; refine (met_any c fv _ ok1 ok9 oka okb hz).mono ?_; rintro e w' ⟨rfl, hbb⟩))
            go_wp2
            go_roundw
            case rel => exact ⟨j + 1, by omega, by go_num, by rw [hst2.out], (hE2.trans (drewN_ext _ _)).trans hbb⟩
            case measure => simp [intOf]; omega
          · have hbe : (fa == c.attr) = false := by simpa using hea
            have hst2 : Hid (condB (fo (ev.take (j + 1)) c.attr) c = B) := by
              show _ = _
              rw [hst.out, hbe, HB.out]; rfl
            clear hst hea
            go_wp2_with fail
            go_quiet (fail)
            go_wp2
            go_roundw
            case rel => exact ⟨j + 1, by omega, by go_num, by rw [hst2.out], hE2.trans (drewN_ext _ _)⟩
            case measure => simp [intOf]; omega
        · have hB2 : Hid (condB (fo ev c.attr) c = B) := by
            show _ = _
            have e := HB.out
            rwa [List.take_of_length_le (by omega)] at e
          have hEw := hE.trans hE2
          clear hfo h0 h1 h2 h3 h4 h5
          cases B with
          | false =>
            have HP : Hid (meetsB l (fo ev) = false) := hno.out hB2.out
            go_wp2
            go_ret
            exact ⟨ret_bool HP.out.symm, hEw⟩
          | true =>
            go_wp2
            go_roundw
            case rel => exact ⟨k + 1, by omega, by go_num, hyes.out hB2.out, hEw⟩
            case measure => simp [intOf]; omega
    · have HP : Hid (meetsB l (fo ev) = true) := meets_yes fun j hj => HA.out j hj (by omega)
      clear hc hf
      go_wp2
      go_ret
      exact ⟨ret_bool HP.out.symm, hE⟩
end Go.Proofs.Ytepioeaomlmocaa
