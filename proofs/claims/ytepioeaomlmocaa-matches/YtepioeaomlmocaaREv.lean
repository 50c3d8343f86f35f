import Derived.Test.YtepioeaomlmocaaEvS
namespace Go.Proofs.Ytepioeaomlmocaa
open Go.RowKit

theorem fieldOK_in (sch : List Int) (pre : List Fd) (a : Nat) (v : Vl) (T : Int) (r : Bool) (h : a < sch.length) (hT : sch.getD a 0 = T) (hr : fitsB T v = r) : fieldOK sch pre ⟨a, v⟩ = (r && (fo pre a).isNone) := by
  have : inR (a : Int) sch.length = true := by simp [inR]; omega
  simp only [fieldOK, this, Int.toNat_natCast, hT, hr, Bool.true_and]
theorem fieldOK_out (sch : List Int) (pre : List Fd) (a : Int) (v : Vl) (h : ¬ (0 ≤ a ∧ a < sch.length)) : fieldOK sch pre ⟨a, v⟩ = false := by
  have : inR a sch.length = false := by simp only [inR, decide_eq_false_iff_not]; exact h
  simp [fieldOK, this]

set_option maxHeartbeats 1600000 in
set_option maxRecDepth 100000 in
theorem rEvent_any (rb b o cap : Nat) (sch : List Int) (ao : Option Addr) (lcap : Nat) (l : List Fd) (w : World) (_hn : sch.length ≤ 6) (_hl : l.length * 32 ≤ 140737488351232) (hr : w.cell? ⟨rb, 0, none⟩ = some (.slice (some ⟨b, o, none⟩) sch.length cap)) (hs : Ints w b o sch) (hf : Fxs w ao l)
    (q : Nat) (hq : FirstBad sch l q) :
    Calls Try.prog 63 #[.pointer (some ⟨rb, 0, none⟩), .slice ao l.length lcap] w fun e w' => e = .returned (.int .i64 (placeOf l q)) ∧ Ext w w' := by
  obtain ⟨hql, hqa, hqb⟩ := hq
  have HQ : Hid ((∀ j (hj : j < l.length), j < q → fieldOK sch (l.take j) l[j] = true) ∧ ∀ hq : q < l.length, fieldOK sch (l.take q) l[q] = false) := ⟨hqa, hqb⟩
  clear hqa hqb
  go_enter Try.func63, Try.ntmps63
  go_wp2
  go_loopw [5] (fun i wr => ∃ k : Nat, k ≤ q ∧ i = .int .i64 k ∧ Ext w wr) (fun i _ => l.length - (intOf i).toNat)
  case atStart => exact ⟨0, Nat.zero_le _, rfl, Ext.refl _⟩
  case round =>
    obtain ⟨k, hk, rfl, hE⟩ := hrel
    obtain ⟨wo, hwo⟩ : ∃ wo : World, wo = wr := ⟨_, rfl⟩
    subst hwo
    by_cases hlt : k < l.length
    · obtain ⟨fb, fo', rfl, hF⟩ := hf (by omega)
      obtain ⟨c0, c1, c2⟩ := hF.ext hE k hlt
      have hrr := hE.cell hr
      have hSS := hs.ext hE
      have hFF := hF.ext hE
      have hOK : Hid ((k < q → fieldOK sch (l.take k) l[k] = true) ∧ (k = q → fieldOK sch (l.take k) l[k] = false)) := ⟨fun h => HQ.out.1 k hlt h, fun h => by subst h; exact HQ.out.2 hlt⟩
      have hpl : Hid (k = q → placeOf l q = (k : Int)) := fun h => by subst h; simp [placeOf, hlt]
      clear hF hr hs HQ hf
      generalize hfd : l[k] = fd at *
      have HFD : Hid (l[k] = fd) := hfd
      clear hfd
      obtain ⟨at_, fv⟩ := fd
      simp only at c0 c1 c2
      by_cases ha : 0 ≤ at_ ∧ at_ < sch.length
      · obtain ⟨ha0, ha1⟩ := ha
        obtain ⟨a, rfl⟩ := Int.eq_ofNat_of_zero_le ha0
        have hal : a < sch.length := by omega
        have hc := hSS a hal
        generalize hT : sch.getD a 0 = T at hc
        have HT : Hid (sch.getD a 0 = T) := hT
        clear hT hSS
        have hd0 : decide ((a : Int) < 0) = false := by rw [decide_eq_false_iff_not]; omega
        have hd1 : decide (sch.length ≤ a) = false := by rw [decide_eq_false_iff_not]; omega
        go_wp2_with fail
        go_quiet (fail)
        go_wp2_with fail
        go_region_held3 (fun w' => w'.cell? ⟨rb, 0, none⟩ = some (.slice (some ⟨b, o, none⟩) sch.length cap) ∧ w'.cell? ⟨fb, fo' + k * 3, none⟩ = some (.int .i64 a) ∧ w'.cell? ⟨b, o + a, none⟩ = some (.int .i64 T) ∧ w'.cell? ⟨fb, fo' + k * 3 + 1, none⟩ = some (.int .i64 fv.n) ∧ w'.cell? ⟨fb, fo' + k * 3 + 2, none⟩ = some (.string fv.s)) (first | go_keep | exact ⟨hbb.cell (by exact hrr), hbb.cell (by exact c0), hbb.cell (by exact hc), hbb.cell (by exact c1), hbb.cell (by exact c2)⟩)
          (first | (go_at_call 81; refine (rfits_any _ _ _ _).mono ?_; rintro e w' ⟨rfl, hbb⟩))
        obtain ⟨w1, hw1⟩ : ∃ w1 : World, w1 = w' := ⟨_, rfl⟩
        subst hw1
        have hE1 : Ext w w1 := (hE.trans (drewN_ext _ _)).trans hbb
        have hEo : Ext wo w1 := (drewN_ext _ _).trans hbb
        clear hbb hE
        generalize hrr' : fitsB T { n := fv.n, s := fv.s } = r
        have HR : Hid (fitsB T fv = r) := hrr'
        clear hrr'
        go_wp2
        go_loopw [6, 7] (fun ok i wr => ∃ j : Nat, j ≤ k ∧ i = .int .i64 j ∧ ok = .bool (r && (fo (l.take j) a).isNone) ∧ Ext w1 wr) (fun _ i _ => k - (intOf i).toNat)
        case atStart => exact ⟨0, Nat.zero_le _, rfl, by simp [fo_nil], Ext.refl _⟩
        case round =>
          obtain ⟨j, hj, rfl, rfl, hE2⟩ := hrel
          generalize hB : (r && (fo (l.take j) a).isNone) = B
          have HB : Hid ((r && (fo (l.take j) a).isNone) = B) := hB
          clear hB
          by_cases hjk : j < k
          · have hjl : j < l.length := by omega
            obtain ⟨d0, d1, d2⟩ := hFF.ext (hEo.trans hE2) j hjl
            have e0 := (hEo.trans hE2).cell c0
            clear d1 d2
            generalize hx : l[j].attr = x at d0
            have HX : Hid (l[j].attr = x) := hx
            clear hx hFF c0 c1 c2 hrr hc
            have hstep : Hid ((r && (fo (l.take (j + 1)) a).isNone) = (B && (x != (a : Int)))) := by
              show _ = _
              rw [none_succ l j a hjl, HX.out, ← Bool.and_assoc, HB.out]
            cases B with
            | false =>
              go_wp2_with fail
              go_quiet (fail)
              go_wp2
              go_roundw
              case rel => exact ⟨j + 1, by omega, by go_num, by rw [hstep.out]; rfl, hE2.trans (drewN_ext _ _)⟩
              case measure => simp [intOf]; omega
            | true =>
              go_wp2_with fail
              go_quiet (fail)
              go_wp2
              go_roundw
              case rel => exact ⟨j + 1, by omega, by go_num, by rw [hstep.out]; simp, hE2.trans (drewN_ext _ _)⟩
              case measure => simp [intOf]; omega
          · obtain rfl : j = k := by omega
            have hfin : Hid (fieldOK sch (l.take j) ⟨(a : Int), fv⟩ = B) := by
              show _ = _
              rw [fieldOK_in sch _ a fv T r hal HT.out HR.out, HB.out]
            have hEw := hE1.trans hE2
            clear hFF c0 c1 c2 hrr hc
            cases B with
            | false =>
              have hkq : j = q := by
                rcases Nat.lt_or_ge j q with h | h
                · have h1 := hOK.out.1 h
                  rw [hfin.out] at h1; cases h1
                · omega
              have hp := hpl.out hkq
              have HP : Hid (placeOf l q = (j : Int)) := hp
              clear hp hkq
              go_wp2
              go_ret
              exact ⟨ret_int HP.out.symm, hEw⟩
            | true =>
              have hkq : j < q := by
                rcases Nat.lt_or_ge j q with h | h
                · exact h
                · have h1 := hOK.out.2 (by omega)
                  rw [hfin.out] at h1; cases h1
              go_wp2
              go_roundw
              case rel => exact ⟨j + 1, by omega, by go_num, hEw⟩
              case measure => simp [intOf]; omega
      · have hfin := fieldOK_out sch (l.take k) at_ fv ha
        have hkq : k = q := by
          rcases Nat.lt_or_ge k q with h | h
          · have h1 := hOK.out.1 h
            rw [hfin] at h1; cases h1
          · omega
        have HP : Hid (placeOf l q = (k : Int)) := hpl.out hkq
        clear hkq hfin hFF hSS c1 c2
        by_cases h0 : at_ < 0
        · go_wp2_with fail
          go_quiet (fail)
          go_wp2
          go_ret
          exact ⟨ret_int HP.out.symm, hE.trans (drewN_ext _ _)⟩
        · have h1 : (sch.length : Int) ≤ at_ := by omega
          go_wp2_with fail
          go_quiet (fail)
          go_wp2
          go_ret
          exact ⟨ret_int HP.out.symm, hE.trans (drewN_ext _ _)⟩
    · have HP : Hid (placeOf l q = -1) := by show _ = _; unfold placeOf; rw [if_neg (by omega)]
      clear hf hs hr
      go_wp2
      go_ret
      exact ⟨ret_int HP.out.symm, hE⟩
end Go.Proofs.Ytepioeaomlmocaa
