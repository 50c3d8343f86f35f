import Derived.Test.YtpbblaeamddbgaaGreatGU
import Derived.Test.YtpbblaeamddbgaaGreatGT
import Derived.Test.YtpbblaeamddbgaaGreatGS
import Derived.Test.YtpbblaeamddbgaaGreatGV
import Derived.Test.YtpbblaeamddbgaaGreatHA
namespace Go.Proofs.YtpbblaeamddbgaaGreat
open Go.RowKit

set_option maxHeartbeats 800000 in
set_option maxRecDepth 100000 in
theorem psub_any (eb : Nat) (F : Nat → Prop) (sch : List Int) (flt : List (Int × List Cd)) (n : Int) (id : Int) (ao : Option Addr) (cap : Nat) (l : List Cd) (w : World) (hf : flt.length ≤ 100) (hS : SortedF flt) (hwf : wfI id)
    (hE : EngAt w eb F sch flt n) (hc : Cxs w ao l) (q k : Nat) (hq : PosOf flt id q) (hk : BadOf sch l k) :
    Calls Tryz.prog 24 #[.pointer (some ⟨eb, 0, none⟩), .int .i64 id, .slice ao l.length cap] w fun e w' => e = .returned (.tuple #[.int .i64 (subErr flt id l q k), .int .i64 (subPlace flt id l q k)]) ∧ Kp F w w' ∧ EngAt w' eb (Grow F w w') sch (subFlt flt id l q k) n := by
  have hE0 := hE
  have grow : ∀ w', Ext w w' → Kp F w w' ∧ EngAt w' eb (Grow F w w') sch flt n := fun w' hE => ⟨hE.kp _, (hE0.kp (hE.kp (fun _ => False)) (fun _ _ h => h)).mono (fun b hb => Or.inl hb)⟩
  have mk : ∀ c, c ≠ 0 → c ≠ 5 → subErr flt id l q k = c → ∀ w', Ext w w' → (Ending.returned (.tuple #[.int .i64 c, .int .i64 0]) = .returned (.tuple #[.int .i64 (subErr flt id l q k), .int .i64 (subPlace flt id l q k)]) ∧ Kp F w w' ∧ EngAt w' eb (Grow F w w') sch (subFlt flt id l q k) n) := by
    intro c h0 h5 hc w' hE
    obtain ⟨g1, g2⟩ := grow w' hE
    have e1 : subFlt flt id l q k = flt := by simp [subFlt, hc, h0]
    have e2 : subPlace flt id l q k = 0 := by simp [subPlace, hc, h5]
    rw [e1, e2, hc]
    exact ⟨rfl, g1, g2⟩
  have mk5 : subErr flt id l q k = 5 → ∀ w', Ext w w' → (Ending.returned (.tuple #[.int .i64 5, .int .i64 k]) = .returned (.tuple #[.int .i64 (subErr flt id l q k), .int .i64 (subPlace flt id l q k)]) ∧ Kp F w w' ∧ EngAt w' eb (Grow F w w') sch (subFlt flt id l q k) n) := by
    intro hc w' hE
    obtain ⟨g1, g2⟩ := grow w' hE
    have e1 : subFlt flt id l q k = flt := by simp [subFlt, hc]
    have e2 : subPlace flt id l q k = k := by simp [subPlace, hc]
    rw [e1, e2, hc]
    exact ⟨rfl, g1, g2⟩
  obtain ⟨tg, own, r, S, hF, hA, hn⟩ := hE
  have hlen : r.es.length = flt.length := hA.len
  have hfind := find_any eb r.fa r.fcap r.es flt id w hf hS hA.ids (S.ix.row.at (j := 1) rfl) S.f q hq
  have a0 := S.ix.row.at (j := 0) (v := .slice (some ⟨r.sb, 0, none⟩) sch.length r.sc) rfl
  have a1 := S.ix.row.at (j := 1) (v := .slice r.fa r.es.length r.fcap) rfl
  have hI := S.s
  have hs6 := S.s6
  have HM : Hid _ := mk
  have HM5 : Hid _ := mk5
  have HFi : Hid _ := hfind
  clear mk mk5 hfind grow
  by_cases hid : id < 0
  · clear HFi HM5 S
    go_enter Tryz.func24, Tryz.ntmps24
    go_wp2
    go_ret2
    exact HM.out 2 (by decide) (by decide) (by simp [subErr, hid]) w (Ext.refl _)
  cases hth : thereB flt id q with
  | true =>
    rw [hth] at HFi
    clear HM5 S
    go_enter Tryz.func24, Tryz.ntmps24
    go_wp2_with fail
    refine Calls.mono HFi.out ?_
    rintro e w1 ⟨rfl, hE1⟩
    go_wp2
    go_ret2
    exact HM.out 3 (by decide) (by decide) (by simp [subErr, hid, hth]) w1 hE1
  | false =>
    rw [hth] at HFi
    by_cases h8 : 8 < l.length
    · clear HM5 S
      go_enter Tryz.func24, Tryz.ntmps24
      go_wp2_with fail
      refine Calls.mono HFi.out ?_
      rintro e w1 ⟨rfl, hE1⟩
      go_wp2
      go_ret2
      exact HM.out 4 (by decide) (by decide) (by simp [subErr, hid, hth, h8]) w1 hE1
    have h8' : l.length ≤ 8 := by omega
    by_cases hkl' : k < l.length
    · have HB : Hid (∀ w', Ext w w' → Calls Tryz.prog 48 #[.slice (some ⟨r.sb, 0, none⟩) sch.length r.sc, .slice ao l.length cap] w' fun e w'' => e = .returned (.tuple #[.int .i64 k, .bool true]) ∧ Ext w' w'') := fun w' h => badCond_bad r.sb 0 r.sc sch ao cap l w' hs6 (hI.kp (h.kp (fun _ => False)) (fun h => h)) h8' (hc.ext h) k hkl' hk.2.1 (hk.2.2 hkl')
      clear HM S hlen
      go_enter Tryz.func24, Tryz.ntmps24
      go_wp2_with fail
      refine Calls.mono HFi.out ?_
      rintro e w1 ⟨rfl, hE1⟩
      have b0 := hE1.cell a0
      go_wp2_with fail
      refine Calls.mono (HB.out w1 hE1) ?_
      rintro e w2 ⟨rfl, hE2⟩
      go_wp2
      go_ret2
      exact HM5.out (by simp [subErr, hid, hth, h8, hkl']) w2 (hE1.trans hE2)
    have hall : ∀ j (hj : j < l.length), mayB sch l[j] = true := fun j hj => hk.2.1 j hj (by have := hk.1; omega)
    by_cases h100 : 100 ≤ flt.length
    · have HB : Hid (∀ w', Ext w w' → Calls Tryz.prog 48 #[.slice (some ⟨r.sb, 0, none⟩) sch.length r.sc, .slice ao l.length cap] w' fun e w'' => e = .returned (.tuple #[.int .i64 0, .bool false]) ∧ Ext w' w'') := fun w' h => badCond_ok r.sb 0 r.sc sch ao cap l w' hs6 (hI.kp (h.kp (fun _ => False)) (fun h => h)) h8' (hc.ext h) hall
      have h100e : 100 ≤ r.es.length := by omega
      clear HM5 S hlen
      go_enter Tryz.func24, Tryz.ntmps24
      go_wp2_with fail
      refine Calls.mono HFi.out ?_
      rintro e w1 ⟨rfl, hE1⟩
      have b0 := hE1.cell a0
      go_wp2_with fail
      refine Calls.mono (HB.out w1 hE1) ?_
      rintro e w2 ⟨rfl, hE2⟩
      have hE12 := hE1.trans hE2
      have b1 := hE12.cell a1
      go_wp2
      go_ret2
      exact HM.out 6 (by decide) (by decide) (by simp [subErr, hid, hth, h8, hkl', h100]) w2 hE12
    have hse : subErr flt id l q k = 0 := by simp [subErr, hid, hth, h8, hkl', h100]
    have e1 : subFlt flt id l q k = flt.take q ++ (id, l) :: flt.drop q := by simp [subFlt, hse]
    have e2 : subPlace flt id l q k = 0 := by simp [subPlace, hse]
    rw [e1, e2, hse]
    exact psub_in eb F sch flt n id ao cap l w (by omega) hS hwf hE0 hc q hq hid hth h8' hall
theorem engC : EngC EngAt where
  kp := fun h k hm => h.kp k hm
  mono := fun h hm => h.mono hm
  new_no := fun ao cap xs w hl hx _ hs => new_no ao cap xs w hl hx hs
  new_ok := fun ao cap xs w hl hx _ hs => new_ok ao cap xs w hl hx hs
  sub := fun eb F sch flt n id ao cap l w hf hS hwf hE hc q k hq hk => psub_any eb F sch flt n id ao cap l w hf hS hwf hE hc q k hq hk
  un := fun eb F sch flt n id w hf hS hE q hq => pun_any eb F sch flt n id w hf hS hE q hq
  ma := fun fn hfn eb F sch flt n ao lcap ev w hl hE hfx q hq => by
    rcases hfn with rfl | rfl | rfl
    · exact match_any eb F sch flt n ao lcap ev w hl hE hfx q hq
    · exact byTree_any eb F sch flt n ao lcap ev w hl hE hfx q hq
    · exact byCount_any eb F sch flt n ao lcap ev w hl hE hfx q hq
  rb := fun eb F sch flt n ao cap xs w hE hx => preb_any eb F sch flt n ao cap xs w hE hx
  st := fun eb F sch flt n w hE => pst_any eb F sch flt n w hE
end Go.Proofs.YtpbblaeamddbgaaGreat
