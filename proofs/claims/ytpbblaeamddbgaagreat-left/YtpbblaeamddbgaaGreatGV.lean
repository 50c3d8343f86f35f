import Derived.Deep.RegionWith
import Derived.Test.YtpbblaeamddbgaaGreatGS
namespace Go.Proofs.YtpbblaeamddbgaaGreat
open Go.RowKit

theorem nodes_any (tb : Nat) (k : Int) (w : World) (h : w.cell? ⟨tb, 2, none⟩ = some (.int .i64 k)) :
    Calls Tryz.prog 56 #[.pointer (some ⟨tb, 0, none⟩)] w fun e w' => e = .returned (.int .i64 k) ∧ w' = w := by
  go_enter Tryz.func56, Tryz.ntmps56
  go_wp2
  go_ret
  exact ⟨rfl, rfl⟩
theorem load64 (a : Addr) (n : Int) (w : World) (hc : w.cell? a = some (.int .i64 n)) :
    Calls Tryz.prog 57 #[.pointer (some a)] w fun e w' => e = .returned (.int .i64 n) ∧ w' = w := by
  have hl := run_call_load (P := Tryz.prog) Tryz.func108 (by kernel_rfl) (by kernel_rfl) (by kernel_rfl) .i64 (by kernel_rfl) hc
  go_enter Tryz.func57, Tryz.ntmps57
  go_wp2
  go_ret
  exact ⟨rfl, rfl⟩
theorem Kp.fresh1 {M : Nat → Prop} {a b c : World} {g : Nat} (h : Kp M a b) (k : Kp (fun x => x = g) b c) (hg : a.heap.size ≤ g) : Kp M a c :=
  ⟨k.os.trans h.os, k.tape.trans h.tape, k.output.trans h.output, Nat.le_trans h.size k.size, fun i hi hm => (k.block i (Nat.lt_of_lt_of_le hi h.size) (by omega)).trans (h.block i hi hm)⟩
theorem results_one {P : Program} {fn : Func} {p : Tmp} {ty : TypeId} (h : fn.results = #[.cell p ty]) (tmps : Array Value) (w : World) (g : Nat) (cs : List Value) (d : TypeDesc) (T : TypeId) (hr : Row w g T cs)
    (hu : P.underlying ty = some d) (hd : d.isRow = true) (hi : (P.info? ty).map (·.size) = some cs.length) (hp : tmps.getD p undef = .pointer (some ⟨g, 0, none⟩)) :
    (results fn tmps).run P w = .ok (.agg cs.toArray) w := by
  have hl := run_loadVar_mid (P := P) w g 0 ty cs d hr.range hu hd hi
  have hp' : tmps[p]?.getD undef = .pointer (some ⟨g, 0, none⟩) := by simpa using hp
  simp only [results, h]
  simp [hp', asAddr, hl]
theorem Tryz.sizeSt : (Tryz.prog.info? 62).map (·.size) = some 3 := by kernel_rfl
section
variable {w : World} {eb : Nat} {tg : Nat → Nat} {own : Nat → ITag} {sch : List Int} {r : EngR}
theorem EngS.nodes (S : EngS w eb tg own sch r) (hd : r.d = 1) (tb : Nat) (htp : r.tp = some ⟨tb, 0, none⟩) : ∃ k : Nat, w.cell? ⟨tb, 2, none⟩ = some (.int .i64 k) ∧ 1 ≤ k ∧ k ≤ 1 + r.es.length * sch.length := by
  rcases S.tr with h | ⟨_, tb', N, R, oa, oc, h1, T, O⟩
  · rw [hd] at h; exact absurd h (by decide)
  · rw [htp] at h1
    cases h1
    obtain ⟨rb, _, hrow⟩ := T.row
    refine ⟨N.length, hrow.at (j := 2) rfl, O.pos, ?_⟩
    have h1 := O.cnt
    rw [S.kslen, S.ord_len] at h1
    exact h1
set_option maxHeartbeats 1600000 in
set_option maxRecDepth 100000 in
theorem stats_any (S : EngS w eb tg own sch r) : Calls Tryz.prog 28 #[.pointer (some ⟨eb, 0, none⟩)] w fun e w' => ∃ (k : Nat) (tg' : Nat → Nat) (tb : Nat), e = .returned (.agg #[.int .i64 r.es.length, .int .i64 k, .int .i64 r.n]) ∧ 1 ≤ k ∧ k ≤ 1 + r.es.length * sch.length ∧ EngS w' eb tg' own sch { r with d := 1, tp := some ⟨tb, 0, none⟩ } ∧ (∀ b, tg' b ≠ 0 → tg b ≠ 0 ∨ (w.heap.size ≤ b ∧ b < w'.heap.size)) ∧ Kp (fun b => b = r.lb) w w' := by
  have HA : Hid (∀ W, Ext w W → Calls Tryz.prog 55 #[.pointer (some ⟨eb, 0, none⟩)] W fun e w' => AskPost W eb tg own sch r e w') := fun W h => ask_any (S.ext h)
  obtain ⟨W0, hW0⟩ : ∃ W0, W0 = w.alloc (.cells #[.int .i64 0, .int .i64 0, .int .i64 0] 62) := ⟨_, rfl⟩
  have hE0 : Ext w W0 := by rw [hW0]; exact (Ext.refl _).alloc _
  have hR0 : Row W0 w.heap.size 62 [.int .i64 0, .int .i64 0, .int .i64 0] := by rw [hW0]; exact row_alloc _ _ _ _ _ rfl rfl
  have hll := S.l.lt
  have S0 := S.ext hE0
  have f1 := S0.at (j := 1) (v := .slice r.fa r.es.length r.fcap) rfl
  have f65 := S0.evc
  have HT : Hid (∀ b, tg b ≠ 0 → b < w.heap.size) := S.lt
  have HR0 : Hid (Row W0 w.heap.size 62 [.int .i64 0, .int .i64 0, .int .i64 0]) := hR0
  clear S S0 hR0
  go_enter Tryz.func28, Tryz.ntmps28
  go_wp2_with fail
  rw [← hW0]
  clear hW0
  go_region_with (first
    | (go_at_call 55; refine Calls.mono (HA.out W0.drew (by exact hE0.trans (Ext.refl _).drew)) ?_; rintro e w1 ⟨tg', tb, rfl, S1, h1, h2, hK⟩; have g1 := S1.at (j := 1) (v := .slice r.fa r.es.length r.fcap) rfl; have g65 := S1.evc; obtain ⟨k, c2, k1, k2⟩ := S1.nodes rfl tb rfl; have rr := hK.row (HR0.out.ext (Ext.refl _).drew) (by omega); have q0 := rr.at (j := 0) rfl; have q1 := rr.at (j := 1) rfl; have q2 := rr.at (j := 2) rfl; have qf := rr.frozen)
    | (go_at_call 56; refine Calls.mono (nodes_any tb k w1 c2) ?_; rintro e w2 ⟨rfl, rfl⟩)
    | (go_at_call 57; refine Calls.mono (load64 ⟨eb, 65, none⟩ r.n _ g65) ?_; rintro e w2 ⟨rfl, rfl⟩))
  all_goals
    have hks : Kp (fun b => b = w.heap.size) w2 (((w2.setCell ⟨w.heap.size, 0, none⟩ (.int .i64 r.es.length)).setCell ⟨w.heap.size, 1, none⟩ (.int .i64 k)).setCell ⟨w.heap.size, 2, none⟩ (.int .i64 r.n)) := (((Kp.refl (fun b => b = w.heap.size) w2).setCell (fun _ => rfl) _).setCell (fun _ => rfl) _).setCell (fun _ => rfl) _
    have rF := ((rr.set 0 (.int .i64 r.es.length)).set 1 (.int .i64 k)).set 2 (.int .i64 r.n)
    have z0 := hE0.le
    have zl : w.heap.size < W0.heap.size := HR0.out.lt
    have zK := hK.size
    have t0 : tg' w.heap.size = 0 := by
      rw [h1 w.heap.size zl]
      apply Classical.byContradiction
      intro h
      have := HT.out _ h
      omega
    clear g1 g65 c2 q0 q1 q2 qf f1 f65 HA
    go_wp2
    refine bodyPost_ret (results_one Tryz.results28 _ _ _ _ _ _ rF Tryz.underlying62 rfl Tryz.sizeSt rfl) rfl ⟨k, tg', tb, rfl, k1, k2, S1.kp hks (fun b hb e => hb (by rw [e]; exact t0)), fun b hb => ?_, Kp.fresh1 ((hE0.kp _).trans ((((Ext.refl W0).drew).kp _).trans hK)) hks (Nat.le_refl _)⟩
    rcases h2 b hb with h | h
    · exact Or.inl h
    · exact Or.inr ⟨Nat.le_trans z0 h.1, Nat.lt_of_lt_of_le h.2 hks.size⟩
end
theorem pst_any (eb : Nat) (F : Nat → Prop) (sch : List Int) (flt : List (Int × List Cd)) (n : Int) (w : World) (hE : EngAt w eb F sch flt n) :
    Calls Tryz.prog 28 #[.pointer (some ⟨eb, 0, none⟩)] w fun e w' => ∃ k : Nat, e = .returned (.agg #[.int .i64 flt.length, .int .i64 k, .int .i64 n]) ∧ 1 ≤ k ∧ k ≤ 1 + flt.length * sch.length ∧ Kp F w w' ∧ EngAt w' eb (Grow F w w') sch flt n := by
  obtain ⟨tg, own, r, S, hF, hA, hn⟩ := hE
  refine (stats_any S).mono ?_
  rintro e w' ⟨k, tg', tb, rfl, k1, k2, S', h2, hK⟩
  rw [hA.len, hn]
  refine ⟨k, rfl, k1, by rw [← hA.len]; exact k2, hK.mono (fun b _ e => hF b (by rw [e, S.tl]; decide)), tg', own, _, S', fun b hb => ?_, hA, hn⟩
  rcases h2 b hb with h | h
  · exact Or.inl (hF b h)
  · exact Or.inr h
end Go.Proofs.YtpbblaeamddbgaaGreat
