import Derived.Test.YtepioeaomlmocaaRSub
namespace Go.Proofs.Ytepioeaomlmocaa
open Go.RowKit

theorem osl_cds {w : World} {T : Nat} {ao : Option Addr} {cap : Nat} {l : List Cd} (h : OSl w T 6 ao l.length cap (l.flatMap Cd.cells)) (hp : 0 < l.length) : ∃ b, ao = some ⟨b, 0, none⟩ ∧ Cds w b 0 l := by
  obtain ⟨g, rfl, _⟩ := h.at (flat_at Cd.cells 6 (fun _ => rfl) l 0 0 hp (by omega))
  refine ⟨g, rfl, fun j hj => ?_⟩
  have key : ∀ r, r < 6 → ∀ v, (Cd.cells l[j])[r]? = some v → w.cell? ⟨g, 0 + j * 6 + r, none⟩ = some v := by
    intro r hr v hv
    rw [← flat_at Cd.cells 6 (fun _ => rfl) l j r hj hr] at hv
    obtain ⟨g', e, hc⟩ := h.at hv
    cases e
    rw [Nat.zero_add]; exact hc
  exact ⟨key 0 (by omega) _ rfl, key 1 (by omega) _ rfl, key 2 (by omega) _ rfl, key 3 (by omega) _ rfl, key 4 (by omega) _ rfl, key 5 (by omega) _ rfl⟩
theorem Kp.one {rb : Nat} {F : Nat → Prop} {w w' : World} (h : Kp (fun b => b = rb) w w') (hF : F rb) : Kp F w w' := h.mono (fun k _ e => by subst e; exact hF)
theorem thereB_yes {flt : List (Int × List Cd)} {id : Int} {q : Nat} (hq : q < flt.length) (h : flt[q].1 = id) : thereB flt id q = true := by
  simp [thereB, hq, h]
theorem thereB_no {flt : List (Int × List Cd)} {id : Int} {q : Nat} (h : ∀ hq : q < flt.length, ¬ flt[q].1 = id) : thereB flt id q = false := by
  unfold thereB
  by_cases hq : q < flt.length
  · simp [hq, h hq]
  · rw [List.getElem?_eq_none (by omega)]

theorem rSub_any (rb : Nat) (F : Nat → Prop) (sch : List Int) (flt : List (Int × List Cd)) (id : Int) (ao : Option Addr) (cap : Nat) (l : List Cd) (w : World) (hn : sch.length ≤ 6) (hf : flt.length ≤ 100) (hl : l.length * 64 ≤ 140737488351232)
    (hR : RefAt w rb F sch flt) (hc : Cxs w ao l) (hcn : ao = none → l.length = 0 ∧ cap = 0) (q k : Nat) (hq : PosOf flt id q) (hk : BadOf sch l k) :
    Calls Try.prog 37 #[.pointer (some ⟨rb, 0, none⟩), .int .i64 id, .slice ao l.length cap] w fun e w' => e = .returned (.tuple #[.int .i64 (subErr flt id l q k), .int .i64 (subPlace flt id l q k)]) ∧ Kp F w w' ∧ RefAt w' rb (Grow F w w') sch (subFlt flt id l q k) := by
  have hR0 := hR
  have grow : ∀ w', Ext w w' → Kp F w w' ∧ RefAt w' rb (Grow F w w') sch flt := fun w' hE => ⟨hE.kp _, (hR0.kp (hE.kp (fun _ => False)) (fun _ _ h => h)).mono (fun b hb => Or.inl hb)⟩
  by_cases hid : id < 0
  · refine (rSub_neg rb id ao l.length cap w hid).mono ?_
    rintro e w' ⟨rfl, rfl⟩
    have e2 : subErr flt id l q k = 2 := by simp [subErr, hid]
    obtain ⟨g1, g2⟩ := grow w' (Ext.refl _)
    refine ⟨by simp [subPlace, e2], g1, ?_⟩
    have : subFlt flt id l q k = flt := by simp [subFlt, e2]
    rw [this]; exact g2
  obtain ⟨hFr, sb, sc, fa, fcap, ev, es, hes, hrow, hFs, hsn, hI, hO, hFa, hEs⟩ := hR
  obtain ⟨hkl, hky⟩ := key_at hes
  have mk : ∀ c, c ≠ 0 → c ≠ 5 → subErr flt id l q k = c → ∀ w', Ext w w' → (Ending.returned (.tuple #[.int .i64 c, .int .i64 0]) = .returned (.tuple #[.int .i64 (subErr flt id l q k), .int .i64 (subPlace flt id l q k)]) ∧ Kp F w w' ∧ RefAt w' rb (Grow F w w') sch (subFlt flt id l q k)) := by
    intro c h0 h5 hc w' hE
    obtain ⟨g1, g2⟩ := grow w' hE
    have e1 : subFlt flt id l q k = flt := by simp [subFlt, hc, h0]
    have e2 : subPlace flt id l q k = 0 := by simp [subPlace, hc, h5]
    rw [e1, e2, hc]
    exact ⟨rfl, g1, g2⟩
  have mk5 : subErr flt id l q k = 5 → ∀ w', Ext w w' → (Ending.returned (.tuple #[.int .i64 5, .int .i64 k]) = .returned (.tuple #[.int .i64 (subErr flt id l q k), .int .i64 (subPlace flt id l q k)]) ∧ Kp F w w' ∧ RefAt w' rb (Grow F w w') sch (subFlt flt id l q k)) := by
    intro hc w' hE
    obtain ⟨g1, g2⟩ := grow w' hE
    have e1 : subFlt flt id l q k = flt := by simp [subFlt, hc]
    have e2 : subPlace flt id l q k = k := by simp [subPlace, hc]
    rw [e1, e2, hc]
    exact ⟨rfl, g1, g2⟩
  have mk0 : subErr flt id l q k = 0 → SubDone rb sch sb sc ev es id l q w (fun e w' => e = .returned (.tuple #[.int .i64 (subErr flt id l q k), .int .i64 (subPlace flt id l q k)]) ∧ Kp F w w' ∧ RefAt w' rb (Grow F w w') sch (subFlt flt id l q k)) := by
    intro hc w' ao1 cap1 fa' fcap' hK hrow' hown' hnew hown1 hnew1
    have hrl := hrow.lt
    have e1 : subFlt flt id l q k = flt.take q ++ (id, l) :: flt.drop q := by simp [subFlt, hc]
    have e2 : subPlace flt id l q k = 0 := by simp [subPlace, hc]
    rw [e1, e2, hc]
    refine ⟨rfl, hK.one hFr, Or.inl hFr, sb, sc, fa', fcap', ev, es.take q ++ ⟨id, l, ao1, cap1⟩ :: es.drop q, ?_, ?_, Or.inl hFs, hsn, hI.kp hK hsn, ?_, ?_, ?_⟩
    · rw [← hes]; simp [Ent.key, List.map_take, List.map_drop]
    · have el : (es.take q ++ (⟨id, l, ao1, cap1⟩ : Ent) :: es.drop q).length = es.length + 1 := by
        have := hq.1; simp; omega
      rw [el]; exact hrow'
    · have el : (es.take q ++ (⟨id, l, ao1, cap1⟩ : Ent) :: es.drop q).length = es.length + 1 := by
        have := hq.1; simp; omega
      rw [el]; exact hown'
    · intro g hg
      have := hnew g hg
      exact ⟨Or.inr ⟨this, hown'.lt hg⟩, by omega⟩
    · have old : ∀ e ∈ es, EntOK w' (Grow F w w') (fun b => b = rb) e := fun e he => ((hEs e he).kp hK (fun b _ hb => hb)).mono (fun b h1 h2 _ => ⟨Or.inl h1, h2⟩)
      intro e he
      rcases List.mem_append.1 he with h | h
      · exact old e (List.mem_of_mem_take h)
      · rcases List.mem_cons.1 h with rfl | h
        · intro hp
          obtain ⟨b, hb, hC⟩ := osl_cds hown1 hp
          have := hnew1 b (by rw [hb]; rfl)
          exact ⟨b, hb, hC, Or.inr ⟨this, World.block_lt_of_cell? w' _ (hC 0 hp).1⟩, by omega⟩
        · exact old e (List.mem_of_mem_drop h)
  by_cases hfa : fa = none
  · subst hfa
    rcases hO.form with ⟨_, h0, hc0, _⟩ | ⟨_, _, h, _⟩
    · obtain rfl : es = [] := List.eq_nil_of_length_eq_zero h0
      subst hc0
      have hf0 : flt = [] := by rw [← hes]; rfl
      have hq0 : q = 0 := by have := hq.1; rw [hf0] at this; simpa using this
      have hth : thereB flt id q = false := by rw [hf0]; simp [thereB]
      subst hq0
      refine rSub_nil rb sch sb sc ev id ao cap l w hn hl hid hrow hI hO hc hcn k hk _ ?_ ?_ ?_
      · intro h8; exact mk 4 (by decide) (by decide) (by simp [subErr, hid, hth, h8]) w (Ext.refl _)
      · intro h8 hk5 w' hE; exact mk5 (by simp [subErr, hid, hth, h8, hk5]) w' hE
      · intro h8 hk5; exact mk0 (by rw [hf0] at hth ⊢; simp [subErr, hid, hth, h8, hk5])
    · cases h
  · refine rSub_core rb sch sb sc fa fcap ev es id ao cap l w hn (by omega) hl hid hrow hI hO hc hcn q k hfa (by have := hq.1; omega) ?_ ?_ hk _ ?_ ?_ ?_ ?_ ?_
    · intro j hj hjq
      have := hq.2.1 j (by omega) hjq
      rw [hky j hj] at this; exact this
    · intro hq'
      have := hq.2.2 (by omega)
      rw [hky q hq'] at this; exact this
    · intro hq' he
      have hqf : q < flt.length := by omega
      have hth : thereB flt id q = true := thereB_yes hqf (by rw [hky q hq' hqf]; exact he)
      exact mk 3 (by decide) (by decide) (by simp [subErr, hid, hth]) w (Ext.refl _)
    all_goals
      intro hne
      have hth : thereB flt id q = false := thereB_no (fun hq' => by rw [hky q (by omega)]; exact hne (by omega))
    · intro h8; exact mk 4 (by decide) (by decide) (by simp [subErr, hid, hth, h8]) w (Ext.refl _)
    · intro h8 hk5 w' hE; exact mk5 (by simp [subErr, hid, hth, h8, hk5]) w' hE
    · intro h8 hk5 h100 w' hE; exact mk 6 (by decide) (by decide) (by simp [subErr, hid, hth, h8, hk5]; omega) w' hE
    · intro h8 hk5 h100; exact mk0 (by simp [subErr, hid, hth, h8, hk5]; omega)
end Go.Proofs.Ytepioeaomlmocaa
