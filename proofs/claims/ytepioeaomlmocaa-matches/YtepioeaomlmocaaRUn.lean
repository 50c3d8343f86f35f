import Derived.Test.YtepioeaomlmocaaRSubA
namespace Go.Proofs.Ytepioeaomlmocaa
open Go.RowKit

def UnDone (rb : Nat) (sch : List Int) (sb sc : Nat) (ev : Int) (es : List Ent) (q : Nat) (w : World) (R : Ending → World → Prop) : Prop :=
  ∀ (w' : World) (fa' : Option Addr) (fcap' : Nat), Kp (fun b => b = rb) w w' → Row w' rb 94 [.slice (some ⟨sb, 0, none⟩) sch.length sc, .slice fa' (es.length - 1) fcap', .int .i64 ev] →
    OSl w' 116 2 fa' (es.length - 1) fcap' ((es.take q ++ es.drop (q + 1)).flatMap Ent.cells) → (∀ g, blkOf fa' = some g → w.heap.size ≤ g) → R (.returned (.int .i64 0)) w'

theorem un_tail {rb : Nat} {sch : List Int} {sb sc : Nat} {ev : Int} {es : List Ent} {q : Nat} {w w4 : World} {R : Ending → World → Prop} {ao4 : Option Addr} {cap4 fcap : Nat} {fa : Option Addr} (h : UnDone rb sch sb sc ev es q w R)
    (hrow : Row w rb 94 [.slice (some ⟨sb, 0, none⟩) sch.length sc, .slice fa es.length fcap, .int .i64 ev]) (hE4 : Ext w w4)
    (hown4 : OSl w4 116 2 ao4 (q + (es.length - (q + 1))) cap4 ((es.take q).flatMap Ent.cells ++ (es.drop (q + 1)).flatMap Ent.cells)) (hF4 : ∀ g, blkOf ao4 = some g → w.heap.size ≤ g) (hq : q < es.length) :
    R (.returned (.int .i64 0)) (w4.setCell ⟨rb, 1, none⟩ (.slice ao4 (q + (es.length - (q + 1))) cap4)) := by
  have e : q + (es.length - (q + 1)) = es.length - 1 := by omega
  have hrl := hrow.lt
  have hK : Kp (fun b => b = rb) w4 (w4.setCell ⟨rb, 1, none⟩ (.slice ao4 (q + (es.length - (q + 1))) cap4)) := (Kp.refl (fun b => b = rb) _).setCell (fun _ => rfl) _
  refine h _ ao4 cap4 ((hE4.kp _).trans hK) ?_ ?_ hF4
  · have := (hrow.ext hE4).set 1 (.slice ao4 (q + (es.length - (q + 1))) cap4)
    rw [e] at this ⊢
    simpa using this
  · have h4 := hown4.kp hK (fun g hg => by have := hF4 g hg; omega)
    rw [List.flatMap_append]
    rw [e] at h4 ⊢
    exact h4

set_option maxHeartbeats 3200000 in
set_option maxRecDepth 100000 in
theorem rUn_core (rb : Nat) (sch : List Int) (sb sc : Nat) (fa : Option Addr) (fcap : Nat) (ev : Int) (es : List Ent) (id : Int) (w : World) (hf : es.length ≤ 100)
    (hrow : Row w rb 94 [.slice (some ⟨sb, 0, none⟩) sch.length sc, .slice fa es.length fcap, .int .i64 ev]) (HO : OSl w 116 2 fa es.length fcap (es.flatMap Ent.cells))
    (q : Nat) (hq1 : q ≤ es.length) (hq2 : ∀ j (hj : j < es.length), j < q → ¬ es[j].id = id) (hq3 : ∀ hq : q < es.length, es[q].id = id) (R : Ending → World → Prop)
    (R7 : q = es.length → R (.returned (.int .i64 7)) w) (R0 : q < es.length → UnDone rb sch sb sc ev es q w R) :
    Calls Try.prog 47 #[.pointer (some ⟨rb, 0, none⟩), .int .i64 id] w R := by
  have r1 := hrow.at (j := 1) rfl
  have HQ2 : Hid (∀ j (hj : j < es.length), j < q → ¬ es[j].id = id) := hq2
  have HQ3 : Hid (∀ hq : q < es.length, es[q].id = id) := hq3
  have HR7 : Hid _ := R7
  have HR0 : Hid _ := R0
  clear R7 R0 hq2 hq3
  go_enter Try.func47, Try.ntmps47
  go_wp2
  go_loop [5] (fun i => ∃ j : Nat, j ≤ q ∧ i = .int .i64 j) (fun i => es.length - (intOf i).toNat)
  case atStart => exact ⟨0, Nat.zero_le _, rfl⟩
  case round =>
    obtain ⟨j, hj, rfl⟩ := hrel
    by_cases hjl : j < es.length
    · obtain ⟨fb, rfl, e0⟩ := HO.at (ent_at es j hjl).1
      have hcp : es.length ≤ fcap := by rcases HO.form with ⟨h, _⟩ | ⟨_, _, _, _, h, _⟩; cases h; exact h
      by_cases hjq : j < q
      · have hne : (es[j].id == id) = false := by simpa using HQ2.out j hjl hjq
        generalize es[j].id = ej at *
        go_wp2
        go_round
        case rel => exact ⟨j + 1, by omega, by go_num⟩
        case measure => simp [intOf]; omega
      · obtain rfl : j = q := by omega
        have hne : (es[j].id == id) = true := by simpa using HQ3.out hjl
        generalize es[j].id = ej at *
        have tok2 : True := trivial
        have tok4 : True := trivial
        have hE1 := Ext.refl w
        go_wp2_with (first
          | (at_builtin; have _t := tok2; go_must (refine wpList_app rfl (.tmp 26) (.tmp 32) 92 rfl 116 (.agg #[.int .i64 0, .slice none 0 0]) 2 32 Try.underlying92 Try.infoFlt rfl (by decide) none 0 0 [] rfl (OSl.nil _ _ _) _ j _ ((es.take j).flatMap Ent.cells) rfl (by intro h; cases h) (by rw [ent_len]; simp; omega) (osl_take HO j hq1) (ent_one _) (by unfold maxLen; omega) (by omega) ?_; intro ao2 cap2 w2 hown2 hk2 hat2; simp only [Nat.zero_add, List.nil_append] at hown2; have hE2 : Ext w w2 := hk2.ext (fun _ _ h => by cases h); have q2 := hE2.cell r1; have hF2 : Hid (∀ g, blkOf ao2 = some g → w.heap.size ≤ g) := fresh1 (Nat.le_refl _) hat2; clear hk2 tok2 hat2))
          | (at_builtin; have _t := tok4; go_must (refine wpList_app rfl (.tmp 35) (.tmp 42) 92 rfl 116 (.agg #[.int .i64 0, .slice none 0 0]) 2 32 Try.underlying92 Try.infoFlt rfl (by decide) ao2 j cap2 _ rfl hown2 _ (es.length - (j + 1)) _ ((es.drop (j + 1)).flatMap Ent.cells) rfl (by intro h; first | cases h | (split at h <;> cases h)) (by rw [ent_len]; simp) (fun hp => ⟨_, by first | rfl | (rw [if_neg (by omega)]), osl_drop (HO.ext hE2) (j + 1)⟩) (ent_one _) (by unfold maxLen; omega) (by omega) ?_; intro ao4 cap4 w4 hown4 hk4 hat4; have hE4 : Ext w w4 := hE2.kpNew hk4 hF2.out; have q4 := hE4.cell r1; have z4 := (hrow.ext hE4).frozen 1; have hF4 : Hid (∀ g, blkOf ao4 = some g → w.heap.size ≤ g) := fresh2 hE2.le hF2.out hat4; clear tok4 hat4)))
        all_goals exact un_tail (HR0.out hjl) hrow hE4 hown4 hF4.out hjl
    · obtain rfl : j = q := by omega
      have HRR : Hid _ := HR7.out (by omega)
      go_wp2
      exact HRR.out

/-- The numbers rise. -/
def SortedF (flt : List (Int × List Cd)) : Prop := ∀ i j (hi : i < flt.length) (hj : j < flt.length), i < j → flt[i].1 < flt[j].1
def unErr (flt : List (Int × List Cd)) (id : Int) (q : Nat) : Int := if thereB flt id q then 0 else 7
def unFlt (flt : List (Int × List Cd)) (id : Int) (q : Nat) : List (Int × List Cd) := if thereB flt id q then flt.take q ++ flt.drop (q + 1) else flt
theorem there_iff {flt : List (Int × List Cd)} {id : Int} {q : Nat} : thereB flt id q = true ↔ ∃ hq : q < flt.length, flt[q].1 = id := by
  constructor
  · intro h
    by_cases hq : q < flt.length
    · refine ⟨hq, ?_⟩
      simpa [thereB, hq] using h
    · unfold thereB at h
      rw [List.getElem?_eq_none (by omega)] at h; cases h
  · rintro ⟨hq, h⟩; exact thereB_yes hq h

theorem rUn_any (rb : Nat) (F : Nat → Prop) (sch : List Int) (flt : List (Int × List Cd)) (id : Int) (w : World) (hf : flt.length ≤ 100) (hS : SortedF flt)
    (hR : RefAt w rb F sch flt) (q : Nat) (hq : PosOf flt id q) :
    Calls Try.prog 47 #[.pointer (some ⟨rb, 0, none⟩), .int .i64 id] w fun e w' => e = .returned (.int .i64 (unErr flt id q)) ∧ Kp F w w' ∧ RefAt w' rb (Grow F w w') sch (unFlt flt id q) := by
  have hR0 := hR
  obtain ⟨hFr, sb, sc, fa, fcap, ev, es, hes, hrow, hFs, hsn, hI, hO, hFa, hEs⟩ := hR
  obtain ⟨hkl, hky⟩ := key_at hes
  cases hth : thereB flt id q with
  | true =>
    obtain ⟨hqf, hid⟩ := there_iff.1 hth
    have e1 : unErr flt id q = 0 := by simp [unErr, hth]
    have e2 : unFlt flt id q = flt.take q ++ flt.drop (q + 1) := by simp [unFlt, hth]
    rw [e1, e2]
    refine rUn_core rb sch sb sc fa fcap ev es id w (by omega) hrow hO q (by omega) ?_ ?_ _ ?_ ?_
    · intro j hj hjq
      have := hq.2.1 j (by omega) hjq
      rw [hky j hj (by omega)] at this
      simp only at this; omega
    · intro hq'
      rw [hky q hq' hqf] at hid; exact hid
    · intro h; omega
    · intro hqe w' fa' fcap' hK hrow' hown' hnew
      have hrl := hrow.lt
      have el : (es.take q ++ es.drop (q + 1)).length = es.length - 1 := by simp; omega
      refine ⟨rfl, hK.one hFr, Or.inl hFr, sb, sc, fa', fcap', ev, es.take q ++ es.drop (q + 1), ?_, ?_, Or.inl hFs, hsn, hI.kp hK hsn, ?_, ?_, ?_⟩
      · rw [← hes]; simp [List.map_take, List.map_drop]
      · rw [el]; exact hrow'
      · rw [el]; exact hown'
      · intro g hg
        have := hnew g hg
        exact ⟨Or.inr ⟨this, hown'.lt hg⟩, by omega⟩
      · intro e he
        have hme : e ∈ es := by
          rcases List.mem_append.1 he with h | h
          · exact List.mem_of_mem_take h
          · exact List.mem_of_mem_drop h
        exact ((hEs e hme).kp hK (fun b _ hb => hb)).mono (fun b h1 h2 _ => ⟨Or.inl h1, h2⟩)
  | false =>
    have e1 : unErr flt id q = 7 := by simp [unErr, hth]
    have e2 : unFlt flt id q = flt := by simp [unFlt, hth]
    rw [e1, e2]
    have hne : ∀ j (hj : j < flt.length), ¬ flt[j].1 = id := by
      intro j hj he
      rcases Nat.lt_trichotomy j q with h | h | h
      · have := hq.2.1 j hj h; omega
      · subst h
        rw [there_iff.2 ⟨hj, he⟩] at hth; cases hth
      · have hqf : q < flt.length := by omega
        have h1 := hq.2.2 hqf
        have h2 := hS q j hqf hj h
        have h3 : ¬ flt[q].1 = id := fun e => by rw [there_iff.2 ⟨hqf, e⟩] at hth; cases hth
        omega
    refine rUn_core rb sch sb sc fa fcap ev es id w (by omega) hrow hO es.length (Nat.le_refl _) ?_ ?_ _ ?_ ?_
    · intro j hj _
      have := hne j (by omega)
      rw [hky j hj (by omega)] at this; exact this
    · intro h; omega
    · intro _
      exact ⟨rfl, Kp.refl _ _, hR0.mono (fun b hb => Or.inl hb)⟩
    · intro h; omega
end Go.Proofs.Ytepioeaomlmocaa
