import Derived.Test.YtepioeaomlmocaaMadeY
namespace Go.Proofs.Ytepioeaomlmocaa
open Go.RowKit

/-- The filters of an engine are such as Subscribe lets in. -/
structure Good (sch : List Int) (flt : List (Int × List Cd)) : Prop where
  s1 : 1 ≤ sch.length
  s6 : sch.length ≤ 6
  len : flt.length ≤ 100
  srt : SortedF flt
  ok : FltOK flt
theorem may_ok {sch : List Int} {c : Cd} (h6 : sch.length ≤ 6) (h : mayB sch c = true) (hz : c.a.s.size ≤ 9223372036854775807 ∧ c.b.s.size ≤ 9223372036854775807) : 0 ≤ c.attr ∧ c.attr < 6 ∧ 1 ≤ c.kind ∧ c.kind ≤ 9 ∧ c.a.s.size ≤ 9223372036854775807 ∧ c.b.s.size ≤ 9223372036854775807 := by
  simp only [mayB, Bool.and_eq_true, decide_eq_true_eq] at h
  obtain ⟨⟨⟨⟨h1, h2⟩, h3⟩, h4⟩, _⟩ := h
  exact ⟨h1, by omega, h3, h4, hz⟩
theorem sub_zero {flt : List (Int × List Cd)} {id : Int} {l : List Cd} {q k : Nat} (h : subErr flt id l q k = 0) : thereB flt id q = false ∧ ¬ 8 < l.length ∧ ¬ k < l.length ∧ ¬ 100 ≤ flt.length := by
  unfold subErr at h
  by_cases h1 : id < 0
  · rw [if_pos h1] at h; cases h
  rw [if_neg h1] at h
  cases h2 : thereB flt id q
  · rw [h2] at h
    by_cases h3 : 8 < l.length
    · simp [h3] at h
    by_cases h4 : k < l.length
    · simp [h3, h4] at h
    by_cases h5 : 100 ≤ flt.length
    · simp [h3, h4, h5] at h
    exact ⟨rfl, h3, h4, h5⟩
  · rw [h2] at h; simp at h
theorem getElem_ins {α : Type} (l : List α) (q : Nat) (x : α) (hq : q ≤ l.length) (i : Nat) (hi : i < (l.take q ++ x :: l.drop q).length) :
    (∃ h : i < q, (l.take q ++ x :: l.drop q)[i] = l[i]'(by omega)) ∨ (i = q ∧ (l.take q ++ x :: l.drop q)[i] = x) ∨ (∃ h : q < i, (l.take q ++ x :: l.drop q)[i] = l[i - 1]'(by simp at hi; omega)) := by
  have hl : (l.take q).length = q := by simp; omega
  rcases Nat.lt_trichotomy i q with h | h | h
  · refine Or.inl ⟨h, ?_⟩
    rw [List.getElem_append_left (by omega)]; simp
  · refine Or.inr (Or.inl ⟨h, ?_⟩)
    rw [List.getElem_append_right (by omega)]; simp [hl, h]
  · refine Or.inr (Or.inr ⟨h, ?_⟩)
    rw [List.getElem_append_right (by omega), List.getElem_cons, dif_neg (by omega)]
    simp only [List.getElem_drop]
    congr 1; omega
theorem sub_good {sch : List Int} {flt : List (Int × List Cd)} {id : Int} {l : List Cd} {q k : Nat} (G : Good sch flt) (hq : PosOf flt id q) (hk : BadOf sch l k) (hz : ∀ j (hj : j < l.length), l[j].a.s.size ≤ 9223372036854775807 ∧ l[j].b.s.size ≤ 9223372036854775807) : Good sch (subFlt flt id l q k) := by
  unfold subFlt
  by_cases h0 : subErr flt id l q k = 0
  · rw [if_pos (by simpa using h0)]
    obtain ⟨hth, h8, hkl, h100⟩ := sub_zero h0
    have hqne : ∀ hq' : q < flt.length, ¬ flt[q].1 = id := fun hq' e => by rw [there_iff.2 ⟨hq', e⟩] at hth; cases hth
    have hlen : (flt.take q ++ (id, l) :: flt.drop q).length = flt.length + 1 := by have := hq.1; simp; omega
    have hafter : ∀ j (hj : j < flt.length), q ≤ j → id < flt[j].1 := by
      intro j hj hqj
      have h1 := hq.2.2 (by omega)
      have h2 := hqne (by omega)
      rcases Nat.lt_or_ge q j with h | h
      · have := G.srt q j (by omega) hj h; omega
      · obtain rfl : q = j := by omega
        omega
    refine ⟨G.s1, G.s6, by omega, ?_, ?_⟩
    · intro i j hi hj hij
      rcases getElem_ins flt q (id, l) hq.1 i hi with ⟨a, e1⟩ | ⟨a, e1⟩ | ⟨a, e1⟩ <;> rcases getElem_ins flt q (id, l) hq.1 j hj with ⟨b, e2⟩ | ⟨b, e2⟩ | ⟨b, e2⟩ <;> rw [e1, e2]
      · exact G.srt i j _ _ hij
      · exact hq.2.1 i (by omega) a
      · exact G.srt i (j - 1) _ _ (by omega)
      · omega
      · omega
      · exact hafter (j - 1) _ (by omega)
      · omega
      · omega
      · exact G.srt (i - 1) (j - 1) _ _ (by omega)
    · intro i hi
      rcases getElem_ins flt q (id, l) hq.1 i hi with ⟨a, e1⟩ | ⟨a, e1⟩ | ⟨a, e1⟩ <;> rw [e1]
      · exact G.ok i _
      · refine ⟨fun j hj => may_ok G.s6 (hk.2.1 j hj (by have hj' : j < l.length := hj; omega)) (hz j hj), by simp only; omega⟩
      · exact G.ok (i - 1) _
  · rw [if_neg (by simpa using h0)]; exact G
theorem un_good {sch : List Int} {flt : List (Int × List Cd)} {id : Int} {q : Nat} (G : Good sch flt) : Good sch (unFlt flt id q) := by
  unfold unFlt
  cases hth : thereB flt id q with
  | false => simpa using G
  | true =>
    obtain ⟨hq, _⟩ := there_iff.1 hth
    simp only [if_true]
    have hl : (flt.take q).length = q := by simp; omega
    have hlen : (flt.take q ++ flt.drop (q + 1)).length = flt.length - 1 := by simp; omega
    have at_ : ∀ i (hi : i < (flt.take q ++ flt.drop (q + 1)).length), ∃ i', ∃ hi' : i' < flt.length, (flt.take q ++ flt.drop (q + 1))[i] = flt[i'] ∧ (i < q → i' = i) ∧ (q ≤ i → i' = i + 1) := by
      intro i hi
      rcases Nat.lt_or_ge i q with h | h
      · refine ⟨i, by omega, ?_, fun _ => rfl, fun h' => by omega⟩
        rw [List.getElem_append_left (by omega)]; simp
      · refine ⟨i + 1, by omega, ?_, fun h' => by omega, fun _ => rfl⟩
        rw [List.getElem_append_right (by omega)]
        simp only [List.getElem_drop]
        congr 1; omega
    refine ⟨G.s1, G.s6, by have := G.len; omega, ?_, ?_⟩
    · intro i j hi hj hij
      obtain ⟨i', hi', e1, a1, b1⟩ := at_ i hi
      obtain ⟨j', hj', e2, a2, b2⟩ := at_ j hj
      rw [e1, e2]
      refine G.srt i' j' hi' hj' ?_
      rcases Nat.lt_or_ge i q with h | h <;> rcases Nat.lt_or_ge j q with h' | h'
      · rw [a1 h, a2 h']; exact hij
      · rw [a1 h, b2 h']; omega
      · omega
      · rw [b1 h, b2 h']; omega
    · intro i hi
      obtain ⟨i', hi', e1, _⟩ := at_ i hi
      rw [e1]; exact G.ok i' hi'

/-- What any step on one engine leaves. -/
def NextPost (E : World → Nat → (Nat → Prop) → List Int → List (Int × List Cd) → Prop) (w w' : World) (own : Nat → Nat) (wb : Nat) (v0 v1 v5 : Value) (ic : Nat) (eb rb te tr : Nat) (sch : List Int) : Prop :=
  ∃ own' ia' ic' icap' vs' flt', St w' own' wb v0 v1 v5 ia' ic' icap' vs' ∧ ic' ≤ ic + 4 ∧ Two E w' eb rb (fun b => own' b = te) (fun b => own' b = tr) sch flt' ∧ Good sch flt' ∧ (∀ b, b < w.heap.size → own' b = own b) ∧ Kp (fun b => own b = 1 ∨ own b = 2 ∨ own b = te ∨ own b = tr) w w'
theorem next_of_ma {E : World → Nat → (Nat → Prop) → List Int → List (Int × List Cd) → Prop} {w w' : World} {own : Nat → Nat} {wb : Nat} {v0 v1 v5 : Value} {ic eb rb te tr : Nat} {sch : List Int} {flt : List (Int × List Cd)} (G : Good sch flt) (h : MaPost E w w' own wb v0 v1 v5 ic eb rb te tr sch flt) : NextPost E w w' own wb v0 v1 v5 ic eb rb te tr sch := by
  obtain ⟨own', ia', icap', vs', h1, h2, h3, h4⟩ := h
  exact ⟨own', ia', ic + 4, icap', vs', flt, h1, Nat.le_refl _, h2, G, h3, h4⟩
theorem next_of_step {E : World → Nat → (Nat → Prop) → List Int → List (Int × List Cd) → Prop} (C : EngC E) {w w' : World} {own : Nat → Nat} {wb : Nat} {v0 v1 v5 : Value} {ia : Option Addr} {ic icap : Nat} {vs : List Value} {eb rb te tr : Nat} {sch : List Int} {flt' : List (Int × List Cd)} (S : St w own wb v0 v1 v5 ia ic icap vs) (hte : 10 ≤ te) (htr : 10 ≤ tr) (htt : te ≠ tr) (G : Good sch flt')
    (h : StepPost E w w' eb rb (fun b => own b = te) (fun b => own b = tr) sch flt') : NextPost E w w' own wb v0 v1 v5 ic eb rb te tr sch := by
  obtain ⟨Fe', Fr', T, hK, gE, gR⟩ := h
  have hfr := S.fresh
  have z := hK.size
  have hlt : ∀ b, 0 < own b → b < w.heap.size := fun b hb => by
    rcases Nat.lt_or_ge b w.heap.size with h | h
    · exact h
    · have := hfr b h; omega
  have hdec : ∃ own' : Nat → Nat, (∀ b, b < w.heap.size → own' b = own b) ∧ (∀ b, w.heap.size ≤ b → w'.heap.size ≤ b → own' b = 0) ∧ (∀ b, w.heap.size ≤ b → b < w'.heap.size → Fe' b → own' b = te) ∧ (∀ b, w.heap.size ≤ b → b < w'.heap.size → Fr' b → own' b = tr) := by
    refine ⟨fun b => @ite _ (b < w.heap.size) (Classical.propDecidable _) (own b) (@ite _ (w'.heap.size ≤ b) (Classical.propDecidable _) 0 (@ite _ (Fe' b) (Classical.propDecidable _) te (@ite _ (Fr' b) (Classical.propDecidable _) tr 6))), ?_, ?_, ?_, ?_⟩
    · intro b h; simp [h]
    · intro b h1 h2; simp [show ¬ b < w.heap.size by omega, h2]
    · intro b h1 h2 h3; simp [show ¬ b < w.heap.size by omega, show ¬ w'.heap.size ≤ b by omega, h3]
    · intro b h1 h2 h3
      have hne : ¬ Fe' b := fun he => T.dis b he h3
      simp [show ¬ b < w.heap.size by omega, show ¬ w'.heap.size ≤ b by omega, h3, hne]
  obtain ⟨own', o1, o2, o3, o4⟩ := hdec
  have oldT : ∀ (b t : Nat), own b = t → 0 < t → own' b = t := fun b t hb ht => by rw [o1 b (hlt b (by omega))]; exact hb
  have hK2 : Kp (fun b => own b = 1 ∨ own b = 2 ∨ own b = te ∨ own b = tr) w w' := hK.mono (fun _ _ h => Or.inr (Or.inr h))
  refine ⟨own', ia, ic, icap, vs, flt', ⟨hK.row S.row (fun h => by have := S.ow; omega), S.ids.kp hK (fun g hg h => by have := S.oi g hg; omega), S.len, S.four, oldT wb 1 S.ow (by decide), fun g hg => oldT g 2 (S.oi g hg) (by decide), ?_, fun b hb => o2 b (by omega) hb⟩, by omega, ⟨C.mono T.e ?_, T.r.mono ?_, ?_, ?_, fun b h1 h2 => htt (h1.symm.trans h2)⟩, G, o1, hK2⟩
  · intro i hi
    obtain ⟨ao, k, cap, h1, h2, h3, h4⟩ := S.book i hi
    exact ⟨ao, k, cap, h1, h2, h3.kp hK (fun g hg => by have := h4 g hg; omega), fun g hg => oldT g 4 (h4 g hg) (by decide)⟩
  · intro b hb
    rcases gE b hb with e | ⟨e1, e2⟩
    · exact oldT b te e (by omega)
    · exact o3 b e1 e2 hb
  · intro b hb
    rcases gR b hb with e | ⟨e1, e2⟩
    · exact oldT b tr e (by omega)
    · exact o4 b e1 e2 hb
  · intro b hb
    rcases Nat.lt_or_ge b w'.heap.size with h | h
    · exact h
    · have := o2 b (by omega) h; omega
  · intro b hb
    rcases Nat.lt_or_ge b w'.heap.size with h | h
    · exact h
    · have := o2 b (by omega) h; omega
end Go.Proofs.Ytepioeaomlmocaa
