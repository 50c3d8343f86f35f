import Derived.Deep.RegionWith
import Derived.BigQuiet
import Derived.Test.YtpbblaeamddbgaaGreatGQ
import Derived.Test.YtpbblaeamddbgaaGreatHB
namespace Go.Proofs.YtpbblaeamddbgaaGreat
open Go.RowKit

theorem perm_of : ∀ (S l : List Int), S.Nodup → (∀ x ∈ S, x ∈ l) → S.length = l.length → l.Nodup ∧ ∀ x ∈ l, x ∈ S
  | [], l, _, _, h => by
    obtain rfl : l = [] := List.eq_nil_of_length_eq_zero h.symm
    exact ⟨List.nodup_nil, fun x hx => hx⟩
  | a :: S, l, hn, hs, h => by
    obtain ⟨ha, hn'⟩ := List.nodup_cons.1 hn
    have hal := hs a (by simp)
    have hle := List.length_erase_of_mem hal
    have hpos : 0 < l.length := List.length_pos_of_mem hal
    obtain ⟨h1, h2⟩ := perm_of S (l.erase a) hn' (fun x hx => (List.mem_erase_of_ne (fun e : x = a => ha (by rw [← e]; exact hx))).2 (hs x (List.mem_cons_of_mem _ hx))) (by simp at h; omega)
    have hp := List.perm_cons_erase hal
    refine ⟨?_, fun x hx => ?_⟩
    · rw [hp.nodup_iff, List.nodup_cons]
      exact ⟨fun hm => ha (h2 a hm), h1⟩
    · rcases List.mem_cons.1 (hp.mem_iff.1 hx) with e | e
      · rw [e]; simp
      · exact List.mem_cons_of_mem _ (h2 x e)
theorem order_iff (n : Nat) (l : List Int) (hl : l.length = n) : orderB n l = true ↔ ∀ k : Nat, k < n → (k : Int) ∈ l := by
  constructor
  · intro h k hk
    exact (order_of h).2.2.2 k (by omega) (by omega)
  · intro h
    have hS : ((List.range n).map (fun i : Nat => (i : Int))).Nodup := by
      rw [List.Nodup, List.pairwise_map]
      exact (List.nodup_range (n := n)).imp (fun h e => h (by omega))
    obtain ⟨h1, h2⟩ := perm_of ((List.range n).map (fun i : Nat => (i : Int))) l hS (fun x hx => by
      obtain ⟨i, hi, rfl⟩ := List.mem_map.1 hx
      exact h i (List.mem_range.1 hi)) (by simp [hl])
    unfold orderB
    simp only [hl, beq_self_eq_true, Bool.true_and, Bool.and_eq_true, List.all_eq_true, decide_eq_true_eq]
    refine ⟨fun x hx => ?_, h1⟩
    obtain ⟨i, hi, rfl⟩ := List.mem_map.1 (h2 x hx)
    have := List.mem_range.1 hi
    simp [inR]
    omega

set_option maxHeartbeats 1600000 in
set_option maxRecDepth 100000 in
theorem rOrder_any (ao : Option Addr) (cap : Nat) (l : List Int) (n : Nat) (w : World) (hn : n ≤ 6) (hs : Ixs w ao l) :
    Calls Tryz.prog 75 #[.slice ao l.length cap, .int .i64 n] w fun e w' => e = .returned (.bool (orderB n l)) ∧ w' = w := by
  by_cases hln : l.length = n
  · have hne2 : ((l.length : Int) != (n : Int)) = false := by simp [hln]
    have hne : (!((l.length : Int) == (n : Int))) = false := by simp [hln]
    have HI : Hid (orderB n l = true ↔ ∀ k : Nat, k < n → (k : Int) ∈ l) := order_iff n l hln
    have HL : Hid (l.length = n) := hln
    generalize orderB n l = ob at *
    clear hln
    go_enter Tryz.func75, Tryz.ntmps75
    go_wp2_with fail
    go_loopw [5] (fun v5 wr => ∃ k : Nat, k ≤ n ∧ v5 = .int .i64 k ∧ wr = w ∧ ∀ j : Nat, j < k → (j : Int) ∈ l) (fun v5 _ => n - (intOf v5).toNat)
    case atStart => exact ⟨0, Nat.zero_le _, rfl, rfl, fun j hj => by omega⟩
    case round =>
      obtain ⟨k, hk, rfl, rfl, hm⟩ := hrel
      have HM : Hid (∀ j : Nat, j < k → (j : Int) ∈ l) := hm
      clear hm
      by_cases hlt : k < n
      · have hki : (k : Int) < (n : Int) := by omega
        go_wp2_with fail
        go_loopw [6, 7] (fun v6 v7 wr2 => ∃ (i : Nat) (b : Bool), i ≤ n ∧ v6 = .bool b ∧ v7 = .int .i64 i ∧ wr2 = wr ∧ (b = true ↔ (k : Int) ∈ l.take i)) (fun _ v7 _ => n - (intOf v7).toNat)
        case atStart => exact ⟨0, false, Nat.zero_le _, rfl, rfl, rfl, by simp⟩
        case round =>
          obtain ⟨i, b, hi, rfl, rfl, rfl, hb⟩ := hrel
          have HB : Hid (b = true ↔ (k : Int) ∈ l.take i) := hb
          clear hb
          by_cases hil : i < n
          · have hii : (i : Int) < (n : Int) := by omega
            have hil' : i < l.length := by rw [HL.out]; exact hil
            have HT : Hid (l.take (i + 1) = l.take i ++ [l[i]]) := List.take_succ_eq_append_getElem hil'
            obtain ⟨bb, o, rfl, hIs⟩ := hs (by omega)
            have d0 := hIs i hil'
            rw [List.getD_eq_getElem?_getD, List.getElem?_eq_getElem hil', Option.getD_some] at d0
            have hix : (i : Int) < (l.length : Int) := by omega
            have HX : Hid (∀ c : Bool, (c = true ↔ (b = true ∨ l[i] = (k : Int))) → (c = true ↔ (k : Int) ∈ l.take (i + 1))) := fun c hc => by
              rw [hc, HT.out, List.mem_append, HB.out, List.mem_singleton]
              exact ⟨fun h => h.imp id Eq.symm, fun h => h.imp id Eq.symm⟩
            clear HT
            generalize l[i] = x at *
            cases b with
            | true =>
              go_wp2
              go_roundw
              case rel => exact ⟨i + 1, true, by omega, rfl, by go_num, trivial, HX.out true (by simp)⟩
              case measure => simp [intOf]; omega
            | false =>
              go_wp2
              go_roundw
              case rel => exact ⟨i + 1, (x == (k : Int)), by omega, rfl, by go_num, trivial, HX.out _ (by simp)⟩
              case measure => simp [intOf]; omega
          · have hin : i = n := by omega
            have HB2 : Hid (b = true ↔ (k : Int) ∈ l) := by
              have := HB.out
              rw [hin, List.take_of_length_le (by rw [HL.out]; omega)] at this
              exact this
            clear HB hin
            cases b with
            | true =>
              have hkm := HB2.out.1 rfl
              have HM2 : Hid (∀ j : Nat, j < k + 1 → (j : Int) ∈ l) := fun j hj => by
                rcases Nat.lt_or_ge j k with h | h
                · exact HM.out j h
                · obtain rfl : j = k := by omega
                  exact hkm
              clear HM HB2 hkm
              go_wp2
              go_roundw
              case rel => exact ⟨k + 1, by omega, by go_num, trivial, HM2.out⟩
              case measure => simp [intOf]; omega
            | false =>
              have hob : ob = false := by
                cases ob with
                | false => rfl
                | true =>
                  have h1 := HI.out.1 rfl k hlt
                  exact absurd (HB2.out.2 h1) (by simp)
              subst hob
              clear HI HM HB2
              go_wp2
              go_ret
              exact ⟨rfl, rfl⟩
      · have hob : ob = true := HI.out.2 (fun j hj => HM.out j (by omega))
        subst hob
        clear HI HM
        go_wp2
        go_ret
        exact ⟨rfl, rfl⟩
  · have hne : ((l.length : Int) == (n : Int)) = false := by simp; omega
    have hf : orderB n l = false := by unfold orderB; simp [hln]
    rw [hf]
    go_enter Tryz.func75, Tryz.ntmps75
    go_wp2
    go_ret
    exact ⟨rfl, rfl⟩
end Go.Proofs.YtpbblaeamddbgaaGreat
namespace Go.Proofs.YtpbblaeamddbgaaGreat
open Go.RowKit

/-- The filters of an engine are such as Subscribe lets in. -/
structure Good (sch : List Int) (flt : List (Int × List Cd)) : Prop where
  s1 : 1 ≤ sch.length
  s6 : sch.length ≤ 6
  len : flt.length ≤ 100
  srt : SortedF flt
  ok : FltOK flt
theorem may_ok {sch : List Int} {c : Cd} (h6 : sch.length ≤ 6) (h : mayB sch c = true) (hz : c.a.s.size ≤ 9223372036854775807 ∧ c.b.s.size ≤ 9223372036854775807) : 0 ≤ c.attr ∧ c.attr < 6 ∧ 1 ≤ c.kind ∧ c.kind ≤ 9 ∧ c.a.s.size ≤ 9223372036854775807 ∧ c.b.s.size ≤ 9223372036854775807 := by
  simp only [mayB, Bool.and_eq_true, decide_eq_true_eq] at h
  obtain ⟨⟨⟨⟨h1, h2⟩, h3⟩, h4⟩, _⟩ := h
  exact ⟨h1, by omega, h3, h4, hz⟩
theorem sub_zero {flt : List (Int × List Cd)} {id : Int} {l : List Cd} {q k : Nat} (h : subErr flt id l q k = 0) : thereB flt id q = false ∧ ¬ 8 < l.length ∧ ¬ k < l.length ∧ ¬ 100 ≤ flt.length := by
  unfold subErr at h
  by_cases h1 : id < 0
  · rw [if_pos h1] at h; cases h
  rw [if_neg h1] at h
  cases h2 : thereB flt id q
  · rw [h2] at h
    by_cases h3 : 8 < l.length
    · simp [h3] at h
    by_cases h4 : k < l.length
    · simp [h3, h4] at h
    by_cases h5 : 100 ≤ flt.length
    · simp [h3, h4, h5] at h
    exact ⟨rfl, h3, h4, h5⟩
  · rw [h2] at h; simp at h
theorem getElem_ins {α : Type} (l : List α) (q : Nat) (x : α) (hq : q ≤ l.length) (i : Nat) (hi : i < (l.take q ++ x :: l.drop q).length) :
    (∃ h : i < q, (l.take q ++ x :: l.drop q)[i] = l[i]'(by omega)) ∨ (i = q ∧ (l.take q ++ x :: l.drop q)[i] = x) ∨ (∃ h : q < i, (l.take q ++ x :: l.drop q)[i] = l[i - 1]'(by simp at hi; omega)) := by
  have hl : (l.take q).length = q := by simp; omega
  rcases Nat.lt_trichotomy i q with h | h | h
  · refine Or.inl ⟨h, ?_⟩
    rw [List.getElem_append_left (by omega)]; simp
  · refine Or.inr (Or.inl ⟨h, ?_⟩)
    rw [List.getElem_append_right (by omega)]; simp [hl, h]
  · refine Or.inr (Or.inr ⟨h, ?_⟩)
    rw [List.getElem_append_right (by omega), List.getElem_cons, dif_neg (by omega)]
    simp only [List.getElem_drop]
    congr 1; omega
theorem sub_good {sch : List Int} {flt : List (Int × List Cd)} {id : Int} {l : List Cd} {q k : Nat} (G : Good sch flt) (hq : PosOf flt id q) (hk : BadOf sch l k) (hz : ∀ j (hj : j < l.length), l[j].a.s.size ≤ 9223372036854775807 ∧ l[j].b.s.size ≤ 9223372036854775807) : Good sch (subFlt flt id l q k) := by
  unfold subFlt
  by_cases h0 : subErr flt id l q k = 0
  · rw [if_pos (by simpa using h0)]
    obtain ⟨hth, h8, hkl, h100⟩ := sub_zero h0
    have hqne : ∀ hq' : q < flt.length, ¬ flt[q].1 = id := fun hq' e => by rw [there_iff.2 ⟨hq', e⟩] at hth; cases hth
    have hlen : (flt.take q ++ (id, l) :: flt.drop q).length = flt.length + 1 := by have := hq.1; simp; omega
    have hafter : ∀ j (hj : j < flt.length), q ≤ j → id < flt[j].1 := by
      intro j hj hqj
      have h1 := hq.2.2 (by omega)
      have h2 := hqne (by omega)
      rcases Nat.lt_or_ge q j with h | h
      · have := G.srt q j (by omega) hj h; omega
      · obtain rfl : q = j := by omega
        omega
    refine ⟨G.s1, G.s6, by omega, ?_, ?_⟩
    · intro i j hi hj hij
      rcases getElem_ins flt q (id, l) hq.1 i hi with ⟨a, e1⟩ | ⟨a, e1⟩ | ⟨a, e1⟩ <;> rcases getElem_ins flt q (id, l) hq.1 j hj with ⟨b, e2⟩ | ⟨b, e2⟩ | ⟨b, e2⟩ <;> rw [e1, e2]
      · exact G.srt i j _ _ hij
      · exact hq.2.1 i (by omega) a
      · exact G.srt i (j - 1) _ _ (by omega)
      · omega
      · omega
      · exact hafter (j - 1) _ (by omega)
      · omega
      · omega
      · exact G.srt (i - 1) (j - 1) _ _ (by omega)
    · intro i hi
      rcases getElem_ins flt q (id, l) hq.1 i hi with ⟨a, e1⟩ | ⟨a, e1⟩ | ⟨a, e1⟩ <;> rw [e1]
      · exact G.ok i _
      · refine ⟨fun j hj => may_ok G.s6 (hk.2.1 j hj (by have hj' : j < l.length := hj; omega)) (hz j hj), by simp only; omega⟩
      · exact G.ok (i - 1) _
  · rw [if_neg (by simpa using h0)]; exact G
theorem un_good {sch : List Int} {flt : List (Int × List Cd)} {id : Int} {q : Nat} (G : Good sch flt) : Good sch (unFlt flt id q) := by
  unfold unFlt
  cases hth : thereB flt id q with
  | false => simpa using G
  | true =>
    obtain ⟨hq, _⟩ := there_iff.1 hth
    simp only [if_true]
    have hl : (flt.take q).length = q := by simp; omega
    have hlen : (flt.take q ++ flt.drop (q + 1)).length = flt.length - 1 := by simp; omega
    have at_ : ∀ i (hi : i < (flt.take q ++ flt.drop (q + 1)).length), ∃ i', ∃ hi' : i' < flt.length, (flt.take q ++ flt.drop (q + 1))[i] = flt[i'] ∧ (i < q → i' = i) ∧ (q ≤ i → i' = i + 1) := by
      intro i hi
      rcases Nat.lt_or_ge i q with h | h
      · refine ⟨i, by omega, ?_, fun _ => rfl, fun h' => by omega⟩
        rw [List.getElem_append_left (by omega)]; simp
      · refine ⟨i + 1, by omega, ?_, fun h' => by omega, fun _ => rfl⟩
        rw [List.getElem_append_right (by omega)]
        simp only [List.getElem_drop]
        congr 1; omega
    refine ⟨G.s1, G.s6, by have := G.len; omega, ?_, ?_⟩
    · intro i j hi hj hij
      obtain ⟨i', hi', e1, a1, b1⟩ := at_ i hi
      obtain ⟨j', hj', e2, a2, b2⟩ := at_ j hj
      rw [e1, e2]
      refine G.srt i' j' hi' hj' ?_
      rcases Nat.lt_or_ge i q with h | h <;> rcases Nat.lt_or_ge j q with h' | h'
      · rw [a1 h, a2 h']; exact hij
      · rw [a1 h, b2 h']; omega
      · omega
      · rw [b1 h, b2 h']; omega
    · intro i hi
      obtain ⟨i', hi', e1, _⟩ := at_ i hi
      rw [e1]; exact G.ok i' hi'

/-- What any step on one engine leaves. -/
def NextPost (E : World → Nat → (Nat → Prop) → List Int → List (Int × List Cd) → Int → Prop) (w w' : World) (own : Nat → Nat) (wb : Nat) (v0 v1 v5 : Value) (ic : Nat) (eb rb te tr : Nat) (sch : List Int) : Prop :=
  ∃ own' ia' ic' icap' vs' flt' nn, St w' own' wb v0 v1 v5 ia' ic' icap' vs' ∧ ic' ≤ ic + 4 ∧ Two E w' eb rb (fun b => own' b = te) (fun b => own' b = tr) sch flt' nn ∧ Good sch flt' ∧ (∀ b, b < w.heap.size → own' b = own b) ∧ Kp (fun b => own b = 1 ∨ own b = 2 ∨ own b = te ∨ own b = tr) w w'
theorem next_of_ma {E : World → Nat → (Nat → Prop) → List Int → List (Int × List Cd) → Int → Prop} {w w' : World} {own : Nat → Nat} {wb : Nat} {v0 v1 v5 : Value} {ic eb rb te tr : Nat} {sch : List Int} {flt : List (Int × List Cd)} {nn : Int} (G : Good sch flt) (h : LMa E w w' own wb v0 v1 v5 ic eb rb te tr sch flt nn) : NextPost E w w' own wb v0 v1 v5 ic eb rb te tr sch := by
  obtain ⟨own', ia', icap', vs', h1, h2, h3, h4⟩ := h
  exact ⟨own', ia', ic + 4, icap', vs', flt, nn, h1, Nat.le_refl _, h2, G, h3, h4⟩
theorem next_of_step {E : World → Nat → (Nat → Prop) → List Int → List (Int × List Cd) → Int → Prop} (C : EngC E) {w w' : World} {own : Nat → Nat} {wb : Nat} {v0 v1 v5 : Value} {ia : Option Addr} {ic icap : Nat} {vs : List Value} {eb rb te tr : Nat} {sch : List Int} {flt' : List (Int × List Cd)} {nn : Int} (S : St w own wb v0 v1 v5 ia ic icap vs) (hte : 10 ≤ te) (htr : 10 ≤ tr) (htt : te ≠ tr) (G : Good sch flt')
    (h : LStep E w w' eb rb (fun b => own b = te) (fun b => own b = tr) sch flt' nn) : NextPost E w w' own wb v0 v1 v5 ic eb rb te tr sch := by
  obtain ⟨Fe', Fr', T, hK, gE, gR⟩ := h
  have hfr := S.fresh
  have z := hK.size
  have hlt : ∀ b, 0 < own b → b < w.heap.size := fun b hb => by
    rcases Nat.lt_or_ge b w.heap.size with h | h
    · exact h
    · have := hfr b h; omega
  have hdec : ∃ own' : Nat → Nat, (∀ b, b < w.heap.size → own' b = own b) ∧ (∀ b, w.heap.size ≤ b → w'.heap.size ≤ b → own' b = 0) ∧ (∀ b, w.heap.size ≤ b → b < w'.heap.size → Fe' b → own' b = te) ∧ (∀ b, w.heap.size ≤ b → b < w'.heap.size → Fr' b → own' b = tr) := by
    refine ⟨fun b => @ite _ (b < w.heap.size) (Classical.propDecidable _) (own b) (@ite _ (w'.heap.size ≤ b) (Classical.propDecidable _) 0 (@ite _ (Fe' b) (Classical.propDecidable _) te (@ite _ (Fr' b) (Classical.propDecidable _) tr 6))), ?_, ?_, ?_, ?_⟩
    · intro b h; simp [h]
    · intro b h1 h2; simp [show ¬ b < w.heap.size by omega, h2]
    · intro b h1 h2 h3; simp [show ¬ b < w.heap.size by omega, show ¬ w'.heap.size ≤ b by omega, h3]
    · intro b h1 h2 h3
      have hne : ¬ Fe' b := fun he => T.dis b he h3
      simp [show ¬ b < w.heap.size by omega, show ¬ w'.heap.size ≤ b by omega, h3, hne]
  obtain ⟨own', o1, o2, o3, o4⟩ := hdec
  have oldT : ∀ (b t : Nat), own b = t → 0 < t → own' b = t := fun b t hb ht => by rw [o1 b (hlt b (by omega))]; exact hb
  have hK2 : Kp (fun b => own b = 1 ∨ own b = 2 ∨ own b = te ∨ own b = tr) w w' := hK.mono (fun _ _ h => Or.inr (Or.inr h))
  refine ⟨own', ia, ic, icap, vs, flt', nn, ⟨hK.row S.row (fun h => by have := S.ow; omega), S.ids.kp hK (fun g hg h => by have := S.oi g hg; omega), S.len, S.four, oldT wb 1 S.ow (by decide), fun g hg => oldT g 2 (S.oi g hg) (by decide), ?_, fun b hb => o2 b (by omega) hb⟩, by omega, ⟨C.mono T.e ?_, T.r.mono ?_, ?_, ?_, fun b h1 h2 => htt (h1.symm.trans h2)⟩, G, o1, hK2⟩
  · intro i hi
    obtain ⟨ao, k, cap, h1, h2, h3, h4⟩ := S.book i hi
    exact ⟨ao, k, cap, h1, h2, h3.kp hK (fun g hg => by have := h4 g hg; omega), fun g hg => oldT g 4 (h4 g hg) (by decide)⟩
  · intro b hb
    rcases gE b hb with e | ⟨e1, e2⟩
    · exact oldT b te e (by omega)
    · exact o3 b e1 e2 hb
  · intro b hb
    rcases gR b hb with e | ⟨e1, e2⟩
    · exact oldT b tr e (by omega)
    · exact o4 b e1 e2 hb
  · intro b hb
    rcases Nat.lt_or_ge b w'.heap.size with h | h
    · exact h
    · have := o2 b (by omega) h; omega
  · intro b hb
    rcases Nat.lt_or_ge b w'.heap.size with h | h
    · exact h
    · have := o2 b (by omega) h; omega
end Go.Proofs.YtpbblaeamddbgaaGreat
namespace Go.Proofs.YtpbblaeamddbgaaGreat
open Go.RowKit

theorem St.ext {w w1 : World} {own : Nat → Nat} {wb : Nat} {v0 v1 v5 : Value} {ia : Option Addr} {ic icap : Nat} {vs : List Value} (S : St w own wb v0 v1 v5 ia ic icap vs) (h : Ext w w1) : St w1 own wb v0 v1 v5 ia ic icap vs :=
  ⟨S.row.ext h, S.ids.ext h, S.len, S.four, S.ow, S.oi, fun i hi => by
    obtain ⟨ao, n, cap, h1, h2, h3, h4⟩ := S.book i hi
    exact ⟨ao, n, cap, h1, h2, h3.kp (h.kp (fun _ => False)) (fun _ _ h => h), h4⟩, fun b hb => S.fresh b (Nat.le_trans h.le hb)⟩
theorem Two.ext {E : World → Nat → (Nat → Prop) → List Int → List (Int × List Cd) → Int → Prop} (C : EngC E) {w w1 : World} {eb rb : Nat} {Fe Fr : Nat → Prop} {sch : List Int} {flt : List (Int × List Cd)} {nn : Int} (T : Two E w eb rb Fe Fr sch flt nn) (h : Ext w w1) : Two E w1 eb rb Fe Fr sch flt nn :=
  ⟨(T.ext1 C h).1, (T.ext1 C h).2, fun b hb => Nat.lt_of_lt_of_le (T.le b hb) h.le, fun b hb => Nat.lt_of_lt_of_le (T.lr b hb) h.le, T.dis⟩
theorem NextPost.behind {E : World → Nat → (Nat → Prop) → List Int → List (Int × List Cd) → Int → Prop} {w w1 w' : World} {own : Nat → Nat} {wb : Nat} {v0 v1 v5 : Value} {ic eb rb te tr : Nat} {sch : List Int} (hE : Ext w w1) (h : NextPost E w1 w' own wb v0 v1 v5 ic eb rb te tr sch) : NextPost E w w' own wb v0 v1 v5 ic eb rb te tr sch := by
  obtain ⟨own', ia', ic', icap', vs', flt', nn, h1, h2, h3, h4, h5, h6⟩ := h
  exact ⟨own', ia', ic', icap', vs', flt', nn, h1, h2, h3, h4, fun b hb => h5 b (Nat.lt_of_lt_of_le hb hE.le), (hE.kp _).trans h6⟩
theorem un_post {E : World → Nat → (Nat → Prop) → List Int → List (Int × List Cd) → Int → Prop} (C : EngC E) {w w1 w2 : World} {eb rb : Nat} {Fe Fr : Nat → Prop} {sch : List Int} {flt flt' : List (Int × List Cd)} {nn : Int} (T : Two E w eb rb Fe Fr sch flt nn) (hk1 : Kp Fe w w1) (he1 : E w1 eb (Grow Fe w w1) sch flt' nn) (hk2 : Kp Fr w1 w2) (hr2 : RefN w2 rb (Grow Fr w1 w2) sch flt' nn) : LStep E w w2 eb rb Fe Fr sch flt' nn := by
  have z1 := hk1.size
  have z2 := hk2.size
  have dis : ∀ b, Grow Fe w w1 b → ¬ Grow Fr w1 w2 b := by
    intro b h1 h2
    rcases h1 with h1 | ⟨h1, h1'⟩
    · rcases h2 with h2 | ⟨h2, _⟩
      · exact T.dis b h1 h2
      · have := T.le b h1; omega
    · rcases h2 with h2 | ⟨h2, _⟩
      · have := T.lr b h2; omega
      · omega
  refine ⟨Grow Fe w w1, Grow Fr w1 w2, ⟨C.kp he1 hk2 (fun b hb hF => dis b hb (Or.inl hF)), hr2, ?_, ?_, dis⟩, (hk1.mono (fun _ _ h => Or.inl h)).trans (hk2.mono (fun _ _ h => Or.inr h)), ?_, ?_⟩
  · intro b h
    rcases h with h | ⟨_, h⟩
    · have := T.le b h; omega
    · omega
  · intro b h
    rcases h with h | ⟨_, h⟩
    · have := T.lr b h; omega
    · omega
  · intro b h
    rcases h with h | ⟨h, h'⟩
    · exact Or.inl h
    · exact Or.inr ⟨by omega, by omega⟩
  · intro b h
    rcases h with h | ⟨h, h'⟩
    · exact Or.inl h
    · exact Or.inr ⟨by omega, by omega⟩

theorem op_new (w : World) (v0 v1 v2 v3 v4 v5 v6 v7 : Value) : ∃ w0 : World, w0 = w.alloc (.cells #[v0, v1, v2, v3, v4, v5, v6, v7] 30) ∧ Ext w w0 ∧ Row w0 w.heap.size 30 [v0, v1, v2, v3, v4, v5, v6, v7] :=
  ⟨_, rfl, (Ext.refl w).alloc _, row_alloc _ _ _ _ _ rfl rfl⟩
theorem Tryz.infoOp : (Tryz.prog.info? 30).map (·.size) = some 8 := by kernel_rfl

set_option maxHeartbeats 800000 in
set_option maxRecDepth 100000 in
theorem step_in {E : World → Nat → (Nat → Prop) → List Int → List (Int × List Cd) → Int → Prop} (C : EngC E) (own : Nat → Nat) (wb : Nat) (v0 v1 v5 : Value) (ia : Option Addr) (ic icap : Nat) (vs : List Value) (eb rb te tr : Nat) (sch : List Int) (flt : List (Int × List Cd)) (nn : Int) (at_ id : Int) (nv ev xv sv : Value) (ao : Option Addr) (cap : Nat) (l : List Cd) (w : World)
    (S : St w own wb v0 v1 v5 ia ic icap vs) (T : Two E w eb rb (fun b => own b = te) (fun b => own b = tr) sch flt nn) (G : Good sch flt) (hte : 10 ≤ te) (htr : 10 ≤ tr) (htt : te ≠ tr) (hwf : (Lit.int .i64 id).wf = true) (hl : l.length * 64 ≤ 140737488351232)
    (hz : ∀ j (hj : j < l.length), l[j].a.s.size ≤ 9223372036854775807 ∧ l[j].b.s.size ≤ 9223372036854775807) (hc : Cxs w ao l) (ha : ∀ g, blkOf ao = some g → 0 < l.length → own g = 5) (hcn : ao = none → l.length = 0 ∧ cap = 0) :
    Calls Tryz.prog 37 #[.pointer (some ⟨wb, 0, none⟩), .pointer (some ⟨eb, 0, none⟩), .pointer (some ⟨rb, 0, none⟩), .agg #[.int .i64 2, .int .i64 at_, .int .i64 id, nv, .slice ao l.length cap, ev, xv, sv]] w fun e w' => e = .returned (.bool true) ∧ NextPost E w w' own wb v0 v1 v5 ic eb rb te tr sch := by
  obtain ⟨q, hq⟩ := ex_pos flt id
  obtain ⟨k, hk⟩ := ex_badc sch l
  obtain ⟨w0, hw0, hE0, _⟩ := op_new w (.int .i64 2) (.int .i64 at_) (.int .i64 id) nv (.slice ao l.length cap) ev xv sv
  have H : Hid _ := enters_any C eb rb _ _ sch flt nn id ao cap l w0 G.s1 G.s6 G.len G.srt hwf hl hz (T.ext C hE0) (hc.ext hE0) (fun g hg hp => ⟨fun e => by have := ha g hg hp; omega, fun e => by have := ha g hg hp; omega⟩) hcn q k hq hk
  have P : ∀ w', LStep E w0 w' eb rb (fun b => own b = te) (fun b => own b = tr) sch (subFlt flt id l q k) nn → NextPost E w w' own wb v0 v1 v5 ic eb rb te tr sch := fun w' h => (next_of_step C (S.ext hE0) hte htr htt (sub_good G hq hk hz) h).behind hE0
  rw [hw0] at H P
  have HP : Hid _ := P
  clear P hw0 hE0 hq hk
  go_enter Tryz.func37, Tryz.ntmps37
  go_wp2_with fail
  refine Calls.mono H.out ?_
  rintro e w1 ⟨rfl, hp⟩
  go_wp2
  go_ret
  exact ⟨rfl, HP.out w1 hp⟩

set_option maxHeartbeats 800000 in
set_option maxRecDepth 100000 in
theorem step_match {E : World → Nat → (Nat → Prop) → List Int → List (Int × List Cd) → Int → Prop} (C : EngC E) (own : Nat → Nat) (wb : Nat) (v0 v1 v5 : Value) (ia : Option Addr) (ic icap : Nat) (vs : List Value) (eb rb te tr : Nat) (sch : List Int) (flt : List (Int × List Cd)) (nn : Int) (at_ id : Int) (nv fv xv sv : Value) (ao : Option Addr) (cap : Nat) (ev : List Fd) (w : World)
    (S : St w own wb v0 v1 v5 ia ic icap vs) (T : Two E w eb rb (fun b => own b = te) (fun b => own b = tr) sch flt nn) (G : Good sch flt) (hte : 10 ≤ te) (htr : 10 ≤ tr) (htt : te ≠ tr) (hl : ev.length * 32 ≤ 140737488351232) (hic : (ic + 4) * 24 ≤ 140737488355328)
    (hz : ∀ j (hj : j < ev.length), ev[j].v.s.size ≤ 9223372036854775807) (hc : Fxs w ao ev) (ha : ∀ g, blkOf ao = some g → 0 < ev.length → own g = 5) (hcn : ao = none → ev.length = 0 ∧ cap = 0) :
    Calls Tryz.prog 37 #[.pointer (some ⟨wb, 0, none⟩), .pointer (some ⟨eb, 0, none⟩), .pointer (some ⟨rb, 0, none⟩), .agg #[.int .i64 3, .int .i64 at_, .int .i64 id, nv, fv, .slice ao ev.length cap, xv, sv]] w fun e w' => e = .returned (.bool true) ∧ NextPost E w w' own wb v0 v1 v5 ic eb rb te tr sch := by
  obtain ⟨q, hq⟩ := ex_bad sch ev
  obtain ⟨w0, hw0, hE0, hRow⟩ := op_new w (.int .i64 3) (.int .i64 at_) (.int .i64 id) nv fv (.slice ao ev.length cap) xv sv
  have H : Hid (Calls Tryz.prog 35 #[.pointer (some ⟨wb, 0, none⟩), .pointer (some ⟨eb, 0, none⟩), .pointer (some ⟨rb, 0, none⟩), .agg #[.int .i64 3, .int .i64 at_, .int .i64 id, nv, fv, .slice ao ev.length cap, xv, sv]] w0 fun e w' => e = .returned (.bool true) ∧ LMa E w0 w' own wb v0 v1 v5 ic eb rb te tr sch flt (maN ev q nn)) := by
    cases ao with
    | none =>
      obtain ⟨hl0, rfl⟩ := hcn rfl
      obtain rfl : ev = [] := List.eq_nil_of_length_eq_zero hl0
      exact matches_nil C own wb v0 v1 v5 ia ic icap vs eb rb te tr sch flt nn 3 at_ id nv fv xv sv w0 (S.ext hE0) (T.ext C hE0) hte htr htt G.s6 G.len G.ok hic q hq rfl rfl
    | some a => exact matches_core C own wb v0 v1 v5 ia ic icap vs eb rb te tr sch flt nn 3 at_ id nv fv xv sv a cap ev w0 (S.ext hE0) (T.ext C hE0) hte htr htt G.s6 G.len G.ok hl hic hz (hc.ext hE0) (fun hp => ha a.block rfl hp) q hq rfl rfl
  have P : ∀ w', LMa E w0 w' own wb v0 v1 v5 ic eb rb te tr sch flt (maN ev q nn) → NextPost E w w' own wb v0 v1 v5 ic eb rb te tr sch := fun w' h => (next_of_ma G h).behind hE0
  rw [hw0] at H P hRow
  have HP : Hid _ := P
  clear P hw0 hE0 hq
  go_enter Tryz.func37, Tryz.ntmps37
  go_wp2_with (first
    | (refine wpList_load_row rfl 30 _ rfl w.heap.size rfl _ _ 30 hRow Tryz.underlying30 rfl Tryz.infoOp ?_; clear hRow))
  refine Calls.mono H.out ?_
  rintro e w1 ⟨rfl, hp⟩
  go_wp2
  go_ret
  exact ⟨rfl, HP.out w1 hp⟩

set_option maxHeartbeats 800000 in
set_option maxRecDepth 100000 in
theorem step_out {E : World → Nat → (Nat → Prop) → List Int → List (Int × List Cd) → Int → Prop} (C : EngC E) (own : Nat → Nat) (wb : Nat) (v0 v1 v5 : Value) (ia : Option Addr) (ic icap : Nat) (vs : List Value) (eb rb te tr : Nat) (sch : List Int) (flt : List (Int × List Cd)) (nn : Int) (at_ id : Int) (nv fv ev xv sv : Value) (w : World)
    (S : St w own wb v0 v1 v5 ia ic icap vs) (T : Two E w eb rb (fun b => own b = te) (fun b => own b = tr) sch flt nn) (G : Good sch flt) (hte : 10 ≤ te) (htr : 10 ≤ tr) (htt : te ≠ tr) :
    Calls Tryz.prog 37 #[.pointer (some ⟨wb, 0, none⟩), .pointer (some ⟨eb, 0, none⟩), .pointer (some ⟨rb, 0, none⟩), .agg #[.int .i64 4, .int .i64 at_, .int .i64 id, nv, fv, ev, xv, sv]] w fun e w' => e = .returned (.bool true) ∧ NextPost E w w' own wb v0 v1 v5 ic eb rb te tr sch := by
  obtain ⟨q, hq⟩ := ex_pos flt id
  obtain ⟨w0, hw0, hE0, hRow⟩ := op_new w (.int .i64 4) (.int .i64 at_) (.int .i64 id) nv fv ev xv sv
  have T0 := T.ext C hE0
  have H : Hid _ := C.un eb _ sch flt nn id w0 G.len G.srt T0.e q hq
  have hz0 : w.heap.size < w0.heap.size := hRow.lt
  have hown : ∀ t, 10 ≤ t → ¬ own w.heap.size = t := fun t ht e => by have := S.fresh w.heap.size (Nat.le_refl _); omega
  have P : ∀ w1 w2, Kp (fun b => own b = te) w0 w1 → E w1 eb (Grow (fun b => own b = te) w0 w1) sch (unFlt flt id q) nn → Kp (fun b => own b = tr) w1 w2 → RefN w2 rb (Grow (fun b => own b = tr) w1 w2) sch (unFlt flt id q) nn → NextPost E w w2 own wb v0 v1 v5 ic eb rb te tr sch := fun w1 w2 h1 h2 h3 h4 => (next_of_step C (S.ext hE0) hte htr htt (un_good G) (un_post C T0 h1 h2 h3 h4)).behind hE0
  have R : ∀ w1, Kp (fun b => own b = te) w0 w1 → RefN w1 rb (fun b => own b = tr) sch flt nn ∧ w1.cell? ⟨w.heap.size, 2, none⟩ = some (.int .i64 id) := fun w1 h => ⟨T0.r.kp h (fun b hb hF => htt (hF.symm.trans hb)), h.cell (hRow.at (j := 2) rfl) (hown te hte)⟩
  rw [hw0] at H P R
  have HP : Hid _ := P
  have HR : Hid _ := R
  have HG : Hid _ := G
  clear P R hw0 hE0 hRow T0 G
  go_enter Tryz.func37, Tryz.ntmps37
  go_wp2_with fail
  refine Calls.mono H.out ?_
  rintro e w1 ⟨rfl, hk1, he1⟩
  obtain ⟨r1, c2⟩ := HR.out w1 hk1
  go_wp2_with fail
  refine (rUnN_any rb _ sch flt nn id w1 HG.out.len HG.out.srt r1 q hq).mono ?_
  rintro e w2 ⟨rfl, hk2, hr2⟩
  have hp := HP.out w1 w2 hk1 he1 hk2 hr2
  clear he1 hr2 r1 H HR
  generalize unErr flt id q = u
  go_wp2_with fail
  refine (num_any _ _).mono ?_
  rintro e w3 ⟨rfl, rfl⟩
  go_wp2
  go_ret
  exact ⟨rfl, hp⟩
end Go.Proofs.YtpbblaeamddbgaaGreat
namespace Go.Proofs.YtpbblaeamddbgaaGreat
open Go.RowKit

set_option maxHeartbeats 800000 in
set_option maxRecDepth 100000 in
theorem step_match5 {E : World → Nat → (Nat → Prop) → List Int → List (Int × List Cd) → Int → Prop} (C : EngC E) (own : Nat → Nat) (wb : Nat) (v0 v1 v5 : Value) (ia : Option Addr) (ic icap : Nat) (vs : List Value) (eb rb te tr : Nat) (sch : List Int) (flt : List (Int × List Cd)) (nn : Int) (at_ id : Int) (nv fv xv sv : Value) (ao : Option Addr) (cap : Nat) (ev : List Fd) (w : World)
    (S : St w own wb v0 v1 v5 ia ic icap vs) (T : Two E w eb rb (fun b => own b = te) (fun b => own b = tr) sch flt nn) (G : Good sch flt) (hte : 10 ≤ te) (htr : 10 ≤ tr) (htt : te ≠ tr) (hl : ev.length * 32 ≤ 140737488351232) (hic : (ic + 4) * 24 ≤ 140737488355328)
    (hz : ∀ j (hj : j < ev.length), ev[j].v.s.size ≤ 9223372036854775807) (hc : Fxs w ao ev) (ha : ∀ g, blkOf ao = some g → 0 < ev.length → own g = 5) (hcn : ao = none → ev.length = 0 ∧ cap = 0) :
    Calls Tryz.prog 37 #[.pointer (some ⟨wb, 0, none⟩), .pointer (some ⟨eb, 0, none⟩), .pointer (some ⟨rb, 0, none⟩), .agg #[.int .i64 5, .int .i64 at_, .int .i64 id, nv, fv, .slice ao ev.length cap, xv, sv]] w fun e w' => e = .returned (.bool true) ∧ NextPost E w w' own wb v0 v1 v5 ic eb rb te tr sch := by
  obtain ⟨q, hq⟩ := ex_bad sch ev
  obtain ⟨w0, hw0, hE0, hRow⟩ := op_new w (.int .i64 5) (.int .i64 at_) (.int .i64 id) nv fv (.slice ao ev.length cap) xv sv
  have H : Hid (Calls Tryz.prog 35 #[.pointer (some ⟨wb, 0, none⟩), .pointer (some ⟨eb, 0, none⟩), .pointer (some ⟨rb, 0, none⟩), .agg #[.int .i64 5, .int .i64 at_, .int .i64 id, nv, fv, .slice ao ev.length cap, xv, sv]] w0 fun e w' => e = .returned (.bool true) ∧ LMa E w0 w' own wb v0 v1 v5 ic eb rb te tr sch flt (maN ev q nn)) := by
    cases ao with
    | none =>
      obtain ⟨hl0, rfl⟩ := hcn rfl
      obtain rfl : ev = [] := List.eq_nil_of_length_eq_zero hl0
      exact matches_nil5 C own wb v0 v1 v5 ia ic icap vs eb rb te tr sch flt nn 5 at_ id nv fv xv sv w0 (S.ext hE0) (T.ext C hE0) hte htr htt G.s6 G.len G.ok hic q hq rfl
    | some a => exact matches_core5 C own wb v0 v1 v5 ia ic icap vs eb rb te tr sch flt nn 5 at_ id nv fv xv sv a cap ev w0 (S.ext hE0) (T.ext C hE0) hte htr htt G.s6 G.len G.ok hl hic hz (hc.ext hE0) (fun hp => ha a.block rfl hp) q hq rfl
  have P : ∀ w', LMa E w0 w' own wb v0 v1 v5 ic eb rb te tr sch flt (maN ev q nn) → NextPost E w w' own wb v0 v1 v5 ic eb rb te tr sch := fun w' h => (next_of_ma G h).behind hE0
  rw [hw0] at H P hRow
  have HP : Hid _ := P
  clear P hw0 hE0 hq
  go_enter Tryz.func37, Tryz.ntmps37
  go_wp2_with (first
    | (refine wpList_load_row rfl 30 _ rfl w.heap.size rfl _ _ 30 hRow Tryz.underlying30 rfl Tryz.infoOp ?_; clear hRow))
  refine Calls.mono H.out ?_
  rintro e w1 ⟨rfl, hp⟩
  go_wp2
  go_ret
  exact ⟨rfl, HP.out w1 hp⟩

set_option maxHeartbeats 800000 in
set_option maxRecDepth 100000 in
theorem step_match6 {E : World → Nat → (Nat → Prop) → List Int → List (Int × List Cd) → Int → Prop} (C : EngC E) (own : Nat → Nat) (wb : Nat) (v0 v1 v5 : Value) (ia : Option Addr) (ic icap : Nat) (vs : List Value) (eb rb te tr : Nat) (sch : List Int) (flt : List (Int × List Cd)) (nn : Int) (at_ id : Int) (nv fv xv sv : Value) (ao : Option Addr) (cap : Nat) (ev : List Fd) (w : World)
    (S : St w own wb v0 v1 v5 ia ic icap vs) (T : Two E w eb rb (fun b => own b = te) (fun b => own b = tr) sch flt nn) (G : Good sch flt) (hte : 10 ≤ te) (htr : 10 ≤ tr) (htt : te ≠ tr) (hl : ev.length * 32 ≤ 140737488351232) (hic : (ic + 4) * 24 ≤ 140737488355328)
    (hz : ∀ j (hj : j < ev.length), ev[j].v.s.size ≤ 9223372036854775807) (hc : Fxs w ao ev) (ha : ∀ g, blkOf ao = some g → 0 < ev.length → own g = 5) (hcn : ao = none → ev.length = 0 ∧ cap = 0) :
    Calls Tryz.prog 37 #[.pointer (some ⟨wb, 0, none⟩), .pointer (some ⟨eb, 0, none⟩), .pointer (some ⟨rb, 0, none⟩), .agg #[.int .i64 6, .int .i64 at_, .int .i64 id, nv, fv, .slice ao ev.length cap, xv, sv]] w fun e w' => e = .returned (.bool true) ∧ NextPost E w w' own wb v0 v1 v5 ic eb rb te tr sch := by
  obtain ⟨q, hq⟩ := ex_bad sch ev
  obtain ⟨w0, hw0, hE0, hRow⟩ := op_new w (.int .i64 6) (.int .i64 at_) (.int .i64 id) nv fv (.slice ao ev.length cap) xv sv
  have H : Hid (Calls Tryz.prog 35 #[.pointer (some ⟨wb, 0, none⟩), .pointer (some ⟨eb, 0, none⟩), .pointer (some ⟨rb, 0, none⟩), .agg #[.int .i64 6, .int .i64 at_, .int .i64 id, nv, fv, .slice ao ev.length cap, xv, sv]] w0 fun e w' => e = .returned (.bool true) ∧ LMa E w0 w' own wb v0 v1 v5 ic eb rb te tr sch flt (maN ev q nn)) := by
    cases ao with
    | none =>
      obtain ⟨hl0, rfl⟩ := hcn rfl
      obtain rfl : ev = [] := List.eq_nil_of_length_eq_zero hl0
      exact matches_nil6 C own wb v0 v1 v5 ia ic icap vs eb rb te tr sch flt nn 6 at_ id nv fv xv sv w0 (S.ext hE0) (T.ext C hE0) hte htr htt G.s6 G.len G.ok hic q hq rfl rfl
    | some a => exact matches_core6 C own wb v0 v1 v5 ia ic icap vs eb rb te tr sch flt nn 6 at_ id nv fv xv sv a cap ev w0 (S.ext hE0) (T.ext C hE0) hte htr htt G.s6 G.len G.ok hl hic hz (hc.ext hE0) (fun hp => ha a.block rfl hp) q hq rfl rfl
  have P : ∀ w', LMa E w0 w' own wb v0 v1 v5 ic eb rb te tr sch flt (maN ev q nn) → NextPost E w w' own wb v0 v1 v5 ic eb rb te tr sch := fun w' h => (next_of_ma G h).behind hE0
  rw [hw0] at H P hRow
  have HP : Hid _ := P
  clear P hw0 hE0 hq
  go_enter Tryz.func37, Tryz.ntmps37
  go_wp2_with (first
    | (refine wpList_load_row rfl 30 _ rfl w.heap.size rfl _ _ 30 hRow Tryz.underlying30 rfl Tryz.infoOp ?_; clear hRow))
  refine Calls.mono H.out ?_
  rintro e w1 ⟨rfl, hp⟩
  go_wp2
  go_ret
  exact ⟨rfl, HP.out w1 hp⟩

theorem reb_end {E : World → Nat → (Nat → Prop) → List Int → List (Int × List Cd) → Int → Prop} (C : EngC E) {w w1 w2 w3 w4 : World} {eb rb : Nat} {Fe Fr : Nat → Prop} {sch : List Int} {flt : List (Int × List Cd)} {nn : Int} (T : Two E w eb rb Fe Fr sch flt nn) (hE1 : Ext w w1) (hg : w.heap.size < w1.heap.size) (hk2 : Kp Fe w1 w2)
    (he2 : E w2 eb (Grow Fe w1 w2) sch flt nn) (hE3 : Ext w2 w3) (hk4 : Kp (fun k => k = w.heap.size) w3 w4) : LStep E w w4 eb rb Fe Fr sch flt nn := by
  have r2 : RefN w2 rb Fr sch flt nn := (T.ext1 C hE1).2.kp hk2 (fun b hb hF => T.dis b hF hb)
  have r3 : RefN w3 rb Fr sch flt nn := r2.kp (hE3.kp (fun _ => False)) (fun _ _ h => h)
  exact enters_end C T hE1 hg hk2 he2 (hE3.kp _) (r3.mono (fun b hb => Or.inl hb)) hk4
theorem RefN.row {w : World} {rb : Nat} {F : Nat → Prop} {sch : List Int} {flt : List (Int × List Cd)} {n : Int} (h : RefN w rb F sch flt n) : ∃ sb sc fa fcap, Row w rb 148 [.slice (some ⟨sb, 0, none⟩) sch.length sc, .slice fa flt.length fcap, .int .i64 n] := by
  obtain ⟨_, sb, sc, fa, fcap, es, hes, hrow, _⟩ := h
  have hl : es.length = flt.length := by rw [← hes]; simp
  rw [hl] at hrow
  exact ⟨sb, sc, fa, fcap, hrow⟩

set_option maxHeartbeats 1600000 in
set_option maxRecDepth 100000 in
theorem stats_law {E : World → Nat → (Nat → Prop) → List Int → List (Int × List Cd) → Int → Prop} (C : EngC E) (eb rb : Nat) (Fe Fr : Nat → Prop) (sch : List Int) (flt : List (Int × List Cd)) (nn : Int) (w : World) (hs6 : sch.length ≤ 6) (hf : flt.length ≤ 100) (T : Two E w eb rb Fe Fr sch flt nn) :
    Calls Tryz.prog 76 #[.pointer (some ⟨eb, 0, none⟩), .pointer (some ⟨rb, 0, none⟩)] w fun e w' => e = .returned (.bool true) ∧ LStep E w w' eb rb Fe Fr sch flt nn := by
  have HS : Hid _ := C.st eb Fe sch flt nn w T.e
  have HP : Hid (∀ w1 w2, Kp Fe w w1 → E w1 eb (Grow Fe w w1) sch flt nn → Ext w1 w2 → LStep E w w2 eb rb Fe Fr sch flt nn) := fun w1 w2 h1 h2 h3 => by
    have r1 : RefN w1 rb Fr sch flt nn := T.r.kp h1 (fun b hb hF => T.dis b hF hb)
    have r2 : RefN w2 rb Fr sch flt nn := r1.kp (h3.kp (fun _ => False)) (fun _ _ h => h)
    exact un_post C T h1 h2 (h3.kp _) (r2.mono (fun b hb => Or.inl hb))
  have HR : Hid (∀ w1, Kp Fe w w1 → RefN w1 rb Fr sch flt nn) := fun w1 h1 => T.r.kp h1 (fun b hb hF => T.dis b hF hb)
  have hmul : flt.length * sch.length ≤ 600 := Nat.mul_le_mul hf hs6
  clear T
  go_enter Tryz.func76, Tryz.ntmps76
  go_wp2_with fail
  refine Calls.mono HS.out ?_
  rintro e w1 ⟨k, rfl, k1, k2, hk1, he1⟩
  obtain ⟨sb, sc, fa, fcap, hrow⟩ := (HR.out w1 hk1).row
  obtain ⟨W, hW⟩ : ∃ W, W = w1.alloc (.cells #[.int .i64 flt.length, .int .i64 k, .int .i64 nn] 62) := ⟨_, rfl⟩
  have hEW : Ext w1 W := by rw [hW]; exact (Ext.refl _).alloc _
  have hfin : ∀ q, LStep E w (W.drewN q) eb rb Fe Fr sch flt nn := fun q => HP.out w1 _ hk1 he1 (hEW.trans (drewN_ext _ _))
  have x0 : W.cell? ⟨w1.heap.size, 0, none⟩ = some (.int .i64 flt.length) := by rw [hW]; exact cell_new _ _ _ _ _ rfl rfl
  have x1 : W.cell? ⟨w1.heap.size, 1, none⟩ = some (.int .i64 k) := by rw [hW]; exact cell_new _ _ _ _ _ rfl rfl
  have x2 : W.cell? ⟨w1.heap.size, 2, none⟩ = some (.int .i64 nn) := by rw [hW]; exact cell_new _ _ _ _ _ rfl rfl
  have y0 := hEW.cell (hrow.at (j := 0) rfl)
  have y1 := hEW.cell (hrow.at (j := 1) rfl)
  have y2 := hEW.cell (hrow.at (j := 2) rfl)
  obtain ⟨p, hp⟩ : ∃ p : Int, (flt.length : Int) * (sch.length : Int) = p := ⟨_, rfl⟩
  have hpn : ((flt.length * sch.length : Nat) : Int) = p := by rw [← hp]; push_cast; rfl
  have hp0 : 0 ≤ p := by omega
  have hp6 : p ≤ 600 := by omega
  have hke : (1 : Int) ≤ (k : Int) := by omega
  have hkp : (k : Int) ≤ 1 + p := by omega
  have y1A : ∀ ob : Obj, (w1.alloc ob).cell? ⟨rb, 1, none⟩ = some (.slice fa flt.length fcap) := fun ob => ((Ext.refl _).alloc ob).cell (hrow.at (j := 1) rfl)
  have HF : Hid (∀ q, LStep E w (W.drewN q) eb rb Fe Fr sch flt nn) := hfin
  clear hpn hmul hfin hrow HS HP HR k1 k2 hk1 he1
  go_wp2_with fail
  rw [← hW]
  clear hW hEW
  go_quiet (fail)
  go_wp2
  go_ret
  exact ⟨rfl, HF.out _⟩

set_option maxHeartbeats 800000 in
set_option maxRecDepth 100000 in
theorem step_stat {E : World → Nat → (Nat → Prop) → List Int → List (Int × List Cd) → Int → Prop} (C : EngC E) (own : Nat → Nat) (wb : Nat) (v0 v1 v5 : Value) (ia : Option Addr) (ic icap : Nat) (vs : List Value) (eb rb te tr : Nat) (sch : List Int) (flt : List (Int × List Cd)) (nn : Int) (at_ id : Int) (nv fv ev xv sv : Value) (w : World)
    (S : St w own wb v0 v1 v5 ia ic icap vs) (T : Two E w eb rb (fun b => own b = te) (fun b => own b = tr) sch flt nn) (G : Good sch flt) (hte : 10 ≤ te) (htr : 10 ≤ tr) (htt : te ≠ tr) :
    Calls Tryz.prog 37 #[.pointer (some ⟨wb, 0, none⟩), .pointer (some ⟨eb, 0, none⟩), .pointer (some ⟨rb, 0, none⟩), .agg #[.int .i64 8, .int .i64 at_, .int .i64 id, nv, fv, ev, xv, sv]] w fun e w' => e = .returned (.bool true) ∧ NextPost E w w' own wb v0 v1 v5 ic eb rb te tr sch := by
  obtain ⟨w0, hw0, hE0, _⟩ := op_new w (.int .i64 8) (.int .i64 at_) (.int .i64 id) nv fv ev xv sv
  have H : Hid _ := stats_law C eb rb _ _ sch flt nn w0 G.s6 G.len (T.ext C hE0)
  have P : ∀ w', LStep E w0 w' eb rb (fun b => own b = te) (fun b => own b = tr) sch flt nn → NextPost E w w' own wb v0 v1 v5 ic eb rb te tr sch := fun w' h => (next_of_step C (S.ext hE0) hte htr htt G h).behind hE0
  rw [hw0] at H P
  have HP : Hid _ := P
  clear P hw0 hE0
  go_enter Tryz.func37, Tryz.ntmps37
  go_wp2_with fail
  refine Calls.mono H.out ?_
  rintro e w1 ⟨rfl, hp⟩
  go_wp2
  go_ret
  exact ⟨rfl, HP.out w1 hp⟩

set_option maxHeartbeats 1600000 in
set_option maxRecDepth 100000 in
theorem step_reb {E : World → Nat → (Nat → Prop) → List Int → List (Int × List Cd) → Int → Prop} (C : EngC E) (own : Nat → Nat) (wb : Nat) (v0 v1 v5 : Value) (ia : Option Addr) (ic icap : Nat) (vs : List Value) (eb rb te tr : Nat) (sch : List Int) (flt : List (Int × List Cd)) (nn : Int) (at_ id : Int) (fv ev xv sv : Value) (ao : Option Addr) (cap : Nat) (xs : List Int) (w : World)
    (S : St w own wb v0 v1 v5 ia ic icap vs) (T : Two E w eb rb (fun b => own b = te) (fun b => own b = tr) sch flt nn) (G : Good sch flt) (hte : 10 ≤ te) (htr : 10 ≤ tr) (htt : te ≠ tr) (hl : xs.length * 8 ≤ 140737488351232) (hx : Ixs w ao xs) (ha : ∀ g, blkOf ao = some g → 0 < xs.length → own g = 5) (hcn : ao = none → xs.length = 0 ∧ cap = 0) :
    Calls Tryz.prog 37 #[.pointer (some ⟨wb, 0, none⟩), .pointer (some ⟨eb, 0, none⟩), .pointer (some ⟨rb, 0, none⟩), .agg #[.int .i64 7, .int .i64 at_, .int .i64 id, .slice ao xs.length cap, fv, ev, xv, sv]] w fun e w' => e = .returned (.bool true) ∧ NextPost E w w' own wb v0 v1 v5 ic eb rb te tr sch := by
  have qT : ∀ (w : World) (a : Option Addr) (n c n' c' : Nat), (binOp .eql 25 (.slice a n c) (.slice none n' c')).run Tryz.prog w = .ok (.bool a.isNone) w := fun w a n c n' c' => Lib.run_eql_slice_nil w _ _ a n c n' c' Tryz.underlying25
  obtain ⟨w0, hw0, hE0, hRow⟩ := op_new w (.int .i64 7) (.int .i64 at_) (.int .i64 id) (.slice ao xs.length cap) fv ev xv sv
  have T0 := T.ext C hE0
  have z0 : w0.heap.size = w.heap.size + 1 := by rw [hw0]; simp
  have hown : ∀ t, 10 ≤ t → ∀ b, w.heap.size ≤ b → ¬ own b = t := fun t ht b hb e => by have := S.fresh b hb; omega
  have HN : Hid _ := numbers_any ao cap xs w0 hl (hx.ext hE0)
  have HRb : Hid (∀ w1, Ext w0 w1 → ∀ bo bcap, Ixs w1 bo xs → Calls Tryz.prog 22 #[.pointer (some ⟨eb, 0, none⟩), .slice bo xs.length bcap] w1 fun e w' => e = .returned (.int .i64 (if orderB sch.length xs then 0 else 9)) ∧ Kp (fun b => own b = te) w1 w' ∧ E w' eb (Grow (fun b => own b = te) w1 w') sch flt nn) := fun w1 h1 bo bcap hb => C.rb eb _ sch flt nn bo bcap xs w1 (T0.ext1 C h1).1 hb
  have HR : Hid (∀ w1 w2, Ext w0 w1 → Kp (fun b => own b = te) w1 w2 → ∃ sb sc, w2.cell? ⟨rb, 0, none⟩ = some (.slice (some ⟨sb, 0, none⟩) sch.length sc)) := fun w1 w2 h1 h2 => by
    obtain ⟨sb, sc, fa, fcap, hrow⟩ := RefN.row (((T0.ext1 C h1).2).kp h2 (fun b hb hF => htt (hF.symm.trans hb)))
    exact ⟨sb, sc, hrow.at (j := 0) rfl⟩
  have HX : Hid (∀ w1 w2, Ext w0 w1 → Kp (fun b => own b = te) w1 w2 → Ixs w2 ao xs ∧ w2.cell? ⟨w.heap.size, 3, none⟩ = some (.slice ao xs.length cap)) := fun w1 w2 h1 h2 => by
    refine ⟨fun hp => ?_, h2.cell (h1.cell (hRow.at (j := 3) rfl)) (hown te hte _ (Nat.le_refl _))⟩
    obtain ⟨b, o, e, hI⟩ := hx hp
    exact ⟨b, o, e, (((hI.kp (hE0.kp (fun _ => False)) (fun h => h)).kp (h1.kp (fun _ => False)) (fun h => h))).kp h2 (fun hb => by have := ha b (by rw [e]; rfl) hp; omega)⟩
  have HP : Hid (∀ w1 w2 w3 w4, Ext w0 w1 → w0.heap.size < w1.heap.size → Kp (fun b => own b = te) w1 w2 → E w2 eb (Grow (fun b => own b = te) w1 w2) sch flt nn → Ext w2 w3 → Kp (fun k => k = w0.heap.size) w3 w4 → NextPost E w w4 own wb v0 v1 v5 ic eb rb te tr sch) := fun w1 w2 w3 w4 h1 h2 h3 h4 h5 h6 => (next_of_step C (S.ext hE0) hte htr htt G (reb_end C T0 h1 h2 h3 h4 h5 h6)).behind hE0
  have c3 := hRow.at (j := 3) rfl
  have hs6 := G.s6
  have hK0 : Hid (∀ w1 w2, Kp (fun b => own b = te) w1 w2 → ∀ l, Row w1 w0.heap.size 3 l → Row w2 w0.heap.size 3 l) := fun w1 w2 h l hr => h.row hr (hown te hte _ (by omega))
  have HOr : Hid (∀ W, Ixs W ao xs → Calls Tryz.prog 75 #[.slice ao xs.length cap, .int .i64 sch.length] W fun e w' => e = .returned (.bool (orderB sch.length xs)) ∧ w' = W) := fun W h => rOrder_any ao cap xs sch.length W hs6 h
  have HZ : Hid (w0.heap.size = w.heap.size + 1) := z0
  generalize orderB sch.length xs = ob at *
  obtain ⟨er, her⟩ : ∃ er : Int, er = if ob then 0 else 9 := ⟨_, rfl⟩
  rw [← her] at HRb
  have HE : Hid (er = if ob then 0 else 9) := her
  clear her
  clear T T0 S G hRow hE0 ha z0
  cases ao with
  | none =>
    obtain ⟨hl0, rfl⟩ := hcn rfl
    obtain rfl : xs = [] := List.eq_nil_of_length_eq_zero hl0
    clear hcn hx
    rw [List.length_nil] at hw0 c3
    go_enter Tryz.func37, Tryz.ntmps37
    go_wp2_with fail
    rw [← hw0]
    clear hw0
    refine Calls.mono HN.out ?_
    rintro e w1 ⟨rfl, hr1, hE1⟩
    have d3 := hE1.cell c3
    have hlt := hr1.lt
    clear HN c3
    go_wp2_with fail
    refine Calls.mono (HRb.out w1 hE1 _ _ (fun h => absurd h (by simp))) ?_
    rintro e w2 ⟨rfl, hk2, he2⟩
    obtain ⟨sb, sc, r0⟩ := HR.out w1 w2 hE1 hk2
    obtain ⟨hx2, f3⟩ := HX.out w1 w2 hE1 hk2
    have hr2 : Hid (Row w2 w0.heap.size 3 (padI [])) := hK0.out w1 w2 hk2 _ hr1
    have HX2 : Hid (Ixs w2 none []) := hx2
    clear HRb HR HX hK0 d3 hr1 hx2
    go_wp2_with fail
    go_region_with (first
      | (go_at_call 75; refine Calls.mono (HOr.out _ (by exact Ixs.ext HX2.out (Ext.refl _).drew)) ?_; rintro e w3 ⟨rfl, rfl⟩))
    all_goals
      go_wp2_with fail
      refine Calls.mono (wholeNumbers_any w0.heap.size none 0 [] w2.drew hl (Row.ext hr2.out (Ext.refl _).drew) (Ixs.ext HX2.out (Ext.refl _).drew)) ?_
      rintro e w4 ⟨rfl, hk4⟩
      have hfin := HP.out w1 w2 w2.drew w4 hE1 hlt hk2 he2 (Ext.refl _).drew hk4
      clear HP he2 hk2 hk4 r0 f3 hr2 HX2 HOr
      cases ob with
      | true =>
        have h0 := HE.out
        simp only [if_true] at h0
        subst h0
        clear HE
        go_wp2
        go_ret
        exact ⟨rfl, hfin⟩
      | false =>
        have h0 := HE.out
        simp only [Bool.false_eq_true, if_false] at h0
        subst h0
        clear HE
        go_wp2_with fail
        refine (num_any _ _).mono ?_
        rintro e w5 ⟨rfl, rfl⟩
        go_wp2
        go_ret
        exact ⟨rfl, hfin⟩
  | some a =>
    clear hcn hx
    go_enter Tryz.func37, Tryz.ntmps37
    go_wp2_with fail
    rw [← hw0]
    clear hw0
    refine Calls.mono HN.out ?_
    rintro e w1 ⟨rfl, hr1, hE1⟩
    have d3 := hE1.cell c3
    have hlt := hr1.lt
    clear HN c3
    go_wp2_with fail
    refine Calls.mono (HRb.out w1 hE1 _ _ (pad_ints hr1)) ?_
    rintro e w2 ⟨rfl, hk2, he2⟩
    obtain ⟨sb, sc, r0⟩ := HR.out w1 w2 hE1 hk2
    obtain ⟨hx2, f3⟩ := HX.out w1 w2 hE1 hk2
    have hr2 : Hid (Row w2 w0.heap.size 3 (padI xs)) := hK0.out w1 w2 hk2 _ hr1
    have HX2 : Hid (Ixs w2 (some a) xs) := hx2
    clear HRb HR HX hK0 d3 hr1 hx2
    go_wp2_with fail
    go_region_with (first
      | (go_at_call 75; refine Calls.mono (HOr.out _ (by exact Ixs.ext HX2.out (Ext.refl _).drew)) ?_; rintro e w3 ⟨rfl, rfl⟩))
    all_goals
      go_wp2_with fail
      refine Calls.mono (wholeNumbers_any w0.heap.size (some a) cap xs w2.drew hl (Row.ext hr2.out (Ext.refl _).drew) (Ixs.ext HX2.out (Ext.refl _).drew)) ?_
      rintro e w4 ⟨rfl, hk4⟩
      have hfin := HP.out w1 w2 w2.drew w4 hE1 hlt hk2 he2 (Ext.refl _).drew hk4
      clear HP he2 hk2 hk4 r0 f3 hr2 HX2 HOr
      cases ob with
      | true =>
        have h0 := HE.out
        simp only [if_true] at h0
        subst h0
        clear HE
        go_wp2
        go_ret
        exact ⟨rfl, hfin⟩
      | false =>
        have h0 := HE.out
        simp only [Bool.false_eq_true, if_false] at h0
        subst h0
        clear HE
        go_wp2_with fail
        refine (num_any _ _).mono ?_
        rintro e w5 ⟨rfl, rfl⟩
        go_wp2
        go_ret
        exact ⟨rfl, hfin⟩

end Go.Proofs.YtpbblaeamddbgaaGreat
namespace Go.Proofs.YtpbblaeamddbgaaGreat
open Go.RowKit

def ptr (b : Nat) : Value := .pointer (some ⟨b, 0, none⟩)
theorem Two.carry {E : World → Nat → (Nat → Prop) → List Int → List (Int × List Cd) → Int → Prop} (C : EngC E) {w w' : World} {own own' : Nat → Nat} {eb rb t1 t2 : Nat} {M : Nat → Prop} {sch : List Int} {flt : List (Int × List Cd)} {nn : Int} (T : Two E w eb rb (fun b => own b = t1) (fun b => own b = t2) sch flt nn) (h1 : 0 < t1) (h2 : 0 < t2) (h12 : t1 ≠ t2)
    (hK : Kp M w w') (hM : ∀ b, own b = t1 ∨ own b = t2 → ¬ M b) (hown : ∀ b, b < w.heap.size → own' b = own b) (hfr' : ∀ b, w'.heap.size ≤ b → own' b = 0) : Two E w' eb rb (fun b => own' b = t1) (fun b => own' b = t2) sch flt nn :=
  ⟨C.mono (C.kp T.e hK (fun b hb => hM b (Or.inl hb))) (fun b hb => (hown b (T.le b hb)).trans hb), (T.r.kp hK (fun b hb => hM b (Or.inr hb))).mono (fun b hb => (hown b (T.lr b hb)).trans hb), fun b hb => by
    rcases Nat.lt_or_ge b w'.heap.size with h | h
    · exact h
    · have := hfr' b h; omega, fun b hb => by
    rcases Nat.lt_or_ge b w'.heap.size with h | h
    · exact h
    · have := hfr' b h; omega, fun b hb hb2 => h12 (hb.symm.trans hb2)⟩

/-- The whole state of a script: the caller's world, the engines and their references, what came in. -/
structure InvS (E : World → Nat → (Nat → Prop) → List Int → List (Int × List Cd) → Int → Prop) (w0 w : World) (own : Nat → Nat) (wb n ic : Nat) (ea ra ia : Option Addr) (ecap rcap icap : Nat) (vs : List Value) (ebs rbs : List Nat) : Prop where
  st : St w own wb (.slice ea n ecap) (.slice ra n rcap) (.slice none 0 0) ia ic icap vs
  oe : OSl w 33 1 ea n ecap (ebs.map ptr)
  orr : OSl w 92 1 ra n rcap (rbs.map ptr)
  te : ∀ g, blkOf ea = some g → own g = 3
  tr : ∀ g, blkOf ra = some g → own g = 3
  dj : ∀ g, blkOf ea = some g → ¬ blkOf ra = some g
  le : ebs.length = n
  lr : rbs.length = n
  eng : ∀ i (h1 : i < ebs.length) (h2 : i < rbs.length), ∃ sch flt nn, Two E w ebs[i] rbs[i] (fun b => own b = 10 + 2 * i) (fun b => own b = 11 + 2 * i) sch flt nn ∧ Good sch flt
  inp : ∀ b, b < w0.heap.size → own b = 5
  ext : Ext w0 w
def Inv (E : World → Nat → (Nat → Prop) → List Int → List (Int × List Cd) → Int → Prop) (w0 w : World) (wb n B : Nat) : Prop :=
  ∃ own ic ea ra ia ecap rcap icap vs ebs rbs, ic ≤ B ∧ InvS E w0 w own wb n ic ea ra ia ecap rcap icap vs ebs rbs
def At (E : World → Nat → (Nat → Prop) → List Int → List (Int × List Cd) → Int → Prop) (w0 w : World) (wb n B i eb rb : Nat) : Prop :=
  ∃ own ic ea ra ia ecap rcap icap vs ebs rbs, ic ≤ B ∧ InvS E w0 w own wb n ic ea ra ia ecap rcap icap vs ebs rbs ∧ ebs[i]? = some eb ∧ rbs[i]? = some rb
theorem kp_ext0 {w0 w w' : World} {own : Nat → Nat} {M : Nat → Prop} (h : Ext w0 w) (hin : ∀ b, b < w0.heap.size → own b = 5) (hK : Kp M w w') (hM : ∀ b, own b = 5 → ¬ M b) : Ext w0 w' :=
  ⟨hK.os.trans h.os, hK.tape.trans h.tape, hK.output.trans h.output, Nat.le_trans h.size hK.size, fun i hi => (hK.block i (Nat.lt_of_lt_of_le hi h.le) (hM i (hin i hi))).trans (h.block i hi)⟩
/-- Blocks may be given another owner where nobody has them. -/
theorem InvS.tag {E : World → Nat → (Nat → Prop) → List Int → List (Int × List Cd) → Int → Prop} (C : EngC E) {w0 w w1 : World} {own own' : Nat → Nat} {wb n ic : Nat} {ea ra ia : Option Addr} {ecap rcap icap : Nat} {vs : List Value} {ebs rbs : List Nat} (h : InvS E w0 w own wb n ic ea ra ia ecap rcap icap vs ebs rbs) (hE : Ext w w1) (h1 : ∀ b, b < w.heap.size → own' b = own b) (h2 : ∀ b, w1.heap.size ≤ b → own' b = 0) :
    InvS E w0 w1 own' wb n ic ea ra ia ecap rcap icap vs ebs rbs := by
  have S := h.st
  have hlt : ∀ b, 0 < own b → b < w.heap.size := fun b hb => by
    rcases Nat.lt_or_ge b w.heap.size with h | h
    · exact h
    · have := S.fresh b h; omega
  have old : ∀ (b t : Nat), own b = t → 0 < t → own' b = t := fun b t hb ht => (h1 b (hlt b (by omega))).trans hb
  have S1 := S.ext hE
  refine ⟨⟨S1.row, S1.ids, S1.len, S1.four, old _ _ S1.ow (by decide), fun g hg => old _ _ (S1.oi g hg) (by decide), fun i hi => ?_, h2⟩, h.oe.ext hE, h.orr.ext hE, fun g hg => old _ _ (h.te g hg) (by decide), fun g hg => old _ _ (h.tr g hg) (by decide), h.dj, h.le, h.lr, fun i a b => ?_, fun b hb => old _ _ (h.inp b hb) (by decide), h.ext.trans hE⟩
  · obtain ⟨ao, k, cap, e1, e2, e3, e4⟩ := S1.book i hi
    exact ⟨ao, k, cap, e1, e2, e3, fun g hg => old _ _ (e4 g hg) (by decide)⟩
  · obtain ⟨sch, flt, nn, T, G⟩ := h.eng i a b
    exact ⟨sch, flt, nn, T.carry C (by omega) (by omega) (by omega) (hE.kp (fun _ => False)) (fun _ _ h => h) h1 h2, G⟩
theorem InvS.ahead {E : World → Nat → (Nat → Prop) → List Int → List (Int × List Cd) → Int → Prop} (C : EngC E) {w0 w w1 : World} {own : Nat → Nat} {wb n ic : Nat} {ea ra ia : Option Addr} {ecap rcap icap : Nat} {vs : List Value} {ebs rbs : List Nat} (h : InvS E w0 w own wb n ic ea ra ia ecap rcap icap vs ebs rbs) (hE : Ext w w1) : InvS E w0 w1 own wb n ic ea ra ia ecap rcap icap vs ebs rbs :=
  h.tag C hE (fun _ _ => rfl) (fun b hb => h.st.fresh b (Nat.le_trans hE.le hb))
theorem Inv.ahead {E : World → Nat → (Nat → Prop) → List Int → List (Int × List Cd) → Int → Prop} (C : EngC E) {w0 w w1 : World} {wb n B : Nat} (h : Inv E w0 w wb n B) (hE : Ext w w1) : Inv E w0 w1 wb n B := by
  obtain ⟨own, ic, ea, ra, ia, ecap, rcap, icap, vs, ebs, rbs, hB, h⟩ := h
  exact ⟨own, ic, ea, ra, ia, ecap, rcap, icap, vs, ebs, rbs, hB, h.ahead C hE⟩
theorem Inv.more {E : World → Nat → (Nat → Prop) → List Int → List (Int × List Cd) → Int → Prop} {w0 w : World} {wb n B B' : Nat} (h : Inv E w0 w wb n B) (hB' : B ≤ B') : Inv E w0 w wb n B' := by
  obtain ⟨own, ic, ea, ra, ia, ecap, rcap, icap, vs, ebs, rbs, hB, h⟩ := h
  exact ⟨own, ic, ea, ra, ia, ecap, rcap, icap, vs, ebs, rbs, by omega, h⟩
theorem Inv.ext0 {E : World → Nat → (Nat → Prop) → List Int → List (Int × List Cd) → Int → Prop} {w0 w : World} {wb n B : Nat} (h : Inv E w0 w wb n B) : Ext w0 w := by
  obtain ⟨own, ic, ea, ra, ia, ecap, rcap, icap, vs, ebs, rbs, hB, h⟩ := h
  exact h.ext
/-- What one finds at a place. -/
theorem Inv.at {E : World → Nat → (Nat → Prop) → List Int → List (Int × List Cd) → Int → Prop} {w0 w : World} {wb n B : Nat} (h : Inv E w0 w wb n B) (i : Nat) (hi : i < n) :
    ∃ eg ecap rg rcap eb rb, w.cell? ⟨wb, 0, none⟩ = some (.slice (some ⟨eg, 0, none⟩) n ecap) ∧ w.cell? ⟨wb, 1, none⟩ = some (.slice (some ⟨rg, 0, none⟩) n rcap) ∧ w.cell? ⟨eg, i, none⟩ = some (.pointer (some ⟨eb, 0, none⟩)) ∧ w.cell? ⟨rg, i, none⟩ = some (.pointer (some ⟨rb, 0, none⟩)) ∧ At E w0 w wb n B i eb rb := by
  obtain ⟨own, ic, ea, ra, ia, ecap, rcap, icap, vs, ebs, rbs, hB, h⟩ := h
  have l1 : i < ebs.length := by rw [h.le]; exact hi
  have l2 : i < rbs.length := by rw [h.lr]; exact hi
  obtain ⟨eg, rfl, c1⟩ := h.oe.at (j := i) (v := ptr ebs[i]) (by simp [l1])
  obtain ⟨rg, rfl, c2⟩ := h.orr.at (j := i) (v := ptr rbs[i]) (by simp [l2])
  exact ⟨eg, ecap, rg, rcap, ebs[i], rbs[i], h.st.row.at (j := 0) rfl, h.st.row.at (j := 1) rfl, c1, c2, own, ic, _, _, ia, ecap, rcap, icap, vs, ebs, rbs, hB, h, by simp [l1], by simp [l2]⟩
theorem At.inv {E : World → Nat → (Nat → Prop) → List Int → List (Int × List Cd) → Int → Prop} {w0 w : World} {wb n B i eb rb : Nat} (h : At E w0 w wb n B i eb rb) : Inv E w0 w wb n B := by
  obtain ⟨own, ic, ea, ra, ia, ecap, rcap, icap, vs, ebs, rbs, hB, h, _⟩ := h
  exact ⟨own, ic, ea, ra, ia, ecap, rcap, icap, vs, ebs, rbs, hB, h⟩
theorem Inv.all {E : World → Nat → (Nat → Prop) → List Int → List (Int × List Cd) → Int → Prop} {w0 w : World} {wb n B : Nat} (h : Inv E w0 w wb n B) (hn : 1 ≤ n) :
    ∃ eg ecap rg rcap, w.cell? ⟨wb, 0, none⟩ = some (.slice (some ⟨eg, 0, none⟩) n ecap) ∧ w.cell? ⟨wb, 1, none⟩ = some (.slice (some ⟨rg, 0, none⟩) n rcap) ∧ ∀ i, i < n → ∃ eb rb, w.cell? ⟨eg, i, none⟩ = some (.pointer (some ⟨eb, 0, none⟩)) ∧ w.cell? ⟨rg, i, none⟩ = some (.pointer (some ⟨rb, 0, none⟩)) ∧ At E w0 w wb n B i eb rb := by
  obtain ⟨eg, ecap, rg, rcap, _, _, c1, c2, _⟩ := h.at 0 (by omega)
  refine ⟨eg, ecap, rg, rcap, c1, c2, fun i hi => ?_⟩
  obtain ⟨eg', ecap', rg', rcap', eb, rb, d1, d2, d3, d4, hA⟩ := h.at i hi
  rw [c1] at d1
  rw [c2] at d2
  cases d1
  cases d2
  exact ⟨eb, rb, d3, d4, hA⟩
theorem Inv.len {E : World → Nat → (Nat → Prop) → List Int → List (Int × List Cd) → Int → Prop} {w0 w : World} {wb n B : Nat} (h : Inv E w0 w wb n B) : ∃ ea ecap, w.cell? ⟨wb, 0, none⟩ = some (.slice ea n ecap) := by
  obtain ⟨own, ic, ea, ra, ia, ecap, rcap, icap, vs, ebs, rbs, hB, h⟩ := h
  exact ⟨ea, ecap, h.st.row.at (j := 0) rfl⟩

/-- The lists of engines, and what stands at a place, are as they were. -/
def Held (w w' : World) (wb i : Nat) : Prop := ∀ eg ec rg rc n eb rb, w.cell? ⟨wb, 0, none⟩ = some (.slice (some ⟨eg, 0, none⟩) n ec) → w.cell? ⟨wb, 1, none⟩ = some (.slice (some ⟨rg, 0, none⟩) n rc) → w.cell? ⟨eg, i, none⟩ = some eb → w.cell? ⟨rg, i, none⟩ = some rb →
  w'.cell? ⟨wb, 0, none⟩ = some (.slice (some ⟨eg, 0, none⟩) n ec) ∧ w'.cell? ⟨wb, 1, none⟩ = some (.slice (some ⟨rg, 0, none⟩) n rc) ∧ w'.cell? ⟨eg, i, none⟩ = some eb ∧ w'.cell? ⟨rg, i, none⟩ = some rb
/-- Blocks that were made behind a, ahead of b, are as they were. -/
def Kept (a b w' : World) : Prop := ∀ k, a.heap.size ≤ k → k < b.heap.size → w'.heap[k]? = b.heap[k]?
theorem Kept.cell {a b w' : World} (h : Kept a b w') {k j : Nat} {v : Value} (hk : a.heap.size ≤ k) (hc : b.cell? ⟨k, j, none⟩ = some v) : w'.cell? ⟨k, j, none⟩ = some v := by
  rw [World.cell?_of_block (w := b) (h k hk (World.block_lt_of_cell? b ⟨k, j, none⟩ hc))]; exact hc
theorem held_of {w w' : World} {wb n i eb rb : Nat} {v2 v3 v4 v5 v2' : Value} {T T' S S' : TypeId} {ea ra : Option Addr} {ecap rcap : Nat} {ebs rbs : List Nat} (h : Row w wb S [.slice ea n ecap, .slice ra n rcap, v2, v3, v4, v5]) (h' : Row w' wb S' [.slice ea n ecap, .slice ra n rcap, v2', v3, v4, v5]) (he : ebs[i]? = some eb) (hr : rbs[i]? = some rb)
    (o1 : OSl w T 1 ea n ecap (ebs.map ptr)) (o1' : OSl w' T 1 ea n ecap (ebs.map ptr)) (o2 : OSl w T' 1 ra n rcap (rbs.map ptr)) (o2' : OSl w' T' 1 ra n rcap (rbs.map ptr)) : Held w w' wb i := by
  intro eg ec rg rc m xe xr c0 c1 c2 c3
  rw [h.at (j := 0) rfl] at c0
  rw [h.at (j := 1) rfl] at c1
  simp only [Option.some.injEq, Value.slice.injEq] at c0 c1
  obtain ⟨rfl, rfl, rfl⟩ := c0
  obtain ⟨rfl, _, rfl⟩ := c1
  obtain ⟨_, e1, d1⟩ := o1.at (j := i) (v := ptr eb) (by simp [he])
  cases e1
  obtain ⟨_, e2, d2⟩ := o2.at (j := i) (v := ptr rb) (by simp [hr])
  cases e2
  obtain ⟨_, e3, d3⟩ := o1'.at (j := i) (v := ptr eb) (by simp [he])
  cases e3
  obtain ⟨_, e4, d4⟩ := o2'.at (j := i) (v := ptr rb) (by simp [hr])
  cases e4
  rw [d1] at c2
  rw [d2] at c3
  exact ⟨h'.at (j := 0) rfl, h'.at (j := 1) rfl, d3.trans c2, d4.trans c3⟩

theorem inv_next {E : World → Nat → (Nat → Prop) → List Int → List (Int × List Cd) → Int → Prop} (C : EngC E) {w0 w w' : World} {own : Nat → Nat} {wb n ic B : Nat} {ea ra ia : Option Addr} {ecap rcap icap : Nat} {vs : List Value} {ebs rbs : List Nat} (h : InvS E w0 w own wb n ic ea ra ia ecap rcap icap vs ebs rbs) (hB : ic ≤ B) {i eb rb : Nat} (he : ebs[i]? = some eb) (hr : rbs[i]? = some rb) {sch : List Int}
    (hn : NextPost E w w' own wb (.slice ea n ecap) (.slice ra n rcap) (.slice none 0 0) ic eb rb (10 + 2 * i) (11 + 2 * i) sch) : At E w0 w' wb n (B + 4) i eb rb ∧ Held w w' wb i ∧ ∀ b, b < w.heap.size → own b = 0 ∨ own b = 5 → w'.heap[b]? = w.heap[b]? := by
  obtain ⟨own', ia', ic', icap', vs', flt', nn', S', hic, T', G', ho, hK⟩ := hn
  have S := h.st
  have hlt : ∀ b, 0 < own b → b < w.heap.size := fun b hb => by
    rcases Nat.lt_or_ge b w.heap.size with h | h
    · exact h
    · have := S.fresh b h; omega
  have old : ∀ (b t : Nat), own b = t → 0 < t → own' b = t := fun b t hb ht => (ho b (hlt b (by omega))).trans hb
  have oe' := h.oe.kp hK (fun g hg e => by have := h.te g hg; omega)
  have or' := h.orr.kp hK (fun g hg e => by have := h.tr g hg; omega)
  refine ⟨?_, held_of S.row S'.row he hr h.oe oe' h.orr or', fun b hb h0 => hK.block b hb (fun e => by omega)⟩
  refine ⟨own', ic', ea, ra, ia', ecap, rcap, icap', vs', ebs, rbs, by omega, ⟨S', oe', or', fun g hg => old _ _ (h.te g hg) (by decide), fun g hg => old _ _ (h.tr g hg) (by decide), h.dj, h.le, h.lr, fun j a b => ?_, fun b hb => old _ _ (h.inp b hb) (by decide), kp_ext0 h.ext h.inp hK (fun b hb e => by omega)⟩, he, hr⟩
  by_cases hj : j = i
  · subst hj
    have e1 : ebs[j] = eb := by rw [List.getElem?_eq_getElem a] at he; exact Option.some.inj he
    have e2 : rbs[j] = rb := by rw [List.getElem?_eq_getElem b] at hr; exact Option.some.inj hr
    rw [e1, e2]
    exact ⟨sch, flt', nn', T', G'⟩
  · obtain ⟨sch, flt, nn, T, G⟩ := h.eng j a b
    exact ⟨sch, flt, nn, T.carry C (by omega) (by omega) (by omega) hK (fun b hb e => by omega) ho S'.fresh, G⟩
theorem good_nil {xs : List Int} (h : schB xs = true) : Good xs [] := by
  simp only [schB, Bool.and_eq_true, decide_eq_true_eq] at h
  exact ⟨h.2.1, h.2.2, by simp, fun i j hi => absurd hi (by simp), fun i hi => absurd hi (by simp)⟩
theorem inv_made {E : World → Nat → (Nat → Prop) → List Int → List (Int × List Cd) → Int → Prop} (C : EngC E) {w0 w w' : World} {own : Nat → Nat} {wb n ic B : Nat} {ea ra ia : Option Addr} {ecap rcap icap : Nat} {vs : List Value} {ebs rbs : List Nat} (h : InvS E w0 w own wb n ic ea ra ia ecap rcap icap vs ebs rbs) (hB : ic ≤ B) {xs : List Int} (hs : schB xs = true)
    (hn : MadePost E w w' own wb (.slice none 0 0) ia ic icap vs n (ebs.map ptr) (rbs.map ptr) (10 + 2 * n) (11 + 2 * n) xs) : Inv E w0 w' wb (n + 1) B := by
  obtain ⟨own', eb, rb, ea', ecap', ra', rcap', S', oe', or', te', tr', dj', T', ho, hK⟩ := hn
  have S := h.st
  have hlt : ∀ b, 0 < own b → b < w.heap.size := fun b hb => by
    rcases Nat.lt_or_ge b w.heap.size with h | h
    · exact h
    · have := S.fresh b h; omega
  have old : ∀ (b t : Nat), own b = t → 0 < t → own' b = t := fun b t hb ht => (ho b (hlt b (by omega))).trans hb
  refine ⟨own', ic, ea', ra', ia, ecap', rcap', icap, vs, ebs ++ [eb], rbs ++ [rb], hB, S', by simpa [ptr] using oe', by simpa [ptr] using or', te', tr', dj', by simp [h.le], by simp [h.lr], fun j a b => ?_, fun b hb => old _ _ (h.inp b hb) (by decide), kp_ext0 h.ext h.inp hK (fun b hb e => by omega)⟩
  by_cases hj : j < n
  · have l1 : j < ebs.length := by rw [h.le]; exact hj
    have l2 : j < rbs.length := by rw [h.lr]; exact hj
    obtain ⟨sch, flt, nn, T, G⟩ := h.eng j l1 l2
    rw [List.getElem_append_left l1, List.getElem_append_left l2]
    exact ⟨sch, flt, nn, T.carry C (by omega) (by omega) (by omega) hK (fun b hb e => by omega) ho S'.fresh, G⟩
  · have ej : j = n := by have := h.le; simp at a; omega
    subst ej
    have e1 : (ebs ++ [eb])[j] = eb := by simp [← h.le]
    have e2 : (rbs ++ [rb])[j] = rb := by simp [← h.lr]
    rw [e1, e2]
    exact ⟨xs, [], 0, T', good_nil hs⟩

theorem made_inv {E : World → Nat → (Nat → Prop) → List Int → List (Int × List Cd) → Int → Prop} (C : EngC E) {w0 w w1 : World} {wb n B : Nat} (h : Inv E w0 w wb n B) (hE : Ext w w1) (ao : Option Addr) (cap : Nat) (xs : List Int) (hl : xs.length * 8 ≤ 140737488351232) (hx : Ixs w1 ao xs) (hn : ao = none → xs.length = 0 ∧ cap = 0) (hnb : (n + 1) * 8 ≤ 140737488355328) :
    Calls Tryz.prog 33 #[.pointer (some ⟨wb, 0, none⟩), .slice ao xs.length cap] w1 fun e w' => e = .returned (.bool true) ∧ Inv E w0 w' wb (if schB xs then n + 1 else n) B := by
  have h1 := h.ahead C hE
  cases ao with
  | none =>
    obtain ⟨e1, rfl⟩ := hn rfl
    obtain rfl : xs = [] := List.eq_nil_of_length_eq_zero e1
    refine (made_nil C wb w1).mono ?_
    rintro e w' ⟨rfl, hE'⟩
    exact ⟨rfl, h1.ahead C hE'⟩
  | some a =>
    cases hs : schB xs with
    | false =>
      refine (made_no C wb a cap xs w1 hl hx hs).mono ?_
      rintro e w' ⟨rfl, hE'⟩
      exact ⟨rfl, h1.ahead C hE'⟩
    | true =>
      obtain ⟨own, ic, ea, ra, ia, ecap, rcap, icap, vs, ebs, rbs, hB, I⟩ := h1
      refine (made_yes C wb ea ra n ecap rcap _ _ _ own ia ic icap vs (10 + 2 * n) (11 + 2 * n) a cap xs w1 hl hx hs hnb I.st I.oe I.orr I.te I.tr (by omega) (by omega) (by omega) I.dj).mono ?_
      rintro e w' ⟨rfl, hp⟩
      exact ⟨rfl, inv_made C I hB hs hp⟩

theorem enters_inv {E : World → Nat → (Nat → Prop) → List Int → List (Int × List Cd) → Int → Prop} (C : EngC E) {w0 w w1 : World} {wb n B i eb rb : Nat} (h : At E w0 w wb n B i eb rb) (hE : Ext w w1) (id : Int) (ao : Option Addr) (cap : Nat) (l : List Cd) (hwf : (Lit.int .i64 id).wf = true) (hl : l.length * 64 ≤ 140737488351232)
    (hz : ∀ j (hj : j < l.length), l[j].a.s.size ≤ 9223372036854775807 ∧ l[j].b.s.size ≤ 9223372036854775807) (hc : Cxs w1 ao l) (ha : ∀ g, blkOf ao = some g → w.heap.size ≤ g) (hcn : ao = none → l.length = 0 ∧ cap = 0) :
    Calls Tryz.prog 34 #[.pointer (some ⟨eb, 0, none⟩), .pointer (some ⟨rb, 0, none⟩), .int .i64 id, .slice ao l.length cap] w1 fun e w' => e = .returned (.bool true) ∧ At E w0 w' wb n (B + 4) i eb rb ∧ Held w1 w' wb i ∧ Kept w w1 w' := by
  obtain ⟨own, ic, ea, ra, ia, ecap, rcap, icap, vs, ebs, rbs, hB, I, he, hr⟩ := h
  have I1 := I.ahead C hE
  obtain ⟨le, ee⟩ := List.getElem?_eq_some_iff.1 he
  obtain ⟨lr, er⟩ := List.getElem?_eq_some_iff.1 hr
  obtain ⟨sch, flt, nn, T, G⟩ := I1.eng i le lr
  rw [ee, er] at T
  obtain ⟨q, hq⟩ := ex_pos flt id
  obtain ⟨k, hk⟩ := ex_badc sch l
  refine (enters_any C eb rb _ _ sch flt nn id ao cap l w1 G.s1 G.s6 G.len G.srt hwf hl hz T hc (fun g hg _ => ?_) hcn q k hq hk).mono ?_
  · have := I.st.fresh g (ha g hg)
    exact ⟨fun e => by omega, fun e => by omega⟩
  · rintro e w' ⟨rfl, hp⟩
    obtain ⟨p1, p2, p3⟩ := inv_next C I1 hB he hr (next_of_step C I1.st (by omega) (by omega) (by omega) (sub_good G hq hk hz) hp)
    exact ⟨rfl, p1, p2, fun b h1 h2 => p3 b h2 (Or.inl (I.st.fresh b h1))⟩

theorem matches_inv {E : World → Nat → (Nat → Prop) → List Int → List (Int × List Cd) → Int → Prop} (C : EngC E) {w0 w w1 : World} {wb n B i eb rb : Nat} (h : At E w0 w wb n B i eb rb) (hE : Ext w w1) (at_ id : Int) (nv fv xv sv : Value) (g cap : Nat) (ev : List Fd) (hl : ev.length * 32 ≤ 140737488351232) (hic : (B + 4) * 24 ≤ 140737488355328)
    (hz : ∀ j (hj : j < ev.length), ev[j].v.s.size ≤ 9223372036854775807) (hc : Fxs w1 (some ⟨g, 0, none⟩) ev) (ha : w.heap.size ≤ g) (hg : g < w1.heap.size) :
    Calls Tryz.prog 35 #[.pointer (some ⟨wb, 0, none⟩), .pointer (some ⟨eb, 0, none⟩), .pointer (some ⟨rb, 0, none⟩), .agg #[.int .i64 3, .int .i64 at_, .int .i64 id, nv, fv, .slice (some ⟨g, 0, none⟩) ev.length cap, xv, sv]] w1 fun e w' => e = .returned (.bool true) ∧ At E w0 w' wb n (B + 4) i eb rb ∧ Held w1 w' wb i ∧ Kept w w1 w' := by
  obtain ⟨own, ic, ea, ra, ia, ecap, rcap, icap, vs, ebs, rbs, hB, I, he, hr⟩ := h
  have I1 := I.tag (own' := fun b => if b = g then 5 else own b) C hE (fun b hb => if_neg (by omega)) (fun b hb => by
    have hne : ¬ b = g := by omega
    simp only [if_neg hne]
    exact I.st.fresh b (Nat.le_trans hE.le hb))
  obtain ⟨le, ee⟩ := List.getElem?_eq_some_iff.1 he
  obtain ⟨lr, er⟩ := List.getElem?_eq_some_iff.1 hr
  obtain ⟨sch, flt, nn, T, G⟩ := I1.eng i le lr
  rw [ee, er] at T
  obtain ⟨q, hq⟩ := ex_bad sch ev
  refine (matches_core C _ wb _ _ _ ia ic icap vs eb rb (10 + 2 * i) (11 + 2 * i) sch flt nn 3 at_ id nv fv xv sv ⟨g, 0, none⟩ cap ev w1 I1.st T (by omega) (by omega) (by omega) G.s6 G.len G.ok hl (by omega) hz hc (fun _ => if_pos rfl) q hq rfl rfl).mono ?_
  rintro e w' ⟨rfl, hp⟩
  obtain ⟨p1, p2, p3⟩ := inv_next C I1 hB he hr (next_of_ma G hp)
  refine ⟨rfl, p1, p2, fun b h1 h2 => p3 b h2 ?_⟩
  by_cases hbg : b = g
  · exact Or.inr (if_pos hbg)
  · refine Or.inl ?_
    simp only [if_neg hbg]
    exact I.st.fresh b h1

/-- A step of a script, as it came in. -/
structure OpD where
  kind : Int
  at_ : Int
  id : Int
  no : Option Addr
  xs : List Int
  ncap : Nat
  fo : Option Addr
  l : List Cd
  fcap : Nat
  eo : Option Addr
  ev : List Fd
  ecap : Nat
  xo : Option Addr
  xn : Nat
  xcap : Nat
  s : ByteArray
def OpD.cells (d : OpD) : List Value := [.int .i64 d.kind, .int .i64 d.at_, .int .i64 d.id, .slice d.no d.xs.length d.ncap, .slice d.fo d.l.length d.fcap, .slice d.eo d.ev.length d.ecap, .slice d.xo d.xn d.xcap, .string d.s]
structure OpIn (w0 : World) (d : OpD) : Prop where
  nx : Ixs w0 d.no d.xs
  nl : d.xs.length * 8 ≤ 140737488351232
  nn : d.no = none → d.xs.length = 0 ∧ d.ncap = 0
  fx : Cxs w0 d.fo d.l
  fl : d.l.length * 64 ≤ 140737488351232
  fn : d.fo = none → d.l.length = 0 ∧ d.fcap = 0
  fb : ∀ g, blkOf d.fo = some g → 0 < d.l.length → g < w0.heap.size
  fz : ∀ j (hj : j < d.l.length), d.l[j].a.s.size ≤ 9223372036854775807 ∧ d.l[j].b.s.size ≤ 9223372036854775807
  ex : Fxs w0 d.eo d.ev
  el : d.ev.length * 32 ≤ 140737488351232
  en : d.eo = none → d.ev.length = 0 ∧ d.ecap = 0
  eb : ∀ g, blkOf d.eo = some g → 0 < d.ev.length → g < w0.heap.size
  ez : ∀ j (hj : j < d.ev.length), d.ev[j].v.s.size ≤ 9223372036854775807
  ar : -9223372036854775808 ≤ d.at_ ∧ d.at_ ≤ 9223372036854775807
  ir : (Lit.int .i64 d.id).wf = true
theorem step_inv {E : World → Nat → (Nat → Prop) → List Int → List (Int × List Cd) → Int → Prop} (C : EngC E) {w0 w w1 : World} {wb n B i eb rb : Nat} (h : At E w0 w wb n B i eb rb) (hE : Ext w w1) (d : OpD) (hd : OpIn w0 d) (hic : (B + 4) * 24 ≤ 140737488355328) (hk : 2 ≤ d.kind) (hk' : d.kind ≤ 8) :
    Calls Tryz.prog 37 #[.pointer (some ⟨wb, 0, none⟩), .pointer (some ⟨eb, 0, none⟩), .pointer (some ⟨rb, 0, none⟩), .agg d.cells.toArray] w1 fun e w' => e = .returned (.bool true) ∧ At E w0 w' wb n (B + 4) i eb rb ∧ Held w1 w' wb i ∧ Kept w w1 w' := by
  obtain ⟨own, ic, ea, ra, ia, ecap, rcap, icap, vs, ebs, rbs, hB, I, he, hr⟩ := h
  have I1 := I.ahead C hE
  obtain ⟨le, ee⟩ := List.getElem?_eq_some_iff.1 he
  obtain ⟨lr, er⟩ := List.getElem?_eq_some_iff.1 hr
  obtain ⟨sch, flt, nn, T, G⟩ := I1.eng i le lr
  rw [ee, er] at T
  obtain ⟨kind, at_, id, no, xs, ncap, fo, l, fcap, eo, ev, ecap', xo, xn, xcap, sv⟩ := d
  simp only at hk hk'
  rcases (show kind = 2 ∨ kind = 3 ∨ kind = 4 ∨ kind = 5 ∨ kind = 6 ∨ kind = 7 ∨ kind = 8 by omega) with rfl | rfl | rfl | rfl | rfl | rfl | rfl
  · refine (step_in C own wb _ _ _ ia ic icap vs eb rb (10 + 2 * i) (11 + 2 * i) sch flt nn at_ id (.slice no xs.length ncap) (.slice eo ev.length ecap') (.slice xo xn xcap) (.string sv) fo fcap l w1 I1.st T G (by omega) (by omega) (by omega) hd.ir hd.fl hd.fz (hd.fx.ext I1.ext) (fun g hg hp => I.inp g (hd.fb g hg hp)) hd.fn).mono ?_
    rintro e w' ⟨rfl, hp⟩
    obtain ⟨p1, p2, p3⟩ := inv_next C I1 hB he hr hp
    exact ⟨rfl, p1, p2, fun b h1 h2 => p3 b h2 (Or.inl (I.st.fresh b h1))⟩
  · refine (step_match C own wb _ _ _ ia ic icap vs eb rb (10 + 2 * i) (11 + 2 * i) sch flt nn at_ id (.slice no xs.length ncap) (.slice fo l.length fcap) (.slice xo xn xcap) (.string sv) eo ecap' ev w1 I1.st T G (by omega) (by omega) (by omega) hd.el (by omega) hd.ez (hd.ex.ext I1.ext) (fun g hg hp => I.inp g (hd.eb g hg hp)) hd.en).mono ?_
    rintro e w' ⟨rfl, hp⟩
    obtain ⟨p1, p2, p3⟩ := inv_next C I1 hB he hr hp
    exact ⟨rfl, p1, p2, fun b h1 h2 => p3 b h2 (Or.inl (I.st.fresh b h1))⟩
  · refine (step_out C own wb _ _ _ ia ic icap vs eb rb (10 + 2 * i) (11 + 2 * i) sch flt nn at_ id (.slice no xs.length ncap) (.slice fo l.length fcap) (.slice eo ev.length ecap') (.slice xo xn xcap) (.string sv) w1 I1.st T G (by omega) (by omega) (by omega)).mono ?_
    rintro e w' ⟨rfl, hp⟩
    obtain ⟨p1, p2, p3⟩ := inv_next C I1 hB he hr hp
    exact ⟨rfl, p1, p2, fun b h1 h2 => p3 b h2 (Or.inl (I.st.fresh b h1))⟩
  · refine (step_match5 C own wb _ _ _ ia ic icap vs eb rb (10 + 2 * i) (11 + 2 * i) sch flt nn at_ id (.slice no xs.length ncap) (.slice fo l.length fcap) (.slice xo xn xcap) (.string sv) eo ecap' ev w1 I1.st T G (by omega) (by omega) (by omega) hd.el (by omega) hd.ez (hd.ex.ext I1.ext) (fun g hg hp => I.inp g (hd.eb g hg hp)) hd.en).mono ?_
    rintro e w' ⟨rfl, hp⟩
    obtain ⟨p1, p2, p3⟩ := inv_next C I1 hB he hr hp
    exact ⟨rfl, p1, p2, fun b h1 h2 => p3 b h2 (Or.inl (I.st.fresh b h1))⟩
  · refine (step_match6 C own wb _ _ _ ia ic icap vs eb rb (10 + 2 * i) (11 + 2 * i) sch flt nn at_ id (.slice no xs.length ncap) (.slice fo l.length fcap) (.slice xo xn xcap) (.string sv) eo ecap' ev w1 I1.st T G (by omega) (by omega) (by omega) hd.el (by omega) hd.ez (hd.ex.ext I1.ext) (fun g hg hp => I.inp g (hd.eb g hg hp)) hd.en).mono ?_
    rintro e w' ⟨rfl, hp⟩
    obtain ⟨p1, p2, p3⟩ := inv_next C I1 hB he hr hp
    exact ⟨rfl, p1, p2, fun b h1 h2 => p3 b h2 (Or.inl (I.st.fresh b h1))⟩
  · refine (step_reb C own wb _ _ _ ia ic icap vs eb rb (10 + 2 * i) (11 + 2 * i) sch flt nn at_ id (.slice fo l.length fcap) (.slice eo ev.length ecap') (.slice xo xn xcap) (.string sv) no ncap xs w1 I1.st T G (by omega) (by omega) (by omega) hd.nl (hd.nx.ext I1.ext) (fun g hg hp => I.inp g ?_) hd.nn).mono ?_
    · obtain ⟨b, o, e, hI⟩ := hd.nx hp
      have hgb : g = b := by
        have e' : no = some ⟨b, o, none⟩ := e
        rw [e'] at hg; cases hg; rfl
      rw [hgb]
      exact World.block_lt_of_cell? w0 _ (hI 0 hp)
    rintro e w' ⟨rfl, hp⟩
    obtain ⟨p1, p2, p3⟩ := inv_next C I1 hB he hr hp
    exact ⟨rfl, p1, p2, fun b h1 h2 => p3 b h2 (Or.inl (I.st.fresh b h1))⟩
  · refine (step_stat C own wb _ _ _ ia ic icap vs eb rb (10 + 2 * i) (11 + 2 * i) sch flt nn at_ id (.slice no xs.length ncap) (.slice fo l.length fcap) (.slice eo ev.length ecap') (.slice xo xn xcap) (.string sv) w1 I1.st T G (by omega) (by omega) (by omega)).mono ?_
    rintro e w' ⟨rfl, hp⟩
    obtain ⟨p1, p2, p3⟩ := inv_next C I1 hB he hr hp
    exact ⟨rfl, p1, p2, fun b h1 h2 => p3 b h2 (Or.inl (I.st.fresh b h1))⟩
theorem still_inv {E : World → Nat → (Nat → Prop) → List Int → List (Int × List Cd) → Int → Prop} {w0 w : World} {wb n B : Nat} (h : Inv E w0 w wb n B) (hic : B * 24 ≤ 140737488355328) :
    Calls Tryz.prog 38 #[.pointer (some ⟨wb, 0, none⟩)] w fun e w' => e = .returned (.bool true) ∧ w' = w := by
  obtain ⟨own, ic, ea, ra, ia, ecap, rcap, icap, vs, ebs, rbs, hB, I⟩ := h
  refine still_any wb _ _ _ ia ic icap vs w I.st.len (by omega) I.st.row I.st.ids (fun i hi => ?_)
  obtain ⟨ao, k, cap, e1, e2, e3, e4⟩ := I.st.book i hi
  exact ⟨ao, k, cap, e1, e2, e3⟩
/-- The beginning: no engine yet. -/
theorem inv_zero {E : World → Nat → (Nat → Prop) → List Int → List (Int × List Cd) → Int → Prop} (w : World) : Inv E w (w.alloc (.cells #[.slice none 0 0, .slice none 0 0, .slice none 0 0, .slice none 0 0, .slice none 0 0, .slice none 0 0] 89)) w.heap.size 0 0 := by
  refine ⟨fun b => if b < w.heap.size then 5 else if b = w.heap.size then 1 else 0, 0, none, none, none, 0, 0, 0, [], [], [], Nat.le_refl _, ⟨row_alloc _ _ _ _ _ rfl rfl, OSl.nil _ _ _, rfl, rfl, by simp, (fun g hg => by cases hg), fun i hi => absurd hi (by simp), fun b hb => ?_⟩, OSl.nil _ _ _, OSl.nil _ _ _, (fun g hg => by cases hg), (fun g hg => by cases hg), (fun g hg => by cases hg), rfl, rfl, fun i h1 => absurd h1 (by simp), fun b hb => if_pos hb, (Ext.refl w).alloc _⟩
  have h1 : (w.alloc (.cells #[.slice none 0 0, .slice none 0 0, .slice none 0 0, .slice none 0 0, .slice none 0 0, .slice none 0 0] 89)).heap.size = w.heap.size + 1 := by simp
  rw [h1] at hb
  simp only [if_neg (show ¬ b < w.heap.size by omega), if_neg (show ¬ b = w.heap.size by omega)]
end Go.Proofs.YtpbblaeamddbgaaGreat
namespace Go.Proofs.YtpbblaeamddbgaaGreat
open Go.RowKit

theorem pick_at (c : Int) (n : Nat) (hn : 1 ≤ n) : ∃ i : Nat, i < n ∧ c % n = i := by
  have h1 := Int.emod_nonneg c (show (n : Int) ≠ 0 by omega)
  have h2 := Int.emod_lt_of_pos c (show (0 : Int) < n by omega)
  exact ⟨(c % n).toNat, by omega, by omega⟩
theorem pick_any (c : Int) (n : Nat) (w : World) (h1 : -9223372036854775808 ≤ c) (h2 : c ≤ 9223372036854775807) (hn : 1 ≤ n) (hm : n ≤ 1000000000000000) :
    Calls Tryz.prog 36 #[.int .i64 c, .int .i64 n] w fun e w' => (∃ i : Nat, i < n ∧ e = .returned (.int .i64 i)) ∧ w' = w := by
  by_cases hc : c < 0
  · obtain ⟨i, hi, he⟩ := pick_at (-(c + 1)) n hn
    have he2 : Hid (-(c + 1).tmod (n : Int) = i) := by
      show _ = _
      rw [← Int.neg_tmod, Int.tmod_eq_emod_of_nonneg (by omega), he]
    clear he
    go_enter Tryz.func36, Tryz.ntmps36
    go_wp2
    go_ret
    exact ⟨⟨i, hi, by simp [he2.out]⟩, rfl⟩
  · obtain ⟨i, hi, he⟩ := pick_at c n hn
    have he2 : Hid (c % (n : Int) = i) := he
    clear he
    go_enter Tryz.func36, Tryz.ntmps36
    go_wp2
    go_ret
    exact ⟨⟨i, hi, by simp [he2.out]⟩, rfl⟩
end Go.Proofs.YtpbblaeamddbgaaGreat
