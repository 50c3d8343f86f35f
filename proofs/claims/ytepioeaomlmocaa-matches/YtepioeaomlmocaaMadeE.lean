import Derived.Test.YtepioeaomlmocaaMade
namespace Go.Proofs.Ytepioeaomlmocaa
open Go.RowKit

theorem Try.infoPe : (Try.prog.info? 28).map (fun i => (i.zero, i.size, i.bytes)) = some (some (.pointer none), 1, 8) := by kernel_rfl
theorem Try.infoPr : (Try.prog.info? 64).map (fun i => (i.zero, i.size, i.bytes)) = some (some (.pointer none), 1, 8) := by kernel_rfl
theorem ints_of_osl {w : World} {T : Nat} {ao : Option Addr} {cap : Nat} {xs : List Int} (h : OSl w T 1 ao xs.length cap (xs.map (Value.int .i64))) (hp : 0 < xs.length) : ∃ g, ao = some ⟨g, 0, none⟩ ∧ Ints w g 0 xs := by
  obtain ⟨g, rfl, _⟩ := h.at (j := 0) (v := .int .i64 xs[0]) (by simp [hp])
  obtain ⟨b, o, e, hI⟩ := ixs_of_osl h hp
  exact ⟨g, rfl, by
    intro j hj
    obtain ⟨g', e', hc⟩ := h.at (j := j) (v := .int .i64 xs[j]) (by simp [hj])
    cases e'
    rw [Nat.zero_add, hc]; simp [hj]⟩

/-- What one engine more leaves. -/
def MadePost (E : World → Nat → (Nat → Prop) → List Int → List (Int × List Cd) → Prop) (w w' : World) (own : Nat → Nat) (wb : Nat) (v5 : Value) (ia : Option Addr) (ic icap : Nat) (vs : List Value) (n : Nat) (es rs : List Value) (te tr : Nat) (xs : List Int) : Prop :=
  ∃ own' eb rb ea' ecap' ra' rcap', St w' own' wb (.slice ea' (n + 1) ecap') (.slice ra' (n + 1) rcap') v5 ia ic icap vs ∧ OSl w' 28 1 ea' (n + 1) ecap' (es ++ [.pointer (some ⟨eb, 0, none⟩)]) ∧ OSl w' 64 1 ra' (n + 1) rcap' (rs ++ [.pointer (some ⟨rb, 0, none⟩)])
    ∧ (∀ g, blkOf ea' = some g → own' g = 3) ∧ (∀ g, blkOf ra' = some g → own' g = 3) ∧ (∀ g, blkOf ea' = some g → ¬ blkOf ra' = some g) ∧ Two E w' eb rb (fun b => own' b = te) (fun b => own' b = tr) xs [] ∧ (∀ b, b < w.heap.size → own' b = own b) ∧ Kp (fun b => own b = 1 ∨ own b = 3) w w'
theorem made_end {E : World → Nat → (Nat → Prop) → List Int → List (Int × List Cd) → Prop} (C : EngC E) {w w1 w2 w4 w5 w6 w6b w7 w8 : World} {own : Nat → Nat} {wb : Nat} {v5 : Value} {ia : Option Addr} {ic icap : Nat} {vs : List Value} {n ecap rcap : Nat} {ea ra ea6 ra7 oo : Option Addr} {ecap6 rcap7 ocap eb rb : Nat} {es rs : List Value} {te tr : Nat} {xs : List Int}
    (S : St w own wb (.slice ea n ecap) (.slice ra n rcap) v5 ia ic icap vs) (hoe : ∀ g, blkOf ea = some g → own g = 3) (hor : ∀ g, blkOf ra = some g → own g = 3) (s3 : ∀ g, blkOf ea = some g → ¬ blkOf ra = some g) (hte : 10 ≤ te) (htr : 10 ≤ tr) (htt : te ≠ tr) (hl1 : 1 ≤ xs.length)
    (hE1 : Ext w w1) (lw1 : w.heap.size < w1.heap.size) (hE2 : Ext w1 w2) (he2 : E w2 eb (fun b => w1.heap.size ≤ b ∧ b < w2.heap.size) xs []) (hk4 : Kp (fun k => k = w.heap.size) w2 w4) (hE5 : Ext w4 w5) (hoo : OSl w5 3 1 oo xs.length ocap (xs.map (Value.int .i64))) (hf5 : ∀ g, blkOf oo = some g → w4.heap.size ≤ g)
    (k56 : Kp (fun b => blkOf ea = some b) w5 w6) (hes6 : OSl w6 28 1 ea6 (n + 1) ecap6 (es ++ [.pointer (some ⟨eb, 0, none⟩)])) (at6 : ∀ g, blkOf ea6 = some g → blkOf ea = some g ∨ w5.heap.size ≤ g)
    (k66 : Kp (fun b => b = wb) w6 w6b) (hrb : rb = w6.heap.size) (hrow : Row w6b rb 94 [.slice oo xs.length ocap, .slice none 0 0, .int .i64 0]) (k67 : Kp (fun b => blkOf ra = some b) w6b w7) (hrs7 : OSl w7 64 1 ra7 (n + 1) rcap7 (rs ++ [.pointer (some ⟨rb, 0, none⟩)])) (at7 : ∀ g, blkOf ra7 = some g → blkOf ra = some g ∨ w6b.heap.size ≤ g)
    (k78 : Kp (fun b => b = wb) w7 w8) (hW8 : ∀ v2 v3 v4, Row w wb 61 [.slice ea n ecap, .slice ra n rcap, v2, v3, v4, v5] → Row w8 wb 61 [.slice ea6 (n + 1) ecap6, .slice ra7 (n + 1) rcap7, v2, v3, v4, v5]) :
    MadePost E w w8 own wb v5 ia ic icap vs n es rs te tr xs := by
  have z1 := hE1.le
  have z2 := hE2.le
  have z4 := hk4.size
  have z5 := hE5.le
  have z6 := k56.size
  have z6b := k66.size
  have z7 := k67.size
  have z8 := k78.size
  have hwb := S.row.lt
  have hfr := S.fresh
  have hrl := hrow.lt
  have hlt : ∀ b, 0 < own b → b < w.heap.size := fun b hb => by
    rcases Nat.lt_or_ge b w.heap.size with h | h
    · exact h
    · have := hfr b h; omega
  have lea : ∀ g, blkOf ea = some g → g < w.heap.size ∧ g ≠ wb := fun g hg => ⟨hlt g (by have := hoe g hg; omega), fun e => by have h1 := hoe g hg; rw [e, S.ow] at h1; omega⟩
  have lra : ∀ g, blkOf ra = some g → g < w.heap.size ∧ g ≠ wb := fun g hg => ⟨hlt g (by have := hor g hg; omega), fun e => by have h1 := hor g hg; rw [e, S.ow] at h1; omega⟩
  have K58 : Kp (fun b => b = wb ∨ blkOf ea = some b ∨ blkOf ra = some b) w5 w8 := (((k56.mono (fun _ _ h => Or.inr (Or.inl h))).trans (k66.mono (fun _ _ h => Or.inl h))).trans (k67.mono (fun _ _ h => Or.inr (Or.inr h)))).trans (k78.mono (fun _ _ h => Or.inl h))
  have K68 : Kp (fun b => b = wb ∨ blkOf ra = some b) w6 w8 := ((k66.mono (fun _ _ h => Or.inl h)).trans (k67.mono (fun _ _ h => Or.inr h))).trans (k78.mono (fun _ _ h => Or.inl h))
  have K6b8 : Kp (fun b => b = wb ∨ blkOf ra = some b) w6b w8 := (k67.mono (fun _ _ h => Or.inr h)).trans (k78.mono (fun _ _ h => Or.inl h))
  have offN : ∀ b, w.heap.size ≤ b → ¬ (b = wb ∨ blkOf ea = some b ∨ blkOf ra = some b) := by
    rintro b hb (e | e | e)
    · omega
    · have := (lea b e).1; omega
    · have := (lra b e).1; omega
  have hK : Kp (fun b => own b = 1 ∨ own b = 3) w w8 := by
    have a1 : Kp (fun b => own b = 1 ∨ own b = 3) w w2 := (hE1.trans hE2).kp _
    have a2 : Kp (fun b => own b = 1 ∨ own b = 3) w w4 := ⟨hk4.os.trans a1.os, hk4.tape.trans a1.tape, hk4.output.trans a1.output, Nat.le_trans a1.size hk4.size, fun i hi hn => (hk4.block i (Nat.lt_of_lt_of_le hi a1.size) (by omega)).trans (a1.block i hi hn)⟩
    have a3 := a2.trans (hE5.kp _)
    refine a3.trans (K58.mono ?_)
    rintro b _ (e | e | e)
    · subst e; exact Or.inl S.ow
    · exact Or.inr (hoe b e)
    · exact Or.inr (hor b e)
  obtain ⟨sb, hsb, hInt⟩ := ints_of_osl hoo hl1
  subst hsb
  have hsb4 := hf5 sb rfl
  have hsb5 := hoo.lt (g := sb) rfl
  have hdec : ∃ own' : Nat → Nat, (∀ b, b < w.heap.size → own' b = own b) ∧ (∀ b, w.heap.size ≤ b → w8.heap.size ≤ b → own' b = 0) ∧ (∀ b, w1.heap.size ≤ b → b < w2.heap.size → own' b = te) ∧ own' rb = tr ∧ own' sb = tr ∧ (∀ b, w.heap.size ≤ b → b < w8.heap.size → (blkOf ea6 = some b ∨ blkOf ra7 = some b) → own' b = 3) := by
    refine ⟨fun b => @ite _ (b < w.heap.size) (Classical.propDecidable _) (own b) (@ite _ (w8.heap.size ≤ b) (Classical.propDecidable _) 0 (@ite _ (w1.heap.size ≤ b ∧ b < w2.heap.size) (Classical.propDecidable _) te (@ite _ (b = rb ∨ b = sb) (Classical.propDecidable _) tr 3))), ?_, ?_, ?_, ?_, ?_, ?_⟩
    · intro b h; simp [h]
    · intro b h1 h2; simp [show ¬ b < w.heap.size by omega, h2]
    · intro b h1 h2; simp [show ¬ b < w.heap.size by omega, show ¬ w8.heap.size ≤ b by omega, h1, h2]
    · simp [show ¬ rb < w.heap.size by omega, show ¬ w8.heap.size ≤ rb by omega, show ¬ (w1.heap.size ≤ rb ∧ rb < w2.heap.size) by omega]
    · simp [show ¬ sb < w.heap.size by omega, show ¬ w8.heap.size ≤ sb by omega, show ¬ (w1.heap.size ≤ sb ∧ sb < w2.heap.size) by omega]
    · intro b h1 h2 h3
      have hb5 : w5.heap.size ≤ b ∧ b ≠ rb := by
        rcases h3 with e | e
        · rcases at6 b e with e2 | e2
          · have := (lea b e2).1; omega
          · exact ⟨e2, by have := hes6.lt e; omega⟩
        · rcases at7 b e with e2 | e2
          · have := (lra b e2).1; omega
          · exact ⟨by omega, by omega⟩
      simp [show ¬ b < w.heap.size by omega, show ¬ w8.heap.size ≤ b by omega, show ¬ (w1.heap.size ≤ b ∧ b < w2.heap.size) by omega, show ¬ (b = rb ∨ b = sb) by omega]
  obtain ⟨own', o1, o2, o3, o4, o5, o6⟩ := hdec
  have oldT : ∀ (b t : Nat), own b = t → 0 < t → own' b = t := fun b t hb ht => by rw [o1 b (hlt b (by omega))]; exact hb
  refine ⟨own', eb, rb, ea6, ecap6, ra7, rcap7, ⟨hW8 _ _ _ S.row, S.ids.kp hK (fun g hg h => by have := S.oi g hg; omega), S.len, S.four, oldT wb 1 S.ow (by decide), fun g hg => oldT g 2 (S.oi g hg) (by decide), ?_, ?_⟩, ?_, ?_, ?_, ?_, ?_, ⟨?_, ?_, ?_, ?_, ?_⟩, o1, hK⟩
  · intro i hi
    obtain ⟨ao, k, cap, h1, h2, h3, h4⟩ := S.book i hi
    exact ⟨ao, k, cap, h1, h2, h3.kp hK (fun g hg => by have := h4 g hg; omega), fun g hg => oldT g 4 (h4 g hg) (by decide)⟩
  · intro b hb; exact o2 b (by omega) hb
  · refine hes6.kp K68 ?_
    rintro g hg (e | e)
    · rcases at6 g hg with e2 | e2
      · exact (lea g e2).2 e
      · omega
    · rcases at6 g hg with e2 | e2
      · exact s3 g e2 e
      · have := (lra g e).1; omega
  · refine hrs7.kp k78 (fun g hg e => ?_)
    rcases at7 g hg with e2 | e2
    · exact (lra g e2).2 e
    · omega
  · intro g hg
    rcases Nat.lt_or_ge g w.heap.size with h | h
    · rcases at6 g hg with e2 | e2
      · exact oldT g 3 (hoe g e2) (by decide)
      · omega
    · exact o6 g h (by have := hes6.lt hg; omega) (Or.inl hg)
  · intro g hg
    rcases Nat.lt_or_ge g w.heap.size with h | h
    · rcases at7 g hg with e2 | e2
      · exact oldT g 3 (hor g e2) (by decide)
      · omega
    · exact o6 g h (by have := hrs7.lt hg; omega) (Or.inr hg)
  · intro g hg hg2
    have h6 := hes6.lt hg
    rcases at6 g hg with e2 | e2
    · rcases at7 g hg2 with e3 | e3
      · exact s3 g e2 e3
      · have := (lea g e2).1; omega
    · rcases at7 g hg2 with e3 | e3
      · have := (lra g e3).1; omega
      · omega
  · have e4 := C.kp he2 hk4 (fun b hb e => by omega)
    have e5 := C.kp e4 (hE5.kp (fun _ => False)) (fun _ _ h => h)
    have e8 := C.kp e5 K58 (fun b hb => offN b (by omega))
    exact C.mono e8 (fun b hb => o3 b hb.1 hb.2)
  · refine ⟨o4, sb, ocap, none, 0, 0, [], rfl, ?_, o5, by omega, ?_, OSl.nil _ _ _, (fun g hg => by cases hg), (fun e he => by cases he)⟩
    · refine K6b8.row hrow ?_
      rintro (e | e)
      · omega
      · have := (lra rb e).1; omega
    · exact hInt.kp K58 (offN sb (by omega))
  · intro b hb
    rcases Nat.lt_or_ge b w8.heap.size with h | h
    · exact h
    · have := o2 b (by omega) h; omega
  · intro b hb
    rcases Nat.lt_or_ge b w8.heap.size with h | h
    · exact h
    · have := o2 b (by omega) h; omega
  · intro b h1 h2; exact htt (h1.symm.trans h2)

end Go.Proofs.Ytepioeaomlmocaa
