import Derived.Test.YtepioeaomlmocaaRMa
import Derived.ArgAppend
namespace Go.Proofs.Ytepioeaomlmocaa
open Go.RowKit

/-- All elements of a list are the mark m. -/
def MarkAt (w : World) (ao : Option Addr) (n : Nat) (m : Int) : Prop := ∀ j, j < n → ∃ g, ao = some ⟨g, 0, none⟩ ∧ w.cell? ⟨g, j, none⟩ = some (.int .i64 m)
/-- Marks stay. -/
def Marks (m : Int) (w w' : World) : Prop := ∀ p, w.cell? p = some (.int .i64 m) → w'.cell? p = some (.int .i64 m)
theorem MarkAt.marks {w w' : World} {ao : Option Addr} {n : Nat} {m : Int} (h : MarkAt w ao n m) (k : Marks m w w') : MarkAt w' ao n m := fun j hj => by
  obtain ⟨g, h1, h2⟩ := h j hj
  exact ⟨g, h1, k _ h2⟩
theorem MarkAt.kp {w w' : World} {ao : Option Addr} {n : Nat} {m : Int} {M : Nat → Prop} (h : MarkAt w ao n m) (k : Kp M w w') (hm : ∀ g, blkOf ao = some g → ¬ M g) : MarkAt w' ao n m := fun j hj => by
  obtain ⟨g, h1, h2⟩ := h j hj
  exact ⟨g, h1, k.cell h2 (hm g (by rw [h1]; rfl))⟩
theorem OSl.mark {w : World} {e : Nat} {ao : Option Addr} {n cap : Nat} {m : Int} (h : OSl w e 1 ao n cap (List.replicate n (.int .i64 m))) : MarkAt w ao n m := fun j hj =>
  h.at (by rw [List.getElem?_replicate, if_pos hj])
theorem Marks.refl (m : Int) (w : World) : Marks m w w := fun _ h => h
theorem Marks.trans {m : Int} {a b c : World} (h : Marks m a b) (k : Marks m b c) : Marks m a c := fun p hp => k p (h p hp)
theorem Marks.ext {m : Int} {a b : World} (h : Ext a b) : Marks m a b := fun _ hp => h.cell hp

theorem marks_setCells {m : Int} {g : Nat} : ∀ (vs : List Value) (o : Nat) (w : World), (∀ v ∈ vs, v = .int .i64 m) → Marks m w (w.setCells g o vs)
  | [], _, _, _ => Marks.refl _ _
  | v :: r, o, w, h => by
    simp only [World.setCells]
    refine Marks.trans ?_ (marks_setCells r (o + 1) _ (fun x hx => h x (by simp [hx])))
    intro p hp
    have hv : v = .int .i64 m := h v (by simp)
    by_cases hpe : p = ⟨g, o, none⟩
    · subst hpe
      subst hv
      exact World.cell?_setCell_same w _ _ hp
    · rw [World.cell?_setCell_other w _ _ _ (fun e => hpe e.symm)]; exact hp

/-- 'append(s, m, ..)', s a list of one's own of marks m: both lists are of marks m. -/
theorem wpList_app_mark {P : Program} {w : World} {ops : Array Oper} {rest : List Oper} {o : Oper} {a : Act} {Q : Exit → Act → World → Prop} (hgd : o.guard = none) (s x : Operand) (t : TypeId)
    (ho : o.op = .call { callee := .builtin .append, args := #[s, x], argTypes := #[t, t] })
    (e : TypeId) (z : Value) (bytes : Nat) (ht : P.underlying t = some (.slice e)) (hi : (P.info? e).map (fun i => (i.zero, i.size, i.bytes)) = some (some z, 1, bytes)) (hzs : z.cells.size = 1)
    (m : Int) (ao : Option Addr) (n cap : Nat) (hs : a.eval s = .slice ao n cap) (hown : OSl w e 1 ao n cap (List.replicate n (.int .i64 m)))
    (ad : Addr) (k c : Nat) (hk : 0 < k) (hx : a.eval x = .slice (some ad) k c)
    (hsrc : ∀ j u, (List.replicate k (Value.int .i64 m))[j]? = some u → w.cell? (ad.add j) = some u)
    (h63 : n + k ≤ maxLen) (hbytes : (n + k) * bytes ≤ 140737488355328)
    (h : ∀ ao' cap' w', OSl w' e 1 ao n cap (List.replicate n (.int .i64 m)) → MarkAt w' ao' (n + k) m → Kp (fun b => blkOf ao = some b) w w' → Marks m w w' → Hid (∀ g, blkOf ao' = some g → (blkOf ao = some g ∨ w.heap.size ≤ g) ∧ g < w'.heap.size) → wpList P ops Q rest (a.put o.dst (.slice ao' (n + k) cap')) w') : wpList P ops Q (o :: rest) a w := by
  obtain ⟨i, hi, hz0, hz1, hz2⟩ := info_parts hi
  have h1 : ∀ u ∈ List.replicate k (Value.int .i64 m), u.oneCell' = true := fun u hu => by rw [List.eq_of_mem_replicate hu]; rfl
  have hone : ∀ v ∈ List.replicate k (Value.int .i64 m), v = .int .i64 m := fun v hv => List.eq_of_mem_replicate hv
  have er : List.replicate n (Value.int .i64 m) ++ List.replicate k (Value.int .i64 m) = List.replicate (n + k) (Value.int .i64 m) := by rw [List.replicate_append_replicate]
  have fin : ∀ v' w', w'.ownsRow w.heap.size e 1 v' (n + k) (List.replicate n (Value.int .i64 m) ++ List.replicate k (Value.int .i64 m)) → w.grownBy w' none → wpList P ops Q rest (a.put o.dst v') w' := by
    intro v' w' hown' hgrow
    have hform : ∃ g cap', v' = .slice (some ⟨g, 0, none⟩) (n + k) cap' ∧ w.heap.size ≤ g := by
      rcases hown'.2 with ⟨hv, hn⟩ | ⟨g, cap', cur, hv, hb, _⟩
      · omega
      · exact ⟨g, cap', hv, hb⟩
    obtain ⟨g, cap', rfl, hg⟩ := hform
    have hE : Ext w w' := ⟨hgrow.os, hgrow.tape, hgrow.output, hgrow.size, fun q hq => hgrow.block q hq (by simp)⟩
    have hO' : OSl w' e 1 (some ⟨g, 0, none⟩) (n + k) cap' (List.replicate (n + k) (.int .i64 m)) := by
      rw [er] at hown'
      obtain ⟨q1, q2 | ⟨g', c', cur, hv, hb, r⟩⟩ := hown'
      · exact ⟨q1, Or.inl q2⟩
      · exact ⟨q1, Or.inr ⟨g', c', cur, hv, Nat.zero_le _, r⟩⟩
    refine h (some ⟨g, 0, none⟩) cap' w' (hown.ext hE) hO'.mark (hE.kp _) (Marks.ext hE) ?_
    intro g' hg'
    simp [blkOf] at hg'; subst hg'
    exact ⟨Or.inr hg, hO'.lt rfl⟩
  rcases hown.form with ⟨rfl, rfl, rfl, _⟩ | ⟨g, cur, rfl, hh, hnc, hcm, hcs, hct⟩
  · exact wpList_append_grows w hgd s x t ho e i z 1 bytes ht hi hz0 hz1 hz2 hzs (by decide) none 0 0 [] hs (fun _ => ⟨rfl, rfl⟩) rfl (fun b hb => by cases hb) ad k c _ hx (by simp) hsrc h1 (by omega) h63 hbytes (fun v' w' q1 q2 => fin v' w' (by simpa using q1) q2)
  · have hmk := hown.mark
    refine wpList_append_arg w hgd s x t ho e i z 1 bytes ht hi hz0 hz1 hz2 hzs (by decide) g 0 n cap (List.replicate n (.int .i64 m)) hs (by simp) ?_ ad k c _ hx (by simp) hsrc h1 ?_ h63 hbytes ?_ ?_
    · intro j u hj
      obtain ⟨g', e1, h2⟩ := hown.at hj
      cases e1
      rw [Nat.zero_add]; exact h2
    · intro hroom j hj
      simp at hj
      constructor
      · simp [World.cell?, hh]; omega
      · simp [World.frozen?, hh]
    · intro hroom
      have hrow : Row w g e cur.toList := by unfold Row; simpa using hh
      have hr2 := row_setCells (List.replicate k (Value.int .i64 m)) (0 + n * 1) w cur.toList hrow (by simp [hcs]; omega)
      have hM := marks_setCells (g := g) (List.replicate k (Value.int .i64 m)) (0 + n * 1) w hone
      have hK : Kp (fun b => blkOf (some (⟨g, 0, none⟩ : Addr)) = some b) w (w.setCells g (0 + n * 1) (List.replicate k (Value.int .i64 m))) := kp_setCells (M := fun b => blkOf (some (⟨g, 0, none⟩ : Addr)) = some b) rfl _ _ _ _ (Kp.refl _ _)
      generalize w.setCells g (0 + n * 1) (List.replicate k (Value.int .i64 m)) = w2 at *
      have etk : cur.toList.take n = List.replicate n (Value.int .i64 m) := by simpa using hct
      have hO2 : ∀ q, q ≤ n + k → OSl w2 e 1 (some ⟨g, 0, none⟩) q cap (List.replicate q (.int .i64 m)) := by
        intro q hq
        refine ⟨by simp, Or.inr ⟨g, cap, _, rfl, Nat.zero_le _, hr2, by omega, hcm, ?_, ?_⟩⟩
        · simp [hcs]; omega
        · simp only [Nat.zero_add, Nat.mul_one, etk, er]
          rw [List.take_append_of_le_length (by simp; omega), List.take_replicate, Nat.min_eq_left hq]
      refine h (some ⟨g, 0, none⟩) cap w2 (hO2 n (by omega)) (hO2 (n + k) (Nat.le_refl _)).mark hK hM ?_
      intro g' hg'
      refine ⟨Or.inl hg', (hO2 n (by omega)).lt hg'⟩
    · intro _ v' w' q1 q2; exact fin v' w' q1 q2
end Go.Proofs.Ytepioeaomlmocaa
