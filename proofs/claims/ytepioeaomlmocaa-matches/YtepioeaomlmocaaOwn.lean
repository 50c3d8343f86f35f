import Derived.Test.YtepioeaomlmocaaRead
import Derived.Maps.AppendAt
import Derived.Laws.AppendOwnNone
namespace Go.Proofs.Ytepioeaomlmocaa
open Go.RowKit

def blkOf (ao : Option Addr) : Option Nat := ao.map (·.block)
/-- A slice of one's own, from the head of its block on. -/
def OSl (w : World) (e size : Nat) (ao : Option Addr) (n cap : Nat) (xs : List Value) : Prop := w.ownsRow 0 e size (.slice ao n cap) n xs
theorem OSl.nil (w : World) (e size : Nat) : OSl w e size none 0 0 [] := World.ownsRow_nil w 0 e size
theorem OSl.len {w : World} {e size : Nat} {ao : Option Addr} {n cap : Nat} {xs : List Value} (h : OSl w e size ao n cap xs) : xs.length = n * size := h.1
theorem OSl.form {w : World} {e size : Nat} {ao : Option Addr} {n cap : Nat} {xs : List Value} (h : OSl w e size ao n cap xs) :
    (ao = none ∧ n = 0 ∧ cap = 0 ∧ xs = []) ∨ ∃ g cur, ao = some ⟨g, 0, none⟩ ∧ w.heap[g]? = some (.cells cur e (0, 0)) ∧ n ≤ cap ∧ cap ≤ maxLen ∧ cur.size = cap * size ∧ cur.toList.take (n * size) = xs := by
  obtain ⟨h1, h2 | ⟨g, cap', cur, hv, _, hh, hc, hm, hs, ht⟩⟩ := h
  · obtain ⟨hv, rfl⟩ := h2
    simp only [Value.slice.injEq] at hv
    obtain ⟨rfl, _, rfl⟩ := hv
    exact Or.inl ⟨rfl, rfl, rfl, List.eq_nil_of_length_eq_zero (by simpa using h1)⟩
  · simp only [Value.slice.injEq] at hv
    obtain ⟨rfl, _, rfl⟩ := hv
    exact Or.inr ⟨g, cur, rfl, hh, hc, hm, hs, ht⟩
theorem OSl.kp {w w' : World} {e size : Nat} {ao : Option Addr} {n cap : Nat} {xs : List Value} {M : Nat → Prop} (h : OSl w e size ao n cap xs) (k : Kp M w w') (hm : ∀ g, blkOf ao = some g → ¬ M g) : OSl w' e size ao n cap xs := by
  obtain ⟨h1, h2 | ⟨g, cap', cur, hv, hb, hh, r⟩⟩ := h
  · exact ⟨h1, Or.inl h2⟩
  · refine ⟨h1, Or.inr ⟨g, cap', cur, hv, hb, ?_, r⟩⟩
    simp only [Value.slice.injEq] at hv
    rw [k.block g (Array.getElem?_eq_some_iff.1 hh).1 (hm g (by rw [hv.1]; rfl))]; exact hh
theorem OSl.ext {w w' : World} {e size : Nat} {ao : Option Addr} {n cap : Nat} {xs : List Value} (h : OSl w e size ao n cap xs) (k : Ext w w') : OSl w' e size ao n cap xs := h.kp (k.kp (fun _ => False)) (fun _ _ h => h)
theorem OSl.at {w : World} {e size : Nat} {ao : Option Addr} {n cap : Nat} {xs : List Value} (h : OSl w e size ao n cap xs) {j : Nat} {v : Value} (hj : xs[j]? = some v) : ∃ g, ao = some ⟨g, 0, none⟩ ∧ w.cell? ⟨g, j, none⟩ = some v := by
  have hjl := (List.getElem?_eq_some_iff.1 hj).1
  rcases h.form with ⟨_, _, _, rfl⟩ | ⟨g, cur, rfl, hh, _, _, hs, ht⟩
  · simp at hj
  · refine ⟨g, rfl, ?_⟩
    have hl := h.len
    rw [← ht, List.getElem?_take] at hj
    rw [if_pos (by omega)] at hj
    unfold World.cell?
    rw [hh]
    simpa using hj
theorem OSl.lt {w : World} {e size : Nat} {ao : Option Addr} {n cap : Nat} {xs : List Value} (h : OSl w e size ao n cap xs) {g : Nat} (hg : blkOf ao = some g) : g < w.heap.size := by
  rcases h.form with ⟨rfl, _⟩ | ⟨g', cur, rfl, hh, _⟩
  · simp [blkOf] at hg
  · simp [blkOf] at hg; subst hg
    exact (Array.getElem?_eq_some_iff.1 hh).1

/-- 'append(s, x...)', s a slice of one's own (or nil), x whatever. -/
theorem wpList_app {P : Program} {w : World} {ops : Array Oper} {rest : List Oper} {o : Oper} {a : Act} {Q : Exit → Act → World → Prop} (hgd : o.guard = none) (s x : Operand) (t : TypeId)
    (ho : o.op = .call { callee := .builtin .append, args := #[s, x], argTypes := #[t, t] })
    (e : TypeId) (z : Value) (size bytes : Nat) (ht : P.underlying t = some (.slice e)) (hi : (P.info? e).map (fun i => (i.zero, i.size, i.bytes)) = some (some z, size, bytes)) (hzs : z.cells.size = size) (hsz : 0 < size)
    (ao : Option Addr) (n cap : Nat) (xs : List Value) (hs : a.eval s = .slice ao n cap) (hown : OSl w e size ao n cap xs)
    (sp : Option Addr) (m c : Nat) (news : List Value) (hx : a.eval x = .slice sp m c) (hsn : sp = none → m = 0 ∧ c = 0) (hl : news.length = m * size)
    (hsrc : 0 < m → ∃ ad, sp = some ad ∧ ∀ j u, news[j]? = some u → w.cell? (ad.add j) = some u) (h1 : ∀ u ∈ news, u.oneCell' = true)
    (h63 : n + m ≤ maxLen) (hbytes : (n + m) * bytes ≤ 140737488355328)
    (h : ∀ ao' cap' w', OSl w' e size ao' (n + m) cap' (xs ++ news) → Kp (fun k => blkOf ao = some k) w w' → Hid (blkOf ao' = blkOf ao ∨ blkOf ao' = some w.heap.size) → wpList P ops Q rest (a.put o.dst (.slice ao' (n + m) cap')) w') : wpList P ops Q (o :: rest) a w := by
  obtain ⟨i, hi, hz0, hz1, hz2⟩ := info_parts hi
  cases sp with
  | none =>
    obtain ⟨rfl, rfl⟩ := hsn rfl
    obtain rfl : news = [] := List.eq_nil_of_length_eq_zero (by simpa using hl)
    refine wpList_append_own_none hgd s x t ho 0 e i size ht hi _ n xs hs hown hx ?_
    have := h ao cap w (by simpa using hown) (Kp.refl _ _) (Or.inl rfl)
    simpa using this
  | some ad =>
    have hnews : ∀ j u, news[j]? = some u → w.cell? (ad.add j) = some u := by
      intro j u hj
      by_cases hm : 0 < m
      · obtain ⟨ad', e1, h2⟩ := hsrc hm
        cases e1
        exact h2 j u hj
      · have : news = [] := List.eq_nil_of_length_eq_zero (by rw [hl, show m = 0 by omega]; simp)
        rw [this] at hj; simp at hj
    refine wpList_append_own_at w hgd s x t ho 0 e i z size bytes ht hi hz0 hz1 hz2 hzs hsz _ n xs hs hown ad m c news hx hl hnews h1 h63 hbytes (Nat.zero_le _) ?_
    intro v' w' hown' hgrow _ hat
    have hform : ∃ ao' cap', v' = .slice ao' (n + m) cap' := by
      rcases hown'.2 with ⟨hv, hn⟩ | ⟨g, cap', cur, hv, _⟩
      · exact ⟨none, 0, by rw [hv, hn]⟩
      · exact ⟨_, _, hv⟩
    obtain ⟨ao', cap', rfl⟩ := hform
    have eb : ∀ (q : Option Addr) (n c : Nat), (Value.slice q n c).ownBlock = blkOf q := by intro q n c; cases q <;> rfl
    rw [eb, eb] at hat
    rw [eb] at hgrow
    exact h ao' cap' w' hown' ⟨hgrow.os, hgrow.tape, hgrow.output, hgrow.size, fun k hk hne => hgrow.block k hk (fun e => hne e.symm)⟩ hat

/-- A filter as it lies in memory: its number, its conditions, where they lie. -/
structure Ent where
  id : Int
  l : List Cd
  ao : Option Addr
  cap : Nat
def Ent.cells (e : Ent) : List Value := [.int .i64 e.id, .slice e.ao e.l.length e.cap]
def Ent.key (e : Ent) : Int × List Cd := (e.id, e.l)
theorem ent_one (es : List Ent) : ∀ v ∈ es.flatMap Ent.cells, v.oneCell' = true := by
  intro v hv
  obtain ⟨x, _, hx⟩ := List.mem_flatMap.1 hv
  simp only [Ent.cells, List.mem_cons, List.not_mem_nil, or_false] at hx
  rcases hx with rfl | rfl <;> rfl
theorem ent_len (es : List Ent) : (es.flatMap Ent.cells).length = es.length * 2 := flat_len Ent.cells 2 (fun _ => rfl) es
/-- Its conditions lie in F, in none of the blocks of X. -/
def EntOK (w : World) (F X : Nat → Prop) (e : Ent) : Prop := 0 < e.l.length → ∃ b, e.ao = some ⟨b, 0, none⟩ ∧ Cds w b 0 e.l ∧ F b ∧ ¬ X b
theorem Cds.kp {w w' : World} {b o : Nat} {l : List Cd} {M : Nat → Prop} (h : Cds w b o l) (k : Kp M w w') (hm : ¬ M b) : Cds w' b o l := fun j hj => by
  obtain ⟨h0, h1, h2, h3, h4, h5⟩ := h j hj
  exact ⟨k.cell h0 hm, k.cell h1 hm, k.cell h2 hm, k.cell h3 hm, k.cell h4 hm, k.cell h5 hm⟩
theorem EntOK.kp {w w' : World} {F X M : Nat → Prop} {e : Ent} (h : EntOK w F X e) (k : Kp M w w') (hm : ∀ b, F b → ¬ X b → ¬ M b) : EntOK w' F X e := fun hp => by
  obtain ⟨b, h1, h2, h3, h4⟩ := h hp
  exact ⟨b, h1, h2.kp k (hm b h3 h4), h3, h4⟩
theorem EntOK.mono {w : World} {F G X Y : Nat → Prop} {e : Ent} (h : EntOK w F X e) (hf : ∀ b, F b → ¬ X b → b < w.heap.size → G b ∧ ¬ Y b) : EntOK w G Y e := fun hp => by
  obtain ⟨b, h1, h2, h3, h4⟩ := h hp
  obtain ⟨h5, h6⟩ := hf b h3 h4 (World.block_lt_of_cell? w _ (h2 0 hp).1)
  exact ⟨b, h1, h2, h5, h6⟩
theorem EntOK.cxs {w : World} {F X : Nat → Prop} {e : Ent} (h : EntOK w F X e) : Cxs w e.ao e.l := fun hp => by
  obtain ⟨b, h1, h2, _⟩ := h hp
  exact ⟨b, 0, h1, h2⟩
theorem Ints.kp {w w' : World} {b o : Nat} {xs : List Int} {M : Nat → Prop} (h : Ints w b o xs) (k : Kp M w w') (hm : ¬ M b) : Ints w' b o xs := fun j hj => k.cell (h j hj) hm

end Go.Proofs.Ytepioeaomlmocaa
