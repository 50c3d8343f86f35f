import Derived.Maps.AppendAt
import Derived.Laws.AppendOwnNone
import Derived.Lib.AppendZeros
import Derived.Test.YtpbblaeamddbgaaGreatGD
namespace Go.Proofs.YtpbblaeamddbgaaGreat
open Go.RowKit

def blkOf (ao : Option Addr) : Option Nat := ao.map (·.block)
/-- A slice of one's own, from the head of its block on. -/
def OSl (w : World) (e size : Nat) (ao : Option Addr) (n cap : Nat) (xs : List Value) : Prop := w.ownsRow 0 e size (.slice ao n cap) n xs
theorem OSl.nil (w : World) (e size : Nat) : OSl w e size none 0 0 [] := World.ownsRow_nil w 0 e size
theorem OSl.len {w : World} {e size : Nat} {ao : Option Addr} {n cap : Nat} {xs : List Value} (h : OSl w e size ao n cap xs) : xs.length = n * size := h.1
theorem OSl.form {w : World} {e size : Nat} {ao : Option Addr} {n cap : Nat} {xs : List Value} (h : OSl w e size ao n cap xs) :
    (ao = none ∧ n = 0 ∧ cap = 0 ∧ xs = []) ∨ ∃ g cur, ao = some ⟨g, 0, none⟩ ∧ w.heap[g]? = some (.cells cur e (0, 0)) ∧ n ≤ cap ∧ cap ≤ maxLen ∧ cur.size = cap * size ∧ cur.toList.take (n * size) = xs := by
  obtain ⟨h1, h2 | ⟨g, cap', cur, hv, _, hh, hc, hm, hs, ht⟩⟩ := h
  · obtain ⟨hv, rfl⟩ := h2
    simp only [Value.slice.injEq] at hv
    obtain ⟨rfl, _, rfl⟩ := hv
    exact Or.inl ⟨rfl, rfl, rfl, List.eq_nil_of_length_eq_zero (by simpa using h1)⟩
  · simp only [Value.slice.injEq] at hv
    obtain ⟨rfl, _, rfl⟩ := hv
    exact Or.inr ⟨g, cur, rfl, hh, hc, hm, hs, ht⟩
theorem OSl.kp {w w' : World} {e size : Nat} {ao : Option Addr} {n cap : Nat} {xs : List Value} {M : Nat → Prop} (h : OSl w e size ao n cap xs) (k : Kp M w w') (hm : ∀ g, blkOf ao = some g → ¬ M g) : OSl w' e size ao n cap xs := by
  obtain ⟨h1, h2 | ⟨g, cap', cur, hv, hb, hh, r⟩⟩ := h
  · exact ⟨h1, Or.inl h2⟩
  · refine ⟨h1, Or.inr ⟨g, cap', cur, hv, hb, ?_, r⟩⟩
    simp only [Value.slice.injEq] at hv
    rw [k.block g (Array.getElem?_eq_some_iff.1 hh).1 (hm g (by rw [hv.1]; rfl))]; exact hh
theorem OSl.ext {w w' : World} {e size : Nat} {ao : Option Addr} {n cap : Nat} {xs : List Value} (h : OSl w e size ao n cap xs) (k : Ext w w') : OSl w' e size ao n cap xs := h.kp (k.kp (fun _ => False)) (fun _ _ h => h)
theorem OSl.at {w : World} {e size : Nat} {ao : Option Addr} {n cap : Nat} {xs : List Value} (h : OSl w e size ao n cap xs) {j : Nat} {v : Value} (hj : xs[j]? = some v) : ∃ g, ao = some ⟨g, 0, none⟩ ∧ w.cell? ⟨g, j, none⟩ = some v := by
  have hjl := (List.getElem?_eq_some_iff.1 hj).1
  rcases h.form with ⟨_, _, _, rfl⟩ | ⟨g, cur, rfl, hh, _, _, hs, ht⟩
  · simp at hj
  · refine ⟨g, rfl, ?_⟩
    have hl := h.len
    rw [← ht, List.getElem?_take] at hj
    rw [if_pos (by omega)] at hj
    unfold World.cell?
    rw [hh]
    simpa using hj
theorem OSl.lt {w : World} {e size : Nat} {ao : Option Addr} {n cap : Nat} {xs : List Value} (h : OSl w e size ao n cap xs) {g : Nat} (hg : blkOf ao = some g) : g < w.heap.size := by
  rcases h.form with ⟨rfl, _⟩ | ⟨g', cur, rfl, hh, _⟩
  · simp [blkOf] at hg
  · simp [blkOf] at hg; subst hg
    exact (Array.getElem?_eq_some_iff.1 hh).1

/-- 'append(s, x...)', s a slice of one's own (or nil), x whatever. -/
theorem wpList_app {P : Program} {w : World} {ops : Array Oper} {rest : List Oper} {o : Oper} {a : Act} {Q : Exit → Act → World → Prop} (hgd : o.guard = none) (s x : Operand) (t : TypeId)
    (ho : o.op = .call { callee := .builtin .append, args := #[s, x], argTypes := #[t, t] })
    (e : TypeId) (z : Value) (size bytes : Nat) (ht : P.underlying t = some (.slice e)) (hi : (P.info? e).map (fun i => (i.zero, i.size, i.bytes)) = some (some z, size, bytes)) (hzs : z.cells.size = size) (hsz : 0 < size)
    (ao : Option Addr) (n cap : Nat) (xs : List Value) (hs : a.eval s = .slice ao n cap) (hown : OSl w e size ao n cap xs)
    (sp : Option Addr) (m c : Nat) (news : List Value) (hx : a.eval x = .slice sp m c) (hsn : sp = none → m = 0 ∧ c = 0) (hl : news.length = m * size)
    (hsrc : 0 < m → ∃ ad, sp = some ad ∧ ∀ j u, news[j]? = some u → w.cell? (ad.add j) = some u) (h1 : ∀ u ∈ news, u.oneCell' = true)
    (h63 : n + m ≤ maxLen) (hbytes : (n + m) * bytes ≤ 140737488355328)
    (h : ∀ ao' cap' w', OSl w' e size ao' (n + m) cap' (xs ++ news) → Kp (fun k => blkOf ao = some k) w w' → Hid (blkOf ao' = blkOf ao ∨ blkOf ao' = some w.heap.size) → wpList P ops Q rest (a.put o.dst (.slice ao' (n + m) cap')) w') : wpList P ops Q (o :: rest) a w := by
  obtain ⟨i, hi, hz0, hz1, hz2⟩ := info_parts hi
  cases sp with
  | none =>
    obtain ⟨rfl, rfl⟩ := hsn rfl
    obtain rfl : news = [] := List.eq_nil_of_length_eq_zero (by simpa using hl)
    refine wpList_append_own_none hgd s x t ho 0 e i size ht hi _ n xs hs hown hx ?_
    have := h ao cap w (by simpa using hown) (Kp.refl _ _) (Or.inl rfl)
    simpa using this
  | some ad =>
    have hnews : ∀ j u, news[j]? = some u → w.cell? (ad.add j) = some u := by
      intro j u hj
      by_cases hm : 0 < m
      · obtain ⟨ad', e1, h2⟩ := hsrc hm
        cases e1
        exact h2 j u hj
      · have : news = [] := List.eq_nil_of_length_eq_zero (by rw [hl, show m = 0 by omega]; simp)
        rw [this] at hj; simp at hj
    refine wpList_append_own_at w hgd s x t ho 0 e i z size bytes ht hi hz0 hz1 hz2 hzs hsz _ n xs hs hown ad m c news hx hl hnews h1 h63 hbytes (Nat.zero_le _) ?_
    intro v' w' hown' hgrow _ hat
    have hform : ∃ ao' cap', v' = .slice ao' (n + m) cap' := by
      rcases hown'.2 with ⟨hv, hn⟩ | ⟨g, cap', cur, hv, _⟩
      · exact ⟨none, 0, by rw [hv, hn]⟩
      · exact ⟨_, _, hv⟩
    obtain ⟨ao', cap', rfl⟩ := hform
    have eb : ∀ (q : Option Addr) (n c : Nat), (Value.slice q n c).ownBlock = blkOf q := by intro q n c; cases q <;> rfl
    rw [eb, eb] at hat
    rw [eb] at hgrow
    exact h ao' cap' w' hown' ⟨hgrow.os, hgrow.tape, hgrow.output, hgrow.size, fun k hk hne => hgrow.block k hk (fun e => hne e.symm)⟩ hat

theorem append_types {P : Program} (w : World) (t t2 ty e e2 : TypeId) (ht : P.underlying t = some (.slice e)) (ht2 : P.underlying t2 = some (.slice e2)) (i : TypeInfo) (hi : P.info? e = some i) (ao : Option Addr) (n c : Nat) (b : Value) :
    (Builtin.append_ #[t, t2] ty #[.slice ao n c, b]).run P w = (Builtin.append_ #[t, t] ty #[.slice ao n c, b]).run P w := by
  simp [Builtin.append_, run_underlying ht, run_underlying ht2, sizeOf, typeInfo, hi]
/-- The same, where what is appended is of another slice type. -/
theorem wpList_app2 {P : Program} {w : World} {ops : Array Oper} {rest : List Oper} {o : Oper} {a : Act} {Q : Exit → Act → World → Prop} (hgd : o.guard = none) (s x : Operand) (t t2 : TypeId)
    (ho : o.op = .call { callee := .builtin .append, args := #[s, x], argTypes := #[t, t2] })
    (e : TypeId) (z : Value) (size bytes : Nat) (ht : P.underlying t = some (.slice e)) (ht2 : P.underlying t2 = some (.slice e)) (hi : (P.info? e).map (fun i => (i.zero, i.size, i.bytes)) = some (some z, size, bytes)) (hzs : z.cells.size = size) (hsz : 0 < size)
    (ao : Option Addr) (n cap : Nat) (xs : List Value) (hs : a.eval s = .slice ao n cap) (hown : OSl w e size ao n cap xs)
    (ad : Addr) (m c : Nat) (news : List Value) (hx : a.eval x = .slice (some ad) m c) (hl : news.length = m * size)
    (hnews : ∀ j u, news[j]? = some u → w.cell? (ad.add j) = some u) (h1 : ∀ u ∈ news, u.oneCell' = true)
    (h63 : n + m ≤ maxLen) (hbytes : (n + m) * bytes ≤ 140737488355328)
    (h : ∀ ao' cap' w', OSl w' e size ao' (n + m) cap' (xs ++ news) → Kp (fun k => blkOf ao = some k) w w' → Hid (blkOf ao' = blkOf ao ∨ blkOf ao' = some w.heap.size) → wpList P ops Q rest (a.put o.dst (.slice ao' (n + m) cap')) w') : wpList P ops Q (o :: rest) a w := by
  obtain ⟨i, hi, hz0, hz1, hz2⟩ := info_parts hi
  obtain ⟨v', w', hr, hown', hgrow, _, hat⟩ := run_append_own_at (P := P) w 0 t o.type e i z size bytes ht hi hz0 hz1 hz2 hzs hsz _ n xs hown ad m c news hl hnews h1 h63 hbytes (Nat.zero_le _)
  refine Lib.wpList_append_run w hgd s x t t2 ho _ _ hs hx v' w' (by rw [append_types w t t2 _ e e ht ht2 i hi]; exact hr) ?_
  have hform : ∃ ao' cap', v' = .slice ao' (n + m) cap' := by
    rcases hown'.2 with ⟨hv, hn⟩ | ⟨g, cap', cur, hv, _⟩
    · exact ⟨none, 0, by rw [hv, hn]⟩
    · exact ⟨_, _, hv⟩
  obtain ⟨ao', cap', rfl⟩ := hform
  have eb : ∀ (q : Option Addr) (n c : Nat), (Value.slice q n c).ownBlock = blkOf q := by intro q n c; cases q <;> rfl
  rw [eb, eb] at hat
  rw [eb] at hgrow
  exact h ao' cap' w' hown' ⟨hgrow.os, hgrow.tape, hgrow.output, hgrow.size, fun k hk hne => hgrow.block k hk (fun e => hne e.symm)⟩ hat

/-- A filter as it lies in memory: its number, its conditions, where they lie. -/
structure Ent where
  id : Int
  l : List Cd
  ao : Option Addr
  cap : Nat
def Ent.cells (e : Ent) : List Value := [.int .i64 e.id, .slice e.ao e.l.length e.cap]
def Ent.key (e : Ent) : Int × List Cd := (e.id, e.l)
theorem ent_one (es : List Ent) : ∀ v ∈ es.flatMap Ent.cells, v.oneCell' = true := by
  intro v hv
  obtain ⟨x, _, hx⟩ := List.mem_flatMap.1 hv
  simp only [Ent.cells, List.mem_cons, List.not_mem_nil, or_false] at hx
  rcases hx with rfl | rfl <;> rfl
theorem ent_len (es : List Ent) : (es.flatMap Ent.cells).length = es.length * 2 := flat_len Ent.cells 2 (fun _ => rfl) es
/-- Its conditions lie in F, in none of the blocks of X. -/
def EntOK (w : World) (F X : Nat → Prop) (e : Ent) : Prop := 0 < e.l.length → ∃ b, e.ao = some ⟨b, 0, none⟩ ∧ Cds w b 0 e.l ∧ F b ∧ ¬ X b
theorem Cds.kp {w w' : World} {b o : Nat} {l : List Cd} {M : Nat → Prop} (h : Cds w b o l) (k : Kp M w w') (hm : ¬ M b) : Cds w' b o l := fun j hj => by
  obtain ⟨h0, h1, h2, h3, h4, h5⟩ := h j hj
  exact ⟨k.cell h0 hm, k.cell h1 hm, k.cell h2 hm, k.cell h3 hm, k.cell h4 hm, k.cell h5 hm⟩
theorem EntOK.kp {w w' : World} {F X M : Nat → Prop} {e : Ent} (h : EntOK w F X e) (k : Kp M w w') (hm : ∀ b, F b → ¬ X b → ¬ M b) : EntOK w' F X e := fun hp => by
  obtain ⟨b, h1, h2, h3, h4⟩ := h hp
  exact ⟨b, h1, h2.kp k (hm b h3 h4), h3, h4⟩
theorem EntOK.mono {w : World} {F G X Y : Nat → Prop} {e : Ent} (h : EntOK w F X e) (hf : ∀ b, F b → ¬ X b → b < w.heap.size → G b ∧ ¬ Y b) : EntOK w G Y e := fun hp => by
  obtain ⟨b, h1, h2, h3, h4⟩ := h hp
  obtain ⟨h5, h6⟩ := hf b h3 h4 (World.block_lt_of_cell? w _ (h2 0 hp).1)
  exact ⟨b, h1, h2, h5, h6⟩
theorem EntOK.cxs {w : World} {F X : Nat → Prop} {e : Ent} (h : EntOK w F X e) : Cxs w e.ao e.l := fun hp => by
  obtain ⟨b, h1, h2, _⟩ := h hp
  exact ⟨b, 0, h1, h2⟩
theorem Ints.kp {w w' : World} {b o : Nat} {xs : List Int} {M : Nat → Prop} (h : Ints w b o xs) (k : Kp M w w') (hm : ¬ M b) : Ints w' b o xs := fun j hj => k.cell (h j hj) hm

end Go.Proofs.YtpbblaeamddbgaaGreat
namespace Go.Proofs.YtpbblaeamddbgaaGreat
open Go.RowKit

/-- The reference's engine. -/
def RefAt (w : World) (rb : Nat) (F : Nat → Prop) (sch : List Int) (flt : List (Int × List Cd)) : Prop :=
  F rb ∧ ∃ (sb sc : Nat) (fa : Option Addr) (fcap : Nat) (ev : Int) (es : List Ent), es.map Ent.key = flt ∧ Row w rb 148 [.slice (some ⟨sb, 0, none⟩) sch.length sc, .slice fa es.length fcap, .int .i64 ev] ∧ F sb ∧ sb ≠ rb ∧ Ints w sb 0 sch
    ∧ OSl w 219 2 fa es.length fcap (es.flatMap Ent.cells) ∧ (∀ g, blkOf fa = some g → F g ∧ g ≠ rb) ∧ ∀ e ∈ es, EntOK w F (fun b => b = rb) e
theorem RefAt.kp {w w' : World} {rb : Nat} {F M : Nat → Prop} {sch : List Int} {flt : List (Int × List Cd)} (h : RefAt w rb F sch flt) (k : Kp M w w') (hm : ∀ b, F b → ¬ M b) : RefAt w' rb F sch flt := by
  obtain ⟨h1, sb, sc, fa, fcap, ev, es, he, hr, hF, hne, hI, hO, hg, hE⟩ := h
  exact ⟨h1, sb, sc, fa, fcap, ev, es, he, k.row hr (hm _ h1), hF, hne, hI.kp k (hm _ hF), hO.kp k (fun g hg' => hm _ (hg g hg').1), hg, fun e he => (hE e he).kp k (fun b hb _ => hm b hb)⟩
theorem RefAt.mono {w : World} {rb : Nat} {F G : Nat → Prop} {sch : List Int} {flt : List (Int × List Cd)} (h : RefAt w rb F sch flt) (hm : ∀ b, F b → G b) : RefAt w rb G sch flt := by
  obtain ⟨h1, sb, sc, fa, fcap, ev, es, he, hr, hF, hne, hI, hO, hg, hE⟩ := h
  exact ⟨hm _ h1, sb, sc, fa, fcap, ev, es, he, hr, hm _ hF, hne, hI, hO, fun g hg' => ⟨hm _ (hg g hg').1, (hg g hg').2⟩, fun e he => (hE e he).mono (fun b h1 h2 _ => ⟨hm b h1, h2⟩)⟩
/-- The blocks of F, and those that are new. -/
def Grow (F : Nat → Prop) (w w' : World) (b : Nat) : Prop := F b ∨ (w.heap.size ≤ b ∧ b < w'.heap.size)

/-- Where a number stands, or would. -/
def PosOf (flt : List (Int × List Cd)) (id : Int) (q : Nat) : Prop := q ≤ flt.length ∧ (∀ j (hj : j < flt.length), j < q → flt[j].1 < id) ∧ ∀ hq : q < flt.length, ¬ flt[q].1 < id
theorem ex_pos (flt : List (Int × List Cd)) (id : Int) : ∃ q, PosOf flt id q := by
  have h : ∃ q, q = flt.length ∨ ∃ hq : q < flt.length, ¬ flt[q].1 < id := ⟨flt.length, Or.inl rfl⟩
  obtain ⟨q, hq, hmin⟩ := exists_least h
  refine ⟨q, by rcases hq with rfl | ⟨hq, _⟩ <;> omega, fun j hj hlt => ?_, fun hq' => ?_⟩
  · apply Classical.byContradiction
    intro hn
    have := hmin j (Or.inr ⟨hj, hn⟩); omega
  · rcases hq with rfl | ⟨_, hf⟩
    · omega
    · exact hf
/-- The first condition that may not be; the length, if there is none. -/
def BadOf (sch : List Int) (l : List Cd) (k : Nat) : Prop := k ≤ l.length ∧ (∀ j (hj : j < l.length), j < k → mayB sch l[j] = true) ∧ ∀ hk : k < l.length, mayB sch l[k] = false
theorem ex_badc (sch : List Int) (l : List Cd) : ∃ k, BadOf sch l k := by
  have h : ∃ q, q = l.length ∨ ∃ hq : q < l.length, mayB sch l[q] = false := ⟨l.length, Or.inl rfl⟩
  obtain ⟨q, hq, hmin⟩ := exists_least h
  refine ⟨q, by rcases hq with rfl | ⟨hq, _⟩ <;> omega, fun j hj hlt => ?_, fun hq' => ?_⟩
  · cases hf : mayB sch l[j]
    · have := hmin j (Or.inr ⟨hj, hf⟩); omega
    · rfl
  · rcases hq with rfl | ⟨_, hf⟩
    · omega
    · exact hf
/-- Is there a filter of that number? (q is where it would stand.) -/
def thereB (flt : List (Int × List Cd)) (id : Int) (q : Nat) : Bool := match flt[q]? with
  | some e => e.1 == id
  | none => false
/-- What Subscribe answers. -/
def subErr (flt : List (Int × List Cd)) (id : Int) (l : List Cd) (q k : Nat) : Int :=
  if id < 0 then 2 else if thereB flt id q then 3 else if 8 < l.length then 4 else if k < l.length then 5 else if 100 ≤ flt.length then 6 else 0
def subPlace (flt : List (Int × List Cd)) (id : Int) (l : List Cd) (q k : Nat) : Int := if subErr flt id l q k == 5 then (k : Int) else 0
def subFlt (flt : List (Int × List Cd)) (id : Int) (l : List Cd) (q k : Nat) : List (Int × List Cd) := if subErr flt id l q k == 0 then flt.take q ++ (id, l) :: flt.drop q else flt
theorem ent_at (es : List Ent) (k : Nat) (hk : k < es.length) : (es.flatMap Ent.cells)[k * 2]? = some (.int .i64 es[k].id) ∧ (es.flatMap Ent.cells)[k * 2 + 1]? = some (.slice es[k].ao es[k].l.length es[k].cap) :=
  ⟨flat_at Ent.cells 2 (fun _ => rfl) es k 0 hk (by omega), flat_at Ent.cells 2 (fun _ => rfl) es k 1 hk (by omega)⟩
theorem key_at {es : List Ent} {flt : List (Int × List Cd)} (h : es.map Ent.key = flt) : flt.length = es.length ∧ ∀ k (hk : k < es.length) (hk' : k < flt.length), flt[k] = (es[k].id, es[k].l) := by
  subst h
  refine ⟨by simp, fun k hk hk' => ?_⟩
  simp [Ent.key]
end Go.Proofs.YtpbblaeamddbgaaGreat
namespace Go.Proofs.YtpbblaeamddbgaaGreat
open Go.RowKit

theorem Tryz.infoFlt : (Tryz.prog.info? 219).map (fun i => (i.zero, i.size, i.bytes)) = some (some (.agg #[.int .i64 0, .slice none 0 0]), 2, 32) := by kernel_rfl

theorem May_is (rb b o cap : Nat) (sch : List Int) (c : Cd) (w : World) (hn : sch.length ≤ 6) (hr : w.cell? ⟨rb, 0, none⟩ = some (.slice (some ⟨b, o, none⟩) sch.length cap)) (hs : Ints w b o sch) (r : Bool) (h : mayB sch c = r) :
    Calls Tryz.prog 116 #[.pointer (some ⟨rb, 0, none⟩), .agg #[.int .i64 c.attr, .int .i64 c.kind, .int .i64 c.a.n, .string c.a.s, .int .i64 c.b.n, .string c.b.s]] w fun e w' => e = .returned (.bool r) ∧ Ext w w' := by
  subst h; exact May_any rb b o cap sch c w hn hr hs
theorem take_flat (es : List Ent) (j i : Nat) (u : Value) (h : ((es.take j).flatMap Ent.cells)[i]? = some u) : (es.flatMap Ent.cells)[i]? = some u := by
  have e : es.flatMap Ent.cells = (es.take j).flatMap Ent.cells ++ (es.drop j).flatMap Ent.cells := by rw [← List.flatMap_append, List.take_append_drop]
  rw [e, List.getElem?_append_left (List.getElem?_eq_some_iff.1 h).1]; exact h
theorem drop_flat (es : List Ent) (j i : Nat) (u : Value) (h : ((es.drop j).flatMap Ent.cells)[i]? = some u) : (es.flatMap Ent.cells)[j * 2 + i]? = some u := by
  have hil := (List.getElem?_eq_some_iff.1 h).1
  rw [ent_len] at hil
  simp only [List.length_drop] at hil
  have e : es.flatMap Ent.cells = (es.take j).flatMap Ent.cells ++ (es.drop j).flatMap Ent.cells := by rw [← List.flatMap_append, List.take_append_drop]
  have el : ((es.take j).flatMap Ent.cells).length = j * 2 := by rw [ent_len]; simp; omega
  rw [e, List.getElem?_append_right (by omega), el, Nat.add_sub_cancel_left]; exact h
theorem osl_take {w : World} {T : Nat} {fa : Option Addr} {n cap : Nat} {es : List Ent} (h : OSl w T 2 fa n cap (es.flatMap Ent.cells)) (j : Nat) (hj : j ≤ es.length) : 0 < j → ∃ ad, fa = some ad ∧ ∀ i u, ((es.take j).flatMap Ent.cells)[i]? = some u → w.cell? (ad.add i) = some u := by
  intro hp
  obtain ⟨g, rfl, _⟩ := h.at (ent_at es 0 (by omega)).1
  refine ⟨_, rfl, fun i u hu => ?_⟩
  obtain ⟨g', e, hc⟩ := h.at (take_flat es j i u hu)
  cases e
  rw [add_lt]; exact hc
theorem osl_drop {w : World} {T : Nat} {g n cap : Nat} {es : List Ent} (h : OSl w T 2 (some ⟨g, 0, none⟩) n cap (es.flatMap Ent.cells)) (j : Nat) : ∀ i u, ((es.drop j).flatMap Ent.cells)[i]? = some u → w.cell? ((⟨g, j * 2, none⟩ : Addr).add i) = some u := by
  intro i u hu
  obtain ⟨g', e, hc⟩ := h.at (drop_flat es j i u hu)
  cases e
  rw [add_at]; exact hc
theorem two_new (w : World) (T : TypeId) (x y : Value) : ∀ j u, [x, y][j]? = some u → (w.alloc (.cells #[x, y] T)).cell? ((⟨w.heap.size, 0, none⟩ : Addr).add j) = some u := by
  intro j u hj
  rw [add_lt]
  exact cell_new w _ T _ j rfl (by simpa using hj)
theorem Ext.kpNew {a b c : World} {M : Nat → Prop} (h : Ext a b) (k : Kp M b c) (hm : ∀ g, M g → a.heap.size ≤ g) : Ext a c :=
  ⟨k.os.trans h.os, k.tape.trans h.tape, k.output.trans h.output, Nat.le_trans h.size k.size, fun i hi => (k.block i (Nat.lt_of_lt_of_le hi h.size) (fun hM => absurd (hm i hM) (by omega))).trans (h.block i hi)⟩
theorem fresh1 {a : Nat} {w : World} {ao' : Option Addr} (hle : a ≤ w.heap.size) (hat : Hid (blkOf ao' = blkOf none ∨ blkOf ao' = some w.heap.size)) : ∀ g, blkOf ao' = some g → a ≤ g := by
  intro g hg
  rcases hat.out with e | e
  · rw [e] at hg; cases hg
  · rw [e] at hg; cases hg; exact hle
theorem fresh2 {a : Nat} {w : World} {ao ao' : Option Addr} (hle : a ≤ w.heap.size) (hf : ∀ g, blkOf ao = some g → a ≤ g) (hat : Hid (blkOf ao' = blkOf ao ∨ blkOf ao' = some w.heap.size)) : ∀ g, blkOf ao' = some g → a ≤ g := by
  intro g hg
  rcases hat.out with e | e
  · rw [e] at hg; exact hf g hg
  · rw [e] at hg; cases hg; exact hle

/-- What holds where a filter has come in. -/
def SubDone (rb : Nat) (sch : List Int) (sb sc : Nat) (ev : Int) (es : List Ent) (id : Int) (l : List Cd) (q : Nat) (w : World) (R : Ending → World → Prop) : Prop :=
  ∀ (w' : World) (ao1 : Option Addr) (cap1 : Nat) (fa' : Option Addr) (fcap' : Nat), Kp (fun b => b = rb) w w' → Row w' rb 148 [.slice (some ⟨sb, 0, none⟩) sch.length sc, .slice fa' (es.length + 1) fcap', .int .i64 ev] →
    OSl w' 219 2 fa' (es.length + 1) fcap' ((es.take q ++ ⟨id, l, ao1, cap1⟩ :: es.drop q).flatMap Ent.cells) → (∀ g, blkOf fa' = some g → w.heap.size ≤ g) →
    OSl w' 80 6 ao1 l.length cap1 (l.flatMap Cd.cells) → (∀ g, blkOf ao1 = some g → w.heap.size ≤ g) → R (.returned (.tuple #[.int .i64 0, .int .i64 0])) w'
theorem sub_tail {rb : Nat} {sch : List Int} {sb sc : Nat} {ev : Int} {es : List Ent} {id : Int} {l : List Cd} {q : Nat} {w w1 w4 : World} {R : Ending → World → Prop} {ao1 ao4 : Option Addr} {cap1 cap4 fcap : Nat} {fa : Option Addr} (h : SubDone rb sch sb sc ev es id l q w R)
    (hrow : Row w rb 148 [.slice (some ⟨sb, 0, none⟩) sch.length sc, .slice fa es.length fcap, .int .i64 ev]) (hE1 : Ext w w1) (hx4 : Ext w1 w4) (hown1 : OSl w1 80 6 ao1 l.length cap1 (l.flatMap Cd.cells))
    (hown4 : OSl w4 219 2 ao4 (q + 1 + (es.length - q)) cap4 ((es.take q).flatMap Ent.cells ++ [.int .i64 id, .slice ao1 l.length cap1] ++ (es.drop q).flatMap Ent.cells)) (hF1 : ∀ g, blkOf ao1 = some g → w.heap.size ≤ g) (hF4 : ∀ g, blkOf ao4 = some g → w1.heap.size ≤ g) (hq : q ≤ es.length) :
    R (.returned (.tuple #[.int .i64 0, .int .i64 0])) (w4.setCell ⟨rb, 1, none⟩ (.slice ao4 (q + 1 + (es.length - q)) cap4)) := by
  have e : q + 1 + (es.length - q) = es.length + 1 := by omega
  have hE4 := hE1.trans hx4
  have hrl := hrow.lt
  have hK : Kp (fun b => b = rb) w4 (w4.setCell ⟨rb, 1, none⟩ (.slice ao4 (q + 1 + (es.length - q)) cap4)) := (Kp.refl (fun b => b = rb) _).setCell (fun _ => rfl) _
  have hF4' : ∀ g, blkOf ao4 = some g → w.heap.size ≤ g := fun g hg => Nat.le_trans hE1.le (hF4 g hg)
  refine h _ ao1 cap1 ao4 cap4 ((hE4.kp _).trans hK) ?_ ?_ hF4' ?_ hF1
  · have := (hrow.ext hE4).set 1 (.slice ao4 (q + 1 + (es.length - q)) cap4)
    rw [e] at this ⊢
    simpa using this
  · have h4 := hown4.kp hK (fun g hg => by have := hF4' g hg; omega)
    have e2 : (es.take q ++ (⟨id, l, ao1, cap1⟩ : Ent) :: es.drop q).flatMap Ent.cells = (es.take q).flatMap Ent.cells ++ [.int .i64 id, .slice ao1 l.length cap1] ++ (es.drop q).flatMap Ent.cells := by
      rw [List.flatMap_append, List.flatMap_cons, List.append_assoc]; rfl
    rw [e2]
    rw [e] at h4 ⊢
    exact h4
  · exact (hown1.ext hx4).kp hK (fun g hg => by have := hF1 g hg; omega)

theorem sub_tailB {rb : Nat} {sch : List Int} {sb sc : Nat} {ev : Int} {es : List Ent} {id : Int} {l : List Cd} {w w1 w4 : World} {R : Ending → World → Prop} {ao1 ao4 : Option Addr} {cap1 cap4 fcap : Nat} {fa : Option Addr} (h : SubDone rb sch sb sc ev es id l es.length w R)
    (hrow : Row w rb 148 [.slice (some ⟨sb, 0, none⟩) sch.length sc, .slice fa es.length fcap, .int .i64 ev]) (hE1 : Ext w w1) (hx4 : Ext w1 w4) (hown1 : OSl w1 80 6 ao1 l.length cap1 (l.flatMap Cd.cells))
    (hown4 : OSl w4 219 2 ao4 (es.length + 1 + 0) cap4 ((es.take es.length).flatMap Ent.cells ++ [.int .i64 id, .slice ao1 l.length cap1] ++ [])) (hF1 : ∀ g, blkOf ao1 = some g → w.heap.size ≤ g) (hF4 : ∀ g, blkOf ao4 = some g → w1.heap.size ≤ g) :
    R (.returned (.tuple #[.int .i64 0, .int .i64 0])) (w4.setCell ⟨rb, 1, none⟩ (.slice ao4 (es.length + 1) cap4)) := by
  have := sub_tail (q := es.length) h hrow hE1 hx4 hown1 (by rw [Nat.sub_self, List.drop_length]; exact hown4) hF1 hF4 (Nat.le_refl _)
  rw [Nat.sub_self] at this
  exact this

set_option maxHeartbeats 3200000 in
set_option maxRecDepth 100000 in
theorem rSub_neg (rb : Nat) (id : Int) (ao : Option Addr) (n cap : Nat) (w : World) (h : id < 0) :
    Calls Tryz.prog 67 #[.pointer (some ⟨rb, 0, none⟩), .int .i64 id, .slice ao n cap] w fun e w' => e = .returned (.tuple #[.int .i64 2, .int .i64 0]) ∧ w' = w := by
  go_enter Tryz.func67, Tryz.ntmps67
  go_wp2
  go_ret2
  exact ⟨rfl, rfl⟩

set_option maxHeartbeats 3200000 in
set_option maxRecDepth 100000 in
theorem rSub_core (rb : Nat) (sch : List Int) (sb sc : Nat) (fa : Option Addr) (fcap : Nat) (ev : Int) (es : List Ent) (id : Int) (ao : Option Addr) (cap : Nat) (l : List Cd) (w : World) (hn : sch.length ≤ 6) (hf : es.length ≤ 100) (hl : l.length * 64 ≤ 140737488351232) (hid : ¬ id < 0)
    (hrow : Row w rb 148 [.slice (some ⟨sb, 0, none⟩) sch.length sc, .slice fa es.length fcap, .int .i64 ev]) (hI : Ints w sb 0 sch) (HO : OSl w 219 2 fa es.length fcap (es.flatMap Ent.cells)) (hc : Cxs w ao l) (hcnil : ao = none → l.length = 0 ∧ cap = 0)
    (q k : Nat) (hfa : fa ≠ none) (hq1 : q ≤ es.length) (hq2 : ∀ j (hj : j < es.length), j < q → es[j].id < id) (hq3 : ∀ hq : q < es.length, ¬ es[q].id < id) (hkB : BadOf sch l k) (R : Ending → World → Prop)
    (R3 : ∀ hq : q < es.length, es[q].id = id → R (.returned (.tuple #[.int .i64 3, .int .i64 0])) w) (R4 : (∀ hq : q < es.length, ¬ es[q].id = id) → 8 < l.length → R (.returned (.tuple #[.int .i64 4, .int .i64 0])) w)
    (R5 : (∀ hq : q < es.length, ¬ es[q].id = id) → ¬ 8 < l.length → k < l.length → ∀ w', Ext w w' → R (.returned (.tuple #[.int .i64 5, .int .i64 k])) w')
    (R6 : (∀ hq : q < es.length, ¬ es[q].id = id) → ¬ 8 < l.length → ¬ k < l.length → 100 ≤ es.length → ∀ w', Ext w w' → R (.returned (.tuple #[.int .i64 6, .int .i64 0])) w')
    (R0 : (∀ hq : q < es.length, ¬ es[q].id = id) → ¬ 8 < l.length → ¬ k < l.length → ¬ 100 ≤ es.length → SubDone rb sch sb sc ev es id l q w R) :
    Calls Tryz.prog 67 #[.pointer (some ⟨rb, 0, none⟩), .int .i64 id, .slice ao l.length cap] w R := by
  have r0 := hrow.at (j := 0) rfl
  have r1 := hrow.at (j := 1) rfl
  have HQ2 : Hid (∀ j (hj : j < es.length), j < q → es[j].id < id) := hq2
  have HQ3 : Hid (∀ hq : q < es.length, ¬ es[q].id < id) := hq3
  have hcn : Hid (ao = none → l.length = 0 ∧ cap = 0) := hcnil
  have HR3 : Hid _ := R3
  have HR4 : Hid _ := R4
  have HR5 : Hid _ := R5
  have HR6 : Hid _ := R6
  have HR0 : Hid _ := R0
  have HB : Hid (BadOf sch l k) := hkB
  clear R3 R4 R5 R6 R0 hq2 hq3 hcnil hkB
  go_enter Tryz.func67, Tryz.ntmps67
  go_wp2
  go_loop [8] (fun i => ∃ j : Nat, j ≤ q ∧ i = .int .i64 j) (fun i => es.length - (intOf i).toNat)
  case atStart => exact ⟨0, Nat.zero_le _, rfl⟩
  case round =>
    obtain ⟨j, hj, rfl⟩ := hrel
    by_cases hjq : j < q
    · have hjl : j < es.length := by omega
      obtain ⟨fb, rfl, e0⟩ := HO.at (ent_at es j hjl).1
      have hlt := HQ2.out j hjl hjq
      generalize es[j].id = ej at *
      go_wp2
      go_round
      case rel => exact ⟨j + 1, by omega, by go_num⟩
      case measure => simp [intOf]; omega
    · obtain rfl : j = q := by omega
      by_cases hjl : j < es.length
      · obtain ⟨fb, rfl, e0⟩ := HO.at (ent_at es j hjl).1
        have hge : id ≤ es[j].id := by have := HQ3.out hjl; omega
        by_cases hd : es[j].id = id
        · have hR := HR3.out hjl hd
          have hd' : (es[j].id == id) = true := by simpa using hd
          generalize es[j].id = ej at *
          have HRR : Hid _ := hR
          clear hR hd
          go_wp2
          exact HRR.out
        · have hnd : Hid (∀ hq : j < es.length, ¬ es[j].id = id) := fun _ => hd
          have hcp : es.length ≤ fcap := by rcases HO.form with ⟨h, _⟩ | ⟨_, _, _, _, h, _⟩; cases h; exact h
          have hd' : (es[j].id == id) = false := by simpa using hd
          generalize hej : es[j].id = ej at e0 hge hd'
          clear hd hej
          have hgt : ¬ ej < id := by omega
          by_cases h8 : 8 < l.length
          · go_wp2
            exact HR4.out hnd.out h8
          · go_wp2
            go_loopw [9] (fun i wr => ∃ m : Nat, m ≤ k ∧ i = .int .i64 m ∧ Ext w wr) (fun i _ => l.length - (intOf i).toNat)
            case atStart => exact ⟨0, Nat.zero_le _, rfl, Ext.refl _⟩
            case round =>
              obtain ⟨m, hm, rfl, hE⟩ := hrel
              have rr0 := hE.cell r0
              have rr1 := hE.cell r1
              have hII := hI.ext hE
              have hCC := hc.ext hE
              by_cases hml : m < l.length
              · obtain ⟨cb, co, rfl, hD⟩ := hCC (by omega)
                obtain ⟨d0, d1, d2, d3, d4, d5⟩ := hD m hml
                by_cases hmk : m < k
                · have hmay := HB.out.2.1 m hml hmk
                  have hmayH : Hid (mayB sch l[m] = true) := hmay
                  clear hmay hCC hD
                  go_wp2_with fail
                  refine (May_is rb sb 0 sc sch l[m] _ hn rr0 hII true hmayH.out).mono ?_
                  rintro e w1 ⟨rfl, hb⟩
                  clear hII d0 d1 d2 d3 d4 d5 rr0 rr1
                  go_wp2
                  go_roundw
                  case rel => exact ⟨m + 1, by omega, by go_num, hE.trans hb⟩
                  case measure => simp [intOf]; omega
                · obtain rfl : m = k := by omega
                  have hmayH : Hid (mayB sch l[m] = false) := HB.out.2.2 hml
                  clear hCC hD
                  go_wp2_with fail
                  refine (May_is rb sb 0 sc sch l[m] _ hn rr0 hII false hmayH.out).mono ?_
                  rintro e w1 ⟨rfl, hb⟩
                  clear hII d0 d1 d2 d3 d4 d5 rr0 rr1
                  go_wp2
                  exact HR5.out hnd.out h8 hml _ (hE.trans hb)
              · have hkl : ¬ k < l.length := by omega
                clear hII
                by_cases h100 : 100 ≤ es.length
                · go_wp2
                  exact HR6.out hnd.out h8 hkl h100 _ hE
                · have hOO := HO.ext hE
                  have tok1 : True := trivial
                  have tok2 : True := trivial
                  have tok3 : True := trivial
                  have tok4 : True := trivial
                  go_wp2_with (first
                    | (at_builtin; have _t := tok1; go_must (refine wpList_app rfl (.tmp 79) (.tmp 80) 26 rfl 80 (.agg #[.int .i64 0, .int .i64 0, .int .i64 0, .string ⟨#[]⟩, .int .i64 0, .string ⟨#[]⟩]) 6 64 Tryz.underlying26 Tryz.infoCd rfl (by decide) none 0 0 [] rfl (OSl.nil _ _ _) ao l.length cap (l.flatMap Cd.cells) rfl hcn.out (flat_len _ 6 (fun _ => rfl) l) (cds_src hCC) (cds_oneCell l) (by unfold maxLen; omega) (by omega) ?_; intro ao1 cap1 w1 hown1 hk1 hat1; simp only [Nat.zero_add, List.nil_append] at hown1; have hx1 : Ext wr w1 := hk1.ext (fun _ _ h => by cases h); have hE1 : Ext w w1 := hE.trans hx1; have q1 := hE1.cell r1; have hF1 : Hid (∀ g, blkOf ao1 = some g → w.heap.size ≤ g) := fresh1 hE.le hat1; clear hk1 tok1 hat1))
                    | (at_builtin; have _t := tok2; go_must (refine wpList_app rfl (.tmp 82) (.tmp 88) 146 rfl 219 (.agg #[.int .i64 0, .slice none 0 0]) 2 32 Tryz.underlying146 Tryz.infoFlt rfl (by decide) none 0 0 [] rfl (OSl.nil _ _ _) _ j _ ((es.take j).flatMap Ent.cells) rfl (by intro h; cases h) (by rw [ent_len]; simp; omega) (osl_take (HO.ext hE1) j hq1) (ent_one _) (by unfold maxLen; omega) (by omega) ?_; intro ao2 cap2 w2 hown2 hk2 hat2; simp only [Nat.zero_add, List.nil_append] at hown2; have hx2 : Ext w1 w2 := hk2.ext (fun _ _ h => by cases h); have hE2 : Ext w w2 := hE1.trans hx2; have q2 := hE2.cell r1; have hF2 : Hid (∀ g, blkOf ao2 = some g → w1.heap.size ≤ g) := fresh1 (Nat.le_refl _) hat2; clear hk2 tok2 hat2))
                    | (at_builtin; have _t := tok3; go_must (refine wpList_app rfl (.tmp 90) (.tmp 94) 146 rfl 219 (.agg #[.int .i64 0, .slice none 0 0]) 2 32 Tryz.underlying146 Tryz.infoFlt rfl (by decide) ao2 j cap2 _ rfl (OSl.ext hown2 ((Ext.refl _).alloc _)) (some ⟨w2.heap.size, 0, none⟩) 1 1 [.int .i64 id, .slice ao1 l.length cap1] rfl (by intro h; cases h) rfl (fun _ => ⟨_, rfl, two_new _ _ _ _⟩) (by intro u hu; simp at hu; rcases hu with rfl | rfl <;> rfl) (by unfold maxLen; omega) (by omega) ?_; intro ao3 cap3 w3 hown3 hk3 hat3; have hx3 : Ext w1 w3 := (hx2.alloc _).kpNew hk3 hF2.out; have hE3 : Ext w w3 := hE1.trans hx3; have q3 := hE3.cell r1; have hF3 : Hid (∀ g, blkOf ao3 = some g → w1.heap.size ≤ g) := fresh2 (hx2.alloc _).le hF2.out hat3; clear hk3 tok3 hat3))
                    | (at_builtin; have _t := tok4; go_must (refine wpList_app rfl (.tmp 97) (.tmp 103) 146 rfl 219 (.agg #[.int .i64 0, .slice none 0 0]) 2 32 Tryz.underlying146 Tryz.infoFlt rfl (by decide) ao3 (j + 1) cap3 _ rfl hown3 _ (es.length - j) _ ((es.drop j).flatMap Ent.cells) rfl (by intro h; cases h) (by rw [ent_len]; simp) (fun _ => ⟨_, rfl, osl_drop (HO.ext hE3) j⟩) (ent_one _) (by unfold maxLen; omega) (by omega) ?_; intro ao4 cap4 w4 hown4 hk4 hat4; have hx4 : Ext w1 w4 := hx3.kpNew hk4 hF3.out; have hE4 : Ext w w4 := hE1.trans hx4; have q4 := hE4.cell r1; have z4 := (hrow.ext hE4).frozen 1; have hF4 : Hid (∀ g, blkOf ao4 = some g → w1.heap.size ≤ g) := fresh2 hx3.le hF3.out hat4; clear tok4 hat4)))
                  exact sub_tail (HR0.out hnd.out h8 hkl h100) hrow hE1 hx4 hown1 hown4 hF1.out hF4.out (by omega)
      · have hnd : Hid (∀ hq : j < es.length, ¬ es[j].id = id) := fun h => absurd h hjl
        obtain rfl : j = es.length := by omega
        rcases HO.form with ⟨rfl, _⟩ | ⟨fb, cur, rfl, _, hcp, _⟩
        · exact absurd rfl hfa
        · by_cases h8 : 8 < l.length
          · go_wp2
            exact HR4.out hnd.out h8
          · go_wp2
            go_loopw [9] (fun i wr => ∃ m : Nat, m ≤ k ∧ i = .int .i64 m ∧ Ext w wr) (fun i _ => l.length - (intOf i).toNat)
            case atStart => exact ⟨0, Nat.zero_le _, rfl, Ext.refl _⟩
            case round =>
              obtain ⟨m, hm, rfl, hE⟩ := hrel
              have rr0 := hE.cell r0
              have rr1 := hE.cell r1
              have hII := hI.ext hE
              have hCC := hc.ext hE
              by_cases hml : m < l.length
              · obtain ⟨cb, co, rfl, hD⟩ := hCC (by omega)
                obtain ⟨d0, d1, d2, d3, d4, d5⟩ := hD m hml
                by_cases hmk : m < k
                · have hmay := HB.out.2.1 m hml hmk
                  have hmayH : Hid (mayB sch l[m] = true) := hmay
                  clear hmay hCC hD
                  go_wp2_with fail
                  refine (May_is rb sb 0 sc sch l[m] _ hn rr0 hII true hmayH.out).mono ?_
                  rintro e w1 ⟨rfl, hb⟩
                  clear hII d0 d1 d2 d3 d4 d5 rr0 rr1
                  go_wp2
                  go_roundw
                  case rel => exact ⟨m + 1, by omega, by go_num, hE.trans hb⟩
                  case measure => simp [intOf]; omega
                · obtain rfl : m = k := by omega
                  have hmayH : Hid (mayB sch l[m] = false) := HB.out.2.2 hml
                  clear hCC hD
                  go_wp2_with fail
                  refine (May_is rb sb 0 sc sch l[m] _ hn rr0 hII false hmayH.out).mono ?_
                  rintro e w1 ⟨rfl, hb⟩
                  clear hII d0 d1 d2 d3 d4 d5 rr0 rr1
                  go_wp2
                  exact HR5.out hnd.out h8 hml _ (hE.trans hb)
              · have hkl : ¬ k < l.length := by omega
                clear hII
                by_cases h100 : 100 ≤ es.length
                · go_wp2
                  exact HR6.out hnd.out h8 hkl h100 _ hE
                · have hOO := HO.ext hE
                  have tok1 : True := trivial
                  have tok2 : True := trivial
                  have tok3 : True := trivial
                  have tok4 : True := trivial
                  go_wp2_with (first
                    | (at_builtin; have _t := tok1; go_must (refine wpList_app rfl (.tmp 79) (.tmp 80) 26 rfl 80 (.agg #[.int .i64 0, .int .i64 0, .int .i64 0, .string ⟨#[]⟩, .int .i64 0, .string ⟨#[]⟩]) 6 64 Tryz.underlying26 Tryz.infoCd rfl (by decide) none 0 0 [] rfl (OSl.nil _ _ _) ao l.length cap (l.flatMap Cd.cells) rfl hcn.out (flat_len _ 6 (fun _ => rfl) l) (cds_src hCC) (cds_oneCell l) (by unfold maxLen; omega) (by omega) ?_; intro ao1 cap1 w1 hown1 hk1 hat1; simp only [Nat.zero_add, List.nil_append] at hown1; have hx1 : Ext wr w1 := hk1.ext (fun _ _ h => by cases h); have hE1 : Ext w w1 := hE.trans hx1; have q1 := hE1.cell r1; have hF1 : Hid (∀ g, blkOf ao1 = some g → w.heap.size ≤ g) := fresh1 hE.le hat1; clear hk1 tok1 hat1))
                    | (at_builtin; have _t := tok2; go_must (refine wpList_app rfl (.tmp 82) (.tmp 88) 146 rfl 219 (.agg #[.int .i64 0, .slice none 0 0]) 2 32 Tryz.underlying146 Tryz.infoFlt rfl (by decide) none 0 0 [] rfl (OSl.nil _ _ _) _ es.length _ ((es.take es.length).flatMap Ent.cells) rfl (by intro h; cases h) (by rw [ent_len]; simp) (osl_take (HO.ext hE1) es.length hq1) (ent_one _) (by unfold maxLen; omega) (by omega) ?_; intro ao2 cap2 w2 hown2 hk2 hat2; simp only [Nat.zero_add, List.nil_append] at hown2; have hx2 : Ext w1 w2 := hk2.ext (fun _ _ h => by cases h); have hE2 : Ext w w2 := hE1.trans hx2; have q2 := hE2.cell r1; have hF2 : Hid (∀ g, blkOf ao2 = some g → w1.heap.size ≤ g) := fresh1 (Nat.le_refl _) hat2; clear hk2 tok2 hat2))
                    | (at_builtin; have _t := tok3; go_must (refine wpList_app rfl (.tmp 90) (.tmp 94) 146 rfl 219 (.agg #[.int .i64 0, .slice none 0 0]) 2 32 Tryz.underlying146 Tryz.infoFlt rfl (by decide) ao2 es.length cap2 _ rfl (OSl.ext hown2 ((Ext.refl _).alloc _)) (some ⟨w2.heap.size, 0, none⟩) 1 1 [.int .i64 id, .slice ao1 l.length cap1] rfl (by intro h; cases h) rfl (fun _ => ⟨_, rfl, two_new _ _ _ _⟩) (by intro u hu; simp at hu; rcases hu with rfl | rfl <;> rfl) (by unfold maxLen; omega) (by omega) ?_; intro ao3 cap3 w3 hown3 hk3 hat3; have hx3 : Ext w1 w3 := (hx2.alloc _).kpNew hk3 hF2.out; have hE3 : Ext w w3 := hE1.trans hx3; have q3 := hE3.cell r1; have hF3 : Hid (∀ g, blkOf ao3 = some g → w1.heap.size ≤ g) := fresh2 (hx2.alloc _).le hF2.out hat3; clear hk3 tok3 hat3))
                    | (at_builtin; have _t := tok4; go_must (refine wpList_app rfl (.tmp 97) (.tmp 103) 146 rfl 219 (.agg #[.int .i64 0, .slice none 0 0]) 2 32 Tryz.underlying146 Tryz.infoFlt rfl (by decide) ao3 (es.length + 1) cap3 _ rfl hown3 _ 0 _ [] rfl (by intro h; split at h <;> cases h) rfl (fun h => absurd h (by omega)) (by intro u hu; simp at hu) (by unfold maxLen; omega) (by omega) ?_; intro ao4 cap4 w4 hown4 hk4 hat4; have hx4 : Ext w1 w4 := hx3.kpNew hk4 hF3.out; have hE4 : Ext w w4 := hE1.trans hx4; have q4 := hE4.cell r1; have z4 := (hrow.ext hE4).frozen 1; have hF4 : Hid (∀ g, blkOf ao4 = some g → w1.heap.size ≤ g) := fresh2 hx3.le hF3.out hat4; clear tok4 hat4)))
                  all_goals exact sub_tailB (HR0.out hnd.out h8 hkl h100) hrow hE1 hx4 hown1 hown4 hF1.out hF4.out

set_option maxHeartbeats 3200000 in
set_option maxRecDepth 100000 in
theorem rSub_nil (rb : Nat) (sch : List Int) (sb sc : Nat) (ev : Int) (id : Int) (ao : Option Addr) (cap : Nat) (l : List Cd) (w : World) (hn : sch.length ≤ 6) (hl : l.length * 64 ≤ 140737488351232) (hid : ¬ id < 0)
    (hrow : Row w rb 148 [.slice (some ⟨sb, 0, none⟩) sch.length sc, .slice none 0 0, .int .i64 ev]) (hI : Ints w sb 0 sch) (HO : OSl w 219 2 none 0 0 []) (hc : Cxs w ao l) (hcnil : ao = none → l.length = 0 ∧ cap = 0)
    (k : Nat) (hkB : BadOf sch l k) (R : Ending → World → Prop)
    (R4 : 8 < l.length → R (.returned (.tuple #[.int .i64 4, .int .i64 0])) w) (R5 : ¬ 8 < l.length → k < l.length → ∀ w', Ext w w' → R (.returned (.tuple #[.int .i64 5, .int .i64 k])) w')
    (R0 : ¬ 8 < l.length → ¬ k < l.length → SubDone rb sch sb sc ev [] id l 0 w R) :
    Calls Tryz.prog 67 #[.pointer (some ⟨rb, 0, none⟩), .int .i64 id, .slice ao l.length cap] w R := by
  have r0 := hrow.at (j := 0) rfl
  have r1 := hrow.at (j := 1) rfl
  have hcn : Hid (ao = none → l.length = 0 ∧ cap = 0) := hcnil
  have HR4 : Hid _ := R4
  have HR5 : Hid _ := R5
  have HR0 : Hid _ := R0
  have HB : Hid (BadOf sch l k) := hkB
  have hnd : Hid True := trivial
  clear R4 R5 R0 hcnil hkB
  go_enter Tryz.func67, Tryz.ntmps67
  go_wp2
  go_loop [8] (fun i => i = .int .i64 0) (fun _ => 0)
  case atStart => rfl
  case round =>
    subst hrel
    by_cases h8 : 8 < l.length
    · go_wp2
      exact HR4.out h8
    · go_wp2
      go_loopw [9] (fun i wr => ∃ m : Nat, m ≤ k ∧ i = .int .i64 m ∧ Ext w wr) (fun i _ => l.length - (intOf i).toNat)
      case atStart => exact ⟨0, Nat.zero_le _, rfl, Ext.refl _⟩
      case round =>
        obtain ⟨m, hm, rfl, hE⟩ := hrel
        have rr0 := hE.cell r0
        have rr1 := hE.cell r1
        have hII := hI.ext hE
        have hCC := hc.ext hE
        by_cases hml : m < l.length
        · obtain ⟨cb, co, rfl, hD⟩ := hCC (by omega)
          obtain ⟨d0, d1, d2, d3, d4, d5⟩ := hD m hml
          by_cases hmk : m < k
          · have hmay := HB.out.2.1 m hml hmk
            have hmayH : Hid (mayB sch l[m] = true) := hmay
            clear hmay hCC hD
            go_wp2_with fail
            refine (May_is rb sb 0 sc sch l[m] _ hn rr0 hII true hmayH.out).mono ?_
            rintro e w1 ⟨rfl, hb⟩
            clear hII d0 d1 d2 d3 d4 d5 rr0 rr1
            go_wp2
            go_roundw
            case rel => exact ⟨m + 1, by omega, by go_num, hE.trans hb⟩
            case measure => simp [intOf]; omega
          · obtain rfl : m = k := by omega
            have hmayH : Hid (mayB sch l[m] = false) := HB.out.2.2 hml
            clear hCC hD
            go_wp2_with fail
            refine (May_is rb sb 0 sc sch l[m] _ hn rr0 hII false hmayH.out).mono ?_
            rintro e w1 ⟨rfl, hb⟩
            clear hII d0 d1 d2 d3 d4 d5 rr0 rr1
            go_wp2
            exact HR5.out h8 hml _ (hE.trans hb)
        · have hkl : ¬ k < l.length := by omega
          clear hII
          · have hOO := HO.ext hE
            have tok1 : True := trivial
            have tok2 : True := trivial
            have tok3 : True := trivial
            have tok4 : True := trivial
            go_wp2_with (first
              | (at_builtin; have _t := tok1; go_must (refine wpList_app rfl (.tmp 79) (.tmp 80) 26 rfl 80 (.agg #[.int .i64 0, .int .i64 0, .int .i64 0, .string ⟨#[]⟩, .int .i64 0, .string ⟨#[]⟩]) 6 64 Tryz.underlying26 Tryz.infoCd rfl (by decide) none 0 0 [] rfl (OSl.nil _ _ _) ao l.length cap (l.flatMap Cd.cells) rfl hcn.out (flat_len _ 6 (fun _ => rfl) l) (cds_src hCC) (cds_oneCell l) (by unfold maxLen; omega) (by omega) ?_; intro ao1 cap1 w1 hown1 hk1 hat1; simp only [Nat.zero_add, List.nil_append] at hown1; have hx1 : Ext wr w1 := hk1.ext (fun _ _ h => by cases h); have hE1 : Ext w w1 := hE.trans hx1; have q1 := hE1.cell r1; have hF1 : Hid (∀ g, blkOf ao1 = some g → w.heap.size ≤ g) := fresh1 hE.le hat1; clear hk1 tok1 hat1))
              | (at_builtin; have _t := tok2; go_must (refine wpList_app rfl (.tmp 82) (.tmp 88) 146 rfl 219 (.agg #[.int .i64 0, .slice none 0 0]) 2 32 Tryz.underlying146 Tryz.infoFlt rfl (by decide) none 0 0 [] rfl (OSl.nil _ _ _) _ 0 _ [] rfl (fun _ => ⟨rfl, rfl⟩) rfl (fun h => absurd h (by omega)) (by intro u hu; simp at hu) (by unfold maxLen; omega) (by omega) ?_; intro ao2 cap2 w2 hown2 hk2 hat2; simp only [Nat.zero_add, List.nil_append] at hown2; have hx2 : Ext w1 w2 := hk2.ext (fun _ _ h => by cases h); have hE2 : Ext w w2 := hE1.trans hx2; have q2 := hE2.cell r1; have hF2 : Hid (∀ g, blkOf ao2 = some g → w1.heap.size ≤ g) := fresh1 (Nat.le_refl _) hat2; clear hk2 tok2 hat2))
              | (at_builtin; have _t := tok3; go_must (refine wpList_app rfl (.tmp 90) (.tmp 94) 146 rfl 219 (.agg #[.int .i64 0, .slice none 0 0]) 2 32 Tryz.underlying146 Tryz.infoFlt rfl (by decide) ao2 0 cap2 _ rfl (OSl.ext hown2 ((Ext.refl _).alloc _)) (some ⟨w2.heap.size, 0, none⟩) 1 1 [.int .i64 id, .slice ao1 l.length cap1] rfl (by intro h; cases h) rfl (fun _ => ⟨_, rfl, two_new _ _ _ _⟩) (by intro u hu; simp at hu; rcases hu with rfl | rfl <;> rfl) (by unfold maxLen; omega) (by omega) ?_; intro ao3 cap3 w3 hown3 hk3 hat3; have hx3 : Ext w1 w3 := (hx2.alloc _).kpNew hk3 hF2.out; have hE3 : Ext w w3 := hE1.trans hx3; have q3 := hE3.cell r1; have hF3 : Hid (∀ g, blkOf ao3 = some g → w1.heap.size ≤ g) := fresh2 (hx2.alloc _).le hF2.out hat3; clear hk3 tok3 hat3))
              | (at_builtin; have _t := tok4; go_must (refine wpList_app rfl (.tmp 97) (.tmp 103) 146 rfl 219 (.agg #[.int .i64 0, .slice none 0 0]) 2 32 Tryz.underlying146 Tryz.infoFlt rfl (by decide) ao3 1 cap3 _ rfl hown3 _ 0 _ [] rfl (fun _ => ⟨rfl, rfl⟩) rfl (fun h => absurd h (by omega)) (by intro u hu; simp at hu) (by unfold maxLen; omega) (by omega) ?_; intro ao4 cap4 w4 hown4 hk4 hat4; have hx4 : Ext w1 w4 := hx3.kpNew hk4 hF3.out; have hE4 : Ext w w4 := hE1.trans hx4; have q4 := hE4.cell r1; have z4 := (hrow.ext hE4).frozen 1; have hF4 : Hid (∀ g, blkOf ao4 = some g → w1.heap.size ≤ g) := fresh2 hx3.le hF3.out hat4; clear tok4 hat4)))
            exact sub_tail (es := []) (q := 0) (HR0.out h8 hkl) hrow hE1 hx4 hown1 hown4 hF1.out hF4.out (Nat.le_refl _)
end Go.Proofs.YtpbblaeamddbgaaGreat
namespace Go.Proofs.YtpbblaeamddbgaaGreat
open Go.RowKit

theorem osl_cds {w : World} {T : Nat} {ao : Option Addr} {cap : Nat} {l : List Cd} (h : OSl w T 6 ao l.length cap (l.flatMap Cd.cells)) (hp : 0 < l.length) : ∃ b, ao = some ⟨b, 0, none⟩ ∧ Cds w b 0 l := by
  obtain ⟨g, rfl, _⟩ := h.at (flat_at Cd.cells 6 (fun _ => rfl) l 0 0 hp (by omega))
  refine ⟨g, rfl, fun j hj => ?_⟩
  have key : ∀ r, r < 6 → ∀ v, (Cd.cells l[j])[r]? = some v → w.cell? ⟨g, 0 + j * 6 + r, none⟩ = some v := by
    intro r hr v hv
    rw [← flat_at Cd.cells 6 (fun _ => rfl) l j r hj hr] at hv
    obtain ⟨g', e, hc⟩ := h.at hv
    cases e
    rw [Nat.zero_add]; exact hc
  exact ⟨key 0 (by omega) _ rfl, key 1 (by omega) _ rfl, key 2 (by omega) _ rfl, key 3 (by omega) _ rfl, key 4 (by omega) _ rfl, key 5 (by omega) _ rfl⟩
theorem Kp.one {rb : Nat} {F : Nat → Prop} {w w' : World} (h : Kp (fun b => b = rb) w w') (hF : F rb) : Kp F w w' := h.mono (fun k _ e => by subst e; exact hF)
theorem thereB_yes {flt : List (Int × List Cd)} {id : Int} {q : Nat} (hq : q < flt.length) (h : flt[q].1 = id) : thereB flt id q = true := by
  simp [thereB, hq, h]
theorem thereB_no {flt : List (Int × List Cd)} {id : Int} {q : Nat} (h : ∀ hq : q < flt.length, ¬ flt[q].1 = id) : thereB flt id q = false := by
  unfold thereB
  by_cases hq : q < flt.length
  · simp [hq, h hq]
  · rw [List.getElem?_eq_none (by omega)]

theorem rSub_any (rb : Nat) (F : Nat → Prop) (sch : List Int) (flt : List (Int × List Cd)) (id : Int) (ao : Option Addr) (cap : Nat) (l : List Cd) (w : World) (hn : sch.length ≤ 6) (hf : flt.length ≤ 100) (hl : l.length * 64 ≤ 140737488351232)
    (hR : RefAt w rb F sch flt) (hc : Cxs w ao l) (hcn : ao = none → l.length = 0 ∧ cap = 0) (q k : Nat) (hq : PosOf flt id q) (hk : BadOf sch l k) :
    Calls Tryz.prog 67 #[.pointer (some ⟨rb, 0, none⟩), .int .i64 id, .slice ao l.length cap] w fun e w' => e = .returned (.tuple #[.int .i64 (subErr flt id l q k), .int .i64 (subPlace flt id l q k)]) ∧ Kp F w w' ∧ RefAt w' rb (Grow F w w') sch (subFlt flt id l q k) := by
  have hR0 := hR
  have grow : ∀ w', Ext w w' → Kp F w w' ∧ RefAt w' rb (Grow F w w') sch flt := fun w' hE => ⟨hE.kp _, (hR0.kp (hE.kp (fun _ => False)) (fun _ _ h => h)).mono (fun b hb => Or.inl hb)⟩
  by_cases hid : id < 0
  · refine (rSub_neg rb id ao l.length cap w hid).mono ?_
    rintro e w' ⟨rfl, rfl⟩
    have e2 : subErr flt id l q k = 2 := by simp [subErr, hid]
    obtain ⟨g1, g2⟩ := grow w' (Ext.refl _)
    refine ⟨by simp [subPlace, e2], g1, ?_⟩
    have : subFlt flt id l q k = flt := by simp [subFlt, e2]
    rw [this]; exact g2
  obtain ⟨hFr, sb, sc, fa, fcap, ev, es, hes, hrow, hFs, hsn, hI, hO, hFa, hEs⟩ := hR
  obtain ⟨hkl, hky⟩ := key_at hes
  have mk : ∀ c, c ≠ 0 → c ≠ 5 → subErr flt id l q k = c → ∀ w', Ext w w' → (Ending.returned (.tuple #[.int .i64 c, .int .i64 0]) = .returned (.tuple #[.int .i64 (subErr flt id l q k), .int .i64 (subPlace flt id l q k)]) ∧ Kp F w w' ∧ RefAt w' rb (Grow F w w') sch (subFlt flt id l q k)) := by
    intro c h0 h5 hc w' hE
    obtain ⟨g1, g2⟩ := grow w' hE
    have e1 : subFlt flt id l q k = flt := by simp [subFlt, hc, h0]
    have e2 : subPlace flt id l q k = 0 := by simp [subPlace, hc, h5]
    rw [e1, e2, hc]
    exact ⟨rfl, g1, g2⟩
  have mk5 : subErr flt id l q k = 5 → ∀ w', Ext w w' → (Ending.returned (.tuple #[.int .i64 5, .int .i64 k]) = .returned (.tuple #[.int .i64 (subErr flt id l q k), .int .i64 (subPlace flt id l q k)]) ∧ Kp F w w' ∧ RefAt w' rb (Grow F w w') sch (subFlt flt id l q k)) := by
    intro hc w' hE
    obtain ⟨g1, g2⟩ := grow w' hE
    have e1 : subFlt flt id l q k = flt := by simp [subFlt, hc]
    have e2 : subPlace flt id l q k = k := by simp [subPlace, hc]
    rw [e1, e2, hc]
    exact ⟨rfl, g1, g2⟩
  have mk0 : subErr flt id l q k = 0 → SubDone rb sch sb sc ev es id l q w (fun e w' => e = .returned (.tuple #[.int .i64 (subErr flt id l q k), .int .i64 (subPlace flt id l q k)]) ∧ Kp F w w' ∧ RefAt w' rb (Grow F w w') sch (subFlt flt id l q k)) := by
    intro hc w' ao1 cap1 fa' fcap' hK hrow' hown' hnew hown1 hnew1
    have hrl := hrow.lt
    have e1 : subFlt flt id l q k = flt.take q ++ (id, l) :: flt.drop q := by simp [subFlt, hc]
    have e2 : subPlace flt id l q k = 0 := by simp [subPlace, hc]
    rw [e1, e2, hc]
    refine ⟨rfl, hK.one hFr, Or.inl hFr, sb, sc, fa', fcap', ev, es.take q ++ ⟨id, l, ao1, cap1⟩ :: es.drop q, ?_, ?_, Or.inl hFs, hsn, hI.kp hK hsn, ?_, ?_, ?_⟩
    · rw [← hes]; simp [Ent.key, List.map_take, List.map_drop]
    · have el : (es.take q ++ (⟨id, l, ao1, cap1⟩ : Ent) :: es.drop q).length = es.length + 1 := by
        have := hq.1; simp; omega
      rw [el]; exact hrow'
    · have el : (es.take q ++ (⟨id, l, ao1, cap1⟩ : Ent) :: es.drop q).length = es.length + 1 := by
        have := hq.1; simp; omega
      rw [el]; exact hown'
    · intro g hg
      have := hnew g hg
      exact ⟨Or.inr ⟨this, hown'.lt hg⟩, by omega⟩
    · have old : ∀ e ∈ es, EntOK w' (Grow F w w') (fun b => b = rb) e := fun e he => ((hEs e he).kp hK (fun b _ hb => hb)).mono (fun b h1 h2 _ => ⟨Or.inl h1, h2⟩)
      intro e he
      rcases List.mem_append.1 he with h | h
      · exact old e (List.mem_of_mem_take h)
      · rcases List.mem_cons.1 h with rfl | h
        · intro hp
          obtain ⟨b, hb, hC⟩ := osl_cds hown1 hp
          have := hnew1 b (by rw [hb]; rfl)
          exact ⟨b, hb, hC, Or.inr ⟨this, World.block_lt_of_cell? w' _ (hC 0 hp).1⟩, by omega⟩
        · exact old e (List.mem_of_mem_drop h)
  by_cases hfa : fa = none
  · subst hfa
    rcases hO.form with ⟨_, h0, hc0, _⟩ | ⟨_, _, h, _⟩
    · obtain rfl : es = [] := List.eq_nil_of_length_eq_zero h0
      subst hc0
      have hf0 : flt = [] := by rw [← hes]; rfl
      have hq0 : q = 0 := by have := hq.1; rw [hf0] at this; simpa using this
      have hth : thereB flt id q = false := by rw [hf0]; simp [thereB]
      subst hq0
      refine rSub_nil rb sch sb sc ev id ao cap l w hn hl hid hrow hI hO hc hcn k hk _ ?_ ?_ ?_
      · intro h8; exact mk 4 (by decide) (by decide) (by simp [subErr, hid, hth, h8]) w (Ext.refl _)
      · intro h8 hk5 w' hE; exact mk5 (by simp [subErr, hid, hth, h8, hk5]) w' hE
      · intro h8 hk5; exact mk0 (by rw [hf0] at hth ⊢; simp [subErr, hid, hth, h8, hk5])
    · cases h
  · refine rSub_core rb sch sb sc fa fcap ev es id ao cap l w hn (by omega) hl hid hrow hI hO hc hcn q k hfa (by have := hq.1; omega) ?_ ?_ hk _ ?_ ?_ ?_ ?_ ?_
    · intro j hj hjq
      have := hq.2.1 j (by omega) hjq
      rw [hky j hj] at this; exact this
    · intro hq'
      have := hq.2.2 (by omega)
      rw [hky q hq'] at this; exact this
    · intro hq' he
      have hqf : q < flt.length := by omega
      have hth : thereB flt id q = true := thereB_yes hqf (by rw [hky q hq' hqf]; exact he)
      exact mk 3 (by decide) (by decide) (by simp [subErr, hid, hth]) w (Ext.refl _)
    all_goals
      intro hne
      have hth : thereB flt id q = false := thereB_no (fun hq' => by rw [hky q (by omega)]; exact hne (by omega))
    · intro h8; exact mk 4 (by decide) (by decide) (by simp [subErr, hid, hth, h8]) w (Ext.refl _)
    · intro h8 hk5 w' hE; exact mk5 (by simp [subErr, hid, hth, h8, hk5]) w' hE
    · intro h8 hk5 h100 w' hE; exact mk 6 (by decide) (by decide) (by simp [subErr, hid, hth, h8, hk5]; omega) w' hE
    · intro h8 hk5 h100; exact mk0 (by simp [subErr, hid, hth, h8, hk5]; omega)
end Go.Proofs.YtpbblaeamddbgaaGreat
namespace Go.Proofs.YtpbblaeamddbgaaGreat
open Go.RowKit

def UnDone (rb : Nat) (sch : List Int) (sb sc : Nat) (ev : Int) (es : List Ent) (q : Nat) (w : World) (R : Ending → World → Prop) : Prop :=
  ∀ (w' : World) (fa' : Option Addr) (fcap' : Nat), Kp (fun b => b = rb) w w' → Row w' rb 148 [.slice (some ⟨sb, 0, none⟩) sch.length sc, .slice fa' (es.length - 1) fcap', .int .i64 ev] →
    OSl w' 219 2 fa' (es.length - 1) fcap' ((es.take q ++ es.drop (q + 1)).flatMap Ent.cells) → (∀ g, blkOf fa' = some g → w.heap.size ≤ g) → R (.returned (.int .i64 0)) w'

theorem un_tail {rb : Nat} {sch : List Int} {sb sc : Nat} {ev : Int} {es : List Ent} {q : Nat} {w w4 : World} {R : Ending → World → Prop} {ao4 : Option Addr} {cap4 fcap : Nat} {fa : Option Addr} (h : UnDone rb sch sb sc ev es q w R)
    (hrow : Row w rb 148 [.slice (some ⟨sb, 0, none⟩) sch.length sc, .slice fa es.length fcap, .int .i64 ev]) (hE4 : Ext w w4)
    (hown4 : OSl w4 219 2 ao4 (q + (es.length - (q + 1))) cap4 ((es.take q).flatMap Ent.cells ++ (es.drop (q + 1)).flatMap Ent.cells)) (hF4 : ∀ g, blkOf ao4 = some g → w.heap.size ≤ g) (hq : q < es.length) :
    R (.returned (.int .i64 0)) (w4.setCell ⟨rb, 1, none⟩ (.slice ao4 (q + (es.length - (q + 1))) cap4)) := by
  have e : q + (es.length - (q + 1)) = es.length - 1 := by omega
  have hrl := hrow.lt
  have hK : Kp (fun b => b = rb) w4 (w4.setCell ⟨rb, 1, none⟩ (.slice ao4 (q + (es.length - (q + 1))) cap4)) := (Kp.refl (fun b => b = rb) _).setCell (fun _ => rfl) _
  refine h _ ao4 cap4 ((hE4.kp _).trans hK) ?_ ?_ hF4
  · have := (hrow.ext hE4).set 1 (.slice ao4 (q + (es.length - (q + 1))) cap4)
    rw [e] at this ⊢
    simpa using this
  · have h4 := hown4.kp hK (fun g hg => by have := hF4 g hg; omega)
    rw [List.flatMap_append]
    rw [e] at h4 ⊢
    exact h4

set_option maxHeartbeats 3200000 in
set_option maxRecDepth 100000 in
theorem rUn_core (rb : Nat) (sch : List Int) (sb sc : Nat) (fa : Option Addr) (fcap : Nat) (ev : Int) (es : List Ent) (id : Int) (w : World) (hf : es.length ≤ 100)
    (hrow : Row w rb 148 [.slice (some ⟨sb, 0, none⟩) sch.length sc, .slice fa es.length fcap, .int .i64 ev]) (HO : OSl w 219 2 fa es.length fcap (es.flatMap Ent.cells))
    (q : Nat) (hq1 : q ≤ es.length) (hq2 : ∀ j (hj : j < es.length), j < q → ¬ es[j].id = id) (hq3 : ∀ hq : q < es.length, es[q].id = id) (R : Ending → World → Prop)
    (R7 : q = es.length → R (.returned (.int .i64 7)) w) (R0 : q < es.length → UnDone rb sch sb sc ev es q w R) :
    Calls Tryz.prog 74 #[.pointer (some ⟨rb, 0, none⟩), .int .i64 id] w R := by
  have r1 := hrow.at (j := 1) rfl
  have HQ2 : Hid (∀ j (hj : j < es.length), j < q → ¬ es[j].id = id) := hq2
  have HQ3 : Hid (∀ hq : q < es.length, es[q].id = id) := hq3
  have HR7 : Hid _ := R7
  have HR0 : Hid _ := R0
  clear R7 R0 hq2 hq3
  go_enter Tryz.func74, Tryz.ntmps74
  go_wp2
  go_loop [5] (fun i => ∃ j : Nat, j ≤ q ∧ i = .int .i64 j) (fun i => es.length - (intOf i).toNat)
  case atStart => exact ⟨0, Nat.zero_le _, rfl⟩
  case round =>
    obtain ⟨j, hj, rfl⟩ := hrel
    by_cases hjl : j < es.length
    · obtain ⟨fb, rfl, e0⟩ := HO.at (ent_at es j hjl).1
      have hcp : es.length ≤ fcap := by rcases HO.form with ⟨h, _⟩ | ⟨_, _, _, _, h, _⟩; cases h; exact h
      by_cases hjq : j < q
      · have hne : (es[j].id == id) = false := by simpa using HQ2.out j hjl hjq
        generalize es[j].id = ej at *
        go_wp2
        go_round
        case rel => exact ⟨j + 1, by omega, by go_num⟩
        case measure => simp [intOf]; omega
      · obtain rfl : j = q := by omega
        have hne : (es[j].id == id) = true := by simpa using HQ3.out hjl
        generalize es[j].id = ej at *
        have tok2 : True := trivial
        have tok4 : True := trivial
        have hE1 := Ext.refl w
        go_wp2_with (first
          | (at_builtin; have _t := tok2; go_must (refine wpList_app rfl (.tmp 26) (.tmp 32) 146 rfl 219 (.agg #[.int .i64 0, .slice none 0 0]) 2 32 Tryz.underlying146 Tryz.infoFlt rfl (by decide) none 0 0 [] rfl (OSl.nil _ _ _) _ j _ ((es.take j).flatMap Ent.cells) rfl (by intro h; cases h) (by rw [ent_len]; simp; omega) (osl_take HO j hq1) (ent_one _) (by unfold maxLen; omega) (by omega) ?_; intro ao2 cap2 w2 hown2 hk2 hat2; simp only [Nat.zero_add, List.nil_append] at hown2; have hE2 : Ext w w2 := hk2.ext (fun _ _ h => by cases h); have q2 := hE2.cell r1; have hF2 : Hid (∀ g, blkOf ao2 = some g → w.heap.size ≤ g) := fresh1 (Nat.le_refl _) hat2; clear hk2 tok2 hat2))
          | (at_builtin; have _t := tok4; go_must (refine wpList_app rfl (.tmp 35) (.tmp 42) 146 rfl 219 (.agg #[.int .i64 0, .slice none 0 0]) 2 32 Tryz.underlying146 Tryz.infoFlt rfl (by decide) ao2 j cap2 _ rfl hown2 _ (es.length - (j + 1)) _ ((es.drop (j + 1)).flatMap Ent.cells) rfl (by intro h; first | cases h | (split at h <;> cases h)) (by rw [ent_len]; simp) (fun hp => ⟨_, by first | rfl | (rw [if_neg (by omega)]), osl_drop (HO.ext hE2) (j + 1)⟩) (ent_one _) (by unfold maxLen; omega) (by omega) ?_; intro ao4 cap4 w4 hown4 hk4 hat4; have hE4 : Ext w w4 := hE2.kpNew hk4 hF2.out; have q4 := hE4.cell r1; have z4 := (hrow.ext hE4).frozen 1; have hF4 : Hid (∀ g, blkOf ao4 = some g → w.heap.size ≤ g) := fresh2 hE2.le hF2.out hat4; clear tok4 hat4)))
        all_goals exact un_tail (HR0.out hjl) hrow hE4 hown4 hF4.out hjl
    · obtain rfl : j = q := by omega
      have HRR : Hid _ := HR7.out (by omega)
      go_wp2
      exact HRR.out

/-- The numbers rise. -/
def SortedF (flt : List (Int × List Cd)) : Prop := ∀ i j (hi : i < flt.length) (hj : j < flt.length), i < j → flt[i].1 < flt[j].1
def unErr (flt : List (Int × List Cd)) (id : Int) (q : Nat) : Int := if thereB flt id q then 0 else 7
def unFlt (flt : List (Int × List Cd)) (id : Int) (q : Nat) : List (Int × List Cd) := if thereB flt id q then flt.take q ++ flt.drop (q + 1) else flt
theorem there_iff {flt : List (Int × List Cd)} {id : Int} {q : Nat} : thereB flt id q = true ↔ ∃ hq : q < flt.length, flt[q].1 = id := by
  constructor
  · intro h
    by_cases hq : q < flt.length
    · refine ⟨hq, ?_⟩
      simpa [thereB, hq] using h
    · unfold thereB at h
      rw [List.getElem?_eq_none (by omega)] at h; cases h
  · rintro ⟨hq, h⟩; exact thereB_yes hq h

theorem rUn_any (rb : Nat) (F : Nat → Prop) (sch : List Int) (flt : List (Int × List Cd)) (id : Int) (w : World) (hf : flt.length ≤ 100) (hS : SortedF flt)
    (hR : RefAt w rb F sch flt) (q : Nat) (hq : PosOf flt id q) :
    Calls Tryz.prog 74 #[.pointer (some ⟨rb, 0, none⟩), .int .i64 id] w fun e w' => e = .returned (.int .i64 (unErr flt id q)) ∧ Kp F w w' ∧ RefAt w' rb (Grow F w w') sch (unFlt flt id q) := by
  have hR0 := hR
  obtain ⟨hFr, sb, sc, fa, fcap, ev, es, hes, hrow, hFs, hsn, hI, hO, hFa, hEs⟩ := hR
  obtain ⟨hkl, hky⟩ := key_at hes
  cases hth : thereB flt id q with
  | true =>
    obtain ⟨hqf, hid⟩ := there_iff.1 hth
    have e1 : unErr flt id q = 0 := by simp [unErr, hth]
    have e2 : unFlt flt id q = flt.take q ++ flt.drop (q + 1) := by simp [unFlt, hth]
    rw [e1, e2]
    refine rUn_core rb sch sb sc fa fcap ev es id w (by omega) hrow hO q (by omega) ?_ ?_ _ ?_ ?_
    · intro j hj hjq
      have := hq.2.1 j (by omega) hjq
      rw [hky j hj (by omega)] at this
      simp only at this; omega
    · intro hq'
      rw [hky q hq' hqf] at hid; exact hid
    · intro h; omega
    · intro hqe w' fa' fcap' hK hrow' hown' hnew
      have hrl := hrow.lt
      have el : (es.take q ++ es.drop (q + 1)).length = es.length - 1 := by simp; omega
      refine ⟨rfl, hK.one hFr, Or.inl hFr, sb, sc, fa', fcap', ev, es.take q ++ es.drop (q + 1), ?_, ?_, Or.inl hFs, hsn, hI.kp hK hsn, ?_, ?_, ?_⟩
      · rw [← hes]; simp [List.map_take, List.map_drop]
      · rw [el]; exact hrow'
      · rw [el]; exact hown'
      · intro g hg
        have := hnew g hg
        exact ⟨Or.inr ⟨this, hown'.lt hg⟩, by omega⟩
      · intro e he
        have hme : e ∈ es := by
          rcases List.mem_append.1 he with h | h
          · exact List.mem_of_mem_take h
          · exact List.mem_of_mem_drop h
        exact ((hEs e hme).kp hK (fun b _ hb => hb)).mono (fun b h1 h2 _ => ⟨Or.inl h1, h2⟩)
  | false =>
    have e1 : unErr flt id q = 7 := by simp [unErr, hth]
    have e2 : unFlt flt id q = flt := by simp [unFlt, hth]
    rw [e1, e2]
    have hne : ∀ j (hj : j < flt.length), ¬ flt[j].1 = id := by
      intro j hj he
      rcases Nat.lt_trichotomy j q with h | h | h
      · have := hq.2.1 j hj h; omega
      · subst h
        rw [there_iff.2 ⟨hj, he⟩] at hth; cases hth
      · have hqf : q < flt.length := by omega
        have h1 := hq.2.2 hqf
        have h2 := hS q j hqf hj h
        have h3 : ¬ flt[q].1 = id := fun e => by rw [there_iff.2 ⟨hqf, e⟩] at hth; cases hth
        omega
    refine rUn_core rb sch sb sc fa fcap ev es id w (by omega) hrow hO es.length (Nat.le_refl _) ?_ ?_ _ ?_ ?_
    · intro j hj _
      have := hne j (by omega)
      rw [hky j hj (by omega)] at this; exact this
    · intro h; omega
    · intro _
      exact ⟨rfl, Kp.refl _ _, hR0.mono (fun b hb => Or.inl hb)⟩
    · intro h; omega
end Go.Proofs.YtpbblaeamddbgaaGreat
namespace Go.Proofs.YtpbblaeamddbgaaGreat
open Go.RowKit

/-- Whose filters an event meets. -/
def metIds (flt : List (Int × List Cd)) (f : Int → Option Vl) : List Int := (flt.filter (fun e => meetsB e.2 f)).map (·.1)
theorem met_succ (flt : List (Int × List Cd)) (f : Int → Option Vl) (k : Nat) (hk : k < flt.length) : metIds (flt.take (k + 1)) f = if meetsB flt[k].2 f then metIds (flt.take k) f ++ [flt[k].1] else metIds (flt.take k) f := by
  unfold metIds
  rw [List.take_succ_eq_append_getElem hk, List.filter_append, List.map_append]
  cases h : meetsB flt[k].2 f <;> simp [h]
theorem met_le (flt : List (Int × List Cd)) (f : Int → Option Vl) (k : Nat) : (metIds (flt.take k) f).length ≤ k := by
  unfold metIds
  rw [List.length_map]
  exact Nat.le_trans (List.length_filter_le _ _) (List.length_take_le _ _)
theorem fds_of_bad {sch : List Int} {ev : List Fd} (h : FirstBad sch ev ev.length) (hz : ∀ j (hj : j < ev.length), ev[j].v.s.size ≤ 9223372036854775807) : FdsOK ev := by
  intro j hj
  refine ⟨hz j hj, ?_⟩
  have := h.2.1 j hj hj
  simp only [fieldOK, Bool.and_eq_true] at this
  exact this.2.2
/-- Filters that can be asked. -/
def FltOK (flt : List (Int × List Cd)) : Prop := ∀ k (hk : k < flt.length), CdsOK flt[k].2 ∧ flt[k].2.length ≤ 8

theorem rmeets_is (ao : Option Addr) (cap : Nat) (l : List Cd) (bo : Option Addr) (ecap : Nat) (ev : List Fd) (w : World) (hl : l.length ≤ 8) (he : ev.length * 32 ≤ 140737488351232) (hc : Cxs w ao l) (hf : Fxs w bo ev) (hC : CdsOK l) (hU : FdsOK ev) (r : Bool) (hr : meetsB l (fo ev) = r) :
    Calls Tryz.prog 119 #[.slice ao l.length cap, .slice bo ev.length ecap] w fun e w' => e = .returned (.bool r) ∧ Ext w w' := by
  subst hr; exact rmeets_any ao cap l bo ecap ev w hl he hc hf hC hU
theorem one_new (w : World) (T : TypeId) (x : Value) : ∀ j u, [x][j]? = some u → (w.alloc (.cells #[x] T)).cell? ((⟨w.heap.size, 0, none⟩ : Addr).add j) = some u := by
  intro j u hj
  rw [add_lt]
  exact cell_new w _ T _ j rfl (by simpa using hj)

set_option maxHeartbeats 3200000 in
set_option maxRecDepth 100000 in
theorem rMatch_bad (rb b cap : Nat) (sch : List Int) (ao : Option Addr) (lcap : Nat) (ev : List Fd) (w : World) (hn : sch.length ≤ 6) (hl : ev.length * 32 ≤ 140737488351232) (hr : w.cell? ⟨rb, 0, none⟩ = some (.slice (some ⟨b, 0, none⟩) sch.length cap)) (hs : Ints w b 0 sch) (hf : Fxs w ao ev)
    (q : Nat) (hq : FirstBad sch ev q) (hql : q < ev.length) :
    Calls Tryz.prog 70 #[.pointer (some ⟨rb, 0, none⟩), .slice ao ev.length lcap] w fun e w' => e = .returned (.tuple #[.slice none 0 0, .int .i64 8, .int .i64 q]) ∧ Ext w w' := by
  have hp : placeOf ev q = (q : Int) := by simp [placeOf, hql]
  have hc : Hid _ := rEvent_any rb b 0 cap sch ao lcap ev w hn hl hr hs hf q hq
  rw [hp] at hc
  clear hp
  go_enter Tryz.func70, Tryz.ntmps70
  go_wp2_with fail
  refine Calls.mono hc.out ?_
  rintro e w1 ⟨rfl, hE⟩
  go_wp2
  go_ret3
  exact ⟨rfl, hE⟩

set_option maxHeartbeats 3200000 in
set_option maxRecDepth 100000 in
theorem rMatch_ok (rb b cap : Nat) (sch : List Int) (fa : Option Addr) (fcap : Nat) (evn : Int) (es : List Ent) (flt : List (Int × List Cd)) (F : Nat → Prop) (ao : Option Addr) (lcap : Nat) (ev : List Fd) (w : World) (hn : sch.length ≤ 6) (hl : ev.length * 32 ≤ 140737488351232) (hfl : es.length ≤ 100)
    (hes : es.map Ent.key = flt) (hrow : Row w rb 148 [.slice (some ⟨b, 0, none⟩) sch.length cap, .slice fa es.length fcap, .int .i64 evn]) (hs : Ints w b 0 sch) (hO : OSl w 219 2 fa es.length fcap (es.flatMap Ent.cells)) (hFa : ∀ g, blkOf fa = some g → g ≠ rb)
    (hEs : ∀ e ∈ es, EntOK w F (fun b => b = rb) e) (hfx : Fxs w ao ev) (hfx' : ∀ g, blkOf ao = some g → 0 < ev.length → g ≠ rb) (hq : FirstBad sch ev ev.length) (hU : FdsOK ev) (hG : FltOK flt) :
    Calls Tryz.prog 70 #[.pointer (some ⟨rb, 0, none⟩), .slice ao ev.length lcap] w fun e w' => ∃ ro rcap evn', e = .returned (.tuple #[.slice ro (metIds flt (fo ev)).length rcap, .int .i64 0, .int .i64 0]) ∧ OSl w' 3 1 ro (metIds flt (fo ev)).length rcap ((metIds flt (fo ev)).map (Value.int .i64))
      ∧ (∀ g, blkOf ro = some g → w.heap.size ≤ g) ∧ Kp (fun k => k = rb) w w' ∧ Row w' rb 148 [.slice (some ⟨b, 0, none⟩) sch.length cap, .slice fa es.length fcap, .int .i64 evn'] := by
  have hp : placeOf ev ev.length = -1 := by simp [placeOf]
  have hc : Hid _ := rEvent_any rb b 0 cap sch ao lcap ev w hn hl (hrow.at (j := 0) rfl) hs hfx ev.length hq
  rw [hp] at hc
  clear hp
  obtain ⟨hkl, hky⟩ := key_at hes
  have HKY : Hid (∀ k (hk : k < es.length) (hk' : k < flt.length), flt[k] = (es[k].id, es[k].l)) := hky
  have HKL : Hid (flt.length = es.length) := hkl
  have HES : Hid (∀ e ∈ es, EntOK w F (fun b => b = rb) e) := hEs
  have HU : Hid (FdsOK ev) := hU
  have HG : Hid (FltOK flt) := hG
  clear hky hkl hes hEs hU hG
  go_enter Tryz.func70, Tryz.ntmps70
  go_wp2_with fail
  refine Calls.mono hc.out ?_
  rintro e w1 ⟨rfl, hE⟩
  have hr1 := hrow.ext hE
  have a1 := hr1.at (j := 1) rfl
  have a2 := hr1.at (j := 2) rfl
  have af := hr1.frozen
  clear hc
  go_wp2
  have hK0 : Kp (fun k => k = rb) w (w1.setCell ⟨rb, 2, none⟩ (.int .i64 (wrap64 (evn + 1)))) := (hE.kp (fun k => k = rb)).setCell (fun _ => rfl) _
  have hr2 := hr1.set 2 (.int .i64 (wrap64 (evn + 1)))
  generalize w1.setCell ⟨rb, 2, none⟩ (.int .i64 (wrap64 (evn + 1))) = W1 at *
  simp only [List.set] at hr2
  generalize wrap64 (evn + 1) = en at *
  have hO1 := hO.kp hK0 (fun g hg => hFa g hg)
  have hE1 : Hid (∀ e ∈ es, EntOK W1 F (fun b => b = rb) e) := fun e he => (HES.out e he).kp hK0 (fun b _ hb => hb)
  have hf1 : Fxs W1 ao ev := fun hp => by
    obtain ⟨fb, fo', rfl, hF⟩ := hfx hp
    have hne : ¬ fb = rb := hfx' fb rfl hp
    exact ⟨fb, fo', rfl, fun j hj => ⟨hK0.cell (hF j hj).1 hne, hK0.cell (hF j hj).2.1 hne, hK0.cell (hF j hj).2.2 hne⟩⟩
  have hWle := hK0.size
  clear hE hr1 a1 a2 af hO hfx HES hs hrow
  go_loopw [8, 9] (fun v i wr => ∃ (ro : Option Addr) (rcap : Nat) (k : Nat), k ≤ es.length ∧ i = .int .i64 k ∧ v = .slice ro (metIds (flt.take k) (fo ev)).length rcap ∧ OSl wr 3 1 ro (metIds (flt.take k) (fo ev)).length rcap ((metIds (flt.take k) (fo ev)).map (Value.int .i64)) ∧ (∀ g, blkOf ro = some g → W1.heap.size ≤ g) ∧ Ext W1 wr) (fun _ i _ => es.length - (intOf i).toNat)
  case atStart => exact ⟨none, 0, 0, Nat.zero_le _, rfl, rfl, OSl.nil _ _ _, (fun g hg => by cases hg), Ext.refl _⟩
  case round =>
    obtain ⟨ro, rcap, k, hk, rfl, rfl, hown, hnew, hEr⟩ := hrel
    have HN : Hid (∀ g, blkOf ro = some g → W1.heap.size ≤ g) := hnew
    have hml := met_le flt (fo ev) k
    have b1 := (hr2.ext hEr).at (j := 1) rfl
    clear hnew
    by_cases hlt : k < es.length
    · have hkf : k < flt.length := by rw [HKL.out]; exact hlt
      have hms : Hid _ := met_succ flt (fo ev) k hkf
      have hkk : Hid (flt[k] = (es[k].id, es[k].l)) := HKY.out k hlt hkf
      have hok := HG.out k hkf
      rw [hkk.out] at hms hok
      obtain ⟨fb, rfl, e0⟩ := hO1.at (ent_at es k hlt).1
      obtain ⟨fb', efb, e1⟩ := hO1.at (ent_at es k hlt).2
      cases efb
      have d0 := hEr.cell e0
      have d1 := hEr.cell e1
      have hent := hE1.out es[k] (List.getElem_mem hlt)
      have hcx : Cxs wr es[k].ao es[k].l := (hent.cxs).ext hEr
      have hfr := hf1.ext hEr
      clear e0 e1 hO1 hf1 hent
      generalize es[k] = en0 at *
      obtain ⟨eid, el, eao, ecap⟩ := en0
      simp only at d0 d1 hcx hms hok
      go_wp2_with fail
      cases hB : meetsB el (fo ev) with
      | false =>
        have hms2 : Hid (metIds (flt.take (k + 1)) (fo ev) = metIds (flt.take k) (fo ev)) := by show _ = _; rw [hms.out, hB]; rfl
        refine (rmeets_is eao ecap el ao lcap ev wr hok.2 hl hcx hfr hok.1 HU.out false hB).mono ?_
        rintro e w2 ⟨rfl, hE2⟩
        clear hcx hfr d0 d1 hms hB
        generalize metIds (flt.take k) (fo ev) = mi at *
        go_wp2
        go_roundw
        case rel => exact ⟨ro, rcap, k + 1, by omega, by go_num, by rw [hms2.out], by rw [hms2.out]; exact hown.ext hE2, HN.out, hEr.trans hE2⟩
        case measure => simp [intOf]; omega
      | true =>
        have hms2 : Hid (metIds (flt.take (k + 1)) (fo ev) = metIds (flt.take k) (fo ev) ++ [eid]) := by show _ = _; rw [hms.out, hB]; rfl
        refine (rmeets_is eao ecap el ao lcap ev wr hok.2 hl hcx hfr hok.1 HU.out true hB).mono ?_
        rintro e w2 ⟨rfl, hE2⟩
        have f0 := hE2.cell d0
        have f1 := hE2.cell b1
        have hown2 := hown.ext hE2
        have hEr2 := hEr.trans hE2
        clear hcx hfr d0 d1 hms hB hown b1
        generalize metIds (flt.take k) (fo ev) = mi at *
        go_wp2_with (at_builtin; go_must (refine wpList_app rfl (.tmp 44) (.tmp 53) 25 rfl 3 (.int .i64 0) 1 8 Tryz.underlying25 Tryz.infoInt rfl (by decide) ro mi.length rcap _ rfl (OSl.ext hown2 ((Ext.refl _).alloc _)) (some ⟨w2.heap.size, 0, none⟩) 1 1 [.int .i64 eid] rfl (by intro h; cases h) rfl (fun _ => ⟨_, rfl, one_new _ _ _⟩) (by intro u hu; simp at hu; subst hu; rfl) (by unfold maxLen; omega) (by omega) ?_; intro ro3 rcap3 w3 hown3 hk3 hat3))
        go_roundw
        case rel =>
          refine ⟨ro3, rcap3, k + 1, by omega, by go_num, by rw [hms2.out]; simp, ?_, fresh2 ((hEr2.alloc _).le) HN.out hat3, (hEr2.alloc _).kpNew hk3 HN.out⟩
          rw [hms2.out]
          simpa using hown3
        case measure => simp [intOf]; omega
    · have hfin : Hid (metIds (flt.take k) (fo ev) = metIds flt (fo ev)) := by show _ = _; rw [List.take_of_length_le (by rw [HKL.out]; omega)]
      rw [hfin.out] at hown hml ⊢
      clear hO1 hf1
      go_wp2
      go_ret3
      exact ⟨ro, rcap, en, rfl, hown, fun g hg => Nat.le_trans hWle (HN.out g hg), hK0.trans (hEr.kp _), hr2.ext hEr⟩

/-- What Match answers: the numbers, the error, the place. -/
def maIds (flt : List (Int × List Cd)) (ev : List Fd) (q : Nat) : List Int := if q < ev.length then [] else metIds flt (fo ev)
def maErr (ev : List Fd) (q : Nat) : Int := if q < ev.length then 8 else 0
def maPlace (ev : List Fd) (q : Nat) : Int := if q < ev.length then (q : Int) else 0

theorem rMatch_any (rb : Nat) (F : Nat → Prop) (sch : List Int) (flt : List (Int × List Cd)) (ao : Option Addr) (lcap : Nat) (ev : List Fd) (w : World) (hn : sch.length ≤ 6) (hl : ev.length * 32 ≤ 140737488351232) (hfl : flt.length ≤ 100)
    (hR : RefAt w rb F sch flt) (hfx : Fxs w ao ev) (hfx' : ∀ g, blkOf ao = some g → 0 < ev.length → ¬ F g) (q : Nat) (hq : FirstBad sch ev q) (hz : ∀ j (hj : j < ev.length), ev[j].v.s.size ≤ 9223372036854775807) (hG : FltOK flt) :
    Calls Tryz.prog 70 #[.pointer (some ⟨rb, 0, none⟩), .slice ao ev.length lcap] w fun e w' => ∃ ro rcap, e = .returned (.tuple #[.slice ro (maIds flt ev q).length rcap, .int .i64 (maErr ev q), .int .i64 (maPlace ev q)]) ∧ OSl w' 3 1 ro (maIds flt ev q).length rcap ((maIds flt ev q).map (Value.int .i64))
      ∧ (∀ g, blkOf ro = some g → w.heap.size ≤ g) ∧ Kp F w w' ∧ RefAt w' rb F sch flt := by
  have hR0 := hR
  obtain ⟨hFr, sb, sc, fa, fcap, evn, es, hes, hrow, hFs, hsn, hI, hO, hFa, hEs⟩ := hR
  by_cases hql : q < ev.length
  · have e1 : maIds flt ev q = [] := by simp [maIds, hql]
    have e2 : maErr ev q = 8 := by simp [maErr, hql]
    have e3 : maPlace ev q = q := by simp [maPlace, hql]
    rw [e1, e2, e3]
    refine (rMatch_bad rb sb sc sch ao lcap ev w hn hl (hrow.at (j := 0) rfl) hI hfx q hq hql).mono ?_
    rintro e w' ⟨rfl, hE⟩
    exact ⟨none, 0, rfl, OSl.nil _ _ _, (fun g hg => by cases hg), hE.kp _, hR0.kp (hE.kp (fun _ => False)) (fun _ _ h => h)⟩
  · have e1 : maIds flt ev q = metIds flt (fo ev) := by simp [maIds, hql]
    have e2 : maErr ev q = 0 := by simp [maErr, hql]
    have e3 : maPlace ev q = 0 := by simp [maPlace, hql]
    rw [e1, e2, e3]
    obtain rfl : q = ev.length := by have := hq.1; omega
    obtain ⟨hkl, _⟩ := key_at hes
    refine (rMatch_ok rb sb sc sch fa fcap evn es flt F ao lcap ev w hn hl (by omega) hes hrow hI hO (fun g hg => (hFa g hg).2) hEs hfx (fun g hg hp e => hfx' g hg hp (e ▸ hFr)) hq (fds_of_bad hq hz) hG).mono ?_
    rintro e w' ⟨ro, rcap, evn', rfl, hown, hnew, hK, hrow'⟩
    refine ⟨ro, rcap, rfl, hown, hnew, hK.one hFr, hFr, sb, sc, fa, fcap, evn', es, hes, hrow', hFs, hsn, hI.kp hK hsn, hO.kp hK (fun g hg => (hFa g hg).2), hFa, fun e he => (hEs e he).kp hK (fun b _ hb => hb)⟩
end Go.Proofs.YtpbblaeamddbgaaGreat
