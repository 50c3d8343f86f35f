import Derived.WalkKit
import Derived.Laws.CopyOwn
import Derived.Test.YtepioeaomlmocaaLaws
namespace Go.Proofs.Ytepioeaomlmocaa
open Go.RowKit

/-- A block of one's own, known whole. -/
def Row (w : World) (g : Nat) (T : TypeId) (l : List Value) : Prop := w.heap[g]? = some (.cells l.toArray T (0, 0))
theorem Row.lt {w : World} {g : Nat} {T : TypeId} {l : List Value} (h : Row w g T l) : g < w.heap.size := (Array.getElem?_eq_some_iff.1 h).1
theorem Row.cell {w : World} {g : Nat} {T : TypeId} {l : List Value} (h : Row w g T l) {j : Nat} (hj : j < l.length) : w.cell? ⟨g, j, none⟩ = some l[j] := by
  unfold Row at h
  simp [World.cell?, h, hj]
theorem Row.frozen {w : World} {g : Nat} {T : TypeId} {l : List Value} (h : Row w g T l) (j : Nat) : w.frozen? ⟨g, j, none⟩ = false := by
  unfold Row at h
  simp [World.frozen?, h]
theorem Row.set {w : World} {g : Nat} {T : TypeId} {l : List Value} (h : Row w g T l) (j : Nat) (v : Value) : Row (w.setCell ⟨g, j, none⟩ v) g T (l.set j v) := by
  unfold Row at h ⊢
  rw [setCell_eq_setRow w g j l.toArray T (0, 0) v h, setRow_heap w g _ _ T _ h]
  simp
theorem Row.ext {w w' : World} {g : Nat} {T : TypeId} {l : List Value} (h : Row w g T l) (e : Ext w w') : Row w' g T l := e.blk h
theorem Row.own {w : World} {base e size g n : Nat} {xs : List Value} (h : w.ownsRow base e size (.slice (some ⟨g, 0, none⟩) n n) n xs) : Row w g e xs := by
  obtain ⟨h1, h2 | ⟨g', cap, cur, hv, hb, hh, hc, hm, hs, ht⟩⟩ := h
  · simp at h2
  · simp only [Value.slice.injEq, Option.some.injEq, Addr.mk.injEq, and_true, true_and] at hv
    obtain ⟨rfl, rfl⟩ := hv
    unfold Row
    rw [hh]
    have : cur.toList.take (n * size) = cur.toList := List.take_of_length_le (by simp [hs])
    rw [this] at ht
    rw [← ht]

theorem Row.setOther {w : World} {g : Nat} {T : TypeId} {l : List Value} (h : Row w g T l) {p : Addr} (hp : p.block ≠ g) (v : Value) : Row (w.setCell p v) g T l := by
  unfold Row at h ⊢
  rw [Below.heap_setCell _ _ _ _ (fun e => hp e.symm)]; exact h

/-- All blocks but those of M are as they were. -/
structure Kp (M : Nat → Prop) (w w' : World) : Prop where
  os : w'.os = w.os
  tape : w'.tape = w.tape
  output : w'.output = w.output
  size : w.heap.size ≤ w'.heap.size
  block : ∀ k, k < w.heap.size → ¬ M k → w'.heap[k]? = w.heap[k]?
theorem Kp.refl (M : Nat → Prop) (w : World) : Kp M w w := ⟨rfl, rfl, rfl, Nat.le_refl _, fun _ _ _ => rfl⟩
theorem Kp.trans {M : Nat → Prop} {a b c : World} (h : Kp M a b) (k : Kp M b c) : Kp M a c :=
  ⟨k.os.trans h.os, k.tape.trans h.tape, k.output.trans h.output, Nat.le_trans h.size k.size, fun i hi hm => (k.block i (Nat.lt_of_lt_of_le hi h.size) hm).trans (h.block i hi hm)⟩
theorem Kp.mono {M N : Nat → Prop} {a b : World} (h : Kp M a b) (hm : ∀ k, k < a.heap.size → M k → N k) : Kp N a b :=
  ⟨h.os, h.tape, h.output, h.size, fun i hi hn => h.block i hi (fun hM => hn (hm i hi hM))⟩
theorem Ext.kp {a b : World} (h : Ext a b) (M : Nat → Prop) : Kp M a b := ⟨h.os, h.tape, h.output, h.size, fun i hi _ => h.block i hi⟩
theorem Kp.ext {a b : World} {M : Nat → Prop} (h : Kp M a b) (hm : ∀ k, k < a.heap.size → ¬ M k) : Ext a b := ⟨h.os, h.tape, h.output, h.size, fun i hi => h.block i hi (hm i hi)⟩
theorem Kp.setCell {M : Nat → Prop} {a b : World} (h : Kp M a b) {p : Addr} (hp : p.block < a.heap.size → M p.block) (u : Value) : Kp M a (b.setCell p u) :=
  ⟨h.os, h.tape, h.output, by have := h.size; simpa [World.setCell] using this, fun i hi hm => (Below.heap_setCell _ _ _ _ (by intro e; exact hm (e ▸ hp (e ▸ hi)))).trans (h.block i hi hm)⟩
theorem Kp.row {M : Nat → Prop} {w w' : World} {g : Nat} {T : TypeId} {l : List Value} (h : Kp M w w') (r : Row w g T l) (hg : ¬ M g) : Row w' g T l := by
  unfold Row at r ⊢
  rw [h.block g (Array.getElem?_eq_some_iff.1 r).1 hg]; exact r
theorem Kp.cell {M : Nat → Prop} {w w' : World} (h : Kp M w w') {p : Addr} {v : Value} (hc : w.cell? p = some v) (hg : ¬ M p.block) : w'.cell? p = some v := by
  rw [World.cell?_of_block (w := w) (h.block p.block (World.block_lt_of_cell? w p hc) hg)]; exact hc
theorem Ext.setCell {a b : World} (h : Ext a b) {p : Addr} (hp : a.heap.size ≤ p.block) (u : Value) : Ext a (b.setCell p u) := Below.setCell h hp u
theorem Ext.grown {a b c : World} {r : Option Nat} (h : Ext a b) (hg : b.grownBy c r) (hr : ∀ k, r = some k → a.heap.size ≤ k) : Ext a c := Below.grown h hg h.size hr

theorem set_take_succ (l t : List Value) (k : Nat) (v : Value) (hl : k < l.length) (ht : k < t.length) (h : l.take k = t.take k) (hv : t[k] = v) : (l.set k v).take (k + 1) = t.take (k + 1) := by
  rw [List.take_succ_eq_append_getElem (by simpa using hl), List.take_succ_eq_append_getElem ht, hv]
  simp [List.take_set_of_le, h]
theorem add_lt (g j : Nat) : (⟨g, 0, none⟩ : Addr).add j = ⟨g, j, none⟩ := by unfold Addr.add; split <;> simp_all
theorem add_at (b o j : Nat) : (⟨b, o, none⟩ : Addr).add j = ⟨b, o + j, none⟩ := by unfold Addr.add; split <;> simp_all


/-- 'make([]T, n)': a row of one's own. -/
theorem wpList_make_row {P : Program} (w : World) {ops : Array Oper} {rest : List Oper} {o : Oper} {a : Act} {Q : Exit → Act → World → Prop}
    (hg : o.guard = none) (l c : Operand) (t : TypeId) (hop : o.op = Op.makeSlice t l c)
    (e : TypeId) (z : Value) (size bytes : Nat) (h1 : P.underlying t = some (.slice e)) (h2 : (P.info? e).map (fun i => (i.zero, i.size, i.bytes)) = some (some z, size, bytes))
    (kl kc : IntKind) (L C : Int) (n : Nat) (hl : a.eval l = .int kl L) (hc : a.eval c = .int kc C) (hL : L = (n : Int)) (hC : C = (n : Int)) (b2 : bytes * n ≤ 281474976710656) (b3 : n ≤ maxLen)
    (hK : ∀ w' Z, Row w' w.heap.size e Z → Hid (Z.length = n * size) → Ext w w' → wpList P ops Q rest (a.put o.dst (.slice (some ⟨w.heap.size, 0, none⟩) n n)) w') :
    wpList P ops Q (o :: rest) a w := by
  obtain ⟨i, hi, hz0, hz1, hz2⟩ := info_parts h2
  subst hz2
  refine wpList_make_full w hg l c t hop w.heap.size e i z size h1 hi hz0 hz1 kl kc L C n hl hc hL hC b2 b3 (Nat.le_refl _) ?_
  intro w' hown hgrow
  exact hK w' _ (Row.own hown) hown.1 ((Ext.refl _).grown hgrow (by simp))

theorem wpList_copy_row {P : Program} {w : World} {ops : Array Oper} {rest : List Oper} {o : Oper} {a : Act} {Q : Exit → Act → World → Prop} (hgd : o.guard = none) (d s : Operand) (dT sT : TypeId)
    (ho : o.op = .call { callee := .builtin .copy, args := #[d, s], argTypes := #[dT, sT] }) (elem : TypeId) (size : Nat) (hu : P.underlying dT = some (.slice elem)) (hsz : (P.info? elem).map (·.size) = some size)
    (g dLen dCap sLen sCap : Nat) (sp : Option Addr) (hd : a.eval d = .slice (some ⟨g, 0, none⟩) dLen dCap) (hs : a.eval s = .slice sp sLen sCap)
    (cur : List Value) (t : TypeId) (hg : Row w g t cur) (cs : List Value) (hle : sLen ≤ dLen) (hn : cs.length = sLen * size)
    (hpos : 0 < sLen → ∃ ad, sp = some ad ∧ ∀ j v, cs[j]? = some v → w.cell? (ad.add j) = some v)
    (hfit : cs.length ≤ cur.length) (h1 : ∀ v ∈ cs, v.oneCell' = true)
    (h : ∀ w' Z, Row w' g t Z → Hid (Z = cs ++ cur.drop cs.length) → Kp (fun k => k = g) w w' → wpList P ops Q rest (a.put o.dst (goInt sLen)) w') :
    wpList P ops Q (o :: rest) a w :=
  wpList_copy_wide hgd d s dT sT ho elem size hu hsz g dLen dCap sLen sCap sp hd hs cur t hg cs hle hn hpos hfit h1
    fun w' hr hgr => h w' _ hr.out rfl ⟨hgr.out.os, hgr.out.tape, hgr.out.output, hgr.out.size, fun k hk hne => hgr.out.block k hk (by intro e; exact hne (Option.some.inj e))⟩
theorem Ext.kpFresh {a b c : World} {g : Nat} (h : Ext a b) (k : Kp (fun k => k = g) b c) (hg : a.heap.size ≤ g) : Ext a c :=
  ⟨k.os.trans h.os, k.tape.trans h.tape, k.output.trans h.output, Nat.le_trans h.size k.size, fun i hi => (k.block i (Nat.lt_of_lt_of_le hi h.size) (by omega)).trans (h.block i hi)⟩

end Go.Proofs.Ytepioeaomlmocaa
