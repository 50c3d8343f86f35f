import Derived.WalkKit
import Derived.Lib.Bytealg
namespace Go.Proofs.YtpbblaeamddbgaaGreat
open Go.RowKit

/-- A value of the document: a number and a word. -/
structure Vl where
  n : Int
  s : ByteArray

/-- A condition. -/
structure Cd where
  attr : Int
  kind : Int
  a : Vl
  b : Vl

/-- A field of an event. -/
structure Fd where
  attr : Int
  v : Vl

def Vl.cells (v : Vl) : List Value := [.int .i64 v.n, .string v.s]
def Cd.cells (c : Cd) : List Value := [.int .i64 c.attr, .int .i64 c.kind, .int .i64 c.a.n, .string c.a.s, .int .i64 c.b.n, .string c.b.s]
def Fd.cells (f : Fd) : List Value := [.int .i64 f.attr, .int .i64 f.v.n, .string f.v.s]

/-- Does a value fit a type? -/
def fitsB (k : Int) (v : Vl) : Bool := if k == 1 then v.s.toList.isEmpty else (v.n == 0) && decide ((v.s.size : Int) ≤ 20)
/-- Has a value nothing? -/
def noneB (v : Vl) : Bool := (v.n == 0) && v.s.toList.isEmpty
def firstB (k : Int) (c : Cd) : Bool := if c.kind == 9 then noneB c.a else fitsB k c.a
def secondB (k : Int) (c : Cd) : Bool := if c.kind == 7 then fitsB k c.b else noneB c.b
/-- May a condition be, of an attribute of type k? -/
def mayK (k : Int) (c : Cd) : Bool := !((c.kind == 8) && !(k == 2)) && (firstB k c && secondB k c)
def mayB (sch : List Int) (c : Cd) : Bool :=
  decide (0 ≤ c.attr) && decide (c.attr < sch.length) && decide (1 ≤ c.kind) && decide (c.kind ≤ 9) && mayK (sch.getD c.attr.toNat 0) c

def inR (a : Int) (n : Nat) : Bool := decide (0 ≤ a ∧ a < n)

/-- What was there is as it was; there may be more. -/
def Ext (w w' : World) : Prop := Below w.heap.size w w'
theorem Ext.refl (w : World) : Ext w w := Below.refl _ _
theorem Ext.trans {a b c : World} (h : Ext a b) (k : Ext b c) : Ext a c := Below.trans h (Below.mono k h.size)
theorem Ext.alloc {a b : World} (h : Ext a b) (o : Obj) : Ext a (b.alloc o) := Below.alloc h h.size o
theorem Ext.drew {a b : World} (h : Ext a b) : Ext a b.drew := Below.drew h
theorem Ext.le {a b : World} (h : Ext a b) : a.heap.size ≤ b.heap.size := h.size
theorem Ext.blk {a b : World} (h : Ext a b) {k : Nat} {o : Obj} (hk : a.heap[k]? = some o) : b.heap[k]? = some o := by
  rw [h.block k (Array.getElem?_eq_some_iff.1 hk).1]; exact hk
theorem Ext.cell {a b : World} (h : Ext a b) {p : Addr} {v : Value} (hc : a.cell? p = some v) : b.cell? p = some v := by
  rw [Below.cell h (World.block_lt_of_cell? a p hc)]; exact hc
end Go.Proofs.YtpbblaeamddbgaaGreat
namespace Go.Proofs.YtpbblaeamddbgaaGreat

def cmpI (x y : Int) : Int := if x < y then -1 else if y < x then 1 else 0
def orI (a b : Int) : Int := if a == 0 then b else a
def cmpV (x y : Vl) : Int := orI (cmpI x.n y.n) (Lib.compareBytes x.s.data.toList y.s.data.toList)
def cmpCd (x y : Cd) : Int := orI (cmpI x.attr y.attr) (orI (cmpI x.kind y.kind) (orI (cmpV x.a y.a) (cmpV x.b y.b)))
/-- Lists, element by element. -/
def cmpL {α : Type} (c : α → α → Int) : List α → List α → Int
  | [], [] => 0
  | [], _ :: _ => -1
  | _ :: _, [] => 1
  | x :: xs, y :: ys => orI (c x y) (cmpL c xs ys)

/-- A comparison that orders. -/
structure TOrd {α : Type} (c : α → α → Int) : Prop where
  eq : ∀ x y, c x y = 0 ↔ x = y
  anti : ∀ x y, c x y < 0 ↔ 0 < c y x
  trans : ∀ x y z, c x y < 0 → c y z < 0 → c x z < 0
theorem TOrd.refl {α : Type} {c : α → α → Int} (h : TOrd c) (x : α) : c x x = 0 := (h.eq x x).2 rfl
theorem TOrd.gt {α : Type} {c : α → α → Int} (h : TOrd c) (x y : α) : 0 < c x y ↔ c y x < 0 := (h.anti y x).symm
theorem TOrd.sym0 {α : Type} {c : α → α → Int} (h : TOrd c) (x y : α) : c x y = 0 ↔ c y x = 0 := by rw [h.eq, h.eq]; exact eq_comm
theorem orI_zero {a b : Int} : orI a b = 0 ↔ a = 0 ∧ b = 0 := by
  unfold orI
  by_cases h : a = 0
  · subst h; simp
  · simp [h]
theorem orI_neg {a b : Int} : orI a b < 0 ↔ a < 0 ∨ (a = 0 ∧ b < 0) := by
  unfold orI
  by_cases h : a = 0
  · subst h; simp
  · simp [h]
theorem orI_pos {a b : Int} : 0 < orI a b ↔ 0 < a ∨ (a = 0 ∧ 0 < b) := by
  unfold orI
  by_cases h : a = 0
  · subst h; simp
  · simp [h]
theorem TOrd.lex {α β γ : Type} {c : α → α → Int} {d : β → β → Int} (f : γ → α) (g : γ → β) (hc : TOrd c) (hd : TOrd d) (hi : ∀ x y, f x = f y → g x = g y → x = y) : TOrd (fun x y => orI (c (f x) (f y)) (d (g x) (g y))) where
  eq x y := by
    rw [orI_zero, hc.eq, hd.eq]
    exact ⟨fun h => hi x y h.1 h.2, fun h => by subst h; exact ⟨rfl, rfl⟩⟩
  anti x y := by
    rw [orI_neg, orI_pos, hc.anti, hd.anti, hc.sym0]
  trans x y z := by
    simp only [orI_neg]
    rintro (h | ⟨h, h'⟩) (k | ⟨k, k'⟩)
    · exact Or.inl (hc.trans _ _ _ h k)
    · rw [hc.eq] at k; rw [← k]; exact Or.inl h
    · rw [hc.eq] at h; rw [h]; exact Or.inl k
    · rw [hc.eq] at h; rw [h]; exact Or.inr ⟨k, hd.trans _ _ _ h' k'⟩
theorem TOrd.on {α γ : Type} {c : α → α → Int} (f : γ → α) (hc : TOrd c) (hi : ∀ x y, f x = f y → x = y) : TOrd (fun x y => c (f x) (f y)) where
  eq x y := by rw [hc.eq]; exact ⟨hi x y, fun h => by rw [h]⟩
  anti x y := hc.anti _ _
  trans x y z := hc.trans _ _ _
theorem TOrd.list {α : Type} {c : α → α → Int} (hc : TOrd c) : TOrd (cmpL c) where
  eq x y := by
    induction x generalizing y with
    | nil => cases y <;> simp [cmpL]
    | cons a x ih =>
      cases y with
      | nil => simp [cmpL]
      | cons b y => simp [cmpL, orI_zero, hc.eq, ih]
  anti x y := by
    induction x generalizing y with
    | nil => cases y <;> simp [cmpL]
    | cons a x ih =>
      cases y with
      | nil => simp [cmpL]
      | cons b y => simp only [cmpL, orI_neg, orI_pos, ih, hc.anti a b, hc.sym0 a b]
  trans x y z := by
    induction x generalizing y z with
    | nil =>
      cases y with
      | nil => simp [cmpL]
      | cons b y => cases z <;> simp [cmpL]
    | cons a x ih =>
      cases y with
      | nil => simp [cmpL]
      | cons b y =>
        cases z with
        | nil => simp [cmpL]
        | cons d z =>
          simp only [cmpL, orI_neg]
          rintro (h | ⟨h, h'⟩) (k | ⟨k, k'⟩)
          · exact Or.inl (hc.trans _ _ _ h k)
          · rw [hc.eq] at k; rw [← k]; exact Or.inl h
          · rw [hc.eq] at h; rw [h]; exact Or.inl k
          · rw [hc.eq] at h; rw [h]; exact Or.inr ⟨k, ih _ _ h' k'⟩
theorem cmpI_ord : TOrd cmpI where
  eq x y := by unfold cmpI; split <;> (try split) <;> omega
  anti x y := by unfold cmpI; split <;> split <;> (try split) <;> omega
  trans x y z := by unfold cmpI; split <;> split <;> split <;> (try split) <;> omega
theorem cmpI_neg {x y : Int} : cmpI x y < 0 ↔ x < y := by unfold cmpI; split <;> (try split) <;> omega
theorem cmpI_zero {x y : Int} : cmpI x y = 0 ↔ x = y := cmpI_ord.eq x y
theorem bytes_list : ∀ x y : List UInt8, Lib.compareBytes x y = cmpL (fun a b : UInt8 => cmpI (a.toNat : Int) (b.toNat : Int)) x y
  | [], [] => rfl
  | [], _ :: _ => rfl
  | _ :: _, [] => rfl
  | a :: x, b :: y => by
    have ih := bytes_list x y
    simp only [Lib.compareBytes, cmpL, orI, cmpI, UInt8.lt_iff_toNat_lt, ih]
    by_cases h : a.toNat < b.toNat
    · simp [h]
    · by_cases h2 : b.toNat < a.toNat
      · simp [h, h2]
      · simp [h, h2]
theorem bytes_ord : TOrd Lib.compareBytes := by
  have h : TOrd (fun a b : UInt8 => cmpI (a.toNat : Int) (b.toNat : Int)) := cmpI_ord.on (fun a : UInt8 => (a.toNat : Int)) (fun x y h => UInt8.toNat_inj.1 (by omega))
  have e : Lib.compareBytes = cmpL (fun a b : UInt8 => cmpI (a.toNat : Int) (b.toNat : Int)) := by funext x y; exact bytes_list x y
  rw [e]; exact h.list
theorem bs_inj (x y : ByteArray) (h : x.data.toList = y.data.toList) : x = y := by
  cases x; cases y; simp only [ByteArray.mk.injEq]; exact Array.toList_inj.1 h
theorem cmpV_ord : TOrd cmpV :=
  TOrd.lex (fun v : Vl => v.n) (fun v : Vl => v.s.data.toList) cmpI_ord bytes_ord (fun x y h1 h2 => by cases x; cases y; simp only [Vl.mk.injEq]; exact ⟨h1, bs_inj _ _ h2⟩)
theorem cmpCd_ord : TOrd cmpCd := by
  have h1 : TOrd (fun x y : Vl × Vl => orI (cmpV x.1 y.1) (cmpV x.2 y.2)) := TOrd.lex Prod.fst Prod.snd cmpV_ord cmpV_ord (fun x y h1 h2 => Prod.ext h1 h2)
  have h2 : TOrd (fun x y : Int × Vl × Vl => orI (cmpI x.1 y.1) (orI (cmpV x.2.1 y.2.1) (cmpV x.2.2 y.2.2))) := TOrd.lex Prod.fst Prod.snd cmpI_ord h1 (fun x y h1 h2 => Prod.ext h1 h2)
  exact TOrd.lex (fun c : Cd => c.attr) (fun c : Cd => (c.kind, c.a, c.b)) cmpI_ord h2 (fun x y h1 h2 => by cases x; cases y; simp only [Prod.mk.injEq] at h2; simp only [Cd.mk.injEq]; exact ⟨h1, h2⟩)

/-- Strictly rising. -/
def Rise {α : Type} (c : α → α → Int) (l : List α) : Prop := l.Pairwise (fun x y => c x y < 0)
theorem Rise.nodup {α : Type} {c : α → α → Int} (hc : TOrd c) {l : List α} (h : Rise c l) : l.Nodup :=
  List.Pairwise.imp (fun {a b} h e => by subst e; rw [hc.refl] at h; omega) h
theorem rise_ext {α : Type} {c : α → α → Int} (hc : TOrd c) : ∀ {l m : List α}, Rise c l → Rise c m → (∀ x, x ∈ l ↔ x ∈ m) → l = m
  | [], [], _, _, _ => rfl
  | [], b :: m, _, _, h => absurd ((h b).2 (List.mem_cons_self)) (by simp)
  | a :: l, [], _, _, h => absurd ((h a).1 (List.mem_cons_self)) (by simp)
  | a :: l, b :: m, hl, hm, h => by
    obtain ⟨h1, h2⟩ := List.pairwise_cons.1 hl
    obtain ⟨k1, k2⟩ := List.pairwise_cons.1 hm
    have e : a = b := by
      rcases List.mem_cons.1 ((h a).1 List.mem_cons_self) with e | e
      · exact e
      rcases List.mem_cons.1 ((h b).2 List.mem_cons_self) with e' | e'
      · exact e'.symm
      have x1 := hc.trans _ _ _ (k1 a e) (h1 b e')
      rw [hc.refl] at x1; omega
    subst e
    rw [rise_ext hc h2 k2 (fun x => ?_)]
    constructor
    · intro hx
      rcases List.mem_cons.1 ((h x).1 (List.mem_cons_of_mem _ hx)) with e | e
      · subst e; have := h1 x hx; rw [hc.refl] at this; omega
      · exact e
    · intro hx
      rcases List.mem_cons.1 ((h x).2 (List.mem_cons_of_mem _ hx)) with e | e
      · subst e; have := k1 x hx; rw [hc.refl] at this; omega
      · exact e
/-- Where a thing stands among rising ones, or would. -/
def SpotOf {α : Type} (c : α → α → Int) (l : List α) (t : α) (q : Nat) : Prop := q ≤ l.length ∧ ∀ h (hh : h < l.length), c l[h] t < 0 ↔ h < q
theorem ex_spot {α : Type} {c : α → α → Int} (hc : TOrd c) : ∀ {l : List α} (_ : Rise c l) (t : α), ∃ q, SpotOf c l t q
  | [], _, _ => ⟨0, Nat.le_refl _, fun h hh => absurd hh (by simp)⟩
  | a :: l, hl, t => by
    obtain ⟨h1, h2⟩ := List.pairwise_cons.1 hl
    by_cases hat : c a t < 0
    · obtain ⟨q, hq, hs⟩ := ex_spot hc h2 t
      refine ⟨q + 1, by simpa using hq, fun h hh => ?_⟩
      cases h with
      | zero => simpa using hat
      | succ h => simpa using hs h (by simpa using hh)
    · refine ⟨0, Nat.zero_le _, fun h hh => ⟨fun hlt => ?_, fun h' => absurd h' (Nat.not_lt_zero _)⟩⟩
      cases h with
      | zero => exact absurd hlt hat
      | succ h => exact absurd (hc.trans _ _ _ (h1 _ (List.getElem_mem (by simpa using hh))) hlt) hat
theorem spot_found {α : Type} {c : α → α → Int} (hc : TOrd c) {l : List α} (hl : Rise c l) {t : α} {q : Nat} (hq : SpotOf c l t q) : (∃ h : q < l.length, l[q] = t) ↔ t ∈ l := by
  constructor
  · rintro ⟨h, rfl⟩; exact List.getElem_mem h
  · intro ht
    obtain ⟨k, hk, rfl⟩ := List.getElem_of_mem ht
    have h0 : ¬ k < q := fun h => by have := (hq.2 k hk).2 h; rw [hc.refl] at this; omega
    rcases Nat.lt_or_ge q k with h | h
    · have := (List.pairwise_iff_getElem.1 hl) q k (by omega) hk h
      have := (hq.2 q (by omega)).1 this
      omega
    · obtain rfl : k = q := by omega
      exact ⟨hk, rfl⟩
theorem rise_ins {α : Type} {c : α → α → Int} (hc : TOrd c) {l : List α} (hl : Rise c l) {t : α} {q : Nat} (hq : SpotOf c l t q) (hn : t ∉ l) : Rise c (l.take q ++ t :: l.drop q) := by
  have hp := List.pairwise_iff_getElem.1 hl
  unfold Rise
  rw [List.pairwise_append, List.pairwise_cons]
  refine ⟨List.Pairwise.sublist (List.take_sublist _ _) hl, ⟨fun x hx => ?_, List.Pairwise.sublist (List.drop_sublist _ _) hl⟩, fun x hx y hy => ?_⟩
  · obtain ⟨k, hk, rfl⟩ := List.getElem_of_mem hx
    rw [List.getElem_drop]
    have hk' : q + k < l.length := by simp at hk; omega
    have h1 : ¬ c l[q + k] t < 0 := fun h => by have := (hq.2 _ hk').1 h; omega
    have h2 : c l[q + k] t ≠ 0 := fun h => hn (by rw [← (hc.eq _ _).1 h]; exact List.getElem_mem _)
    rw [hc.anti]; omega
  · obtain ⟨k, hk, rfl⟩ := List.getElem_of_mem hx
    rw [List.getElem_take]
    have hk' : k < q ∧ k < l.length := by simp at hk; omega
    have h1 := (hq.2 k hk'.2).2 hk'.1
    rcases List.mem_cons.1 hy with rfl | hy
    · exact h1
    · obtain ⟨j, hj, rfl⟩ := List.getElem_of_mem hy
      rw [List.getElem_drop]
      exact hp k (q + j) hk'.2 (by simp at hj; omega) (by omega)
theorem mem_ins {α : Type} (l : List α) (t : α) (q : Nat) (x : α) : x ∈ l.take q ++ t :: l.drop q ↔ x = t ∨ x ∈ l := by
  rw [List.mem_append, List.mem_cons]
  conv => rhs; rw [← List.take_append_drop q l, List.mem_append]
  constructor
  · rintro (h | h | h)
    · exact Or.inr (Or.inl h)
    · exact Or.inl h
    · exact Or.inr (Or.inr h)
  · rintro (h | h | h)
    · exact Or.inr (Or.inl h)
    · exact Or.inl h
    · exact Or.inr (Or.inr h)
end Go.Proofs.YtpbblaeamddbgaaGreat
namespace Go.Proofs.YtpbblaeamddbgaaGreat

section
variable {α : Type} (attr : α → Int)
/-- What is asked of one attribute. -/
def onA (a : Int) (l : List α) : List α := l.filter (fun c => attr c == a)
/-- The way of a filter down the tree. -/
def way : List Int → List α → Nat → List (List α)
  | [], _, _ => []
  | a :: as, l, left => if left = 0 then [] else onA attr a l :: way as l (left - (onA attr a l).length)
/-- Is all met on a way? -/
def pm (h : α → Bool) (p : List (List α)) : Bool := p.all (fun cs => cs.all h)
/-- What is asked of some attributes. -/
def within (as : List Int) (l : List α) : List α := l.filter (fun c => as.contains (attr c))
theorem within_len (a : Int) (as : List Int) (ha : a ∉ as) (l : List α) : (within attr (a :: as) l).length = (onA attr a l).length + (within attr as l).length := by
  induction l with
  | nil => rfl
  | cons c l ih =>
    unfold within onA at ih ⊢
    by_cases h : attr c = a
    · have h2 : as.contains (attr c) = false := by simpa [h] using ha
      have h1 : (a :: as).contains (attr c) = true := by simp [h]
      have h3 : (attr c == a) = true := by simpa using h
      simp only [List.filter_cons, h1, h2, h3, if_true, List.length_cons, ih]
      simp only [Bool.false_eq_true, if_false]
      omega
    · have h3 : (attr c == a) = false := by simpa using h
      have h1 : (a :: as).contains (attr c) = as.contains (attr c) := by simp [h]
      simp only [List.filter_cons, h1, h3, Bool.false_eq_true, if_false]
      cases h2 : as.contains (attr c)
      · simp only [Bool.false_eq_true, if_false, ih]
      · simp only [if_true, List.length_cons, ih]; omega
theorem within_all (h : α → Bool) (a : Int) (as : List Int) (l : List α) : (within attr (a :: as) l).all h = ((onA attr a l).all h && (within attr as l).all h) := by
  rw [Bool.eq_iff_iff]
  simp only [List.all_eq_true, Bool.and_eq_true, within, onA, List.mem_filter, List.contains_eq_mem, List.mem_cons, decide_eq_true_eq, beq_iff_eq]
  constructor
  · intro H
    exact ⟨fun x hx => H x ⟨hx.1, Or.inl hx.2⟩, fun x hx => H x ⟨hx.1, Or.inr hx.2⟩⟩
  · rintro ⟨H1, H2⟩ x ⟨hx, e | e⟩
    · exact H1 x ⟨hx, e⟩
    · exact H2 x ⟨hx, e⟩
theorem pm_way' (h : α → Bool) (l : List α) : ∀ as : List Int, as.Nodup → pm h (way attr as l (within attr as l).length) = (within attr as l).all h
  | [], _ => by simp [way, pm, within]
  | a :: as, hn => by
    obtain ⟨ha, hn'⟩ := List.nodup_cons.1 hn
    have ih := pm_way' h l as hn'
    rw [way]
    by_cases h0 : (within attr (a :: as) l).length = 0
    · rw [if_pos h0, List.eq_nil_of_length_eq_zero h0]; rfl
    · rw [if_neg h0, within_len attr a as ha, Nat.add_sub_cancel_left, within_all]
      rw [← ih]; rfl
theorem pm_way (h : α → Bool) (l : List α) (as : List Int) (hn : as.Nodup) (hl : ∀ c ∈ l, attr c ∈ as) : pm h (way attr as l l.length) = l.all h := by
  have e : within attr as l = l := List.filter_eq_self.2 (fun c hc => by simpa using hl c hc)
  have := pm_way' attr h l as hn
  rw [e] at this; exact this
/-- Each level asks for its attribute. -/
def LvOK (order : List Int) (p : List (List α)) : Prop := p.length ≤ order.length ∧ ∀ d (hd : d < p.length) (ho : d < order.length), ∀ c ∈ p[d], attr c = order[d]
theorem way_lv (l : List α) : ∀ (as : List Int) (n : Nat), LvOK attr as (way attr as l n)
  | [], n => ⟨by simp [way], fun d hd => absurd hd (by simp [way])⟩
  | a :: as, n => by
    obtain ⟨h1, h2⟩ := way_lv l as (n - (onA attr a l).length)
    unfold way
    split
    · exact ⟨by simp, fun d hd => absurd hd (by simp)⟩
    · refine ⟨by simpa using h1, fun d hd ho c hc => ?_⟩
      cases d with
      | zero =>
        simp only [List.getElem_cons_zero, onA, List.mem_filter, beq_iff_eq] at hc ⊢
        exact hc.2
      | succ d =>
        simp only [List.getElem_cons_succ] at hc ⊢
        exact h2 d (by simpa using hd) (by simpa using ho) c hc
end

/-- A node: the way to it, the numbers that end there, its edges. -/
structure Nd (α : Type) where
  path : List (List α)
  ids : List Int
  kids : List (List α × Nat)

/-- The tree of some filters. -/
structure TreeOK {α : Type} (attr : α → Int) (ce : List α → List α → Int) (order : List Int) (ks : List (Int × List α)) (N : List (Nd α)) (m : Nat) : Prop where
  pos : 0 < N.length
  root : N[0].path = []
  nod : ∀ i j (hi : i < N.length) (hj : j < N.length), N[i].path = N[j].path → i = j
  kid : ∀ i (hi : i < N.length) c j, (c, j) ∈ N[i].kids ↔ ∃ hj : j < N.length, N[j].path = N[i].path ++ [c]
  par : ∀ j (hj : j < N.length), N[j].path ≠ [] → ∃ i, ∃ hi : i < N.length, ∃ c, N[j].path = N[i].path ++ [c]
  srt : ∀ i (hi : i < N.length), Rise ce (N[i].kids.map (·.1))
  lv : ∀ i (hi : i < N.length), LvOK attr order N[i].path
  ids : ∀ i (hi : i < N.length), N[i].ids.Nodup ∧ ∀ x, x ∈ N[i].ids ↔ ∃ l, (x, l) ∈ ks ∧ way attr order l l.length = N[i].path
  all : ∀ k ∈ ks, ∃ i, ∃ hi : i < N.length, N[i].path = way attr order k.2 k.2.length
  cnt : N.length ≤ m
  kl : ∀ i (hi : i < N.length), N[i].kids.length < N.length
  il : ∀ i (hi : i < N.length), N[i].ids.length ≤ ks.length

section
variable {α : Type} {attr : α → Int} {ce : List α → List α → Int} {order : List Int} {ks : List (Int × List α)} {N : List (Nd α)} {m : Nat}
theorem tree_start (attr : α → Int) (ce : List α → List α → Int) (order : List Int) : TreeOK attr ce order [] [⟨[], [], []⟩] 1 where
  pos := by simp
  root := rfl
  nod i j hi hj _ := by simp at hi hj; omega
  kid i hi c j := by
    obtain rfl : i = 0 := by simp at hi; omega
    simp
  par j hj h := by
    obtain rfl : j = 0 := by simp at hj; omega
    exact absurd rfl h
  srt i hi := by
    obtain rfl : i = 0 := by simp at hi; omega
    exact List.Pairwise.nil
  lv i hi := by
    obtain rfl : i = 0 := by simp at hi; omega
    exact ⟨by simp, fun d hd => absurd hd (by simp)⟩
  ids i hi := by
    obtain rfl : i = 0 := by simp at hi; omega
    exact ⟨List.nodup_nil, fun x => by simp⟩
  all k hk := by simp at hk
  cnt := by simp
  kl i hi := by
    obtain rfl : i = 0 := by simp at hi; omega
    simp
  il i hi := by
    obtain rfl : i = 0 := by simp at hi; omega
    simp
theorem TreeOK.mono (T : TreeOK attr ce order ks N m) {m' : Nat} (h : m ≤ m') : TreeOK attr ce order ks N m' := { T with cnt := Nat.le_trans T.cnt h }

/-- A node more, at the end of an edge more. -/
def addKid (N : List (Nd α)) (i : Nat) (hi : i < N.length) (q : Nat) (c : List α) : List (Nd α) :=
  N.set i { N[i] with kids := N[i].kids.take q ++ (c, N.length) :: N[i].kids.drop q } ++ [⟨N[i].path ++ [c], [], []⟩]
theorem addKid_len (i : Nat) (hi : i < N.length) (q : Nat) (c : List α) : (addKid N i hi q c).length = N.length + 1 := by simp [addKid]
theorem addKid_old (i : Nat) (hi : i < N.length) (q : Nat) (c : List α) (k : Nat) (hk : k < N.length) : ∃ h : k < (addKid N i hi q c).length, (addKid N i hi q c)[k].path = N[k].path ∧ (addKid N i hi q c)[k].ids = N[k].ids ∧ (addKid N i hi q c)[k].kids = if k = i then N[i].kids.take q ++ (c, N.length) :: N[i].kids.drop q else N[k].kids := by
  refine ⟨by rw [addKid_len]; omega, ?_⟩
  unfold addKid
  rw [List.getElem_append_left (by simpa using hk)]
  by_cases h : k = i
  · subst h; simp
  · simp only [List.getElem_set_ne (fun e => h e.symm), if_neg h, and_self]
theorem addKid_new (i : Nat) (hi : i < N.length) (q : Nat) (c : List α) : ∃ h : N.length < (addKid N i hi q c).length, (addKid N i hi q c)[N.length] = ⟨N[i].path ++ [c], [], []⟩ := by
  refine ⟨by rw [addKid_len]; omega, ?_⟩
  unfold addKid
  rw [List.getElem_append_right (by simp)]
  simp
theorem addKid_path (i : Nat) (hi : i < N.length) (q : Nat) (c : List α) (k : Nat) (hk : k < (addKid N i hi q c).length) : (∃ h : k < N.length, (addKid N i hi q c)[k].path = N[k].path) ∨ (k = N.length ∧ (addKid N i hi q c)[k].path = N[i].path ++ [c]) := by
  rw [addKid_len] at hk
  rcases Nat.lt_or_ge k N.length with h | h
  · obtain ⟨_, h1, _⟩ := addKid_old i hi q c k h
    exact Or.inl ⟨h, h1⟩
  · obtain rfl : k = N.length := by omega
    obtain ⟨_, h1⟩ := addKid_new i hi q c
    exact Or.inr ⟨rfl, by rw [h1]⟩
theorem TreeOK.add (hce : TOrd ce) (T : TreeOK attr ce order ks N m) (i : Nat) (hi : i < N.length) (q : Nat) (c : List α) (hq : SpotOf ce (N[i].kids.map (·.1)) c q) (hn : c ∉ N[i].kids.map (·.1)) (hlv : LvOK attr order (N[i].path ++ [c])) : TreeOK attr ce order ks (addKid N i hi q c) (m + 1) := by
  have hfresh : ∀ k (hk : k < N.length), N[k].path ≠ N[i].path ++ [c] := fun k hk e => hn (List.mem_map.2 ⟨(c, k), (T.kid i hi c k).2 ⟨hk, e⟩, rfl⟩)
  have hkids : ∀ x j, (x, j) ∈ N[i].kids.take q ++ (c, N.length) :: N[i].kids.drop q ↔ (x = c ∧ j = N.length) ∨ (x, j) ∈ N[i].kids := fun x j => by
    rw [mem_ins, Prod.mk.injEq]
  refine ⟨by rw [addKid_len]; omega, ?_, ?_, ?_, ?_, ?_, ?_, ?_, ?_, by rw [addKid_len]; have := T.cnt; omega, ?_, ?_⟩
  · obtain ⟨_, h, _⟩ := addKid_old i hi q c 0 T.pos
    rw [h]; exact T.root
  · intro a b ha hb e
    rcases addKid_path i hi q c a ha with ⟨h1, e1⟩ | ⟨h1, e1⟩ <;> rcases addKid_path i hi q c b hb with ⟨h2, e2⟩ | ⟨h2, e2⟩
    · rw [e1, e2] at e; exact T.nod a b h1 h2 e
    · rw [e1, e2] at e; exact absurd e (hfresh a h1)
    · rw [e1, e2] at e; exact absurd e.symm (hfresh b h2)
    · omega
  · intro a ha x j
    rcases Nat.lt_or_ge a N.length with h | h
    · obtain ⟨_, p1, _, p3⟩ := addKid_old i hi q c a h
      rw [p1, p3]
      have key : ((x, j) ∈ N[a].kids ∨ (a = i ∧ x = c ∧ j = N.length)) ↔ ∃ hj : j < (addKid N i hi q c).length, (addKid N i hi q c)[j].path = N[a].path ++ [x] := by
        constructor
        · rintro (hm | ⟨rfl, rfl, rfl⟩)
          · obtain ⟨hj, e⟩ := (T.kid a h x j).1 hm
            obtain ⟨h', e', _⟩ := addKid_old i hi q c j hj
            exact ⟨h', by rw [e', e]⟩
          · obtain ⟨h', e'⟩ := addKid_new a hi q x
            exact ⟨h', by rw [e']⟩
        · rintro ⟨hj, e⟩
          rcases addKid_path i hi q c j hj with ⟨h1, e1⟩ | ⟨h1, e1⟩
          · rw [e1] at e; exact Or.inl ((T.kid a h x j).2 ⟨h1, e⟩)
          · rw [e1] at e
            have e2 := List.append_inj_left' e rfl
            have e3 := List.append_inj_right' e rfl
            simp only [List.cons.injEq, and_true] at e3
            exact Or.inr ⟨(T.nod i a hi h e2).symm, e3.symm, h1⟩
      rw [← key]
      by_cases hai : a = i
      · subst hai
        rw [if_pos rfl, hkids]
        constructor
        · rintro (h | h)
          · exact Or.inr ⟨rfl, h⟩
          · exact Or.inl h
        · rintro (h | h)
          · exact Or.inr h
          · exact Or.inl h.2
      · rw [if_neg hai]
        exact ⟨Or.inl, fun h => h.elim id (fun h => absurd h.1 hai)⟩
    · obtain rfl : a = N.length := by rw [addKid_len] at ha; omega
      obtain ⟨_, e'⟩ := addKid_new i hi q c
      rw [e']
      simp only [List.not_mem_nil, false_iff]
      rintro ⟨hj, e⟩
      have hpre : ∀ k (hk : k < N.length), N[k].path ≠ N[i].path ++ [c] ++ [x] := fun k hk e => by
        obtain ⟨p, hp, y, ey⟩ := T.par k hk (by rw [e]; simp)
        rw [ey] at e
        exact hfresh p hp (List.append_inj_left' e rfl)
      rcases addKid_path i hi q c j hj with ⟨h1, e1⟩ | ⟨h1, e1⟩
      · rw [e1] at e; exact hpre j h1 e
      · rw [e1] at e
        have := congrArg List.length e
        simp at this
  · intro j hj hne
    rcases addKid_path i hi q c j hj with ⟨h1, e1⟩ | ⟨h1, e1⟩
    · rw [e1] at hne ⊢
      obtain ⟨p, hp, y, ey⟩ := T.par j h1 hne
      obtain ⟨h', e', _⟩ := addKid_old i hi q c p hp
      exact ⟨p, h', y, by rw [e']; exact ey⟩
    · obtain ⟨h', e', _⟩ := addKid_old i hi q c i hi
      exact ⟨i, h', c, by rw [e', e1]⟩
  · intro a ha
    rcases Nat.lt_or_ge a N.length with h | h
    · obtain ⟨_, _, _, p3⟩ := addKid_old i hi q c a h
      rw [p3]
      by_cases hai : a = i
      · subst hai
        rw [if_pos rfl]
        have := rise_ins hce (T.srt a h) hq hn
        simpa [List.map_take, List.map_drop] using this
      · rw [if_neg hai]; exact T.srt a h
    · obtain rfl : a = N.length := by rw [addKid_len] at ha; omega
      obtain ⟨_, e'⟩ := addKid_new i hi q c
      rw [e']; exact List.Pairwise.nil
  · intro a ha
    rcases addKid_path i hi q c a ha with ⟨h1, e1⟩ | ⟨h1, e1⟩
    · rw [e1]; exact T.lv a h1
    · rw [e1]; exact hlv
  · intro a ha
    rcases Nat.lt_or_ge a N.length with h | h
    · obtain ⟨_, p1, p2, _⟩ := addKid_old i hi q c a h
      rw [p1, p2]; exact T.ids a h
    · obtain rfl : a = N.length := by rw [addKid_len] at ha; omega
      obtain ⟨_, e'⟩ := addKid_new i hi q c
      rw [e']
      refine ⟨List.nodup_nil, fun x => ⟨fun h => absurd h (by simp), ?_⟩⟩
      rintro ⟨l, hl, e⟩
      obtain ⟨k, hk, ek⟩ := T.all _ hl
      exact absurd (ek.trans e) (hfresh k hk)
  · intro k hk
    obtain ⟨a, ha, e⟩ := T.all k hk
    obtain ⟨h', e', _⟩ := addKid_old i hi q c a ha
    exact ⟨a, h', by rw [e']; exact e⟩
  · intro a ha
    rcases Nat.lt_or_ge a N.length with h | h
    · obtain ⟨_, _, _, p3⟩ := addKid_old i hi q c a h
      rw [p3, addKid_len]
      have h1 := T.kl a h
      by_cases hai : a = i
      · subst hai
        rw [if_pos rfl]
        simp
        omega
      · rw [if_neg hai]; omega
    · obtain rfl : a = N.length := by rw [addKid_len] at ha; omega
      obtain ⟨_, e'⟩ := addKid_new i hi q c
      rw [e', addKid_len]; simp
  · intro a ha
    rcases Nat.lt_or_ge a N.length with h | h
    · obtain ⟨_, _, p2, _⟩ := addKid_old i hi q c a h
      rw [p2]; exact T.il a h
    · obtain rfl : a = N.length := by rw [addKid_len] at ha; omega
      obtain ⟨_, e'⟩ := addKid_new i hi q c
      rw [e']; simp

/-- A filter ends at a node. -/
def addId (N : List (Nd α)) (i : Nat) (hi : i < N.length) (x : Int) : List (Nd α) := N.set i { N[i] with ids := N[i].ids ++ [x] }
theorem addId_len (i : Nat) (hi : i < N.length) (x : Int) : (addId N i hi x).length = N.length := by simp [addId]
theorem addId_at (i : Nat) (hi : i < N.length) (x : Int) (k : Nat) (hk : k < N.length) : ∃ h : k < (addId N i hi x).length, (addId N i hi x)[k].path = N[k].path ∧ (addId N i hi x)[k].kids = N[k].kids ∧ (addId N i hi x)[k].ids = if k = i then N[i].ids ++ [x] else N[k].ids := by
  refine ⟨by rw [addId_len]; exact hk, ?_⟩
  unfold addId
  by_cases h : k = i
  · subst h; simp
  · simp only [List.getElem_set_ne (fun e => h e.symm), if_neg h, and_self]
theorem TreeOK.put (T : TreeOK attr ce order ks N m) (i : Nat) (hi : i < N.length) (x : Int) (l : List α) (hx : ∀ l', (x, l') ∉ ks) (hp : N[i].path = way attr order l l.length) : TreeOK attr ce order (ks ++ [(x, l)]) (addId N i hi x) m := by
  have hat : ∀ k (hk : k < (addId N i hi x).length), ∃ h : k < N.length, (addId N i hi x)[k].path = N[k].path ∧ (addId N i hi x)[k].kids = N[k].kids ∧ (addId N i hi x)[k].ids = if k = i then N[i].ids ++ [x] else N[k].ids := fun k hk => by
    rw [addId_len] at hk
    obtain ⟨_, h⟩ := addId_at i hi x k hk
    exact ⟨hk, h⟩
  refine ⟨by rw [addId_len]; exact T.pos, ?_, ?_, ?_, ?_, ?_, ?_, ?_, ?_, by rw [addId_len]; exact T.cnt, ?_, ?_⟩
  · obtain ⟨_, h, _⟩ := addId_at i hi x 0 T.pos
    rw [h]; exact T.root
  · intro a b ha hb e
    obtain ⟨h1, e1, _⟩ := hat a ha
    obtain ⟨h2, e2, _⟩ := hat b hb
    rw [e1, e2] at e; exact T.nod a b h1 h2 e
  · intro a ha c j
    obtain ⟨h1, e1, e2, _⟩ := hat a ha
    rw [e1, e2, T.kid a h1 c j]
    constructor
    · rintro ⟨hj, e⟩
      obtain ⟨h', e', _⟩ := addId_at i hi x j hj
      exact ⟨h', by rw [e']; exact e⟩
    · rintro ⟨hj, e⟩
      obtain ⟨h', e', _⟩ := hat j hj
      exact ⟨h', by rw [← e']; exact e⟩
  · intro j hj hne
    obtain ⟨h1, e1, _⟩ := hat j hj
    rw [e1] at hne ⊢
    obtain ⟨p, hp, y, ey⟩ := T.par j h1 hne
    obtain ⟨h', e', _⟩ := addId_at i hi x p hp
    exact ⟨p, h', y, by rw [e']; exact ey⟩
  · intro a ha
    obtain ⟨h1, _, e2, _⟩ := hat a ha
    rw [e2]; exact T.srt a h1
  · intro a ha
    obtain ⟨h1, e1, _⟩ := hat a ha
    rw [e1]; exact T.lv a h1
  · intro a ha
    obtain ⟨h1, e1, _, e3⟩ := hat a ha
    rw [e1, e3]
    obtain ⟨n1, n2⟩ := T.ids a h1
    by_cases hai : a = i
    · subst hai
      rw [if_pos rfl]
      refine ⟨?_, fun y => ?_⟩
      · rw [List.nodup_append]
        refine ⟨n1, by simp, fun u hu v hv e => ?_⟩
        simp only [List.mem_singleton] at hv
        subst hv e
        obtain ⟨l', hl', _⟩ := (n2 u).1 hu
        exact hx l' hl'
      · simp only [List.mem_append, List.mem_singleton, n2]
        constructor
        · rintro (⟨l', h, e⟩ | rfl)
          · exact ⟨l', Or.inl h, e⟩
          · exact ⟨l, Or.inr rfl, hp.symm⟩
        · rintro ⟨l', h | h, e⟩
          · exact Or.inl ⟨l', h, e⟩
          · simp only [Prod.mk.injEq] at h
            exact Or.inr h.1
    · rw [if_neg hai]
      refine ⟨n1, fun y => ?_⟩
      rw [n2]
      constructor
      · rintro ⟨l', h, e⟩
        exact ⟨l', List.mem_append_left _ h, e⟩
      · rintro ⟨l', h, e⟩
        rcases List.mem_append.1 h with h | h
        · exact ⟨l', h, e⟩
        · simp only [List.mem_singleton, Prod.mk.injEq] at h
          obtain ⟨rfl, rfl⟩ := h
          exact absurd (T.nod a i h1 hi (by rw [hp, e])) hai
  · intro k hk
    rcases List.mem_append.1 hk with h | h
    · obtain ⟨a, ha, e⟩ := T.all k h
      obtain ⟨h', e', _⟩ := addId_at i hi x a ha
      exact ⟨a, h', by rw [e']; exact e⟩
    · simp only [List.mem_singleton] at h
      subst h
      obtain ⟨h', e', _⟩ := addId_at i hi x i hi
      exact ⟨i, h', by rw [e']; exact hp⟩
  · intro a ha
    obtain ⟨h1, _, e2, _⟩ := hat a ha
    rw [e2, addId_len]; exact T.kl a h1
  · intro a ha
    obtain ⟨h1, _, _, e3⟩ := hat a ha
    rw [e3]
    have h2 := T.il a h1
    by_cases hai : a = i
    · subst hai; rw [if_pos rfl]; simp; exact h2
    · rw [if_neg hai]; simp; omega

/-- The nodes that are reached from one. -/
def kidsMet (h : α → Bool) (kids : List (List α × Nat)) : List Nat := (kids.filter (fun k => k.1.all h)).map (·.2)
/-- The nodes of a level to which an event comes. -/
def front (h : α → Bool) (N : List (Nd α)) : Nat → List Nat
  | 0 => [0]
  | d + 1 => (front h N d).flatMap (fun i => kidsMet h ((N[i]?.map (·.kids)).getD []))
theorem front_ok (hce : TOrd ce) (h : α → Bool) (T : TreeOK attr ce order ks N m) : ∀ d, (front h N d).Nodup ∧ ∀ i, i ∈ front h N d ↔ ∃ hi : i < N.length, N[i].path.length = d ∧ pm h N[i].path = true
  | 0 => by
    refine ⟨by simp [front], fun i => ?_⟩
    simp only [front, List.mem_singleton]
    constructor
    · rintro rfl
      exact ⟨T.pos, by rw [T.root]; exact ⟨rfl, rfl⟩⟩
    · rintro ⟨hi, h1, _⟩
      exact T.nod i 0 hi T.pos (by rw [T.root]; exact List.eq_nil_of_length_eq_zero h1)
  | d + 1 => by
    obtain ⟨n1, n2⟩ := front_ok hce h T d
    have hk : ∀ i (hi : i < N.length), (N[i]?.map (·.kids)).getD [] = N[i].kids := fun i hi => by rw [List.getElem?_eq_getElem hi]; rfl
    have hmem : ∀ i (hi : i < N.length) j, j ∈ kidsMet h N[i].kids ↔ ∃ c, c.all h = true ∧ ∃ hj : j < N.length, N[j].path = N[i].path ++ [c] := fun i hi j => by
      simp only [kidsMet, List.mem_map, List.mem_filter]
      constructor
      · rintro ⟨⟨c, j'⟩, ⟨h1, h2⟩, rfl⟩
        exact ⟨c, h2, (T.kid i hi c j').1 h1⟩
      · rintro ⟨c, h2, h1⟩
        exact ⟨(c, j), ⟨(T.kid i hi c j).2 h1, h2⟩, rfl⟩
    refine ⟨?_, fun j => ?_⟩
    · unfold front List.Nodup
      rw [List.pairwise_flatMap]
      refine ⟨fun i hi => ?_, ?_⟩
      · obtain ⟨hi', _⟩ := (n2 i).1 hi
        rw [hk i hi']
        unfold kidsMet
        rw [List.pairwise_map]
        refine List.Pairwise.imp_of_mem (R := fun x y => ce x.1 y.1 < 0) (fun {a b} ha hb hab e => ?_) (List.Pairwise.filter _ (List.pairwise_map.1 (T.srt i hi')))
        obtain ⟨ca, ja⟩ := a
        obtain ⟨cb, jb⟩ := b
        simp only at e hab
        subst e
        obtain ⟨_, e1⟩ := (T.kid i hi' ca ja).1 (List.mem_filter.1 ha).1
        obtain ⟨_, e2⟩ := (T.kid i hi' cb ja).1 (List.mem_filter.1 hb).1
        rw [e1] at e2
        have := List.append_inj_right' e2 rfl
        simp only [List.cons.injEq, and_true] at this
        subst this
        rw [hce.refl] at hab; omega
      · refine List.Pairwise.imp_of_mem (fun {a b} ha hb hab x hx y hy e => ?_) n1
        subst e
        obtain ⟨ha', _⟩ := (n2 a).1 ha
        obtain ⟨hb', _⟩ := (n2 b).1 hb
        rw [hk a ha', hmem a ha'] at hx
        rw [hk b hb', hmem b hb'] at hy
        obtain ⟨c, _, hj, e1⟩ := hx
        obtain ⟨c', _, _, e2⟩ := hy
        rw [e1] at e2
        exact hab (T.nod a b ha' hb' (List.append_inj_left' e2 rfl))
    · unfold front
      rw [List.mem_flatMap]
      constructor
      · rintro ⟨i, hi, hj⟩
        obtain ⟨hi', h1, h2⟩ := (n2 i).1 hi
        rw [hk i hi', hmem i hi'] at hj
        obtain ⟨c, hc, hj', e⟩ := hj
        refine ⟨hj', by rw [e]; simp [h1], ?_⟩
        rw [e]; unfold pm at h2 ⊢
        rw [List.all_append, h2]; simp [hc]
      · rintro ⟨hj, h1, h2⟩
        obtain ⟨i, hi, c, e⟩ := T.par j hj (by intro e; rw [e] at h1; simp at h1)
        rw [e] at h1 h2
        unfold pm at h2
        rw [List.all_append, Bool.and_eq_true] at h2
        refine ⟨i, (n2 i).2 ⟨hi, by simpa using h1, h2.1⟩, ?_⟩
        rw [hk i hi, hmem i hi]
        exact ⟨c, by simpa using h2.2, hj, e⟩
/-- The numbers that an event meets, as the tree tells them. -/
def treeMet (h : α → Bool) (N : List (Nd α)) (n : Nat) : List Int := (List.range (n + 1)).flatMap (fun d => (front h N d).flatMap (fun i => (N[i]?.map (·.ids)).getD []))
theorem treeMet_succ (h : α → Bool) (N : List (Nd α)) (n : Nat) : treeMet h N (n + 1) = treeMet h N n ++ (front h N (n + 1)).flatMap (fun i => (N[i]?.map (·.ids)).getD []) := by
  unfold treeMet
  rw [List.range_succ, List.flatMap_append]; simp
theorem treeMet_ok (hce : TOrd ce) (h : α → Bool) (T : TreeOK attr ce order ks N m) (hid : ∀ x l l', (x, l) ∈ ks → (x, l') ∈ ks → l = l') (hn : order.Nodup) (hat : ∀ k ∈ ks, ∀ c ∈ k.2, attr c ∈ order) :
    (treeMet h N order.length).Nodup ∧ ∀ x, x ∈ treeMet h N order.length ↔ ∃ l, (x, l) ∈ ks ∧ l.all h = true := by
  have hi' : ∀ i (hi : i < N.length), (N[i]?.map (·.ids)).getD [] = N[i].ids := fun i hi => by rw [List.getElem?_eq_getElem hi]; rfl
  have hmem : ∀ i x, (∃ d, d ∈ List.range (order.length + 1) ∧ i ∈ front h N d) ∧ x ∈ (N[i]?.map (·.ids)).getD [] → ∃ hi : i < N.length, pm h N[i].path = true ∧ ∃ l, (x, l) ∈ ks ∧ way attr order l l.length = N[i].path := by
    rintro i x ⟨⟨d, _, hf⟩, hx⟩
    obtain ⟨hi, _, h2⟩ := ((front_ok hce h T d).2 i).1 hf
    rw [hi' i hi] at hx
    exact ⟨hi, h2, ((T.ids i hi).2 x).1 hx⟩
  constructor
  · unfold treeMet List.Nodup
    rw [List.pairwise_flatMap]
    refine ⟨fun d hd => ?_, ?_⟩
    · rw [List.pairwise_flatMap]
      obtain ⟨n1, n2⟩ := front_ok hce h T d
      refine ⟨fun i hi => ?_, List.Pairwise.imp_of_mem (fun {a b} ha hb hab x hx y hy e => ?_) n1⟩
      · obtain ⟨hi'', _⟩ := (n2 i).1 hi
        rw [hi' i hi'']
        exact (T.ids i hi'').1
      · subst e
        obtain ⟨ha', _, l, hl, el⟩ := hmem a x ⟨⟨d, hd, ha⟩, hx⟩
        obtain ⟨hb', _, l', hl', el'⟩ := hmem b x ⟨⟨d, hd, hb⟩, hy⟩
        obtain rfl := hid x l l' hl hl'
        exact hab (T.nod a b ha' hb' (by rw [← el, ← el']))
    · refine List.Pairwise.imp_of_mem (R := fun a b => a < b) (fun {a b} ha hb hab x hx y hy e => ?_) List.pairwise_lt_range
      subst e
      obtain ⟨i, hi, hxi⟩ := List.mem_flatMap.1 hx
      obtain ⟨j, hj, hxj⟩ := List.mem_flatMap.1 hy
      obtain ⟨p1, _, l, hl, el⟩ := hmem i x ⟨⟨a, ha, hi⟩, hxi⟩
      obtain ⟨p2, _, l', hl', el'⟩ := hmem j x ⟨⟨b, hb, hj⟩, hxj⟩
      obtain rfl := hid x l l' hl hl'
      obtain ⟨_, q1, _⟩ := ((front_ok hce h T a).2 i).1 hi
      obtain ⟨_, q2, _⟩ := ((front_ok hce h T b).2 j).1 hj
      rw [← el] at q1
      rw [← el'] at q2
      omega
  · intro x
    unfold treeMet
    simp only [List.mem_flatMap]
    constructor
    · rintro ⟨d, hd, i, hi, hx⟩
      obtain ⟨hi', h2, l, hl, el⟩ := hmem i x ⟨⟨d, hd, hi⟩, hx⟩
      refine ⟨l, hl, ?_⟩
      rw [← pm_way attr h l order hn (hat _ hl), el]; exact h2
    · rintro ⟨l, hl, hh⟩
      obtain ⟨i, hi, e⟩ := T.all _ hl
      have e : N[i].path = way attr order l l.length := e
      have hpm : pm h N[i].path = true := by rw [e, pm_way attr h l order hn (hat _ hl)]; exact hh
      refine ⟨N[i].path.length, ?_, i, ((front_ok hce h T _).2 i).2 ⟨hi, rfl, hpm⟩, ?_⟩
      · rw [List.mem_range]; have := (T.lv i hi).1; omega
      · rw [hi' i hi]
        exact ((T.ids i hi).2 x).2 ⟨l, hl, e.symm⟩
end
end Go.Proofs.YtpbblaeamddbgaaGreat
namespace Go.Proofs.YtpbblaeamddbgaaGreat

section
theorem snoc_ind {β : Type} {P : List β → Prop} (h0 : P []) (hs : ∀ V o, P V → P (V ++ [o])) (V : List β) : P V := by
  have h : ∀ U : List β, P U.reverse := fun U => by
    induction U with
    | nil => exact h0
    | cons o U ih => rw [List.reverse_cons]; exact hs _ _ ih
  have := h V.reverse
  rwa [List.reverse_reverse] at this
/-- What the counting has come to: how often each number was counted, and which were told. -/
structure Cnt where
  n : Int → Int
  told : List Int
def Cnt.step (s : Cnt) (o : Int × Int) : Cnt := ⟨fun x => if x = o.1 then s.n x + 1 else s.n x, if s.n o.1 + 1 = o.2 then s.told ++ [o.1] else s.told⟩
def Cnt.run (s : Cnt) (V : List (Int × Int)) : Cnt := V.foldl Cnt.step s
def Cnt.zero (l : List Int) : Cnt := ⟨fun _ => 0, l⟩
/-- How often a number is among those that are counted. -/
def times (V : List (Int × Int)) (x : Int) : Nat := (V.filter (fun o => o.1 == x)).length
theorem times_app (V : List (Int × Int)) (o : Int × Int) (x : Int) : times (V ++ [o]) x = times V x + if x = o.1 then 1 else 0 := by
  unfold times
  rw [List.filter_append, List.length_append]
  by_cases h : x = o.1
  · subst h; simp
  · have : (o.1 == x) = false := by simpa using fun e => h e.symm
    simp [this, h]
theorem run_snoc (s : Cnt) (V : List (Int × Int)) (o : Int × Int) : s.run (V ++ [o]) = (s.run V).step o := by
  unfold Cnt.run; rw [List.foldl_append]; rfl
theorem run_app (s : Cnt) (V U : List (Int × Int)) : s.run (V ++ U) = (s.run V).run U := by
  unfold Cnt.run; rw [List.foldl_append]
theorem cnt_n (l : List Int) (V : List (Int × Int)) (x : Int) : ((Cnt.zero l).run V).n x = times V x := by
  refine snoc_ind (P := fun V => ((Cnt.zero l).run V).n x = times V x) rfl (fun V o ih => ?_) V
  rw [run_snoc, times_app]
  simp only [Cnt.step]
  split
  · rw [ih]; omega
  · rw [ih]; omega
theorem cnt_told (need : Int → Int) (l : List Int) (V : List (Int × Int)) (hV : ∀ o ∈ V, o.2 = need o.1 ∧ 1 ≤ o.2) :
    ∃ M, ((Cnt.zero l).run V).told = l ++ M ∧ M.Nodup ∧ ∀ x, x ∈ M ↔ 1 ≤ times V x ∧ need x ≤ times V x := by
  revert hV
  refine snoc_ind (P := fun V => (∀ o ∈ V, o.2 = need o.1 ∧ 1 ≤ o.2) → ∃ M, ((Cnt.zero l).run V).told = l ++ M ∧ M.Nodup ∧ ∀ x, x ∈ M ↔ 1 ≤ times V x ∧ need x ≤ times V x) ?_ ?_ V
  · intro _
    exact ⟨[], by simp [Cnt.run, Cnt.zero], List.nodup_nil, fun x => by simp [times]⟩
  · intro V o ih hV
    obtain ⟨M, h1, h2, h3⟩ := ih (fun o ho => hV o (List.mem_append_left _ ho))
    obtain ⟨ho, hp⟩ := hV o (by simp)
    rw [run_snoc]
    simp only [Cnt.step, cnt_n]
    by_cases he : (times V o.1 : Int) + 1 = o.2
    · rw [if_pos he, h1]
      refine ⟨M ++ [o.1], by simp, ?_, fun x => ?_⟩
      · rw [List.nodup_append]
        refine ⟨h2, by simp, fun a ha b hb e => ?_⟩
        simp only [List.mem_singleton] at hb
        subst hb
        have := (h3 a).1 ha
        rw [e] at this
        omega
      · rw [List.mem_append, List.mem_singleton, h3, times_app]
        by_cases hx : x = o.1
        · subst hx; simp only [if_true]
          exact ⟨fun _ => by omega, fun _ => Or.inr trivial⟩
        · simp only [hx, if_false, or_false, Nat.add_zero]
    · rw [if_neg he, h1]
      refine ⟨M, rfl, h2, fun x => ?_⟩
      rw [h3, times_app]
      by_cases hx : x = o.1
      · subst hx; simp only [if_true]; omega
      · simp only [hx, if_false, Nat.add_zero]
end

/-- An entry of the index: a condition, and who has it. -/
structure En (α : Type) where
  c : α
  os : List (Int × Int)

/-- The index of some filters, its entries in whatever order. -/
structure IdxOK {α : Type} (ks : List (Int × List α)) (free : List Int) (E : List (En α)) : Prop where
  fn : free.Nodup
  fm : ∀ x, x ∈ free ↔ (x, []) ∈ ks
  cn : (E.map (·.c)).Nodup
  on : ∀ e ∈ E, (e.os.map (·.1)).Nodup
  om : ∀ e ∈ E, ∀ o, o ∈ e.os ↔ ∃ l, (o.1, l) ∈ ks ∧ e.c ∈ l ∧ o.2 = l.length
  al : ∀ x l, (x, l) ∈ ks → ∀ c ∈ l, ∃ e ∈ E, e.c = c
section
variable {α : Type} {ks : List (Int × List α)} {free : List Int} {E : List (En α)}
/-- Who is counted for an event. -/
def seen (h : α → Bool) (E : List (En α)) : List (Int × Int) := (E.filter (fun e => h e.c)).flatMap (·.os)
theorem times_flat (L : List (En α)) (hon : ∀ e ∈ L, (e.os.map (·.1)).Nodup) (x : Int) : times (L.flatMap (·.os)) x = (L.filter (fun e => e.os.any (fun o => o.1 == x))).length := by
  induction L with
  | nil => rfl
  | cons e L ih =>
    have h1 : times (e.os ++ L.flatMap (·.os)) x = times e.os x + times (L.flatMap (·.os)) x := by
      unfold times; rw [List.filter_append, List.length_append]
    rw [List.flatMap_cons, h1, ih (fun e he => hon e (List.mem_cons_of_mem _ he))]
    have h2 : times e.os x = if e.os.any (fun o => o.1 == x) then 1 else 0 := by
      have hn := hon e List.mem_cons_self
      generalize e.os = os at hn
      induction os with
      | nil => rfl
      | cons o os ih2 =>
        simp only [List.map_cons, List.nodup_cons] at hn
        have h3 := ih2 hn.2
        unfold times at h3 ⊢
        by_cases hx : (o.1 == x) = true
        · have hx' : o.1 = x := by simpa using hx
          have h4 : os.any (fun o => o.1 == x) = false := by
            rw [List.any_eq_false]
            intro y hy e
            exact hn.1 (List.mem_map.2 ⟨y, hy, by rw [hx']; simpa using e⟩)
          rw [h4] at h3
          simp only [List.filter_cons, hx, if_true, List.length_cons, h3, List.any_cons, Bool.true_or, Bool.false_eq_true, if_false]
        · have hx' : (o.1 == x) = false := by simpa using hx
          simp only [List.filter_cons, hx', Bool.false_eq_true, if_false, List.any_cons, Bool.false_or, h3]
    rw [h2, List.filter_cons]
    split
    · simp only [List.length_cons]; omega
    · omega
theorem seen_times (I : IdxOK ks free E) (hid : ∀ x l l', (x, l) ∈ ks → (x, l') ∈ ks → l = l') (hn : ∀ k ∈ ks, k.2.Nodup) (h : α → Bool) (x : Int) (l : List α) (hx : (x, l) ∈ ks) : times (seen h E) x = (l.filter h).length := by
  unfold seen
  rw [times_flat _ (fun e he => I.on e (List.mem_filter.1 he).1)]
  have hany : ∀ e ∈ E, (e.os.any (fun o => o.1 == x) = true ↔ e.c ∈ l) := fun e he => by
    rw [List.any_eq_true]
    constructor
    · rintro ⟨o, ho, hox⟩
      obtain ⟨l', h1, h2, _⟩ := (I.om e he o).1 ho
      have hox : o.1 = x := by simpa using hox
      rw [hox] at h1
      rw [hid x l l' hx h1]; exact h2
    · intro hc
      exact ⟨(x, l.length), (I.om e he _).2 ⟨l, hx, hc, rfl⟩, by simp⟩
  rw [← List.length_map (f := fun e : En α => e.c)]
  apply List.Perm.length_eq
  rw [List.perm_ext_iff_of_nodup]
  · intro c
    simp only [List.mem_map, List.mem_filter]
    constructor
    · rintro ⟨e, ⟨⟨he, h1⟩, h2⟩, rfl⟩
      exact ⟨(hany e he).1 h2, h1⟩
    · rintro ⟨hc, hh⟩
      obtain ⟨e, he, rfl⟩ := I.al x l hx c hc
      exact ⟨e, ⟨⟨he, hh⟩, (hany e he).2 hc⟩, rfl⟩
  · exact List.Pairwise.sublist (List.Sublist.map _ (List.Sublist.trans List.filter_sublist List.filter_sublist)) I.cn
  · exact List.Pairwise.filter _ (hn _ hx)
theorem idxMet_ok (I : IdxOK ks free E) (hid : ∀ x l l', (x, l) ∈ ks → (x, l') ∈ ks → l = l') (hn : ∀ k ∈ ks, k.2.Nodup) (h : α → Bool) (V : List (Int × Int)) (hV : V = seen h E) :
    ((Cnt.zero free).run V).told.Nodup ∧ ∀ x, x ∈ ((Cnt.zero free).run V).told ↔ ∃ l, (x, l) ∈ ks ∧ l.all h = true := by
  subst hV
  have hsrc : ∀ o ∈ seen h E, ∃ l, (o.1, l) ∈ ks ∧ l ≠ [] ∧ o.2 = l.length := fun o ho => by
    obtain ⟨e, he, hoe⟩ := List.mem_flatMap.1 ho
    obtain ⟨l, h1, h2, h3⟩ := (I.om e (List.mem_filter.1 he).1 o).1 hoe
    exact ⟨l, h1, fun e => by rw [e] at h2; simp at h2, h3⟩
  have hneed : ∃ need : Int → Int, ∀ x l, (x, l) ∈ ks → need x = l.length := by
    refine ⟨fun x => @dite _ (∃ l, (x, l) ∈ ks) (Classical.propDecidable _) (fun h => ((Classical.choose h).length : Int)) (fun _ => 0), fun x l hl => ?_⟩
    have hex : ∃ l, (x, l) ∈ ks := ⟨l, hl⟩
    simp only [dif_pos hex]
    rw [hid x _ _ (Classical.choose_spec hex) hl]
  obtain ⟨need, hneed⟩ := hneed
  obtain ⟨M, h1, h2, h3⟩ := cnt_told need free (seen h E) (fun o ho => by
    obtain ⟨l, a, b, c⟩ := hsrc o ho
    refine ⟨by rw [hneed _ _ a]; exact c, ?_⟩
    have : 0 < l.length := List.length_pos_iff.2 b
    omega)
  have hM : ∀ x, x ∈ M ↔ ∃ l, (x, l) ∈ ks ∧ l ≠ [] ∧ l.all h = true := fun x => by
    rw [h3]
    constructor
    · rintro ⟨a, b⟩
      have : 0 < ((seen h E).filter (fun o => o.1 == x)).length := a
      obtain ⟨o, ho⟩ := List.exists_mem_of_length_pos this
      obtain ⟨ho, hox⟩ := List.mem_filter.1 ho
      obtain ⟨l, c, d, _⟩ := hsrc o ho
      have hox : o.1 = x := by simpa using hox
      rw [hox] at c
      rw [seen_times I hid hn h x l c, hneed x l c] at b
      refine ⟨l, c, d, ?_⟩
      have hle := List.length_filter_le h l
      have he : (l.filter h).length = l.length := by omega
      rw [List.all_eq_true]
      exact (List.length_filter_eq_length_iff.1 he)
    · rintro ⟨l, a, b, c⟩
      rw [seen_times I hid hn h x l a, hneed x l a]
      have he : (l.filter h).length = l.length := by rw [List.length_filter_eq_length_iff]; exact List.all_eq_true.1 c
      have : 0 < l.length := List.length_pos_iff.2 b
      omega
  rw [h1]
  refine ⟨?_, fun x => ?_⟩
  · rw [List.nodup_append]
    refine ⟨I.fn, h2, fun a ha b hb e => ?_⟩
    subst e
    obtain ⟨l, c, d, _⟩ := (hM a).1 hb
    exact d (hid a l [] c ((I.fm a).1 ha))
  · rw [List.mem_append, I.fm, hM]
    constructor
    · rintro (h' | ⟨l, a, _, c⟩)
      · exact ⟨[], h', rfl⟩
      · exact ⟨l, a, c⟩
    · rintro ⟨l, a, c⟩
      by_cases hl : l = []
      · subst hl; exact Or.inl a
      · exact Or.inr ⟨l, a, hl, c⟩
end
end Go.Proofs.YtpbblaeamddbgaaGreat
