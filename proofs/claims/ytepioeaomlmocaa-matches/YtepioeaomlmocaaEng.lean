import Derived.Test.YtepioeaomlmocaaGood
import Derived.Test.YtepioeaomlmocaaShelf
namespace Go.Proofs.Ytepioeaomlmocaa
open Go.RowKit

/-- The program's engine, as it lies in memory. -/
def EngAt (w : World) (eb : Nat) (F : Nat → Prop) (sch : List Int) (flt : List (Int × List Cd)) : Prop :=
  F eb ∧ ∃ (sb sc : Nat) (fa : Option Addr) (fcap : Nat) (es : List Ent), es.map Ent.key = flt ∧ Row w eb 79 [.slice (some ⟨sb, 0, none⟩) sch.length sc, .slice fa es.length fcap] ∧ (F sb ∧ sb < w.heap.size) ∧ sb ≠ eb ∧ Ints w sb 0 sch
    ∧ OSl w 85 2 fa es.length fcap (es.flatMap Ent.cells) ∧ (∀ g, blkOf fa = some g → F g ∧ g ≠ eb ∧ g ≠ sb) ∧ ∀ e ∈ es, EntOK w F (fun b => b = eb ∨ blkOf fa = some b) e
theorem EngAt.kp {w w' : World} {eb : Nat} {F M : Nat → Prop} {sch : List Int} {flt : List (Int × List Cd)} (h : EngAt w eb F sch flt) (k : Kp M w w') (hm : ∀ b, F b → ¬ M b) : EngAt w' eb F sch flt := by
  obtain ⟨h1, sb, sc, fa, fcap, es, he, hr, hF, hne, hI, hO, hg, hE⟩ := h
  exact ⟨h1, sb, sc, fa, fcap, es, he, k.row hr (hm _ h1), ⟨hF.1, Nat.lt_of_lt_of_le hF.2 k.size⟩, hne, hI.kp k (hm _ hF.1), hO.kp k (fun g hg' => hm _ (hg g hg').1), hg, fun e he => (hE e he).kp k (fun b hb _ => hm b hb)⟩
theorem EngAt.mono {w : World} {eb : Nat} {F G : Nat → Prop} {sch : List Int} {flt : List (Int × List Cd)} (h : EngAt w eb F sch flt) (hm : ∀ b, F b → G b) : EngAt w eb G sch flt := by
  obtain ⟨h1, sb, sc, fa, fcap, es, he, hr, hF, hne, hI, hO, hg, hE⟩ := h
  exact ⟨hm _ h1, sb, sc, fa, fcap, es, he, hr, ⟨hm _ hF.1, hF.2⟩, hne, hI, hO, fun g hg' => ⟨hm _ (hg g hg').1, (hg g hg').2⟩, fun e he => (hE e he).mono (fun b h1 h2 _ => ⟨hm b h1, h2⟩)⟩

/-- Its blocks are old ones. -/
theorem EngAt.old {w : World} {eb : Nat} {F : Nat → Prop} {sch : List Int} {flt : List (Int × List Cd)} (h : EngAt w eb F sch flt) : EngAt w eb (fun b => F b ∧ b < w.heap.size) sch flt := by
  obtain ⟨h1, sb, sc, fa, fcap, es, he, hr, hF, hne, hI, hO, hg, hE⟩ := h
  exact ⟨⟨h1, hr.lt⟩, sb, sc, fa, fcap, es, he, hr, ⟨⟨hF.1, hF.2⟩, hF.2⟩, hne, hI, hO, fun g hg' => ⟨⟨(hg g hg').1, hO.lt hg'⟩, (hg g hg').2⟩, fun e he => (hE e he).mono (fun b h1 h2 h3 => ⟨⟨h1, h3⟩, h2⟩)⟩

theorem new_no (ao : Option Addr) (cap : Nat) (xs : List Int) (w : World) (hl : xs.length * 8 ≤ 140737488351232) (hx : Ixs w ao xs) (hs : schB xs = false) :
    Calls Try.prog 7 #[.slice ao xs.length cap] w fun e w' => e = .returned (.tuple #[.pointer none, .int .i64 1]) ∧ Ext w w' := by
  have H := schemaMayBe_any ao cap xs w hl hx
  rw [hs] at H
  have HH : Hid _ := H
  clear H hs
  go_enter Try.func7, Try.ntmps7
  go_wp2_with fail
  refine Calls.mono HH.out ?_
  rintro e w1 ⟨rfl, rfl⟩
  go_wp2
  go_ret2
  exact ⟨rfl, Ext.refl _⟩

theorem osl_of_own {w : World} {base e size n : Nat} {v : Value} {xs : List Value} (h : w.ownsRow base e size v n xs) (hv : v ≠ .slice none 0 0) : ∃ g cap, v = .slice (some ⟨g, 0, none⟩) n cap ∧ base ≤ g ∧ OSl w e size (some ⟨g, 0, none⟩) n cap xs := by
  obtain ⟨h1, ⟨h2, _⟩ | ⟨g, cap, cur, rfl, hb, r⟩⟩ := h
  · exact absurd h2 hv
  · exact ⟨g, cap, rfl, hb, h1, Or.inr ⟨g, cap, cur, rfl, Nat.zero_le _, r⟩⟩
theorem new_ok (ao : Option Addr) (cap : Nat) (xs : List Int) (w : World) (hl : xs.length * 8 ≤ 140737488351232) (hx : Ixs w ao xs) (hs : schB xs = true) :
    Calls Try.prog 7 #[.slice ao xs.length cap] w fun e w' => ∃ eb, e = .returned (.tuple #[.pointer (some ⟨eb, 0, none⟩), .int .i64 0]) ∧ Ext w w' ∧ EngAt w' eb (fun b => w.heap.size ≤ b ∧ b < w'.heap.size) xs [] := by
  have H := schemaMayBe_any ao cap xs w hl hx
  rw [hs] at H
  have HH : Hid _ := H
  have hl1 : 1 ≤ xs.length := by simp only [schB, Bool.and_eq_true, decide_eq_true_eq] at hs; exact hs.2.1
  obtain ⟨b, o, rfl, hI⟩ := hx hl1
  have HC : Hid _ := Try.slices_Clone_int b o xs.length cap xs w (Nat.le_refl _) (by omega) (fun j hj => by have := hI j hj; simpa [hj] using this)
  clear H hs
  go_enter Try.func7, Try.ntmps7
  go_wp2_with fail
  refine Calls.mono HH.out ?_
  rintro e w1 ⟨rfl, rfl⟩
  go_wp2_with fail
  refine Calls.mono HC.out ?_
  rintro e w2 ⟨v, rfl, hown, hne, hB⟩
  obtain ⟨g, c, rfl, hg, hO⟩ := osl_of_own hown hne
  rw [List.take_of_length_le (Nat.le_refl _)] at hO
  clear hown hne HC HH
  have hE2 : Ext w1 w2 := hB
  go_wp2
  go_ret2
  have hE3 : Ext w2 (w2.alloc (.cells #[.slice (some ⟨g, 0, none⟩) xs.length c, .slice none 0 0] 79)) := (Ext.refl _).alloc _
  have hz : (w2.alloc (.cells #[.slice (some ⟨g, 0, none⟩) xs.length c, .slice none 0 0] 79)).heap.size = w2.heap.size + 1 := by simp
  have hgl := hO.lt (g := g) rfl
  have z2 := hE2.le
  obtain ⟨g', e', hIn⟩ := ints_of_osl hO hl1
  cases e'
  refine ⟨w2.heap.size, rfl, hE2.trans hE3, ⟨z2, by rw [hz]; omega⟩, g, c, none, 0, [], rfl, row_alloc _ _ _ _ _ rfl rfl, ⟨⟨hg, by rw [hz]; omega⟩, by rw [hz]; omega⟩, by omega, hIn.kp (hE3.kp (fun _ => False)) (fun h => h), OSl.nil _ _ _, (fun g hg => by cases hg), fun e he => by cases he⟩
end Go.Proofs.Ytepioeaomlmocaa
