import Derived.Test.YtepioeaomlmocaaFind
namespace Go.Proofs.Ytepioeaomlmocaa
open Go.RowKit

theorem sclone_any (s : ByteArray) (w : World) (h : s.size ≤ 281474976710656) :
    Calls Try.prog 58 #[.string s] w fun e w' => e = .returned (.string s) ∧ Ext w w' := by
  have H : Hid _ := Try.stringslite_Clone s w h
  go_enter Try.func58, Try.ntmps58
  go_wp2_with fail
  refine Calls.mono H.out ?_
  rintro e w1 ⟨rfl, hB⟩
  go_wp2
  go_ret
  exact ⟨rfl, hB⟩
theorem flat_take {α : Type} (f : α → List Value) (n : Nat) (hf : ∀ x, (f x).length = n) : ∀ (l : List α) (k : Nat), (l.flatMap f).take (k * n) = (l.take k).flatMap f
  | [], k => by simp
  | x :: r, 0 => by simp
  | x :: r, k + 1 => by
    simp only [List.flatMap_cons, List.take_succ_cons]
    rw [List.take_append, List.take_of_length_le (by rw [hf]; rw [Nat.succ_mul]; omega), hf]
    congr 1
    rw [show (k + 1) * n - n = k * n by rw [Nat.succ_mul]; omega]
    exact flat_take f n hf r k
theorem flat_take_succ {α : Type} (f : α → List Value) (n : Nat) (hf : ∀ x, (f x).length = n) (l : List α) (k : Nat) (hk : k < l.length) : (l.flatMap f).take ((k + 1) * n) = (l.flatMap f).take (k * n) ++ f l[k] := by
  rw [flat_take f n hf, flat_take f n hf, List.take_succ_eq_append_getElem hk, List.flatMap_append, List.flatMap_singleton]
theorem Row.mid {w : World} {g : Nat} {T : TypeId} {l : List Value} (h : Row w g T l) (o n : Nat) (hn : o + n ≤ l.length) : w.there g o n := fun j hj => by
  rw [h.cell (j := o + j) (by omega)]
  exact ⟨rfl, h.frozen _⟩
theorem cd_one (c : Cd) : ∀ v ∈ c.cells, v.oneCell' = true := by
  intro v hv
  simp only [Cd.cells, List.mem_cons, List.not_mem_nil, or_false] at hv
  rcases hv with rfl | rfl | rfl | rfl | rfl | rfl <;> rfl
theorem cd_range {w : World} {b o : Nat} {l : List Cd} (h : Cds w b o l) (k : Nat) (hk : k < l.length) : w.rangeAt b (o + k * 6) l[k].cells := fun j v hj => by
  obtain ⟨h0, h1, h2, h3, h4, h5⟩ := h k hk
  have hj6 : j < 6 := by have := (List.getElem?_eq_some_iff.1 hj).1; simpa [Cd.cells] using this
  rcases (show j = 0 ∨ j = 1 ∨ j = 2 ∨ j = 3 ∨ j = 4 ∨ j = 5 by omega) with rfl | rfl | rfl | rfl | rfl | rfl <;> simp [Cd.cells] at hj <;> subst hj <;> assumption
theorem range_ext' {w w' : World} {b o : Nat} {cs : List Value} (h : w.rangeAt b o cs) (hE : Ext w w') : w'.rangeAt b o cs := fun j v hv => hE.cell (h j v hv)
theorem seg_take (Z T cs : List Value) (o : Nat) (h : Z.take o = T.take o) (ho : o ≤ Z.length) (hT : T.take (o + cs.length) = T.take o ++ cs) : (Z.take o ++ cs ++ Z.drop (o + cs.length)).take (o + cs.length) = T.take (o + cs.length) := by
  rw [List.take_left' (by simp; omega), hT, h]

set_option maxHeartbeats 800000 in
theorem copy_any (ao : Option Addr) (cap : Nat) (l : List Cd) (w : World) (hl : l.length ≤ 8) (hs : Cxs w ao l) (hz : ∀ j (hj : j < l.length), l[j].a.s.size ≤ 281474976710656 ∧ l[j].b.s.size ≤ 281474976710656) :
    Calls Try.prog 29 #[.slice ao l.length cap] w fun e w' => e = .returned (.slice (some ⟨w.heap.size, 0, none⟩) l.length l.length) ∧ Row w' w.heap.size 68 (l.flatMap Cd.cells) ∧ Ext w w' := by
  have HS : Hid (Cxs w ao l) := hs
  have HZ : Hid (∀ j (hj : j < l.length), l[j].a.s.size ≤ 281474976710656 ∧ l[j].b.s.size ≤ 281474976710656) := hz
  clear hs hz
  go_enter Try.func29, Try.ntmps29
  go_wp2_with (first
    | (at_make; refine wpList_make_row _ rfl _ _ 39 rfl 68 (.agg #[.int .i64 0, .int .i64 0, .int .i64 0, .string ⟨#[]⟩, .int .i64 0, .string ⟨#[]⟩]) 6 64 Try.underlying39 Try.infoCd _ _ _ _ l.length rfl rfl (by omega) (by omega) (by omega) (by unfold maxLen; omega) ?_; intro w1 Z hrow hlen hE1))
  go_loopw [11] (fun i wr => ∃ k : Nat, k ≤ l.length ∧ i = .int .i64 k ∧ Ext w wr ∧ ∃ Z, Row wr w.heap.size 68 Z ∧ Z.length = l.length * 6 ∧ Z.take (k * 6) = (l.flatMap Cd.cells).take (k * 6)) (fun i _ => l.length - (intOf i).toNat)
  case atStart => exact ⟨0, Nat.zero_le _, rfl, hE1, Z, hrow, hlen.out, by simp⟩
  case round =>
    obtain ⟨k, hk, rfl, hE, Y, hY, hYl, hYt⟩ := hrel
    have HY : Hid (Y.length = l.length * 6 ∧ Y.take (k * 6) = (l.flatMap Cd.cells).take (k * 6)) := ⟨hYl, hYt⟩
    clear hYl hYt hrow hlen hE1
    by_cases hlt : k < l.length
    · obtain ⟨b, o, rfl, hC⟩ := HS.out (by omega)
      have hr := range_ext' (cd_range hC k hlt) hE
      obtain ⟨z1, z2⟩ := HZ.out k hlt
      have HT : Hid _ := flat_take_succ Cd.cells 6 (fun _ => rfl) l k hlt
      generalize l[k] = c at *
      have ta : True := trivial
      have tb : True := trivial
      go_wp2_with (first
        | (refine wpList_load_mid rfl 68 _ rfl b (o + k * 6) rfl c.cells _ hr Try.underlying68 rfl Try.sizeCd ?_; clear hr)
        | (have _t := ta; refine wpList_store_row rfl 68 _ _ rfl wr.heap.size c.cells _ rfl rfl 68 (row_alloc _ _ _ _ _ rfl rfl) rfl Try.sizeCd (cd_one c) ?_; intro w2 hR hk2; have r3 := hR.at (j := 3) rfl; clear ta))
      refine (sclone_any c.a.s w2 z1).mono ?_
      rintro e w3 ⟨rfl, hE3⟩
      have hR3 := hR.ext hE3
      have q3 := hR3.at (j := 3) rfl
      have f3 := hR3.frozen
      have hR4 : Row (w3.setCell ⟨wr.heap.size, 3, none⟩ (.string c.a.s)) wr.heap.size 68 c.cells := hR3.set 3 _
      have q5 := hR4.at (j := 5) rfl
      clear r3
      go_wp2_with fail
      refine (sclone_any c.b.s _ z2).mono ?_
      rintro e w4 ⟨rfl, hE4⟩
      have hR5 := hR4.ext hE4
      have s5 := hR5.at (j := 5) rfl
      have f5 := hR5.frozen
      have hR6 : Row (w4.setCell ⟨wr.heap.size, 5, none⟩ (.string c.b.s)) wr.heap.size 68 c.cells := hR5.set 5 _
      have hEr : Ext wr (w4.setCell ⟨wr.heap.size, 5, none⟩ (.string c.b.s)) := (((((Ext.refl wr).alloc _).kpFresh hk2 (Nat.le_refl _)).trans hE3).setCell (Nat.le_refl _) _ |>.trans hE4).setCell (Nat.le_refl _) _
      have hY6 : Row (w4.setCell ⟨wr.heap.size, 5, none⟩ (.string c.b.s)) w.heap.size 68 Y := hY.ext hEr
      clear q3 q5 f3 hk2
      go_wp2_with (first
        | (refine wpList_load_row rfl 68 _ rfl wr.heap.size rfl c.cells _ 68 hR6 Try.underlying68 rfl Try.sizeCd ?_; clear hR6)
        | (have _t := tb; refine wpList_store_mid rfl 68 _ _ rfl w.heap.size (k * 6) c.cells.toArray rfl rfl (hY6.mid (k * 6) 6 (by rw [HY.out.1]; omega)) Try.sizeCd (all_oneCell_toArray (cd_one c)) ?_; clear tb))
      go_roundw
      case rel =>
        have hl6 : c.cells.length = 6 := rfl
        have hrow' := row_setCells c.cells (k * 6) _ Y hY6 (by rw [HY.out.1, hl6]; omega)
        have hEf : Ext w ((w4.setCell ⟨wr.heap.size, 5, none⟩ (.string c.b.s)).setCells w.heap.size (k * 6) c.cells) := (hE.trans hEr).kpFresh (kp_setCells (M := fun b => b = w.heap.size) rfl _ _ _ _ (Kp.refl _ _)) (Nat.le_refl _)
        have hst := seg_take Y (l.flatMap Cd.cells) c.cells (k * 6) HY.out.2 (by rw [HY.out.1]; omega) (by rw [hl6, show k * 6 + 6 = (k + 1) * 6 by omega]; exact HT.out)
        rw [hl6] at hst hrow'
        refine ⟨k + 1, by omega, by go_num, hEf, _, hrow', ?_, ?_⟩
        · simp [hl6, HY.out.1]; omega
        · rw [show (k + 1) * 6 = k * 6 + 6 by omega]; exact hst
      case measure => simp [intOf]; omega
    · have e1 : Y = l.flatMap Cd.cells := by
        have := HY.out.2
        rwa [List.take_of_length_le (by rw [HY.out.1]; omega), List.take_of_length_le (by rw [flat_len _ 6 (fun _ => rfl)]; omega)] at this
      subst e1
      clear HY HS HZ
      go_wp2
      go_ret
      exact ⟨rfl, hY, hE⟩
end Go.Proofs.Ytepioeaomlmocaa
