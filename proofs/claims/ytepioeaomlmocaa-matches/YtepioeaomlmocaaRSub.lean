import Derived.Test.YtepioeaomlmocaaRefS
namespace Go.Proofs.Ytepioeaomlmocaa
open Go.RowKit

theorem Try.infoFlt : (Try.prog.info? 116).map (fun i => (i.zero, i.size, i.bytes)) = some (some (.agg #[.int .i64 0, .slice none 0 0]), 2, 32) := by kernel_rfl

theorem May_is (rb b o cap : Nat) (sch : List Int) (c : Cd) (w : World) (hn : sch.length ≤ 6) (hr : w.cell? ⟨rb, 0, none⟩ = some (.slice (some ⟨b, o, none⟩) sch.length cap)) (hs : Ints w b o sch) (r : Bool) (h : mayB sch c = r) :
    Calls Try.prog 59 #[.pointer (some ⟨rb, 0, none⟩), .agg #[.int .i64 c.attr, .int .i64 c.kind, .int .i64 c.a.n, .string c.a.s, .int .i64 c.b.n, .string c.b.s]] w fun e w' => e = .returned (.bool r) ∧ Ext w w' := by
  subst h; exact May_any rb b o cap sch c w hn hr hs
theorem take_flat (es : List Ent) (j i : Nat) (u : Value) (h : ((es.take j).flatMap Ent.cells)[i]? = some u) : (es.flatMap Ent.cells)[i]? = some u := by
  have e : es.flatMap Ent.cells = (es.take j).flatMap Ent.cells ++ (es.drop j).flatMap Ent.cells := by rw [← List.flatMap_append, List.take_append_drop]
  rw [e, List.getElem?_append_left (List.getElem?_eq_some_iff.1 h).1]; exact h
theorem drop_flat (es : List Ent) (j i : Nat) (u : Value) (h : ((es.drop j).flatMap Ent.cells)[i]? = some u) : (es.flatMap Ent.cells)[j * 2 + i]? = some u := by
  have hil := (List.getElem?_eq_some_iff.1 h).1
  rw [ent_len] at hil
  simp only [List.length_drop] at hil
  have e : es.flatMap Ent.cells = (es.take j).flatMap Ent.cells ++ (es.drop j).flatMap Ent.cells := by rw [← List.flatMap_append, List.take_append_drop]
  have el : ((es.take j).flatMap Ent.cells).length = j * 2 := by rw [ent_len]; simp; omega
  rw [e, List.getElem?_append_right (by omega), el, Nat.add_sub_cancel_left]; exact h
theorem osl_take {w : World} {T : Nat} {fa : Option Addr} {n cap : Nat} {es : List Ent} (h : OSl w T 2 fa n cap (es.flatMap Ent.cells)) (j : Nat) (hj : j ≤ es.length) : 0 < j → ∃ ad, fa = some ad ∧ ∀ i u, ((es.take j).flatMap Ent.cells)[i]? = some u → w.cell? (ad.add i) = some u := by
  intro hp
  obtain ⟨g, rfl, _⟩ := h.at (ent_at es 0 (by omega)).1
  refine ⟨_, rfl, fun i u hu => ?_⟩
  obtain ⟨g', e, hc⟩ := h.at (take_flat es j i u hu)
  cases e
  rw [add_lt]; exact hc
theorem osl_drop {w : World} {T : Nat} {g n cap : Nat} {es : List Ent} (h : OSl w T 2 (some ⟨g, 0, none⟩) n cap (es.flatMap Ent.cells)) (j : Nat) : ∀ i u, ((es.drop j).flatMap Ent.cells)[i]? = some u → w.cell? ((⟨g, j * 2, none⟩ : Addr).add i) = some u := by
  intro i u hu
  obtain ⟨g', e, hc⟩ := h.at (drop_flat es j i u hu)
  cases e
  rw [add_at]; exact hc
theorem two_new (w : World) (T : TypeId) (x y : Value) : ∀ j u, [x, y][j]? = some u → (w.alloc (.cells #[x, y] T)).cell? ((⟨w.heap.size, 0, none⟩ : Addr).add j) = some u := by
  intro j u hj
  rw [add_lt]
  exact cell_new w _ T _ j rfl (by simpa using hj)
theorem Ext.kpNew {a b c : World} {M : Nat → Prop} (h : Ext a b) (k : Kp M b c) (hm : ∀ g, M g → a.heap.size ≤ g) : Ext a c :=
  ⟨k.os.trans h.os, k.tape.trans h.tape, k.output.trans h.output, Nat.le_trans h.size k.size, fun i hi => (k.block i (Nat.lt_of_lt_of_le hi h.size) (fun hM => absurd (hm i hM) (by omega))).trans (h.block i hi)⟩
theorem fresh1 {a : Nat} {w : World} {ao' : Option Addr} (hle : a ≤ w.heap.size) (hat : Hid (blkOf ao' = blkOf none ∨ blkOf ao' = some w.heap.size)) : ∀ g, blkOf ao' = some g → a ≤ g := by
  intro g hg
  rcases hat.out with e | e
  · rw [e] at hg; cases hg
  · rw [e] at hg; cases hg; exact hle
theorem fresh2 {a : Nat} {w : World} {ao ao' : Option Addr} (hle : a ≤ w.heap.size) (hf : ∀ g, blkOf ao = some g → a ≤ g) (hat : Hid (blkOf ao' = blkOf ao ∨ blkOf ao' = some w.heap.size)) : ∀ g, blkOf ao' = some g → a ≤ g := by
  intro g hg
  rcases hat.out with e | e
  · rw [e] at hg; exact hf g hg
  · rw [e] at hg; cases hg; exact hle

/-- What holds where a filter has come in. -/
def SubDone (rb : Nat) (sch : List Int) (sb sc : Nat) (ev : Int) (es : List Ent) (id : Int) (l : List Cd) (q : Nat) (w : World) (R : Ending → World → Prop) : Prop :=
  ∀ (w' : World) (ao1 : Option Addr) (cap1 : Nat) (fa' : Option Addr) (fcap' : Nat), Kp (fun b => b = rb) w w' → Row w' rb 94 [.slice (some ⟨sb, 0, none⟩) sch.length sc, .slice fa' (es.length + 1) fcap', .int .i64 ev] →
    OSl w' 116 2 fa' (es.length + 1) fcap' ((es.take q ++ ⟨id, l, ao1, cap1⟩ :: es.drop q).flatMap Ent.cells) → (∀ g, blkOf fa' = some g → w.heap.size ≤ g) →
    OSl w' 68 6 ao1 l.length cap1 (l.flatMap Cd.cells) → (∀ g, blkOf ao1 = some g → w.heap.size ≤ g) → R (.returned (.tuple #[.int .i64 0, .int .i64 0])) w'
theorem sub_tail {rb : Nat} {sch : List Int} {sb sc : Nat} {ev : Int} {es : List Ent} {id : Int} {l : List Cd} {q : Nat} {w w1 w4 : World} {R : Ending → World → Prop} {ao1 ao4 : Option Addr} {cap1 cap4 fcap : Nat} {fa : Option Addr} (h : SubDone rb sch sb sc ev es id l q w R)
    (hrow : Row w rb 94 [.slice (some ⟨sb, 0, none⟩) sch.length sc, .slice fa es.length fcap, .int .i64 ev]) (hE1 : Ext w w1) (hx4 : Ext w1 w4) (hown1 : OSl w1 68 6 ao1 l.length cap1 (l.flatMap Cd.cells))
    (hown4 : OSl w4 116 2 ao4 (q + 1 + (es.length - q)) cap4 ((es.take q).flatMap Ent.cells ++ [.int .i64 id, .slice ao1 l.length cap1] ++ (es.drop q).flatMap Ent.cells)) (hF1 : ∀ g, blkOf ao1 = some g → w.heap.size ≤ g) (hF4 : ∀ g, blkOf ao4 = some g → w1.heap.size ≤ g) (hq : q ≤ es.length) :
    R (.returned (.tuple #[.int .i64 0, .int .i64 0])) (w4.setCell ⟨rb, 1, none⟩ (.slice ao4 (q + 1 + (es.length - q)) cap4)) := by
  have e : q + 1 + (es.length - q) = es.length + 1 := by omega
  have hE4 := hE1.trans hx4
  have hrl := hrow.lt
  have hK : Kp (fun b => b = rb) w4 (w4.setCell ⟨rb, 1, none⟩ (.slice ao4 (q + 1 + (es.length - q)) cap4)) := (Kp.refl (fun b => b = rb) _).setCell (fun _ => rfl) _
  have hF4' : ∀ g, blkOf ao4 = some g → w.heap.size ≤ g := fun g hg => Nat.le_trans hE1.le (hF4 g hg)
  refine h _ ao1 cap1 ao4 cap4 ((hE4.kp _).trans hK) ?_ ?_ hF4' ?_ hF1
  · have := (hrow.ext hE4).set 1 (.slice ao4 (q + 1 + (es.length - q)) cap4)
    rw [e] at this ⊢
    simpa using this
  · have h4 := hown4.kp hK (fun g hg => by have := hF4' g hg; omega)
    have e2 : (es.take q ++ (⟨id, l, ao1, cap1⟩ : Ent) :: es.drop q).flatMap Ent.cells = (es.take q).flatMap Ent.cells ++ [.int .i64 id, .slice ao1 l.length cap1] ++ (es.drop q).flatMap Ent.cells := by
      rw [List.flatMap_append, List.flatMap_cons, List.append_assoc]; rfl
    rw [e2]
    rw [e] at h4 ⊢
    exact h4
  · exact (hown1.ext hx4).kp hK (fun g hg => by have := hF1 g hg; omega)

theorem sub_tailB {rb : Nat} {sch : List Int} {sb sc : Nat} {ev : Int} {es : List Ent} {id : Int} {l : List Cd} {w w1 w4 : World} {R : Ending → World → Prop} {ao1 ao4 : Option Addr} {cap1 cap4 fcap : Nat} {fa : Option Addr} (h : SubDone rb sch sb sc ev es id l es.length w R)
    (hrow : Row w rb 94 [.slice (some ⟨sb, 0, none⟩) sch.length sc, .slice fa es.length fcap, .int .i64 ev]) (hE1 : Ext w w1) (hx4 : Ext w1 w4) (hown1 : OSl w1 68 6 ao1 l.length cap1 (l.flatMap Cd.cells))
    (hown4 : OSl w4 116 2 ao4 (es.length + 1 + 0) cap4 ((es.take es.length).flatMap Ent.cells ++ [.int .i64 id, .slice ao1 l.length cap1] ++ [])) (hF1 : ∀ g, blkOf ao1 = some g → w.heap.size ≤ g) (hF4 : ∀ g, blkOf ao4 = some g → w1.heap.size ≤ g) :
    R (.returned (.tuple #[.int .i64 0, .int .i64 0])) (w4.setCell ⟨rb, 1, none⟩ (.slice ao4 (es.length + 1) cap4)) := by
  have := sub_tail (q := es.length) h hrow hE1 hx4 hown1 (by rw [Nat.sub_self, List.drop_length]; exact hown4) hF1 hF4 (Nat.le_refl _)
  rw [Nat.sub_self] at this
  exact this

set_option maxHeartbeats 3200000 in
set_option maxRecDepth 100000 in
theorem rSub_neg (rb : Nat) (id : Int) (ao : Option Addr) (n cap : Nat) (w : World) (h : id < 0) :
    Calls Try.prog 37 #[.pointer (some ⟨rb, 0, none⟩), .int .i64 id, .slice ao n cap] w fun e w' => e = .returned (.tuple #[.int .i64 2, .int .i64 0]) ∧ w' = w := by
  go_enter Try.func37, Try.ntmps37
  go_wp2
  go_ret2
  exact ⟨rfl, rfl⟩

set_option maxHeartbeats 3200000 in
set_option maxRecDepth 100000 in
theorem rSub_core (rb : Nat) (sch : List Int) (sb sc : Nat) (fa : Option Addr) (fcap : Nat) (ev : Int) (es : List Ent) (id : Int) (ao : Option Addr) (cap : Nat) (l : List Cd) (w : World) (hn : sch.length ≤ 6) (hf : es.length ≤ 100) (hl : l.length * 64 ≤ 140737488351232) (hid : ¬ id < 0)
    (hrow : Row w rb 94 [.slice (some ⟨sb, 0, none⟩) sch.length sc, .slice fa es.length fcap, .int .i64 ev]) (hI : Ints w sb 0 sch) (HO : OSl w 116 2 fa es.length fcap (es.flatMap Ent.cells)) (hc : Cxs w ao l) (hcnil : ao = none → l.length = 0 ∧ cap = 0)
    (q k : Nat) (hfa : fa ≠ none) (hq1 : q ≤ es.length) (hq2 : ∀ j (hj : j < es.length), j < q → es[j].id < id) (hq3 : ∀ hq : q < es.length, ¬ es[q].id < id) (hkB : BadOf sch l k) (R : Ending → World → Prop)
    (R3 : ∀ hq : q < es.length, es[q].id = id → R (.returned (.tuple #[.int .i64 3, .int .i64 0])) w) (R4 : (∀ hq : q < es.length, ¬ es[q].id = id) → 8 < l.length → R (.returned (.tuple #[.int .i64 4, .int .i64 0])) w)
    (R5 : (∀ hq : q < es.length, ¬ es[q].id = id) → ¬ 8 < l.length → k < l.length → ∀ w', Ext w w' → R (.returned (.tuple #[.int .i64 5, .int .i64 k])) w')
    (R6 : (∀ hq : q < es.length, ¬ es[q].id = id) → ¬ 8 < l.length → ¬ k < l.length → 100 ≤ es.length → ∀ w', Ext w w' → R (.returned (.tuple #[.int .i64 6, .int .i64 0])) w')
    (R0 : (∀ hq : q < es.length, ¬ es[q].id = id) → ¬ 8 < l.length → ¬ k < l.length → ¬ 100 ≤ es.length → SubDone rb sch sb sc ev es id l q w R) :
    Calls Try.prog 37 #[.pointer (some ⟨rb, 0, none⟩), .int .i64 id, .slice ao l.length cap] w R := by
  have r0 := hrow.at (j := 0) rfl
  have r1 := hrow.at (j := 1) rfl
  have HQ2 : Hid (∀ j (hj : j < es.length), j < q → es[j].id < id) := hq2
  have HQ3 : Hid (∀ hq : q < es.length, ¬ es[q].id < id) := hq3
  have hcn : Hid (ao = none → l.length = 0 ∧ cap = 0) := hcnil
  have HR3 : Hid _ := R3
  have HR4 : Hid _ := R4
  have HR5 : Hid _ := R5
  have HR6 : Hid _ := R6
  have HR0 : Hid _ := R0
  have HB : Hid (BadOf sch l k) := hkB
  clear R3 R4 R5 R6 R0 hq2 hq3 hcnil hkB
  go_enter Try.func37, Try.ntmps37
  go_wp2
  go_loop [8] (fun i => ∃ j : Nat, j ≤ q ∧ i = .int .i64 j) (fun i => es.length - (intOf i).toNat)
  case atStart => exact ⟨0, Nat.zero_le _, rfl⟩
  case round =>
    obtain ⟨j, hj, rfl⟩ := hrel
    by_cases hjq : j < q
    · have hjl : j < es.length := by omega
      obtain ⟨fb, rfl, e0⟩ := HO.at (ent_at es j hjl).1
      have hlt := HQ2.out j hjl hjq
      generalize es[j].id = ej at *
      go_wp2
      go_round
      case rel => exact ⟨j + 1, by omega, by go_num⟩
      case measure => simp [intOf]; omega
    · obtain rfl : j = q := by omega
      by_cases hjl : j < es.length
      · obtain ⟨fb, rfl, e0⟩ := HO.at (ent_at es j hjl).1
        have hge : id ≤ es[j].id := by have := HQ3.out hjl; omega
        by_cases hd : es[j].id = id
        · have hR := HR3.out hjl hd
          have hd' : (es[j].id == id) = true := by simpa using hd
          generalize es[j].id = ej at *
          have HRR : Hid _ := hR
          clear hR hd
          go_wp2
          exact HRR.out
        · have hnd : Hid (∀ hq : j < es.length, ¬ es[j].id = id) := fun _ => hd
          have hcp : es.length ≤ fcap := by rcases HO.form with ⟨h, _⟩ | ⟨_, _, _, _, h, _⟩; cases h; exact h
          have hd' : (es[j].id == id) = false := by simpa using hd
          generalize hej : es[j].id = ej at e0 hge hd'
          clear hd hej
          have hgt : ¬ ej < id := by omega
          by_cases h8 : 8 < l.length
          · go_wp2
            exact HR4.out hnd.out h8
          · go_wp2
            go_loopw [9] (fun i wr => ∃ m : Nat, m ≤ k ∧ i = .int .i64 m ∧ Ext w wr) (fun i _ => l.length - (intOf i).toNat)
            case atStart => exact ⟨0, Nat.zero_le _, rfl, Ext.refl _⟩
            case round =>
              obtain ⟨m, hm, rfl, hE⟩ := hrel
              have rr0 := hE.cell r0
              have rr1 := hE.cell r1
              have hII := hI.ext hE
              have hCC := hc.ext hE
              by_cases hml : m < l.length
              · obtain ⟨cb, co, rfl, hD⟩ := hCC (by omega)
                obtain ⟨d0, d1, d2, d3, d4, d5⟩ := hD m hml
                by_cases hmk : m < k
                · have hmay := HB.out.2.1 m hml hmk
                  have hmayH : Hid (mayB sch l[m] = true) := hmay
                  clear hmay hCC hD
                  go_wp2_with fail
                  refine (May_is rb sb 0 sc sch l[m] _ hn rr0 hII true hmayH.out).mono ?_
                  rintro e w1 ⟨rfl, hb⟩
                  clear hII d0 d1 d2 d3 d4 d5 rr0 rr1
                  go_wp2
                  go_roundw
                  case rel => exact ⟨m + 1, by omega, by go_num, hE.trans hb⟩
                  case measure => simp [intOf]; omega
                · obtain rfl : m = k := by omega
                  have hmayH : Hid (mayB sch l[m] = false) := HB.out.2.2 hml
                  clear hCC hD
                  go_wp2_with fail
                  refine (May_is rb sb 0 sc sch l[m] _ hn rr0 hII false hmayH.out).mono ?_
                  rintro e w1 ⟨rfl, hb⟩
                  clear hII d0 d1 d2 d3 d4 d5 rr0 rr1
                  go_wp2
                  exact HR5.out hnd.out h8 hml _ (hE.trans hb)
              · have hkl : ¬ k < l.length := by omega
                clear hII
                by_cases h100 : 100 ≤ es.length
                · go_wp2
                  exact HR6.out hnd.out h8 hkl h100 _ hE
                · have hOO := HO.ext hE
                  have tok1 : True := trivial
                  have tok2 : True := trivial
                  have tok3 : True := trivial
                  have tok4 : True := trivial
                  go_wp2_with (first
                    | (at_builtin; have _t := tok1; go_must (refine wpList_app rfl (.tmp 79) (.tmp 80) 39 rfl 68 (.agg #[.int .i64 0, .int .i64 0, .int .i64 0, .string ⟨#[]⟩, .int .i64 0, .string ⟨#[]⟩]) 6 64 Try.underlying39 Try.infoCd rfl (by decide) none 0 0 [] rfl (OSl.nil _ _ _) ao l.length cap (l.flatMap Cd.cells) rfl hcn.out (flat_len _ 6 (fun _ => rfl) l) (cds_src hCC) (cds_oneCell l) (by unfold maxLen; omega) (by omega) ?_; intro ao1 cap1 w1 hown1 hk1 hat1; simp only [Nat.zero_add, List.nil_append] at hown1; have hx1 : Ext wr w1 := hk1.ext (fun _ _ h => by cases h); have hE1 : Ext w w1 := hE.trans hx1; have q1 := hE1.cell r1; have hF1 : Hid (∀ g, blkOf ao1 = some g → w.heap.size ≤ g) := fresh1 hE.le hat1; clear hk1 tok1 hat1))
                    | (at_builtin; have _t := tok2; go_must (refine wpList_app rfl (.tmp 82) (.tmp 88) 92 rfl 116 (.agg #[.int .i64 0, .slice none 0 0]) 2 32 Try.underlying92 Try.infoFlt rfl (by decide) none 0 0 [] rfl (OSl.nil _ _ _) _ j _ ((es.take j).flatMap Ent.cells) rfl (by intro h; cases h) (by rw [ent_len]; simp; omega) (osl_take (HO.ext hE1) j hq1) (ent_one _) (by unfold maxLen; omega) (by omega) ?_; intro ao2 cap2 w2 hown2 hk2 hat2; simp only [Nat.zero_add, List.nil_append] at hown2; have hx2 : Ext w1 w2 := hk2.ext (fun _ _ h => by cases h); have hE2 : Ext w w2 := hE1.trans hx2; have q2 := hE2.cell r1; have hF2 : Hid (∀ g, blkOf ao2 = some g → w1.heap.size ≤ g) := fresh1 (Nat.le_refl _) hat2; clear hk2 tok2 hat2))
                    | (at_builtin; have _t := tok3; go_must (refine wpList_app rfl (.tmp 90) (.tmp 94) 92 rfl 116 (.agg #[.int .i64 0, .slice none 0 0]) 2 32 Try.underlying92 Try.infoFlt rfl (by decide) ao2 j cap2 _ rfl (OSl.ext hown2 ((Ext.refl _).alloc _)) (some ⟨w2.heap.size, 0, none⟩) 1 1 [.int .i64 id, .slice ao1 l.length cap1] rfl (by intro h; cases h) rfl (fun _ => ⟨_, rfl, two_new _ _ _ _⟩) (by intro u hu; simp at hu; rcases hu with rfl | rfl <;> rfl) (by unfold maxLen; omega) (by omega) ?_; intro ao3 cap3 w3 hown3 hk3 hat3; have hx3 : Ext w1 w3 := (hx2.alloc _).kpNew hk3 hF2.out; have hE3 : Ext w w3 := hE1.trans hx3; have q3 := hE3.cell r1; have hF3 : Hid (∀ g, blkOf ao3 = some g → w1.heap.size ≤ g) := fresh2 (hx2.alloc _).le hF2.out hat3; clear hk3 tok3 hat3))
                    | (at_builtin; have _t := tok4; go_must (refine wpList_app rfl (.tmp 97) (.tmp 103) 92 rfl 116 (.agg #[.int .i64 0, .slice none 0 0]) 2 32 Try.underlying92 Try.infoFlt rfl (by decide) ao3 (j + 1) cap3 _ rfl hown3 _ (es.length - j) _ ((es.drop j).flatMap Ent.cells) rfl (by intro h; cases h) (by rw [ent_len]; simp) (fun _ => ⟨_, rfl, osl_drop (HO.ext hE3) j⟩) (ent_one _) (by unfold maxLen; omega) (by omega) ?_; intro ao4 cap4 w4 hown4 hk4 hat4; have hx4 : Ext w1 w4 := hx3.kpNew hk4 hF3.out; have hE4 : Ext w w4 := hE1.trans hx4; have q4 := hE4.cell r1; have z4 := (hrow.ext hE4).frozen 1; have hF4 : Hid (∀ g, blkOf ao4 = some g → w1.heap.size ≤ g) := fresh2 hx3.le hF3.out hat4; clear tok4 hat4)))
                  exact sub_tail (HR0.out hnd.out h8 hkl h100) hrow hE1 hx4 hown1 hown4 hF1.out hF4.out (by omega)
      · have hnd : Hid (∀ hq : j < es.length, ¬ es[j].id = id) := fun h => absurd h hjl
        obtain rfl : j = es.length := by omega
        rcases HO.form with ⟨rfl, _⟩ | ⟨fb, cur, rfl, _, hcp, _⟩
        · exact absurd rfl hfa
        · by_cases h8 : 8 < l.length
          · go_wp2
            exact HR4.out hnd.out h8
          · go_wp2
            go_loopw [9] (fun i wr => ∃ m : Nat, m ≤ k ∧ i = .int .i64 m ∧ Ext w wr) (fun i _ => l.length - (intOf i).toNat)
            case atStart => exact ⟨0, Nat.zero_le _, rfl, Ext.refl _⟩
            case round =>
              obtain ⟨m, hm, rfl, hE⟩ := hrel
              have rr0 := hE.cell r0
              have rr1 := hE.cell r1
              have hII := hI.ext hE
              have hCC := hc.ext hE
              by_cases hml : m < l.length
              · obtain ⟨cb, co, rfl, hD⟩ := hCC (by omega)
                obtain ⟨d0, d1, d2, d3, d4, d5⟩ := hD m hml
                by_cases hmk : m < k
                · have hmay := HB.out.2.1 m hml hmk
                  have hmayH : Hid (mayB sch l[m] = true) := hmay
                  clear hmay hCC hD
                  go_wp2_with fail
                  refine (May_is rb sb 0 sc sch l[m] _ hn rr0 hII true hmayH.out).mono ?_
                  rintro e w1 ⟨rfl, hb⟩
                  clear hII d0 d1 d2 d3 d4 d5 rr0 rr1
                  go_wp2
                  go_roundw
                  case rel => exact ⟨m + 1, by omega, by go_num, hE.trans hb⟩
                  case measure => simp [intOf]; omega
                · obtain rfl : m = k := by omega
                  have hmayH : Hid (mayB sch l[m] = false) := HB.out.2.2 hml
                  clear hCC hD
                  go_wp2_with fail
                  refine (May_is rb sb 0 sc sch l[m] _ hn rr0 hII false hmayH.out).mono ?_
                  rintro e w1 ⟨rfl, hb⟩
                  clear hII d0 d1 d2 d3 d4 d5 rr0 rr1
                  go_wp2
                  exact HR5.out hnd.out h8 hml _ (hE.trans hb)
              · have hkl : ¬ k < l.length := by omega
                clear hII
                by_cases h100 : 100 ≤ es.length
                · go_wp2
                  exact HR6.out hnd.out h8 hkl h100 _ hE
                · have hOO := HO.ext hE
                  have tok1 : True := trivial
                  have tok2 : True := trivial
                  have tok3 : True := trivial
                  have tok4 : True := trivial
                  go_wp2_with (first
                    | (at_builtin; have _t := tok1; go_must (refine wpList_app rfl (.tmp 79) (.tmp 80) 39 rfl 68 (.agg #[.int .i64 0, .int .i64 0, .int .i64 0, .string ⟨#[]⟩, .int .i64 0, .string ⟨#[]⟩]) 6 64 Try.underlying39 Try.infoCd rfl (by decide) none 0 0 [] rfl (OSl.nil _ _ _) ao l.length cap (l.flatMap Cd.cells) rfl hcn.out (flat_len _ 6 (fun _ => rfl) l) (cds_src hCC) (cds_oneCell l) (by unfold maxLen; omega) (by omega) ?_; intro ao1 cap1 w1 hown1 hk1 hat1; simp only [Nat.zero_add, List.nil_append] at hown1; have hx1 : Ext wr w1 := hk1.ext (fun _ _ h => by cases h); have hE1 : Ext w w1 := hE.trans hx1; have q1 := hE1.cell r1; have hF1 : Hid (∀ g, blkOf ao1 = some g → w.heap.size ≤ g) := fresh1 hE.le hat1; clear hk1 tok1 hat1))
                    | (at_builtin; have _t := tok2; go_must (refine wpList_app rfl (.tmp 82) (.tmp 88) 92 rfl 116 (.agg #[.int .i64 0, .slice none 0 0]) 2 32 Try.underlying92 Try.infoFlt rfl (by decide) none 0 0 [] rfl (OSl.nil _ _ _) _ es.length _ ((es.take es.length).flatMap Ent.cells) rfl (by intro h; cases h) (by rw [ent_len]; simp) (osl_take (HO.ext hE1) es.length hq1) (ent_one _) (by unfold maxLen; omega) (by omega) ?_; intro ao2 cap2 w2 hown2 hk2 hat2; simp only [Nat.zero_add, List.nil_append] at hown2; have hx2 : Ext w1 w2 := hk2.ext (fun _ _ h => by cases h); have hE2 : Ext w w2 := hE1.trans hx2; have q2 := hE2.cell r1; have hF2 : Hid (∀ g, blkOf ao2 = some g → w1.heap.size ≤ g) := fresh1 (Nat.le_refl _) hat2; clear hk2 tok2 hat2))
                    | (at_builtin; have _t := tok3; go_must (refine wpList_app rfl (.tmp 90) (.tmp 94) 92 rfl 116 (.agg #[.int .i64 0, .slice none 0 0]) 2 32 Try.underlying92 Try.infoFlt rfl (by decide) ao2 es.length cap2 _ rfl (OSl.ext hown2 ((Ext.refl _).alloc _)) (some ⟨w2.heap.size, 0, none⟩) 1 1 [.int .i64 id, .slice ao1 l.length cap1] rfl (by intro h; cases h) rfl (fun _ => ⟨_, rfl, two_new _ _ _ _⟩) (by intro u hu; simp at hu; rcases hu with rfl | rfl <;> rfl) (by unfold maxLen; omega) (by omega) ?_; intro ao3 cap3 w3 hown3 hk3 hat3; have hx3 : Ext w1 w3 := (hx2.alloc _).kpNew hk3 hF2.out; have hE3 : Ext w w3 := hE1.trans hx3; have q3 := hE3.cell r1; have hF3 : Hid (∀ g, blkOf ao3 = some g → w1.heap.size ≤ g) := fresh2 (hx2.alloc _).le hF2.out hat3; clear hk3 tok3 hat3))
                    | (at_builtin; have _t := tok4; go_must (refine wpList_app rfl (.tmp 97) (.tmp 103) 92 rfl 116 (.agg #[.int .i64 0, .slice none 0 0]) 2 32 Try.underlying92 Try.infoFlt rfl (by decide) ao3 (es.length + 1) cap3 _ rfl hown3 _ 0 _ [] rfl (by intro h; split at h <;> cases h) rfl (fun h => absurd h (by omega)) (by intro u hu; simp at hu) (by unfold maxLen; omega) (by omega) ?_; intro ao4 cap4 w4 hown4 hk4 hat4; have hx4 : Ext w1 w4 := hx3.kpNew hk4 hF3.out; have hE4 : Ext w w4 := hE1.trans hx4; have q4 := hE4.cell r1; have z4 := (hrow.ext hE4).frozen 1; have hF4 : Hid (∀ g, blkOf ao4 = some g → w1.heap.size ≤ g) := fresh2 hx3.le hF3.out hat4; clear tok4 hat4)))
                  all_goals exact sub_tailB (HR0.out hnd.out h8 hkl h100) hrow hE1 hx4 hown1 hown4 hF1.out hF4.out

set_option maxHeartbeats 3200000 in
set_option maxRecDepth 100000 in
theorem rSub_nil (rb : Nat) (sch : List Int) (sb sc : Nat) (ev : Int) (id : Int) (ao : Option Addr) (cap : Nat) (l : List Cd) (w : World) (hn : sch.length ≤ 6) (hl : l.length * 64 ≤ 140737488351232) (hid : ¬ id < 0)
    (hrow : Row w rb 94 [.slice (some ⟨sb, 0, none⟩) sch.length sc, .slice none 0 0, .int .i64 ev]) (hI : Ints w sb 0 sch) (HO : OSl w 116 2 none 0 0 []) (hc : Cxs w ao l) (hcnil : ao = none → l.length = 0 ∧ cap = 0)
    (k : Nat) (hkB : BadOf sch l k) (R : Ending → World → Prop)
    (R4 : 8 < l.length → R (.returned (.tuple #[.int .i64 4, .int .i64 0])) w) (R5 : ¬ 8 < l.length → k < l.length → ∀ w', Ext w w' → R (.returned (.tuple #[.int .i64 5, .int .i64 k])) w')
    (R0 : ¬ 8 < l.length → ¬ k < l.length → SubDone rb sch sb sc ev [] id l 0 w R) :
    Calls Try.prog 37 #[.pointer (some ⟨rb, 0, none⟩), .int .i64 id, .slice ao l.length cap] w R := by
  have r0 := hrow.at (j := 0) rfl
  have r1 := hrow.at (j := 1) rfl
  have hcn : Hid (ao = none → l.length = 0 ∧ cap = 0) := hcnil
  have HR4 : Hid _ := R4
  have HR5 : Hid _ := R5
  have HR0 : Hid _ := R0
  have HB : Hid (BadOf sch l k) := hkB
  have hnd : Hid True := trivial
  clear R4 R5 R0 hcnil hkB
  go_enter Try.func37, Try.ntmps37
  go_wp2
  go_loop [8] (fun i => i = .int .i64 0) (fun _ => 0)
  case atStart => rfl
  case round =>
    subst hrel
    by_cases h8 : 8 < l.length
    · go_wp2
      exact HR4.out h8
    · go_wp2
      go_loopw [9] (fun i wr => ∃ m : Nat, m ≤ k ∧ i = .int .i64 m ∧ Ext w wr) (fun i _ => l.length - (intOf i).toNat)
      case atStart => exact ⟨0, Nat.zero_le _, rfl, Ext.refl _⟩
      case round =>
        obtain ⟨m, hm, rfl, hE⟩ := hrel
        have rr0 := hE.cell r0
        have rr1 := hE.cell r1
        have hII := hI.ext hE
        have hCC := hc.ext hE
        by_cases hml : m < l.length
        · obtain ⟨cb, co, rfl, hD⟩ := hCC (by omega)
          obtain ⟨d0, d1, d2, d3, d4, d5⟩ := hD m hml
          by_cases hmk : m < k
          · have hmay := HB.out.2.1 m hml hmk
            have hmayH : Hid (mayB sch l[m] = true) := hmay
            clear hmay hCC hD
            go_wp2_with fail
            refine (May_is rb sb 0 sc sch l[m] _ hn rr0 hII true hmayH.out).mono ?_
            rintro e w1 ⟨rfl, hb⟩
            clear hII d0 d1 d2 d3 d4 d5 rr0 rr1
            go_wp2
            go_roundw
            case rel => exact ⟨m + 1, by omega, by go_num, hE.trans hb⟩
            case measure => simp [intOf]; omega
          · obtain rfl : m = k := by omega
            have hmayH : Hid (mayB sch l[m] = false) := HB.out.2.2 hml
            clear hCC hD
            go_wp2_with fail
            refine (May_is rb sb 0 sc sch l[m] _ hn rr0 hII false hmayH.out).mono ?_
            rintro e w1 ⟨rfl, hb⟩
            clear hII d0 d1 d2 d3 d4 d5 rr0 rr1
            go_wp2
            exact HR5.out h8 hml _ (hE.trans hb)
        · have hkl : ¬ k < l.length := by omega
          clear hII
          · have hOO := HO.ext hE
            have tok1 : True := trivial
            have tok2 : True := trivial
            have tok3 : True := trivial
            have tok4 : True := trivial
            go_wp2_with (first
              | (at_builtin; have _t := tok1; go_must (refine wpList_app rfl (.tmp 79) (.tmp 80) 39 rfl 68 (.agg #[.int .i64 0, .int .i64 0, .int .i64 0, .string ⟨#[]⟩, .int .i64 0, .string ⟨#[]⟩]) 6 64 Try.underlying39 Try.infoCd rfl (by decide) none 0 0 [] rfl (OSl.nil _ _ _) ao l.length cap (l.flatMap Cd.cells) rfl hcn.out (flat_len _ 6 (fun _ => rfl) l) (cds_src hCC) (cds_oneCell l) (by unfold maxLen; omega) (by omega) ?_; intro ao1 cap1 w1 hown1 hk1 hat1; simp only [Nat.zero_add, List.nil_append] at hown1; have hx1 : Ext wr w1 := hk1.ext (fun _ _ h => by cases h); have hE1 : Ext w w1 := hE.trans hx1; have q1 := hE1.cell r1; have hF1 : Hid (∀ g, blkOf ao1 = some g → w.heap.size ≤ g) := fresh1 hE.le hat1; clear hk1 tok1 hat1))
              | (at_builtin; have _t := tok2; go_must (refine wpList_app rfl (.tmp 82) (.tmp 88) 92 rfl 116 (.agg #[.int .i64 0, .slice none 0 0]) 2 32 Try.underlying92 Try.infoFlt rfl (by decide) none 0 0 [] rfl (OSl.nil _ _ _) _ 0 _ [] rfl (fun _ => ⟨rfl, rfl⟩) rfl (fun h => absurd h (by omega)) (by intro u hu; simp at hu) (by unfold maxLen; omega) (by omega) ?_; intro ao2 cap2 w2 hown2 hk2 hat2; simp only [Nat.zero_add, List.nil_append] at hown2; have hx2 : Ext w1 w2 := hk2.ext (fun _ _ h => by cases h); have hE2 : Ext w w2 := hE1.trans hx2; have q2 := hE2.cell r1; have hF2 : Hid (∀ g, blkOf ao2 = some g → w1.heap.size ≤ g) := fresh1 (Nat.le_refl _) hat2; clear hk2 tok2 hat2))
              | (at_builtin; have _t := tok3; go_must (refine wpList_app rfl (.tmp 90) (.tmp 94) 92 rfl 116 (.agg #[.int .i64 0, .slice none 0 0]) 2 32 Try.underlying92 Try.infoFlt rfl (by decide) ao2 0 cap2 _ rfl (OSl.ext hown2 ((Ext.refl _).alloc _)) (some ⟨w2.heap.size, 0, none⟩) 1 1 [.int .i64 id, .slice ao1 l.length cap1] rfl (by intro h; cases h) rfl (fun _ => ⟨_, rfl, two_new _ _ _ _⟩) (by intro u hu; simp at hu; rcases hu with rfl | rfl <;> rfl) (by unfold maxLen; omega) (by omega) ?_; intro ao3 cap3 w3 hown3 hk3 hat3; have hx3 : Ext w1 w3 := (hx2.alloc _).kpNew hk3 hF2.out; have hE3 : Ext w w3 := hE1.trans hx3; have q3 := hE3.cell r1; have hF3 : Hid (∀ g, blkOf ao3 = some g → w1.heap.size ≤ g) := fresh2 (hx2.alloc _).le hF2.out hat3; clear hk3 tok3 hat3))
              | (at_builtin; have _t := tok4; go_must (refine wpList_app rfl (.tmp 97) (.tmp 103) 92 rfl 116 (.agg #[.int .i64 0, .slice none 0 0]) 2 32 Try.underlying92 Try.infoFlt rfl (by decide) ao3 1 cap3 _ rfl hown3 _ 0 _ [] rfl (fun _ => ⟨rfl, rfl⟩) rfl (fun h => absurd h (by omega)) (by intro u hu; simp at hu) (by unfold maxLen; omega) (by omega) ?_; intro ao4 cap4 w4 hown4 hk4 hat4; have hx4 : Ext w1 w4 := hx3.kpNew hk4 hF3.out; have hE4 : Ext w w4 := hE1.trans hx4; have q4 := hE4.cell r1; have z4 := (hrow.ext hE4).frozen 1; have hF4 : Hid (∀ g, blkOf ao4 = some g → w1.heap.size ≤ g) := fresh2 hx3.le hF3.out hat4; clear tok4 hat4)))
            exact sub_tail (es := []) (q := 0) (HR0.out h8 hkl) hrow hE1 hx4 hown1 hown4 hF1.out hF4.out (Nat.le_refl _)
end Go.Proofs.Ytepioeaomlmocaa
