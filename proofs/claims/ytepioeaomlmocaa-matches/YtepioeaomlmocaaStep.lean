import Derived.Test.YtepioeaomlmocaaGood
namespace Go.Proofs.Ytepioeaomlmocaa
open Go.RowKit

theorem St.ext {w w1 : World} {own : Nat → Nat} {wb : Nat} {v0 v1 v5 : Value} {ia : Option Addr} {ic icap : Nat} {vs : List Value} (S : St w own wb v0 v1 v5 ia ic icap vs) (h : Ext w w1) : St w1 own wb v0 v1 v5 ia ic icap vs :=
  ⟨S.row.ext h, S.ids.ext h, S.len, S.four, S.ow, S.oi, fun i hi => by
    obtain ⟨ao, n, cap, h1, h2, h3, h4⟩ := S.book i hi
    exact ⟨ao, n, cap, h1, h2, h3.kp (h.kp (fun _ => False)) (fun _ _ h => h), h4⟩, fun b hb => S.fresh b (Nat.le_trans h.le hb)⟩
theorem Two.ext {E : World → Nat → (Nat → Prop) → List Int → List (Int × List Cd) → Prop} (C : EngC E) {w w1 : World} {eb rb : Nat} {Fe Fr : Nat → Prop} {sch : List Int} {flt : List (Int × List Cd)} (T : Two E w eb rb Fe Fr sch flt) (h : Ext w w1) : Two E w1 eb rb Fe Fr sch flt :=
  ⟨(T.ext1 C h).1, (T.ext1 C h).2, fun b hb => Nat.lt_of_lt_of_le (T.le b hb) h.le, fun b hb => Nat.lt_of_lt_of_le (T.lr b hb) h.le, T.dis⟩
theorem NextPost.behind {E : World → Nat → (Nat → Prop) → List Int → List (Int × List Cd) → Prop} {w w1 w' : World} {own : Nat → Nat} {wb : Nat} {v0 v1 v5 : Value} {ic eb rb te tr : Nat} {sch : List Int} (hE : Ext w w1) (h : NextPost E w1 w' own wb v0 v1 v5 ic eb rb te tr sch) : NextPost E w w' own wb v0 v1 v5 ic eb rb te tr sch := by
  obtain ⟨own', ia', ic', icap', vs', flt', h1, h2, h3, h4, h5, h6⟩ := h
  exact ⟨own', ia', ic', icap', vs', flt', h1, h2, h3, h4, fun b hb => h5 b (Nat.lt_of_lt_of_le hb hE.le), (hE.kp _).trans h6⟩
theorem un_post {E : World → Nat → (Nat → Prop) → List Int → List (Int × List Cd) → Prop} (C : EngC E) {w w1 w2 : World} {eb rb : Nat} {Fe Fr : Nat → Prop} {sch : List Int} {flt flt' : List (Int × List Cd)} (T : Two E w eb rb Fe Fr sch flt) (hk1 : Kp Fe w w1) (he1 : E w1 eb (Grow Fe w w1) sch flt') (hk2 : Kp Fr w1 w2) (hr2 : RefAt w2 rb (Grow Fr w1 w2) sch flt') : StepPost E w w2 eb rb Fe Fr sch flt' := by
  have z1 := hk1.size
  have z2 := hk2.size
  have dis : ∀ b, Grow Fe w w1 b → ¬ Grow Fr w1 w2 b := by
    intro b h1 h2
    rcases h1 with h1 | ⟨h1, h1'⟩
    · rcases h2 with h2 | ⟨h2, _⟩
      · exact T.dis b h1 h2
      · have := T.le b h1; omega
    · rcases h2 with h2 | ⟨h2, _⟩
      · have := T.lr b h2; omega
      · omega
  refine ⟨Grow Fe w w1, Grow Fr w1 w2, ⟨C.kp he1 hk2 (fun b hb hF => dis b hb (Or.inl hF)), hr2, ?_, ?_, dis⟩, (hk1.mono (fun _ _ h => Or.inl h)).trans (hk2.mono (fun _ _ h => Or.inr h)), ?_, ?_⟩
  · intro b h
    rcases h with h | ⟨_, h⟩
    · have := T.le b h; omega
    · omega
  · intro b h
    rcases h with h | ⟨_, h⟩
    · have := T.lr b h; omega
    · omega
  · intro b h
    rcases h with h | ⟨h, h'⟩
    · exact Or.inl h
    · exact Or.inr ⟨by omega, by omega⟩
  · intro b h
    rcases h with h | ⟨h, h'⟩
    · exact Or.inl h
    · exact Or.inr ⟨by omega, by omega⟩

theorem op_new (w : World) (v0 v1 v2 v3 v4 v5 v6 v7 : Value) : ∃ w0 : World, w0 = w.alloc (.cells #[v0, v1, v2, v3, v4, v5, v6, v7] 74) ∧ Ext w w0 ∧ Row w0 w.heap.size 74 [v0, v1, v2, v3, v4, v5, v6, v7] :=
  ⟨_, rfl, (Ext.refl w).alloc _, row_alloc _ _ _ _ _ rfl rfl⟩
theorem Try.infoOp : (Try.prog.info? 74).map (·.size) = some 8 := by kernel_rfl

set_option maxHeartbeats 800000 in
set_option maxRecDepth 100000 in
theorem step_in {E : World → Nat → (Nat → Prop) → List Int → List (Int × List Cd) → Prop} (C : EngC E) (own : Nat → Nat) (wb : Nat) (v0 v1 v5 : Value) (ia : Option Addr) (ic icap : Nat) (vs : List Value) (eb rb te tr : Nat) (sch : List Int) (flt : List (Int × List Cd)) (at_ id : Int) (nv ev xv sv : Value) (ao : Option Addr) (cap : Nat) (l : List Cd) (w : World)
    (S : St w own wb v0 v1 v5 ia ic icap vs) (T : Two E w eb rb (fun b => own b = te) (fun b => own b = tr) sch flt) (G : Good sch flt) (hte : 10 ≤ te) (htr : 10 ≤ tr) (htt : te ≠ tr) (hl : l.length * 64 ≤ 140737488351232)
    (hz : ∀ j (hj : j < l.length), l[j].a.s.size ≤ 9223372036854775807 ∧ l[j].b.s.size ≤ 9223372036854775807) (hc : Cxs w ao l) (ha : ∀ g, blkOf ao = some g → 0 < l.length → own g = 5) (hcn : ao = none → l.length = 0 ∧ cap = 0) :
    Calls Try.prog 20 #[.pointer (some ⟨wb, 0, none⟩), .pointer (some ⟨eb, 0, none⟩), .pointer (some ⟨rb, 0, none⟩), .agg #[.int .i64 2, .int .i64 at_, .int .i64 id, nv, .slice ao l.length cap, ev, xv, sv]] w fun e w' => e = .returned (.bool true) ∧ NextPost E w w' own wb v0 v1 v5 ic eb rb te tr sch := by
  obtain ⟨q, hq⟩ := ex_pos flt id
  obtain ⟨k, hk⟩ := ex_badc sch l
  obtain ⟨w0, hw0, hE0, _⟩ := op_new w (.int .i64 2) (.int .i64 at_) (.int .i64 id) nv (.slice ao l.length cap) ev xv sv
  have H : Hid _ := enters_any C eb rb _ _ sch flt id ao cap l w0 G.s1 G.s6 G.len G.srt hl hz (T.ext C hE0) (hc.ext hE0) (fun g hg hp => ⟨fun e => by have := ha g hg hp; omega, fun e => by have := ha g hg hp; omega⟩) hcn q k hq hk
  have P : ∀ w', StepPost E w0 w' eb rb (fun b => own b = te) (fun b => own b = tr) sch (subFlt flt id l q k) → NextPost E w w' own wb v0 v1 v5 ic eb rb te tr sch := fun w' h => (next_of_step C (S.ext hE0) hte htr htt (sub_good G hq hk hz) h).behind hE0
  rw [hw0] at H P
  have HP : Hid _ := P
  clear P hw0 hE0 hq hk
  go_enter Try.func20, Try.ntmps20
  go_wp2_with fail
  refine Calls.mono H.out ?_
  rintro e w1 ⟨rfl, hp⟩
  go_wp2
  go_ret
  exact ⟨rfl, HP.out w1 hp⟩

set_option maxHeartbeats 800000 in
set_option maxRecDepth 100000 in
theorem step_match {E : World → Nat → (Nat → Prop) → List Int → List (Int × List Cd) → Prop} (C : EngC E) (own : Nat → Nat) (wb : Nat) (v0 v1 v5 : Value) (ia : Option Addr) (ic icap : Nat) (vs : List Value) (eb rb te tr : Nat) (sch : List Int) (flt : List (Int × List Cd)) (at_ id : Int) (nv fv xv sv : Value) (ao : Option Addr) (cap : Nat) (ev : List Fd) (w : World)
    (S : St w own wb v0 v1 v5 ia ic icap vs) (T : Two E w eb rb (fun b => own b = te) (fun b => own b = tr) sch flt) (G : Good sch flt) (hte : 10 ≤ te) (htr : 10 ≤ tr) (htt : te ≠ tr) (hl : ev.length * 32 ≤ 140737488351232) (hic : (ic + 4) * 24 ≤ 140737488355328)
    (hz : ∀ j (hj : j < ev.length), ev[j].v.s.size ≤ 9223372036854775807) (hc : Fxs w ao ev) (ha : ∀ g, blkOf ao = some g → 0 < ev.length → own g = 5) (hcn : ao = none → ev.length = 0 ∧ cap = 0) :
    Calls Try.prog 20 #[.pointer (some ⟨wb, 0, none⟩), .pointer (some ⟨eb, 0, none⟩), .pointer (some ⟨rb, 0, none⟩), .agg #[.int .i64 3, .int .i64 at_, .int .i64 id, nv, fv, .slice ao ev.length cap, xv, sv]] w fun e w' => e = .returned (.bool true) ∧ NextPost E w w' own wb v0 v1 v5 ic eb rb te tr sch := by
  obtain ⟨q, hq⟩ := ex_bad sch ev
  obtain ⟨w0, hw0, hE0, hRow⟩ := op_new w (.int .i64 3) (.int .i64 at_) (.int .i64 id) nv fv (.slice ao ev.length cap) xv sv
  have H : Hid (Calls Try.prog 18 #[.pointer (some ⟨wb, 0, none⟩), .pointer (some ⟨eb, 0, none⟩), .pointer (some ⟨rb, 0, none⟩), .agg #[.int .i64 3, .int .i64 at_, .int .i64 id, nv, fv, .slice ao ev.length cap, xv, sv]] w0 fun e w' => e = .returned (.bool true) ∧ MaPost E w0 w' own wb v0 v1 v5 ic eb rb te tr sch flt) := by
    cases ao with
    | none =>
      obtain ⟨hl0, rfl⟩ := hcn rfl
      obtain rfl : ev = [] := List.eq_nil_of_length_eq_zero hl0
      exact matches_nil C own wb v0 v1 v5 ia ic icap vs eb rb te tr sch flt 3 at_ id nv fv xv sv w0 (S.ext hE0) (T.ext C hE0) hte htr htt G.s6 G.len G.ok hic q hq rfl rfl
    | some a => exact matches_core C own wb v0 v1 v5 ia ic icap vs eb rb te tr sch flt 3 at_ id nv fv xv sv a cap ev w0 (S.ext hE0) (T.ext C hE0) hte htr htt G.s6 G.len G.ok hl hic hz (hc.ext hE0) (fun hp => ha a.block rfl hp) q hq rfl rfl
  have P : ∀ w', MaPost E w0 w' own wb v0 v1 v5 ic eb rb te tr sch flt → NextPost E w w' own wb v0 v1 v5 ic eb rb te tr sch := fun w' h => (next_of_ma G h).behind hE0
  rw [hw0] at H P hRow
  have HP : Hid _ := P
  clear P hw0 hE0 hq
  go_enter Try.func20, Try.ntmps20
  go_wp2_with (first
    | (refine wpList_load_row rfl 74 _ rfl w.heap.size rfl _ _ 74 hRow Try.underlying74 rfl Try.infoOp ?_; clear hRow))
  refine Calls.mono H.out ?_
  rintro e w1 ⟨rfl, hp⟩
  go_wp2
  go_ret
  exact ⟨rfl, HP.out w1 hp⟩

set_option maxHeartbeats 800000 in
set_option maxRecDepth 100000 in
theorem step_out {E : World → Nat → (Nat → Prop) → List Int → List (Int × List Cd) → Prop} (C : EngC E) (own : Nat → Nat) (wb : Nat) (v0 v1 v5 : Value) (ia : Option Addr) (ic icap : Nat) (vs : List Value) (eb rb te tr : Nat) (sch : List Int) (flt : List (Int × List Cd)) (at_ id : Int) (nv fv ev xv sv : Value) (w : World)
    (S : St w own wb v0 v1 v5 ia ic icap vs) (T : Two E w eb rb (fun b => own b = te) (fun b => own b = tr) sch flt) (G : Good sch flt) (hte : 10 ≤ te) (htr : 10 ≤ tr) (htt : te ≠ tr) :
    Calls Try.prog 20 #[.pointer (some ⟨wb, 0, none⟩), .pointer (some ⟨eb, 0, none⟩), .pointer (some ⟨rb, 0, none⟩), .agg #[.int .i64 4, .int .i64 at_, .int .i64 id, nv, fv, ev, xv, sv]] w fun e w' => e = .returned (.bool true) ∧ NextPost E w w' own wb v0 v1 v5 ic eb rb te tr sch := by
  obtain ⟨q, hq⟩ := ex_pos flt id
  obtain ⟨w0, hw0, hE0, hRow⟩ := op_new w (.int .i64 4) (.int .i64 at_) (.int .i64 id) nv fv ev xv sv
  have T0 := T.ext C hE0
  have H : Hid _ := C.un eb _ sch flt id w0 G.len G.srt T0.e q hq
  have hz0 : w.heap.size < w0.heap.size := hRow.lt
  have hown : ∀ t, 10 ≤ t → ¬ own w.heap.size = t := fun t ht e => by have := S.fresh w.heap.size (Nat.le_refl _); omega
  have P : ∀ w1 w2, Kp (fun b => own b = te) w0 w1 → E w1 eb (Grow (fun b => own b = te) w0 w1) sch (unFlt flt id q) → Kp (fun b => own b = tr) w1 w2 → RefAt w2 rb (Grow (fun b => own b = tr) w1 w2) sch (unFlt flt id q) → NextPost E w w2 own wb v0 v1 v5 ic eb rb te tr sch := fun w1 w2 h1 h2 h3 h4 => (next_of_step C (S.ext hE0) hte htr htt (un_good G) (un_post C T0 h1 h2 h3 h4)).behind hE0
  have R : ∀ w1, Kp (fun b => own b = te) w0 w1 → RefAt w1 rb (fun b => own b = tr) sch flt ∧ w1.cell? ⟨w.heap.size, 2, none⟩ = some (.int .i64 id) := fun w1 h => ⟨T0.r.kp h (fun b hb hF => htt (hF.symm.trans hb)), h.cell (hRow.at (j := 2) rfl) (hown te hte)⟩
  rw [hw0] at H P R
  have HP : Hid _ := P
  have HR : Hid _ := R
  have HG : Hid _ := G
  clear P R hw0 hE0 hRow T0 G
  go_enter Try.func20, Try.ntmps20
  go_wp2_with fail
  refine Calls.mono H.out ?_
  rintro e w1 ⟨rfl, hk1, he1⟩
  obtain ⟨r1, c2⟩ := HR.out w1 hk1
  go_wp2_with fail
  refine (rUn_any rb _ sch flt id w1 HG.out.len HG.out.srt r1 q hq).mono ?_
  rintro e w2 ⟨rfl, hk2, hr2⟩
  have hp := HP.out w1 w2 hk1 he1 hk2 hr2
  clear he1 hr2 r1 H HR
  generalize unErr flt id q = u
  go_wp2_with fail
  refine (num_any _ _).mono ?_
  rintro e w3 ⟨rfl, rfl⟩
  go_wp2
  go_ret
  exact ⟨rfl, hp⟩
end Go.Proofs.Ytepioeaomlmocaa
