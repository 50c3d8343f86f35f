import Derived.Deep.RegionHeld3
import Derived.Test.YtpbblaeamddbgaaGreatHC
namespace Go.Proofs.YtpbblaeamddbgaaGreat
open Go.RowKit

def firstL : List Cd := [⟨0, 6, ⟨5, ⟨#[]⟩⟩, ⟨0, ⟨#[]⟩⟩⟩, ⟨1, 8, ⟨0, ⟨#[97, 98]⟩⟩, ⟨0, ⟨#[]⟩⟩⟩]
def firstE : List Fd := [⟨0, ⟨5, ⟨#[]⟩⟩⟩, ⟨1, ⟨0, ⟨#[97, 98, 99]⟩⟩⟩]
theorem cxs_row {w : World} {g : Nat} {T : TypeId} {l : List Cd} (h : Row w g T (l.flatMap Cd.cells)) : Cxs w (some ⟨g, 0, none⟩) l := fun _ => ⟨g, 0, rfl, cds_row h⟩
theorem fxs_row {w : World} {g : Nat} {T : TypeId} {l : List Fd} (h : Row w g T (l.flatMap Fd.cells)) : Fxs w (some ⟨g, 0, none⟩) l := fun _ => ⟨g, 0, rfl, fds_row h⟩
theorem two_ix (w : World) (T : TypeId) (g : Nat) (hg : w.heap.size = g) : Ixs (w.alloc (.cells #[.int .i64 1, .int .i64 2] T)) (some ⟨g, 0, none⟩) [1, 2] := fun _ => ⟨w.heap.size, 0, by rw [hg], fun j hj => by
  have hr : Row (w.alloc (.cells #[.int .i64 1, .int .i64 2] T)) w.heap.size T [.int .i64 1, .int .i64 2] := row_alloc _ _ _ _ _ rfl rfl
  rcases (show j = 0 ∨ j = 1 by simp at hj; omega) with rfl | rfl
  · exact hr.at (j := 0) rfl
  · exact hr.at (j := 1) rfl⟩

theorem opd_one (d : OpD) : ∀ v ∈ d.cells, v.oneCell' = true := by
  intro v hv
  simp only [OpD.cells, List.mem_cons, List.not_mem_nil, or_false] at hv
  rcases hv with rfl | rfl | rfl | rfl | rfl | rfl | rfl | rfl <;> rfl
theorem range_ext {w w' : World} {b o : Nat} {cs : List Value} (h : w.rangeAt b o cs) (hE : Ext w w') : w'.rangeAt b o cs := fun j v hv => hE.cell (h j v hv)
theorem if_bounds (b : Bool) (n : Nat) : n ≤ (if b then n + 1 else n) ∧ (if b then n + 1 else n) ≤ n + 1 := by cases b <;> simp

set_option maxHeartbeats 1600000 in
set_option maxRecDepth 100000 in
theorem plays_any {E : World → Nat → (Nat → Prop) → List Int → List (Int × List Cd) → Int → Prop} (C : EngC E) (most : Int) (hm1 : 1 ≤ most) (hm8 : most ≤ 8) (so : Option Addr) (cap : Nat) (ds : List OpD) (w : World) (hN : (ds.length + 4) * 96 ≤ 140737488355328)
    (hs : 0 < ds.length → ∃ b o, so = some ⟨b, o, none⟩ ∧ ∀ j (hj : j < ds.length), w.rangeAt b (o + j * 8) ds[j].cells) (hin : ∀ d ∈ ds, OpIn w d) :
    Calls Tryz.prog 12 #[.slice so ds.length cap, .int .i64 most] w fun e w' => e = .returned (.bool true) ∧ Ext w w' := by
  have hI0 : Hid (Inv E w _ w.heap.size 0 0) := inv_zero (E := E) w
  have HS : Hid (0 < ds.length → ∃ b o, so = some ⟨b, o, none⟩ ∧ ∀ j (hj : j < ds.length), w.rangeAt b (o + j * 8) ds[j].cells) := hs
  have HIN : Hid (∀ d ∈ ds, OpIn w d) := hin
  have HZ : Hid (∀ j (hj : j < firstL.length), firstL[j].a.s.size ≤ 9223372036854775807 ∧ firstL[j].b.s.size ≤ 9223372036854775807) := by
    have h : ∀ c ∈ firstL, c.a.s.size ≤ 9223372036854775807 ∧ c.b.s.size ≤ 9223372036854775807 := by decide
    exact fun j hj => h _ (List.getElem_mem hj)
  have HZ2 : Hid (∀ j (hj : j < firstE.length), firstE[j].v.s.size ≤ 9223372036854775807) := by
    have h : ∀ c ∈ firstE, c.v.s.size ≤ 9223372036854775807 := by decide
    exact fun j hj => h _ (List.getElem_mem hj)
  clear hs hin
  go_enter Tryz.func12, Tryz.ntmps12
  go_wp2_with fail
  refine (made_inv C hI0.out ((Ext.refl _).alloc _) (some ⟨w.heap.size + 1, 0, none⟩) 2 [1, 2] (by simp) (two_ix _ _ _ (by simp)) (fun h => by cases h) (by omega)).mono ?_
  rintro e w1 ⟨rfl, hI1⟩
  have hI1' : Inv E w w1 w.heap.size 1 0 := hI1
  obtain ⟨eg, ecap, rg, rcap, eb, rb, c1, c2, c3, c4, hA1⟩ := hI1'.at 0 (by decide)
  have HA1 : Hid (At E w w1 w.heap.size 1 0 0 eb rb) := hA1
  clear hI0 hI1 hI1' hA1
  go_wp2_with fail
  go_region_held3 (fun w' => w'.cell? ⟨w.heap.size, 0, none⟩ = some (.slice (some ⟨eg, 0, none⟩) 1 ecap) ∧ w'.cell? ⟨w.heap.size, 1, none⟩ = some (.slice (some ⟨rg, 0, none⟩) 1 rcap) ∧ w'.cell? ⟨eg, 0, none⟩ = some (.pointer (some ⟨eb, 0, none⟩)) ∧ w'.cell? ⟨rg, 0, none⟩ = some (.pointer (some ⟨rb, 0, none⟩))) (first | go_keep | exact hH2 _ _ _ _ _ _ _ (((Ext.refl w1).alloc _).drew.cell c1) (((Ext.refl w1).alloc _).drew.cell c2) (((Ext.refl w1).alloc _).drew.cell c3) (((Ext.refl w1).alloc _).drew.cell c4))
    (first | (go_at_call 34; refine (enters_inv C HA1.out (((Ext.refl w1).alloc _).drew) 7 (some ⟨w1.heap.size, 0, none⟩) 2 firstL (by decide) (by decide) HZ.out (cxs_row (Row.ext (row_alloc _ _ _ _ _ rfl rfl) (Ext.refl _).drew)) (fun g hg => by cases hg; exact Nat.le_refl _) (fun h => by cases h)).mono ?_; rintro e w2 ⟨rfl, hI2, hH2, hP2⟩))
  clear hH2 hP2 HA1 c1 c2 c3 c4
  have HA2 : Hid (At E w w2 w.heap.size 1 4 0 eb rb) := hI2
  clear hI2
  obtain ⟨c1, c2, c3, c4⟩ : w2.cell? ⟨w.heap.size, 0, none⟩ = some (.slice (some ⟨eg, 0, none⟩) 1 ecap) ∧ w2.cell? ⟨w.heap.size, 1, none⟩ = some (.slice (some ⟨rg, 0, none⟩) 1 rcap) ∧ w2.cell? ⟨eg, 0, none⟩ = some (.pointer (some ⟨eb, 0, none⟩)) ∧ w2.cell? ⟨rg, 0, none⟩ = some (.pointer (some ⟨rb, 0, none⟩)) := by assumption
  go_wp2_with fail
  go_region_held3 (fun w' => w'.cell? ⟨w.heap.size, 0, none⟩ = some (.slice (some ⟨eg, 0, none⟩) 1 ecap) ∧ w'.cell? ⟨w.heap.size, 1, none⟩ = some (.slice (some ⟨rg, 0, none⟩) 1 rcap) ∧ w'.cell? ⟨eg, 0, none⟩ = some (.pointer (some ⟨eb, 0, none⟩)) ∧ w'.cell? ⟨rg, 0, none⟩ = some (.pointer (some ⟨rb, 0, none⟩))) (first | go_keep | exact hH3 _ _ _ _ _ _ _ ((Ext.refl w2).drew.cell c1) ((Ext.refl w2).drew.cell c2) ((Ext.refl w2).drew.cell c3) ((Ext.refl w2).drew.cell c4))
    (first | (go_at_call 34; refine (enters_inv C HA2.out (Ext.refl w2).drew 3 none 0 [] (by decide) (by decide) (fun j hj => absurd hj (by simp)) (fun h => absurd h (by simp)) (fun g hg => by cases hg) (fun _ => ⟨rfl, rfl⟩)).mono ?_; rintro e w3 ⟨rfl, hI3, hH3, hP3⟩))
  clear hH3 hP3 HA2 c1 c2 c3 c4
  have HA3 : Hid (At E w w3 w.heap.size 1 8 0 eb rb) := hI3
  clear hI3
  obtain ⟨c1, c2, c3, c4⟩ : w3.cell? ⟨w.heap.size, 0, none⟩ = some (.slice (some ⟨eg, 0, none⟩) 1 ecap) ∧ w3.cell? ⟨w.heap.size, 1, none⟩ = some (.slice (some ⟨rg, 0, none⟩) 1 rcap) ∧ w3.cell? ⟨eg, 0, none⟩ = some (.pointer (some ⟨eb, 0, none⟩)) ∧ w3.cell? ⟨rg, 0, none⟩ = some (.pointer (some ⟨rb, 0, none⟩)) := by assumption
  go_wp2_with fail
  go_region_held3 (fun w' => w'.cell? ⟨w.heap.size, 0, none⟩ = some (.slice (some ⟨eg, 0, none⟩) 1 ecap) ∧ w'.cell? ⟨w.heap.size, 1, none⟩ = some (.slice (some ⟨rg, 0, none⟩) 1 rcap) ∧ w'.cell? ⟨eg, 0, none⟩ = some (.pointer (some ⟨eb, 0, none⟩)) ∧ w'.cell? ⟨rg, 0, none⟩ = some (.pointer (some ⟨rb, 0, none⟩))) (first | go_keep | exact hH4 _ _ _ _ _ _ _ (((Ext.refl w3).alloc _).drew.cell c1) (((Ext.refl w3).alloc _).drew.cell c2) (((Ext.refl w3).alloc _).drew.cell c3) (((Ext.refl w3).alloc _).drew.cell c4))
    (first | (go_at_call 35; refine (matches_inv C HA3.out (((Ext.refl w3).alloc _).drew) 0 0 (.slice none 0 0) (.slice none 0 0) (.slice none 0 0) (.string ⟨#[]⟩) w3.heap.size 2 firstE (by decide) (by decide) HZ2.out (fxs_row (Row.ext (row_alloc _ _ _ _ _ rfl rfl) (Ext.refl _).drew)) (Nat.le_refl _) (by simp)).mono ?_; rintro e w4 ⟨rfl, hI4, hH4, hP4⟩))
  clear hH4 hP4 HA3 c1 c2 c3 c4
  have HI4 : Hid (Inv E w w4 w.heap.size 1 12) := hI4.inv
  clear hI4
  go_wp2_with fail
  go_loopw [6, 10] (fun ok i wr => ok = .bool true ∧ ∃ k n : Nat, k ≤ ds.length ∧ i = .int .i64 k ∧ 1 ≤ n ∧ n ≤ k + 1 ∧ Inv E w wr w.heap.size n (4 * (k + 3))) (fun _ i _ => ds.length - (intOf i).toNat)
  case atStart => exact ⟨rfl, 0, 1, Nat.zero_le _, rfl, Nat.le_refl _, Nat.le_refl _, HI4.out⟩
  case round =>
    obtain ⟨rfl, k, n, hk, rfl, hn1, hnk, hI⟩ := hrel
    by_cases hlt : k < ds.length
    · obtain ⟨b, o, rfl, hr0⟩ := HS.out (by omega)
      have hr := range_ext (hr0 k hlt) hI.ext0
      have hd := HIN.out ds[k] (List.getElem_mem hlt)
      have HI : Hid (Inv E w wr w.heap.size n (4 * (k + 3))) := hI
      clear hr0 hI HI4
      generalize ds[k] = d at *
      have HD : Hid (OpIn w d) := hd
      clear hd
      by_cases hk1 : d.kind = 1
      · go_wp2_with (first
          | (refine wpList_load_mid rfl 30 _ rfl b (o + k * 8) rfl d.cells _ hr Tryz.underlying30 rfl Tryz.infoOp ?_; clear hr)
          | (refine wpList_store_row rfl 30 _ _ rfl wr.heap.size d.cells _ rfl rfl 30 (row_alloc _ _ _ _ _ rfl rfl) rfl Tryz.infoOp (opd_one d) ?_; intro wS hR hkS; have r0 := hR.at (j := 0) rfl; have r3 := hR.at (j := 3) rfl; rw [hk1] at r0; have hES : Ext wr wS := ((Ext.refl wr).alloc _).kpFresh hkS (Nat.le_refl _)))
        refine (made_inv C HI.out hES d.no d.ncap d.xs HD.out.nl (HD.out.nx.ext (HI.out.ext0.trans hES)) HD.out.nn (by omega)).mono ?_
        rintro e w5 ⟨rfl, hI5⟩
        obtain ⟨b1, b2⟩ := if_bounds (schB d.xs) n
        have HI5 : Hid (Inv E w w5 w.heap.size (if schB d.xs then n + 1 else n) (4 * (k + 3))) := hI5
        clear hI5 r0 r3 hR hkS hES HI
        generalize (if schB d.xs then n + 1 else n) = n' at *
        go_wp2_with fail
        refine (still_inv HI5.out (by omega)).mono ?_
        rintro e w6 ⟨rfl, rfl⟩
        go_wp2
        go_roundw
        case rel => exact ⟨rfl, k + 1, n', by omega, by go_num, by omega, by omega, HI5.out.more (by omega)⟩
        case measure => simp [intOf]; omega
      · have hb1 : (d.kind == 1) = false := by simpa using hk1
        by_cases hk2 : 2 ≤ d.kind ∧ d.kind ≤ most
        · obtain ⟨hk2, hk4⟩ := hk2
          obtain ⟨eg, ecap, rg, rcap, c1, c2, hAll⟩ := HI.out.all hn1
          have HAll : Hid (∀ i, i < n → ∃ eb rb, wr.cell? ⟨eg, i, none⟩ = some (.pointer (some ⟨eb, 0, none⟩)) ∧ wr.cell? ⟨rg, i, none⟩ = some (.pointer (some ⟨rb, 0, none⟩)) ∧ At E w wr w.heap.size n (4 * (k + 3)) i eb rb) := hAll
          clear hAll
          go_wp2_with (first
          | (refine wpList_load_mid rfl 30 _ rfl b (o + k * 8) rfl d.cells _ hr Tryz.underlying30 rfl Tryz.infoOp ?_; clear hr)
          | (refine wpList_store_row rfl 30 _ _ rfl wr.heap.size d.cells _ rfl rfl 30 (row_alloc _ _ _ _ _ rfl rfl) rfl Tryz.infoOp (opd_one d) ?_; intro wS hR hkS; have r0 := hR.at (j := 0) rfl; have r1 := hR.at (j := 1) rfl; have r2 := hR.at (j := 2) rfl; have r3 := hR.at (j := 3) rfl; have r4 := hR.at (j := 4) rfl; have r5 := hR.at (j := 5) rfl; have r6 := hR.at (j := 6) rfl; have r7 := hR.at (j := 7) rfl; have hES : Ext wr wS := ((Ext.refl wr).alloc _).kpFresh hkS (Nat.le_refl _); have d1 := hES.cell c1; have d2 := hES.cell c2; clear c1 c2))
          go_region_held3 (fun w' => w'.cell? ⟨wr.heap.size, 1, none⟩ = some (.int .i64 d.at_) ∧ w'.cell? ⟨w.heap.size, 0, none⟩ = some (.slice (some ⟨eg, 0, none⟩) n ecap)) (go_keep)
            (first | (go_at_call 36; refine (pick_any d.at_ n _ HD.out.ar.1 HD.out.ar.2 hn1 (by omega)).mono ?_; rintro e w' ⟨⟨i, hi, rfl⟩, rfl⟩))
          obtain ⟨eb, rb, c3, c4, hA⟩ := HAll.out i hi
          have HA : Hid (At E w wr w.heap.size n (4 * (k + 3)) i eb rb) := hA
          have d3 := hES.cell c3
          have d4 := hES.cell c4
          clear hA HAll c3 c4
          have i1 : (0 : Int) ≤ (i : Int) := by omega
          have i2 : (i : Int) < (n : Int) := by omega
          have EX : Ext wS wS.drew.drew := (Ext.refl wS).drew.drew
          go_wp2_with fail
          go_region_held3 (fun w' => w'.cell? ⟨w.heap.size, 0, none⟩ = some (.slice (some ⟨eg, 0, none⟩) n ecap) ∧ w'.cell? ⟨w.heap.size, 1, none⟩ = some (.slice (some ⟨rg, 0, none⟩) n rcap) ∧ w'.cell? ⟨eg, i, none⟩ = some (.pointer (some ⟨eb, 0, none⟩)) ∧ w'.cell? ⟨rg, i, none⟩ = some (.pointer (some ⟨rb, 0, none⟩)) ∧ w'.cell? ⟨wr.heap.size, 0, none⟩ = some (.int .i64 d.kind) ∧ w'.cell? ⟨wr.heap.size, 1, none⟩ = some (.int .i64 d.at_) ∧ w'.cell? ⟨wr.heap.size, 2, none⟩ = some (.int .i64 d.id) ∧ w'.cell? ⟨wr.heap.size, 3, none⟩ = some (.slice d.no d.xs.length d.ncap) ∧ w'.cell? ⟨wr.heap.size, 4, none⟩ = some (.slice d.fo d.l.length d.fcap) ∧ w'.cell? ⟨wr.heap.size, 5, none⟩ = some (.slice d.eo d.ev.length d.ecap) ∧ w'.cell? ⟨wr.heap.size, 6, none⟩ = some (.slice d.xo d.xn d.xcap) ∧ w'.cell? ⟨wr.heap.size, 7, none⟩ = some (.string d.s))
            (first | go_keep | (obtain ⟨q1, q2, q3, q4⟩ := hH5 _ _ _ _ _ _ _ (EX.cell d1) (EX.cell d2) (EX.cell d3) (EX.cell d4); exact ⟨q1, q2, q3, q4, hP5.cell (Nat.le_refl _) (EX.cell r0), hP5.cell (Nat.le_refl _) (EX.cell r1), hP5.cell (Nat.le_refl _) (EX.cell r2), hP5.cell (Nat.le_refl _) (EX.cell r3), hP5.cell (Nat.le_refl _) (EX.cell r4), hP5.cell (Nat.le_refl _) (EX.cell r5), hP5.cell (Nat.le_refl _) (EX.cell r6), hP5.cell (Nat.le_refl _) (EX.cell r7)⟩))
            (first | (go_at_call 37; refine (step_inv C HA.out (hES.trans EX) d HD.out (by omega) hk2 (by omega)).mono ?_; rintro e w5 ⟨rfl, hA5, hH5, hP5⟩))
          have HI5 : Hid (Inv E w w5 w.heap.size n (4 * (k + 3) + 4)) := hA5.inv
          clear hA5 hH5 hP5 HA d1 d2 d3 d4 r0 r1 r2 r3 r4 r5 r6 r7 hR hkS hES HI EX
          go_wp2_with fail
          refine (still_inv HI5.out (by omega)).mono ?_
          rintro e w6 ⟨rfl, rfl⟩
          go_wp2
          go_roundw
          case rel => exact ⟨rfl, k + 1, n, by omega, by go_num, by omega, by omega, HI5.out.more (by omega)⟩
          case measure => simp [intOf]; omega
        · by_cases hk3 : d.kind < 1
          · go_wp2_with (first
          | (refine wpList_load_mid rfl 30 _ rfl b (o + k * 8) rfl d.cells _ hr Tryz.underlying30 rfl Tryz.infoOp ?_; clear hr)
          | (refine wpList_store_row rfl 30 _ _ rfl wr.heap.size d.cells _ rfl rfl 30 (row_alloc _ _ _ _ _ rfl rfl) rfl Tryz.infoOp (opd_one d) ?_; intro wS hR hkS; have r0 := hR.at (j := 0) rfl; have hES : Ext wr wS := ((Ext.refl wr).alloc _).kpFresh hkS (Nat.le_refl _)))
            have HI5 : Hid (Inv E w wS w.heap.size n (4 * (k + 3))) := HI.out.ahead C hES
            clear r0 hR hkS hES HI
            refine (still_inv HI5.out (by omega)).mono ?_
            rintro e w6 ⟨rfl, rfl⟩
            go_wp2
            go_roundw
            case rel => exact ⟨rfl, k + 1, n, by omega, by go_num, by omega, by omega, HI5.out.more (by omega)⟩
            case measure => simp [intOf]; omega
          · have hk5 : most < d.kind := by omega
            go_wp2_with (first
          | (refine wpList_load_mid rfl 30 _ rfl b (o + k * 8) rfl d.cells _ hr Tryz.underlying30 rfl Tryz.infoOp ?_; clear hr)
          | (refine wpList_store_row rfl 30 _ _ rfl wr.heap.size d.cells _ rfl rfl 30 (row_alloc _ _ _ _ _ rfl rfl) rfl Tryz.infoOp (opd_one d) ?_; intro wS hR hkS; have r0 := hR.at (j := 0) rfl; have hES : Ext wr wS := ((Ext.refl wr).alloc _).kpFresh hkS (Nat.le_refl _)))
            have HI5 : Hid (Inv E w wS w.heap.size n (4 * (k + 3))) := HI.out.ahead C hES
            clear r0 hR hkS hES HI
            refine (still_inv HI5.out (by omega)).mono ?_
            rintro e w6 ⟨rfl, rfl⟩
            go_wp2
            go_roundw
            case rel => exact ⟨rfl, k + 1, n, by omega, by go_num, by omega, by omega, HI5.out.more (by omega)⟩
            case measure => simp [intOf]; omega
    · have HE : Hid (Ext w wr) := hI.ext0
      clear hI HI4 HS HIN
      go_wp2
      go_ret
      exact ⟨rfl, HE.out⟩
end Go.Proofs.YtpbblaeamddbgaaGreat
