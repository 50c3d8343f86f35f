import Derived.Test.YtepioeaomlmocaaMatches
namespace Go.Proofs.Ytepioeaomlmocaa
open Go.RowKit

set_option maxHeartbeats 1600000 in
set_option maxRecDepth 100000 in
theorem matches_nil {E : World → Nat → (Nat → Prop) → List Int → List (Int × List Cd) → Prop} (C : EngC E) (own : Nat → Nat) (wb : Nat) (v0 v1 v5 : Value) (ia : Option Addr) (ic icap : Nat) (vs : List Value) (eb rb te tr : Nat) (sch : List Int) (flt : List (Int × List Cd)) (kind at_ id : Int) (nv fv xv sv : Value) (w : World)
    (S : St w own wb v0 v1 v5 ia ic icap vs) (T : Two E w eb rb (fun b => own b = te) (fun b => own b = tr) sch flt) (hte : 10 ≤ te) (htr : 10 ≤ tr) (htt : te ≠ tr) (hs6 : sch.length ≤ 6) (hf : flt.length ≤ 100) (hG : FltOK flt) (hic : (ic + 4) * 24 ≤ 140737488355328)
    (q : Nat) (hq : FirstBad sch [] q) (hk5 : (kind == 5) = false) (hk6 : (kind == 6) = false) :
    Calls Try.prog 18 #[.pointer (some ⟨wb, 0, none⟩), .pointer (some ⟨eb, 0, none⟩), .pointer (some ⟨rb, 0, none⟩), .agg #[.int .i64 kind, .int .i64 at_, .int .i64 id, nv, fv, .slice none 0 0, xv, sv]] w fun e w' => e = .returned (.bool true) ∧ MaPost E w w' own wb v0 v1 v5 ic eb rb te tr sch flt := by
  have qT : ∀ (w : World) (a : Option Addr) (n c n' c' : Nat), (binOp .eql 44 (.slice a n c) (.slice none n' c')).run Try.prog w = .ok (.bool a.isNone) w := fun w a n c n' c' => Lib.run_eql_slice_nil w _ _ a n c n' c' Try.underlying44
  have hl : ([] : List Fd).length * 32 ≤ 140737488351232 := by simp
  have hz : ∀ j (hj : j < ([] : List Fd).length), ([] : List Fd)[j].v.s.size ≤ 9223372036854775807 := fun j hj => absurd hj (by simp)
  have hc : ∀ w, Fxs w none [] := fun _ h => absurd h (by simp)
  have hfr := S.fresh
  have own0 : ∀ (b t : Nat), w.heap.size ≤ b → 0 < t → ¬ own b = t := fun b t hb ht e => by have := hfr b hb; omega
  obtain ⟨w0, hw0⟩ : ∃ w0 : World, w0 = w.alloc (.cells #[.int .i64 kind, .int .i64 at_, .int .i64 id, nv, fv, .slice none 0 0, xv, sv] 74) := ⟨_, rfl⟩
  have hE0 : Ext w w0 := by rw [hw0]; exact (Ext.refl w).alloc _
  have hz0 : w0.heap.size = w.heap.size + 1 := by rw [hw0]; simp
  have k0 : w0.cell? ⟨w.heap.size, 0, none⟩ = some (.int .i64 kind) := by rw [hw0]; exact cell_new _ _ _ _ _ rfl rfl
  have k5 : w0.cell? ⟨w.heap.size, 5, none⟩ = some (.slice none 0 0) := by rw [hw0]; exact cell_new _ _ _ _ _ rfl rfl
  have HF : Hid _ := fields_any none 0 [] w0 hl (hc _)
  rw [hz0] at HF
  rw [hw0] at HF
  go_enter Try.func18, Try.ntmps18
  go_wp2_with fail
  refine Calls.mono HF.out ?_
  rintro e w1 ⟨rfl, hr1, hE1'⟩
  have hE1 : Ext w0 w1 := by rw [hw0]; exact hE1'
  have hEw1 : Ext w w1 := hE0.trans hE1
  have c0 := hE1.cell k0
  have c5 := hE1.cell k5
  have lw1 : w.heap.size + 1 < w1.heap.size := hr1.lt
  clear HF hE1' hw0 k0 k5
  have t1 := T.ext1 C hEw1
  have M := C.ma eb (fun b => own b = te) sch flt none 0 [] w1 hs6 hl hf t1.1 (hc _) (fun g hg => by cases hg) hz hG q hq
  have HM : Hid _ := M
  clear M
  go_wp2_with fail
  refine Calls.mono HM.out ?_
  rintro e w2 ⟨ro, rcap, F', rfl, hro, hrf, hk2, he2, hF'⟩
  clear HM
  have d0 := hk2.cell c0 (own0 _ _ (by simp) (by omega))
  have d5 := hk2.cell c5 (own0 _ _ (by simp) (by omega))
  have hr2 : RefAt w2 rb (fun b => own b = tr) sch flt := t1.2.kp hk2 (fun b hb hF => htt (hF.symm.trans hb))
  have hg2 := hk2.row hr1 (own0 _ _ (by simp) (by omega))
  have HR : Hid _ := rMatch_any rb (fun b => own b = tr) sch flt none 0 [] w2 hs6 hl hf hr2 (hc _) (fun g hg => by cases hg) q hq hz hG
  clear c0 c5
  go_wp2_with fail
  refine Calls.mono HR.out ?_
  rintro e w3 ⟨mo, mcap, rfl, hmo, hmf, hk3, hr3⟩
  clear HR
  have f5 := hk3.cell d5 (own0 _ _ (by simp) (by omega))
  have hg3 := hk3.row hg2 (own0 _ _ (by simp) (by omega))
  have hro3 := hro.kp hk3 (fun g hg => own0 g _ (by have := (hrf g hg).1; omega) (by omega))
  have hml := ma_len [] q hf
  have HS : Hid _ := sameNumbers_any ro mo rcap mcap (maIds flt [] q) (maIds flt [] q) w3 (by omega) (by omega) (ixs_of_osl hro3) (ixs_of_osl hmo)
  rw [eqB_refl] at HS
  clear d0 d5
  generalize maIds flt [] q = mi at *
  go_wp2_with fail
  refine Calls.mono HS.out ?_
  rintro e w4 ⟨rfl, hE4⟩
  clear HS
  have g5 := hE4.cell f5
  have HWh : Hid _ := wholeFields_any (w.heap.size + 1) none 0 [] w4 hl (hg3.ext hE4) (hc _)
  clear f5
  go_wp2_with fail
  refine Calls.mono HWh.out ?_
  rintro e w5 ⟨rfl, hk5'⟩
  clear HWh
  have D := ma_mid S hEw1 hk2 hte hk3 htr hE4 hk5'
  have hro5 : OSl w5 3 1 ro mi.length rcap (mi.map (Value.int .i64)) := (hro3.ext hE4).kp hk5' (fun g hg => by have := (hrf g hg).1; omega)
  have HK : Hid _ := keep_any wb v0 v1 (.slice none 0 0) (.slice none 0 0) v5 ia ic icap vs ro mi.length rcap (mi.map (Value.int .i64)) w5 hml hic D.1 D.2.1 hro5 (fun g hg e => by have h1 := S.oi _ hg; rw [e] at h1; have h2 := S.ow; omega) (fun g hg e => by have h1 := (hrf _ hg).1; have h2 := S.fresh g (by omega); rw [e] at h2; have h3 := S.ow; omega) (fun g hg e => by have h1 := (hrf _ hg).1; have h2 := S.fresh g (by omega); have h3 := S.oi g e; omega)
  go_wp2_with fail
  refine Calls.mono HK.out ?_
  rintro e w6 ⟨rfl, hkp⟩
  clear HK
  generalize maErr [] q = me at *
  generalize maPlace [] q = mp at *
  go_wp2_with fail
  refine (num_any _ _).mono ?_
  rintro e w7 ⟨rfl, rfl⟩
  go_wp2
  go_ret
  exact ⟨rfl, ma_end C S hte htr htt hEw1 lw1 hrf hk2 he2 hF' hk3 hr3 hE4 hk5' D.2.2 hro5 hkp hml (Ext.refl _)⟩
end Go.Proofs.Ytepioeaomlmocaa
