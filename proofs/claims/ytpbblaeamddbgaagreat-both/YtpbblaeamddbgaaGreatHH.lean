import Derived.Test.YtpbblaeamddbgaaGreatRows
import Derived.ProofKit
import Derived.ChangeOld
import Derived.Below
import Derived.Test.YtpbblaeamddbgaaGreatHE
import Derived.Test.YtpbblaeamddbgaaGreatHD
import Derived.Test.YtpbblaeamddbgaaGreatHF
namespace Go.Proofs.YtpbblaeamddbgaaGreat
open Go.ChangeShapes Go.WideShapes Go.ChangeAt Go.RowKit


def op0 (k : Int) : OpD := ⟨k, 0, 0, none, [], 0, none, [], 0, none, [], 0, none, 0, 0, ⟨#[]⟩⟩
def op7 (g : Nat) : OpD := ⟨7, 0, 0, some ⟨g, 0, none⟩, [1, 0], 2, none, [], 0, none, [], 0, none, 0, 0, ⟨#[]⟩⟩
def firstOps (g : Nat) : List OpD := [op0 5, op0 6, op7 g, op0 5, op0 8]
theorem op0_in (w : World) (k : Int) : OpIn w (op0 k) :=
  ⟨fun h => absurd h (by simp [op0]), by simp [op0], fun _ => ⟨rfl, rfl⟩, fun h => absurd h (by simp [op0]), by simp [op0], fun _ => ⟨rfl, rfl⟩, (fun g hg => by cases hg), fun j hj => absurd hj (by simp [op0]), fun h => absurd h (by simp [op0]), by simp [op0], fun _ => ⟨rfl, rfl⟩, (fun g hg => by cases hg), fun j hj => absurd hj (by simp [op0]), ⟨show (-9223372036854775808 : Int) ≤ 0 by decide, show (0 : Int) ≤ 9223372036854775807 by decide⟩, show (Lit.int .i64 0).wf = true by decide⟩
theorem op7_in (w : World) (g : Nat) (hx : Ixs w (some ⟨g, 0, none⟩) [1, 0]) : OpIn w (op7 g) :=
  ⟨hx, by simp [op7], (fun h => by cases h), fun h => absurd h (by simp [op7]), by simp [op7], fun _ => ⟨rfl, rfl⟩, (fun g hg => by cases hg), fun j hj => absurd hj (by simp [op7]), fun h => absurd h (by simp [op7]), by simp [op7], fun _ => ⟨rfl, rfl⟩, (fun g hg => by cases hg), fun j hj => absurd hj (by simp [op7]), ⟨show (-9223372036854775808 : Int) ≤ 0 by decide, show (0 : Int) ≤ 9223372036854775807 by decide⟩, show (Lit.int .i64 0).wf = true by decide⟩
theorem OpIn.ext {w w' : World} {d : OpD} (h : OpIn w d) (e : Ext w w') : OpIn w' d :=
  ⟨h.nx.ext e, h.nl, h.nn, h.fx.ext e, h.fl, h.fn, fun g hg hp => Nat.lt_of_lt_of_le (h.fb g hg hp) e.le, h.fz, h.ex.ext e, h.el, h.en, fun g hg hp => Nat.lt_of_lt_of_le (h.eb g hg hp) e.le, h.ez, h.ar, h.ir⟩
theorem ops_row {w : World} {g : Nat} {T : TypeId} {ds : List OpD} (h : Row w g T (ds.flatMap OpD.cells)) : ∀ j (hj : j < ds.length), w.rangeAt g (0 + j * 8) ds[j].cells := fun j hj i v hv => by
  have hi : i < 8 := by
    have := (List.getElem?_eq_some_iff.1 hv).1
    simpa [OpD.cells] using this
  rw [← flat_at OpD.cells 8 (fun _ => rfl) ds j i hj hi] at hv
  rw [Nat.zero_add]
  exact h.at hv

set_option maxHeartbeats 800000 in
set_option maxRecDepth 100000 in
theorem both_walk (so : Option Addr) (cap : Nat) (ds : List OpD) (w : World) (hN : (ds.length + 4) * 96 ≤ 140737488355328)
    (hs : 0 < ds.length → ∃ b o, so = some ⟨b, o, none⟩ ∧ ∀ j (hj : j < ds.length), w.rangeAt b (o + j * 8) ds[j].cells) (hin : ∀ d ∈ ds, OpIn w d) :
    Calls Tryz.prog 4 #[.slice so ds.length cap] w fun e w' => e = .returned (.bool true) ∧ Below w.heap.size w w' := by
  have HB : Hid (∀ w1, Ext w w1 → Calls Tryz.prog 12 #[.slice so ds.length cap, .int .i64 8] w1 fun e w' => e = .returned (.bool true) ∧ Ext w1 w') := fun w1 h => plays_any engC 8 (by decide) (by decide) so cap ds w1 hN (fun hp => by
    obtain ⟨b, o, e, hr⟩ := hs hp
    exact ⟨b, o, e, fun j hj i v hv => h.cell (hr j hj i v hv)⟩) (fun d hd => (hin d hd).ext h)
  obtain ⟨wA, hwA⟩ : ∃ wA, wA = w.alloc (.cells #[.int .i64 1, .int .i64 0] 3) := ⟨_, rfl⟩
  have hzA : wA.heap.size = w.heap.size + 1 := by rw [hwA]; simp
  have hEA : Ext w wA := by rw [hwA]; exact (Ext.refl _).alloc _
  have hIA : Ixs wA (some ⟨w.heap.size, 0, none⟩) [1, 0] := fun _ => ⟨w.heap.size, 0, rfl, fun j hj => by
    have hr : Row wA w.heap.size 3 [.int .i64 1, .int .i64 0] := by rw [hwA]; exact row_alloc _ _ _ _ _ rfl rfl
    have h := hr.at (j := j) (v := .int .i64 (([1, 0] : List Int).getD j 0)) (by
      have hj' : j < 2 := hj
      match j, hj' with
      | 0, _ => rfl
      | 1, _ => rfl)
    rw [Nat.zero_add]; exact h⟩
  obtain ⟨W0, hW0⟩ : ∃ W0, W0 = wA.alloc (.cells ((firstOps w.heap.size).flatMap OpD.cells).toArray 30) := ⟨_, rfl⟩
  have hE0 : Ext wA W0 := by rw [hW0]; exact (Ext.refl _).alloc _
  have hR0 : Row W0 (w.heap.size + 1) 30 ((firstOps w.heap.size).flatMap OpD.cells) := by rw [hW0]; exact row_alloc _ _ _ _ _ hzA.symm rfl
  have HA : Hid (Calls Tryz.prog 12 #[.slice (some ⟨w.heap.size + 1, 0, none⟩) 5 5, .int .i64 8] W0 fun e w' => e = .returned (.bool true) ∧ Ext W0 w') := plays_any engC 8 (by decide) (by decide) (some ⟨w.heap.size + 1, 0, none⟩) 5 (firstOps w.heap.size) W0 (show (5 + 4) * 96 ≤ 140737488355328 by decide) (fun _ => ⟨w.heap.size + 1, 0, rfl, ops_row hR0⟩) (fun d hd => by
    unfold firstOps at hd
    simp only [List.mem_cons, List.not_mem_nil, or_false] at hd
    rcases hd with rfl | rfl | rfl | rfl | rfl
    · exact op0_in _ _
    · exact op0_in _ _
    · exact op7_in _ _ (hIA.ext hE0)
    · exact op0_in _ _
    · exact op0_in _ _)
  have hWW : (w.alloc (.cells #[.int .i64 1, .int .i64 0] 3)).alloc (.cells #[.int .i64 5, .int .i64 0, .int .i64 0, .slice none 0 0, .slice none 0 0, .slice none 0 0, .slice none 0 0, .string ⟨#[]⟩, .int .i64 6, .int .i64 0, .int .i64 0, .slice none 0 0, .slice none 0 0, .slice none 0 0, .slice none 0 0, .string ⟨#[]⟩, .int .i64 7, .int .i64 0, .int .i64 0, .slice (some ⟨w.heap.size, 0, none⟩) 2 2, .slice none 0 0, .slice none 0 0, .slice none 0 0, .string ⟨#[]⟩, .int .i64 5, .int .i64 0, .int .i64 0, .slice none 0 0, .slice none 0 0, .slice none 0 0, .slice none 0 0, .string ⟨#[]⟩, .int .i64 8, .int .i64 0, .int .i64 0, .slice none 0 0, .slice none 0 0, .slice none 0 0, .slice none 0 0, .string ⟨#[]⟩] 30) = W0 := by rw [hW0, hwA]; rfl
  have hEW : Ext w W0 := hEA.trans hE0
  clear hN hs hin hW0 hwA hzA hIA hR0 hE0 hEA
  go_enter Tryz.func4, Tryz.ntmps4
  go_wp2_with fail
  clear hWW
  refine Calls.mono HA.out ?_
  rintro e w1 ⟨rfl, h1⟩
  go_wp2_with fail
  refine Calls.mono (HB.out w1 (hEW.trans h1)) ?_
  rintro e w2 ⟨rfl, h2⟩
  go_wp2
  go_ret
  exact ⟨rfl, (hEW.trans h1).trans h2⟩
end Go.Proofs.YtpbblaeamddbgaaGreat
namespace Go.Proofs.YtpbblaeamddbgaaGreat
open Go.ChangeShapes Go.WideShapes Go.ChangeAt Go.RowKit

theorem ownB : ownKnob Tryz.prog.godebug = none := by kernel_rfl
theorem laidOutB' : laidOutB Tryz.prog = true := by kernel_rfl

set_option maxRecDepth 100000 in
theorem liftedB (os : Os) (started : os.Started) (H : Type) (enc : TypeId × Value → H) :
    ReturnsInHanded {} Tryz.checked os 4 .any (Rows.bothSpec.pre6 enc Tryz.prog Tryz.f4 Rows.bothRow.domain false) (Rows.bothSpec.post enc Tryz.prog Tryz.f4 false true false false) := by
  refine returnsInHanded_of_change_sized (C := Tryz.checked) ownB started (by kernel_rfl) Tryz.func4
    (ChangeSpec.witness6 (enc := enc) (C := Tryz.checked) false ⟨#[], #[.slice none 0 0], []⟩ 8 (by kernel_rfl) (by kernel_rfl) (by kernel_rfl) (by kernel_rfl)) ?_
  intro W base args ds gs before hval0 hW _ hsz0 _
  have hval : ∀ (j : Nat) t v, Tryz.f4.params[j]? = some t → args[j]? = some v → Value.okWide Tryz.prog W .any base t v := hval0
  have hsz : (DataW.weightsEach Tryz.prog (Tryz.f4.params.toList ++ Rows.bothSpec.plain.varTypes Tryz.prog) (ds ++ gs)).all (· ≤ reachBytes) = true := hsz0
  have hW' := hW
  obtain ⟨p, q, hA0, hV, rfl, hfz, hnd⟩ := hW
  have hA : DataW.TrodAll enc Tryz.prog W 0 (fun _ => true) true Tryz.f4.params.toList args.toList ds p := hA0
  rw [Tryz.params4] at hA hval hsz
  obtain ⟨v0, vs0, d0, ds0, p0, q0, hargs, rfl, rfl, h0, r0⟩ := trodAll_cons hA
  obtain ⟨rfl, rfl, rfl⟩ := trodAll_nil r0
  obtain rfl : args = #[v0] := by cases args; simp_all
  obtain ⟨rfl, rfl⟩ := trodVars_none hV
  obtain ⟨a0, len0, cap0, rfl⟩ := okWide_slice Tryz.underlying22 (hval 0 22 v0 rfl rfl)
  have k0 := h0
  have lt0 : ∀ x ∈ p0, x.block < W.heap.size := by obtain ⟨m, hm⟩ := k0; exact DataW.trod_lt m _ _ _ hm
  have hS : Sz 22 d0 := fun n hn => by
    have := List.all_eq_true.1 hsz n (DataW.weights_mem_each (j := 0) rfl rfl n hn)
    simpa using this
  obtain ⟨fuel, hf⟩ := h0
  obtain ⟨so, os', cap, hv, hs, hin, hN⟩ := ops_of (x := (d0, p0)) (v := .slice a0 len0 cap0) (by simpa [Value.cells] using hf) hS
  simp only [Value.slice.injEq] at hv
  obtain ⟨rfl, rfl, rfl⟩ := hv
  clear hA0 hval0
  refine (both_walk a0 cap0 os' W hN hs hin).mono fun e W' ⟨he, bel⟩ => ?_
  subst he
  exact ⟨_, rfl, _, _, _, [], _, [], hW', trodAll_mk1 (shut_bool Tryz.underlying4 _), (trodAll_cons_mk (Below.trod laidOutB' (by kernel_rfl) (of_decide_eq_true (by kernel_rfl)) k0 bel lt0) trodAll_mk0), rfl, bel.frame _, fun h => by cases h⟩

theorem both_holds : Rows.BothSaid :=
  OpenClaim.holds_of_wide 4 Tryz.f4 rfl rfl rfl rfl rfl rfl rfl ⟨rfl, rfl, rfl, rfl, rfl⟩ rfl rfl rfl rfl rfl (by kernel_rfl) Tryz.func4 (by kernel_rfl)
    (of_decide_eq_true (by kernel_rfl)) (by unfold Func.isWrapper; first | (rw [if_pos (by decide +kernel)]; kernel_rfl) | (rw [if_neg (by decide +kernel)]; exact ⟨rfl, rfl⟩))
    (fun os started H enc _ => liftedB os started H enc)
#print axioms both_holds
end Go.Proofs.YtpbblaeamddbgaaGreat
