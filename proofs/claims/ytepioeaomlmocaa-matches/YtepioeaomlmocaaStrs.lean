import Derived.Test.YtepioeaomlmocaaShelf
import Derived.Test.YtepioeaomlmocaaLend2
import Derived.Deep.RegionHeld3
namespace Go.Proofs.Ytepioeaomlmocaa
open Go.RowKit

def cmpI (x y : Int) : Int := if x < y then -1 else if y < x then 1 else 0
def orI (a b : Int) : Int := if a == 0 then b else a
def cmpV (x y : Vl) : Int := orI (cmpI x.n y.n) (Lib.compareBytes x.s.data.toList y.s.data.toList)

set_option maxHeartbeats 400000 in
theorem cmp64_any (x y : Int) (w : World) :
    Calls Try.prog 91 #[.int .i64 x, .int .i64 y] w fun e w' => e = .returned (.int .i64 (cmpI x y)) ∧ w' = w := by
  go_enter Try.func91, Try.ntmps91
  go_wp2
  all_goals
    go_ret
    exact ⟨ret_int (by simp only [cmpI]; split <;> (try split) <;> omega), rfl⟩

set_option maxHeartbeats 400000 in
theorem or_any (g c : Nat) (x y : Int) (w : World) (h0 : w.cell? ⟨g, 0, none⟩ = some (.int .i64 x)) (h1 : w.cell? ⟨g, 1, none⟩ = some (.int .i64 y)) :
    Calls Try.prog 90 #[.slice (some ⟨g, 0, none⟩) 2 c] w fun e w' => e = .returned (.int .i64 (orI x y)) ∧ w' = w := by
  by_cases hx : x = 0
  · subst hx
    have HO : Hid (orI 0 y = y) := by show _ = _; simp [orI]
    by_cases hy : y = 0
    · subst hy
      go_enter Try.func90, Try.ntmps90
      go_wp2
      go_loop [8] (fun i => ∃ k : Nat, k ≤ 2 ∧ i = .int .i64 k) (fun i => 2 - (intOf i).toNat)
      case atStart => exact ⟨0, by omega, rfl⟩
      case round =>
        obtain ⟨k, hk, rfl⟩ := hrel
        rcases (show k = 0 ∨ k = 1 ∨ k = 2 by omega) with rfl | rfl | rfl
        · go_wp2
          go_round
          case rel => exact ⟨1, by omega, rfl⟩
          case measure => simp [intOf]
        · go_wp2
          go_round
          case rel => exact ⟨2, by omega, rfl⟩
          case measure => simp [intOf]
        · go_wp2
          go_ret
          exact ⟨ret_int HO.out.symm, rfl⟩
    · have hy' : (y != 0) = true := by simp [hy]
      clear hy
      go_enter Try.func90, Try.ntmps90
      go_wp2
      go_loop [8] (fun i => ∃ k : Nat, k ≤ 1 ∧ i = .int .i64 k) (fun i => 2 - (intOf i).toNat)
      case atStart => exact ⟨0, by omega, rfl⟩
      case round =>
        obtain ⟨k, hk, rfl⟩ := hrel
        rcases (show k = 0 ∨ k = 1 by omega) with rfl | rfl
        · go_wp2
          go_round
          case rel => exact ⟨1, by omega, rfl⟩
          case measure => simp [intOf]
        · go_wp2
          go_ret
          exact ⟨ret_int HO.out.symm, rfl⟩
  · have hx' : (x != 0) = true := by simp [hx]
    have HO : Hid (orI x y = x) := by show _ = _; simp [orI, hx]
    clear hx
    go_enter Try.func90, Try.ntmps90
    go_wp2
    go_loop [8] (fun i => i = .int .i64 0) (fun _ => 0)
    case atStart => rfl
    case round =>
      subst hrel
      go_wp2
      go_ret
      exact ⟨ret_int HO.out.symm, rfl⟩

theorem cell_new (W : World) (cs : Array Value) (T : TypeId) (b j : Nat) {v : Value} (hb : b = W.heap.size) (hj : cs[j]? = some v) : (W.alloc (.cells cs T)).cell? ⟨b, j, none⟩ = some v := by
  subst hb
  have : (W.alloc (.cells cs T)).heap[W.heap.size]? = some (.cells cs T (0, 0)) := heap_alloc_new W _
  unfold World.cell?
  rw [this]; exact hj

set_option maxHeartbeats 400000 in
theorem compare_any (x y : Vl) (w : World) :
    Calls Try.prog 87 #[.agg #[.int .i64 x.n, .string x.s], .agg #[.int .i64 y.n, .string y.s]] w fun e w' => e = .returned (.int .i64 (cmpV x y)) ∧ Ext w w' := by
  have hneg : Hid (cmpV x y = orI (cmpI x.n y.n) (Lib.compareBytes x.s.data.toList y.s.data.toList)) := rfl
  generalize cmpV x y = cv at *
  go_enter Try.func87, Try.ntmps87
  go_wp2_with fail
  go_region_held3 (fun w' => w'.cell? ⟨w.heap.size, 0, none⟩ = some (.int .i64 x.n) ∧ w'.cell? ⟨w.heap.size + 1, 0, none⟩ = some (.int .i64 y.n) ∧ w'.cell? ⟨w.heap.size, 1, none⟩ = some (.string x.s) ∧ w'.cell? ⟨w.heap.size + 1, 1, none⟩ = some (.string y.s)) (go_keep)
    (first | (go_at_call 91; refine (cmp64_any _ _ _).mono ?_; rintro e w' ⟨rfl, rfl⟩) | (go_at_call 92; refine (Try.strings_Compare _ _ _).mono ?_; rintro e w' ⟨rfl, rfl⟩) | (go_at_call 90; refine (or_any _ _ (cmpI x.n y.n) (Lib.compareBytes x.s.data.toList y.s.data.toList) _ (by exact cell_new _ _ _ _ _ (by simp) rfl) (by exact cell_new _ _ _ _ _ (by simp) rfl)).mono ?_; rintro e w' ⟨rfl, rfl⟩))
  go_wp2
  go_ret
  exact ⟨ret_int hneg.out.symm, (((((Ext.refl _).alloc _).alloc _).alloc _).drew)⟩
end Go.Proofs.Ytepioeaomlmocaa
