import Derived.Defers
import Derived.Laws.Pointers
import Derived.Laws.LoneSync
import Derived.Conc.MuLone
import Derived.RegionTactic
import Derived.RegionCalls
import Derived.ChangeAlike
import Derived.Deep.RegionWith
import Derived.Test.YtpbblaeamddbgaaGreatGE
import Derived.Test.YtpbblaeamddbgaaGreatGI
namespace Go.Proofs.YtpbblaeamddbgaaGreat
open Go.RowKit

theorem o_disable (w : World) : (callFunc 154 #[]).run Tryz.prog w = .ok (.value (.tuple #[])) w := run_call_mark0 Tryz.func154 (by kernel_rfl) (by kernel_rfl) (by kernel_rfl) .disable (by kernel_rfl) w
theorem o_enable (w : World) : (callFunc 156 #[]).run Tryz.prog w = .ok (.value (.tuple #[])) w := run_call_mark0 Tryz.func156 (by kernel_rfl) (by kernel_rfl) (by kernel_rfl) .enable (by kernel_rfl) w
theorem o_acquire (a : Addr) (w : World) : (callFunc 157 #[.pointer (some a)]).run Tryz.prog w = .ok (.value (.tuple #[])) w := run_call_marked Tryz.func157 (by kernel_rfl) (by kernel_rfl) (by kernel_rfl) .acquire (by kernel_rfl) a w
theorem o_release (a : Addr) (w : World) : (callFunc 203 #[.pointer (some a)]).run Tryz.prog w = .ok (.value (.tuple #[])) w := run_call_marked Tryz.func203 (by kernel_rfl) (by kernel_rfl) (by kernel_rfl) .releaseMerge (by kernel_rfl) a w

set_option maxRecDepth 100000 in
theorem store_deferred (a : Addr) (x : Value) (u : FrameMode) (w : World) (hc : w.cell? a = some x) (hz : w.frozen? a = false) :
    CallsD Tryz.prog 200 #[.pointer (some a), .bool true] u w fun e u' w' => u' = u ∧ (e = .returned (.tuple #[]) ∧ w' = w.drew.setCell a (.int .u32 1)) := by
  have hc' : w.drew.cell? a = some x := by go_simp
  have hz' : w.drew.frozen? a = false := by go_simp
  have hst := run_call_store (P := Tryz.prog) Tryz.func227 (by kernel_rfl) (by kernel_rfl) (by kernel_rfl) (by kernel_rfl) (k := .u32) (y := 1) hc' hz'
  go_enter_d Tryz.func200, Tryz.ntmps200
  go_wp2
  go_region_calls
  all_goals (go_end0; exact ⟨rfl, rfl⟩)

abbrev muLink : Go.Conc.Locks.MuLink := { lock := 198, unlock := 199, ilock := 225, iunlock := 226, lockSlow := 240, unlockSlow := 242, disable := 154, enable := 156, acquire := 157, relMerge := 203, cas32 := 239, add32 := 241, tMutex := 120, tIMutex := 118, tPMutex := 313, tPIMutex := 325, tPI32 := 327, tUP := 255, tNoCopy := 113, tU32 := 114 }
/-- The program holds the library's lock. -/
theorem muLib : Go.Conc.Locks.MuLib Tryz.prog muLink :=
  ⟨Tryz.func198, Tryz.func199, Tryz.func225, Tryz.func226, Tryz.func154, Tryz.func156, Tryz.func157, Tryz.func203, Tryz.func239, Tryz.func241, Tryz.underlying118, Tryz.runUnderlying118, Tryz.sizeOf118, Tryz.isAgg118, Tryz.zeroValue118, Tryz.underlying120, Tryz.runUnderlying120, Tryz.sizeOf120, Tryz.isAgg120, Tryz.zeroValue120, Tryz.underlying313, Tryz.runUnderlying313, Tryz.sizeOf313, Tryz.isAgg313, Tryz.zeroValue313, Tryz.underlying325, Tryz.runUnderlying325, Tryz.sizeOf325, Tryz.isAgg325, Tryz.zeroValue325, Tryz.underlying327, Tryz.runUnderlying327, Tryz.sizeOf327, Tryz.isAgg327, Tryz.zeroValue327, Tryz.underlying255, Tryz.runUnderlying255, Tryz.sizeOf255, Tryz.isAgg255, Tryz.zeroValue255, Tryz.underlying113, Tryz.runUnderlying113, Tryz.sizeOf113, Tryz.isAgg113, Tryz.zeroValue113, Tryz.underlying21, Tryz.runUnderlying21, Tryz.sizeOf21, Tryz.isAgg21, Tryz.zeroValue21, (by kernel_rfl)⟩
theorem unlock_deferred (a : Addr) (u : FrameMode) (w : World) (hc : w.cell? a = some (.int .i32 1)) (hz : w.frozen? a = false) :
    CallsD Tryz.prog 199 #[.pointer (some a)] u w fun e u' w' => u' = u ∧ (e = .returned (.tuple #[]) ∧ w' = w.setCell a (.int .i32 0)) := Go.MuLone.unlock_deferred muLib a u w hc hz
theorem lock_free (a : Addr) (w : World) (hc : w.cell? a = some (.int .i32 0)) (hz : w.frozen? a = false) :
    Calls Tryz.prog 198 #[.pointer (some a)] w fun e w' => e = .returned (.tuple #[]) ∧ w' = w.setCell a (.int .i32 1) := Go.MuLone.lock_free muLib a w hc hz

set_option maxRecDepth 100000 in
set_option maxHeartbeats 1600000 in
/-- The slow road, not yet done and the lock free: what the function that is handed in leaves (Q), then the two deferred calls. -/
theorem slow_any (b : Nat) (caps : Array Value) (w : World) (Q : World → Prop)
    (h0 : w.cell? ⟨b, 0, none⟩ = some (.int .u32 0)) (h1 : w.cell? ⟨b, 1, none⟩ = some (.int .i32 0)) (f1 : w.frozen? ⟨b, 1, none⟩ = false)
    (hF : Calls Tryz.prog 106 caps (w.setCell ⟨b, 1, none⟩ (.int .i32 1)) fun e w' => e = .returned (.tuple #[]) ∧ Q w' ∧ w'.cell? ⟨b, 0, none⟩ = some (.int .u32 0) ∧ w'.cell? ⟨b, 1, none⟩ = some (.int .i32 1) ∧ w'.frozen? ⟨b, 0, none⟩ = false ∧ w'.frozen? ⟨b, 1, none⟩ = false) :
    Calls Tryz.prog 148 #[.pointer (some ⟨b, 0, none⟩), .func (.func 106) #[] caps] w fun e w' => e = .returned (.tuple #[]) ∧ ∃ w2, Q w2 ∧ w' = (w2.drew.setCell ⟨b, 0, none⟩ (.int .u32 1)).setCell ⟨b, 1, none⟩ (.int .i32 0) := by
  have hl := run_call_load (P := Tryz.prog) Tryz.func197 (by kernel_rfl) (by kernel_rfl) (by kernel_rfl) .u32 (by kernel_rfl) (w := w.setCell ⟨b, 1, none⟩ (.int .i32 1)) (a := ⟨b, 0, none⟩) (x := 0) ((World.cell?_setCell_other _ ⟨b, 1, none⟩ ⟨b, 0, none⟩ _ (by simp)).trans h0)
  have hnot : ∀ (x : Bool) (w : World), (Op.unary .not (.bool x)).run Tryz.prog w = .ok (.bool (!x)) w := fun _ _ => rfl
  have HF : Hid _ := hF
  clear hF
  go_enter_defers Tryz.func148, Tryz.ntmps148
  go_wp2_with (first
    | (go_at_call 198; refine (lock_free ⟨b, 1, none⟩ _ (by go_simp) (by go_simp)).mono ?_; rintro e w' ⟨rfl, rfl⟩)
    | (go_at_call 147; go_in)
    | (go_at_call 106; refine Calls.mono HF.out ?_; rintro e w2 ⟨rfl, hQ, c0, c1, z0, z1⟩))
  refine leaves_cons (f := 200) (args := #[.pointer (some ⟨b, 0, none⟩), .bool true]) (by simp) (by simp [go_sem]) ?_
  refine (store_deferred ⟨b, 0, none⟩ (.int .u32 0) .returning _ c0 z0).mono ?_
  rintro e u' w'' ⟨rfl, rfl, rfl⟩
  refine leaves_cons (f := 199) (args := #[.pointer (some ⟨b, 1, none⟩)]) (by simp [settle]) (by simp [go_sem]) ?_
  refine (unlock_deferred ⟨b, 1, none⟩ _ _ ?_ (by simp [z1])).mono ?_
  · refine (World.cell?_setCell_other _ ⟨b, 0, none⟩ ⟨b, 1, none⟩ _ (by simp)).trans ?_
    rw [World.cell?_drew]
    exact c1
  rintro e u' w'' ⟨rfl, rfl, rfl⟩
  simp [Leaves, settle, results, Tryz.results148]
  exact ⟨w2, hQ, rfl⟩

set_option maxRecDepth 100000 in
set_option maxHeartbeats 1600000 in
theorem do_first (b : Nat) (caps : Array Value) (w : World) (Q : World → Prop)
    (h0 : w.cell? ⟨b, 0, none⟩ = some (.int .u32 0)) (h1 : w.cell? ⟨b, 1, none⟩ = some (.int .i32 0)) (f1 : w.frozen? ⟨b, 1, none⟩ = false)
    (hF : Calls Tryz.prog 106 caps (w.setCell ⟨b, 1, none⟩ (.int .i32 1)) fun e w' => e = .returned (.tuple #[]) ∧ Q w' ∧ w'.cell? ⟨b, 0, none⟩ = some (.int .u32 0) ∧ w'.cell? ⟨b, 1, none⟩ = some (.int .i32 1) ∧ w'.frozen? ⟨b, 0, none⟩ = false ∧ w'.frozen? ⟨b, 1, none⟩ = false) :
    Calls Tryz.prog 105 #[.pointer (some ⟨b, 0, none⟩), .func (.func 106) #[] caps] w fun e w' => e = .returned (.tuple #[]) ∧ ∃ w2, Q w2 ∧ w' = (w2.drew.setCell ⟨b, 0, none⟩ (.int .u32 1)).setCell ⟨b, 1, none⟩ (.int .i32 0) := by
  have hl := run_call_load (P := Tryz.prog) Tryz.func197 (by kernel_rfl) (by kernel_rfl) (by kernel_rfl) .u32 (by kernel_rfl) h0
  have hnot : ∀ (x : Bool) (w : World), (Op.unary .not (.bool x)).run Tryz.prog w = .ok (.bool (!x)) w := fun _ _ => rfl
  have HS : Hid _ := slow_any b caps w Q h0 h1 f1 hF
  clear hF
  go_enter Tryz.func105, Tryz.ntmps105
  go_wp2_with (first | (go_at_call 148; refine Calls.mono HS.out ?_; rintro e w' ⟨rfl, hw⟩) | (go_at_call 147; go_in))
  go_end0
  exact ⟨rfl, hw⟩

theorem do_done (a : Addr) (fv : Value) (w : World) (h0 : w.cell? a = some (.int .u32 1)) :
    Calls Tryz.prog 105 #[.pointer (some a), fv] w fun e w' => e = .returned (.tuple #[]) ∧ w' = w := by
  have hl := run_call_load (P := Tryz.prog) Tryz.func197 (by kernel_rfl) (by kernel_rfl) (by kernel_rfl) .u32 (by kernel_rfl) h0
  have hnot : ∀ (x : Bool) (w : World), (Op.unary .not (.bool x)).run Tryz.prog w = .ok (.bool (!x)) w := fun _ _ => rfl
  go_enter Tryz.func105, Tryz.ntmps105
  go_wp2
  go_end0
  exact ⟨rfl, rfl⟩
end Go.Proofs.YtpbblaeamddbgaaGreat
namespace Go.Proofs.YtpbblaeamddbgaaGreat
open Go.RowKit

/-- What the function that builds the tree leaves. -/
def Ask1 (W : World) (lb : Nat) (order : List Int) (ks : List (Int × List Cd)) (w' : World) : Prop :=
  ∃ (tb : Nat) (N : List (Nd Cd)) (R : List NdR) (oa : Option Addr) (oc : Nat) (W2 : World), TreeAt W2 tb (fun b => W.heap.size ≤ b) order N R oa oc ∧ TreeOK Cd.attr ceE order ks N (1 + ks.length * order.length) ∧ Ext W W2 ∧ w' = W2.setCell ⟨lb, 3, none⟩ (.pointer (some ⟨tb, 0, none⟩))

set_option maxHeartbeats 1600000 in
set_option maxRecDepth 100000 in
theorem ask1 (eb lb pe pl : Nat) (W : World) (ob oc : Nat) (order : List Int) (fa : Option Addr) (fcap n : Nat) (ks : List (Int × List Cd)) (cs : List Value) (T : TypeId)
    (hpe : W.cell? ⟨pe, 0, none⟩ = some (.pointer (some ⟨eb, 0, none⟩))) (hpl : W.cell? ⟨pl, 0, none⟩ = some (.pointer (some ⟨lb, 0, none⟩)))
    (c1 : W.cell? ⟨eb, 1, none⟩ = some (.slice fa n fcap)) (c2 : W.cell? ⟨eb, 2, none⟩ = some (.slice (some ⟨ob, 0, none⟩) order.length oc)) (hl : Row W lb T cs) (hcs : 3 < cs.length)
    (HB : ∀ W', Ext W W' → Calls Tryz.prog 107 #[.slice (some ⟨ob, 0, none⟩) order.length oc, .slice fa n fcap] W' fun e w' => BuildPost W' order ks e w') :
    Calls Tryz.prog 106 #[.pointer (some ⟨pe, 0, none⟩), .pointer (some ⟨pl, 0, none⟩)] W fun e w' => e = .returned (.tuple #[]) ∧ Ask1 W lb order ks w' := by
  have HBB : Hid _ := HB
  have HL : Hid (Row W lb T cs) := hl
  have HCS : Hid (3 < cs.length) := hcs
  have l3 := hl.cell hcs
  have z3 := hl.frozen 3
  generalize cs[3] = x3 at *
  clear HB hl hcs
  go_enter Tryz.func106, Tryz.ntmps106
  go_wp2_with fail
  go_region_with (first
    | (go_at_call 107; refine Calls.mono (HBB.out _ (by exact (Ext.refl W).drew)) ?_; rintro e w2 ⟨tb, N, R, oa, oc', rfl, hT, hO, hE⟩; have hE2 : Ext W w2 := ((Ext.refl W).drew).trans hE; have p2 := hE2.cell hpl; have q2 := hE2.cell hpe; have l2 := hE2.cell l3; have z2 := (HL.out.ext hE2).frozen 3))
  all_goals go_wp2
  all_goals go_end0
  all_goals exact ⟨rfl, tb, N, R, oa, oc', w2, hT.mono (fun b h _ => h), hO, hE2, rfl⟩

end Go.Proofs.YtpbblaeamddbgaaGreat
