import Derived.Shelf.Small.Bits
import Derived.Shelf.Small.Strs
import Derived.Shelf.Small.Wraps
import Derived.Shelf.Strconv.Itoa0
import Derived.Shelf.LaysM
import Derived.Shelf.Strconv.Clone
import Derived.Shelf.Sort.Plain
import Derived.Shelf.Strings.Prefix
import Derived.Ground.Names2Prog
import Derived.Shelf.Slices.Clone
import Derived.Shelf.Slices.In.SortNone
import Derived.Ground.SlgfProg
import Derived.Shelf.SlSortCmp.SmallK
import Derived.Ground.SlsfProg
import Derived.Shelf.SlGeneric
import Derived.Shelf.SlicesE.IndexFunc
import Derived.Shelf.SlicesE.DeleteFunc
import Derived.Test.YtpbblaeamddbgaaGreatProg
import Derived.Deep.RegionHeld3
import Derived.Test.YtpbblaeamddbgaaGreatGA
import Derived.Test.YtpbblaeamddbgaaGreatGB
import Derived.Test.YtpbblaeamddbgaaGreatG0
namespace Go.Proofs.YtpbblaeamddbgaaGreat
open Go.RowKit

theorem Tryz.infoInt : (Tryz.prog.info? 3).map (fun i => (i.zero, i.size, i.bytes)) = some (some (.int .i64 0), 1, 8) := by kernel_rfl
theorem Tryz.sizeInt : (Tryz.prog.info? 3).map (·.size) = some 1 := by kernel_rfl

/-- What is lent: the numbers, and three things behind them. -/
def padI (xs : List Int) : List Value := (xs ++ [77, 77, 77]).map (Value.int .i64)
theorem padI_len (xs : List Int) : (padI xs).length = xs.length + 3 := by simp [padI]
theorem padI_at (xs : List Int) (k : Nat) (h : xs.length ≤ k) (h3 : k < xs.length + 3) : (padI xs)[k]'(by rw [padI_len]; exact h3) = .int .i64 77 := by
  unfold padI
  simp only [List.getElem_map, Value.int.injEq, true_and]
  rw [List.getElem_append_right h]
  rcases (show k - xs.length = 0 ∨ k - xs.length = 1 ∨ k - xs.length = 2 by omega) with e | e | e <;> simp [e]

theorem ixs_src {w : World} {ao : Option Addr} {xs : List Int} (hs : Ixs w ao xs) : 0 < xs.length → ∃ ad, ao = some ad ∧ ∀ j v, (xs.map (Value.int .i64))[j]? = some v → w.cell? (ad.add j) = some v := by
  intro hp
  obtain ⟨b, o, rfl, hI⟩ := hs hp
  refine ⟨_, rfl, fun j v hj => ?_⟩
  rw [List.getElem?_map] at hj
  obtain ⟨x, hx, rfl⟩ := Option.map_eq_some_iff.1 hj
  have hj' : j < xs.length := (List.getElem?_eq_some_iff.1 hx).1
  rw [add_at, hI j hj']
  simp [hx]
theorem ints_oneCell' (xs : List Int) : ∀ v ∈ xs.map (Value.int .i64), v.oneCell' = true := by
  intro v hv
  obtain ⟨x, _, rfl⟩ := List.mem_map.1 hv
  rfl
theorem padI_take (xs : List Int) (Z : List Value) : (xs.map (Value.int .i64) ++ Z).take xs.length = (padI xs).take xs.length := by
  unfold padI
  rw [List.map_append, List.take_left' (by simp), List.take_left' (by simp)]

set_option maxHeartbeats 400000 in
set_option maxRecDepth 100000 in
theorem numbers_any (ao : Option Addr) (cap : Nat) (xs : List Int) (w : World) (hl : xs.length * 8 ≤ 140737488351232) (hs : Ixs w ao xs) :
    Calls Tryz.prog 62 #[.slice ao xs.length cap] w fun e w' =>
      e = .returned (.slice (some ⟨w.heap.size, 0, none⟩) (xs.length + 3) (xs.length + 3)) ∧ Row w' w.heap.size 3 (padI xs) ∧ Ext w w' := by
  have hplen : Hid _ := padI_len xs
  have hpt : Hid (∀ Z, (xs.map (Value.int .i64) ++ Z).take xs.length = (padI xs).take xs.length) := padI_take xs
  have hpa : Hid (∀ k (h : xs.length ≤ k) (h3 : k < xs.length + 3), (padI xs)[k]'(by rw [padI_len]; exact h3) = .int .i64 77) := padI_at xs
  go_enter Tryz.func62, Tryz.ntmps62
  go_wp2_with (first
    | (at_make; refine wpList_make_row _ rfl _ _ 25 rfl 3 (.int .i64 0) 1 8 Tryz.underlying25 Tryz.infoInt _ _ _ _ (xs.length + 3) rfl rfl (by omega) (by omega) (by omega) (by unfold maxLen; omega) ?_; intro w1 Z hrow hlen hE1)
    | (refine wpList_copy_row rfl _ _ 25 25 rfl 3 1 Tryz.underlying25 Tryz.sizeInt w.heap.size (xs.length + 3) (xs.length + 3) xs.length _ _ rfl rfl Z 3 hrow (xs.map (Value.int .i64)) (by omega) (by simp) (ixs_src (hs.ext hE1)) (by have := hlen.out; simp; omega) (ints_oneCell' _) ?_; intro w2 Z2 hrow2 hZ2 hk2; clear hrow))
  have hE2 : Ext w w2 := hE1.kpFresh hk2 (Nat.le_refl _)
  have hlen2 : Hid (Z2.length = xs.length + 3) := by
    show Z2.length = _
    rw [hZ2.out]; have := hlen.out; simp; omega
  have htk : Hid (Z2.take xs.length = (padI xs).take xs.length) := by
    show Z2.take _ = _
    rw [hZ2.out]; exact hpt.out _
  clear hlen hE1 hk2 hZ2 hs hpt
  go_wp2
  go_loopw [4] (fun i wr => ∃ k : Nat, xs.length ≤ k ∧ k ≤ xs.length + 3 ∧ i = .int .i64 k ∧ Ext w wr ∧ ∃ Z, Row wr w.heap.size 3 Z ∧ Z.length = xs.length + 3 ∧ Z.take k = (padI xs).take k) (fun i _ => xs.length + 3 - (intOf i).toNat)
  case atStart => exact ⟨xs.length, Nat.le_refl _, by omega, rfl, hE2, Z2, hrow2, hlen2.out, htk.out⟩
  case round =>
    obtain ⟨k, hk0, hk3, rfl, hE, Y, hY, hYl, hYt⟩ := hrel
    have HY : Hid (Y.length = xs.length + 3 ∧ Y.take k = (padI xs).take k) := ⟨hYl, hYt⟩
    clear hYl hYt hlen2 htk hrow2 hE2
    by_cases hlt : k < xs.length + 3
    · have hc := hY.cell (j := k) (by rw [HY.out.1]; exact hlt)
      have hf := hY.frozen k
      go_wp2
      go_roundw
      case rel =>
        refine ⟨k + 1, by omega, by omega, by go_num, hE.setCell (Nat.le_refl _) _, _, hY.set k _, ?_, ?_⟩
        · simp; exact HY.out.1
        · exact set_take_succ Y (padI xs) k _ (by rw [HY.out.1]; exact hlt) (by rw [hplen.out]; exact hlt) HY.out.2 (hpa.out k hk0 hlt)
      case measure => simp [intOf]; omega
    · go_wp2
      go_ret
      refine ⟨rfl, ?_, hE⟩
      have e1 : Y = padI xs := by
        have := HY.out.2
        rwa [List.take_of_length_le (by rw [HY.out.1]; omega), List.take_of_length_le (by rw [hplen.out]; omega)] at this
      rw [← e1]; exact hY
end Go.Proofs.YtpbblaeamddbgaaGreat
namespace Go.Proofs.YtpbblaeamddbgaaGreat
open Go.RowKit

theorem flat_len {α : Type} (f : α → List Value) (s : Nat) (hf : ∀ x, (f x).length = s) : ∀ l : List α, (l.flatMap f).length = l.length * s
  | [] => by simp
  | x :: l => by rw [List.flatMap_cons, List.length_append, hf, flat_len f s hf l, List.length_cons, Nat.succ_mul, Nat.add_comm]
theorem flat_at {α : Type} (f : α → List Value) (s : Nat) (hf : ∀ x, (f x).length = s) : ∀ (l : List α) (q r : Nat) (hq : q < l.length), r < s → (l.flatMap f)[q * s + r]? = (f l[q])[r]?
  | [], q, r, hq, _ => by simp at hq
  | x :: l, 0, r, _, hr => by
    rw [List.flatMap_cons, List.getElem?_append_left (by rw [hf]; omega)]; simp
  | x :: l, q + 1, r, hq, hr => by
    rw [List.flatMap_cons, List.getElem?_append_right (by rw [hf, Nat.succ_mul]; omega), hf]
    have e : (q + 1) * s + r - s = q * s + r := by rw [Nat.succ_mul]; omega
    rw [e, flat_at f s hf l q r (by simpa using hq) hr]; simp

/-- The fields of an event lie there. -/
def Fds (w : World) (b o : Nat) (l : List Fd) : Prop := ∀ j (hj : j < l.length), w.cell? ⟨b, o + j * 3, none⟩ = some (.int .i64 l[j].attr) ∧ w.cell? ⟨b, o + j * 3 + 1, none⟩ = some (.int .i64 l[j].v.n) ∧ w.cell? ⟨b, o + j * 3 + 2, none⟩ = some (.string l[j].v.s)
theorem Fds.ext {w w' : World} {b o : Nat} {l : List Fd} (h : Fds w b o l) (e : Ext w w') : Fds w' b o l := fun j hj => by
  obtain ⟨h0, h1, h2⟩ := h j hj
  exact ⟨e.cell h0, e.cell h1, e.cell h2⟩
def Fxs (w : World) (ao : Option Addr) (l : List Fd) : Prop := 0 < l.length → ∃ b o, ao = some ⟨b, o, none⟩ ∧ Fds w b o l
theorem Fxs.ext {w w' : World} {ao : Option Addr} {l : List Fd} (h : Fxs w ao l) (e : Ext w w') : Fxs w' ao l := fun hp => by
  obtain ⟨b, o, h1, h2⟩ := h hp
  exact ⟨b, o, h1, h2.ext e⟩

theorem set1_take (Z T : List Value) (m : Nat) (v : Value) (hl : m < Z.length) (h : Z.take m = T.take m) (hv : T[m]? = some v) : (Z.set m v).take (m + 1) = T.take (m + 1) := by
  obtain ⟨ht, e⟩ := List.getElem?_eq_some_iff.1 hv
  exact set_take_succ Z T m v hl ht h e
theorem set3_take (Z T : List Value) (m : Nat) (v0 v1 v2 : Value) (hl : m + 3 ≤ Z.length) (h : Z.take m = T.take m) (h0 : T[m + 0]? = some v0) (h1 : T[m + 1]? = some v1) (h2 : T[m + 2]? = some v2) :
    (((Z.set m v0).set (m + 1) v1).set (m + 2) v2).take (m + 3) = T.take (m + 3) := by
  have e0 := set1_take Z T m v0 (by omega) h h0
  have e1 := set1_take _ T (m + 1) v1 (by simp; omega) e0 h1
  exact set1_take _ T (m + 2) v2 (by simp; omega) e1 h2
theorem set6_take (Z T : List Value) (m : Nat) (v0 v1 v2 v3 v4 v5 : Value) (hl : m + 6 ≤ Z.length) (h : Z.take m = T.take m) (h0 : T[m + 0]? = some v0) (h1 : T[m + 1]? = some v1) (h2 : T[m + 2]? = some v2)
    (h3 : T[m + 3]? = some v3) (h4 : T[m + 4]? = some v4) (h5 : T[m + 5]? = some v5) :
    ((((((Z.set m v0).set (m + 1) v1).set (m + 2) v2).set (m + 3) v3).set (m + 4) v4).set (m + 5) v5).take (m + 6) = T.take (m + 6) := by
  have e0 := set3_take Z T m v0 v1 v2 (by omega) h h0 h1 h2
  exact set3_take _ T (m + 3) v3 v4 v5 (by simp; omega) e0 h3 h4 h5

def pC : Cd := ⟨0, 77, ⟨0, ⟨#[]⟩⟩, ⟨0, ⟨#[]⟩⟩⟩
def pF : Fd := ⟨77, ⟨0, ⟨#[]⟩⟩⟩

theorem Tryz.infoCd : (Tryz.prog.info? 80).map (fun i => (i.zero, i.size, i.bytes)) = some (some (.agg #[.int .i64 0, .int .i64 0, .int .i64 0, .string ⟨#[]⟩, .int .i64 0, .string ⟨#[]⟩]), 6, 64) := by kernel_rfl
theorem Tryz.sizeCd : (Tryz.prog.info? 80).map (·.size) = some 6 := by kernel_rfl
def padCd (l : List Cd) : List Value := (l ++ [pC, pC, pC]).flatMap Cd.cells
theorem padCd_len (l : List Cd) : (padCd l).length = (l.length + 3) * 6 := by
  unfold padCd; rw [flat_len _ 6 (fun _ => rfl)]; simp
theorem padCd_at (l : List Cd) (k r : Nat) (h : l.length ≤ k) (h3 : k < l.length + 3) (hr : r < 6) : (padCd l)[k * 6 + r]? = (Cd.cells pC)[r]? := by
  unfold padCd
  rw [flat_at Cd.cells 6 (fun _ => rfl) _ k r (by simp; omega) hr]
  have e : (l ++ [pC, pC, pC])[k]'(by simp; omega) = pC := by
    rw [List.getElem_append_right h]
    rcases (show k - l.length = 0 ∨ k - l.length = 1 ∨ k - l.length = 2 by omega) with e | e | e <;> simp [e]
  rw [e]
theorem padCd_take (l : List Cd) (Z : List Value) : (l.flatMap Cd.cells ++ Z).take (l.length * 6) = (padCd l).take (l.length * 6) := by
  unfold padCd
  rw [List.flatMap_append, List.take_left' (by rw [flat_len _ 6 (fun _ => rfl)]), List.take_left' (by rw [flat_len _ 6 (fun _ => rfl)])]
theorem cds_src {w : World} {ao : Option Addr} {l : List Cd} (hs : Cxs w ao l) : 0 < l.length → ∃ ad, ao = some ad ∧ ∀ j v, (l.flatMap Cd.cells)[j]? = some v → w.cell? (ad.add j) = some v := by
  intro hp
  obtain ⟨b, o, rfl, hI⟩ := hs hp
  refine ⟨_, rfl, fun j v hj => ?_⟩
  have hj' : j < l.length * 6 := by
    have := (List.getElem?_eq_some_iff.1 hj).1
    rwa [flat_len _ 6 (fun _ => rfl)] at this
  have hq : j / 6 < l.length := by omega
  have hr : j % 6 < 6 := Nat.mod_lt _ (by omega)
  have ej : j = j / 6 * 6 + j % 6 := by omega
  rw [ej, flat_at Cd.cells 6 (fun _ => rfl) l _ _ hq hr] at hj
  have hh := hI (j / 6) hq
  rw [add_at, ej, ← Nat.add_assoc]
  generalize j % 6 = r at hj hr
  obtain ⟨h0, h1, h2, h3, h4, h5⟩ := hh
  rcases (show r = 0 ∨ r = 1 ∨ r = 2 ∨ r = 3 ∨ r = 4 ∨ r = 5 by omega) with rfl | rfl | rfl | rfl | rfl | rfl <;> simp [Cd.cells] at hj <;> subst hj <;> assumption
theorem cds_oneCell (l : List Cd) : ∀ v ∈ l.flatMap Cd.cells, v.oneCell' = true := by
  intro v hv
  obtain ⟨x, _, hx⟩ := List.mem_flatMap.1 hv
  simp only [Cd.cells, List.mem_cons, List.not_mem_nil, or_false] at hx
  rcases hx with rfl | rfl | rfl | rfl | rfl | rfl <;> rfl
theorem cds_row {w : World} {g : Nat} {T : TypeId} {l : List Cd} (h : Row w g T (l.flatMap Cd.cells)) : Cds w g 0 l := by
  intro j hj
  have hl : (l.flatMap Cd.cells).length = l.length * 6 := flat_len _ 6 (fun _ => rfl) l
  have key : ∀ r, r < 6 → ∀ v, (Cd.cells l[j])[r]? = some v → w.cell? ⟨g, 0 + j * 6 + r, none⟩ = some v := by
    intro r hr v hv
    have hlt : 0 + j * 6 + r < (l.flatMap Cd.cells).length := by rw [hl]; omega
    rw [h.cell hlt]
    rw [← flat_at Cd.cells 6 (fun _ => rfl) l j r hj hr] at hv
    rw [← hv]; simp
  exact ⟨key 0 (by omega) _ rfl, key 1 (by omega) _ rfl, key 2 (by omega) _ rfl, key 3 (by omega) _ rfl, key 4 (by omega) _ rfl, key 5 (by omega) _ rfl⟩

set_option maxHeartbeats 800000 in
set_option maxRecDepth 100000 in
theorem conds_any (ao : Option Addr) (cap : Nat) (l : List Cd) (w : World) (hl : l.length * 64 ≤ 140737488351232) (hs : Cxs w ao l) :
    Calls Tryz.prog 66 #[.slice ao l.length cap] w fun e w' =>
      e = .returned (.slice (some ⟨w.heap.size, 0, none⟩) (l.length + 3) (l.length + 3)) ∧ Row w' w.heap.size 80 (padCd l) ∧ Ext w w' := by
  have hplen : Hid _ := padCd_len l
  go_enter Tryz.func66, Tryz.ntmps66
  go_wp2_with (first
    | (at_make; refine wpList_make_row _ rfl _ _ 26 rfl 80 (.agg #[.int .i64 0, .int .i64 0, .int .i64 0, .string ⟨#[]⟩, .int .i64 0, .string ⟨#[]⟩]) 6 64 Tryz.underlying26 Tryz.infoCd _ _ _ _ (l.length + 3) rfl rfl (by omega) (by omega) (by omega) (by unfold maxLen; omega) ?_; intro w1 Z hrow hlen hE1)
    | (refine wpList_copy_row rfl _ _ 26 26 rfl 80 6 Tryz.underlying26 Tryz.sizeCd w.heap.size (l.length + 3) (l.length + 3) l.length _ _ rfl rfl Z 80 hrow (l.flatMap Cd.cells) (by omega) (flat_len _ 6 (fun _ => rfl) l) (cds_src (hs.ext hE1)) (by have := hlen.out; rw [flat_len _ 6 (fun _ => rfl)]; omega) (cds_oneCell _) ?_; intro w2 Z2 hrow2 hZ2 hk2; clear hrow))
  have hE2 : Ext w w2 := hE1.kpFresh hk2 (Nat.le_refl _)
  have hlen2 : Hid (Z2.length = (l.length + 3) * 6) := by
    show Z2.length = _
    rw [hZ2.out]; have := hlen.out; simp [flat_len Cd.cells 6 (fun _ => rfl)]; omega
  have htk : Hid (Z2.take (l.length * 6) = (padCd l).take (l.length * 6)) := by
    show Z2.take _ = _
    rw [hZ2.out]; exact padCd_take l _
  clear hlen hE1 hk2 hZ2 hs
  go_wp2
  go_loopw [4] (fun i wr => ∃ k : Nat, l.length ≤ k ∧ k ≤ l.length + 3 ∧ i = .int .i64 k ∧ Ext w wr ∧ ∃ Z, Row wr w.heap.size 80 Z ∧ Z.length = (l.length + 3) * 6 ∧ Z.take (k * 6) = (padCd l).take (k * 6)) (fun i _ => l.length + 3 - (intOf i).toNat)
  case atStart => exact ⟨l.length, Nat.le_refl _, by omega, rfl, hE2, Z2, hrow2, hlen2.out, htk.out⟩
  case round =>
    obtain ⟨k, hk0, hk3, rfl, hE, Y, hY, hYl, hYt⟩ := hrel
    have HY : Hid (Y.length = (l.length + 3) * 6 ∧ Y.take (k * 6) = (padCd l).take (k * 6)) := ⟨hYl, hYt⟩
    clear hYl hYt hlen2 htk hrow2 hE2
    by_cases hlt : k < l.length + 3
    · have hc0 := hY.cell (j := k * 6) (by rw [HY.out.1]; omega)
      have hc1 := hY.cell (j := k * 6 + 1) (by rw [HY.out.1]; omega)
      have hc2 := hY.cell (j := k * 6 + 2) (by rw [HY.out.1]; omega)
      have hc3 := hY.cell (j := k * 6 + 3) (by rw [HY.out.1]; omega)
      have hc4 := hY.cell (j := k * 6 + 4) (by rw [HY.out.1]; omega)
      have hc5 := hY.cell (j := k * 6 + 5) (by rw [HY.out.1]; omega)
      have hf := hY.frozen
      go_wp2
      go_roundw
      case rel =>
        have hs6 := set6_take Y (padCd l) (k * 6) _ _ _ _ _ _ (by rw [HY.out.1]; omega) HY.out.2 (padCd_at l k 0 hk0 hlt (by omega)) (padCd_at l k 1 hk0 hlt (by omega)) (padCd_at l k 2 hk0 hlt (by omega)) (padCd_at l k 3 hk0 hlt (by omega)) (padCd_at l k 4 hk0 hlt (by omega)) (padCd_at l k 5 hk0 hlt (by omega))
        refine ⟨k + 1, by omega, by omega, by go_num, ((((((hE.setCell (Nat.le_refl _) _).setCell (Nat.le_refl _) _).setCell (Nat.le_refl _) _).setCell (Nat.le_refl _) _).setCell (Nat.le_refl _) _).setCell (Nat.le_refl _) _), _, ((((((hY.set _ _).set _ _).set _ _).set _ _).set _ _).set _ _), by simp; exact HY.out.1, ?_⟩
        rw [Nat.succ_mul]; exact hs6
      case measure => simp [intOf]; omega
    · go_wp2
      go_ret
      refine ⟨rfl, ?_, hE⟩
      have e1 : Y = padCd l := by
        have := HY.out.2
        rwa [List.take_of_length_le (by rw [HY.out.1]; omega), List.take_of_length_le (by rw [hplen.out]; omega)] at this
      rw [← e1]; exact hY

theorem Tryz.infoFd : (Tryz.prog.info? 71).map (fun i => (i.zero, i.size, i.bytes)) = some (some (.agg #[.int .i64 0, .int .i64 0, .string ⟨#[]⟩]), 3, 32) := by kernel_rfl
theorem Tryz.sizeFd : (Tryz.prog.info? 71).map (·.size) = some 3 := by kernel_rfl
def padFd (l : List Fd) : List Value := (l ++ [pF, pF, pF]).flatMap Fd.cells
theorem padFd_len (l : List Fd) : (padFd l).length = (l.length + 3) * 3 := by
  unfold padFd; rw [flat_len _ 3 (fun _ => rfl)]; simp
theorem padFd_at (l : List Fd) (k r : Nat) (h : l.length ≤ k) (h3 : k < l.length + 3) (hr : r < 3) : (padFd l)[k * 3 + r]? = (Fd.cells pF)[r]? := by
  unfold padFd
  rw [flat_at Fd.cells 3 (fun _ => rfl) _ k r (by simp; omega) hr]
  have e : (l ++ [pF, pF, pF])[k]'(by simp; omega) = pF := by
    rw [List.getElem_append_right h]
    rcases (show k - l.length = 0 ∨ k - l.length = 1 ∨ k - l.length = 2 by omega) with e | e | e <;> simp [e]
  rw [e]
theorem padFd_take (l : List Fd) (Z : List Value) : (l.flatMap Fd.cells ++ Z).take (l.length * 3) = (padFd l).take (l.length * 3) := by
  unfold padFd
  rw [List.flatMap_append, List.take_left' (by rw [flat_len _ 3 (fun _ => rfl)]), List.take_left' (by rw [flat_len _ 3 (fun _ => rfl)])]
theorem fds_src {w : World} {ao : Option Addr} {l : List Fd} (hs : Fxs w ao l) : 0 < l.length → ∃ ad, ao = some ad ∧ ∀ j v, (l.flatMap Fd.cells)[j]? = some v → w.cell? (ad.add j) = some v := by
  intro hp
  obtain ⟨b, o, rfl, hI⟩ := hs hp
  refine ⟨_, rfl, fun j v hj => ?_⟩
  have hj' : j < l.length * 3 := by
    have := (List.getElem?_eq_some_iff.1 hj).1
    rwa [flat_len _ 3 (fun _ => rfl)] at this
  have hq : j / 3 < l.length := by omega
  have hr : j % 3 < 3 := Nat.mod_lt _ (by omega)
  have ej : j = j / 3 * 3 + j % 3 := by omega
  rw [ej, flat_at Fd.cells 3 (fun _ => rfl) l _ _ hq hr] at hj
  have hh := hI (j / 3) hq
  rw [add_at, ej, ← Nat.add_assoc]
  generalize j % 3 = r at hj hr
  obtain ⟨h0, h1, h2⟩ := hh
  rcases (show r = 0 ∨ r = 1 ∨ r = 2 by omega) with rfl | rfl | rfl <;> simp [Fd.cells] at hj <;> subst hj <;> assumption
theorem fds_oneCell (l : List Fd) : ∀ v ∈ l.flatMap Fd.cells, v.oneCell' = true := by
  intro v hv
  obtain ⟨x, _, hx⟩ := List.mem_flatMap.1 hv
  simp only [Fd.cells, List.mem_cons, List.not_mem_nil, or_false] at hx
  rcases hx with rfl | rfl | rfl <;> rfl
theorem fds_row {w : World} {g : Nat} {T : TypeId} {l : List Fd} (h : Row w g T (l.flatMap Fd.cells)) : Fds w g 0 l := by
  intro j hj
  have hl : (l.flatMap Fd.cells).length = l.length * 3 := flat_len _ 3 (fun _ => rfl) l
  have key : ∀ r, r < 3 → ∀ v, (Fd.cells l[j])[r]? = some v → w.cell? ⟨g, 0 + j * 3 + r, none⟩ = some v := by
    intro r hr v hv
    have hlt : 0 + j * 3 + r < (l.flatMap Fd.cells).length := by rw [hl]; omega
    rw [h.cell hlt]
    rw [← flat_at Fd.cells 3 (fun _ => rfl) l j r hj hr] at hv
    rw [← hv]; simp
  exact ⟨key 0 (by omega) _ rfl, key 1 (by omega) _ rfl, key 2 (by omega) _ rfl⟩

set_option maxHeartbeats 800000 in
set_option maxRecDepth 100000 in
theorem fields_any (ao : Option Addr) (cap : Nat) (l : List Fd) (w : World) (hl : l.length * 32 ≤ 140737488351232) (hs : Fxs w ao l) :
    Calls Tryz.prog 69 #[.slice ao l.length cap] w fun e w' =>
      e = .returned (.slice (some ⟨w.heap.size, 0, none⟩) (l.length + 3) (l.length + 3)) ∧ Row w' w.heap.size 71 (padFd l) ∧ Ext w w' := by
  have hplen : Hid _ := padFd_len l
  go_enter Tryz.func69, Tryz.ntmps69
  go_wp2_with (first
    | (at_make; refine wpList_make_row _ rfl _ _ 27 rfl 71 (.agg #[.int .i64 0, .int .i64 0, .string ⟨#[]⟩]) 3 32 Tryz.underlying27 Tryz.infoFd _ _ _ _ (l.length + 3) rfl rfl (by omega) (by omega) (by omega) (by unfold maxLen; omega) ?_; intro w1 Z hrow hlen hE1)
    | (refine wpList_copy_row rfl _ _ 27 27 rfl 71 3 Tryz.underlying27 Tryz.sizeFd w.heap.size (l.length + 3) (l.length + 3) l.length _ _ rfl rfl Z 71 hrow (l.flatMap Fd.cells) (by omega) (flat_len _ 3 (fun _ => rfl) l) (fds_src (hs.ext hE1)) (by have := hlen.out; rw [flat_len _ 3 (fun _ => rfl)]; omega) (fds_oneCell _) ?_; intro w2 Z2 hrow2 hZ2 hk2; clear hrow))
  have hE2 : Ext w w2 := hE1.kpFresh hk2 (Nat.le_refl _)
  have hlen2 : Hid (Z2.length = (l.length + 3) * 3) := by
    show Z2.length = _
    rw [hZ2.out]; have := hlen.out; simp [flat_len Fd.cells 3 (fun _ => rfl)]; omega
  have htk : Hid (Z2.take (l.length * 3) = (padFd l).take (l.length * 3)) := by
    show Z2.take _ = _
    rw [hZ2.out]; exact padFd_take l _
  clear hlen hE1 hk2 hZ2 hs
  go_wp2
  go_loopw [4] (fun i wr => ∃ k : Nat, l.length ≤ k ∧ k ≤ l.length + 3 ∧ i = .int .i64 k ∧ Ext w wr ∧ ∃ Z, Row wr w.heap.size 71 Z ∧ Z.length = (l.length + 3) * 3 ∧ Z.take (k * 3) = (padFd l).take (k * 3)) (fun i _ => l.length + 3 - (intOf i).toNat)
  case atStart => exact ⟨l.length, Nat.le_refl _, by omega, rfl, hE2, Z2, hrow2, hlen2.out, htk.out⟩
  case round =>
    obtain ⟨k, hk0, hk3, rfl, hE, Y, hY, hYl, hYt⟩ := hrel
    have HY : Hid (Y.length = (l.length + 3) * 3 ∧ Y.take (k * 3) = (padFd l).take (k * 3)) := ⟨hYl, hYt⟩
    clear hYl hYt hlen2 htk hrow2 hE2
    by_cases hlt : k < l.length + 3
    · have hc0 := hY.cell (j := k * 3) (by rw [HY.out.1]; omega)
      have hc1 := hY.cell (j := k * 3 + 1) (by rw [HY.out.1]; omega)
      have hc2 := hY.cell (j := k * 3 + 2) (by rw [HY.out.1]; omega)
      have hf := hY.frozen
      go_wp2
      go_roundw
      case rel =>
        have hs6 := set3_take Y (padFd l) (k * 3) _ _ _ (by rw [HY.out.1]; omega) HY.out.2 (padFd_at l k 0 hk0 hlt (by omega)) (padFd_at l k 1 hk0 hlt (by omega)) (padFd_at l k 2 hk0 hlt (by omega))
        refine ⟨k + 1, by omega, by omega, by go_num, (((hE.setCell (Nat.le_refl _) _).setCell (Nat.le_refl _) _).setCell (Nat.le_refl _) _), _, (((hY.set _ _).set _ _).set _ _), by simp; exact HY.out.1, ?_⟩
        rw [Nat.succ_mul]; exact hs6
      case measure => simp [intOf]; omega
    · go_wp2
      go_ret
      refine ⟨rfl, ?_, hE⟩
      have e1 : Y = padFd l := by
        have := HY.out.2
        rwa [List.take_of_length_le (by rw [HY.out.1]; omega), List.take_of_length_le (by rw [hplen.out]; omega)] at this
      rw [← e1]; exact hY

end Go.Proofs.YtpbblaeamddbgaaGreat
namespace Go.Proofs.YtpbblaeamddbgaaGreat
open Go.RowKit

theorem padI_row {w : World} {g : Nat} {T : TypeId} {xs : List Int} (h : Row w g T (padI xs)) : Ixs w (some ⟨g, 0, none⟩) (xs ++ [77, 77, 77]) := fun _ => by
  refine ⟨g, 0, rfl, fun j hj => ?_⟩
  have hl : j < (padI xs).length := by unfold padI; simpa using hj
  rw [Nat.zero_add, h.cell hl, ← List.getElem?_eq_getElem hl]
  unfold padI
  have hj' : j < (xs ++ [77, 77, 77]).length := hj
  rw [List.getElem?_map, List.getD_eq_getElem?_getD, List.getElem?_eq_getElem hj']
  rfl

theorem drop3 (Y P : List Value) (k : Nat) (a b c : Value) (h : Y.drop (k * 3) = P.drop (k * 3)) : (((Y.set (k * 3) a).set (k * 3 + 1) b).set (k * 3 + 2) c).drop ((k + 1) * 3) = P.drop ((k + 1) * 3) := by
  apply List.ext_getElem?
  intro j
  have := congrArg (fun q => q[3 + j]?) h
  simp only [List.getElem?_drop] at this ⊢
  rw [List.getElem?_set_ne (by omega), List.getElem?_set_ne (by omega), List.getElem?_set_ne (by omega)]
  have e : (k + 1) * 3 + j = k * 3 + (3 + j) := by omega
  rw [e]; exact this
theorem eqB_refl (xs : List Int) : eqB xs xs = true := by simp [eqB]

set_option maxHeartbeats 400000 in
set_option maxRecDepth 100000 in
theorem wholeNumbers_any (g : Nat) (ao : Option Addr) (cap : Nat) (xs : List Int) (w : World) (hl : xs.length * 8 ≤ 140737488351232) (hg : Row w g 3 (padI xs)) (hs : Ixs w ao xs) :
    Calls Tryz.prog 64 #[.slice (some ⟨g, 0, none⟩) (xs.length + 3) (xs.length + 3), .slice ao xs.length cap] w fun e w' => e = .returned (.bool true) ∧ Kp (fun k => k = g) w w' := by
  go_enter Tryz.func64, Tryz.ntmps64
  go_wp2_with fail
  refine (numbers_any ao cap xs w hl hs).mono ?_
  rintro e w1 ⟨rfl, hr1, hE1⟩
  go_wp2_with fail
  have hlen : (xs ++ [77, 77, 77]).length = xs.length + 3 := by simp
  have h2 := sameNumbers_any (some ⟨g, 0, none⟩) (some ⟨w.heap.size, 0, none⟩) (xs.length + 3) (xs.length + 3) (xs ++ [77, 77, 77]) (xs ++ [77, 77, 77]) w1 (by rw [hlen]; omega) (by rw [hlen]; omega) (padI_row (hg.ext hE1)) (padI_row hr1)
  rw [hlen, eqB_refl] at h2
  refine h2.mono ?_
  rintro e w2 ⟨rfl, hE2⟩
  have hg2 := (hg.ext hE1).ext hE2
  have hK2 : Kp (fun k => k = g) w w2 := (hE1.trans hE2).kp _
  clear h2 hlen hE2 hE1 hr1 hs hg
  go_wp2
  go_loopw [7] (fun i wr => ∃ k : Nat, k ≤ xs.length + 3 ∧ i = .int .i64 k ∧ Kp (fun k => k = g) w wr ∧ ∃ Z, Row wr g 3 Z ∧ Z.length = xs.length + 3) (fun i _ => xs.length + 3 - (intOf i).toNat)
  case atStart => exact ⟨0, by omega, rfl, hK2, _, hg2, padI_len xs⟩
  case round =>
    obtain ⟨k, hk3, rfl, hK, Y, hY, hYl⟩ := hrel
    have HY : Hid (Y.length = xs.length + 3) := hYl
    clear hYl hg2 hK2
    by_cases hlt : k < xs.length + 3
    · have hc := hY.cell (j := k) (by rw [HY.out]; exact hlt)
      have hf := hY.frozen k
      go_wp2
      go_roundw
      case rel => exact ⟨k + 1, by omega, by go_num, hK.setCell (fun _ => rfl) _, _, hY.set k _, by simp; exact HY.out⟩
      case measure => simp [intOf]; omega
    · go_wp2
      go_ret
      exact ⟨rfl, hK⟩

set_option maxHeartbeats 400000 in
set_option maxRecDepth 100000 in
theorem wholeConds_any (g : Nat) (ao : Option Addr) (cap : Nat) (l : List Cd) (w : World) (hl : l.length * 64 ≤ 140737488351232) (hg : Row w g 80 (padCd l)) (hs : Cxs w ao l) :
    Calls Tryz.prog 68 #[.slice (some ⟨g, 0, none⟩) (l.length + 3) (l.length + 3), .slice ao l.length cap] w fun e w' => e = .returned (.bool true) ∧ Kp (fun k => k = g) w w' := by
  go_enter Tryz.func68, Tryz.ntmps68
  go_wp2_with fail
  refine (conds_any ao cap l w hl hs).mono ?_
  rintro e w1 ⟨rfl, hr1, hE1⟩
  go_wp2_with fail
  have hlen : (l ++ [pC, pC, pC]).length = l.length + 3 := by simp
  have h2 := sameConds_eq (some ⟨g, 0, none⟩) (some ⟨w.heap.size, 0, none⟩) (l.length + 3) (l.length + 3) (l ++ [pC, pC, pC]) (l ++ [pC, pC, pC]) w1 (by rw [hlen]; omega) (fun _ => ⟨_, _, rfl, cds_row (hg.ext hE1)⟩) (fun _ => ⟨_, _, rfl, cds_row hr1⟩) rfl
  rw [hlen] at h2
  refine h2.mono ?_
  rintro e w2 ⟨rfl, hE2⟩
  have hg2 := (hg.ext hE1).ext hE2
  have hK2 : Kp (fun k => k = g) w w2 := (hE1.trans hE2).kp _
  clear h2 hlen hE2 hE1 hr1 hs hg
  go_wp2
  go_loopw [7] (fun i wr => ∃ k : Nat, k ≤ l.length + 3 ∧ i = .int .i64 k ∧ Kp (fun k => k = g) w wr ∧ ∃ Z, Row wr g 80 Z ∧ Z.length = (l.length + 3) * 6) (fun i _ => l.length + 3 - (intOf i).toNat)
  case atStart => exact ⟨0, by omega, rfl, hK2, _, hg2, padCd_len l⟩
  case round =>
    obtain ⟨k, hk3, rfl, hK, Y, hY, hYl⟩ := hrel
    have HY : Hid (Y.length = (l.length + 3) * 6) := hYl
    clear hYl hg2 hK2
    by_cases hlt : k < l.length + 3
    · have hc0 := hY.cell (j := k * 6) (by rw [HY.out]; omega)
      have hc1 := hY.cell (j := k * 6 + 1) (by rw [HY.out]; omega)
      have hc2 := hY.cell (j := k * 6 + 2) (by rw [HY.out]; omega)
      have hc3 := hY.cell (j := k * 6 + 3) (by rw [HY.out]; omega)
      have hc4 := hY.cell (j := k * 6 + 4) (by rw [HY.out]; omega)
      have hc5 := hY.cell (j := k * 6 + 5) (by rw [HY.out]; omega)
      have hf := hY.frozen
      go_wp2
      go_roundw
      case rel => exact ⟨k + 1, by omega, by go_num, ((((((hK.setCell (fun _ => rfl) _).setCell (fun _ => rfl) _).setCell (fun _ => rfl) _).setCell (fun _ => rfl) _).setCell (fun _ => rfl) _).setCell (fun _ => rfl) _), _, ((((((hY.set _ _).set _ _).set _ _).set _ _).set _ _).set _ _), by simp; exact HY.out⟩
      case measure => simp [intOf]; omega
    · go_wp2
      go_ret
      exact ⟨rfl, hK⟩

set_option maxHeartbeats 800000 in
set_option maxRecDepth 100000 in
theorem wholeFields_any (g : Nat) (ao : Option Addr) (cap : Nat) (l : List Fd) (w : World) (hl : l.length * 32 ≤ 140737488351232) (hg : Row w g 71 (padFd l)) (hs : Fxs w ao l) :
    Calls Tryz.prog 72 #[.slice (some ⟨g, 0, none⟩) (l.length + 3) (l.length + 3), .slice ao l.length cap] w fun e w' => e = .returned (.bool true) ∧ Kp (fun k => k = g) w w' := by
  have hglt := hg.lt
  go_enter Tryz.func72, Tryz.ntmps72
  go_wp2_with fail
  refine (fields_any ao cap l w hl hs).mono ?_
  rintro e w1 ⟨rfl, hr1, hE1⟩
  have hg2 := hg.ext hE1
  have hK2 : Kp (fun k => k = g) w w1 := hE1.kp _
  have hWF : Hid (Fds w1 w.heap.size 0 (l ++ [pF, pF, pF])) := fds_row hr1
  have hGF : Hid (∀ k (hk : k < (l ++ [pF, pF, pF]).length), (padFd l)[k * 3]? = some (.int .i64 (l ++ [pF, pF, pF])[k].attr) ∧ (padFd l)[k * 3 + 1]? = some (.int .i64 (l ++ [pF, pF, pF])[k].v.n) ∧ (padFd l)[k * 3 + 2]? = some (.string (l ++ [pF, pF, pF])[k].v.s)) := by
    intro k hk
    unfold padFd
    exact ⟨flat_at Fd.cells 3 (fun _ => rfl) _ k 0 hk (by omega), flat_at Fd.cells 3 (fun _ => rfl) _ k 1 hk (by omega), flat_at Fd.cells 3 (fun _ => rfl) _ k 2 hk (by omega)⟩
  have hml : Hid ((l ++ [pF, pF, pF]).length = l.length + 3) := by show _ = _; simp
  have hpl : Hid _ := padFd_len l
  generalize l ++ [pF, pF, pF] = m at hWF hGF hml
  have hb : w.heap.size ≠ g := by omega
  clear hE1 hr1 hs hg
  go_wp2
  go_loopw [6, 7] (fun ok i wr => ok = .bool true ∧ ∃ k : Nat, k ≤ l.length + 3 ∧ i = .int .i64 k ∧ Kp (fun k => k = g) w1 wr ∧ ∃ Z, Row wr g 71 Z ∧ Z.length = (l.length + 3) * 3 ∧ Z.drop (k * 3) = (padFd l).drop (k * 3)) (fun _ i _ => l.length + 3 - (intOf i).toNat)
  case atStart => exact ⟨rfl, 0, by omega, rfl, Kp.refl _ _, _, hg2, padFd_len l, rfl⟩
  case round =>
    obtain ⟨rfl, k, hk3, rfl, hK, Y, hY, hYl, hYd⟩ := hrel
    have HY : Hid (Y.length = (l.length + 3) * 3 ∧ Y.drop (k * 3) = (padFd l).drop (k * 3)) := ⟨hYl, hYd⟩
    have hKK : Kp (fun k => k = g) w wr := hK2.trans (hK.mono (fun _ _ h => h))
    clear hYl hYd hg2 hK2
    by_cases hlt : k < l.length + 3
    · have hkm : k < m.length := by rw [hml.out]; exact hlt
      obtain ⟨a0, a1, a2⟩ := hWF.out k hkm
      simp only [Nat.zero_add] at a0 a1 a2
      have b0 := hK.cell a0 hb
      have b1 := hK.cell a1 hb
      have b2 := hK.cell a2 hb
      obtain ⟨f0, f1, f2⟩ := hGF.out k hkm
      have sh : ∀ r, Y[k * 3 + r]? = (padFd l)[k * 3 + r]? := fun r => by
        have := congrArg (fun q => q[r]?) HY.out.2
        simpa [List.getElem?_drop] using this
      have ycell : ∀ r v, (padFd l)[k * 3 + r]? = some v → wr.cell? ⟨g, k * 3 + r, none⟩ = some v := fun r v hv => by
        rw [← sh r] at hv
        obtain ⟨h1, h2⟩ := List.getElem?_eq_some_iff.1 hv
        rw [hY.cell h1, h2]
      have c0 := ycell 0 _ f0
      have c1 := ycell 1 _ f1
      have c2 := ycell 2 _ f2
      simp only [Nat.add_zero] at c0
      have hf := hY.frozen
      clear a0 a1 a2 f0 f1 f2 sh ycell
      generalize m[k] = x at *
      go_wp2
      go_quiet (fail)
      go_wp2
      go_roundw
      case rel =>
        refine ⟨by simp, k + 1, by omega, by go_num, (((hK.trans ((drewN_ext _ _).kp _)).setCell (fun _ => rfl) _).setCell (fun _ => rfl) _).setCell (fun _ => rfl) _, _, ((((hY.ext (drewN_ext _ _)).set _ _).set _ _).set _ _), by simp; exact HY.out.1, ?_⟩
        exact drop3 Y (padFd l) k _ _ _ HY.out.2
      case measure => simp [intOf]; omega
    · go_wp2
      go_ret
      exact ⟨rfl, hKK⟩
end Go.Proofs.YtpbblaeamddbgaaGreat
namespace Go.Proofs
open Go.Shelf
def Tryz.lays128_ren : Go.Shelf.Ren := ⟨fun | 128 => 185 | n => n, fun | 51 => 114 | 3 => 3 | 4 => 4 | 46 => 240 | 5 => 5 | 9 => 9 | n => n, fun | n => n⟩
theorem Tryz.lays128 : Go.Proofs.Lays.n128 Tryz.prog Tryz.lays128_ren := {
  mixed := by kernel_rfl
  f128 := Tryz.func185.trans (congrArg some (by kernel_rfl))
  t3 := Tryz.underlying3
  a3 := Tryz.isAgg3
  z3 := Tryz.sizeOf3
  v3 := Tryz.zeroValue3
  t4 := Tryz.underlying4
  a4 := Tryz.isAgg4
  z4 := Tryz.sizeOf4
  v4 := Tryz.zeroValue4
  t5 := Tryz.underlying5
  a5 := Tryz.isAgg5
  z5 := Tryz.sizeOf5
  v5 := Tryz.zeroValue5
  t9 := Tryz.underlying9
  a9 := Tryz.isAgg9
  z9 := Tryz.sizeOf9
  v9 := Tryz.zeroValue9
  t46 := Tryz.underlying240
  a46 := Tryz.isAgg240
  z46 := Tryz.sizeOf240
  v46 := Tryz.zeroValue240
  t51 := Tryz.underlying114
  a51 := Tryz.isAgg114
  z51 := Tryz.sizeOf114
  v51 := Tryz.zeroValue114 }
theorem Tryz.bits_Len32 (x : Int) (w : World) (h0 : 0 ≤ x) (h1 : x ≤ 4294967295) :
    Calls Tryz.prog 185 #[.int .u32 x] w fun e w' => e = .returned (.int .i64 (Lib.bitLen x.toNat)) ∧ w' = w := Any.bits_Len32 Tryz.lays128 x w h0 h1
def Tryz.lays125_ren : Go.Shelf.Ren := ⟨fun | 125 => 132 | 128 => 185 | 129 => 186 | n => n, fun | 46 => 240 | 3 => 3 | 51 => 114 | 53 => 207 | 4 => 4 | 5 => 5 | 9 => 9 | n => n, fun | n => n⟩
theorem Tryz.lays125 : Go.Proofs.Lays.n125 Tryz.prog Tryz.lays125_ren := {
  mixed := by kernel_rfl
  f125 := Tryz.func132.trans (congrArg some (by kernel_rfl))
  f128 := Tryz.func185.trans (congrArg some (by kernel_rfl))
  f129 := Tryz.func186.trans (congrArg some (by kernel_rfl))
  t3 := Tryz.underlying3
  a3 := Tryz.isAgg3
  z3 := Tryz.sizeOf3
  v3 := Tryz.zeroValue3
  t4 := Tryz.underlying4
  a4 := Tryz.isAgg4
  z4 := Tryz.sizeOf4
  v4 := Tryz.zeroValue4
  t5 := Tryz.underlying5
  a5 := Tryz.isAgg5
  z5 := Tryz.sizeOf5
  v5 := Tryz.zeroValue5
  t9 := Tryz.underlying9
  a9 := Tryz.isAgg9
  z9 := Tryz.sizeOf9
  v9 := Tryz.zeroValue9
  t46 := Tryz.underlying240
  a46 := Tryz.isAgg240
  z46 := Tryz.sizeOf240
  v46 := Tryz.zeroValue240
  t51 := Tryz.underlying114
  a51 := Tryz.isAgg114
  z51 := Tryz.sizeOf114
  v51 := Tryz.zeroValue114
  t53 := Tryz.underlying207
  a53 := Tryz.isAgg207
  z53 := Tryz.sizeOf207
  v53 := Tryz.zeroValue207 }
theorem Tryz.bits_Len (x : Int) (w : World) (h0 : 0 ≤ x) (h1 : x ≤ 18446744073709551615) :
    Calls Tryz.prog 132 #[.int .u64 x] w fun e w' => e = .returned (.int .i64 (Lib.bitLen x.toNat)) ∧ w' = w := Any.bits_Len Tryz.lays125 x w h0 h1
def Tryz.lays213_ren : Go.Shelf.Ren := ⟨fun | 213 => 215 | 265 => 236 | n => n, fun | 9 => 9 | 3 => 3 | n => n, fun | n => n⟩
theorem Tryz.lays213 : Go.Proofs.Lays.n213 Tryz.prog Tryz.lays213_ren := {
  mixed := by kernel_rfl
  f213 := Tryz.func215.trans (congrArg some (by kernel_rfl))
  f265 := Tryz.func236.trans (congrArg some (by kernel_rfl))
  t3 := Tryz.underlying3
  a3 := Tryz.isAgg3
  z3 := Tryz.sizeOf3
  v3 := Tryz.zeroValue3
  t9 := Tryz.underlying9
  a9 := Tryz.isAgg9
  z9 := Tryz.sizeOf9
  v9 := Tryz.zeroValue9 }
open Go.RowKit in
theorem Tryz.bytealg_CompareString (a b : ByteArray) (w : World) :
    Calls Tryz.prog 215 #[.string a, .string b] w fun e w' => e = .returned (.int .i64 (Lib.compareBytes a.data.toList b.data.toList)) ∧ w' = w := Any.bytealg_CompareString Tryz.lays213 a b w
def Tryz.lays106_ren : Go.Shelf.Ren := ⟨fun | 106 => 174 | 213 => 215 | 265 => 236 | n => n, fun | 9 => 9 | 3 => 3 | n => n, fun | n => n⟩
theorem Tryz.lays106 : Go.Proofs.Lays.n106 Tryz.prog Tryz.lays106_ren := {
  mixed := by kernel_rfl
  f106 := Tryz.func174.trans (congrArg some (by kernel_rfl))
  f213 := Tryz.func215.trans (congrArg some (by kernel_rfl))
  f265 := Tryz.func236.trans (congrArg some (by kernel_rfl))
  t3 := Tryz.underlying3
  a3 := Tryz.isAgg3
  z3 := Tryz.sizeOf3
  v3 := Tryz.zeroValue3
  t9 := Tryz.underlying9
  a9 := Tryz.isAgg9
  z9 := Tryz.sizeOf9
  v9 := Tryz.zeroValue9 }
open Go.RowKit in
theorem Tryz.strings_Compare (a b : ByteArray) (w : World) :
    Calls Tryz.prog 174 #[.string a, .string b] w fun e w' => e = .returned (.int .i64 (Lib.compareBytes a.data.toList b.data.toList)) ∧ w' = w := Any.strings_Compare Tryz.lays106 a b w
def Tryz.lays215_ren : Go.Shelf.Ren := ⟨fun | 215 => 133 | n => n, fun | 3 => 3 | 4 => 4 | n => n, fun | n => n⟩
theorem Tryz.lays215 : Go.Proofs.Lays.n215 Tryz.prog Tryz.lays215_ren := {
  mixed := by kernel_rfl
  f215 := Tryz.func133.trans (congrArg some (by kernel_rfl))
  t3 := Tryz.underlying3
  a3 := Tryz.isAgg3
  z3 := Tryz.sizeOf3
  v3 := Tryz.zeroValue3
  t4 := Tryz.underlying4
  a4 := Tryz.isAgg4
  z4 := Tryz.sizeOf4
  v4 := Tryz.zeroValue4 }
open Go.RowKit in
theorem Tryz.cmp_isNaN_int (x : Int) (w : World) :
    Calls Tryz.prog 133 #[.int .i64 x] w fun e w' => e = .returned (.bool false) ∧ w' = w := Any.cmp_isNaN_int Tryz.lays215 x w
def Tryz.lays122_ren : Go.Shelf.Ren := ⟨fun | 122 => 90 | 215 => 133 | n => n, fun | 3 => 3 | 4 => 4 | n => n, fun | n => n⟩
theorem Tryz.lays122 : Go.Proofs.Lays.n122 Tryz.prog Tryz.lays122_ren := {
  mixed := by kernel_rfl
  f122 := Tryz.func90.trans (congrArg some (by kernel_rfl))
  f215 := Tryz.func133.trans (congrArg some (by kernel_rfl))
  t3 := Tryz.underlying3
  a3 := Tryz.isAgg3
  z3 := Tryz.sizeOf3
  v3 := Tryz.zeroValue3
  t4 := Tryz.underlying4
  a4 := Tryz.isAgg4
  z4 := Tryz.sizeOf4
  v4 := Tryz.zeroValue4 }
open Go.RowKit in
theorem Tryz.cmp_Compare_int (x y : Int) (w : World) :
    Calls Tryz.prog 90 #[.int .i64 x, .int .i64 y] w fun e w' => e = .returned (.int .i64 (Lib.compareInt x y)) ∧ w' = w := Any.cmp_Compare_int Tryz.lays122 x y w
def Tryz.lays129_ren : Go.Shelf.Ren := ⟨fun | 129 => 186 | n => n, fun | 53 => 207 | 3 => 3 | 4 => 4 | 46 => 240 | 5 => 5 | 9 => 9 | n => n, fun | n => n⟩
theorem Tryz.lays129 : Go.Proofs.Lays.n129 Tryz.prog Tryz.lays129_ren := {
  mixed := by kernel_rfl
  f129 := Tryz.func186.trans (congrArg some (by kernel_rfl))
  t3 := Tryz.underlying3
  a3 := Tryz.isAgg3
  z3 := Tryz.sizeOf3
  v3 := Tryz.zeroValue3
  t4 := Tryz.underlying4
  a4 := Tryz.isAgg4
  z4 := Tryz.sizeOf4
  v4 := Tryz.zeroValue4
  t5 := Tryz.underlying5
  a5 := Tryz.isAgg5
  z5 := Tryz.sizeOf5
  v5 := Tryz.zeroValue5
  t9 := Tryz.underlying9
  a9 := Tryz.isAgg9
  z9 := Tryz.sizeOf9
  v9 := Tryz.zeroValue9
  t46 := Tryz.underlying240
  a46 := Tryz.isAgg240
  z46 := Tryz.sizeOf240
  v46 := Tryz.zeroValue240
  t53 := Tryz.underlying207
  a53 := Tryz.isAgg207
  z53 := Tryz.sizeOf207
  v53 := Tryz.zeroValue207 }
theorem Tryz.bits_Len64 (x : Int) (w : World) (h0 : 0 ≤ x) (h1 : x ≤ 18446744073709551615) :
    Calls Tryz.prog 186 #[.int .u64 x] w fun e w' => e = .returned (.int .i64 (Lib.bitLen x.toNat)) ∧ w' = w := Any.bits_Len64 Tryz.lays129 x w h0 h1
def Tryz.laysM316_ren : Go.Shelf.Ren := ⟨fun | 316 => 137 | n => n, fun | 9 => 9 | 3 => 3 | 4 => 4 | 37 => 216 | 0 => 0 | 127 => 282 | 5 => 5 | n => n, fun | n => n⟩
theorem Tryz.laysM316 : Go.Proofs.LaysM.n316 Tryz.prog Tryz.laysM316_ren := {
  mixed := by kernel_rfl
  f316 := Tryz.func137.trans (congrArg some (by kernel_rfl))
  t0 := Tryz.underlying0
  a0 := Tryz.isAgg0
  z0 := Tryz.sizeOf0
  v0 := Tryz.zeroValue0
  t3 := Tryz.underlying3
  a3 := Tryz.isAgg3
  z3 := Tryz.sizeOf3
  v3 := Tryz.zeroValue3
  t4 := Tryz.underlying4
  a4 := Tryz.isAgg4
  z4 := Tryz.sizeOf4
  v4 := Tryz.zeroValue4
  t9 := Tryz.underlying9
  a9 := Tryz.isAgg9
  z9 := Tryz.sizeOf9
  v9 := Tryz.zeroValue9
  t37 := Tryz.underlying216
  a37 := Tryz.isAgg216
  z37 := Tryz.sizeOf216
  v37 := Tryz.zeroValue216
  t127 := Tryz.underlying282
  a127 := Tryz.isAgg282
  z127 := Tryz.sizeOf282
  v127 := Tryz.zeroValue282
  t5 := Tryz.underlying5
  a5 := Tryz.isAgg5
  z5 := Tryz.sizeOf5
  v5 := Tryz.zeroValue5
  i0 := by kernel_rfl
  i3 := by kernel_rfl
  i4 := by kernel_rfl
  i5 := by kernel_rfl
  i9 := by kernel_rfl
  i37 := by kernel_rfl
  i127 := by kernel_rfl }
open Go.RowKit in
theorem Tryz.stringslite_Clone (s : ByteArray) (w : World) (hlim : s.size ≤ 281474976710656) :
    Calls Tryz.prog 137 #[.string s] w fun e w' => e = .returned (.string s) ∧ Below w.heap.size w w' := Any.stringslite_Clone Tryz.laysM316 s w hlim
def Tryz.lays189_ren : Go.Shelf.Ren := ⟨fun | 189 => 86 | 125 => 132 | 257 => 131 | 128 => 185 | 129 => 186 | 294 => 176 | 295 => 177 | 296 => 178 | 297 => 179 | 298 => 180 | 299 => 181 | 216 => 182 | 300 => 183 | 301 => 184 | 328 => 216 | 329 => 217 | 330 => 218 | 331 => 219 | 332 => 220 | 215 => 133 | 343 => 237 | n => n, fun | 28 => 25 | 3 => 3 | 46 => 240 | 0 => 0 | 51 => 114 | 53 => 207 | 4 => 4 | 183 => 274 | 182 => 273 | 131 => 126 | 5 => 5 | 9 => 9 | 218 => 305 | 222 => 308 | 228 => 322 | 229 => 150 | n => n, fun | n => n⟩
theorem Tryz.lays189 : Go.Proofs.Lays.n189 Tryz.prog Tryz.lays189_ren := {
  mixed := by kernel_rfl
  f125 := Tryz.func132.trans (congrArg some (by kernel_rfl))
  f128 := Tryz.func185.trans (congrArg some (by kernel_rfl))
  f129 := Tryz.func186.trans (congrArg some (by kernel_rfl))
  f189 := Tryz.func86.trans (congrArg some (by kernel_rfl))
  f215 := Tryz.func133.trans (congrArg some (by kernel_rfl))
  f216 := Tryz.func182.trans (congrArg some (by kernel_rfl))
  f257 := Tryz.func131.trans (congrArg some (by kernel_rfl))
  f294 := Tryz.func176.trans (congrArg some (by kernel_rfl))
  f295 := Tryz.func177.trans (congrArg some (by kernel_rfl))
  f296 := Tryz.func178.trans (congrArg some (by kernel_rfl))
  f297 := Tryz.func179.trans (congrArg some (by kernel_rfl))
  f298 := Tryz.func180.trans (congrArg some (by kernel_rfl))
  f299 := Tryz.func181.trans (congrArg some (by kernel_rfl))
  f300 := Tryz.func183.trans (congrArg some (by kernel_rfl))
  f301 := Tryz.func184.trans (congrArg some (by kernel_rfl))
  f328 := Tryz.func216.trans (congrArg some (by kernel_rfl))
  f329 := Tryz.func217.trans (congrArg some (by kernel_rfl))
  f330 := Tryz.func218.trans (congrArg some (by kernel_rfl))
  f331 := Tryz.func219.trans (congrArg some (by kernel_rfl))
  f332 := Tryz.func220.trans (congrArg some (by kernel_rfl))
  f343 := Tryz.func237.trans (congrArg some (by kernel_rfl))
  t0 := Tryz.underlying0
  a0 := Tryz.isAgg0
  z0 := Tryz.sizeOf0
  v0 := Tryz.zeroValue0
  t3 := Tryz.underlying3
  a3 := Tryz.isAgg3
  z3 := Tryz.sizeOf3
  v3 := Tryz.zeroValue3
  t4 := Tryz.underlying4
  a4 := Tryz.isAgg4
  z4 := Tryz.sizeOf4
  v4 := Tryz.zeroValue4
  t5 := Tryz.underlying5
  a5 := Tryz.isAgg5
  z5 := Tryz.sizeOf5
  v5 := Tryz.zeroValue5
  t9 := Tryz.underlying9
  a9 := Tryz.isAgg9
  z9 := Tryz.sizeOf9
  v9 := Tryz.zeroValue9
  t28 := Tryz.underlying25
  a28 := Tryz.isAgg25
  z28 := Tryz.sizeOf25
  v28 := Tryz.zeroValue25
  t46 := Tryz.underlying240
  a46 := Tryz.isAgg240
  z46 := Tryz.sizeOf240
  v46 := Tryz.zeroValue240
  t51 := Tryz.underlying114
  a51 := Tryz.isAgg114
  z51 := Tryz.sizeOf114
  v51 := Tryz.zeroValue114
  t53 := Tryz.underlying207
  a53 := Tryz.isAgg207
  z53 := Tryz.sizeOf207
  v53 := Tryz.zeroValue207
  t131 := Tryz.underlying126
  a131 := Tryz.isAgg126
  z131 := Tryz.sizeOf126
  v131 := Tryz.zeroValue126
  t182 := Tryz.underlying273
  a182 := Tryz.isAgg273
  z182 := Tryz.sizeOf273
  v182 := Tryz.zeroValue273
  t183 := Tryz.underlying274
  a183 := Tryz.isAgg274
  z183 := Tryz.sizeOf274
  v183 := Tryz.zeroValue274
  t218 := Tryz.underlying305
  a218 := Tryz.isAgg305
  z218 := Tryz.sizeOf305
  v218 := Tryz.zeroValue305
  t222 := Tryz.underlying308
  a222 := Tryz.isAgg308
  z222 := Tryz.sizeOf308
  v222 := Tryz.zeroValue308
  t228 := Tryz.underlying322
  a228 := Tryz.isAgg322
  z228 := Tryz.sizeOf322
  v228 := Tryz.zeroValue322
  t229 := Tryz.underlying150
  a229 := Tryz.isAgg150
  z229 := Tryz.sizeOf150
  v229 := Tryz.zeroValue150 }
open Go.Sort Go.RowKit in
theorem Tryz.slices_Sort_int (blk off cap : Nat) (zs : List Int) (w : World) (hH : Holds (Value.int .i64) w blk off zs.toArray) (hblk : blk < w.heap.size) (hsz : zs.length < 4611686018427387904) :
    Calls Tryz.prog 86 #[.slice (some ⟨blk, off, none⟩) zs.length cap] w fun e w' =>
      e = .returned (.tuple #[]) ∧ ∃ n os, w' = grow (putRow (Value.int .i64) (Sort.ahead w n) blk off (zs.mergeSort fun x y => decide (x ≤ y)).toArray) os := Any.slices_Sort_int Tryz.lays189 blk off cap zs w hH hblk hsz
def Tryz.lays206_ren : Go.Shelf.Ren := ⟨fun | 206 => 175 | n => n, fun | 9 => 9 | 4 => 4 | 3 => 3 | n => n, fun | n => n⟩
theorem Tryz.lays206 : Go.Proofs.Lays.n206 Tryz.prog Tryz.lays206_ren := {
  mixed := by kernel_rfl
  f206 := Tryz.func175.trans (congrArg some (by kernel_rfl))
  t3 := Tryz.underlying3
  a3 := Tryz.isAgg3
  z3 := Tryz.sizeOf3
  v3 := Tryz.zeroValue3
  t4 := Tryz.underlying4
  a4 := Tryz.isAgg4
  z4 := Tryz.sizeOf4
  v4 := Tryz.zeroValue4
  t9 := Tryz.underlying9
  a9 := Tryz.isAgg9
  z9 := Tryz.sizeOf9
  v9 := Tryz.zeroValue9 }
open Go.RowKit Go.Lib in
theorem Tryz.stringslite_HasPrefix (s p : ByteArray) (w : World) :
    Calls Tryz.prog 175 #[.string s, .string p] w fun e w' => e = .returned (.bool (Lib.hasPrefix s.data.toList p.data.toList)) ∧ w' = w := Any.stringslite_HasPrefix Tryz.lays206 s p w
def Tryz.lays99_ren : Go.Shelf.Ren := ⟨fun | 99 => 130 | 206 => 175 | n => n, fun | 9 => 9 | 4 => 4 | 3 => 3 | n => n, fun | n => n⟩
theorem Tryz.lays99 : Go.Proofs.Lays.n99 Tryz.prog Tryz.lays99_ren := {
  mixed := by kernel_rfl
  f99 := Tryz.func130.trans (congrArg some (by kernel_rfl))
  f206 := Tryz.func175.trans (congrArg some (by kernel_rfl))
  t3 := Tryz.underlying3
  a3 := Tryz.isAgg3
  z3 := Tryz.sizeOf3
  v3 := Tryz.zeroValue3
  t4 := Tryz.underlying4
  a4 := Tryz.isAgg4
  z4 := Tryz.sizeOf4
  v4 := Tryz.zeroValue4
  t9 := Tryz.underlying9
  a9 := Tryz.isAgg9
  z9 := Tryz.sizeOf9
  v9 := Tryz.zeroValue9 }
open Go.RowKit Go.Lib in
theorem Tryz.strings_HasPrefix (s p : ByteArray) (w : World) :
    Calls Tryz.prog 130 #[.string s, .string p] w fun e w' => e = .returned (.bool (Lib.hasPrefix s.data.toList p.data.toList)) ∧ w' = w := Any.strings_HasPrefix Tryz.lays99 s p w
def Tryz.laysNm215_ren : Go.Shelf.Ren := ⟨fun | 15 => 45 | n => n, fun | 22 => 25 | 3 => 3 | 4 => 4 | n => n, fun | n => n⟩
theorem Tryz.laysNm215 : Go.Proofs.Lays2.n15 Tryz.prog Tryz.laysNm215_ren := {
  mixed := by kernel_rfl
  f15 := Tryz.func45.trans (congrArg some (by kernel_rfl))
  t3 := Tryz.underlying3
  a3 := Tryz.isAgg3
  z3 := Tryz.sizeOf3
  v3 := Tryz.zeroValue3
  t4 := Tryz.underlying4
  a4 := Tryz.isAgg4
  z4 := Tryz.sizeOf4
  v4 := Tryz.zeroValue4
  t22 := Tryz.underlying25
  a22 := Tryz.isAgg25
  z22 := Tryz.sizeOf25
  v22 := Tryz.zeroValue25
  i3 := by kernel_rfl }
open Go.RowKit Go.Lib in
theorem Tryz.slices_Clone_int (b off n c : Nat) (zs : List Int) (w : World) (hz : n ≤ zs.length) (hbig : n * 8 ≤ 140737488355328) (hc : ∀ j, j < zs.length → w.cell? ⟨b, off + j, none⟩ = some (.int .i64 (zs.getD j 0))) :
    Calls Tryz.prog 45 #[.slice (some ⟨b, off, none⟩) n c] w fun e w' => ∃ v', e = .returned v' ∧ w'.ownsRow w.heap.size 3 1 v' n ((zs.take n).map (Value.int .i64)) ∧ v' ≠ .slice none 0 0 ∧ Below w.heap.size w w' := Any.slices_Clone_int Tryz.laysNm215 b off n c zs w hz hbig hc
open Go.RowKit Go.Lib in
theorem Tryz.slices_Clone_int_nil (n c : Nat) (w : World) :
    Calls Tryz.prog 45 #[.slice none n c] w fun e w' => e = .returned (.slice none 0 0) ∧ w' = w := Any.slices_Clone_int_nil Tryz.laysNm215 n c w
open Go.RowKit Go.Lib in
theorem Tryz.slices_Clone_int_zero (a : Addr) (c : Nat) (w : World) :
    Calls Tryz.prog 45 #[.slice (some a) 0 c] w fun e w' => ∃ v', e = .returned v' ∧ w'.ownsRow w.heap.size 3 1 v' 0 [] ∧ v' ≠ .slice none 0 0 ∧ Below w.heap.size w w' := Any.slices_Clone_int_zero Tryz.laysNm215 a c w
open Go.RowKit Go.Sort in
theorem Tryz.slices_Sort_int_none (p : Option Addr) (cap : Nat) (w : World) :
    Calls Tryz.prog 86 #[.slice p 0 cap] w fun e w' => e = .returned (.tuple #[]) ∧ w' = w := Any.slices_Sort_int_none Tryz.lays189 p cap w
def Tryz.laysSlH6_f145_ren : Go.Shelf.Ren := ⟨fun | 6 => 145 | n => n, fun | 22 => 25 | 23 => 3 | 25 => 195 | 3 => 3 | 0 => 0 | 4 => 4 | n => n, fun | n => n⟩
theorem Tryz.laysSlH6_f145 : Go.Proofs.SlLaysH.n6 Tryz.prog Tryz.laysSlH6_f145_ren := {
  mixed := by kernel_rfl
  f6 := ⟨Tryz.f145.name, by decide, Tryz.func145.trans (congrArg some (by kernel_rfl))⟩
  t0 := Tryz.underlying0
  a0 := Tryz.isAgg0
  z0 := Tryz.sizeOf0
  v0 := Tryz.zeroValue0
  t3 := Tryz.underlying3
  a3 := Tryz.isAgg3
  z3 := Tryz.sizeOf3
  v3 := Tryz.zeroValue3
  t4 := Tryz.underlying4
  a4 := Tryz.isAgg4
  z4 := Tryz.sizeOf4
  v4 := Tryz.zeroValue4
  t22 := Tryz.underlying25
  a22 := Tryz.isAgg25
  z22 := Tryz.sizeOf25
  v22 := Tryz.zeroValue25
  a23 := Tryz.isAgg3
  z23 := Tryz.sizeOf3
  t25 := Tryz.underlying195
  a25 := Tryz.isAgg195
  z25 := Tryz.sizeOf195
  v25 := Tryz.zeroValue195 }
open Go.RowKit Go.Lib in
theorem Tryz.slices_IndexFunc {α : Type} [Inhabited α] (enc : α → Value) (p : α → Bool) (g : Nat) (lb : Array Value) (eg : ∀ args w, (callFunc g args).run Tryz.prog w = .ok (.enter g args) w) (b off n c : Nat) (zs : List α) (w : World) (hp : PredAt Tryz.prog g lb enc p w) (hz : n ≤ zs.length) (hbig : n ≤ 9223372036854775807) (hc : ∀ j, j < zs.length → w.cell? ⟨b, off + j, none⟩ = some (enc zs[j]!)) :
    Calls Tryz.prog 145 #[.slice (some ⟨b, off, none⟩) n c, .func (.func g) #[] lb] w fun e w' => e = .returned (.int .i64 (Lib.idxBy (fun _ y => p y) (zs.take n) default)) ∧ ∃ q, w' = w.drewN q := AnyE.slices_IndexFunc Tryz.laysSlH6_f145 enc p g lb eg b off n c zs w hp hz hbig hc
open Go.RowKit Go.Lib in
theorem Tryz.slices_IndexFunc_empty {α : Type} [Inhabited α] (a : Option Addr) (c : Nat) (fv : Value) (w : World) :
    Calls Tryz.prog 145 #[.slice a 0 c, fv] w fun e w' => e = .returned (.int .i64 (-1)) ∧ w' = w := AnyE.slices_IndexFunc_empty Tryz.laysSlH6_f145 a c fv w
def Tryz.laysSlH10_f100_ren : Go.Shelf.Ren := ⟨fun | 10 => 100 | 6 => 145 | n => n, fun | 22 => 25 | 23 => 3 | 25 => 195 | 3 => 3 | 4 => 4 | 0 => 0 | n => n, fun | n => n⟩
theorem Tryz.laysSlH10_f100 : Go.Proofs.SlLaysH.n10 Tryz.prog Tryz.laysSlH10_f100_ren := {
  mixed := by kernel_rfl
  f6 := ⟨Tryz.f145.name, by decide, Tryz.func145.trans (congrArg some (by kernel_rfl))⟩
  f10 := ⟨Tryz.f100.name, by decide, Tryz.func100.trans (congrArg some (by kernel_rfl))⟩
  t0 := Tryz.underlying0
  a0 := Tryz.isAgg0
  z0 := Tryz.sizeOf0
  v0 := Tryz.zeroValue0
  t3 := Tryz.underlying3
  a3 := Tryz.isAgg3
  z3 := Tryz.sizeOf3
  v3 := Tryz.zeroValue3
  t4 := Tryz.underlying4
  a4 := Tryz.isAgg4
  z4 := Tryz.sizeOf4
  v4 := Tryz.zeroValue4
  t22 := Tryz.underlying25
  a22 := Tryz.isAgg25
  z22 := Tryz.sizeOf25
  v22 := Tryz.zeroValue25
  a23 := Tryz.isAgg3
  z23 := Tryz.sizeOf3
  t25 := Tryz.underlying195
  a25 := Tryz.isAgg195
  z25 := Tryz.sizeOf195
  v25 := Tryz.zeroValue195 }
open Go.RowKit Go.Lib Go.Sort in
theorem Tryz.slices_DeleteFunc {α : Type} [Inhabited α] (enc : α → Value) (hO : OneCell enc) (p : α → Bool) (g : Nat) (lb : Array Value) (eg : ∀ args w, (callFunc g args).run Tryz.prog w = .ok (.enter g args) w) (zr : α) (v23 : ∀ w, (zeroValue 3).run Tryz.prog w = .ok (enc zr) w) (blk off cap : Nat) (d : Array α) (w : World) (hp : PredAt Tryz.prog g lb enc p w) (hpo : PredOver Tryz.prog g lb enc p blk off d.size w) (hH : Holds enc w blk off d) (hsz : d.size ≤ 9223372036854775807) (hcap : d.size ≤ cap) :
    Calls Tryz.prog 100 #[.slice (some ⟨blk, off, none⟩) d.size cap, .func (.func g) #[] lb] w fun e w' => e = .returned (.slice (some ⟨blk, off, none⟩) (d.toList.filter fun x => !p x).length cap) ∧ ∃ q, w' = putRow enc (Sort.ahead w q) blk off ((d.toList.filter fun x => !p x) ++ List.replicate (d.size - (d.toList.filter fun x => !p x).length) zr).toArray := AnyE.slices_DeleteFunc Tryz.laysSlH10_f100 enc hO p g lb eg zr v23 blk off cap d w hp hpo hH hsz hcap
def Tryz.lsf_ren : Go.Shelf.Ren := ⟨fun | 6 => 93 | 15 => 132 | 14 => 138 | 28 => 185 | 29 => 186 | 20 => 187 | 21 => 188 | 22 => 189 | 23 => 190 | 24 => 191 | 25 => 192 | 26 => 193 | 27 => 194 | 46 => 221 | 47 => 217 | 48 => 218 | 49 => 222 | 50 => 223 | 57 => 238 | n => n, fun | 22 => 26 | 24 => 80 | 25 => 185 | 3 => 3 | 39 => 240 | 0 => 0 | 53 => 114 | 55 => 207 | 4 => 4 | 46 => 274 | 45 => 273 | 50 => 126 | 5 => 5 | 9 => 9 | 66 => 305 | 70 => 308 | 76 => 322 | 77 => 150 | n => n, fun | n => n⟩
theorem Tryz.lsf : Go.Proofs.SlLaysF0.n6 Tryz.prog Tryz.lsf_ren := {
  mixed := by kernel_rfl
  f6 := ⟨Tryz.f93.name, by decide, Tryz.func93.trans (congrArg some (by kernel_rfl))⟩
  f14 := ⟨Tryz.f138.name, by decide, Tryz.func138.trans (congrArg some (by kernel_rfl))⟩
  f15 := Tryz.func132.trans (congrArg some (by kernel_rfl))
  f20 := ⟨Tryz.f187.name, by decide, Tryz.func187.trans (congrArg some (by kernel_rfl))⟩
  f21 := ⟨Tryz.f188.name, by decide, Tryz.func188.trans (congrArg some (by kernel_rfl))⟩
  f22 := ⟨Tryz.f189.name, by decide, Tryz.func189.trans (congrArg some (by kernel_rfl))⟩
  f23 := ⟨Tryz.f190.name, by decide, Tryz.func190.trans (congrArg some (by kernel_rfl))⟩
  f24 := ⟨Tryz.f191.name, by decide, Tryz.func191.trans (congrArg some (by kernel_rfl))⟩
  f25 := ⟨Tryz.f192.name, by decide, Tryz.func192.trans (congrArg some (by kernel_rfl))⟩
  f26 := ⟨Tryz.f193.name, by decide, Tryz.func193.trans (congrArg some (by kernel_rfl))⟩
  f27 := ⟨Tryz.f194.name, by decide, Tryz.func194.trans (congrArg some (by kernel_rfl))⟩
  f28 := Tryz.func185.trans (congrArg some (by kernel_rfl))
  f29 := Tryz.func186.trans (congrArg some (by kernel_rfl))
  f46 := ⟨Tryz.f221.name, by decide, Tryz.func221.trans (congrArg some (by kernel_rfl))⟩
  f47 := Tryz.func217.trans (congrArg some (by kernel_rfl))
  f48 := Tryz.func218.trans (congrArg some (by kernel_rfl))
  f49 := ⟨Tryz.f222.name, by decide, Tryz.func222.trans (congrArg some (by kernel_rfl))⟩
  f50 := ⟨Tryz.f223.name, by decide, Tryz.func223.trans (congrArg some (by kernel_rfl))⟩
  f57 := ⟨Tryz.f238.name, by decide, Tryz.func238.trans (congrArg some (by kernel_rfl))⟩
  t0 := Tryz.underlying0
  a0 := Tryz.isAgg0
  z0 := Tryz.sizeOf0
  v0 := Tryz.zeroValue0
  t3 := Tryz.underlying3
  a3 := Tryz.isAgg3
  z3 := Tryz.sizeOf3
  v3 := Tryz.zeroValue3
  t4 := Tryz.underlying4
  a4 := Tryz.isAgg4
  z4 := Tryz.sizeOf4
  v4 := Tryz.zeroValue4
  t5 := Tryz.underlying5
  a5 := Tryz.isAgg5
  z5 := Tryz.sizeOf5
  v5 := Tryz.zeroValue5
  t9 := Tryz.underlying9
  a9 := Tryz.isAgg9
  z9 := Tryz.sizeOf9
  v9 := Tryz.zeroValue9
  t22 := Tryz.underlying26
  a22 := Tryz.isAgg26
  z22 := Tryz.sizeOf26
  v22 := Tryz.zeroValue26
  t25 := Tryz.underlying185
  a25 := Tryz.isAgg185
  z25 := Tryz.sizeOf185
  v25 := Tryz.zeroValue185
  t39 := Tryz.underlying240
  a39 := Tryz.isAgg240
  z39 := Tryz.sizeOf240
  v39 := Tryz.zeroValue240
  t45 := Tryz.underlying273
  a45 := Tryz.isAgg273
  z45 := Tryz.sizeOf273
  v45 := Tryz.zeroValue273
  t46 := Tryz.underlying274
  a46 := Tryz.isAgg274
  z46 := Tryz.sizeOf274
  v46 := Tryz.zeroValue274
  t50 := Tryz.underlying126
  a50 := Tryz.isAgg126
  z50 := Tryz.sizeOf126
  v50 := Tryz.zeroValue126
  t53 := Tryz.underlying114
  a53 := Tryz.isAgg114
  z53 := Tryz.sizeOf114
  v53 := Tryz.zeroValue114
  t55 := Tryz.underlying207
  a55 := Tryz.isAgg207
  z55 := Tryz.sizeOf207
  v55 := Tryz.zeroValue207
  t66 := Tryz.underlying305
  a66 := Tryz.isAgg305
  z66 := Tryz.sizeOf305
  v66 := Tryz.zeroValue305
  t70 := Tryz.underlying308
  a70 := Tryz.isAgg308
  z70 := Tryz.sizeOf308
  v70 := Tryz.zeroValue308
  t76 := Tryz.underlying322
  a76 := Tryz.isAgg322
  z76 := Tryz.sizeOf322
  v76 := Tryz.zeroValue322
  t77 := Tryz.underlying150
  a77 := Tryz.isAgg150
  z77 := Tryz.sizeOf150
  v77 := Tryz.zeroValue150 }
end Go.Proofs
namespace Go.Proofs.YtpbblaeamddbgaaGreat
open Go.RowKit


set_option maxHeartbeats 400000 in
theorem cmp64_any (x y : Int) (w : World) :
    Calls Tryz.prog 173 #[.int .i64 x, .int .i64 y] w fun e w' => e = .returned (.int .i64 (cmpI x y)) ∧ w' = w := by
  go_enter Tryz.func173, Tryz.ntmps173
  go_wp2
  all_goals
    go_ret
    exact ⟨ret_int (by simp only [cmpI]; split <;> (try split) <;> omega), rfl⟩

set_option maxHeartbeats 400000 in
theorem or_any (g c : Nat) (x y : Int) (w : World) (h0 : w.cell? ⟨g, 0, none⟩ = some (.int .i64 x)) (h1 : w.cell? ⟨g, 1, none⟩ = some (.int .i64 y)) :
    Calls Tryz.prog 139 #[.slice (some ⟨g, 0, none⟩) 2 c] w fun e w' => e = .returned (.int .i64 (orI x y)) ∧ w' = w := by
  by_cases hx : x = 0
  · subst hx
    have HO : Hid (orI 0 y = y) := by show _ = _; simp [orI]
    by_cases hy : y = 0
    · subst hy
      go_enter Tryz.func139, Tryz.ntmps139
      go_wp2
      go_loop [8] (fun i => ∃ k : Nat, k ≤ 2 ∧ i = .int .i64 k) (fun i => 2 - (intOf i).toNat)
      case atStart => exact ⟨0, by omega, rfl⟩
      case round =>
        obtain ⟨k, hk, rfl⟩ := hrel
        rcases (show k = 0 ∨ k = 1 ∨ k = 2 by omega) with rfl | rfl | rfl
        · go_wp2
          go_round
          case rel => exact ⟨1, by omega, rfl⟩
          case measure => simp [intOf]
        · go_wp2
          go_round
          case rel => exact ⟨2, by omega, rfl⟩
          case measure => simp [intOf]
        · go_wp2
          go_ret
          exact ⟨ret_int HO.out.symm, rfl⟩
    · have hy' : (y != 0) = true := by simp [hy]
      clear hy
      go_enter Tryz.func139, Tryz.ntmps139
      go_wp2
      go_loop [8] (fun i => ∃ k : Nat, k ≤ 1 ∧ i = .int .i64 k) (fun i => 2 - (intOf i).toNat)
      case atStart => exact ⟨0, by omega, rfl⟩
      case round =>
        obtain ⟨k, hk, rfl⟩ := hrel
        rcases (show k = 0 ∨ k = 1 by omega) with rfl | rfl
        · go_wp2
          go_round
          case rel => exact ⟨1, by omega, rfl⟩
          case measure => simp [intOf]
        · go_wp2
          go_ret
          exact ⟨ret_int HO.out.symm, rfl⟩
  · have hx' : (x != 0) = true := by simp [hx]
    have HO : Hid (orI x y = x) := by show _ = _; simp [orI, hx]
    clear hx
    go_enter Tryz.func139, Tryz.ntmps139
    go_wp2
    go_loop [8] (fun i => i = .int .i64 0) (fun _ => 0)
    case atStart => rfl
    case round =>
      subst hrel
      go_wp2
      go_ret
      exact ⟨ret_int HO.out.symm, rfl⟩

theorem cell_new (W : World) (cs : Array Value) (T : TypeId) (b j : Nat) {v : Value} (hb : b = W.heap.size) (hj : cs[j]? = some v) : (W.alloc (.cells cs T)).cell? ⟨b, j, none⟩ = some v := by
  subst hb
  have : (W.alloc (.cells cs T)).heap[W.heap.size]? = some (.cells cs T (0, 0)) := heap_alloc_new W _
  unfold World.cell?
  rw [this]; exact hj

set_option maxHeartbeats 400000 in
theorem compare_any (x y : Vl) (w : World) :
    Calls Tryz.prog 129 #[.agg #[.int .i64 x.n, .string x.s], .agg #[.int .i64 y.n, .string y.s]] w fun e w' => e = .returned (.int .i64 (cmpV x y)) ∧ Ext w w' := by
  have hneg : Hid (cmpV x y = orI (cmpI x.n y.n) (Lib.compareBytes x.s.data.toList y.s.data.toList)) := rfl
  generalize cmpV x y = cv at *
  go_enter Tryz.func129, Tryz.ntmps129
  go_wp2_with fail
  go_region_held3 (fun w' => w'.cell? ⟨w.heap.size, 0, none⟩ = some (.int .i64 x.n) ∧ w'.cell? ⟨w.heap.size + 1, 0, none⟩ = some (.int .i64 y.n) ∧ w'.cell? ⟨w.heap.size, 1, none⟩ = some (.string x.s) ∧ w'.cell? ⟨w.heap.size + 1, 1, none⟩ = some (.string y.s)) (go_keep)
    (first | (go_at_call 173; refine (cmp64_any _ _ _).mono ?_; rintro e w' ⟨rfl, rfl⟩) | (go_at_call 174; refine (Tryz.strings_Compare _ _ _).mono ?_; rintro e w' ⟨rfl, rfl⟩) | (go_at_call 139; refine (or_any _ _ (cmpI x.n y.n) (Lib.compareBytes x.s.data.toList y.s.data.toList) _ (by exact cell_new _ _ _ _ _ (by simp) rfl) (by exact cell_new _ _ _ _ _ (by simp) rfl)).mono ?_; rintro e w' ⟨rfl, rfl⟩))
  go_wp2
  go_ret
  exact ⟨ret_int hneg.out.symm, (((((Ext.refl _).alloc _).alloc _).alloc _).drew)⟩
end Go.Proofs.YtpbblaeamddbgaaGreat
namespace Go.Proofs.YtpbblaeamddbgaaGreat
open Go.RowKit

theorem cmpB_drop : ∀ (k : Nat) (us vs : List UInt8), us.take k = vs.take k → Lib.compareBytes us vs = Lib.compareBytes (us.drop k) (vs.drop k)
  | 0, us, vs, _ => by simp
  | k + 1, [], [], _ => by simp
  | k + 1, [], b :: vs, h => by simp at h
  | k + 1, a :: us, [], h => by simp at h
  | k + 1, a :: us, b :: vs, h => by
    simp only [List.take_succ_cons, List.cons.injEq] at h
    obtain ⟨rfl, h⟩ := h
    have : Lib.compareBytes (a :: us) (a :: vs) = Lib.compareBytes us vs := by
      simp [Lib.compareBytes, UInt8.lt_irrefl]
    rw [this, cmpB_drop k us vs h]; simp

/-- r stands to 0 us o does. -/
def Sgn (r o : Int) : Prop := (r < 0 ↔ o < 0) ∧ (r = 0 ↔ o = 0)

theorem sgn_diff (us vs : List UInt8) (k : Nat) (h : us.take k = vs.take k) (ha : k < us.length) (hb : k < vs.length) (hne : us[k] ≠ vs[k]) : Sgn ((us[k].toNat : Int) - (vs[k].toNat : Int)) (Lib.compareBytes us vs) := by
  rw [cmpB_drop k us vs h, List.drop_eq_getElem_cons ha, List.drop_eq_getElem_cons hb]
  simp only [Lib.compareBytes]
  have hn : us[k].toNat ≠ vs[k].toNat := fun e => hne (UInt8.toNat_inj.1 e)
  unfold Sgn
  split
  · rename_i hlt
    have := UInt8.lt_iff_toNat_lt.1 hlt
    omega
  · rename_i hlt
    have h1 : ¬ us[k].toNat < vs[k].toNat := fun e => hlt (UInt8.lt_iff_toNat_lt.2 e)
    rw [if_pos (UInt8.lt_iff_toNat_lt.2 (by omega))]
    omega
theorem sgn_end (us vs : List UInt8) (k : Nat) (h : us.take k = vs.take k) (ha : k ≤ us.length) (hb : k ≤ vs.length) (hor : k = us.length ∨ k = vs.length) : Sgn ((us.length : Int) - (vs.length : Int)) (Lib.compareBytes us vs) := by
  rw [cmpB_drop k us vs h]
  unfold Sgn
  rcases hor with e | e
  · have h1 : us.drop k = [] := List.drop_eq_nil_of_le (by omega)
    rw [h1]
    have hl := List.length_drop (l := vs) (i := k)
    cases hd : vs.drop k with
    | nil => rw [hd] at hl; simp at hl; simp [Lib.compareBytes]; omega
    | cons b r => rw [hd] at hl; simp at hl; simp [Lib.compareBytes]; omega
  · have h1 : vs.drop k = [] := List.drop_eq_nil_of_le (by omega)
    rw [h1]
    have hl := List.length_drop (l := us) (i := k)
    cases hd : us.drop k with
    | nil => rw [hd] at hl; simp at hl; simp [Lib.compareBytes]; omega
    | cons b r => rw [hd] at hl; simp at hl; simp [Lib.compareBytes]; omega

theorem bytes_take_succ (a b : ByteArray) (k : Nat) (ha : k < a.size) (hb : k < b.size) (h : a.data.toList.take k = b.data.toList.take k) (e : a[k] = b[k]) : a.data.toList.take (k + 1) = b.data.toList.take (k + 1) := by
  rw [List.take_succ_eq_append_getElem (by simpa using ha), List.take_succ_eq_append_getElem (by simpa using hb), h]
  congr 2

theorem wrap_bytes (a b : UInt8) : wrap64 (wrap64 (a.toNat : Int) - wrap64 (b.toNat : Int)) = (a.toNat : Int) - (b.toNat : Int) := by
  have := a.toNat_lt
  have := b.toNat_lt
  unfold wrap64; omega

set_option maxHeartbeats 400000 in
theorem order_any (x y : Vl) (w : World) (hx : x.s.size ≤ 9223372036854775807) (hy : y.s.size ≤ 9223372036854775807) :
    Calls Tryz.prog 213 #[.agg #[.int .i64 x.n, .string x.s], .agg #[.int .i64 y.n, .string y.s]] w fun e w' => ∃ r, e = .returned (.int .i64 r) ∧ Sgn r (cmpV x y) ∧ Ext w w' := by
  obtain ⟨xn, xs⟩ := x
  obtain ⟨yn, ys⟩ := y
  simp only at hx hy ⊢
  by_cases hn : xn = yn
  · subst hn
    have HC : Hid (cmpV ⟨xn, xs⟩ ⟨xn, ys⟩ = Lib.compareBytes xs.data.toList ys.data.toList) := by show _ = _; simp [cmpV, cmpI, orI]
    generalize cmpV ⟨xn, xs⟩ ⟨xn, ys⟩ = cv at *
    go_enter Tryz.func213, Tryz.ntmps213
    go_wp2
    go_loopw [5] (fun i wr => ∃ k : Nat, k ≤ xs.size ∧ k ≤ ys.size ∧ i = .int .i64 k ∧ xs.data.toList.take k = ys.data.toList.take k ∧ Ext ((w.alloc (.cells #[.int .i64 xn, .string xs] 69)).alloc (.cells #[.int .i64 xn, .string ys] 69)) wr) (fun i _ => xs.size - (intOf i).toNat)
    case atStart => exact ⟨0, by omega, by omega, rfl, rfl, Ext.refl _⟩
    case round =>
      obtain ⟨k, hk1, hk2, rfl, hT, hE⟩ := hrel
      have HT : Hid (xs.data.toList.take k = ys.data.toList.take k) := hT
      clear hT
      have hEw : Ext w wr := (((Ext.refl _).alloc _).alloc _).trans hE
      have c0 : wr.cell? ⟨w.heap.size, 1, none⟩ = some (.string xs) := hE.cell (by simp)
      have c1 : wr.cell? ⟨w.heap.size + 1, 1, none⟩ = some (.string ys) := hE.cell (by exact cell_new _ _ _ _ _ (by simp) rfl)
      have hEE : Hid (Ext _ wr) := hE
      clear hE
      by_cases h1 : k < xs.size
      · by_cases h2 : k < ys.size
        · have i1 : (k : Int) < (xs.size : Int) := by omega
          have i2 : (k : Int) < (ys.size : Int) := by omega
          by_cases he : xs[k] = ys[k]
          · have HE : Hid (xs[k] = ys[k]) := he
            have hb : ((xs[k].toNat : Int) != (ys[k].toNat : Int)) = false := by simp [he]
            clear he
            go_wp2_with fail
            go_quiet (fail)
            go_wp2
            go_roundw
            case rel => exact ⟨k + 1, by omega, by omega, by go_num, bytes_take_succ xs ys k h1 h2 HT.out HE.out, (Ext.trans hEE.out (drewN_ext _ _))⟩
            case measure => simp [intOf]; omega
          · have HE : Hid (xs[k] ≠ ys[k]) := he
            have hb : ((xs[k].toNat : Int) != (ys[k].toNat : Int)) = true := by
              simp only [bne_iff_ne, ne_eq]; intro e; exact he (UInt8.toNat_inj.1 (by omega))
            clear he
            go_wp2_with fail
            go_quiet (fail)
            go_wp2
            go_quiet (fail)
            go_wp2
            go_ret
            refine ⟨_, rfl, ?_, (hEw.trans (drewN_ext _ _)).trans (drewN_ext _ _)⟩
            rw [HC.out, wrap_bytes]
            exact sgn_diff xs.data.toList ys.data.toList k HT.out h1 h2 HE.out
        · go_wp2_with fail
          go_ret
          refine ⟨_, rfl, ?_, hEw⟩
          rw [HC.out]
          exact sgn_end xs.data.toList ys.data.toList k HT.out hk1 hk2 (Or.inr (show k = ys.size by omega))
      · go_wp2_with fail
        go_ret
        refine ⟨_, rfl, ?_, hEw⟩
        rw [HC.out]
        exact sgn_end xs.data.toList ys.data.toList k HT.out hk1 hk2 (Or.inl (show k = xs.size by omega))
  · have hn' : (xn != yn) = true := by simpa using hn
    by_cases hlt : xn < yn
    · have HC : Hid (Sgn (-1) (cmpV ⟨xn, xs⟩ ⟨yn, ys⟩)) := by show Sgn _ _; simp [Sgn, cmpV, cmpI, orI, hlt]
      go_enter Tryz.func213, Tryz.ntmps213
      go_wp2
      go_ret
      exact ⟨_, rfl, HC.out, ((Ext.refl _).alloc _).alloc _⟩
    · have hgt : yn < xn := by omega
      have HC : Hid (Sgn 1 (cmpV ⟨xn, xs⟩ ⟨yn, ys⟩)) := by show Sgn _ _; simp [Sgn, cmpV, cmpI, orI, hlt, hgt]
      go_enter Tryz.func213, Tryz.ntmps213
      go_wp2
      go_ret
      exact ⟨_, rfl, HC.out, ((Ext.refl _).alloc _).alloc _⟩
end Go.Proofs.YtpbblaeamddbgaaGreat
