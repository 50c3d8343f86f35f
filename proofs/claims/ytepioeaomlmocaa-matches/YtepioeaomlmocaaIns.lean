import Derived.Test.YtepioeaomlmocaaCopy
import Derived.Shelf.Spec.SlicesInsertGrow
import Derived.Deep.RegionLaw
namespace Go.Proofs.Ytepioeaomlmocaa
open Go.RowKit

/-- A copy of elements of two cells into the midst of a row of one's own; all is read before anything is written. -/
theorem run_copy_w2 {P : Program} (w : World) (dT sT ty elem : TypeId) (g o dLen dCap : Nat) (a : Addr) (sLen sCap : Nat) (cur : List Value) (t : TypeId) (cs : List Value)
    (hu : P.underlying dT = some (.slice elem)) (hs : (P.info? elem).map (·.size) = some 2) (hg : Row w g t cur) (hn : cs.length = Nat.min sLen dLen * 2)
    (hsrc : ∀ j v, cs[j]? = some v → w.cell? (a.add j) = some v) (hfit : o + cs.length ≤ cur.length) (h1 : ∀ v ∈ cs, v.oneCell' = true) :
    (Builtin.copy_ #[dT, sT] ty #[.slice (some ⟨g, o, none⟩) dLen dCap, .slice (some a) sLen sCap]).run P w = .ok (goInt (Nat.min sLen dLen)) (w.setRow g (cur.take o ++ cs ++ cur.drop (o + cs.length)).toArray) := by
  have hl := run_loadCells_list (P := P) w a cs hsrc
  have hst := run_storeCells_at P g o t cs 0 cur.toArray w hg (by simpa using hfit) h1
  cases hq : P.info? elem with
  | none => simp [hq] at hs
  | some i =>
    have hi : i.size = 2 := by simpa [hq] using hs
    simp [Builtin.copy_, run_underlying hu, Builtin.lenOf, Builtin.firstCells, sizeOf, typeInfo, hq, hi, ← hn, hl, hst]
theorem Row.setRow {w : World} {g : Nat} {T : TypeId} {l : List Value} (h : Row w g T l) (m : List Value) : Row (w.setRow g m.toArray) g T m := setRow_heap w g _ _ T _ h
theorem Kp.setRow {M : Nat → Prop} {a b : World} (h : Kp M a b) {g : Nat} (hg : M g) (m : Array Value) : Kp M a (b.setRow g m) :=
  ⟨h.os, h.tape, h.output, by have := h.size; simpa [World.setRow] using this, fun k hk hne => (setRow_other b g k _ (by intro e; exact hne (e ▸ hg))).trans (h.block k hk hne)⟩
theorem osl_of_row {w : World} {g : Nat} {T : TypeId} {l xs : List Value} (h : Row w g T l) (n cap : Nat) (hc : n ≤ cap) (hm : cap ≤ maxLen) (hl : l.length = cap * 2) (hx : l.take (n * 2) = xs) : OSl w T 2 (some ⟨g, 0, none⟩) n cap xs :=
  ⟨by rw [← hx]; simp; omega, Or.inr ⟨g, cap, l.toArray, rfl, Nat.zero_le _, h, hc, hm, by simpa using hl, by simpa using hx⟩⟩
theorem row_of_osl {w : World} {T n cap : Nat} {ao : Option Addr} {xs : List Value} (h : OSl w T 2 ao n cap xs) (hn : 0 < n) : ∃ g l, ao = some ⟨g, 0, none⟩ ∧ Row w g T l ∧ n ≤ cap ∧ cap ≤ maxLen ∧ l.length = cap * 2 ∧ l.take (n * 2) = xs := by
  rcases h.form with ⟨_, h0, _⟩ | ⟨g, cur, rfl, hh, h1, h2, h3, h4⟩
  · omega
  · exact ⟨g, cur.toList, rfl, by unfold Row; simpa using hh, h1, h2, by simpa using h3, by simpa using h4⟩
theorem Try.infoSu : (Try.prog.info? 85).map (fun i => (i.zero, i.size, i.bytes)) = some (some (.agg #[.int .i64 0, .slice none 0 0]), 2, 32) := by kernel_rfl
theorem Try.sizeSu : (Try.prog.info? 85).map (·.size) = some 2 := by kernel_rfl
theorem two_src {w : World} {vb : Nat} {T : TypeId} {a b : Value} (h : Row w vb T [a, b]) : ∀ j v, [a, b][j]? = some v → w.cell? ((⟨vb, 0, none⟩ : Addr).add j) = some v := by
  intro j v hj
  rw [add_lt]
  exact h.at hj
/-- What Insert leaves. -/
def InsPost (w w' : World) (fa : Option Addr) (n : Nat) (ys : List Value) (e : Ending) : Prop := ∃ fa' cap', e = .returned (.slice fa' (n + 1) cap') ∧ OSl w' 85 2 fa' (n + 1) cap' ys ∧ Kp (fun k => blkOf fa = some k) w w' ∧ ∀ g, blkOf fa' = some g → blkOf fa = some g ∨ w.heap.size ≤ g

theorem ins_of {w w' : World} {fa fa' : Option Addr} {n cap' : Nat} {ys : List Value} {e : Ending} (he : e = .returned (.slice fa' (n + 1) cap')) (hO : OSl w' 85 2 fa' (n + 1) cap' ys) (hk : Kp (fun k => blkOf fa = some k) w w') (hat : Hid (blkOf fa' = blkOf fa ∨ blkOf fa' = some w.heap.size)) : InsPost w w' fa n ys e :=
  ⟨fa', cap', he, hO, hk, fun g hg => by
    rcases hat.out with e | e
    · rw [e] at hg; exact Or.inl hg
    · rw [e] at hg; cases hg; exact Or.inr (Nat.le_refl _)⟩

set_option maxHeartbeats 800000 in
theorem insert_end (fa : Option Addr) (n cap : Nat) (xs : List Value) (vb : Nat) (a b : Value) (w : World) (hO : OSl w 85 2 fa n cap xs) (hn : n ≤ 99) (hv : Row w vb 85 [a, b]) (ha : a.oneCell' = true) (hb : b.oneCell' = true) (_hcap : (n : Int) ≤ cap) :
    Calls Try.prog 28 #[.slice fa n cap, .int .i64 n, .slice (some ⟨vb, 0, none⟩) 1 1] w fun e w' => InsPost w w' fa n (xs ++ [a, b]) e := by
  have h1 : Hid (∀ u ∈ [a, b], u.oneCell' = true) := by intro u hu; simp at hu; rcases hu with rfl | rfl <;> assumption
  go_enter Try.func28, Try.ntmps28
  go_wp2_with (first
    | (at_builtin; refine wpList_app rfl (.tmp 23) (.tmp 24) 77 rfl 85 (.agg #[.int .i64 0, .slice none 0 0]) 2 32 Try.underlying77 Try.infoSu rfl (by decide) fa n cap xs rfl hO (some ⟨vb, 0, none⟩) 1 1 [a, b] rfl (by intro h; cases h) rfl (fun _ => ⟨_, rfl, two_src hv⟩) h1.out (by unfold maxLen; omega) (by omega) ?_; intro fa' cap' w1 hO1 hk1 at1))
  all_goals go_ret
  all_goals exact ins_of rfl hO1 hk1 at1

theorem ins_shift (L xs ab : List Value) (n i : Nat) (hi : i < n) (hL : n * 2 + 2 ≤ L.length) (hx : L.take (n * 2) = xs) (hab : ab.length = 2) :
    let M := L.take ((i + 1) * 2) ++ xs.drop (i * 2) ++ L.drop ((i + 1) * 2 + (xs.drop (i * 2)).length)
    (M.take (i * 2) ++ ab ++ M.drop (i * 2 + 2)).take ((n + 1) * 2) = xs.take (i * 2) ++ ab ++ xs.drop (i * 2) := by
  intro M
  have hxl : xs.length = n * 2 := by rw [← hx]; simp; omega
  have hML : M.length = L.length := by simp [M, hxl]; omega
  have e1 : M.take (i * 2) = xs.take (i * 2) := by
    simp only [M]
    rw [List.append_assoc, List.take_append_of_le_length (by simp; omega), List.take_take, ← hx, List.take_take]
    congr 1; omega
  have e2 : M.drop (i * 2 + 2) = xs.drop (i * 2) ++ L.drop ((i + 1) * 2 + (xs.drop (i * 2)).length) := by
    simp only [M]
    rw [List.append_assoc, List.drop_left' (by simp; omega)]
  rw [e1, e2, ← List.append_assoc]
  rw [List.take_left' (by simp [hab, hxl]; omega)]

set_option maxHeartbeats 1600000 in
set_option maxRecDepth 100000 in
theorem insert_room (g n cap i : Nat) (L xs : List Value) (vb : Nat) (a b : Value) (w : World) (hR : Row w g 85 L) (hL : L.length = cap * 2) (hm : cap ≤ maxLen) (hx : L.take (n * 2) = xs) (hi : i < n) (hroom : n + 1 ≤ cap) (hn : n ≤ 99) (hv : Row w vb 85 [a, b]) (hne : vb ≠ g) (ha : a.oneCell' = true) (hb : b.oneCell' = true) (h1 : ∀ v ∈ xs, v.oneCell' = true) :
    Calls Try.prog 28 #[.slice (some ⟨g, 0, none⟩) n cap, .int .i64 i, .slice (some ⟨vb, 0, none⟩) 1 1] w fun e w' => InsPost w w' (some ⟨g, 0, none⟩) n (xs.take (i * 2) ++ [a, b] ++ xs.drop (i * 2)) e := by
  have h2 : ∀ u ∈ [a, b], u.oneCell' = true := by intro u hu; simp at hu; rcases hu with rfl | rfl <;> assumption
  have hxl : xs.length = n * 2 := by rw [← hx]; simp; omega
  have hov : ∀ lb cb, (callFunc 56 #[.slice (some ⟨vb, 0, none⟩) 1 1, .slice (some ⟨g, (i + 1) * 2, none⟩) lb cb]).run Try.prog w = .ok (.value (.bool false)) w := fun lb cb => by
    rw [run_callFunc_extern Try.func56 (by kernel_rfl) (by kernel_rfl) (by kernel_rfl) (e := Extern.SlicesOverlaps.overlaps #[77, 77] #[4]) (by kernel_rfl),
      Lib.run_overlaps_apart w 77 4 85 Try.underlying77 2 Try.sizeOf85 ⟨vb, 0, none⟩ ⟨g, (i + 1) * 2, none⟩ 1 1 lb cb hne 85 85 2 (cap * 2) (by unfold Row at hv; simp [World.shape?, hv]) (by unfold Row at hR; simp [World.shape?, hR, hL]) (by omega) (hv.frozen _) (hv.frozen _)]
    rfl
  obtain ⟨M, hM⟩ : ∃ M, M = L.take ((i + 1) * 2) ++ xs.drop (i * 2) ++ L.drop ((i + 1) * 2 + (xs.drop (i * 2)).length) := ⟨_, rfl⟩
  have hML : M.length = cap * 2 := by rw [hM]; simp [hxl, hL]; omega
  have hRd : Row w.drew g 85 L := hR
  have hcp1 : ∀ ty dc sc, (Builtin.copy_ #[77, 77] ty #[.slice (some ⟨g, (i + 1) * 2, none⟩) (n + 1 - (i + 1)) dc, .slice (some ⟨g, i * 2, none⟩) (n + 1 - i) sc]).run Try.prog w.drew = .ok (goInt ((n - i : Nat) : Int)) (w.drew.setRow g M.toArray) := fun ty dc sc => by
    have hmin : Nat.min (n + 1 - i) (n + 1 - (i + 1)) = n - i := by simp only [Nat.min_def]; split <;> omega
    have := run_copy_w2 (P := Try.prog) w.drew 77 77 ty 85 g ((i + 1) * 2) (n + 1 - (i + 1)) dc ⟨g, i * 2, none⟩ (n + 1 - i) sc L 85 (xs.drop (i * 2)) Try.underlying77 Try.sizeSu hRd (by rw [hmin]; simp [hxl]; omega)
      (fun j v hj => by
        rw [add_at]
        refine hRd.at ?_
        rw [List.getElem?_drop, ← hx, List.getElem?_take] at hj
        split at hj
        · exact hj
        · cases hj) (by simp [hxl, hL]; omega) (fun v hv => h1 v (List.mem_of_mem_drop hv))
    rw [hmin, ← hM] at this
    exact this
  have hR1 : Row (w.drew.setRow g M.toArray) g 85 M := hRd.setRow M
  have hv1 : Row (w.drew.setRow g M.toArray) vb 85 [a, b] := (((Kp.refl (fun k => k = g) w.drew).setRow rfl _)).row (show Row w.drew vb 85 [a, b] from hv) hne
  obtain ⟨N, hN⟩ : ∃ N, N = M.take (i * 2) ++ [a, b] ++ M.drop (i * 2 + 2) := ⟨_, rfl⟩
  have hNL : N.length = cap * 2 := by rw [hN]; simp [hML]; omega
  have hNt : N.take ((n + 1) * 2) = xs.take (i * 2) ++ [a, b] ++ xs.drop (i * 2) := by
    rw [hN, hM]; exact ins_shift L xs [a, b] n i hi (by omega) hx rfl
  have hcp2 : ∀ ty dc, (Builtin.copy_ #[77, 77] ty #[.slice (some ⟨g, i * 2, none⟩) (n + 1 - i) dc, .slice (some ⟨vb, 0, none⟩) 1 1]).run Try.prog (w.drew.setRow g M.toArray) = .ok (goInt 1) ((w.drew.setRow g M.toArray).setRow g N.toArray) := fun ty dc => by
    have hmin : Nat.min 1 (n + 1 - i) = 1 := by simp only [Nat.min_def]; split <;> omega
    have := run_copy_w2 (P := Try.prog) (w.drew.setRow g M.toArray) 77 77 ty 85 g (i * 2) (n + 1 - i) dc ⟨vb, 0, none⟩ 1 1 M 85 [a, b] Try.underlying77 Try.sizeSu hR1 (by rw [hmin]; rfl) (two_src hv1) (by simp [hML]; omega) h2
    rw [hmin] at this
    rw [hN]
    exact this
  have hfin : InsPost w ((w.drew.setRow g M.toArray).setRow g N.toArray) (some ⟨g, 0, none⟩) n (xs.take (i * 2) ++ [a, b] ++ xs.drop (i * 2)) (.returned (.slice (some ⟨g, 0, none⟩) (n + 1) cap)) :=
    ⟨_, cap, rfl, osl_of_row (hR1.setRow N) (n + 1) cap hroom hm hNL hNt, (((((Ext.refl w).drew).kp (fun k => blkOf (some ⟨g, 0, none⟩) = some k)).setRow rfl _).setRow rfl _), fun g hg => Or.inl hg⟩
  have HF : Hid _ := hfin
  have hb1 : (i : Int) ≤ (n : Int) := by omega
  have hb2 : ¬ ((i : Int) = (n : Int)) := by omega
  have hb3 : ¬ cap = i := by omega
  have hb4 : ¬ cap = i + 1 := by omega
  have hb5 : (n : Int) + 1 ≤ (cap : Int) := by omega
  have hb6 : (i : Int) + 1 ≤ (n : Int) + 1 := by omega
  have hb7 : ((i : Int) + 1).toNat = i + 1 := by omega
  have hin : i ≤ n := by omega
  have hb0 : (0 : Int) ≤ (i : Int) + 1 := by omega
  have hb8 : (i : Int) ≤ (n : Int) + 1 := by omega
  have hb9 : i ≤ n + 1 := by omega
  have hw1 : IntKind.i64.wrap ((i : Int) + 1) = (i : Int) + 1 := by rw [IntKind.wrap_i64]; omega
  have hc63 : cap ≤ 9223372036854775807 := by unfold maxLen at hm; omega
  clear hfin hNt hNL hN hR1 hv1 hML hM hx hxl hRd hR hv hm hL h1
  go_enter Try.func28, Try.ntmps28
  go_wp2_with (simp only [hov])
  go_region_law (refine step_copy_runI rfl _ _ 77 77 rfl (.slice (some ⟨g, (i + 1) * 2, none⟩) (n + 1 - (i + 1)) (cap - (i + 1))) (.slice (some ⟨g, i * 2, none⟩) (n + 1 - i) (cap - i)) (by simp [Act.eval, Act.put]) (by simp [Act.eval, Act.put]) (hcp1 3 (cap - (i + 1)) (cap - i)) ?_)
  go_wp2_with (at_builtin; refine wpList_copy_runI _ rfl _ _ 77 77 rfl _ _ rfl rfl (hcp2 _ _) ?_)
  go_ret
  exact HF.out

theorem ins_grow (R xs ab : List Value) (n i : Nat) (hi : i < n) (hR : n * 2 + 2 ≤ R.length) (hx : R.take (i * 2) = xs.take (i * 2)) (hxl : xs.length = n * 2) (hab : ab.length = 2) :
    let M := R.take (i * 2) ++ ab ++ R.drop (i * 2 + 2)
    (M.take ((i + 1) * 2) ++ xs.drop (i * 2) ++ M.drop ((i + 1) * 2 + (xs.drop (i * 2)).length)).take ((n + 1) * 2) = xs.take (i * 2) ++ ab ++ xs.drop (i * 2) := by
  intro M
  have e1 : M.take ((i + 1) * 2) = xs.take (i * 2) ++ ab := by
    simp only [M]
    rw [List.take_left' (by simp [hab]; omega), hx]
  rw [e1, List.take_left' (by simp [hab, hxl]; omega)]

set_option maxHeartbeats 1600000 in
set_option maxRecDepth 100000 in
theorem insert_grow (g n cap i : Nat) (L xs : List Value) (vb : Nat) (a b : Value) (w : World) (hR : Row w g 85 L) (hx : L.take (n * 2) = xs) (hLl : n * 2 ≤ L.length) (hi : i < n) (hnc : n ≤ cap) (hroom : cap < n + 1) (hn : n ≤ 99) (hv : Row w vb 85 [a, b]) (ha : a.oneCell' = true) (hb : b.oneCell' = true) (h1 : ∀ v ∈ xs, v.oneCell' = true) :
    Calls Try.prog 28 #[.slice (some ⟨g, 0, none⟩) n cap, .int .i64 i, .slice (some ⟨vb, 0, none⟩) 1 1] w fun e w' => InsPost w w' (some ⟨g, 0, none⟩) n (xs.take (i * 2) ++ [a, b] ++ xs.drop (i * 2)) e := by
  have h2 : ∀ u ∈ [a, b], u.oneCell' = true := by intro u hu; simp at hu; rcases hu with rfl | rfl <;> assumption
  have hxl : xs.length = n * 2 := by rw [← hx]; simp; omega
  obtain ⟨i0, hi0, hz0, hzs, hzb⟩ := info_parts Try.infoSu
  have hgl := hR.lt
  have hvl := hv.lt
  have hsrcx : ∀ j v, xs[j]? = some v → L[j]? = some v := fun j v hj => by
    rw [← hx, List.getElem?_take] at hj
    split at hj
    · exact hj
    · cases hj
  have hold : (Builtin.firstCells i0.size i (.slice (some ⟨g, 0, none⟩) i cap)).run Try.prog w.drew = .ok (xs.take (i * 2)).toArray w.drew := by
    rw [hzs]
    exact run_firstCells_some w.drew 2 i ⟨g, 0, none⟩ i cap (xs.take (i * 2)) (by rw [List.length_take]; omega) (fun j v hj => by
      rw [add_lt]
      rw [List.getElem?_take] at hj
      split at hj
      · exact (show Row w.drew g 85 L from hR).at (hsrcx j v hj)
      · cases hj)
  have hkk : (n : Int) + 1 - (i : Int) = ((n + 1 - i : Nat) : Int) := by omega
  have hik : i + (n + 1 - i) = n + 1 := by omega
  obtain ⟨G, hG⟩ : ∃ G, G = grownCap w (n + 1) cap 85 := ⟨_, rfl⟩
  obtain ⟨R, hRR⟩ : ∃ R : List Value, R.toArray = (xs.take (i * 2)).toArray ++ Builtin.zeroCells (Value.agg #[.int .i64 0, .slice none 0 0]).cells (n + 1 - i) ++ Builtin.zeroCells (Value.agg #[.int .i64 0, .slice none 0 0]).cells (G - (n + 1)) := ⟨_, Array.toArray_toList⟩
  have hrz : ∀ ty, (Builtin.append_ #[77, 3] ty #[.slice (some ⟨g, 0, none⟩) i cap, .int .i64 ((n : Int) + 1 - (i : Int))]).run Try.prog w = .ok (.slice (some ⟨w.heap.size, 0, none⟩) (n + 1) G) (w.drew.alloc (.cells R.toArray 85)) := fun ty => by
    have h := Lib.run_append_grow_zeros (P := Try.prog) w 77 3 ty 85 i0 _ .i64 .i64 Try.underlying77 Try.underlying3 hi0 hz0 (some ⟨g, 0, none⟩) i cap (xs.take (i * 2)) hold (n + 1 - i) (by omega) (by omega) (by omega) (by omega) (by rw [hzb]; omega) (by rw [hzb, hik]; exact growslice_fits hroom (by omega))
    rw [hik, ← hG, ← hRR] at h
    rw [hkk]
    exact h
  have hGn : n + 1 ≤ G := by rw [hG]; exact grownCap_ge w _ _ _
  have hG63 : G ≤ maxLen := by
    rw [hG]; exact grownCap_le_maxLen w (n + 1) cap 85 (by unfold maxLen; omega)
  have hG63' : G ≤ 9223372036854775807 := by unfold maxLen at hG63; omega
  have hRl : R.length = G * 2 := by
    have := congrArg Array.size hRR
    simp [Builtin.zeroCells, Value.cells, hxl] at this
    omega
  have hRt : R.take (i * 2) = xs.take (i * 2) := by
    have := congrArg (fun x => x.toList.take (i * 2)) hRR
    simp only [Array.toList_append] at this
    rw [this, List.append_assoc, List.take_left' (by simp; omega)]
  obtain ⟨M, hM⟩ : ∃ M, M = R.take (i * 2) ++ [a, b] ++ R.drop (i * 2 + 2) := ⟨_, rfl⟩
  have hML : M.length = G * 2 := by rw [hM]; simp [hRl]; omega
  obtain ⟨N, hN⟩ : ∃ N, N = M.take ((i + 1) * 2) ++ xs.drop (i * 2) ++ M.drop ((i + 1) * 2 + (xs.drop (i * 2)).length) := ⟨_, rfl⟩
  have hNL : N.length = G * 2 := by rw [hN]; simp [hML, hxl]; omega
  have hNt : N.take ((n + 1) * 2) = xs.take (i * 2) ++ [a, b] ++ xs.drop (i * 2) := by
    rw [hN, hM]; exact ins_grow R xs [a, b] n i hi (by omega) hRt hxl rfl
  have hcpA : ∀ W, Row W w.heap.size 85 R → Row W vb 85 [a, b] → ∀ ty dc, (Builtin.copy_ #[77, 77] ty #[.slice (some ⟨w.heap.size, i * 2, none⟩) (n + 1 - i) dc, .slice (some ⟨vb, 0, none⟩) 1 1]).run Try.prog W = .ok (goInt 1) (W.setRow w.heap.size M.toArray) := fun W r1 r2 ty dc => by
    have hmin : Nat.min 1 (n + 1 - i) = 1 := by simp only [Nat.min_def]; split <;> omega
    have := run_copy_w2 (P := Try.prog) W 77 77 ty 85 w.heap.size (i * 2) (n + 1 - i) dc ⟨vb, 0, none⟩ 1 1 R 85 [a, b] Try.underlying77 Try.sizeSu r1 (by rw [hmin]; rfl) (two_src r2) (by simp [hRl]; omega) h2
    rw [hmin] at this
    rw [hM]
    exact this
  have hcpB : ∀ W, Row W w.heap.size 85 M → Row W g 85 L → ∀ ty dc sc, (Builtin.copy_ #[77, 77] ty #[.slice (some ⟨w.heap.size, (i + 1) * 2, none⟩) (n + 1 - (i + 1)) dc, .slice (some ⟨g, i * 2, none⟩) (n - i) sc]).run Try.prog W = .ok (goInt ((n - i : Nat) : Int)) (W.setRow w.heap.size N.toArray) := fun W r1 r2 ty dc sc => by
    have hmin : Nat.min (n - i) (n + 1 - (i + 1)) = n - i := by simp only [Nat.min_def]; split <;> omega
    have := run_copy_w2 (P := Try.prog) W 77 77 ty 85 w.heap.size ((i + 1) * 2) (n + 1 - (i + 1)) dc ⟨g, i * 2, none⟩ (n - i) sc M 85 (xs.drop (i * 2)) Try.underlying77 Try.sizeSu r1 (by rw [hmin]; simp [hxl]; omega)
      (fun j v hj => by
        rw [add_at]
        rw [List.getElem?_drop] at hj
        exact r2.at (hsrcx _ v hj)) (by simp [hxl, hML]; omega) (fun v hv => h1 v (List.mem_of_mem_drop hv))
    rw [hmin, ← hN] at this
    exact this
  obtain ⟨W1, hW1⟩ : ∃ W1 : World, W1 = (w.alloc (.cells R.toArray 85)).drew := ⟨_, rfl⟩
  have hE1 : Ext w W1 := by rw [hW1]; exact ((Ext.refl w).alloc _).drew
  have r1 : Row W1 w.heap.size 85 R := by
    rw [hW1]; exact (show Row (w.alloc (.cells R.toArray 85)) w.heap.size 85 R from row_alloc _ _ _ _ _ rfl rfl)
  have rA := hcpA W1 r1 (hv.ext hE1)
  have r2 : Row (W1.setRow w.heap.size M.toArray).drew w.heap.size 85 M := r1.setRow M
  have r3 : Row (W1.setRow w.heap.size M.toArray).drew g 85 L := (show Row (W1.setRow w.heap.size M.toArray) g 85 L from ((Kp.refl (fun k => k = w.heap.size) W1).setRow rfl _).row (hR.ext hE1) (by omega))
  have rB := hcpB _ r2 r3
  have hfin : InsPost w (((W1.setRow w.heap.size M.toArray).drew).setRow w.heap.size N.toArray) (some ⟨g, 0, none⟩) n (xs.take (i * 2) ++ [a, b] ++ xs.drop (i * 2)) (.returned (.slice (some ⟨w.heap.size, 0, none⟩) (n + 1) G)) := by
    refine ⟨_, G, rfl, osl_of_row (r2.setRow N) (n + 1) G hGn hG63 hNL hNt, ?_, fun g' hg' => by cases hg'; exact Or.inr (Nat.le_refl _)⟩
    have k1 : Ext w (W1.setRow w.heap.size M.toArray) := hE1.kpFresh ((Kp.refl (fun k => k = w.heap.size) W1).setRow rfl _) (Nat.le_refl _)
    exact (Ext.kpFresh k1.drew ((Kp.refl (fun k => k = w.heap.size) _).setRow rfl _) (Nat.le_refl _)).kp _
  subst hW1
  have HF : Hid _ := hfin
  have hb1 : (i : Int) ≤ (n : Int) := by omega
  have hb2 : ¬ ((i : Int) = (n : Int)) := by omega
  have hb3 : ¬ cap = i := by omega
  have hb4 : ¬ G = i + 1 := by omega
  have hb10 : ¬ G = i := by omega
  have hb5 : (cap : Int) < (n : Int) + 1 := by omega
  have hb6 : (i : Int) + 1 ≤ (n : Int) + 1 := by omega
  have hb7 : ((i : Int) + 1).toNat = i + 1 := by omega
  have hin : i ≤ n := by omega
  have hb0 : (0 : Int) ≤ (i : Int) + 1 := by omega
  have hb8 : (i : Int) ≤ (n : Int) + 1 := by omega
  have hb9 : i ≤ n + 1 := by omega
  have hw1 : IntKind.i64.wrap ((i : Int) + 1) = (i : Int) + 1 := by rw [IntKind.wrap_i64]; omega
  clear hfin hcpA hcpB r1 r2 r3 hE1 hNt hNL hN hML hM hx hxl hR hv h1 hRt hRl hRR hG hold hkk hik hsrcx hi0 hz0 hzs hzb
  go_enter Try.func28, Try.ntmps28
  go_wp2_with (first
    | (at_builtin; refine Lib.wpList_append_run _ rfl _ _ _ _ rfl _ _ rfl rfl _ _ (hrz _) ?_)
    | (refine wpList_copy_runI _ rfl _ _ 77 77 rfl _ _ rfl rfl (rA _ _) ?_))
  go_region_law (refine step_copy_runI rfl _ _ 77 77 rfl (.slice (some ⟨w.heap.size, (i + 1) * 2, none⟩) (n + 1 - (i + 1)) (G - (i + 1))) (.slice (some ⟨g, i * 2, none⟩) (n - i) (cap - i)) (by simp [Act.eval, Act.put]) (by simp [Act.eval, Act.put]) (rB 3 (G - (i + 1)) (cap - i)) ?_)
  go_wp2
  go_ret
  exact HF.out
theorem insert_any (fa : Option Addr) (n cap i : Nat) (xs : List Value) (vb : Nat) (a b : Value) (w : World) (hO : OSl w 85 2 fa n cap xs) (hi : i ≤ n) (hn : n ≤ 99) (hv : Row w vb 85 [a, b]) (hne : ¬ blkOf fa = some vb) (ha : a.oneCell' = true) (hb : b.oneCell' = true) (h1 : ∀ v ∈ xs, v.oneCell' = true) :
    Calls Try.prog 28 #[.slice fa n cap, .int .i64 i, .slice (some ⟨vb, 0, none⟩) 1 1] w fun e w' => InsPost w w' fa n (xs.take (i * 2) ++ [a, b] ++ xs.drop (i * 2)) e := by
  have hxl := hO.len
  rcases Nat.lt_or_ge i n with h | h
  · obtain ⟨g, L, rfl, hR, hnc, hm, hL, hx⟩ := row_of_osl hO (by omega)
    rcases Nat.lt_or_ge cap (n + 1) with h' | h'
    · exact insert_grow g n cap i L xs vb a b w hR hx (by omega) h hnc h' hn hv ha hb h1
    · exact insert_room g n cap i L xs vb a b w hR hL hm hx h h' hn hv (fun e => hne (by rw [e]; rfl)) ha hb h1
  · obtain rfl : i = n := by omega
    have hcap : (i : Int) ≤ cap := by
      rcases hO.form with ⟨_, h0, h1, _⟩ | ⟨_, _, _, _, h1, _⟩ <;> omega
    rw [List.take_of_length_le (by omega), List.drop_of_length_le (by omega), List.append_nil]
    exact insert_end fa i cap xs vb a b w hO hn hv ha hb hcap
end Go.Proofs.Ytepioeaomlmocaa
