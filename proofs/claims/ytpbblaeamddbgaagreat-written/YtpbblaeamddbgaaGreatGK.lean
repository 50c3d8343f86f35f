import Derived.Maps.OwnOps
import Derived.Maps.Views
import Derived.Test.YtpbblaeamddbgaaGreatGF
import Derived.Test.YtpbblaeamddbgaaGreatGE
import Derived.Test.YtpbblaeamddbgaaGreatG0
import Derived.Test.YtpbblaeamddbgaaGreatGJ
namespace Go.Proofs.YtpbblaeamddbgaaGreat
open Go.RowKit

theorem Tryz.infoX : (Tryz.prog.info? 178).map (fun i => (i.zero, i.size, i.bytes)) = some (some (.agg #[.int .i64 0, .int .i64 0, .int .i64 0, .string ⟨#[]⟩, .int .i64 0, .string ⟨#[]⟩, .slice none 0 0]), 7, 88) := by kernel_rfl
theorem Tryz.sizeX : (Tryz.prog.info? 178).map (·.size) = some 7 := by kernel_rfl
set_option maxHeartbeats 800000 in
theorem insert_endX (fa : Option Addr) (n cap : Nat) (xs : List Value) (vb : Nat) (cs : List Value) (w : World) (hO : OSl w 178 7 fa n cap xs) (hn : n ≤ 999) (hv : Row w vb 178 cs) (h2 : ∀ u ∈ cs, u.oneCell' = true) (hcs : cs.length = 7) (_hcap : (n : Int) ≤ cap) :
    Calls Tryz.prog 99 #[.slice fa n cap, .int .i64 n, .slice (some ⟨vb, 0, none⟩) 1 1] w fun e w' => InsPost 178 7 w w' fa n (xs ++ cs) e := by
  have h1 : Hid (∀ u ∈ cs, u.oneCell' = true) := h2
  have hc1 : Hid (cs.length = 1 * 7) := by show _ = _; omega
  go_enter Tryz.func99, Tryz.ntmps99
  go_wp2_with (first
    | (at_builtin; refine wpList_app2 rfl (.tmp 23) (.tmp 24) 101 100 rfl 178 (.agg #[.int .i64 0, .int .i64 0, .int .i64 0, .string ⟨#[]⟩, .int .i64 0, .string ⟨#[]⟩, .slice none 0 0]) 7 88 Tryz.underlying101 Tryz.underlying100 Tryz.infoX rfl (by decide) fa n cap xs rfl hO ⟨vb, 0, none⟩ 1 1 cs rfl hc1.out (src_row hv) h1.out (by unfold maxLen; omega) (by omega) ?_; intro fa' cap' w1 hO1 hk1 at1))
  all_goals go_ret
  all_goals exact ins_of rfl hO1 hk1 at1

theorem ins_shiftX (L xs ab : List Value) (n i : Nat) (hi : i < n) (hL : n * 7 + 7 ≤ L.length) (hx : L.take (n * 7) = xs) (hab : ab.length = 7) :
    let M := L.take ((i + 1) * 7) ++ xs.drop (i * 7) ++ L.drop ((i + 1) * 7 + (xs.drop (i * 7)).length)
    (M.take (i * 7) ++ ab ++ M.drop (i * 7 + 7)).take ((n + 1) * 7) = xs.take (i * 7) ++ ab ++ xs.drop (i * 7) := by
  intro M
  have hxl : xs.length = n * 7 := by rw [← hx]; simp; omega
  have hML : M.length = L.length := by simp [M, hxl]; omega
  have e1 : M.take (i * 7) = xs.take (i * 7) := by
    simp only [M]
    rw [List.append_assoc, List.take_append_of_le_length (by simp; omega), List.take_take, ← hx, List.take_take]
    congr 1; omega
  have e2 : M.drop (i * 7 + 7) = xs.drop (i * 7) ++ L.drop ((i + 1) * 7 + (xs.drop (i * 7)).length) := by
    simp only [M]
    rw [List.append_assoc, List.drop_left' (by simp; omega)]
  rw [e1, e2, ← List.append_assoc]
  rw [List.take_left' (by simp [hab, hxl]; omega)]

set_option maxHeartbeats 1600000 in
set_option maxRecDepth 100000 in
theorem insert_roomX (g n cap i : Nat) (L xs : List Value) (vb : Nat) (cs : List Value) (w : World) (hR : Row w g 178 L) (hL : L.length = cap * 7) (hm : cap ≤ maxLen) (hx : L.take (n * 7) = xs) (hi : i < n) (hroom : n + 1 ≤ cap) (hn : n ≤ 999) (hv : Row w vb 178 cs) (hne : vb ≠ g) (h2 : ∀ u ∈ cs, u.oneCell' = true) (hcs : cs.length = 7) (h1 : ∀ v ∈ xs, v.oneCell' = true) :
    Calls Tryz.prog 99 #[.slice (some ⟨g, 0, none⟩) n cap, .int .i64 i, .slice (some ⟨vb, 0, none⟩) 1 1] w fun e w' => InsPost 178 7 w w' (some ⟨g, 0, none⟩) n (xs.take (i * 7) ++ cs ++ xs.drop (i * 7)) e := by
  have hxl : xs.length = n * 7 := by rw [← hx]; simp; omega
  have hov : ∀ lb cb, (callFunc 143 #[.slice (some ⟨vb, 0, none⟩) 1 1, .slice (some ⟨g, (i + 1) * 7, none⟩) lb cb]).run Tryz.prog w = .ok (.value (.bool false)) w := fun lb cb => by
    rw [run_callFunc_extern Tryz.func143 (by kernel_rfl) (by kernel_rfl) (by kernel_rfl) (e := Extern.SlicesOverlaps.overlaps #[100, 100] #[4]) (by kernel_rfl),
      Lib.run_overlaps_apart w 100 4 178 Tryz.underlying100 7 Tryz.sizeOf178 ⟨vb, 0, none⟩ ⟨g, (i + 1) * 7, none⟩ 1 1 lb cb hne 178 178 7 (cap * 7) (by unfold Row at hv; simp [World.shape?, hv, hcs]) (by unfold Row at hR; simp [World.shape?, hR, hL]) (by omega) (hv.frozen _) (hv.frozen _)]
    rfl
  obtain ⟨M, hM⟩ : ∃ M, M = L.take ((i + 1) * 7) ++ xs.drop (i * 7) ++ L.drop ((i + 1) * 7 + (xs.drop (i * 7)).length) := ⟨_, rfl⟩
  have hML : M.length = cap * 7 := by rw [hM]; simp [hxl, hL]; omega
  have hRd : Row w.drew g 178 L := hR
  have hcp1 : ∀ ty dc sc, (Builtin.copy_ #[101, 101] ty #[.slice (some ⟨g, (i + 1) * 7, none⟩) (n + 1 - (i + 1)) dc, .slice (some ⟨g, i * 7, none⟩) (n + 1 - i) sc]).run Tryz.prog w.drew = .ok (goInt ((n - i : Nat) : Int)) (w.drew.setRow g M.toArray) := fun ty dc sc => by
    have hmin : Nat.min (n + 1 - i) (n + 1 - (i + 1)) = n - i := by simp only [Nat.min_def]; split <;> omega
    have := run_copy_wk (P := Tryz.prog) w.drew 101 101 ty 178 g ((i + 1) * 7) (n + 1 - (i + 1)) dc ⟨g, i * 7, none⟩ (n + 1 - i) sc L 178 (xs.drop (i * 7)) Tryz.underlying101 7 Tryz.sizeX hRd (by rw [hmin]; simp [hxl]; omega)
      (fun j v hj => by
        rw [add_at]
        refine hRd.at ?_
        rw [List.getElem?_drop, ← hx, List.getElem?_take] at hj
        split at hj
        · exact hj
        · cases hj) (by simp [hxl, hL]; omega) (fun v hv => h1 v (List.mem_of_mem_drop hv))
    rw [hmin, ← hM] at this
    exact this
  have hR1 : Row (w.drew.setRow g M.toArray) g 178 M := hRd.setRow M
  have hv1 : Row (w.drew.setRow g M.toArray) vb 178 cs := (((Kp.refl (fun k => k = g) w.drew).setRow rfl _)).row (show Row w.drew vb 178 cs from hv) hne
  obtain ⟨N, hN⟩ : ∃ N, N = M.take (i * 7) ++ cs ++ M.drop (i * 7 + 7) := ⟨_, rfl⟩
  have hNL : N.length = cap * 7 := by rw [hN]; simp [hML]; omega
  have hNt : N.take ((n + 1) * 7) = xs.take (i * 7) ++ cs ++ xs.drop (i * 7) := by
    rw [hN, hM]; exact ins_shiftX L xs cs n i hi (by omega) hx hcs
  have hcp2 : ∀ ty dc, (Builtin.copy_ #[101, 100] ty #[.slice (some ⟨g, i * 7, none⟩) (n + 1 - i) dc, .slice (some ⟨vb, 0, none⟩) 1 1]).run Tryz.prog (w.drew.setRow g M.toArray) = .ok (goInt 1) ((w.drew.setRow g M.toArray).setRow g N.toArray) := fun ty dc => by
    have hmin : Nat.min 1 (n + 1 - i) = 1 := by simp only [Nat.min_def]; split <;> omega
    have := run_copy_wk (P := Tryz.prog) (w.drew.setRow g M.toArray) 101 100 ty 178 g (i * 7) (n + 1 - i) dc ⟨vb, 0, none⟩ 1 1 M 178 cs Tryz.underlying101 7 Tryz.sizeX hR1 (by rw [hmin]; omega) (src_row hv1) (by simp [hML]; omega) h2
    rw [hmin, hcs] at this
    rw [hN]
    exact this
  have hfin : InsPost 178 7 w ((w.drew.setRow g M.toArray).setRow g N.toArray) (some ⟨g, 0, none⟩) n (xs.take (i * 7) ++ cs ++ xs.drop (i * 7)) (.returned (.slice (some ⟨g, 0, none⟩) (n + 1) cap)) :=
    ⟨_, cap, rfl, osl_of_row (hR1.setRow N) 7 (n + 1) cap hroom hm hNL hNt, (((((Ext.refl w).drew).kp (fun k => blkOf (some ⟨g, 0, none⟩) = some k)).setRow rfl _).setRow rfl _), fun g hg => Or.inl hg⟩
  have HF : Hid _ := hfin
  have hb1 : (i : Int) ≤ (n : Int) := by omega
  have hb2 : ¬ ((i : Int) = (n : Int)) := by omega
  have hb3 : ¬ cap = i := by omega
  have hb4 : ¬ cap = i + 1 := by omega
  have hb5 : (n : Int) + 1 ≤ (cap : Int) := by omega
  have hb6 : (i : Int) + 1 ≤ (n : Int) + 1 := by omega
  have hb7 : ((i : Int) + 1).toNat = i + 1 := by omega
  have hin : i ≤ n := by omega
  have hb0 : (0 : Int) ≤ (i : Int) + 1 := by omega
  have hb8 : (i : Int) ≤ (n : Int) + 1 := by omega
  have hb9 : i ≤ n + 1 := by omega
  have hw1 : IntKind.i64.wrap ((i : Int) + 1) = (i : Int) + 1 := by rw [IntKind.wrap_i64]; omega
  have hc63 : cap ≤ 9223372036854775807 := by unfold maxLen at hm; omega
  clear hfin hNt hNL hN hR1 hv1 hML hM hx hxl hRd hR hv hm hL h1
  go_enter Tryz.func99, Tryz.ntmps99
  go_wp2_with (simp only [hov])
  go_region_law (refine step_copy_runI rfl _ _ 101 101 rfl (.slice (some ⟨g, (i + 1) * 7, none⟩) (n + 1 - (i + 1)) (cap - (i + 1))) (.slice (some ⟨g, i * 7, none⟩) (n + 1 - i) (cap - i)) (by simp [Act.eval, Act.put]) (by simp [Act.eval, Act.put]) (hcp1 3 (cap - (i + 1)) (cap - i)) ?_)
  go_wp2_with (at_builtin; refine wpList_copy_runI _ rfl _ _ 101 100 rfl _ _ rfl rfl (hcp2 _ _) ?_)
  go_ret
  exact HF.out

theorem ins_growX (R xs ab : List Value) (n i : Nat) (hi : i < n) (hR : n * 7 + 7 ≤ R.length) (hx : R.take (i * 7) = xs.take (i * 7)) (hxl : xs.length = n * 7) (hab : ab.length = 7) :
    let M := R.take (i * 7) ++ ab ++ R.drop (i * 7 + 7)
    (M.take ((i + 1) * 7) ++ xs.drop (i * 7) ++ M.drop ((i + 1) * 7 + (xs.drop (i * 7)).length)).take ((n + 1) * 7) = xs.take (i * 7) ++ ab ++ xs.drop (i * 7) := by
  intro M
  have e1 : M.take ((i + 1) * 7) = xs.take (i * 7) ++ ab := by
    simp only [M]
    rw [List.take_left' (by simp [hab]; omega), hx]
  rw [e1, List.take_left' (by simp [hab, hxl]; omega)]

set_option maxHeartbeats 1600000 in
set_option maxRecDepth 100000 in
theorem insert_growX (g n cap i : Nat) (L xs : List Value) (vb : Nat) (cs : List Value) (w : World) (hR : Row w g 178 L) (hx : L.take (n * 7) = xs) (hLl : n * 7 ≤ L.length) (hi : i < n) (hnc : n ≤ cap) (hroom : cap < n + 1) (hn : n ≤ 999) (hv : Row w vb 178 cs) (h2 : ∀ u ∈ cs, u.oneCell' = true) (hcs : cs.length = 7) (h1 : ∀ v ∈ xs, v.oneCell' = true) :
    Calls Tryz.prog 99 #[.slice (some ⟨g, 0, none⟩) n cap, .int .i64 i, .slice (some ⟨vb, 0, none⟩) 1 1] w fun e w' => InsPost 178 7 w w' (some ⟨g, 0, none⟩) n (xs.take (i * 7) ++ cs ++ xs.drop (i * 7)) e := by
  have hxl : xs.length = n * 7 := by rw [← hx]; simp; omega
  obtain ⟨i0, hi0, hz0, hzs, hzb⟩ := info_parts Tryz.infoX
  have hgl := hR.lt
  have hvl := hv.lt
  have hsrcx : ∀ j v, xs[j]? = some v → L[j]? = some v := fun j v hj => by
    rw [← hx, List.getElem?_take] at hj
    split at hj
    · exact hj
    · cases hj
  have hold : (Builtin.firstCells i0.size i (.slice (some ⟨g, 0, none⟩) i cap)).run Tryz.prog w.drew = .ok (xs.take (i * 7)).toArray w.drew := by
    rw [hzs]
    exact run_firstCells_some w.drew 7 i ⟨g, 0, none⟩ i cap (xs.take (i * 7)) (by rw [List.length_take]; omega) (fun j v hj => by
      rw [add_lt]
      rw [List.getElem?_take] at hj
      split at hj
      · exact (show Row w.drew g 178 L from hR).at (hsrcx j v hj)
      · cases hj)
  have hkk : (n : Int) + 1 - (i : Int) = ((n + 1 - i : Nat) : Int) := by omega
  have hik : i + (n + 1 - i) = n + 1 := by omega
  obtain ⟨G, hG⟩ : ∃ G, G = grownCap w (n + 1) cap 178 := ⟨_, rfl⟩
  obtain ⟨R, hRR⟩ : ∃ R : List Value, R.toArray = (xs.take (i * 7)).toArray ++ Builtin.zeroCells (Value.agg #[.int .i64 0, .int .i64 0, .int .i64 0, .string ⟨#[]⟩, .int .i64 0, .string ⟨#[]⟩, .slice none 0 0]).cells (n + 1 - i) ++ Builtin.zeroCells (Value.agg #[.int .i64 0, .int .i64 0, .int .i64 0, .string ⟨#[]⟩, .int .i64 0, .string ⟨#[]⟩, .slice none 0 0]).cells (G - (n + 1)) := ⟨_, Array.toArray_toList⟩
  have hrz : ∀ ty, (Builtin.append_ #[101, 3] ty #[.slice (some ⟨g, 0, none⟩) i cap, .int .i64 ((n : Int) + 1 - (i : Int))]).run Tryz.prog w = .ok (.slice (some ⟨w.heap.size, 0, none⟩) (n + 1) G) (w.drew.alloc (.cells R.toArray 178)) := fun ty => by
    have h := Lib.run_append_grow_zeros (P := Tryz.prog) w 101 3 ty 178 i0 _ .i64 .i64 Tryz.underlying101 Tryz.underlying3 hi0 hz0 (some ⟨g, 0, none⟩) i cap (xs.take (i * 7)) hold (n + 1 - i) (by omega) (by omega) (by omega) (by omega) (by rw [hzb]; omega) (by rw [hzb, hik]; exact growslice_fits hroom (by omega))
    rw [hik, ← hG, ← hRR] at h
    rw [hkk]
    exact h
  have hGn : n + 1 ≤ G := by rw [hG]; exact grownCap_ge w _ _ _
  have hG63 : G ≤ maxLen := by
    rw [hG]; exact grownCap_le_maxLen w (n + 1) cap 178 (by unfold maxLen; omega)
  have hG63' : G ≤ 9223372036854775807 := by unfold maxLen at hG63; omega
  have hRl : R.length = G * 7 := by
    have := congrArg Array.size hRR
    simp [Builtin.zeroCells, Value.cells, hxl] at this
    omega
  have hRt : R.take (i * 7) = xs.take (i * 7) := by
    have := congrArg (fun x => x.toList.take (i * 7)) hRR
    simp only [Array.toList_append] at this
    rw [this, List.append_assoc, List.take_left' (by simp; omega)]
  obtain ⟨M, hM⟩ : ∃ M, M = R.take (i * 7) ++ cs ++ R.drop (i * 7 + 7) := ⟨_, rfl⟩
  have hML : M.length = G * 7 := by rw [hM]; simp [hRl]; omega
  obtain ⟨N, hN⟩ : ∃ N, N = M.take ((i + 1) * 7) ++ xs.drop (i * 7) ++ M.drop ((i + 1) * 7 + (xs.drop (i * 7)).length) := ⟨_, rfl⟩
  have hNL : N.length = G * 7 := by rw [hN]; simp [hML, hxl]; omega
  have hNt : N.take ((n + 1) * 7) = xs.take (i * 7) ++ cs ++ xs.drop (i * 7) := by
    rw [hN, hM]; exact ins_growX R xs cs n i hi (by omega) hRt hxl hcs
  have hcpA : ∀ W, Row W w.heap.size 178 R → Row W vb 178 cs → ∀ ty dc, (Builtin.copy_ #[101, 100] ty #[.slice (some ⟨w.heap.size, i * 7, none⟩) (n + 1 - i) dc, .slice (some ⟨vb, 0, none⟩) 1 1]).run Tryz.prog W = .ok (goInt 1) (W.setRow w.heap.size M.toArray) := fun W r1 r2 ty dc => by
    have hmin : Nat.min 1 (n + 1 - i) = 1 := by simp only [Nat.min_def]; split <;> omega
    have := run_copy_wk (P := Tryz.prog) W 101 100 ty 178 w.heap.size (i * 7) (n + 1 - i) dc ⟨vb, 0, none⟩ 1 1 R 178 cs Tryz.underlying101 7 Tryz.sizeX r1 (by rw [hmin]; omega) (src_row r2) (by simp [hRl]; omega) h2
    rw [hmin, hcs] at this
    rw [hM]
    exact this
  have hcpB : ∀ W, Row W w.heap.size 178 M → Row W g 178 L → ∀ ty dc sc, (Builtin.copy_ #[101, 101] ty #[.slice (some ⟨w.heap.size, (i + 1) * 7, none⟩) (n + 1 - (i + 1)) dc, .slice (some ⟨g, i * 7, none⟩) (n - i) sc]).run Tryz.prog W = .ok (goInt ((n - i : Nat) : Int)) (W.setRow w.heap.size N.toArray) := fun W r1 r2 ty dc sc => by
    have hmin : Nat.min (n - i) (n + 1 - (i + 1)) = n - i := by simp only [Nat.min_def]; split <;> omega
    have := run_copy_wk (P := Tryz.prog) W 101 101 ty 178 w.heap.size ((i + 1) * 7) (n + 1 - (i + 1)) dc ⟨g, i * 7, none⟩ (n - i) sc M 178 (xs.drop (i * 7)) Tryz.underlying101 7 Tryz.sizeX r1 (by rw [hmin]; simp [hxl]; omega)
      (fun j v hj => by
        rw [add_at]
        rw [List.getElem?_drop] at hj
        exact r2.at (hsrcx _ v hj)) (by simp [hxl, hML]; omega) (fun v hv => h1 v (List.mem_of_mem_drop hv))
    rw [hmin, ← hN] at this
    exact this
  obtain ⟨W1, hW1⟩ : ∃ W1 : World, W1 = (w.alloc (.cells R.toArray 178)).drew := ⟨_, rfl⟩
  have hE1 : Ext w W1 := by rw [hW1]; exact ((Ext.refl w).alloc _).drew
  have r1 : Row W1 w.heap.size 178 R := by
    rw [hW1]; exact (show Row (w.alloc (.cells R.toArray 178)) w.heap.size 178 R from row_alloc _ _ _ _ _ rfl rfl)
  have rA := hcpA W1 r1 (hv.ext hE1)
  have r2 : Row (W1.setRow w.heap.size M.toArray).drew w.heap.size 178 M := r1.setRow M
  have r3 : Row (W1.setRow w.heap.size M.toArray).drew g 178 L := (show Row (W1.setRow w.heap.size M.toArray) g 178 L from ((Kp.refl (fun k => k = w.heap.size) W1).setRow rfl _).row (hR.ext hE1) (by omega))
  have rB := hcpB _ r2 r3
  have hfin : InsPost 178 7 w (((W1.setRow w.heap.size M.toArray).drew).setRow w.heap.size N.toArray) (some ⟨g, 0, none⟩) n (xs.take (i * 7) ++ cs ++ xs.drop (i * 7)) (.returned (.slice (some ⟨w.heap.size, 0, none⟩) (n + 1) G)) := by
    refine ⟨_, G, rfl, osl_of_row (r2.setRow N) 7 (n + 1) G hGn hG63 hNL hNt, ?_, fun g' hg' => by cases hg'; exact Or.inr (Nat.le_refl _)⟩
    have k1 : Ext w (W1.setRow w.heap.size M.toArray) := hE1.kpFresh ((Kp.refl (fun k => k = w.heap.size) W1).setRow rfl _) (Nat.le_refl _)
    exact (Ext.kpFresh k1.drew ((Kp.refl (fun k => k = w.heap.size) _).setRow rfl _) (Nat.le_refl _)).kp _
  subst hW1
  have HF : Hid _ := hfin
  have hb1 : (i : Int) ≤ (n : Int) := by omega
  have hb2 : ¬ ((i : Int) = (n : Int)) := by omega
  have hb3 : ¬ cap = i := by omega
  have hb4 : ¬ G = i + 1 := by omega
  have hb10 : ¬ G = i := by omega
  have hb5 : (cap : Int) < (n : Int) + 1 := by omega
  have hb6 : (i : Int) + 1 ≤ (n : Int) + 1 := by omega
  have hb7 : ((i : Int) + 1).toNat = i + 1 := by omega
  have hin : i ≤ n := by omega
  have hb0 : (0 : Int) ≤ (i : Int) + 1 := by omega
  have hb8 : (i : Int) ≤ (n : Int) + 1 := by omega
  have hb9 : i ≤ n + 1 := by omega
  have hw1 : IntKind.i64.wrap ((i : Int) + 1) = (i : Int) + 1 := by rw [IntKind.wrap_i64]; omega
  clear hfin hcpA hcpB r1 r2 r3 hE1 hNt hNL hN hML hM hx hxl hR hv h1 hRt hRl hRR hG hold hkk hik hsrcx hi0 hz0 hzs hzb
  go_enter Tryz.func99, Tryz.ntmps99
  go_wp2_with (first
    | (at_builtin; refine Lib.wpList_append_run _ rfl _ _ _ _ rfl _ _ rfl rfl _ _ (hrz _) ?_)
    | (refine wpList_copy_runI _ rfl _ _ 101 100 rfl _ _ rfl rfl (rA _ _) ?_))
  go_region_law (refine step_copy_runI rfl _ _ 101 101 rfl (.slice (some ⟨w.heap.size, (i + 1) * 7, none⟩) (n + 1 - (i + 1)) (G - (i + 1))) (.slice (some ⟨g, i * 7, none⟩) (n - i) (cap - i)) (by simp [Act.eval, Act.put]) (by simp [Act.eval, Act.put]) (rB 3 (G - (i + 1)) (cap - i)) ?_)
  go_wp2
  go_ret
  exact HF.out
theorem insert_anyX (fa : Option Addr) (n cap i : Nat) (xs : List Value) (vb : Nat) (cs : List Value) (w : World) (hO : OSl w 178 7 fa n cap xs) (hi : i ≤ n) (hn : n ≤ 999) (hv : Row w vb 178 cs) (hne : ¬ blkOf fa = some vb) (h2 : ∀ u ∈ cs, u.oneCell' = true) (hcs : cs.length = 7) (h1 : ∀ v ∈ xs, v.oneCell' = true) :
    Calls Tryz.prog 99 #[.slice fa n cap, .int .i64 i, .slice (some ⟨vb, 0, none⟩) 1 1] w fun e w' => InsPost 178 7 w w' fa n (xs.take (i * 7) ++ cs ++ xs.drop (i * 7)) e := by
  have hxl := hO.len
  rcases Nat.lt_or_ge i n with h | h
  · obtain ⟨g, L, rfl, hR, hnc, hm, hL, hx⟩ := row_of_osl hO (by omega)
    rcases Nat.lt_or_ge cap (n + 1) with h' | h'
    · exact insert_growX g n cap i L xs vb cs w hR hx (by omega) h hnc h' hn hv h2 hcs h1
    · exact insert_roomX g n cap i L xs vb cs w hR hL hm hx h h' hn hv (fun e => hne (by rw [e]; rfl)) h2 hcs h1
  · obtain rfl : i = n := by omega
    have hcap : (i : Int) ≤ cap := by
      rcases hO.form with ⟨_, h0, h1, _⟩ | ⟨_, _, _, _, h1, _⟩ <;> omega
    rw [List.take_of_length_le (by omega), List.drop_of_length_le (by omega), List.append_nil]
    exact insert_endX fa i cap xs vb cs w hO hn hv h2 hcs hcap
end Go.Proofs.YtpbblaeamddbgaaGreat
namespace Go.Proofs.YtpbblaeamddbgaaGreat
open Go.RowKit

theorem del_listX (L xs : List Value) (k i : Nat) (z : List Value) (hi : i ≤ k) (hL : k * 7 + 7 ≤ L.length) (hx : L.take ((k + 1) * 7) = xs) (hz : z.length = 7) :
    let M := L.take (i * 7) ++ xs.drop ((i + 1) * 7) ++ L.drop (i * 7 + (xs.drop ((i + 1) * 7)).length)
    (M.take (k * 7) ++ z ++ M.drop (k * 7 + z.length)).take (k * 7) = xs.take (i * 7) ++ xs.drop ((i + 1) * 7) ∧ (M.take (k * 7) ++ z ++ M.drop (k * 7 + z.length)).length = L.length ∧ M.length = L.length := by
  intro M
  have hxl : xs.length = (k + 1) * 7 := by rw [← hx]; simp; omega
  have hML : M.length = L.length := by simp [M, hxl]; omega
  refine ⟨?_, by simp [hML, hz]; omega, hML⟩
  rw [List.append_assoc, List.take_left' (by simp [hML]; omega)]
  simp only [M]
  rw [List.take_left' (by simp [hxl]; omega)]
  congr 1
  rw [← hx, List.take_take]
  congr 1; omega

set_option maxHeartbeats 1600000 in
set_option maxRecDepth 100000 in
theorem delete_anyX (g k cap i : Nat) (L xs : List Value) (w : World) (hR : Row w g 178 L) (hL : L.length = cap * 7) (hm : cap ≤ maxLen) (hnc : k + 1 ≤ cap) (hx : L.take ((k + 1) * 7) = xs) (hi : i ≤ k) (hn : k ≤ 999) (h1 : ∀ v ∈ xs, v.oneCell' = true) :
    Calls Tryz.prog 104 #[.slice (some ⟨g, 0, none⟩) (k + 1) cap, .int .i64 i, .int .i64 ((i : Int) + 1)] w fun e w' => e = .returned (.slice (some ⟨g, 0, none⟩) k cap) ∧ OSl w' 178 7 (some ⟨g, 0, none⟩) k cap (xs.take (i * 7) ++ xs.drop ((i + 1) * 7)) ∧ Kp (fun k => k = g) w w' := by
  have hxl : xs.length = (k + 1) * 7 := by rw [← hx]; simp; omega
  obtain ⟨i0, hi0, hz0, hzs, hzb⟩ := info_parts Tryz.infoX
  obtain ⟨news, hnews⟩ : ∃ news, news = xs.drop ((i + 1) * 7) := ⟨_, rfl⟩
  have hnl : news.length = (k - i) * 7 := by rw [hnews]; simp [hxl]; omega
  have hsrcx : ∀ j v, xs[j]? = some v → L[j]? = some v := fun j v hj => by
    rw [← hx, List.getElem?_take] at hj
    split at hj
    · exact hj
    · cases hj
  have hRd : Row w.drew g 178 L := hR
  obtain ⟨A, hA, hsrc⟩ : ∃ A : Addr, (if cap = i + 1 then some (⟨g, 0, none⟩ : Addr) else some ⟨g, (i + 1) * 7, none⟩) = some A ∧ Hid (∀ t u, news[t]? = some u → w.drew.cell? (A.add t) = some u) := by
    by_cases h : cap = i + 1
    · refine ⟨⟨g, 0, none⟩, by simp [h], fun t u hu => ?_⟩
      have h0 : news.length = 0 := by rw [hnl]; omega
      rw [List.length_eq_zero_iff.1 h0] at hu
      simp at hu
    · refine ⟨⟨g, (i + 1) * 7, none⟩, by simp [h], fun t u hu => ?_⟩
      rw [add_at]
      rw [hnews, List.getElem?_drop] at hu
      exact hRd.at (hsrcx _ u hu)
  have s2 : Hid (∀ u ∈ news, u.oneCell' = true) := fun u hu => by rw [hnews] at hu; exact h1 u (List.mem_of_mem_drop hu)
  have s3 : Hid (∀ t, t < news.length → (w.drew.cell? ⟨g, 0 + i * 7 + t, none⟩).isSome = true ∧ w.drew.frozen? ⟨g, 0 + i * 7 + t, none⟩ = false) := by
    intro t ht
    rw [Nat.zero_add, hRd.cell (j := i * 7 + t) (by omega)]
    exact ⟨rfl, hRd.frozen _⟩
  have s1 : Hid (news.length = (k - i) * 7) := hnl
  obtain ⟨z, hz⟩ : ∃ z : List Value, z = [.int .i64 0, .int .i64 0, .int .i64 0, .string ⟨#[]⟩, .int .i64 0, .string ⟨#[]⟩, .slice none 0 0] := ⟨_, rfl⟩
  have hzl : z.length = 7 := by rw [hz]; rfl
  obtain ⟨d1, d2, d3⟩ := del_listX L xs k i z hi (by omega) hx hzl
  obtain ⟨W1, hW1⟩ : ∃ W1, W1 = w.drew.setCells g (0 + i * 7) news := ⟨_, rfl⟩
  obtain ⟨M, hM⟩ : ∃ M, M = L.take (i * 7) ++ xs.drop ((i + 1) * 7) ++ L.drop (i * 7 + (xs.drop ((i + 1) * 7)).length) := ⟨_, rfl⟩
  simp only [← hM] at d1 d2 d3
  have r1 : Row W1 g 178 M := by
    rw [hW1, Nat.zero_add, hM, hnews]
    refine row_setCells _ (i * 7) _ L hRd ?_
    rw [← hnews]; omega
  have k1 : Kp (fun b => b = g) w W1 := by
    rw [hW1]
    exact kp_setCells (M := fun b => b = g) rfl _ _ _ _ (((Ext.refl w).drew).kp _)
  have hz1 : ∀ v ∈ z, v.oneCell' = true := by
    rw [hz]; decide
  obtain ⟨N, hN⟩ : ∃ N, N = M.take (k * 7) ++ z ++ M.drop (k * 7 + z.length) := ⟨_, rfl⟩
  rw [← hN] at d1 d2
  have hcl : ∀ ty, (Builtin.clear_ #[101] ty #[.slice (some ⟨g, k * 7, none⟩) 1 (cap - k)]).run Tryz.prog W1 = .ok (.tuple #[]) (W1.setRow g N.toArray) := fun ty => by
    have hst := run_storeCells_at Tryz.prog g (k * 7) 178 z 0 M.toArray W1 r1 (by simp; omega) hz1
    have hzc : (Builtin.zeroCells (Value.agg #[.int .i64 0, .int .i64 0, .int .i64 0, .string ⟨#[]⟩, .int .i64 0, .string ⟨#[]⟩, .slice none 0 0]).cells 1).toList = z := by rw [hz]; kernel_rfl
    have hzv := Tryz.zeroValue178 W1
    simp only [Nat.add_zero] at hst
    simp only [← hN] at hst
    simp [Builtin.clear_, run_underlying Tryz.underlying101, hzv, hzc, hst]
  have hfin : OSl (W1.setRow g N.toArray) 178 7 (some ⟨g, 0, none⟩) k cap (xs.take (i * 7) ++ xs.drop ((i + 1) * 7)) ∧ Kp (fun k => k = g) w (W1.setRow g N.toArray) :=
    ⟨osl_of_row (r1.setRow N) 7 k cap (by omega) hm (by omega) d1, k1.setRow rfl _⟩
  have HF : Hid _ := hfin
  have hW : Hid (W1 = w.drew.setCells g (0 + i * 7) news) := hW1
  have hik : i + (k - i) = k := by omega
  have hin : i ≤ k + 1 := by omega
  have hc63 : cap ≤ 9223372036854775807 := by unfold maxLen at hm; omega
  have hb0 : (0 : Int) ≤ (i : Int) + 1 := by omega
  have hb1 : (i : Int) + 1 ≤ (k : Int) + 1 := by omega
  have hb2 : i + 1 ≤ cap := by omega
  have hb3 : i ≤ cap := by omega
  have hb4 : ¬ cap = i := by omega
  have hb5 : ¬ cap = k := by omega
  have hb6 : k ≤ cap := by omega
  have hb7 : ((i : Int) + 1).toNat = i + 1 := by omega
  have hb8 : (i : Int) ≤ (k : Int) := by omega
  have hb9 : ¬ (i : Int) = (i : Int) + 1 := by omega
  clear hfin d1 d2 d3 r1 k1 hW1 hM hN hz hzl hz1 hx hxl hR hRd hL hm h1 hnews hnl hsrcx
  go_enter Tryz.func104, Tryz.ntmps104
  go_wp2_with fail
  go_region_law (refine step_append_room rfl (.tmp 22) (.tmp 25) 101 rfl 178 i0 7 Tryz.underlying101 hi0 hzs g 0 i cap (by simp [Act.eval, Act.put]) A (k - i) (cap - (i + 1)) news (by simp [Act.eval, Act.put]) s1.out hsrc.out s2.out (by omega) s3.out ?_; rw [← hW.out, hik])
  go_wp2
  go_ret
  exact ⟨rfl, HF.out⟩
end Go.Proofs.YtpbblaeamddbgaaGreat
namespace Go.Proofs.YtpbblaeamddbgaaGreat
open Go.RowKit

/-- An entry as it lies in memory: its condition, who has it, where they lie. -/
structure EnR where
  c : Cd
  os : List (Int × Int)
  ao : Option Addr
  cap : Nat
def EnR.cells (e : EnR) : List Value := [.int .i64 e.c.attr, .int .i64 e.c.kind, .int .i64 e.c.a.n, .string e.c.a.s, .int .i64 e.c.b.n, .string e.c.b.s, .slice e.ao e.os.length e.cap]
theorem enr_at (es : List EnR) (k : Nat) (hk : k < es.length) : (es.flatMap EnR.cells)[k * 7]? = some (.int .i64 es[k].c.attr) ∧ (es.flatMap EnR.cells)[k * 7 + 1]? = some (.int .i64 es[k].c.kind) ∧ (es.flatMap EnR.cells)[k * 7 + 2]? = some (.int .i64 es[k].c.a.n) ∧ (es.flatMap EnR.cells)[k * 7 + 3]? = some (.string es[k].c.a.s)
    ∧ (es.flatMap EnR.cells)[k * 7 + 4]? = some (.int .i64 es[k].c.b.n) ∧ (es.flatMap EnR.cells)[k * 7 + 5]? = some (.string es[k].c.b.s) ∧ (es.flatMap EnR.cells)[k * 7 + 6]? = some (.slice es[k].ao es[k].os.length es[k].cap) :=
  ⟨flat_at EnR.cells 7 (fun _ => rfl) es k 0 hk (by omega), flat_at EnR.cells 7 (fun _ => rfl) es k 1 hk (by omega), flat_at EnR.cells 7 (fun _ => rfl) es k 2 hk (by omega), flat_at EnR.cells 7 (fun _ => rfl) es k 3 hk (by omega), flat_at EnR.cells 7 (fun _ => rfl) es k 4 hk (by omega), flat_at EnR.cells 7 (fun _ => rfl) es k 5 hk (by omega), flat_at EnR.cells 7 (fun _ => rfl) es k 6 hk (by omega)⟩
theorem enr_one (es : List EnR) : ∀ v ∈ es.flatMap EnR.cells, v.oneCell' = true := by
  intro v hv
  obtain ⟨x, _, hx⟩ := List.mem_flatMap.1 hv
  simp only [EnR.cells, List.mem_cons, List.not_mem_nil, or_false] at hx
  rcases hx with rfl | rfl | rfl | rfl | rfl | rfl | rfl <;> rfl
theorem enr_len (es : List EnR) : (es.flatMap EnR.cells).length = es.length * 7 := flat_len EnR.cells 7 (fun _ => rfl) es

set_option maxHeartbeats 400000 in
theorem cmpx_any (x c : Cd) (ao : Option Addr) (n cap : Nat) (w : World) :
    Calls Tryz.prog 142 #[.agg #[.int .i64 x.attr, .int .i64 x.kind, .int .i64 x.a.n, .string x.a.s, .int .i64 x.b.n, .string x.b.s, .slice ao n cap], .agg #[.int .i64 c.attr, .int .i64 c.kind, .int .i64 c.a.n, .string c.a.s, .int .i64 c.b.n, .string c.b.s]] w fun e w' => e = .returned (.int .i64 (cmpCd x c)) ∧ Ext w w' := by
  go_enter Tryz.func142, Tryz.ntmps142
  go_wp2_with (go_at_call 94; refine (compareConds_any x c _).mono ?_; rintro e w1 ⟨rfl, hb⟩)
  go_ret
  exact ⟨rfl, (((Ext.refl _).alloc _).alloc _).trans hb.1⟩

set_option maxHeartbeats 1600000 in
set_option maxRecDepth 100000 in
theorem bsx_any (fa : Option Addr) (cap : Nat) (es : List EnR) (c : Cd) (q : Nat) (r : Bool) (w : World) (hO : OSl w 178 7 fa es.length cap (es.flatMap EnR.cells)) (_hf : es.length ≤ 1000) (hqn : q ≤ es.length) (hQ : ∀ h (hh : h < es.length), cmpCd es[h].c c < 0 ↔ h < q) (hr : ∀ hq : q < es.length, (cmpCd es[q].c c == 0) = r) (hr' : ¬ q < es.length → r = false) :
    Calls Tryz.prog 141 #[.slice fa es.length cap, .agg #[.int .i64 c.attr, .int .i64 c.kind, .int .i64 c.a.n, .string c.a.s, .int .i64 c.b.n, .string c.b.s], .func (Fn.func 142) #[] #[]] w fun e w' => e = .returned (.tuple #[.int .i64 q, .bool r]) ∧ Ext w w' := by
  have HQ : Hid (∀ h (hh : h < es.length), cmpCd es[h].c c < 0 ↔ h < q) := hQ
  have HR : Hid (∀ hq : q < es.length, (cmpCd es[q].c c == 0) = r) := hr
  have HR' : Hid (¬ q < es.length → r = false) := hr'
  clear hQ hr hr'
  obtain ⟨wb, hwb⟩ : ∃ wb, wb = w.alloc (.cells #[.int .i64 c.attr, .int .i64 c.kind, .int .i64 c.a.n, .string c.a.s, .int .i64 c.b.n, .string c.b.s] 80) := ⟨_, rfl⟩
  have hEb : Ext w wb := by rw [hwb]; exact (Ext.refl _).alloc _
  have hB : Row wb w.heap.size 80 c.cells := by rw [hwb]; exact row_alloc _ _ _ _ _ rfl rfl
  have hOb := hO.ext hEb
  have HEb : Hid (Ext w wb) := hEb
  clear hEb hO
  go_enter Tryz.func141, Tryz.ntmps141
  go_wp2_with fail
  rw [← hwb]
  go_loopw [9, 10] (fun i j wr => ∃ a b : Nat, i = .int .i64 a ∧ j = .int .i64 b ∧ a ≤ q ∧ q ≤ b ∧ b ≤ es.length ∧ Ext wb wr) (fun i j _ => (intOf j).toNat - (intOf i).toNat)
  case atStart => exact ⟨0, es.length, rfl, rfl, Nat.zero_le _, hqn, Nat.le_refl _, Ext.refl _⟩
  case round =>
    obtain ⟨a, b, rfl, rfl, ha, hb, hbn, hE⟩ := hrel
    clear hwb
    have hBr := hB.ext hE
    have t0 := hBr.at (j := 0) rfl
    have t1 := hBr.at (j := 1) rfl
    have t2 := hBr.at (j := 2) rfl
    have t3 := hBr.at (j := 3) rfl
    have t4 := hBr.at (j := 4) rfl
    have t5 := hBr.at (j := 5) rfl
    clear hBr hB
    by_cases hab : a < b
    · have hh : (a + b) / 2 < es.length := by omega
      have hq2 := HQ.out ((a + b) / 2) hh
      obtain ⟨p0, p1, p2, p3, p4, p5, p6⟩ := enr_at es ((a + b) / 2) hh
      have hOr := hOb.ext hE
      obtain ⟨g, rfl, e0⟩ := hOr.at p0
      obtain ⟨_, f1, e1⟩ := hOr.at p1
      cases f1
      obtain ⟨_, f1, e2⟩ := hOr.at p2
      cases f1
      obtain ⟨_, f1, e3⟩ := hOr.at p3
      cases f1
      obtain ⟨_, f1, e4⟩ := hOr.at p4
      cases f1
      obtain ⟨_, f1, e5⟩ := hOr.at p5
      cases f1
      obtain ⟨_, f1, e6⟩ := hOr.at p6
      cases f1
      clear hOr hOb p0 p1 p2 p3 p4 p5 p6
      generalize hm : (a + b) / 2 = m at *
      have HE : Hid (Ext wb wr) := hE
      have hq3 : Hid (cmpCd es[m].c c < 0 ↔ m < q) := hq2
      clear hE hq2
      have hmi : (m : Int) < (es.length : Int) := by omega
      have hmi2 : ((a : Int) + (b : Int)) / 2 = (m : Int) := by omega
      generalize es[m].ao = eao at *
      generalize es[m].os.length = eol at *
      generalize es[m].cap = ecap at *
      generalize es[m].c = ec at *
      go_wp2_with fail
      go_region_held3 (fun w' => w'.cell? ⟨g, m * 7, none⟩ = some (.int .i64 ec.attr) ∧ w'.cell? ⟨g, m * 7 + 1, none⟩ = some (.int .i64 ec.kind) ∧ w'.cell? ⟨g, m * 7 + 2, none⟩ = some (.int .i64 ec.a.n) ∧ w'.cell? ⟨g, m * 7 + 3, none⟩ = some (.string ec.a.s) ∧ w'.cell? ⟨g, m * 7 + 4, none⟩ = some (.int .i64 ec.b.n) ∧ w'.cell? ⟨g, m * 7 + 5, none⟩ = some (.string ec.b.s) ∧ w'.cell? ⟨g, m * 7 + 6, none⟩ = some (.slice eao eol ecap)
          ∧ w'.cell? ⟨w.heap.size, 0, none⟩ = some (.int .i64 c.attr) ∧ w'.cell? ⟨w.heap.size, 1, none⟩ = some (.int .i64 c.kind) ∧ w'.cell? ⟨w.heap.size, 2, none⟩ = some (.int .i64 c.a.n) ∧ w'.cell? ⟨w.heap.size, 3, none⟩ = some (.string c.a.s) ∧ w'.cell? ⟨w.heap.size, 4, none⟩ = some (.int .i64 c.b.n) ∧ w'.cell? ⟨w.heap.size, 5, none⟩ = some (.string c.b.s))
        (first | go_keep | (refine ⟨?_, ?_, ?_, ?_, ?_, ?_, ?_, ?_, ?_, ?_, ?_, ?_, ?_⟩ <;> exact hbb.cell (by assumption)))
        (first | (go_at_call 142; refine (cmpx_any ec c eao eol ecap _).mono ?_; rintro e w' ⟨rfl, hbb⟩))
      rename_i hh2
      have hEE := (HE.out.trans (drewN_ext _ 1)).trans hbb
      clear hh2 e0 e1 e2 e3 e4 e5 e6 t0 t1 t2 t3 t4 t5
      by_cases hlt : cmpCd ec c < 0
      · have hmq := hq3.out.1 hlt
        generalize cmpCd ec c = cv at *
        clear HR HR' HQ HE hq3
        go_wp2
        go_roundw
        case rel => exact ⟨m + 1, b, by go_num, rfl, by omega, hb, hbn, hEE⟩
        case measure => simp [intOf]; omega
      · have hmq : q ≤ m := by
          rcases Nat.lt_or_ge m q with h | h
          · exact absurd (hq3.out.2 h) hlt
          · exact h
        generalize cmpCd ec c = cv at *
        clear HR HR' HQ HE hq3
        go_wp2
        go_roundw
        case rel => exact ⟨a, m, rfl, rfl, by omega, by omega, by omega, hEE⟩
        case measure => simp [intOf]; omega
    · obtain rfl : a = q := by omega
      obtain rfl : b = a := by omega
      by_cases hqn' : b < es.length
      · have hrr := HR.out hqn'
        obtain ⟨p0, p1, p2, p3, p4, p5, p6⟩ := enr_at es b hqn'
        have hOr := hOb.ext hE
        obtain ⟨g, rfl, e0⟩ := hOr.at p0
        obtain ⟨_, f1, e1⟩ := hOr.at p1
        cases f1
        obtain ⟨_, f1, e2⟩ := hOr.at p2
        cases f1
        obtain ⟨_, f1, e3⟩ := hOr.at p3
        cases f1
        obtain ⟨_, f1, e4⟩ := hOr.at p4
        cases f1
        obtain ⟨_, f1, e5⟩ := hOr.at p5
        cases f1
        obtain ⟨_, f1, e6⟩ := hOr.at p6
        cases f1
        have HE : Hid (Ext wb wr) := hE
        have HRR : Hid ((cmpCd es[b].c c == 0) = r) := hrr
        clear hOr hOb p0 p1 p2 p3 p4 p5 p6 hE hrr HQ HR HR'
        have hmi : (b : Int) < (es.length : Int) := by omega
        generalize es[b].ao = eao at *
        generalize es[b].os.length = eol at *
        generalize es[b].cap = ecap at *
        generalize es[b].c = ec at *
        go_wp2_with fail
        go_region_held3 (fun w' => w'.cell? ⟨g, b * 7, none⟩ = some (.int .i64 ec.attr) ∧ w'.cell? ⟨g, b * 7 + 1, none⟩ = some (.int .i64 ec.kind) ∧ w'.cell? ⟨g, b * 7 + 2, none⟩ = some (.int .i64 ec.a.n) ∧ w'.cell? ⟨g, b * 7 + 3, none⟩ = some (.string ec.a.s) ∧ w'.cell? ⟨g, b * 7 + 4, none⟩ = some (.int .i64 ec.b.n) ∧ w'.cell? ⟨g, b * 7 + 5, none⟩ = some (.string ec.b.s) ∧ w'.cell? ⟨g, b * 7 + 6, none⟩ = some (.slice eao eol ecap)
            ∧ w'.cell? ⟨w.heap.size, 0, none⟩ = some (.int .i64 c.attr) ∧ w'.cell? ⟨w.heap.size, 1, none⟩ = some (.int .i64 c.kind) ∧ w'.cell? ⟨w.heap.size, 2, none⟩ = some (.int .i64 c.a.n) ∧ w'.cell? ⟨w.heap.size, 3, none⟩ = some (.string c.a.s) ∧ w'.cell? ⟨w.heap.size, 4, none⟩ = some (.int .i64 c.b.n) ∧ w'.cell? ⟨w.heap.size, 5, none⟩ = some (.string c.b.s))
          (first | go_keep | (refine ⟨?_, ?_, ?_, ?_, ?_, ?_, ?_, ?_, ?_, ?_, ?_, ?_, ?_⟩ <;> exact hbb.cell (by assumption)))
          (first | (go_at_call 142; refine (cmpx_any ec c eao eol ecap _).mono ?_; rintro e w' ⟨rfl, hbb⟩))
        rename_i hh2
        have hEE := (HE.out.trans (drewN_ext _ 1)).trans hbb
        clear hh2 e0 e1 e2 e3 e4 e5 e6 t0 t1 t2 t3 t4 t5
        generalize cmpCd ec c = cv at *
        go_wp2
        go_ret2
        exact ⟨by rw [← HRR.out]; simp [BEq.beq], HEb.out.trans hEE⟩
      · have hrr := HR'.out hqn'
        subst hrr
        clear HQ HR HR' hOb
        have HE : Hid (Ext wb wr) := hE
        clear hE
        have hmi : ¬ (b : Int) < (es.length : Int) := by omega
        go_wp2_with fail
        go_quiet (fail)
        go_wp2
        go_ret2
        exact ⟨rfl, HEb.out.trans (HE.out.trans (drewN_ext _ _))⟩
end Go.Proofs.YtpbblaeamddbgaaGreat
namespace Go.Proofs.YtpbblaeamddbgaaGreat
open Go.RowKit

set_option maxHeartbeats 400000 in
theorem xfind_any (fa : Option Addr) (cap : Nat) (es : List EnR) (c : Cd) (q : Nat) (r : Bool) (w : World) (hO : OSl w 178 7 fa es.length cap (es.flatMap EnR.cells)) (hf : es.length ≤ 1000) (hqn : q ≤ es.length) (hQ : ∀ h (hh : h < es.length), cmpCd es[h].c c < 0 ↔ h < q) (hr : ∀ hq : q < es.length, (cmpCd es[q].c c == 0) = r) (hr' : ¬ q < es.length → r = false) :
    Calls Tryz.prog 98 #[.slice fa es.length cap, .agg #[.int .i64 c.attr, .int .i64 c.kind, .int .i64 c.a.n, .string c.a.s, .int .i64 c.b.n, .string c.b.s]] w fun e w' => e = .returned (.tuple #[.int .i64 q, .bool r]) ∧ Ext w w' := by
  have HB : Hid (∀ o, Calls Tryz.prog 141 #[.slice fa es.length cap, .agg #[.int .i64 c.attr, .int .i64 c.kind, .int .i64 c.a.n, .string c.a.s, .int .i64 c.b.n, .string c.b.s], .func (Fn.func 142) #[] #[]] (w.alloc o) fun e w' => e = .returned (.tuple #[.int .i64 q, .bool r]) ∧ Ext (w.alloc o) w') := fun o => bsx_any fa cap es c q r _ (hO.ext ((Ext.refl w).alloc o)) hf hqn hQ hr hr'
  clear hO hQ hr hr'
  generalize es.length = n at *
  go_enter Tryz.func98, Tryz.ntmps98
  go_wp2_with (go_at_call 141; refine Calls.mono (HB.out _) ?_; rintro e w1 ⟨rfl, hb⟩)
  go_ret2
  exact ⟨rfl, ((Ext.refl _).alloc _).trans hb⟩

/-- The closure of split: the shelf in its box, the value in its. -/
structure SplitBox (w : World) (sb xb : Nat) (fa : Option Addr) (cap : Nat) (es : List EnR) (v : Vl) : Prop where
  s : w.cell? ⟨sb, 0, none⟩ = some (.slice fa es.length cap)
  n : w.cell? ⟨xb, 0, none⟩ = some (.int .i64 v.n)
  t : w.cell? ⟨xb, 1, none⟩ = some (.string v.s)
  o : OSl w 178 7 fa es.length cap (es.flatMap EnR.cells)
theorem SplitBox.ext {w w' : World} {sb xb : Nat} {fa : Option Addr} {cap : Nat} {es : List EnR} {v : Vl} (h : SplitBox w sb xb fa cap es v) (e : Ext w w') : SplitBox w' sb xb fa cap es v :=
  ⟨e.cell h.s, e.cell h.n, e.cell h.t, h.o.ext e⟩

set_option maxHeartbeats 800000 in
theorem split1_any (sb xb : Nat) (fa : Option Addr) (cap : Nat) (es : List EnR) (v : Vl) (k : Nat) (hk : k < es.length) (w : World) (hB : SplitBox w sb xb fa cap es v) :
    Calls Tryz.prog 171 #[.int .i64 k, .pointer (some ⟨sb, 0, none⟩), .pointer (some ⟨xb, 0, none⟩)] w fun e w' => e = .returned (.bool (decide (0 ≤ cmpV es[k].c.a v))) ∧ Ext w w' := by
  obtain ⟨_, _, p2, p3, _, _, _⟩ := enr_at es k hk
  obtain ⟨g, rfl, e2⟩ := hB.o.at p2
  obtain ⟨_, q1, e3⟩ := hB.o.at p3
  cases q1
  have s0 := hB.s
  have n0 := hB.n
  have t0 := hB.t
  have hki : (k : Int) < (es.length : Int) := by omega
  clear hB p2 p3
  generalize es[k].c.a = ca at *
  generalize hr : decide (0 ≤ cmpV ca v) = r
  have HR : Hid (decide (0 ≤ cmpV ca v) = r) := hr
  clear hr
  go_enter Tryz.func171, Tryz.ntmps171
  go_wp2_with fail
  go_region_held3 (fun w' => w'.cell? ⟨sb, 0, none⟩ = some (.slice (some ⟨g, 0, none⟩) es.length cap) ∧ w'.cell? ⟨g, k * 7 + 2, none⟩ = some (.int .i64 ca.n) ∧ w'.cell? ⟨g, k * 7 + 3, none⟩ = some (.string ca.s) ∧ w'.cell? ⟨xb, 0, none⟩ = some (.int .i64 v.n) ∧ w'.cell? ⟨xb, 1, none⟩ = some (.string v.s))
    (first | go_keep | (refine ⟨?_, ?_, ?_, ?_, ?_⟩ <;> exact hbb.cell (by first | assumption | simp [*])))
    (first | (go_at_call 129; refine (compare_any ca v _).mono ?_; rintro e w' ⟨rfl, hbb⟩))
  go_wp2
  go_ret
  exact ⟨ret_bool HR.out, ((Ext.refl w).drew).trans hbb⟩
set_option maxHeartbeats 800000 in
theorem split2_any (sb xb : Nat) (fa : Option Addr) (cap : Nat) (es : List EnR) (v : Vl) (k : Nat) (hk : k < es.length) (w : World) (hB : SplitBox w sb xb fa cap es v) :
    Calls Tryz.prog 172 #[.int .i64 k, .pointer (some ⟨sb, 0, none⟩), .pointer (some ⟨xb, 0, none⟩)] w fun e w' => e = .returned (.bool (decide (0 < cmpV es[k].c.a v))) ∧ Ext w w' := by
  obtain ⟨_, _, p2, p3, _, _, _⟩ := enr_at es k hk
  obtain ⟨g, rfl, e2⟩ := hB.o.at p2
  obtain ⟨_, q1, e3⟩ := hB.o.at p3
  cases q1
  have s0 := hB.s
  have n0 := hB.n
  have t0 := hB.t
  have hki : (k : Int) < (es.length : Int) := by omega
  clear hB p2 p3
  generalize es[k].c.a = ca at *
  generalize hr : decide (0 < cmpV ca v) = r
  have HR : Hid (decide (0 < cmpV ca v) = r) := hr
  clear hr
  go_enter Tryz.func172, Tryz.ntmps172
  go_wp2_with fail
  go_region_held3 (fun w' => w'.cell? ⟨sb, 0, none⟩ = some (.slice (some ⟨g, 0, none⟩) es.length cap) ∧ w'.cell? ⟨g, k * 7 + 2, none⟩ = some (.int .i64 ca.n) ∧ w'.cell? ⟨g, k * 7 + 3, none⟩ = some (.string ca.s) ∧ w'.cell? ⟨xb, 0, none⟩ = some (.int .i64 v.n) ∧ w'.cell? ⟨xb, 1, none⟩ = some (.string v.s))
    (first | go_keep | (refine ⟨?_, ?_, ?_, ?_, ?_⟩ <;> exact hbb.cell (by first | assumption | simp [*])))
    (first | (go_at_call 129; refine (compare_any ca v _).mono ?_; rintro e w' ⟨rfl, hbb⟩))
  go_wp2
  go_ret
  exact ⟨ret_bool HR.out, ((Ext.refl w).drew).trans hbb⟩

set_option maxHeartbeats 400000 in
theorem search1_any (n q sb xb : Nat) (w : World) (hq : q ≤ n) (hn : n ≤ 1000) (hC : ∀ W, Ext w W → ∀ k, k < n → Calls Tryz.prog 171 #[.int .i64 k, .pointer (some ⟨sb, 0, none⟩), .pointer (some ⟨xb, 0, none⟩)] W fun e w' => e = .returned (.bool (decide (q ≤ k))) ∧ Ext W w') :
    Calls Tryz.prog 170 #[.int .i64 n, .func (Fn.func 171) #[] #[.pointer (some ⟨sb, 0, none⟩), .pointer (some ⟨xb, 0, none⟩)]] w fun e w' => e = .returned (.int .i64 q) ∧ Ext w w' := by
  have HC : Hid _ := hC
  clear hC
  go_enter Tryz.func170, Tryz.ntmps170
  go_wp2_with fail
  go_loopw [5, 6] (fun i j wr => ∃ a b : Nat, i = .int .i64 a ∧ j = .int .i64 b ∧ a ≤ q ∧ q ≤ b ∧ b ≤ n ∧ Ext w wr) (fun i j _ => (intOf j).toNat - (intOf i).toNat)
  case atStart => exact ⟨0, n, rfl, rfl, Nat.zero_le _, hq, Nat.le_refl _, Ext.refl _⟩
  case round =>
    obtain ⟨a, b, rfl, rfl, ha, hb, hbn, hE⟩ := hrel
    by_cases hab : a < b
    · have hh : (a + b) / 2 < n := by omega
      have HC2 : Hid _ := HC.out wr hE ((a + b) / 2) hh
      generalize hm : (a + b) / 2 = m at *
      have hmi2 : ((a : Int) + (b : Int)) / 2 = (m : Int) := by omega
      by_cases hqm : q ≤ m
      · rw [decide_eq_true hqm] at HC2
        go_wp2_with fail
        refine Calls.mono HC2.out ?_
        rintro e w2 ⟨rfl, hE2⟩
        have hEE := hE.trans hE2
        clear HC HC2
        go_wp2
        go_roundw
        case rel => exact ⟨a, m, rfl, rfl, ha, hqm, by omega, hEE⟩
        case measure => simp [intOf]; omega
      · rw [decide_eq_false hqm] at HC2
        go_wp2_with fail
        refine Calls.mono HC2.out ?_
        rintro e w2 ⟨rfl, hE2⟩
        have hEE := hE.trans hE2
        clear HC HC2
        go_wp2
        go_roundw
        case rel => exact ⟨m + 1, b, by go_num, rfl, by omega, hb, hbn, hEE⟩
        case measure => simp [intOf]; omega
    · obtain rfl : a = q := by omega
      clear HC
      go_wp2
      go_ret
      exact ⟨rfl, hE⟩

set_option maxHeartbeats 400000 in
theorem search2_any (n q sb xb : Nat) (w : World) (hq : q ≤ n) (hn : n ≤ 1000) (hC : ∀ W, Ext w W → ∀ k, k < n → Calls Tryz.prog 172 #[.int .i64 k, .pointer (some ⟨sb, 0, none⟩), .pointer (some ⟨xb, 0, none⟩)] W fun e w' => e = .returned (.bool (decide (q ≤ k))) ∧ Ext W w') :
    Calls Tryz.prog 170 #[.int .i64 n, .func (Fn.func 172) #[] #[.pointer (some ⟨sb, 0, none⟩), .pointer (some ⟨xb, 0, none⟩)]] w fun e w' => e = .returned (.int .i64 q) ∧ Ext w w' := by
  have HC : Hid _ := hC
  clear hC
  go_enter Tryz.func170, Tryz.ntmps170
  go_wp2_with fail
  go_loopw [5, 6] (fun i j wr => ∃ a b : Nat, i = .int .i64 a ∧ j = .int .i64 b ∧ a ≤ q ∧ q ≤ b ∧ b ≤ n ∧ Ext w wr) (fun i j _ => (intOf j).toNat - (intOf i).toNat)
  case atStart => exact ⟨0, n, rfl, rfl, Nat.zero_le _, hq, Nat.le_refl _, Ext.refl _⟩
  case round =>
    obtain ⟨a, b, rfl, rfl, ha, hb, hbn, hE⟩ := hrel
    by_cases hab : a < b
    · have hh : (a + b) / 2 < n := by omega
      have HC2 : Hid _ := HC.out wr hE ((a + b) / 2) hh
      generalize hm : (a + b) / 2 = m at *
      have hmi2 : ((a : Int) + (b : Int)) / 2 = (m : Int) := by omega
      by_cases hqm : q ≤ m
      · rw [decide_eq_true hqm] at HC2
        go_wp2_with fail
        refine Calls.mono HC2.out ?_
        rintro e w2 ⟨rfl, hE2⟩
        have hEE := hE.trans hE2
        clear HC HC2
        go_wp2
        go_roundw
        case rel => exact ⟨a, m, rfl, rfl, ha, hqm, by omega, hEE⟩
        case measure => simp [intOf]; omega
      · rw [decide_eq_false hqm] at HC2
        go_wp2_with fail
        refine Calls.mono HC2.out ?_
        rintro e w2 ⟨rfl, hE2⟩
        have hEE := hE.trans hE2
        clear HC HC2
        go_wp2
        go_roundw
        case rel => exact ⟨m + 1, b, by go_num, rfl, by omega, hb, hbn, hEE⟩
        case measure => simp [intOf]; omega
    · obtain rfl : a = q := by omega
      clear HC
      go_wp2
      go_ret
      exact ⟨rfl, hE⟩

/-- Where a value stands among a shelf's: ahead of q1 the smaller, from q2 on the greater. -/
def Parts (es : List EnR) (v : Vl) (q1 q2 : Nat) : Prop := q1 ≤ es.length ∧ q2 ≤ es.length ∧ q1 ≤ q2 ∧ (∀ k (hk : k < es.length), 0 ≤ cmpV es[k].c.a v ↔ q1 ≤ k) ∧ ∀ k (hk : k < es.length), 0 < cmpV es[k].c.a v ↔ q2 ≤ k
set_option maxHeartbeats 800000 in
theorem split_any (fa : Option Addr) (cap : Nat) (es : List EnR) (v : Vl) (q1 q2 : Nat) (w : World) (hO : OSl w 178 7 fa es.length cap (es.flatMap EnR.cells)) (hl : es.length ≤ 1000) (hP : Parts es v q1 q2) :
    Calls Tryz.prog 128 #[.slice fa es.length cap, .agg #[.int .i64 v.n, .string v.s]] w fun e w' => e = .returned (.tuple #[.int .i64 q1, .int .i64 q2]) ∧ Ext w w' := by
  obtain ⟨h1, h2, _, h4, h5⟩ := hP
  obtain ⟨W, hW⟩ : ∃ W, W = (w.alloc (.cells #[.slice fa es.length cap] 101)).alloc (.cells #[.int .i64 v.n, .string v.s] 69) := ⟨_, rfl⟩
  have hEW : Ext w W := by rw [hW]; exact ((Ext.refl _).alloc _).alloc _
  have hz : (w.alloc (.cells #[.slice fa es.length cap] 101)).heap.size = w.heap.size + 1 := by simp
  have hB : SplitBox W w.heap.size (w.heap.size + 1) fa cap es v := by
    refine ⟨?_, ?_, ?_, hO.ext hEW⟩
    · rw [hW]; exact ((Ext.refl _).alloc _).cell (cell_new _ _ _ _ _ rfl rfl)
    · rw [hW]; exact cell_new _ _ _ _ _ (by simp) rfl
    · rw [hW]; exact cell_new _ _ _ _ _ (by simp) rfl
  have H1 : Hid (∀ W', Ext W W' → Calls Tryz.prog 170 #[.int .i64 es.length, .func (Fn.func 171) #[] #[.pointer (some ⟨w.heap.size, 0, none⟩), .pointer (some ⟨w.heap.size + 1, 0, none⟩)]] W' fun e w' => e = .returned (.int .i64 q1) ∧ Ext W' w') := fun W' hE => search1_any es.length q1 _ _ W' h1 hl (fun W2 hE2 k hk => by
    refine (split1_any _ _ fa cap es v k hk W2 ((hB.ext hE).ext hE2)).mono ?_
    rintro e w' ⟨rfl, h⟩
    exact ⟨ret_bool (by rw [Bool.eq_iff_iff]; simp only [decide_eq_true_eq]; exact h4 k hk), h⟩)
  have H2 : Hid (∀ W', Ext W W' → Calls Tryz.prog 170 #[.int .i64 es.length, .func (Fn.func 172) #[] #[.pointer (some ⟨w.heap.size, 0, none⟩), .pointer (some ⟨w.heap.size + 1, 0, none⟩)]] W' fun e w' => e = .returned (.int .i64 q2) ∧ Ext W' w') := fun W' hE => search2_any es.length q2 _ _ W' h2 hl (fun W2 hE2 k hk => by
    refine (split2_any _ _ fa cap es v k hk W2 ((hB.ext hE).ext hE2)).mono ?_
    rintro e w' ⟨rfl, h⟩
    exact ⟨ret_bool (by rw [Bool.eq_iff_iff]; simp only [decide_eq_true_eq]; exact h5 k hk), h⟩)
  have s0 := hB.s
  clear hO hB h4 h5
  generalize es.length = n at *
  go_enter Tryz.func128, Tryz.ntmps128
  go_wp2_with fail
  rw [← hW]
  refine Calls.mono (H1.out W (Ext.refl _)) ?_
  rintro e w2 ⟨rfl, hE2⟩
  have s2 := hE2.cell s0
  clear hW
  go_wp2_with fail
  refine Calls.mono (H2.out w2 hE2) ?_
  rintro e w3 ⟨rfl, hE3⟩
  clear H1 H2 s0 s2
  go_wp2
  go_ret2
  exact ⟨rfl, (hEW.trans hE2).trans hE3⟩
end Go.Proofs.YtpbblaeamddbgaaGreat
namespace Go.Proofs.YtpbblaeamddbgaaGreat
open Go.RowKit

/-- The part of a shelf of that kind that need be gone through. -/
def nearLo (k q1 : Nat) : Nat := if k = 1 ∨ k = 3 ∨ k = 4 then q1 else 0
def nearHi (k q2 n : Nat) : Nat := if k = 1 ∨ k = 5 ∨ k = 6 ∨ k = 7 ∨ k = 8 then q2 else n

set_option maxHeartbeats 1600000 in
theorem near_any (k : Nat) (hk : k < 10) (fa : Option Addr) (cap : Nat) (es : List EnR) (v : Vl) (q1 q2 : Nat) (w : World) (hO : OSl w 178 7 fa es.length cap (es.flatMap EnR.cells)) (hl : es.length ≤ 1000) (hP : Parts es v q1 q2) :
    Calls Tryz.prog 83 #[.slice fa es.length cap, .int .i64 k, .agg #[.int .i64 v.n, .string v.s]] w fun e w' => ∃ ao' cap', e = .returned (.slice ao' (nearHi k q2 es.length - nearLo k q1) cap') ∧ (0 < nearHi k q2 es.length - nearLo k q1 → ∃ g, fa = some ⟨g, 0, none⟩ ∧ ao' = some ⟨g, nearLo k q1 * 7, none⟩) ∧ Ext w w' := by
  have HS : Hid (∀ o, Calls Tryz.prog 128 #[.slice fa es.length cap, .agg #[.int .i64 v.n, .string v.s]] (w.alloc o) fun e w' => e = .returned (.tuple #[.int .i64 q1, .int .i64 q2]) ∧ Ext (w.alloc o) w') := fun o => split_any fa cap es v q1 q2 _ (hO.ext ((Ext.refl w).alloc o)) hl hP
  obtain ⟨h1, h2, h3, h4, h5⟩ := hP
  clear h4 h5
  have hc : es.length ≤ cap := by rcases hO.form with ⟨_, h, h', _⟩ | ⟨_, _, _, _, h, _⟩ <;> omega
  have hm : cap ≤ 9223372036854775807 := by
    rcases hO.form with ⟨_, h, h', _⟩ | ⟨_, _, _, _, _, h, _⟩
    · omega
    · unfold maxLen at h; omega
  have hg : 0 < es.length → ∃ g, fa = some ⟨g, 0, none⟩ := fun hp => by
    obtain ⟨g, _, h, _⟩ := row_of_osl hO hp
    exact ⟨g, h⟩
  clear hO
  generalize es.length = n at *
  have i1 : (q1 : Int) ≤ (n : Int) := by omega
  have i2 : (q2 : Int) ≤ (n : Int) := by omega
  have i3 : (q1 : Int) ≤ (q2 : Int) := by omega
  have i4 : (n : Int) ≤ (cap : Int) := by omega
  rcases (show k = 0 ∨ k = 1 ∨ k = 2 ∨ k = 3 ∨ k = 4 ∨ k = 5 ∨ k = 6 ∨ k = 7 ∨ k = 8 ∨ k = 9 by omega) with rfl | rfl | rfl | rfl | rfl | rfl | rfl | rfl | rfl | rfl
  all_goals
    simp only [nearLo, nearHi]
    go_enter Tryz.func83, Tryz.ntmps83
    go_wp2_with (go_at_call 128; refine Calls.mono (HS.out _) ?_; rintro e w1 ⟨rfl, hb⟩)
  all_goals
    go_ret
    refine ⟨_, ⟨_, rfl⟩, fun hp => ?_, ((Ext.refl _).alloc _).trans hb⟩
    first
      | (exfalso; omega)
      | (obtain ⟨g, rfl⟩ := hg (by omega); exact ⟨g, rfl, rfl⟩)
      | (obtain ⟨g, rfl⟩ := hg (by omega); exact ⟨g, rfl, by simp [add_lt]⟩)
end Go.Proofs.YtpbblaeamddbgaaGreat
namespace Go.Proofs.YtpbblaeamddbgaaGreat
open Go.RowKit Go.Maps

theorem Kp.andThen {M N : Nat → Prop} {a b c : World} (h : Kp M a b) (k : Kp N b c) (hn : ∀ i, i < a.heap.size → N i → M i) : Kp M a c :=
  ⟨k.os.trans h.os, k.tape.trans h.tape, k.output.trans h.output, Nat.le_trans h.size k.size, fun i hi hm => (k.block i (Nat.lt_of_lt_of_le hi h.size) (fun hN => hm (hn i hi hN))).trans (h.block i hi hm)⟩
theorem lawI : Keyed Tryz.prog 3 := int_keyed Tryz.underlying3
theorem zeroI (w : World) : (zeroValue 3).run Tryz.prog w = .ok (.int .i64 0) w := by kernel_rfl
theorem keyLitI (x : Int) : WideAt.IsKeyLit (.int .i64 x) := by
  first
    | trivial
    | (unfold WideAt.IsKeyLit; trivial)
/-- A number that an int can hold. -/
def wfI (x : Int) : Prop := (Lit.int .i64 x).wf = true
/-- The counts, as they lie in memory. -/
def MapAt (w : World) (mb n : Nat) (f : Int → Int) : Prop :=
  ∃ D : DataW Unit, w.ownsMap Tryz.prog 3 (plainElem Tryz.prog 3) mb n D ∧ IsMap D ∧ ∀ x, D.atKey (.int .i64 x) (.lit (.int .i64 0)) = .lit (.int .i64 (f x))
theorem MapAt.blk {w : World} {mb n : Nat} {f : Int → Int} (h : MapAt w mb n f) : ∃ es clock, w.heap[mb]? = some (.map es clock) := by
  obtain ⟨D, ⟨es, clock, h1, _⟩, _⟩ := h
  exact ⟨es, clock, h1⟩
theorem MapAt.kp {w w' : World} {M : Nat → Prop} {mb n : Nat} {f : Int → Int} (h : MapAt w mb n f) (k : Kp M w w') (hm : ¬ M mb) : MapAt w' mb n f := by
  obtain ⟨D, ⟨es, clock, h1, h2⟩, h3⟩ := h
  exact ⟨D, ⟨es, clock, by rw [k.block mb (Array.getElem?_eq_some_iff.1 h1).1 hm]; exact h1, h2⟩, h3⟩
theorem MapAt.ext {w w' : World} {mb n : Nat} {f : Int → Int} (h : MapAt w mb n f) (e : Ext w w') : MapAt w' mb n f := h.kp (e.kp (fun _ => False)) (fun h => h)
theorem MapAt.ne {w : World} {mb n : Nat} {f : Int → Int} (h : MapAt w mb n f) {e size : Nat} {ao : Option Addr} {m cap : Nat} {xs : List Value} (hO : OSl w e size ao m cap xs) : blkOf ao ≠ some mb := fun hb => by
  obtain ⟨es, clock, h1⟩ := h.blk
  rcases hO.form with ⟨rfl, _⟩ | ⟨g, cur, rfl, h2, _⟩
  · simp [blkOf] at hb
  · simp [blkOf] at hb
    subst hb
    rw [h1] at h2; cases h2
theorem mapAt_put {w : World} {mb n : Nat} {D : DataW Unit} {f : Int → Int} (hm : IsMap D) (hf : ∀ x, D.atKey (.int .i64 x) (.lit (.int .i64 0)) = .lit (.int .i64 (f x))) (o : Int) (h : w.ownsMap Tryz.prog 3 (plainElem Tryz.prog 3) mb n (D.put (.int .i64 o) (.lit (.int .i64 (f o + 1))))) : MapAt w mb n (fun x => if x = o then f x + 1 else f x) := by
  refine ⟨_, h, ?_, fun x => ?_⟩
  · obtain ⟨es, rfl⟩ := hm
    exact ⟨_, rfl⟩
  · by_cases hx : x = o
    · subst hx
      rw [atKey_put_same hm (keyLitI _)]; simp
    · rw [atKey_put_other (by simpa using hx), hf x]; simp [hx]
def owCells (o : Int × Int) : List Value := [.int .i64 o.1, .int .i64 o.2]
theorem ow_at (os : List (Int × Int)) (k : Nat) (hk : k < os.length) : (os.flatMap owCells)[k * 2]? = some (.int .i64 os[k].1) ∧ (os.flatMap owCells)[k * 2 + 1]? = some (.int .i64 os[k].2) :=
  ⟨flat_at owCells 2 (fun _ => rfl) os k 0 hk (by omega), flat_at owCells 2 (fun _ => rfl) os k 1 hk (by omega)⟩
theorem run_take_succ (s : Cnt) (V : List (Int × Int)) (k : Nat) (hk : k < V.length) : s.run (V.take (k + 1)) = (s.run (V.take k)).step V[k] := by
  rw [List.take_succ_eq_append_getElem hk, run_snoc]

set_option maxHeartbeats 1600000 in
set_option maxRecDepth 100000 in
theorem count_any (ec : Cd) (ao : Option Addr) (cap : Nat) (os : List (Int × Int)) (mb n : Nat) (s : Cnt) (ro : Option Addr) (rcap : Nat) (w : World) (hO : OSl w 193 2 ao os.length cap (os.flatMap owCells)) (hM : MapAt w mb n s.n) (hT : OSl w 3 1 ro s.told.length rcap (s.told.map (Value.int .i64))) (hdis : ∀ g, blkOf ro = some g → blkOf ao ≠ some g) (hwf : ∀ o ∈ os, wfI o.1) (hB : ∀ x, 0 ≤ s.n x ∧ s.n x ≤ 100000) (hl : os.length ≤ 1000) (hn : n ≤ 1000000) (htl : s.told.length ≤ 1000000) :
    Calls Tryz.prog 85 #[.agg #[.int .i64 ec.attr, .int .i64 ec.kind, .int .i64 ec.a.n, .string ec.a.s, .int .i64 ec.b.n, .string ec.b.s, .slice ao os.length cap], .map (some mb), .slice ro s.told.length rcap] w fun e w' => ∃ ro' rcap', e = .returned (.slice ro' (s.run os).told.length rcap') ∧ OSl w' 3 1 ro' (s.run os).told.length rcap' ((s.run os).told.map (Value.int .i64)) ∧ MapAt w' mb (n + os.length) (s.run os).n ∧ Kp (fun b => blkOf ro = some b ∨ b = mb) w w' ∧ ∀ g, blkOf ro' = some g → blkOf ro = some g ∨ w.heap.size ≤ g := by
  have hbd : ∀ k, k ≤ os.length → ∀ x, 0 ≤ (s.run (os.take k)).n x ∧ (s.run (os.take k)).n x ≤ 100000 + k := fun k => by
    induction k with
    | zero => intro _ x; simpa [Cnt.run] using hB x
    | succ k ih =>
      intro hk x
      rw [run_take_succ s os k (by omega)]
      have := ih (by omega) x
      simp only [Cnt.step]
      split <;> omega
  have htd : ∀ k, k ≤ os.length → (s.run (os.take k)).told.length ≤ 1000000 + k := fun k => by
    induction k with
    | zero => intro _; simpa [Cnt.run] using htl
    | succ k ih =>
      intro hk
      rw [run_take_succ s os k (by omega)]
      have := ih (by omega)
      simp only [Cnt.step]
      split <;> simp <;> omega
  have HBD : Hid _ := hbd
  have HTD : Hid _ := htd
  have HWF : Hid (∀ o ∈ os, wfI o.1) := hwf
  have HO : Hid (OSl w 193 2 ao os.length cap (os.flatMap owCells)) := hO
  have HDI : Hid (∀ g, blkOf ro = some g → blkOf ao ≠ some g) := hdis
  have haom : blkOf ao ≠ some mb := hM.ne hO
  clear hbd htd hB hwf hO hdis
  obtain ⟨W, hW⟩ : ∃ W, W = w.alloc (.cells #[.int .i64 ec.attr, .int .i64 ec.kind, .int .i64 ec.a.n, .string ec.a.s, .int .i64 ec.b.n, .string ec.b.s, .slice ao os.length cap] 178) := ⟨_, rfl⟩
  have hEW : Ext w W := by rw [hW]; exact (Ext.refl _).alloc _
  have hz : W.heap.size = w.heap.size + 1 := by rw [hW]; simp
  go_enter Tryz.func85, Tryz.ntmps85
  go_wp2_with fail
  rw [← hW]
  clear hW
  go_loopw [2, 12] (fun v2 vi wr => ∃ (ro2 : Option Addr) (rcap2 k : Nat), k ≤ os.length ∧ vi = .int .i64 k ∧ v2 = .slice ro2 (s.run (os.take k)).told.length rcap2 ∧ OSl wr 3 1 ro2 (s.run (os.take k)).told.length rcap2 ((s.run (os.take k)).told.map (Value.int .i64)) ∧ MapAt wr mb (n + k) (s.run (os.take k)).n ∧ Kp (fun b => blkOf ro = some b ∨ b = mb) w wr ∧ ∀ g, blkOf ro2 = some g → blkOf ro = some g ∨ w.heap.size ≤ g) (fun _ vi _ => os.length - (intOf vi).toNat)
  case atStart => exact ⟨ro, rcap, 0, Nat.zero_le _, rfl, rfl, hT.ext hEW, hM.ext hEW, hEW.kp _, fun g hg => Or.inl hg⟩
  case round =>
    obtain ⟨ro2, rcap2, k, hk, rfl, rfl, hown, hMr, hKr, hror⟩ := hrel
    clear hT hM hEW
    have HK : Hid (Kp (fun b => blkOf ro = some b ∨ b = mb) w wr) := hKr
    have HRO : Hid (∀ g, blkOf ro2 = some g → blkOf ro = some g ∨ w.heap.size ≤ g) := hror
    have htk := HTD.out k hk
    by_cases hlt : k < os.length
    · have hOr := OSl.kp HO.out hKr (fun g hg => by
        rintro (h | h)
        · exact HDI.out g h hg
        · subst h; exact haom hg)
      obtain ⟨og, hoe, e0⟩ := hOr.at (ow_at os k hlt).1
      obtain ⟨_, q1, e1⟩ := hOr.at (ow_at os k hlt).2
      rw [hoe] at q1
      cases q1
      have hwfk : wfI os[k].1 := HWF.out _ (List.getElem_mem hlt)
      have hst : Hid _ := run_take_succ s os k hlt
      have hbk := HBD.out k hk os[k].1
      have hki : (k : Int) < (os.length : Int) := by omega
      clear hKr hror hOr
      rw [hoe]
      generalize s.run (os.take k) = c at *
      generalize os[k] = o at *
      obtain ⟨D, hD, hDm, hDa⟩ := hMr
      have hkey : keyOf Tryz.prog 3 (.int .i64 o.1) = some (.int .i64 o.1) := keyOf_int_mk Tryz.underlying3 hwfk
      obtain ⟨es0, clk0, hb0, hrest0⟩ := hD
      have hmbl : mb < wr.heap.size := (Array.getElem?_eq_some_iff.1 hb0).1
      have hDA : ∀ ob, (wr.alloc ob).ownsMap Tryz.prog 3 (plainElem Tryz.prog 3) mb (n + k) D := fun ob => ⟨es0, clk0, ((Ext.refl wr).alloc ob).blk hb0, hrest0⟩
      have HDA : Hid _ := hDA
      have hmne : blkOf ro2 ≠ some mb := fun h => by
        rcases hown.form with ⟨rfl, _⟩ | ⟨g, cur, rfl, h2, _⟩
        · simp [blkOf] at h
        · simp [blkOf] at h; subst h; rw [hb0] at h2; cases h2
      have hw1 : wrap64 (c.n o.1 + 1) = c.n o.1 + 1 := by unfold wrap64; omega
      have hwf1 : (Lit.int .i64 (c.n o.1 + 1)).wf = true := WalkArith.wf_i64 (by omega)
      have HB1 : Hid (c.told.length + 1 ≤ maxLen) := by show _ ≤ _; unfold maxLen; omega
      have HB2 : Hid ((c.told.length + 1) * 8 ≤ 140737488355328) := by show _ ≤ _; omega
      have hnl : n + k < maxLen := by unfold maxLen; omega
      have HNL : Hid (n + k < maxLen) := hnl
      clear hDA hnl hb0 hrest0
      have ta : True := trivial
      by_cases heq : c.n o.1 + 1 = o.2
      · have HS2 : Hid (s.run (os.take (k + 1)) = ⟨fun x => if x = o.1 then c.n x + 1 else c.n x, c.told ++ [o.1]⟩) := by show _ = _; rw [hst.out]; simp [Cnt.step, heq]
        have hbe : (c.n o.1 + 1 == o.2) = true := by simpa using heq
        clear heq
        go_wp2_with (first
          | (at_lookup; have _t := ta; refine wpList_lookup_own_int _ rfl _ _ 172 rfl 3 3 .i64 lawI Tryz.underlying172 Tryz.underlying3 (zeroI _) mb (n + k) D rfl (HDA.out _) _ _ rfl hkey ?_; intro cv hat hwc; have hcv : cv = c.n o.1 := (by have h9 := hDa o.1; rw [hat] at h9; simpa using h9); clear ta hat hwc; subst hcv)
          | (at_mapUpdate; go_must (refine wpList_mapUpdate_own _ rfl _ _ _ 172 rfl 3 3 lawI Tryz.underlying172 _ mb (n + k) D rfl (HDA.out _) HNL.out _ _ _ rfl rfl hkey (.lit (.int .i64 (c.n o.1 + 1))) [] (plainElem_int Tryz.underlying3 hwf1) ?_; intro w1 hown1 hgrow1; have hk1 : Kp (fun b => b = mb) _ w1 := ⟨hgrow1.os, hgrow1.tape, hgrow1.output, hgrow1.size, fun i hi hm => hgrow1.block i hi (fun e => hm (Option.some.inj e))⟩; have v0 := hk1.cell (p := ⟨wr.heap.size, 0, none⟩) (by exact cell_new _ _ _ _ _ rfl rfl) (by simp only; omega); have v1 := hk1.cell (p := ⟨wr.heap.size, 1, none⟩) (by exact cell_new _ _ _ _ _ rfl rfl) (by simp only; omega)))
          | (at_lookup; go_must (refine wpList_lookup_own_int _ rfl _ _ 172 rfl 3 3 .i64 lawI Tryz.underlying172 Tryz.underlying3 (zeroI _) mb (n + k + 1) _ rfl hown1 _ _ rfl hkey ?_; intro cv2 hat2 hwc2; have hcv2 : cv2 = c.n o.1 + 1 := (by rw [atKey_put_same hDm (keyLitI _)] at hat2; simpa using hat2.symm); clear hat2 hwc2; subst hcv2))
          | (at_builtin; go_must (refine wpList_app rfl (.tmp 28) (.tmp 31) 25 rfl 3 (.int .i64 0) 1 8 Tryz.underlying25 Tryz.infoInt rfl (by decide) ro2 c.told.length rcap2 _ rfl (OSl.ext (OSl.kp (OSl.ext hown ((Ext.refl wr).alloc _)) hk1 (fun g hg e => hmne (e ▸ hg))) ((Ext.refl _).alloc _)) (some ⟨w1.heap.size, 0, none⟩) 1 1 [.int .i64 o.1] rfl (by intro h; cases h) rfl (fun _ => ⟨_, rfl, one_newB _ _ _ _ (by simp)⟩) (by intro u hu; simp at hu; subst hu; rfl) HB1.out HB2.out ?_; intro ro3 rcap3 w3 hown3 hk3 hat3)))
        go_roundw
        case rel =>
          have hsz1 := hk1.size
          have hle1 : wr.heap.size ≤ w1.heap.size := Nat.le_trans ((Ext.refl wr).alloc _).le hk1.size
          have hM1 := mapAt_put hDm hDa o.1 hown1
          have hKw : Kp (fun b => blkOf ro = some b ∨ b = mb) w w1 := (HK.out.trans (((Ext.refl wr).alloc _).kp _)).trans (hk1.mono (fun b _ e => Or.inr e))
          have hwl := HK.out.size
          have hMA := hM1.kp ((((Ext.refl w1).alloc _).kp _).trans hk3) (fun h => hmne h)
          refine ⟨ro3, rcap3, k + 1, by omega, by go_num, by rw [HS2.out]; simp, ?_, ?_, (hKw.trans (((Ext.refl w1).alloc _).kp _)).andThen hk3 (fun b hb e => ?_), fun g hg => ?_⟩
          · rw [HS2.out]; simpa using hown3
          · rw [HS2.out]; exact hMA
          · rcases HRO.out b e with h | h
            · exact Or.inl h
            · omega
          · rcases hat3.out with e | e
            · rw [e] at hg; exact HRO.out g hg
            · rw [e] at hg; cases hg
              exact Or.inr (by have := ((Ext.refl w1).alloc (.cells #[.int .i64 o.1] 3)).le; omega)
        case measure => simp [intOf]; omega
      · have HS2 : Hid (s.run (os.take (k + 1)) = ⟨fun x => if x = o.1 then c.n x + 1 else c.n x, c.told⟩) := by show _ = _; rw [hst.out]; simp [Cnt.step, heq]
        have hbe : (c.n o.1 + 1 == o.2) = false := by simpa using heq
        clear heq
        go_wp2_with (first
          | (at_lookup; have _t := ta; refine wpList_lookup_own_int _ rfl _ _ 172 rfl 3 3 .i64 lawI Tryz.underlying172 Tryz.underlying3 (zeroI _) mb (n + k) D rfl (HDA.out _) _ _ rfl hkey ?_; intro cv hat hwc; have hcv : cv = c.n o.1 := (by have h9 := hDa o.1; rw [hat] at h9; simpa using h9); clear ta hat hwc; subst hcv)
          | (at_mapUpdate; go_must (refine wpList_mapUpdate_own _ rfl _ _ _ 172 rfl 3 3 lawI Tryz.underlying172 _ mb (n + k) D rfl (HDA.out _) HNL.out _ _ _ rfl rfl hkey (.lit (.int .i64 (c.n o.1 + 1))) [] (plainElem_int Tryz.underlying3 hwf1) ?_; intro w1 hown1 hgrow1; have hk1 : Kp (fun b => b = mb) _ w1 := ⟨hgrow1.os, hgrow1.tape, hgrow1.output, hgrow1.size, fun i hi hm => hgrow1.block i hi (fun e => hm (Option.some.inj e))⟩; have v0 := hk1.cell (p := ⟨wr.heap.size, 0, none⟩) (by exact cell_new _ _ _ _ _ rfl rfl) (by simp only; omega); have v1 := hk1.cell (p := ⟨wr.heap.size, 1, none⟩) (by exact cell_new _ _ _ _ _ rfl rfl) (by simp only; omega)))
          | (at_lookup; go_must (refine wpList_lookup_own_int _ rfl _ _ 172 rfl 3 3 .i64 lawI Tryz.underlying172 Tryz.underlying3 (zeroI _) mb (n + k + 1) _ rfl hown1 _ _ rfl hkey ?_; intro cv2 hat2 hwc2; have hcv2 : cv2 = c.n o.1 + 1 := (by rw [atKey_put_same hDm (keyLitI _)] at hat2; simpa using hat2.symm); clear hat2 hwc2; subst hcv2)))
        go_roundw
        case rel =>
          have hM1 := mapAt_put hDm hDa o.1 hown1
          have hKw : Kp (fun b => blkOf ro = some b ∨ b = mb) w w1 := (HK.out.trans (((Ext.refl wr).alloc _).kp _)).trans (hk1.mono (fun b _ e => Or.inr e))
          refine ⟨ro2, rcap2, k + 1, by omega, by go_num, by rw [HS2.out], ?_, ?_, hKw, HRO.out⟩
          · rw [HS2.out]
            exact OSl.kp (OSl.ext hown ((Ext.refl wr).alloc _)) hk1 (fun g hg e => hmne (e ▸ hg))
          · rw [HS2.out]; exact hM1
        case measure => simp [intOf]; omega
    · have hfin : Hid (os.take k = os) := List.take_of_length_le (by omega)
      have hke : k = os.length := by omega
      rw [hfin.out] at hown hMr ⊢
      rw [hke] at hMr
      go_wp2
      go_ret
      exact ⟨ro2, rcap2, rfl, hown, hMr, HK.out, HRO.out⟩
end Go.Proofs.YtpbblaeamddbgaaGreat
