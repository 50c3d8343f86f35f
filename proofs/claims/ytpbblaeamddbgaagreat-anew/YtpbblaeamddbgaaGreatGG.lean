import Derived.Laws.StructEq
import Derived.Test.YtpbblaeamddbgaaGreatGF
import Derived.Test.YtpbblaeamddbgaaGreatGE
import Derived.Test.YtpbblaeamddbgaaGreatG0
namespace Go.Proofs.YtpbblaeamddbgaaGreat
open Go.RowKit

theorem Tryz.infoE : (Tryz.prog.info? 268).map (fun i => (i.zero, i.size, i.bytes)) = some (some (.agg #[.int .i64 0, .slice none 0 0, .pointer none]), 3, 40) := by kernel_rfl
theorem Tryz.sizeE : (Tryz.prog.info? 268).map (·.size) = some 3 := by kernel_rfl
set_option maxHeartbeats 800000 in
theorem insert_endE (fa : Option Addr) (n cap : Nat) (xs : List Value) (vb : Nat) (cs : List Value) (w : World) (hO : OSl w 268 3 fa n cap xs) (hn : n ≤ 999) (hv : Row w vb 268 cs) (h2 : ∀ u ∈ cs, u.oneCell' = true) (hcs : cs.length = 3) (_hcap : (n : Int) ≤ cap) :
    Calls Tryz.prog 232 #[.slice fa n cap, .int .i64 n, .slice (some ⟨vb, 0, none⟩) 1 1] w fun e w' => InsPost 268 3 w w' fa n (xs ++ cs) e := by
  have h1 : Hid (∀ u ∈ cs, u.oneCell' = true) := h2
  have hc1 : Hid (cs.length = 1 * 3) := by show _ = _; omega
  go_enter Tryz.func232, Tryz.ntmps232
  go_wp2_with (first
    | (at_builtin; refine wpList_app2 rfl (.tmp 23) (.tmp 24) 230 230 rfl 268 (.agg #[.int .i64 0, .slice none 0 0, .pointer none]) 3 40 Tryz.underlying230 Tryz.underlying230 Tryz.infoE rfl (by decide) fa n cap xs rfl hO ⟨vb, 0, none⟩ 1 1 cs rfl hc1.out (src_row hv) h1.out (by unfold maxLen; omega) (by omega) ?_; intro fa' cap' w1 hO1 hk1 at1))
  all_goals go_ret
  all_goals exact ins_of rfl hO1 hk1 at1

theorem ins_shiftE (L xs ab : List Value) (n i : Nat) (hi : i < n) (hL : n * 3 + 3 ≤ L.length) (hx : L.take (n * 3) = xs) (hab : ab.length = 3) :
    let M := L.take ((i + 1) * 3) ++ xs.drop (i * 3) ++ L.drop ((i + 1) * 3 + (xs.drop (i * 3)).length)
    (M.take (i * 3) ++ ab ++ M.drop (i * 3 + 3)).take ((n + 1) * 3) = xs.take (i * 3) ++ ab ++ xs.drop (i * 3) := by
  intro M
  have hxl : xs.length = n * 3 := by rw [← hx]; simp; omega
  have hML : M.length = L.length := by simp [M, hxl]; omega
  have e1 : M.take (i * 3) = xs.take (i * 3) := by
    simp only [M]
    rw [List.append_assoc, List.take_append_of_le_length (by simp; omega), List.take_take, ← hx, List.take_take]
    congr 1; omega
  have e2 : M.drop (i * 3 + 3) = xs.drop (i * 3) ++ L.drop ((i + 1) * 3 + (xs.drop (i * 3)).length) := by
    simp only [M]
    rw [List.append_assoc, List.drop_left' (by simp; omega)]
  rw [e1, e2, ← List.append_assoc]
  rw [List.take_left' (by simp [hab, hxl]; omega)]

set_option maxHeartbeats 1600000 in
set_option maxRecDepth 100000 in
theorem insert_roomE (g n cap i : Nat) (L xs : List Value) (vb : Nat) (cs : List Value) (w : World) (hR : Row w g 268 L) (hL : L.length = cap * 3) (hm : cap ≤ maxLen) (hx : L.take (n * 3) = xs) (hi : i < n) (hroom : n + 1 ≤ cap) (hn : n ≤ 999) (hv : Row w vb 268 cs) (hne : vb ≠ g) (h2 : ∀ u ∈ cs, u.oneCell' = true) (hcs : cs.length = 3) (h1 : ∀ v ∈ xs, v.oneCell' = true) :
    Calls Tryz.prog 232 #[.slice (some ⟨g, 0, none⟩) n cap, .int .i64 i, .slice (some ⟨vb, 0, none⟩) 1 1] w fun e w' => InsPost 268 3 w w' (some ⟨g, 0, none⟩) n (xs.take (i * 3) ++ cs ++ xs.drop (i * 3)) e := by
  have hxl : xs.length = n * 3 := by rw [← hx]; simp; omega
  have hov : ∀ lb cb, (callFunc 245 #[.slice (some ⟨vb, 0, none⟩) 1 1, .slice (some ⟨g, (i + 1) * 3, none⟩) lb cb]).run Tryz.prog w = .ok (.value (.bool false)) w := fun lb cb => by
    rw [run_callFunc_extern Tryz.func245 (by kernel_rfl) (by kernel_rfl) (by kernel_rfl) (e := Extern.SlicesOverlaps.overlaps #[230, 230] #[4]) (by kernel_rfl),
      Lib.run_overlaps_apart w 230 4 268 Tryz.underlying230 3 Tryz.sizeOf268 ⟨vb, 0, none⟩ ⟨g, (i + 1) * 3, none⟩ 1 1 lb cb hne 268 268 3 (cap * 3) (by unfold Row at hv; simp [World.shape?, hv, hcs]) (by unfold Row at hR; simp [World.shape?, hR, hL]) (by omega) (hv.frozen _) (hv.frozen _)]
    rfl
  obtain ⟨M, hM⟩ : ∃ M, M = L.take ((i + 1) * 3) ++ xs.drop (i * 3) ++ L.drop ((i + 1) * 3 + (xs.drop (i * 3)).length) := ⟨_, rfl⟩
  have hML : M.length = cap * 3 := by rw [hM]; simp [hxl, hL]; omega
  have hRd : Row w.drew g 268 L := hR
  have hcp1 : ∀ ty dc sc, (Builtin.copy_ #[230, 230] ty #[.slice (some ⟨g, (i + 1) * 3, none⟩) (n + 1 - (i + 1)) dc, .slice (some ⟨g, i * 3, none⟩) (n + 1 - i) sc]).run Tryz.prog w.drew = .ok (goInt ((n - i : Nat) : Int)) (w.drew.setRow g M.toArray) := fun ty dc sc => by
    have hmin : Nat.min (n + 1 - i) (n + 1 - (i + 1)) = n - i := by simp only [Nat.min_def]; split <;> omega
    have := run_copy_wk (P := Tryz.prog) w.drew 230 230 ty 268 g ((i + 1) * 3) (n + 1 - (i + 1)) dc ⟨g, i * 3, none⟩ (n + 1 - i) sc L 268 (xs.drop (i * 3)) Tryz.underlying230 3 Tryz.sizeE hRd (by rw [hmin]; simp [hxl]; omega)
      (fun j v hj => by
        rw [add_at]
        refine hRd.at ?_
        rw [List.getElem?_drop, ← hx, List.getElem?_take] at hj
        split at hj
        · exact hj
        · cases hj) (by simp [hxl, hL]; omega) (fun v hv => h1 v (List.mem_of_mem_drop hv))
    rw [hmin, ← hM] at this
    exact this
  have hR1 : Row (w.drew.setRow g M.toArray) g 268 M := hRd.setRow M
  have hv1 : Row (w.drew.setRow g M.toArray) vb 268 cs := (((Kp.refl (fun k => k = g) w.drew).setRow rfl _)).row (show Row w.drew vb 268 cs from hv) hne
  obtain ⟨N, hN⟩ : ∃ N, N = M.take (i * 3) ++ cs ++ M.drop (i * 3 + 3) := ⟨_, rfl⟩
  have hNL : N.length = cap * 3 := by rw [hN]; simp [hML]; omega
  have hNt : N.take ((n + 1) * 3) = xs.take (i * 3) ++ cs ++ xs.drop (i * 3) := by
    rw [hN, hM]; exact ins_shiftE L xs cs n i hi (by omega) hx hcs
  have hcp2 : ∀ ty dc, (Builtin.copy_ #[230, 230] ty #[.slice (some ⟨g, i * 3, none⟩) (n + 1 - i) dc, .slice (some ⟨vb, 0, none⟩) 1 1]).run Tryz.prog (w.drew.setRow g M.toArray) = .ok (goInt 1) ((w.drew.setRow g M.toArray).setRow g N.toArray) := fun ty dc => by
    have hmin : Nat.min 1 (n + 1 - i) = 1 := by simp only [Nat.min_def]; split <;> omega
    have := run_copy_wk (P := Tryz.prog) (w.drew.setRow g M.toArray) 230 230 ty 268 g (i * 3) (n + 1 - i) dc ⟨vb, 0, none⟩ 1 1 M 268 cs Tryz.underlying230 3 Tryz.sizeE hR1 (by rw [hmin]; omega) (src_row hv1) (by simp [hML]; omega) h2
    rw [hmin, hcs] at this
    rw [hN]
    exact this
  have hfin : InsPost 268 3 w ((w.drew.setRow g M.toArray).setRow g N.toArray) (some ⟨g, 0, none⟩) n (xs.take (i * 3) ++ cs ++ xs.drop (i * 3)) (.returned (.slice (some ⟨g, 0, none⟩) (n + 1) cap)) :=
    ⟨_, cap, rfl, osl_of_row (hR1.setRow N) 3 (n + 1) cap hroom hm hNL hNt, (((((Ext.refl w).drew).kp (fun k => blkOf (some ⟨g, 0, none⟩) = some k)).setRow rfl _).setRow rfl _), fun g hg => Or.inl hg⟩
  have HF : Hid _ := hfin
  have hb1 : (i : Int) ≤ (n : Int) := by omega
  have hb2 : ¬ ((i : Int) = (n : Int)) := by omega
  have hb3 : ¬ cap = i := by omega
  have hb4 : ¬ cap = i + 1 := by omega
  have hb5 : (n : Int) + 1 ≤ (cap : Int) := by omega
  have hb6 : (i : Int) + 1 ≤ (n : Int) + 1 := by omega
  have hb7 : ((i : Int) + 1).toNat = i + 1 := by omega
  have hin : i ≤ n := by omega
  have hb0 : (0 : Int) ≤ (i : Int) + 1 := by omega
  have hb8 : (i : Int) ≤ (n : Int) + 1 := by omega
  have hb9 : i ≤ n + 1 := by omega
  have hw1 : IntKind.i64.wrap ((i : Int) + 1) = (i : Int) + 1 := by rw [IntKind.wrap_i64]; omega
  have hc63 : cap ≤ 9223372036854775807 := by unfold maxLen at hm; omega
  clear hfin hNt hNL hN hR1 hv1 hML hM hx hxl hRd hR hv hm hL h1
  go_enter Tryz.func232, Tryz.ntmps232
  go_wp2_with (simp only [hov])
  go_region_law (refine step_copy_runI rfl _ _ 230 230 rfl (.slice (some ⟨g, (i + 1) * 3, none⟩) (n + 1 - (i + 1)) (cap - (i + 1))) (.slice (some ⟨g, i * 3, none⟩) (n + 1 - i) (cap - i)) (by simp [Act.eval, Act.put]) (by simp [Act.eval, Act.put]) (hcp1 3 (cap - (i + 1)) (cap - i)) ?_)
  go_wp2_with (at_builtin; refine wpList_copy_runI _ rfl _ _ 230 230 rfl _ _ rfl rfl (hcp2 _ _) ?_)
  go_ret
  exact HF.out

theorem ins_growE (R xs ab : List Value) (n i : Nat) (hi : i < n) (hR : n * 3 + 3 ≤ R.length) (hx : R.take (i * 3) = xs.take (i * 3)) (hxl : xs.length = n * 3) (hab : ab.length = 3) :
    let M := R.take (i * 3) ++ ab ++ R.drop (i * 3 + 3)
    (M.take ((i + 1) * 3) ++ xs.drop (i * 3) ++ M.drop ((i + 1) * 3 + (xs.drop (i * 3)).length)).take ((n + 1) * 3) = xs.take (i * 3) ++ ab ++ xs.drop (i * 3) := by
  intro M
  have e1 : M.take ((i + 1) * 3) = xs.take (i * 3) ++ ab := by
    simp only [M]
    rw [List.take_left' (by simp [hab]; omega), hx]
  rw [e1, List.take_left' (by simp [hab, hxl]; omega)]

set_option maxHeartbeats 1600000 in
set_option maxRecDepth 100000 in
theorem insert_growE (g n cap i : Nat) (L xs : List Value) (vb : Nat) (cs : List Value) (w : World) (hR : Row w g 268 L) (hx : L.take (n * 3) = xs) (hLl : n * 3 ≤ L.length) (hi : i < n) (hnc : n ≤ cap) (hroom : cap < n + 1) (hn : n ≤ 999) (hv : Row w vb 268 cs) (h2 : ∀ u ∈ cs, u.oneCell' = true) (hcs : cs.length = 3) (h1 : ∀ v ∈ xs, v.oneCell' = true) :
    Calls Tryz.prog 232 #[.slice (some ⟨g, 0, none⟩) n cap, .int .i64 i, .slice (some ⟨vb, 0, none⟩) 1 1] w fun e w' => InsPost 268 3 w w' (some ⟨g, 0, none⟩) n (xs.take (i * 3) ++ cs ++ xs.drop (i * 3)) e := by
  have hxl : xs.length = n * 3 := by rw [← hx]; simp; omega
  obtain ⟨i0, hi0, hz0, hzs, hzb⟩ := info_parts Tryz.infoE
  have hgl := hR.lt
  have hvl := hv.lt
  have hsrcx : ∀ j v, xs[j]? = some v → L[j]? = some v := fun j v hj => by
    rw [← hx, List.getElem?_take] at hj
    split at hj
    · exact hj
    · cases hj
  have hold : (Builtin.firstCells i0.size i (.slice (some ⟨g, 0, none⟩) i cap)).run Tryz.prog w.drew = .ok (xs.take (i * 3)).toArray w.drew := by
    rw [hzs]
    exact run_firstCells_some w.drew 3 i ⟨g, 0, none⟩ i cap (xs.take (i * 3)) (by rw [List.length_take]; omega) (fun j v hj => by
      rw [add_lt]
      rw [List.getElem?_take] at hj
      split at hj
      · exact (show Row w.drew g 268 L from hR).at (hsrcx j v hj)
      · cases hj)
  have hkk : (n : Int) + 1 - (i : Int) = ((n + 1 - i : Nat) : Int) := by omega
  have hik : i + (n + 1 - i) = n + 1 := by omega
  obtain ⟨G, hG⟩ : ∃ G, G = grownCap w (n + 1) cap 268 := ⟨_, rfl⟩
  obtain ⟨R, hRR⟩ : ∃ R : List Value, R.toArray = (xs.take (i * 3)).toArray ++ Builtin.zeroCells (Value.agg #[.int .i64 0, .slice none 0 0, .pointer none]).cells (n + 1 - i) ++ Builtin.zeroCells (Value.agg #[.int .i64 0, .slice none 0 0, .pointer none]).cells (G - (n + 1)) := ⟨_, Array.toArray_toList⟩
  have hrz : ∀ ty, (Builtin.append_ #[230, 3] ty #[.slice (some ⟨g, 0, none⟩) i cap, .int .i64 ((n : Int) + 1 - (i : Int))]).run Tryz.prog w = .ok (.slice (some ⟨w.heap.size, 0, none⟩) (n + 1) G) (w.drew.alloc (.cells R.toArray 268)) := fun ty => by
    have h := Lib.run_append_grow_zeros (P := Tryz.prog) w 230 3 ty 268 i0 _ .i64 .i64 Tryz.underlying230 Tryz.underlying3 hi0 hz0 (some ⟨g, 0, none⟩) i cap (xs.take (i * 3)) hold (n + 1 - i) (by omega) (by omega) (by omega) (by omega) (by rw [hzb]; omega) (by rw [hzb, hik]; exact growslice_fits hroom (by omega))
    rw [hik, ← hG, ← hRR] at h
    rw [hkk]
    exact h
  have hGn : n + 1 ≤ G := by rw [hG]; exact grownCap_ge w _ _ _
  have hG63 : G ≤ maxLen := by
    rw [hG]; exact grownCap_le_maxLen w (n + 1) cap 268 (by unfold maxLen; omega)
  have hG63' : G ≤ 9223372036854775807 := by unfold maxLen at hG63; omega
  have hRl : R.length = G * 3 := by
    have := congrArg Array.size hRR
    simp [Builtin.zeroCells, Value.cells, hxl] at this
    omega
  have hRt : R.take (i * 3) = xs.take (i * 3) := by
    have := congrArg (fun x => x.toList.take (i * 3)) hRR
    simp only [Array.toList_append] at this
    rw [this, List.append_assoc, List.take_left' (by simp; omega)]
  obtain ⟨M, hM⟩ : ∃ M, M = R.take (i * 3) ++ cs ++ R.drop (i * 3 + 3) := ⟨_, rfl⟩
  have hML : M.length = G * 3 := by rw [hM]; simp [hRl]; omega
  obtain ⟨N, hN⟩ : ∃ N, N = M.take ((i + 1) * 3) ++ xs.drop (i * 3) ++ M.drop ((i + 1) * 3 + (xs.drop (i * 3)).length) := ⟨_, rfl⟩
  have hNL : N.length = G * 3 := by rw [hN]; simp [hML, hxl]; omega
  have hNt : N.take ((n + 1) * 3) = xs.take (i * 3) ++ cs ++ xs.drop (i * 3) := by
    rw [hN, hM]; exact ins_growE R xs cs n i hi (by omega) hRt hxl hcs
  have hcpA : ∀ W, Row W w.heap.size 268 R → Row W vb 268 cs → ∀ ty dc, (Builtin.copy_ #[230, 230] ty #[.slice (some ⟨w.heap.size, i * 3, none⟩) (n + 1 - i) dc, .slice (some ⟨vb, 0, none⟩) 1 1]).run Tryz.prog W = .ok (goInt 1) (W.setRow w.heap.size M.toArray) := fun W r1 r2 ty dc => by
    have hmin : Nat.min 1 (n + 1 - i) = 1 := by simp only [Nat.min_def]; split <;> omega
    have := run_copy_wk (P := Tryz.prog) W 230 230 ty 268 w.heap.size (i * 3) (n + 1 - i) dc ⟨vb, 0, none⟩ 1 1 R 268 cs Tryz.underlying230 3 Tryz.sizeE r1 (by rw [hmin]; omega) (src_row r2) (by simp [hRl]; omega) h2
    rw [hmin, hcs] at this
    rw [hM]
    exact this
  have hcpB : ∀ W, Row W w.heap.size 268 M → Row W g 268 L → ∀ ty dc sc, (Builtin.copy_ #[230, 230] ty #[.slice (some ⟨w.heap.size, (i + 1) * 3, none⟩) (n + 1 - (i + 1)) dc, .slice (some ⟨g, i * 3, none⟩) (n - i) sc]).run Tryz.prog W = .ok (goInt ((n - i : Nat) : Int)) (W.setRow w.heap.size N.toArray) := fun W r1 r2 ty dc sc => by
    have hmin : Nat.min (n - i) (n + 1 - (i + 1)) = n - i := by simp only [Nat.min_def]; split <;> omega
    have := run_copy_wk (P := Tryz.prog) W 230 230 ty 268 w.heap.size ((i + 1) * 3) (n + 1 - (i + 1)) dc ⟨g, i * 3, none⟩ (n - i) sc M 268 (xs.drop (i * 3)) Tryz.underlying230 3 Tryz.sizeE r1 (by rw [hmin]; simp [hxl]; omega)
      (fun j v hj => by
        rw [add_at]
        rw [List.getElem?_drop] at hj
        exact r2.at (hsrcx _ v hj)) (by simp [hxl, hML]; omega) (fun v hv => h1 v (List.mem_of_mem_drop hv))
    rw [hmin, ← hN] at this
    exact this
  obtain ⟨W1, hW1⟩ : ∃ W1 : World, W1 = (w.alloc (.cells R.toArray 268)).drew := ⟨_, rfl⟩
  have hE1 : Ext w W1 := by rw [hW1]; exact ((Ext.refl w).alloc _).drew
  have r1 : Row W1 w.heap.size 268 R := by
    rw [hW1]; exact (show Row (w.alloc (.cells R.toArray 268)) w.heap.size 268 R from row_alloc _ _ _ _ _ rfl rfl)
  have rA := hcpA W1 r1 (hv.ext hE1)
  have r2 : Row (W1.setRow w.heap.size M.toArray).drew w.heap.size 268 M := r1.setRow M
  have r3 : Row (W1.setRow w.heap.size M.toArray).drew g 268 L := (show Row (W1.setRow w.heap.size M.toArray) g 268 L from ((Kp.refl (fun k => k = w.heap.size) W1).setRow rfl _).row (hR.ext hE1) (by omega))
  have rB := hcpB _ r2 r3
  have hfin : InsPost 268 3 w (((W1.setRow w.heap.size M.toArray).drew).setRow w.heap.size N.toArray) (some ⟨g, 0, none⟩) n (xs.take (i * 3) ++ cs ++ xs.drop (i * 3)) (.returned (.slice (some ⟨w.heap.size, 0, none⟩) (n + 1) G)) := by
    refine ⟨_, G, rfl, osl_of_row (r2.setRow N) 3 (n + 1) G hGn hG63 hNL hNt, ?_, fun g' hg' => by cases hg'; exact Or.inr (Nat.le_refl _)⟩
    have k1 : Ext w (W1.setRow w.heap.size M.toArray) := hE1.kpFresh ((Kp.refl (fun k => k = w.heap.size) W1).setRow rfl _) (Nat.le_refl _)
    exact (Ext.kpFresh k1.drew ((Kp.refl (fun k => k = w.heap.size) _).setRow rfl _) (Nat.le_refl _)).kp _
  subst hW1
  have HF : Hid _ := hfin
  have hb1 : (i : Int) ≤ (n : Int) := by omega
  have hb2 : ¬ ((i : Int) = (n : Int)) := by omega
  have hb3 : ¬ cap = i := by omega
  have hb4 : ¬ G = i + 1 := by omega
  have hb10 : ¬ G = i := by omega
  have hb5 : (cap : Int) < (n : Int) + 1 := by omega
  have hb6 : (i : Int) + 1 ≤ (n : Int) + 1 := by omega
  have hb7 : ((i : Int) + 1).toNat = i + 1 := by omega
  have hin : i ≤ n := by omega
  have hb0 : (0 : Int) ≤ (i : Int) + 1 := by omega
  have hb8 : (i : Int) ≤ (n : Int) + 1 := by omega
  have hb9 : i ≤ n + 1 := by omega
  have hw1 : IntKind.i64.wrap ((i : Int) + 1) = (i : Int) + 1 := by rw [IntKind.wrap_i64]; omega
  clear hfin hcpA hcpB r1 r2 r3 hE1 hNt hNL hN hML hM hx hxl hR hv h1 hRt hRl hRR hG hold hkk hik hsrcx hi0 hz0 hzs hzb
  go_enter Tryz.func232, Tryz.ntmps232
  go_wp2_with (first
    | (at_builtin; refine Lib.wpList_append_run _ rfl _ _ _ _ rfl _ _ rfl rfl _ _ (hrz _) ?_)
    | (refine wpList_copy_runI _ rfl _ _ 230 230 rfl _ _ rfl rfl (rA _ _) ?_))
  go_region_law (refine step_copy_runI rfl _ _ 230 230 rfl (.slice (some ⟨w.heap.size, (i + 1) * 3, none⟩) (n + 1 - (i + 1)) (G - (i + 1))) (.slice (some ⟨g, i * 3, none⟩) (n - i) (cap - i)) (by simp [Act.eval, Act.put]) (by simp [Act.eval, Act.put]) (rB 3 (G - (i + 1)) (cap - i)) ?_)
  go_wp2
  go_ret
  exact HF.out
theorem insert_anyE (fa : Option Addr) (n cap i : Nat) (xs : List Value) (vb : Nat) (cs : List Value) (w : World) (hO : OSl w 268 3 fa n cap xs) (hi : i ≤ n) (hn : n ≤ 999) (hv : Row w vb 268 cs) (hne : ¬ blkOf fa = some vb) (h2 : ∀ u ∈ cs, u.oneCell' = true) (hcs : cs.length = 3) (h1 : ∀ v ∈ xs, v.oneCell' = true) :
    Calls Tryz.prog 232 #[.slice fa n cap, .int .i64 i, .slice (some ⟨vb, 0, none⟩) 1 1] w fun e w' => InsPost 268 3 w w' fa n (xs.take (i * 3) ++ cs ++ xs.drop (i * 3)) e := by
  have hxl := hO.len
  rcases Nat.lt_or_ge i n with h | h
  · obtain ⟨g, L, rfl, hR, hnc, hm, hL, hx⟩ := row_of_osl hO (by omega)
    rcases Nat.lt_or_ge cap (n + 1) with h' | h'
    · exact insert_growE g n cap i L xs vb cs w hR hx (by omega) h hnc h' hn hv h2 hcs h1
    · exact insert_roomE g n cap i L xs vb cs w hR hL hm hx h h' hn hv (fun e => hne (by rw [e]; rfl)) h2 hcs h1
  · obtain rfl : i = n := by omega
    have hcap : (i : Int) ≤ cap := by
      rcases hO.form with ⟨_, h0, h1, _⟩ | ⟨_, _, _, _, h1, _⟩ <;> omega
    rw [List.take_of_length_le (by omega), List.drop_of_length_le (by omega), List.append_nil]
    exact insert_endE fa i cap xs vb cs w hO hn hv h2 hcs hcap
end Go.Proofs.YtpbblaeamddbgaaGreat
namespace Go.Proofs.YtpbblaeamddbgaaGreat
open Go.RowKit

/-- What an edge asks: nothing, some conditions, or one value. -/
def askI : List Cd → Int
  | [] => 0
  | [c] => if c.kind == 1 then 2 else 1
  | _ => 1
def ceE (x y : List Cd) : Int := orI (cmpI (askI x) (askI y)) (cmpL cmpCd x y)
theorem ceE_ord : TOrd ceE := TOrd.lex askI (fun x => x) cmpI_ord cmpCd_ord.list (fun _ _ _ h => h)

theorem cmpL_drop {α : Type} {c : α → α → Int} : ∀ (k : Nat) (xs ys : List α), k ≤ xs.length → k ≤ ys.length → (∀ j (hx : j < xs.length) (hy : j < ys.length), j < k → c xs[j] ys[j] = 0) → cmpL c xs ys = cmpL c (xs.drop k) (ys.drop k)
  | 0, xs, ys, _, _, _ => by simp
  | k + 1, [], _, h, _, _ => by simp at h
  | k + 1, _ :: _, [], _, h, _ => by simp at h
  | k + 1, x :: xs, y :: ys, h1, h2, h => by
    have h0 : c x y = 0 := h 0 (by simp) (by simp) (by omega)
    rw [List.drop_succ_cons, List.drop_succ_cons, ← cmpL_drop k xs ys (by simpa using h1) (by simpa using h2) (fun j hx hy hj => h (j + 1) (by simpa using hx) (by simpa using hy) (by omega))]
    simp [cmpL, h0, orI]

set_option maxHeartbeats 400000 in
theorem cmpA_any (x y : Int) (w : World) :
    Calls Tryz.prog 243 #[.int .i64 x, .int .i64 y] w fun e w' => e = .returned (.int .i64 (cmpI x y)) ∧ w' = w := by
  go_enter Tryz.func243, Tryz.ntmps243
  go_wp2
  all_goals
    go_ret
    exact ⟨ret_int (by simp only [cmpI]; split <;> (try split) <;> omega), rfl⟩

set_option maxHeartbeats 800000 in
theorem compareFunc_any (ao bo : Option Addr) (cap bcap : Nat) (xs ys : List Cd) (w : World) (_hx8 : xs.length ≤ 8) (_hy8 : ys.length ≤ 8) (hx : Cxs w ao xs) (hy : Cxs w bo ys) :
    Calls Tryz.prog 244 #[.slice ao xs.length cap, .slice bo ys.length bcap, .func (Fn.func 94) #[] #[]] w fun e w' => e = .returned (.int .i64 (cmpL cmpCd xs ys)) ∧ Ext w w' := by
  go_enter Tryz.func244, Tryz.ntmps244
  go_wp2
  go_loopw [13] (fun i wr => ∃ k : Nat, k ≤ xs.length ∧ k ≤ ys.length ∧ i = .int .i64 k ∧ (∀ j (hx : j < xs.length) (hy : j < ys.length), j < k → cmpCd xs[j] ys[j] = 0) ∧ Ext w wr) (fun i _ => xs.length - (intOf i).toNat)
  case atStart => exact ⟨0, Nat.zero_le _, Nat.zero_le _, rfl, fun j _ _ h => absurd h (Nat.not_lt_zero _), Ext.refl _⟩
  case round =>
    obtain ⟨k, hk1, hk2, rfl, hall, hE⟩ := hrel
    have HD : Hid (cmpL cmpCd xs ys = cmpL cmpCd (xs.drop k) (ys.drop k)) := cmpL_drop k xs ys hk1 hk2 hall
    have HA : Hid (∀ j (hx : j < xs.length) (hy : j < ys.length), j < k → cmpCd xs[j] ys[j] = 0) := hall
    clear hall
    by_cases h1 : k < xs.length
    · obtain ⟨b, o, rfl, hX⟩ := hx (by omega)
      obtain ⟨c0, c1, c2, c3, c4, c5⟩ := hX.ext hE k h1
      by_cases h2 : k < ys.length
      · obtain ⟨b', o', rfl, hY⟩ := hy (by omega)
        have hal0 : ∀ ob, Ext wr (wr.alloc ob) := fun ob => (Ext.refl wr).alloc ob
        obtain ⟨d0, d1, d2, d3, d4, d5⟩ := hY.ext hE k h2
        have e0 : ∀ ob, (wr.alloc ob).cell? _ = _ := fun ob => (hal0 ob).cell d0
        have e1 : ∀ ob, (wr.alloc ob).cell? _ = _ := fun ob => (hal0 ob).cell d1
        have e2 : ∀ ob, (wr.alloc ob).cell? _ = _ := fun ob => (hal0 ob).cell d2
        have e3 : ∀ ob, (wr.alloc ob).cell? _ = _ := fun ob => (hal0 ob).cell d3
        have e4 : ∀ ob, (wr.alloc ob).cell? _ = _ := fun ob => (hal0 ob).cell d4
        have e5 : ∀ ob, (wr.alloc ob).cell? _ = _ := fun ob => (hal0 ob).cell d5
        have HS : Hid (cmpL cmpCd xs ys = orI (cmpCd xs[k] ys[k]) (cmpL cmpCd (xs.drop (k + 1)) (ys.drop (k + 1)))) := by
          show _ = _
          rw [HD.out, List.drop_eq_getElem_cons h1, List.drop_eq_getElem_cons h2]; rfl
        have HZ : Hid (cmpCd xs[k] ys[k] = 0 → ∀ j (hx : j < xs.length) (hy : j < ys.length), j < k + 1 → cmpCd xs[j] ys[j] = 0) := fun h j hx hy hj => by
          rcases Nat.lt_or_ge j k with h' | h'
          · exact HA.out j hx hy h'
          · obtain rfl : j = k := by omega
            exact h
        have HE : Hid (Ext w wr) := hE
        clear d0 d1 d2 d3 d4 d5 hX hY hx hy hE HD HA hal0
        generalize xs[k] = x at *
        generalize ys[k] = y at *
        go_wp2_with (go_at_call 94; refine (compareConds_any x y _).mono ?_; rintro e w1 ⟨rfl, hb⟩)
        · rename_i hne
          go_ret
          exact ⟨ret_int (by rw [HS.out]; unfold orI; rw [if_neg]; simpa using hne), (((HE.out.alloc _).alloc _).trans hb.1)⟩
        · rename_i hne
          go_roundw
          case rel => exact ⟨k + 1, by omega, by omega, by go_num, HZ.out (by simpa using hne), ((HE.out.alloc _).alloc _).trans hb.1⟩
          case measure => simp [intOf]; omega
      · have HR : Hid (cmpL cmpCd xs ys = 1) := by
          show _ = _
          rw [HD.out, List.drop_eq_getElem_cons h1, List.drop_of_length_le (l := ys) (by omega)]; rfl
        clear hx hy HD HA hX
        go_wp2
        go_ret
        exact ⟨ret_int HR.out.symm, hE.alloc _⟩
    · have HR : Hid (cmpL cmpCd xs ys = if xs.length < ys.length then -1 else 0) := by
        show _ = _
        rw [HD.out, List.drop_of_length_le (show xs.length ≤ k by omega)]
        by_cases h2 : k < ys.length
        · rw [List.drop_eq_getElem_cons h2, if_pos (by omega)]; rfl
        · rw [List.drop_of_length_le (by omega), if_neg (by omega)]; rfl
      clear hx hy HD HA
      go_wp2
      all_goals
        rename_i hlt
        go_ret
        refine ⟨ret_int ?_, hE⟩
        rw [HR.out]
        first | rw [if_pos (by omega)] | rw [if_neg (by omega)]

set_option maxHeartbeats 800000 in
theorem compareEdges_any (ao bo po qo : Option Addr) (cap bcap : Nat) (xs ys : List Cd) (w : World) (hx8 : xs.length ≤ 8) (hy8 : ys.length ≤ 8) (hx : Cxs w ao xs) (hy : Cxs w bo ys) :
    Calls Tryz.prog 231 #[.agg #[.int .i64 (askI xs), .slice ao xs.length cap, .pointer po], .agg #[.int .i64 (askI ys), .slice bo ys.length bcap, .pointer qo]] w fun e w' => e = .returned (.int .i64 (ceE xs ys)) ∧ Ext w w' := by
  have hneg : Hid (ceE xs ys = orI (cmpI (askI xs) (askI ys)) (cmpL cmpCd xs ys)) := rfl
  have HCF : Hid (∀ W, Ext w W → Calls Tryz.prog 244 #[.slice ao xs.length cap, .slice bo ys.length bcap, .func (Fn.func 94) #[] #[]] W fun e w' => e = .returned (.int .i64 (cmpL cmpCd xs ys)) ∧ Ext W w') := fun W h => compareFunc_any ao bo cap bcap xs ys W hx8 hy8 (hx.ext h) (hy.ext h)
  clear hx hy
  generalize ceE xs ys = cv at *
  generalize askI xs = ax at *
  generalize askI ys = ay at *
  generalize cmpL cmpCd xs ys = cl at *
  go_enter Tryz.func231, Tryz.ntmps231
  go_wp2_with fail
  go_region_held3 (fun w' => w'.cell? ⟨w.heap.size, 0, none⟩ = some (.int .i64 ax) ∧ w'.cell? ⟨w.heap.size, 1, none⟩ = some (.slice ao xs.length cap) ∧ w'.cell? ⟨w.heap.size + 1, 0, none⟩ = some (.int .i64 ay) ∧ w'.cell? ⟨w.heap.size + 1, 1, none⟩ = some (.slice bo ys.length bcap))
    (first | go_keep | (refine ⟨?_, ?_, ?_, ?_⟩ <;> exact hbb.cell (by first | assumption | simp [*])))
    (first | (go_at_call 243; refine (cmpA_any _ _ _).mono ?_; rintro e w' ⟨rfl, rfl⟩) | (go_at_call 244; refine Calls.mono (HCF.out _ (by exact ((((Ext.refl w).alloc _).alloc _).drew))) ?_; rintro e w' ⟨rfl, hbb⟩) | (go_at_call 139; refine (or_any _ _ (cmpI ax ay) cl _ (by exact cell_new _ _ _ _ _ rfl rfl) (by exact cell_new _ _ _ _ _ rfl rfl)).mono ?_; rintro e w' ⟨rfl, rfl⟩))
  go_wp2
  go_ret
  exact ⟨ret_int hneg.out.symm, (((((Ext.refl w).alloc _).alloc _).drew).trans hbb).alloc _⟩

set_option maxHeartbeats 400000 in
theorem askOf_any (ao : Option Addr) (cap : Nat) (xs : List Cd) (w : World) (_h8 : xs.length ≤ 8) (hx : Cxs w ao xs) :
    Calls Tryz.prog 229 #[.slice ao xs.length cap] w fun e w' => e = .returned (.int .i64 (askI xs)) ∧ w' = w := by
  match xs, hx, _h8 with
  | [], _, _ =>
    go_enter Tryz.func229, Tryz.ntmps229
    go_wp2
    go_ret
    exact ⟨rfl, rfl⟩
  | [c], hx, _ =>
    obtain ⟨b, o, rfl, hD⟩ := hx (by simp)
    obtain ⟨_, c1, _⟩ := hD 0 (by simp)
    simp only [List.getElem_cons_zero] at c1
    have HR : Hid (askI [c] = if c.kind == 1 then 2 else 1) := rfl
    clear hD hx
    generalize askI [c] = r at *
    generalize c.kind = k at *
    by_cases hk : k = 1
    · subst hk
      go_enter Tryz.func229, Tryz.ntmps229
      go_wp2
      go_ret
      exact ⟨ret_int HR.out.symm, rfl⟩
    · have hkb : (k == 1) = false := by simpa using hk
      go_enter Tryz.func229, Tryz.ntmps229
      go_wp2
      go_ret
      exact ⟨ret_int (by rw [HR.out, hkb]; rfl), rfl⟩
  | x :: y :: r, _, h =>
    have hl : (x :: y :: r).length = r.length + 2 := rfl
    have h0 : ((r.length : Int) + 2 == 0) = false := by simp; omega
    have h1 : ((r.length : Int) + 2 == 1) = false := by simp; omega
    rw [hl]
    go_enter Tryz.func229, Tryz.ntmps229
    go_wp2
    go_ret
    exact ⟨rfl, rfl⟩
end Go.Proofs.YtpbblaeamddbgaaGreat
namespace Go.Proofs.YtpbblaeamddbgaaGreat
open Go.RowKit

theorem on_succ (a : Int) (l : List Cd) (k : Nat) (hk : k < l.length) : onA Cd.attr a (l.take (k + 1)) = if l[k].attr == a then onA Cd.attr a (l.take k) ++ [l[k]] else onA Cd.attr a (l.take k) := by
  unfold onA
  rw [List.take_succ_eq_append_getElem hk, List.filter_append]
  by_cases h : (l[k].attr == a) = true
  · rw [if_pos h]; simp [h]
  · rw [if_neg h]; simp [h]
theorem on_le (a : Int) (l : List Cd) (k : Nat) : (onA Cd.attr a (l.take k)).length ≤ k := by
  unfold onA
  exact Nat.le_trans (List.length_filter_le _ _) (List.length_take_le _ _)
theorem osl_cxs {w : World} {ao : Option Addr} {cap : Nat} {l : List Cd} (h : OSl w 80 6 ao l.length cap (l.flatMap Cd.cells)) : Cxs w ao l := fun hp => by
  obtain ⟨g, L, rfl, hR, _, _, hL, hx⟩ := row_of_osl h hp
  refine ⟨g, 0, rfl, fun j hj => ?_⟩
  have hat : ∀ r v, r < 6 → (l[j].cells)[r]? = some v → w.cell? ⟨g, 0 + j * 6 + r, none⟩ = some v := fun r v hr hv => by
    rw [Nat.zero_add]
    refine hR.at ?_
    have h1 := flat_at Cd.cells 6 (fun _ => rfl) l j r hj hr
    rw [← hx, List.getElem?_take] at h1
    rw [if_pos (by omega)] at h1
    rw [h1]; exact hv
  exact ⟨hat 0 _ (by omega) rfl, hat 1 _ (by omega) rfl, hat 2 _ (by omega) rfl, hat 3 _ (by omega) rfl, hat 4 _ (by omega) rfl, hat 5 _ (by omega) rfl⟩
theorem six_new (W : World) (T : TypeId) (c : Cd) (b : Nat) (hb : b = W.heap.size) : ∀ j u, c.cells[j]? = some u → (W.alloc (.cells #[.int .i64 c.attr, .int .i64 c.kind, .int .i64 c.a.n, .string c.a.s, .int .i64 c.b.n, .string c.b.s] T)).cell? ((⟨b, 0, none⟩ : Addr).add j) = some u := by
  intro j u hj
  rw [add_lt]
  exact cell_new W _ T _ j hb (by simpa [Cd.cells] using hj)
theorem cdc_one (c : Cd) : ∀ v ∈ c.cells, v.oneCell' = true := by
  intro v hv
  simp only [Cd.cells, List.mem_cons, List.not_mem_nil, or_false] at hv
  rcases hv with rfl | rfl | rfl | rfl | rfl | rfl <;> rfl

set_option maxHeartbeats 800000 in
theorem on_any (id : Int) (ao : Option Addr) (cap : Nat) (l : List Cd) (a : Int) (w : World) (_hl : l.length ≤ 8) (hc : Cxs w ao l) :
    Calls Tryz.prog 201 #[.agg #[.int .i64 id, .slice ao l.length cap], .int .i64 a] w fun e w' => ∃ ro rcap, e = .returned (.slice ro (onA Cd.attr a l).length rcap) ∧ OSl w' 80 6 ro (onA Cd.attr a l).length rcap ((onA Cd.attr a l).flatMap Cd.cells) ∧ (∀ g, blkOf ro = some g → w.heap.size ≤ g) ∧ Ext w w' := by
  go_enter Tryz.func201, Tryz.ntmps201
  go_wp2
  go_loopw [5, 11] (fun v i wr => ∃ (ro : Option Addr) (rcap : Nat) (k : Nat), k ≤ l.length ∧ i = .int .i64 k ∧ v = .slice ro (onA Cd.attr a (l.take k)).length rcap ∧ OSl wr 80 6 ro (onA Cd.attr a (l.take k)).length rcap ((onA Cd.attr a (l.take k)).flatMap Cd.cells) ∧ (∀ g, blkOf ro = some g → w.heap.size ≤ g) ∧ Ext w wr) (fun _ i _ => l.length - (intOf i).toNat)
  case atStart => exact ⟨none, 0, 0, Nat.zero_le _, rfl, rfl, OSl.nil _ _ _, (fun g hg => by cases hg), (Ext.refl _).alloc _⟩
  case round =>
    obtain ⟨ro, rcap, k, hk, rfl, rfl, hown, hnew, hEr⟩ := hrel
    have HN : Hid (∀ g, blkOf ro = some g → w.heap.size ≤ g) := hnew
    have hml := on_le a l k
    clear hnew
    by_cases hlt : k < l.length
    · have hs : Hid _ := on_succ a l k hlt
      obtain ⟨b, o, rfl, hD⟩ := hc (by omega)
      obtain ⟨c0, c1, c2, c3, c4, c5⟩ := hD.ext hEr k hlt
      clear hc hD
      generalize l[k] = c at *
      by_cases hca : (c.attr == a) = true
      · have hs2 : Hid (onA Cd.attr a (l.take (k + 1)) = onA Cd.attr a (l.take k) ++ [c]) := by show _ = _; rw [hs.out, if_pos hca]
        clear hs
        generalize onA Cd.attr a (l.take k) = mi at *
        go_wp2_with (at_builtin; go_must (refine wpList_app rfl (.tmp 19) (.tmp 21) 26 rfl 80 (.agg #[.int .i64 0, .int .i64 0, .int .i64 0, .string ⟨#[]⟩, .int .i64 0, .string ⟨#[]⟩]) 6 64 Tryz.underlying26 Tryz.infoCd rfl (by decide) ro mi.length rcap _ rfl (OSl.ext hown (((Ext.refl _).alloc _).alloc _)) (some ⟨wr.heap.size + 1, 0, none⟩) 1 1 c.cells rfl (by intro h; cases h) rfl (fun _ => ⟨_, rfl, six_new _ _ _ _ (by simp)⟩) (cdc_one c) (by unfold maxLen; omega) (by omega) ?_; intro ro3 rcap3 w3 hown3 hk3 hat3))
        go_roundw
        case rel =>
          refine ⟨ro3, rcap3, k + 1, by omega, by go_num, by rw [hs2.out]; simp, ?_, fresh2 (((hEr.alloc _).alloc _).le) HN.out hat3, ((hEr.alloc _).alloc _).kpNew hk3 HN.out⟩
          rw [hs2.out]
          simpa using hown3
        case measure => simp [intOf]; omega
      · have hs2 : Hid (onA Cd.attr a (l.take (k + 1)) = onA Cd.attr a (l.take k)) := by show _ = _; rw [hs.out, if_neg hca]
        have hcf : (c.attr == a) = false := by simpa using hca
        clear hs hca
        generalize onA Cd.attr a (l.take k) = mi at *
        go_wp2
        go_roundw
        case rel => exact ⟨ro, rcap, k + 1, by omega, by go_num, by rw [hs2.out], by rw [hs2.out]; exact hown.ext ((Ext.refl _).alloc _), HN.out, hEr.alloc _⟩
        case measure => simp [intOf]; omega
    · have hfin : Hid (l.take k = l) := List.take_of_length_le (by omega)
      rw [hfin.out] at hown hml ⊢
      clear hc
      go_wp2
      go_ret
      exact ⟨ro, rcap, rfl, hown, HN.out, hEr⟩
end Go.Proofs.YtpbblaeamddbgaaGreat
namespace Go.Proofs.YtpbblaeamddbgaaGreat
open Go.RowKit

/-- An edge as it lies in memory: its conditions, where they lie, the node to which it leads. -/
structure EdR where
  conds : List Cd
  ao : Option Addr
  cap : Nat
  to : Nat
def EdR.cells (e : EdR) : List Value := [.int .i64 (askI e.conds), .slice e.ao e.conds.length e.cap, .pointer (some ⟨e.to, 0, none⟩)]
theorem edr_at (es : List EdR) (k : Nat) (hk : k < es.length) : (es.flatMap EdR.cells)[k * 3]? = some (.int .i64 (askI es[k].conds)) ∧ (es.flatMap EdR.cells)[k * 3 + 1]? = some (.slice es[k].ao es[k].conds.length es[k].cap) ∧ (es.flatMap EdR.cells)[k * 3 + 2]? = some (.pointer (some ⟨es[k].to, 0, none⟩)) :=
  ⟨flat_at EdR.cells 3 (fun _ => rfl) es k 0 hk (by omega), flat_at EdR.cells 3 (fun _ => rfl) es k 1 hk (by omega), flat_at EdR.cells 3 (fun _ => rfl) es k 2 hk (by omega)⟩
theorem edr_one (es : List EdR) : ∀ v ∈ es.flatMap EdR.cells, v.oneCell' = true := by
  intro v hv
  obtain ⟨x, _, hx⟩ := List.mem_flatMap.1 hv
  simp only [EdR.cells, List.mem_cons, List.not_mem_nil, or_false] at hx
  rcases hx with rfl | rfl | rfl <;> rfl
theorem edr_len (es : List EdR) : (es.flatMap EdR.cells).length = es.length * 3 := flat_len EdR.cells 3 (fun _ => rfl) es

set_option maxHeartbeats 1600000 in
set_option maxRecDepth 100000 in
theorem bse_any (fa : Option Addr) (cap : Nat) (es : List EdR) (c : List Cd) (bo : Option Addr) (bcap : Nat) (q : Nat) (r : Bool) (w : World) (hO : OSl w 268 3 fa es.length cap (es.flatMap EdR.cells)) (hX : ∀ e ∈ es, Cxs w e.ao e.conds ∧ e.conds.length ≤ 8) (hC : Cxs w bo c) (hc8 : c.length ≤ 8) (_hf : es.length ≤ 1000) (hqn : q ≤ es.length) (hQ : ∀ h (hh : h < es.length), ceE es[h].conds c < 0 ↔ h < q) (hr : ∀ hq : q < es.length, (ceE es[q].conds c == 0) = r) (hr' : ¬ q < es.length → r = false) :
    Calls Tryz.prog 230 #[.slice fa es.length cap, .agg #[.int .i64 (askI c), .slice bo c.length bcap, .pointer none], .func (Fn.func 231) #[] #[]] w fun e w' => e = .returned (.tuple #[.int .i64 q, .bool r]) ∧ Ext w w' := by
  have HX : Hid (∀ W, Ext w W → ∀ m (hm : m < es.length), Calls Tryz.prog 231 #[.agg #[.int .i64 (askI es[m].conds), .slice es[m].ao es[m].conds.length es[m].cap, .pointer (some ⟨es[m].to, 0, none⟩)], .agg #[.int .i64 (askI c), .slice bo c.length bcap, .pointer none]] W fun e w' => e = .returned (.int .i64 (ceE es[m].conds c)) ∧ Ext W w') := fun W h m hm => compareEdges_any _ _ _ _ _ _ _ _ W (hX _ (List.getElem_mem hm)).2 hc8 ((hX _ (List.getElem_mem hm)).1.ext h) (hC.ext h)
  clear hX hC
  generalize askI c = ac at *
  have HQ : Hid (∀ h (hh : h < es.length), ceE es[h].conds c < 0 ↔ h < q) := hQ
  have HR : Hid (∀ hq : q < es.length, (ceE es[q].conds c == 0) = r) := hr
  have HR' : Hid (¬ q < es.length → r = false) := hr'
  clear hQ hr hr'
  obtain ⟨wb, hwb⟩ : ∃ wb, wb = w.alloc (.cells #[.int .i64 ac, .slice bo c.length bcap, .pointer none] 268) := ⟨_, rfl⟩
  have hEb : Ext w wb := by rw [hwb]; exact (Ext.refl _).alloc _
  have hB : Row wb w.heap.size 268 [.int .i64 ac, .slice bo c.length bcap, .pointer none] := by rw [hwb]; exact row_alloc _ _ _ _ _ rfl rfl
  have hOb := hO.ext hEb
  have HEb : Hid (Ext w wb) := hEb
  clear hEb hO
  go_enter Tryz.func230, Tryz.ntmps230
  go_wp2_with fail
  rw [← hwb]
  go_loopw [9, 10] (fun i j wr => ∃ a b : Nat, i = .int .i64 a ∧ j = .int .i64 b ∧ a ≤ q ∧ q ≤ b ∧ b ≤ es.length ∧ Ext wb wr) (fun i j _ => (intOf j).toNat - (intOf i).toNat)
  case atStart => exact ⟨0, es.length, rfl, rfl, Nat.zero_le _, hqn, Nat.le_refl _, Ext.refl _⟩
  case round =>
    obtain ⟨a, b, rfl, rfl, ha, hb, hbn, hE⟩ := hrel
    clear hwb
    have hBr := hB.ext hE
    have t0 := hBr.at (j := 0) rfl
    have t1 := hBr.at (j := 1) rfl
    have t2 := hBr.at (j := 2) rfl
    clear hBr hB
    by_cases hab : a < b
    · have hh : (a + b) / 2 < es.length := by omega
      have hq2 := HQ.out ((a + b) / 2) hh
      obtain ⟨p0, p1, p2⟩ := edr_at es ((a + b) / 2) hh
      have hOr := hOb.ext hE
      obtain ⟨g, rfl, e0⟩ := hOr.at p0
      obtain ⟨_, f1, e1⟩ := hOr.at p1
      cases f1
      obtain ⟨_, f1, e2⟩ := hOr.at p2
      cases f1
      clear hOr hOb p0 p1 p2
      generalize hm : (a + b) / 2 = m at *
      have HE : Hid (Ext wb wr) := hE
      have hq3 : Hid (ceE es[m].conds c < 0 ↔ m < q) := hq2
      clear hE hq2
      have hmi : (m : Int) < (es.length : Int) := by omega
      have hmi2 : ((a : Int) + (b : Int)) / 2 = (m : Int) := by omega
      have HXm : Hid _ := fun W h => HX.out W h m (by omega)
      generalize es[m].ao = eao at *
      generalize askI es[m].conds = ea at *
      generalize es[m].cap = ecap at *
      generalize es[m].to = eto at *
      generalize es[m].conds = ec at *
      go_wp2_with fail
      go_region_held3 (fun w' => w'.cell? ⟨g, m * 3, none⟩ = some (.int .i64 ea) ∧ w'.cell? ⟨g, m * 3 + 1, none⟩ = some (.slice eao ec.length ecap) ∧ w'.cell? ⟨g, m * 3 + 2, none⟩ = some (.pointer (some ⟨eto, 0, none⟩)) ∧ w'.cell? ⟨w.heap.size, 0, none⟩ = some (.int .i64 ac) ∧ w'.cell? ⟨w.heap.size, 1, none⟩ = some (.slice bo c.length bcap) ∧ w'.cell? ⟨w.heap.size, 2, none⟩ = some (.pointer none))
        (first | go_keep | (refine ⟨?_, ?_, ?_, ?_, ?_, ?_⟩ <;> exact hbb.cell (by assumption)))
        (first | (go_at_call 231; refine Calls.mono (HXm.out _ (by exact (HEb.out.trans HE.out).drew)) ?_; rintro e w' ⟨rfl, hbb⟩))
      rename_i hh2
      have hEE := (HE.out.trans (drewN_ext _ 1)).trans hbb
      clear hh2 e0 e1 e2 t0 t1 t2
      by_cases hlt : ceE ec c < 0
      · have hmq := hq3.out.1 hlt
        generalize ceE ec c = cv at *
        clear HR HR' HQ HE hq3
        go_wp2
        go_roundw
        case rel => exact ⟨m + 1, b, by go_num, rfl, by omega, hb, hbn, hEE⟩
        case measure => simp [intOf]; omega
      · have hmq : q ≤ m := by
          rcases Nat.lt_or_ge m q with h | h
          · exact absurd (hq3.out.2 h) hlt
          · exact h
        generalize ceE ec c = cv at *
        clear HR HR' HQ HE hq3
        go_wp2
        go_roundw
        case rel => exact ⟨a, m, rfl, rfl, by omega, by omega, by omega, hEE⟩
        case measure => simp [intOf]; omega
    · obtain rfl : a = q := by omega
      obtain rfl : b = a := by omega
      by_cases hqn' : b < es.length
      · have hrr := HR.out hqn'
        obtain ⟨p0, p1, p2⟩ := edr_at es b hqn'
        have hOr := hOb.ext hE
        obtain ⟨g, rfl, e0⟩ := hOr.at p0
        obtain ⟨_, f1, e1⟩ := hOr.at p1
        cases f1
        obtain ⟨_, f1, e2⟩ := hOr.at p2
        cases f1
        have HE : Hid (Ext wb wr) := hE
        have HRR : Hid ((ceE es[b].conds c == 0) = r) := hrr
        clear hOr hOb p0 p1 p2 hE hrr HQ HR HR'
        have hmi : (b : Int) < (es.length : Int) := by omega
        have HXm : Hid _ := fun W h => HX.out W h b (by omega)
        generalize es[b].ao = eao at *
        generalize askI es[b].conds = ea at *
        generalize es[b].cap = ecap at *
        generalize es[b].to = eto at *
        generalize es[b].conds = ec at *
        go_wp2_with fail
        go_region_held3 (fun w' => w'.cell? ⟨g, b * 3, none⟩ = some (.int .i64 ea) ∧ w'.cell? ⟨g, b * 3 + 1, none⟩ = some (.slice eao ec.length ecap) ∧ w'.cell? ⟨g, b * 3 + 2, none⟩ = some (.pointer (some ⟨eto, 0, none⟩)) ∧ w'.cell? ⟨w.heap.size, 0, none⟩ = some (.int .i64 ac) ∧ w'.cell? ⟨w.heap.size, 1, none⟩ = some (.slice bo c.length bcap) ∧ w'.cell? ⟨w.heap.size, 2, none⟩ = some (.pointer none))
          (first | go_keep | (refine ⟨?_, ?_, ?_, ?_, ?_, ?_⟩ <;> exact hbb.cell (by assumption)))
          (first | (go_at_call 231; refine Calls.mono (HXm.out _ (by exact (HEb.out.trans HE.out).drew)) ?_; rintro e w' ⟨rfl, hbb⟩))
        rename_i hh2
        have hEE := (HE.out.trans (drewN_ext _ 1)).trans hbb
        clear hh2 e0 e1 e2 t0 t1 t2
        generalize ceE ec c = cv at *
        go_wp2
        go_ret2
        exact ⟨by rw [← HRR.out]; simp [BEq.beq], HEb.out.trans hEE⟩
      · have hrr := HR'.out hqn'
        subst hrr
        clear HQ HR HR' hOb
        have HE : Hid (Ext wb wr) := hE
        clear hE
        have hmi : ¬ (b : Int) < (es.length : Int) := by omega
        go_wp2_with fail
        go_quiet (fail)
        go_wp2
        go_ret2
        exact ⟨rfl, HEb.out.trans (HE.out.trans (drewN_ext _ _))⟩
end Go.Proofs.YtpbblaeamddbgaaGreat
namespace Go.Proofs.YtpbblaeamddbgaaGreat
open Go.RowKit

/-- Without what stands twice side by side. -/
def cpt : List Cd → List Cd
  | [] => []
  | [x] => [x]
  | x :: y :: r => if cmpCd x y == 0 then cpt (y :: r) else x :: cpt (y :: r)
theorem cpt_snoc : ∀ (l : List Cd) (x y : Cd), cpt (l ++ [x] ++ [y]) = if cmpCd x y == 0 then cpt (l ++ [x]) else cpt (l ++ [x]) ++ [y]
  | [], x, y => by
    simp only [List.nil_append, List.cons_append, cpt]
    by_cases h : (cmpCd x y == 0) = true
    · have e : x = y := (cmpCd_ord.eq x y).1 (by simpa using h)
      simp [e]
    · simp [h]
  | [a], x, y => by
    have ih := cpt_snoc [] x y
    simp only [List.nil_append, List.cons_append, cpt] at ih ⊢
    rw [ih]
    by_cases h : (cmpCd x y == 0) = true
    · simp [h]
    · by_cases h2 : (cmpCd a x == 0) = true
      · simp [h, h2]
      · simp [h, h2]
  | a :: b :: l, x, y => by
    have ih := cpt_snoc (b :: l) x y
    simp only [List.cons_append, cpt] at ih ⊢
    rw [ih]
    by_cases h : (cmpCd x y == 0) = true
    · simp [h]
    · by_cases h2 : (cmpCd a b == 0) = true
      · simp [h, h2]
      · simp [h, h2]
theorem cpt_mem : ∀ (l : List Cd) (c : Cd), c ∈ cpt l ↔ c ∈ l
  | [], c => by simp [cpt]
  | [x], c => by simp [cpt]
  | x :: y :: r, c => by
    have ih := cpt_mem (y :: r) c
    simp only [cpt]
    by_cases h : (cmpCd x y == 0) = true
    · have e : x = y := (cmpCd_ord.eq x y).1 (by simpa using h)
      rw [if_pos h, ih, e]; simp
    · rw [if_neg h, List.mem_cons, ih, List.mem_cons (a := c) (b := x)]
theorem cpt_rise : ∀ (l : List Cd), l.Pairwise (fun x y => cmpCd x y ≤ 0) → Rise cmpCd (cpt l)
  | [], _ => List.Pairwise.nil
  | [x], _ => List.pairwise_singleton _ _
  | x :: y :: r, h => by
    obtain ⟨h1, h2⟩ := List.pairwise_cons.1 h
    have ih := cpt_rise (y :: r) h2
    simp only [cpt]
    by_cases he : (cmpCd x y == 0) = true
    · rw [if_pos he]; exact ih
    · rw [if_neg he]
      refine List.pairwise_cons.2 ⟨fun z hz => ?_, ih⟩
      have hne : cmpCd x y ≠ 0 := by simpa using he
      have hxy : cmpCd x y < 0 := by have := h1 y List.mem_cons_self; omega
      rw [cpt_mem] at hz
      rcases List.mem_cons.1 hz with rfl | hz
      · exact hxy
      · have hyz := (List.pairwise_cons.1 h2).1 z hz
        rcases Int.lt_or_eq_of_le hyz with h' | h'
        · exact cmpCd_ord.trans _ _ _ hxy h'
        · rw [← (cmpCd_ord.eq y z).1 h']; exact hxy
theorem cpt_len : ∀ l : List Cd, (cpt l).length ≤ l.length
  | [] => by simp [cpt]
  | [x] => by simp [cpt]
  | x :: y :: r => by
    have := cpt_len (y :: r)
    simp only [cpt]
    split <;> simp at this ⊢ <;> omega
theorem cpt_take (l : List Cd) (k : Nat) (hk : k + 1 < l.length) : cpt (l.take (k + 2)) = if cmpCd l[k] l[k + 1] == 0 then cpt (l.take (k + 1)) else cpt (l.take (k + 1)) ++ [l[k + 1]] := by
  rw [List.take_succ_eq_append_getElem (by omega), List.take_succ_eq_append_getElem (i := k) (by omega)]
  exact cpt_snoc _ _ _
theorem cpt_id (l : List Cd) (h : ∀ k (hk : k + 1 < l.length), cmpCd l[k] l[k + 1] ≠ 0) : cpt l = l := by
  have : ∀ n, n ≤ l.length → cpt (l.take n) = l.take n := fun n => by
    induction n with
    | zero => intro _; simp [cpt]
    | succ n ih =>
      intro hn
      cases n with
      | zero =>
        cases l with
        | nil => rfl
        | cons a r => simp [cpt]
      | succ n =>
        rw [cpt_take l n (by omega), ih (by omega), if_neg (by simpa using h n (by omega)), List.take_succ_eq_append_getElem (i := n + 1) (by omega)]
  have e := this l.length (Nat.le_refl _)
  rwa [List.take_length] at e

theorem cd_eq_iff (x y : Cd) : (x.attr == y.attr && (x.kind == y.kind && ((x.a.n == y.a.n && x.a.s.toList == y.a.s.toList) && (x.b.n == y.b.n && x.b.s.toList == y.b.s.toList)))) = (cmpCd x y == 0) := by
  rw [Bool.eq_iff_iff]
  simp only [Bool.and_eq_true, beq_iff_eq, cmpCd_ord.eq, ByteArray.toList_eq]
  constructor
  · rintro ⟨h1, h2, ⟨h3, h4⟩, h5, h6⟩
    obtain ⟨xt, xk, ⟨xan, xas⟩, ⟨xbn, xbs⟩⟩ := x
    obtain ⟨yt, yk, ⟨yan, yas⟩, ⟨ybn, ybs⟩⟩ := y
    simp only at h1 h2 h3 h4 h5 h6
    rw [h1, h2, h3, h5, bs_inj _ _ h4, bs_inj _ _ h6]
  · rintro rfl; simp

theorem eqVl_run (x y : Vl) (w : World) (d : Nat) : (Op.equalIn (d + 2) 69 (.agg #[.int .i64 x.n, .string x.s]) (.agg #[.int .i64 y.n, .string y.s])).run Tryz.prog w = .ok (x.n == y.n && x.s.toList == y.s.toList) w := by
  have u3 := Tryz.underlying2
  have a3 := Tryz.isAgg2
  have z3 := Tryz.sizeOf2
  have u9 := Tryz.underlying9
  have a9 := Tryz.isAgg9
  have z9 := Tryz.sizeOf9
  have hS : Tryz.prog.underlying 69 = some (.struct (Tryz.prog.fieldsOf 69)) := by kernel_rfl
  have hp : Tryz.prog.stoodInHeld 69 = false := by kernel_rfl
  rw [run_equalIn_agg w (d + 1) 69 _ _ hS hp]
  simp only [Program.fieldsOf, Tryz.underlying69]
  go_simp
  by_cases h1 : x.n = y.n <;> by_cases h2 : x.s.toList = y.s.toList <;> simp [h1, h2]
theorem eqCd_run (x y : Cd) (w : World) : (binOp .eql 80 (.agg #[.int .i64 x.attr, .int .i64 x.kind, .int .i64 x.a.n, .string x.a.s, .int .i64 x.b.n, .string x.b.s]) (.agg #[.int .i64 y.attr, .int .i64 y.kind, .int .i64 y.a.n, .string y.a.s, .int .i64 y.b.n, .string y.b.s])).run Tryz.prog w = .ok (.bool (cmpCd x y == 0)) w := by
  have u3 := Tryz.underlying3
  have a3 := Tryz.isAgg3
  have z3 := Tryz.sizeOf3
  have a9 := Tryz.isAgg69
  have z9 := Tryz.sizeOf69
  have e1 := fun w => eqVl_run x.a y.a w 9997
  have e2 := fun w => eqVl_run x.b y.b w 9997
  have hS : Tryz.prog.underlying 80 = some (.struct (Tryz.prog.fieldsOf 80)) := by kernel_rfl
  have hp : Tryz.prog.stoodInHeld 80 = false := by kernel_rfl
  rw [← cd_eq_iff, run_eql_struct, show (10000 : Nat) = 9999 + 1 from rfl, run_equalIn_agg w 9999 80 _ _ hS hp]
  simp only [Program.fieldsOf, Tryz.underlying80]
  go_simp
  by_cases h1 : x.attr = y.attr
  · by_cases h2 : x.kind = y.kind
    · by_cases h3 : x.a.n = y.a.n
      · by_cases h4 : x.a.s.toList = y.a.s.toList
        · by_cases h5 : x.b.n = y.b.n
          · by_cases h6 : x.b.s.toList = y.b.s.toList
            · simp [h1, h2, h3, h4, h5, h6]
            · simp [h1, h2, h3, h4, h5, h6]
          · simp [h1, h2, h3, h4, h5]
        · simp [h1, h2, h3, h4]
      · simp [h1, h2, h3]
    · simp [h1, h2]
  · simp [h1]
theorem neCd_run (x y : Cd) (w : World) : (binOp .neq 80 (.agg #[.int .i64 x.attr, .int .i64 x.kind, .int .i64 x.a.n, .string x.a.s, .int .i64 x.b.n, .string x.b.s]) (.agg #[.int .i64 y.attr, .int .i64 y.kind, .int .i64 y.a.n, .string y.a.s, .int .i64 y.b.n, .string y.b.s])).run Tryz.prog w = .ok (.bool (!(cmpCd x y == 0))) w := by
  have h := eqCd_run x y w
  rw [run_eql_struct] at h
  rw [run_neq_struct]
  cases hr : (Op.equalIn 10000 80 (.agg #[.int .i64 x.attr, .int .i64 x.kind, .int .i64 x.a.n, .string x.a.s, .int .i64 x.b.n, .string x.b.s]) (.agg #[.int .i64 y.attr, .int .i64 y.kind, .int .i64 y.a.n, .string y.a.s, .int .i64 y.b.n, .string y.b.s])).run Tryz.prog w <;> rw [hr] at h <;> simp [Result.andThen] at h ⊢
  exact ⟨by rw [h.1], h.2⟩

theorem flat_takeC (l : List Cd) (k : Nat) : (l.flatMap Cd.cells).take (k * 6) = (l.take k).flatMap Cd.cells := by
  rcases Nat.lt_or_ge k l.length with h | h
  · have e : l.flatMap Cd.cells = (l.take k).flatMap Cd.cells ++ (l.drop k).flatMap Cd.cells := by rw [← List.flatMap_append, List.take_append_drop]
    rw [e, List.take_left' (by rw [flat_len Cd.cells 6 (fun _ => rfl)]; simp; omega)]
  · rw [List.take_of_length_le (by rw [flat_len Cd.cells 6 (fun _ => rfl)]; omega), List.take_of_length_le h]
theorem Row.mid' {w : World} {g : Nat} {T : TypeId} {l : List Value} (h : Row w g T l) (o n : Nat) (hn : o + n ≤ l.length) : w.there g o n := fun j hj => by
  rw [h.cell (j := o + j) (by omega)]
  exact ⟨rfl, h.frozen _⟩

set_option maxHeartbeats 3200000 in
set_option maxRecDepth 100000 in
theorem compact_any (g : Nat) (L : List Cd) (w : World) (hR : Row w g 80 (L.flatMap Cd.cells)) (h8 : L.length ≤ 8) :
    Calls Tryz.prog 95 #[.slice (some ⟨g, 0, none⟩) L.length L.length] w fun e w' => e = .returned (.slice (some ⟨g, 0, none⟩) (cpt L).length L.length) ∧ (∃ Z, Row w' g 80 Z ∧ Z.length = L.length * 6 ∧ Z.take ((cpt L).length * 6) = (cpt L).flatMap Cd.cells) ∧ Kp (fun b => b = g) w w' := by
  by_cases h2 : L.length < 2
  · have hc : cpt L = L := cpt_id L (fun k hk => by omega)
    have hfin : Hid (∃ Z, Row w g 80 Z ∧ Z.length = L.length * 6 ∧ Z.take (L.length * 6) = L.flatMap Cd.cells) := by
      have := flat_len Cd.cells 6 (fun _ => rfl) L
      exact ⟨_, hR, this, List.take_of_length_le (by omega)⟩
    rw [hc]
    clear hR hc
    go_enter Tryz.func95, Tryz.ntmps95
    go_wp2
    go_ret
    exact ⟨rfl, hfin.out, Kp.refl _ _⟩
  have hflat := flat_len Cd.cells 6 (fun _ => rfl) L
  have HF : Hid ((L.flatMap Cd.cells).length = L.length * 6) := hflat
  clear hflat
  go_enter Tryz.func95, Tryz.ntmps95
  go_wp2
  go_loopw [3] (fun i wr => ∃ m : Nat, 1 ≤ m ∧ m ≤ L.length ∧ i = .int .i64 m ∧ (∀ j (hj : j + 1 < L.length), j + 1 < m → cmpCd L[j] L[j + 1] ≠ 0) ∧ Ext w wr) (fun i _ => L.length - (intOf i).toNat)
  case atStart => exact ⟨1, Nat.le_refl _, by omega, rfl, fun j _ h => by omega, Ext.refl _⟩
  case round =>
    obtain ⟨m, hm1, hmL, rfl, hall, hE⟩ := hrel
    have HA : Hid (∀ j (hj : j + 1 < L.length), j + 1 < m → cmpCd L[j] L[j + 1] ≠ 0) := hall
    clear hall
    by_cases hlt : m < L.length
    · obtain ⟨p, hp⟩ : ∃ p, m = p + 1 := ⟨m - 1, by omega⟩
      have hp2 : (m : Int) - 1 = (p : Int) := by omega
      have hpl : p < L.length := by omega
      have hpi : (p : Int) < (L.length : Int) := by omega
      have hmi : (m : Int) < (L.length : Int) := by omega
      have hRr := hR.ext hE
      have hD : Cds wr g 0 L := cds_row hRr
      obtain ⟨c0, c1, c2, c3, c4, c5⟩ := hD p hpl
      obtain ⟨d0, d1, d2, d3, d4, d5⟩ := hD m hlt
      simp only [Nat.zero_add] at c0 c1 c2 c3 c4 c5 d0 d1 d2 d3 d4 d5
      have heq : ∀ W, Sem.run Tryz.prog (binOp .eql 80 (.agg #[.int .i64 L[m].attr, .int .i64 L[m].kind, .int .i64 L[m].a.n, .string L[m].a.s, .int .i64 L[m].b.n, .string L[m].b.s]) (.agg #[.int .i64 L[p].attr, .int .i64 L[p].kind, .int .i64 L[p].a.n, .string L[p].a.s, .int .i64 L[p].b.n, .string L[p].b.s])) W = .ok (.bool (cmpCd L[m] L[p] == 0)) W := fun W => eqCd_run _ _ W
      clear hD hRr
      generalize hB : (cmpCd L[m] L[p] == 0) = B at heq
      have HB : Hid ((cmpCd L[m] L[p] == 0) = B) := hB
      clear hB
      have HPm : Hid (m = p + 1) := hp
      clear hp
      cases B with
      | false =>
        have HS : Hid (∀ j (hj : j + 1 < L.length), j + 1 < m + 1 → cmpCd L[j] L[j + 1] ≠ 0) := fun j hj hjm => by
          rcases Nat.lt_or_ge (j + 1) m with h | h
          · exact HA.out j hj h
          · obtain rfl : j = p := by have := HPm.out; omega
            have h0 : cmpCd L[m] L[j] ≠ 0 := by simpa using HB.out
            intro e
            apply h0
            rw [cmpCd_ord.sym0]
            simp only [HPm.out]; exact e
        clear HB HA
        generalize L[m] = y at *
        generalize L[p] = x at *
        go_wp2_with fail
        go_quiet (fail)
        go_wp2
        go_roundw
        case rel => exact ⟨m + 1, by omega, by omega, by go_num, HS.out, hE.trans (drewN_ext _ _)⟩
        case measure => simp [intOf]; omega
      | true =>
        have hdup : Hid (cpt (L.take (m + 1)) = L.take m) := by
          show _ = _
          have h0 : cmpCd L[m] L[p] = 0 := by simpa using HB.out
          have h1 := cpt_take L p (by have := HPm.out; omega)
          have e1 : p + 1 = m := HPm.out.symm
          have e2 : p + 2 = m + 1 := by omega
          simp only [e1, e2] at h1
          rw [h1, if_pos (by have := (cmpCd_ord.sym0 L[m] L[p]).1 h0; simpa using this)]
          refine cpt_id _ (fun k hk => ?_)
          simp only [List.length_take] at hk
          rw [List.getElem_take, List.getElem_take]
          exact HA.out k (by omega) (by omega)
        clear HB HA
        have hRr := hR.ext hE
        have HKE : Hid (Kp (fun b => b = g) w wr) := hE.kp _
        clear hR hE
        generalize L[m] = y0 at *
        generalize L[p] = x0 at *
        go_wp2_with fail
        go_quiet (fail)
        have hRq : Row (wr.drewN nq) g 80 (L.flatMap Cd.cells) := hRr
        have HKq : Hid (Kp (fun b => b = g) w (wr.drewN nq)) := HKE.out.trans ((drewN_ext _ _).kp _)
        clear hRr HKE heq c0 c1 c2 c3 c4 c5 d0 d1 d2 d3 d4 d5
        generalize wr.drewN nq = wq at *
        have hb1 : ¬ L.length = m := by omega
        have hb2 : m ≤ L.length := by omega
        go_wp2_with fail
        go_loopw [3, 5] (fun v3 v5 wr2 => ∃ (k1 k2 : Nat) (Z : List Value), v3 = .int .i64 k1 ∧ v5 = .int .i64 k2 ∧ 1 ≤ k2 ∧ m + k2 ≤ L.length ∧ (cpt (L.take (m + k2))).length = k1 ∧ k1 < m + k2 ∧ Row wr2 g 80 Z ∧ Z.length = L.length * 6 ∧ Z.take (k1 * 6) = (cpt (L.take (m + k2))).flatMap Cd.cells ∧ Z.drop (k1 * 6) = (L.flatMap Cd.cells).drop (k1 * 6) ∧ Kp (fun b => b = g) w wr2) (fun _ v5 _ => L.length - (intOf v5).toNat)
        case atStart =>
          refine ⟨m, 1, L.flatMap Cd.cells, rfl, rfl, Nat.le_refl _, by omega, ?_, by omega, hRq, HF.out, ?_, rfl, HKq.out⟩
          · rw [hdup.out]; simp; omega
          · rw [hdup.out, flat_takeC]
        case round =>
          obtain ⟨k1, k2, Z, rfl, rfl, hk2, hmk, hcl, hk1, hZ, hZl, hZt, hZd, hKr⟩ := hrel
          have HZ : Hid (Z.length = L.length * 6 ∧ Z.take (k1 * 6) = (cpt (L.take (m + k2))).flatMap Cd.cells ∧ Z.drop (k1 * 6) = (L.flatMap Cd.cells).drop (k1 * 6) ∧ (cpt (L.take (m + k2))).length = k1) := ⟨hZl, hZt, hZd, hcl⟩
          have HK : Hid (Kp (fun b => b = g) w wr) := hKr
          clear hZt hZd hcl hKr hRq HKq hdup
          by_cases hjl : m + k2 < L.length
          · have hat : ∀ q (hq : q < L.length), k1 ≤ q → ∀ r v, r < 6 → L[q].cells[r]? = some v → wr.cell? ⟨g, q * 6 + r, none⟩ = some v := fun q hq hkq r v hr hv => by
              refine hZ.at ?_
              have h1 := flat_at Cd.cells 6 (fun _ => rfl) L q r hq hr
              have h2 : (Z.drop (k1 * 6))[q * 6 + r - k1 * 6]? = ((L.flatMap Cd.cells).drop (k1 * 6))[q * 6 + r - k1 * 6]? := by rw [HZ.out.2.2.1]
              rw [List.getElem?_drop, List.getElem?_drop, show k1 * 6 + (q * 6 + r - k1 * 6) = q * 6 + r by omega, h1] at h2
              rw [h2]; exact hv
            obtain ⟨p2, HP2⟩ : ∃ p2, Hid (k2 = p2 + 1) := ⟨k2 - 1, by show _ = _; omega⟩
            have hp3 : (k2 : Int) - 1 = (p2 : Int) := by have := HP2.out; omega
            have hpl2 : m + p2 < L.length := by have := HP2.out; omega
            have hi1 : (k2 : Int) < ((L.length - m : Nat) : Int) := by omega
            have hi2 : (p2 : Int) < ((L.length - m : Nat) : Int) := by omega
            have hi3 : (k1 : Int) < (L.length : Int) := by omega
            have e0 : ∀ r, m * 6 + k2 * 6 + r = (m + k2) * 6 + r := fun r => by omega
            have e1 : ∀ r, m * 6 + p2 * 6 + r = (m + p2) * 6 + r := fun r => by omega
            have hY := hat (m + k2) hjl (by omega)
            have hX := hat (m + p2) hpl2 (by omega)
            have y0 : wr.cell? ⟨g, m * 6 + k2 * 6, none⟩ = some (.int .i64 L[m + k2].attr) := by have := hY 0 _ (by omega) rfl; rwa [← e0] at this
            have y1 : wr.cell? ⟨g, m * 6 + k2 * 6 + 1, none⟩ = some (.int .i64 L[m + k2].kind) := by have := hY 1 _ (by omega) rfl; rwa [← e0] at this
            have y2 : wr.cell? ⟨g, m * 6 + k2 * 6 + 2, none⟩ = some (.int .i64 L[m + k2].a.n) := by have := hY 2 _ (by omega) rfl; rwa [← e0] at this
            have y3 : wr.cell? ⟨g, m * 6 + k2 * 6 + 3, none⟩ = some (.string L[m + k2].a.s) := by have := hY 3 _ (by omega) rfl; rwa [← e0] at this
            have y4 : wr.cell? ⟨g, m * 6 + k2 * 6 + 4, none⟩ = some (.int .i64 L[m + k2].b.n) := by have := hY 4 _ (by omega) rfl; rwa [← e0] at this
            have y5 : wr.cell? ⟨g, m * 6 + k2 * 6 + 5, none⟩ = some (.string L[m + k2].b.s) := by have := hY 5 _ (by omega) rfl; rwa [← e0] at this
            have x0 : wr.cell? ⟨g, m * 6 + p2 * 6, none⟩ = some (.int .i64 L[m + p2].attr) := by have := hX 0 _ (by omega) rfl; rwa [← e1] at this
            have x1 : wr.cell? ⟨g, m * 6 + p2 * 6 + 1, none⟩ = some (.int .i64 L[m + p2].kind) := by have := hX 1 _ (by omega) rfl; rwa [← e1] at this
            have x2 : wr.cell? ⟨g, m * 6 + p2 * 6 + 2, none⟩ = some (.int .i64 L[m + p2].a.n) := by have := hX 2 _ (by omega) rfl; rwa [← e1] at this
            have x3 : wr.cell? ⟨g, m * 6 + p2 * 6 + 3, none⟩ = some (.string L[m + p2].a.s) := by have := hX 3 _ (by omega) rfl; rwa [← e1] at this
            have x4 : wr.cell? ⟨g, m * 6 + p2 * 6 + 4, none⟩ = some (.int .i64 L[m + p2].b.n) := by have := hX 4 _ (by omega) rfl; rwa [← e1] at this
            have x5 : wr.cell? ⟨g, m * 6 + p2 * 6 + 5, none⟩ = some (.string L[m + p2].b.s) := by have := hX 5 _ (by omega) rfl; rwa [← e1] at this
            have hst : Hid (cpt (L.take (m + (k2 + 1))) = if cmpCd L[m + p2] L[m + k2] == 0 then cpt (L.take (m + k2)) else cpt (L.take (m + k2)) ++ [L[m + k2]]) := by
              have h := cpt_take L (m + p2) (by omega)
              have q1 : m + p2 + 1 = m + k2 := by omega
              have q2 : m + p2 + 2 = m + (k2 + 1) := by omega
              simp only [q1, q2] at h
              exact h
            have hne : ∀ W, Sem.run Tryz.prog (binOp .neq 80 (.agg #[.int .i64 L[m + k2].attr, .int .i64 L[m + k2].kind, .int .i64 L[m + k2].a.n, .string L[m + k2].a.s, .int .i64 L[m + k2].b.n, .string L[m + k2].b.s]) (.agg #[.int .i64 L[m + p2].attr, .int .i64 L[m + p2].kind, .int .i64 L[m + p2].a.n, .string L[m + p2].a.s, .int .i64 L[m + p2].b.n, .string L[m + p2].b.s])) W = .ok (.bool (!(cmpCd L[m + k2] L[m + p2] == 0))) W := fun W => neCd_run _ _ W
            have hsym : Hid ((cmpCd L[m + p2] L[m + k2] == 0) = (cmpCd L[m + k2] L[m + p2] == 0)) := by
              show _ = _
              rw [Bool.eq_iff_iff]; simp only [beq_iff_eq]; exact cmpCd_ord.sym0 _ _
            rw [hsym.out] at hst
            clear hsym hat hY hX e0 e1
            generalize hB : (cmpCd L[m + k2] L[m + p2] == 0) = B at *
            have HSt : Hid _ := hst
            clear hB hst
            generalize L[m + k2] = y at *
            generalize L[m + p2] = x at *
            cases B with
            | true =>
              simp only [Bool.not_true] at hne
              have HS2 : Hid (cpt (L.take (m + (k2 + 1))) = cpt (L.take (m + k2))) := HSt.out
              go_wp2_with fail
              go_quiet (fail)
              have hZ2 : Row (wr.drewN nq) g 80 Z := hZ
              go_wp2
              go_roundw
              case rel => exact ⟨k1, k2 + 1, Z, rfl, by go_num, by omega, by omega, by rw [HS2.out]; exact HZ.out.2.2.2, by omega, hZ2, HZ.out.1, by rw [HS2.out]; exact HZ.out.2.1, HZ.out.2.2.1, HK.out.trans ((drewN_ext _ _).kp _)⟩
              case measure => simp [intOf]; omega
            | false =>
              simp only [Bool.not_false] at hne
              have HS2 : Hid (cpt (L.take (m + (k2 + 1))) = cpt (L.take (m + k2)) ++ [y]) := HSt.out
              go_wp2_with fail
              go_quiet (fail)
              have hZ2 : Row (wr.drewN nq) g 80 Z := hZ
              have HK2 : Hid (Kp (fun b => b = g) w (wr.drewN nq)) := HK.out.trans ((drewN_ext _ _).kp _)
              have z0 : (wr.drewN nq).cell? _ = _ := y0
              have z1 : (wr.drewN nq).cell? _ = _ := y1
              have z2 : (wr.drewN nq).cell? _ = _ := y2
              have z3 : (wr.drewN nq).cell? _ = _ := y3
              have z4 : (wr.drewN nq).cell? _ = _ := y4
              have z5 : (wr.drewN nq).cell? _ = _ := y5
              clear y0 y1 y2 y3 y4 y5 x0 x1 x2 x3 x4 x5 hZ HK hne
              generalize wr.drewN nq = wz at *
              have hmid : wz.there g (k1 * 6) y.cells.toArray.size := hZ2.mid' (k1 * 6) 6 (by rw [HZ.out.1]; omega)
              have HM : Hid (wz.there g (k1 * 6) y.cells.toArray.size) := hmid
              clear hmid
              have ta : True := trivial
              go_wp2_with (first
                | (have _t := ta; refine wpList_store_mid rfl 80 (.tmp 51) (.tmp 50) rfl g (k1 * 6) y.cells.toArray rfl rfl HM.out Tryz.sizeCd (all_oneCell_toArray (cdc_one y)) ?_; clear ta))
              go_roundw
              case rel =>
                have hl6 : y.cells.length = 6 := rfl
                have hrow' := row_setCells y.cells (k1 * 6) _ Z hZ2 (by rw [HZ.out.1, hl6]; omega)
                rw [hl6] at hrow'
                refine ⟨k1 + 1, k2 + 1, _, by go_num, by go_num, by omega, by omega, ?_, by omega, hrow', ?_, ?_, ?_, kp_setCells (M := fun b => b = g) rfl _ _ _ _ HK2.out⟩
                · rw [HS2.out]; simp; exact HZ.out.2.2.2
                · simp [hl6, HZ.out.1]; omega
                · rw [HS2.out, List.take_left' (by simp [hl6, HZ.out.1]; omega), HZ.out.2.1]; simp
                · rw [List.append_assoc, show (k1 + 1) * 6 = k1 * 6 + 6 by omega, ← List.drop_drop, List.drop_left' (by simp [HZ.out.1]; omega), List.drop_left' hl6]
                  have := congrArg (fun q => q.drop 6) HZ.out.2.2.1
                  simpa [List.drop_drop] using this
              case measure => simp [intOf]; omega
          · have hmk2 : m + k2 = L.length := by omega
            have hk1L : k1 < L.length := by omega
            obtain ⟨z, hz⟩ : ∃ z : List Value, z = (Builtin.zeroCells (Value.agg #[.int .i64 0, .int .i64 0, .int .i64 0, .string ⟨#[]⟩, .int .i64 0, .string ⟨#[]⟩]).cells (L.length - k1)).toList := ⟨_, rfl⟩
            have hzl : z.length = (L.length - k1) * 6 := by rw [hz]; simp [Builtin.zeroCells, Value.cells]
            have hcl : ∀ ty, (Builtin.clear_ #[26] ty #[.slice (some ⟨g, k1 * 6, none⟩) (L.length - k1) (L.length - k1)]).run Tryz.prog wr = .ok (.tuple #[]) (wr.setRow g (Z.take (k1 * 6) ++ z ++ Z.drop (k1 * 6 + z.length)).toArray) := fun ty => by
              rw [hz]
              exact run_clear_row wr 26 80 80 ty Tryz.underlying26 _ (Tryz.zeroValue80 wr) (by decide) g (k1 * 6) (L.length - k1) (L.length - k1) Z hZ (by omega) (by rw [HZ.out.1]; simp only [Value.cells]; show _ + _ * 6 ≤ _; omega)
            have hfin : (∃ N, Row (wr.setRow g (Z.take (k1 * 6) ++ z ++ Z.drop (k1 * 6 + z.length)).toArray) g 80 N ∧ N.length = L.length * 6 ∧ N.take ((cpt L).length * 6) = (cpt L).flatMap Cd.cells) ∧ Kp (fun b => b = g) w (wr.setRow g (Z.take (k1 * 6) ++ z ++ Z.drop (k1 * 6 + z.length)).toArray) := by
              refine ⟨⟨_, hZ.setRow _, ?_, ?_⟩, HK.out.setRow rfl _⟩
              · simp [hzl, HZ.out.1]; omega
              · have e := HZ.out.2.2.2
                have e3 := HZ.out.2.1
                rw [hmk2, List.take_length] at e e3
                rw [e, List.append_assoc, List.take_left' (by simp [HZ.out.1]; omega), e3]
            have hcl2 : Hid ((cpt L).length = k1) := by
              show _ = _
              have e := HZ.out.2.2.2
              rwa [hmk2, List.take_length] at e
            have HFin : Hid _ := hfin
            clear hfin hzl hz hZ HZ HK
            generalize (Z.take (k1 * 6) ++ z ++ Z.drop (k1 * 6 + z.length)).toArray = NN at *
            have hb3 : ¬ L.length = k1 := by omega
            have hb4 : k1 ≤ L.length := by omega
            have hi1 : ¬ (k2 : Int) < ((L.length - m : Nat) : Int) := by omega
            go_wp2
            go_ret
            rw [hcl2.out]
            exact ⟨rfl, hcl2.out ▸ HFin.out⟩
    · have hc : Hid (cpt L = L) := cpt_id L (fun k hk => HA.out k hk (by omega))
      have hfin : Hid (∃ Z, Row wr g 80 Z ∧ Z.length = L.length * 6 ∧ Z.take (L.length * 6) = L.flatMap Cd.cells) :=
        ⟨_, hR.ext hE, HF.out, List.take_of_length_le (by rw [HF.out]; omega)⟩
      clear hR
      go_wp2
      go_ret
      rw [hc.out]
      exact ⟨rfl, hfin.out, hE.kp _⟩
end Go.Proofs.YtpbblaeamddbgaaGreat
namespace Go.Proofs.YtpbblaeamddbgaaGreat
open Go.RowKit Go.Sort Go.Shelf Go.Lib

theorem ExtD.grows {w w' : World} (h : ExtD w w') : ∃ q os, w' = grow (w.drewN q) os := by
  refine ⟨w'.drawn - w.drawn, w'.heap.extract w.heap.size w'.heap.size, ?_⟩
  obtain ⟨⟨h1, h2, h3, h4, h5⟩, h6⟩ := h
  have hh : w'.heap = w.heap ++ w'.heap.extract w.heap.size w'.heap.size := by
    apply Array.ext_getElem?
    intro k
    rw [Array.getElem?_append]
    split
    · rename_i hk; exact h5 k hk
    · rename_i hk
      rw [Array.getElem?_extract]
      by_cases hk' : k < w'.heap.size
      · rw [if_pos (by omega)]; congr 1; omega
      · rw [if_neg (by omega), Array.getElem?_eq_none (by omega)]
  have hd : w.drawn + (w'.drawn - w.drawn) = w'.drawn := by omega
  cases w
  cases w'
  simp only [grow, World.drewN] at *
  subst h1 h2 h3
  rw [hd, ← hh]
theorem grow_ext (w : World) (os : Array Obj) : Ext w (grow w os) := by
  refine ⟨rfl, rfl, rfl, by simp [grow], fun k hk => ?_⟩
  simp only [grow]
  rw [Array.getElem?_append_left hk]
theorem ahead_ext (w : World) (n : Nat) : Ext w (Sort.ahead w n) := ⟨rfl, rfl, rfl, Nat.le_refl _, fun _ _ => rfl⟩
theorem putRow_kp {α : Type} [Inhabited α] (enc : α → Value) (w : World) (g : Nat) (d : Array α) : Kp (fun b => b = g) w (putRow enc w g 0 d) := by
  refine ⟨rfl, rfl, rfl, by simp [putRow, mapBlock], fun k _ hk => ?_⟩
  simp only [putRow, mapBlock]
  rw [Array.getElem?_modify, if_neg (fun e => hk e.symm)]
theorem putRow_row {α : Type} [Inhabited α] (enc : α → Value) (w : World) (g : Nat) (T : TypeId) (l : List Value) (d : Array α) (hR : Row w g T l) (hd : d.size ≤ l.length) : Row (putRow enc w g 0 d) g T (d.toList.map enc ++ l.drop d.size) := by
  unfold Row at hR ⊢
  simp only [putRow, mapBlock]
  rw [Array.getElem?_modify, if_pos rfl, hR]
  simp only [Option.map_some, onCells, Option.some.injEq, Obj.cells.injEq, and_true]
  apply Array.ext_getElem?
  intro k
  simp only [putCells, Array.getElem?_mapIdx, List.getElem?_toArray, Nat.zero_le, true_and, Nat.zero_add, Nat.sub_zero]
  by_cases hk : k < d.size
  · rw [List.getElem?_append_left (by simpa using hk), List.getElem?_map]
    have h1 : k < l.length := by omega
    rw [List.getElem?_eq_getElem h1]
    simp [hk]
  · rw [List.getElem?_append_right (by simpa using hk), List.getElem?_drop]
    simp only [List.length_map, Array.length_toList]
    rw [show d.size + (k - d.size) = k by omega]
    cases l[k]? <;> simp [hk]
theorem holds_row {w : World} {g : Nat} {T : TypeId} {l : List Value} (hR : Row w g T l) (xs : List Value) (h : l.take xs.length = xs) : ∀ j, j < xs.length → w.cell? ⟨g, 0 + j, none⟩ = xs[j]? ∧ w.frozen? ⟨g, 0 + j, none⟩ = false := by
  intro j hj
  rw [Nat.zero_add]
  refine ⟨?_, hR.frozen j⟩
  have hl : xs.length ≤ l.length := by
    have := congrArg List.length h
    simp at this; omega
  have h2 : (l.take xs.length)[j]? = xs[j]? := by rw [h]
  rw [List.getElem?_take, if_pos hj] at h2
  rw [hR.cell (j := j) (by omega), ← h2, List.getElem?_eq_getElem]

theorem sort_any (ao : Option Addr) (cap : Nat) (zs : List Int) (w : World) (hO : OSl w 3 1 ao zs.length cap (zs.map (Value.int .i64))) (hl : zs.length < 4611686018427387904) :
    Calls Tryz.prog 86 #[.slice ao zs.length cap] w fun e w' => e = .returned (.tuple #[]) ∧ OSl w' 3 1 ao zs.length cap ((zs.mergeSort fun x y => decide (x ≤ y)).map (Value.int .i64)) ∧ Kp (fun k => blkOf ao = some k) w w' := by
  rcases Nat.eq_zero_or_pos zs.length with h0 | hp
  · have e : zs = [] := List.eq_nil_of_length_eq_zero h0
    subst e
    refine (Tryz.slices_Sort_int_none ao cap w).mono ?_
    rintro e w' ⟨rfl, rfl⟩
    exact ⟨rfl, by simpa using hO, Kp.refl _ _⟩
  · obtain ⟨g, L, rfl, hR, hnc, hm, hL, hx⟩ := row_of_osl hO hp
    rw [Nat.mul_one] at hL hx
    have hh := holds_row hR (zs.map (Value.int .i64)) (by simpa using hx)
    refine (Tryz.slices_Sort_int g 0 cap zs w (fun j hj => ?_) hR.lt hl).mono ?_
    · obtain ⟨h1, h2⟩ := hh j (by simpa using hj)
      refine ⟨?_, h2⟩
      rw [h1]
      simp at hj
      simp [hj]
    · rintro e w' ⟨rfl, n, os, rfl⟩
      have hR1 : Row (Sort.ahead w n) g 3 L := hR
      have hsz : ((zs.mergeSort fun x y => decide (x ≤ y)).toArray).size = zs.length := by simp
      have hR2 := putRow_row (Value.int .i64) (Sort.ahead w n) g 3 L (zs.mergeSort fun x y => decide (x ≤ y)).toArray hR1 (by rw [hsz]; omega)
      have hR3 := hR2.ext (grow_ext _ os)
      refine ⟨rfl, osl_of_row hR3 1 zs.length cap hnc hm (by simp; omega) (by rw [Nat.mul_one, List.take_left' (by simp)]), ?_⟩
      exact (((ahead_ext w n).kp _).trans ((putRow_kp _ _ _ _).mono (fun k _ e => by subst e; rfl))).trans ((grow_ext _ os).kp _)
theorem sorted_is (zs ys : List Int) (hn : zs.Nodup) (hy : ys.Pairwise (fun x y => x < y)) (hm : ∀ x, x ∈ zs ↔ x ∈ ys) : (zs.mergeSort fun x y => decide (x ≤ y)) = ys := by
  have hp := List.mergeSort_perm zs (fun x y => decide (x ≤ y))
  have hs := List.pairwise_mergeSort (le := fun x y : Int => decide (x ≤ y)) (fun a b c h1 h2 => by simp at *; omega) (fun a b => by simp; omega) zs
  have hnd := hp.nodup_iff.2 hn
  refine rise_ext cmpI_ord ?_ ?_ (fun x => (hp.mem_iff).trans (hm x))
  · refine List.Pairwise.imp (fun {a b} h => ?_) (List.Pairwise.and hs hnd)
    rw [cmpI_neg]
    have := h.1
    simp at this
    have := h.2
    omega
  · exact List.Pairwise.imp (fun {a b} h => cmpI_neg.2 h) hy

def cdZ : Cd := ⟨0, 0, ⟨0, ⟨#[]⟩⟩, ⟨0, ⟨#[]⟩⟩⟩
theorem flatK_cells [Inhabited Cd] (d : Array Cd) : (flatK Cd.cells 6 d).toList = d.toList.flatMap Cd.cells := by
  apply List.ext_getElem?
  intro t
  by_cases ht : t < d.size * 6
  · have h1 : (flatK Cd.cells 6 d)[t]? = some ((Cd.cells d[t / 6]!)[t % 6]!) := by
      rw [Array.getElem?_eq_getElem (by simpa using ht)]
      simp [flatK]
    rw [Array.getElem?_toList, h1]
    have hq : t / 6 < d.toList.length := by simp; omega
    have h2 := flat_at Cd.cells 6 (fun _ => rfl) d.toList (t / 6) (t % 6) hq (Nat.mod_lt _ (by omega))
    rw [show t / 6 * 6 + t % 6 = t by omega] at h2
    rw [h2]
    have hq' : t / 6 < d.size := by simpa using hq
    rw [getElem!_pos d _ hq']
    have hr : t % 6 < (Cd.cells d[t / 6]).length := Nat.mod_lt _ (by omega)
    rw [getElem!_pos (Cd.cells d[t / 6]) (t % 6) hr, List.getElem?_eq_getElem (by simpa using hr)]
    simp
  · rw [List.getElem?_eq_none (by simp; omega), List.getElem?_eq_none (by rw [flat_len Cd.cells 6 (fun _ => rfl)]; simp; omega)]
theorem cmpCd_swo : SWO (ltOf cmpCd) where
  irrefl x := by simp [ltOf, cmpCd_ord.refl]
  trans x y z h1 h2 := by simp only [ltOf, decide_eq_true_eq] at *; exact cmpCd_ord.trans _ _ _ h1 h2
  ntrans x y z h1 h2 := by
    simp only [ltOf, decide_eq_false_iff_not] at *
    intro h3
    rcases Int.lt_trichotomy (cmpCd y z) 0 with h | h | h
    · exact h2 h
    · rw [← (cmpCd_ord.eq y z).1 h] at h3; exact h1 h3
    · exact h1 (cmpCd_ord.trans _ _ _ h3 ((cmpCd_ord.gt y z).1 h))

theorem sortFunc_any (g : Nat) (L : List Cd) (w : World) (hR : Row w g 80 (L.flatMap Cd.cells)) (h8 : L.length ≤ 8) :
    Calls Tryz.prog 93 #[.slice (some ⟨g, 0, none⟩) L.length L.length, .func (Fn.func 94) #[] #[]] w fun e w' => e = .returned (.tuple #[]) ∧ ∃ M : List Cd, M.length = L.length ∧ (∀ c, c ∈ M ↔ c ∈ L) ∧ M.Pairwise (fun x y => cmpCd x y ≤ 0) ∧ Row w' g 80 (M.flatMap Cd.cells) ∧ Kp (fun b => b = g) w w' := by
  have hInh : Inhabited Cd := ⟨cdZ⟩
  have hcmp : CmpLays Tryz.prog 94 #[] Cd.cells 6 cmpCd g 0 L.toArray.size w := fun m os dk _ x y => by
    refine (compareConds_any x y _).mono ?_
    rintro e w' ⟨rfl, hD⟩
    exact ⟨rfl, hD.grows⟩
  have hlen : ∀ (n : Nat) (W : World), n ≤ 12 → Calls Tryz.prog 132 #[.int .u64 n] W fun e w' => (∃ l : Int, e = .returned (.int .i64 l)) ∧ w' = W := fun n W _ =>
    (Tryz.bits_Len n W (by omega) (by omega)).mono fun _ _ ⟨he, hw⟩ => ⟨⟨_, he⟩, hw⟩
  have hfl : flatK Cd.cells 6 L.toArray = (L.flatMap Cd.cells).toArray := by
    apply Array.toList_inj.1; rw [flatK_cells]
  have hH : HoldsK Cd.cells 6 w g 0 L.toArray := fun j hj => by
    rw [hfl] at hj ⊢
    obtain ⟨h1, h2⟩ := holds_row hR (L.flatMap Cd.cells) (List.take_length) j (by simpa using hj)
    refine ⟨?_, h2⟩
    rw [h1]
    have hj' : j < (L.flatMap Cd.cells).length := by simpa using hj
    rw [List.getElem?_eq_getElem hj', getElem!_pos _ j hj]
    rfl
  have hcon := AnyQ.slices_SortFunc_small_sorted Tryz.lsf 6 Tryz.isAgg80 Tryz.sizeOf80 Cd.cells (fun _ => rfl) cdc_one cmpCd 94 #[] cmpCd_swo g 0 L.length L.toArray w (enters_of Tryz.func94 (by kernel_rfl) rfl) hcmp hH hR.lt (by simp; omega) hlen
  have e1 : L.toArray.size = L.length := by simp
  rw [e1] at hcon
  refine Calls.mono hcon ?_
  rintro e w' ⟨rfl, d', n, os, hp, hs, rfl⟩
  obtain ⟨hp1, _, hp3⟩ := hp
  have hsz : d'.size = L.length := by simpa using hp1
  have hperm : d'.toList.Perm L := by
    have h1 : d'.extract 0 L.length = d' := by rw [← hsz]; simp
    have h2 : L.toArray.extract 0 L.length = L.toArray := by simp
    rw [h1, h2] at hp3; exact hp3
  refine ⟨rfl, d'.toList, by simpa using hsz, fun c => hperm.mem_iff, ?_, ?_, ?_⟩
  · rw [List.pairwise_iff_getElem]
    intro i j hi hj hij
    have := hs i j (Nat.zero_le _) hij (by simp at hj; omega)
    simp only [ltOf, decide_eq_false_iff_not] at this
    simp at hi hj
    rw [getElem!_pos d' j hj, getElem!_pos d' i hi] at this
    have h3 := cmpCd_ord.gt d'[i] d'[j]
    simp only [Array.getElem_toList]
    omega
  · have hR2 := putRow_row (α := Value) id (Sort.ahead w n) g 80 (L.flatMap Cd.cells) (flatK Cd.cells 6 d') hR (by rw [flat_len Cd.cells 6 (fun _ => rfl)]; simp; omega)
    have hR3 := hR2.ext (grow_ext _ os)
    rw [flatK_cells, List.map_id, List.drop_of_length_le (by rw [flat_len Cd.cells 6 (fun _ => rfl)]; simp; omega), List.append_nil] at hR3
    exact hR3
  · exact (((ahead_ext w n).kp _).trans (putRow_kp _ _ _ _)).trans ((grow_ext _ os).kp _)
end Go.Proofs.YtpbblaeamddbgaaGreat
namespace Go.Proofs.YtpbblaeamddbgaaGreat
open Go.RowKit

theorem sclone_any (s : ByteArray) (w : World) (h : s.size ≤ 281474976710656) :
    Calls Tryz.prog 92 #[.string s] w fun e w' => e = .returned (.string s) ∧ Ext w w' := by
  have H : Hid _ := Tryz.stringslite_Clone s w h
  go_enter Tryz.func92, Tryz.ntmps92
  go_wp2_with fail
  refine Calls.mono H.out ?_
  rintro e w1 ⟨rfl, hB⟩
  go_wp2
  go_ret
  exact ⟨rfl, hB⟩
theorem flat_take {α : Type} (f : α → List Value) (n : Nat) (hf : ∀ x, (f x).length = n) : ∀ (l : List α) (k : Nat), (l.flatMap f).take (k * n) = (l.take k).flatMap f
  | [], k => by simp
  | x :: r, 0 => by simp
  | x :: r, k + 1 => by
    simp only [List.flatMap_cons, List.take_succ_cons]
    rw [List.take_append, List.take_of_length_le (by rw [hf]; rw [Nat.succ_mul]; omega), hf]
    congr 1
    rw [show (k + 1) * n - n = k * n by rw [Nat.succ_mul]; omega]
    exact flat_take f n hf r k
theorem flat_take_succ {α : Type} (f : α → List Value) (n : Nat) (hf : ∀ x, (f x).length = n) (l : List α) (k : Nat) (hk : k < l.length) : (l.flatMap f).take ((k + 1) * n) = (l.flatMap f).take (k * n) ++ f l[k] := by
  rw [flat_take f n hf, flat_take f n hf, List.take_succ_eq_append_getElem hk, List.flatMap_append, List.flatMap_singleton]
theorem Row.mid {w : World} {g : Nat} {T : TypeId} {l : List Value} (h : Row w g T l) (o n : Nat) (hn : o + n ≤ l.length) : w.there g o n := fun j hj => by
  rw [h.cell (j := o + j) (by omega)]
  exact ⟨rfl, h.frozen _⟩
theorem cd_one (c : Cd) : ∀ v ∈ c.cells, v.oneCell' = true := by
  intro v hv
  simp only [Cd.cells, List.mem_cons, List.not_mem_nil, or_false] at hv
  rcases hv with rfl | rfl | rfl | rfl | rfl | rfl <;> rfl
theorem cd_range {w : World} {b o : Nat} {l : List Cd} (h : Cds w b o l) (k : Nat) (hk : k < l.length) : w.rangeAt b (o + k * 6) l[k].cells := fun j v hj => by
  obtain ⟨h0, h1, h2, h3, h4, h5⟩ := h k hk
  have hj6 : j < 6 := by have := (List.getElem?_eq_some_iff.1 hj).1; simpa [Cd.cells] using this
  rcases (show j = 0 ∨ j = 1 ∨ j = 2 ∨ j = 3 ∨ j = 4 ∨ j = 5 by omega) with rfl | rfl | rfl | rfl | rfl | rfl <;> simp [Cd.cells] at hj <;> subst hj <;> assumption
theorem range_ext' {w w' : World} {b o : Nat} {cs : List Value} (h : w.rangeAt b o cs) (hE : Ext w w') : w'.rangeAt b o cs := fun j v hv => hE.cell (h j v hv)
theorem seg_take (Z T cs : List Value) (o : Nat) (h : Z.take o = T.take o) (ho : o ≤ Z.length) (hT : T.take (o + cs.length) = T.take o ++ cs) : (Z.take o ++ cs ++ Z.drop (o + cs.length)).take (o + cs.length) = T.take (o + cs.length) := by
  rw [List.take_left' (by simp; omega), hT, h]

theorem Tryz.sizeFi : (Tryz.prog.info? 130).map (·.size) = some 2 := by kernel_rfl
set_option maxHeartbeats 800000 in
theorem newFilter_any (id : Int) (ao : Option Addr) (cap : Nat) (l : List Cd) (w : World) (hl : l.length ≤ 8) (hs : Cxs w ao l) (hz : ∀ j (hj : j < l.length), l[j].a.s.size ≤ 281474976710656 ∧ l[j].b.s.size ≤ 281474976710656) :
    Calls Tryz.prog 49 #[.int .i64 id, .slice ao l.length cap] w fun e w' => ∃ (m : List Cd), e = .returned (.agg #[.int .i64 id, .slice (some ⟨w.heap.size + 1, 0, none⟩) m.length l.length]) ∧ (∀ c, c ∈ m ↔ c ∈ l) ∧ Rise cmpCd m ∧ m.length ≤ l.length ∧ (∃ Z, Row w' (w.heap.size + 1) 80 Z ∧ Z.length = l.length * 6 ∧ Z.take (m.length * 6) = m.flatMap Cd.cells) ∧ Ext w w' := by
  have HS : Hid (Cxs w ao l) := hs
  have HZ : Hid (∀ j (hj : j < l.length), l[j].a.s.size ≤ 281474976710656 ∧ l[j].b.s.size ≤ 281474976710656) := hz
  clear hs hz
  obtain ⟨wa, hwa⟩ : ∃ wa, wa = w.alloc (.cells #[.int .i64 0, .slice none 0 0] 130) := ⟨_, rfl⟩
  have HA : Hid (Row wa w.heap.size 130 [.int .i64 0, .slice none 0 0]) := by rw [hwa]; exact row_alloc _ _ _ _ _ rfl rfl
  have HEa : Hid (Ext w wa) := by rw [hwa]; exact (Ext.refl _).alloc _
  have HSa : Hid (wa.heap.size = w.heap.size + 1) := by show _ = _; rw [hwa]; simp
  go_enter Tryz.func49, Tryz.ntmps49
  go_wp2_with (first
    | (at_make; refine wpList_make_row _ rfl _ _ 26 rfl 80 (.agg #[.int .i64 0, .int .i64 0, .int .i64 0, .string ⟨#[]⟩, .int .i64 0, .string ⟨#[]⟩]) 6 64 Tryz.underlying26 Tryz.infoCd _ _ _ _ l.length rfl rfl (by omega) (by omega) (by omega) (by unfold maxLen; omega) ?_; intro w1 Z hrow hlen hE1))
  rw [← hwa] at hrow hE1
  rw [HSa.out] at hrow
  clear hwa
  go_loopw [13] (fun i wr => ∃ k : Nat, k ≤ l.length ∧ i = .int .i64 k ∧ Ext wa wr ∧ ∃ Z, Row wr (w.heap.size + 1) 80 Z ∧ Z.length = l.length * 6 ∧ Z.take (k * 6) = (l.flatMap Cd.cells).take (k * 6)) (fun i _ => l.length - (intOf i).toNat)
  case atStart => exact ⟨0, Nat.zero_le _, rfl, hE1, Z, hrow, hlen.out, by simp⟩
  case round =>
    obtain ⟨k, hk, rfl, hE, Y, hY, hYl, hYt⟩ := hrel
    have HY : Hid (Y.length = l.length * 6 ∧ Y.take (k * 6) = (l.flatMap Cd.cells).take (k * 6)) := ⟨hYl, hYt⟩
    clear hYl hYt hrow hlen hE1
    by_cases hlt : k < l.length
    · obtain ⟨b, o, rfl, hC⟩ := HS.out (by omega)
      have hr := range_ext' (cd_range hC k hlt) (Ext.trans HEa.out hE)
      obtain ⟨z1, z2⟩ := HZ.out k hlt
      have HT : Hid _ := flat_take_succ Cd.cells 6 (fun _ => rfl) l k hlt
      generalize l[k] = c at *
      have ta : True := trivial
      have tb : True := trivial
      go_wp2_with (first
        | (refine wpList_load_mid rfl 80 _ rfl b (o + k * 6) rfl c.cells _ hr Tryz.underlying80 rfl Tryz.sizeCd ?_; clear hr)
        | (have _t := ta; refine wpList_store_row rfl 80 _ _ rfl wr.heap.size c.cells _ rfl rfl 80 (row_alloc _ _ _ _ _ rfl rfl) rfl Tryz.sizeCd (cd_one c) ?_; intro w2 hR hk2; have r3 := hR.at (j := 3) rfl; clear ta))
      refine (sclone_any c.a.s w2 z1).mono ?_
      rintro e w3 ⟨rfl, hE3⟩
      have hR3 := hR.ext hE3
      have q3 := hR3.at (j := 3) rfl
      have f3 := hR3.frozen
      have hR4 : Row (w3.setCell ⟨wr.heap.size, 3, none⟩ (.string c.a.s)) wr.heap.size 80 c.cells := hR3.set 3 _
      have q5 := hR4.at (j := 5) rfl
      clear r3
      go_wp2_with fail
      refine (sclone_any c.b.s _ z2).mono ?_
      rintro e w4 ⟨rfl, hE4⟩
      have hR5 := hR4.ext hE4
      have s5 := hR5.at (j := 5) rfl
      have f5 := hR5.frozen
      have hR6 : Row (w4.setCell ⟨wr.heap.size, 5, none⟩ (.string c.b.s)) wr.heap.size 80 c.cells := hR5.set 5 _
      have hEr : Ext wr (w4.setCell ⟨wr.heap.size, 5, none⟩ (.string c.b.s)) := (((((Ext.refl wr).alloc _).kpFresh hk2 (Nat.le_refl _)).trans hE3).setCell (Nat.le_refl _) _ |>.trans hE4).setCell (Nat.le_refl _) _
      have hY6 : Row (w4.setCell ⟨wr.heap.size, 5, none⟩ (.string c.b.s)) (w.heap.size + 1) 80 Y := hY.ext hEr
      clear q3 q5 f3 hk2
      go_wp2_with (first
        | (refine wpList_load_row rfl 80 _ rfl wr.heap.size rfl c.cells _ 80 hR6 Tryz.underlying80 rfl Tryz.sizeCd ?_; clear hR6)
        | (have _t := tb; refine wpList_store_mid rfl 80 _ _ rfl (w.heap.size + 1) (k * 6) c.cells.toArray rfl rfl (hY6.mid (k * 6) 6 (by rw [HY.out.1]; omega)) Tryz.sizeCd (all_oneCell_toArray (cd_one c)) ?_; clear tb))
      go_roundw
      case rel =>
        have hl6 : c.cells.length = 6 := rfl
        have hrow' := row_setCells c.cells (k * 6) _ Y hY6 (by rw [HY.out.1, hl6]; omega)
        have hEf : Ext wa ((w4.setCell ⟨wr.heap.size, 5, none⟩ (.string c.b.s)).setCells (w.heap.size + 1) (k * 6) c.cells) := (hE.trans hEr).kpFresh (kp_setCells (M := fun b => b = w.heap.size + 1) rfl _ _ _ _ (Kp.refl _ _)) (by rw [HSa.out]; exact Nat.le_refl _)
        have hst := seg_take Y (l.flatMap Cd.cells) c.cells (k * 6) HY.out.2 (by rw [HY.out.1]; omega) (by rw [hl6, show k * 6 + 6 = (k + 1) * 6 by omega]; exact HT.out)
        rw [hl6] at hst hrow'
        refine ⟨k + 1, by omega, by go_num, hEf, _, hrow', ?_, ?_⟩
        · simp [hl6, HY.out.1]; omega
        · rw [show (k + 1) * 6 = k * 6 + 6 by omega]; exact hst
      case measure => simp [intOf]; omega
    · have e1 : Y = l.flatMap Cd.cells := by
        have := HY.out.2
        rwa [List.take_of_length_le (by rw [HY.out.1]; omega), List.take_of_length_le (by rw [flat_len _ 6 (fun _ => rfl)]; omega)] at this
      subst e1
      clear HY HS HZ
      have hAr := HA.out.ext hE
      go_wp2_with fail
      refine (sortFunc_any (w.heap.size + 1) l wr hY hl).mono ?_
      rintro e w2 ⟨rfl, M, hMl, hMm, hMs, hMr, hMk⟩
      have hA2 := hMk.row hAr (by omega)
      have HE2 : Hid (Ext wa w2) := hE.kpFresh hMk (by rw [HSa.out]; exact Nat.le_refl _)
      have HM2 : Hid ((∀ c, c ∈ M ↔ c ∈ l) ∧ M.Pairwise (fun x y => cmpCd x y ≤ 0)) := ⟨hMm, hMs⟩
      clear hAr hY hMm hMs hMk hE
      have hcm := compact_any (w.heap.size + 1) M w2 hMr (by omega)
      rw [hMl] at hcm
      have HCM : Hid _ := hcm
      clear hcm hMr
      go_wp2_with fail
      refine Calls.mono HCM.out ?_
      rintro e w3 ⟨rfl, hZ3, hK3⟩
      have hA3 := hK3.row hA2 (by omega)
      have HFin : Hid ((∀ c, c ∈ cpt M ↔ c ∈ l) ∧ Rise cmpCd (cpt M) ∧ (cpt M).length ≤ l.length) := ⟨fun c => (cpt_mem M c).trans (HM2.out.1 c), cpt_rise M HM2.out.2, by have := cpt_len M; omega⟩
      have HE3 : Hid (Ext wa w3) := Ext.kpFresh HE2.out hK3 (by rw [HSa.out]; exact Nat.le_refl _)
      have HZ3 : Hid _ := hZ3
      clear hZ3 hK3 hA2 HCM HM2 HE2
      go_wp2_with (first
        | (refine wpList_store_row rfl 130 (.tmp 4) (.tmp 40) rfl w.heap.size [.int .i64 id, .slice (some ⟨w.heap.size + 1, 0, none⟩) (cpt M).length l.length] _ rfl rfl 130 hA3 rfl Tryz.sizeFi (by intro v hv; simp at hv; rcases hv with rfl | rfl <;> rfl) ?_; intro w4 hA4 hk4; clear hA3))
      refine bodyPost_ret (results_cell0 Tryz.results49 _ _ w.heap.size [.int .i64 id, .slice (some ⟨w.heap.size + 1, 0, none⟩) (cpt M).length l.length] _ 130 hA4 Tryz.underlying130 rfl Tryz.sizeFi rfl) rfl ?_
      obtain ⟨Z3, z1, z2, z3⟩ := HZ3.out
      exact ⟨cpt M, rfl, HFin.out.1, HFin.out.2.1, HFin.out.2.2, ⟨Z3, hk4.row z1 (by omega), z2, z3⟩, (HEa.out.trans HE3.out).kpFresh hk4 (Nat.le_refl _)⟩
end Go.Proofs.YtpbblaeamddbgaaGreat
