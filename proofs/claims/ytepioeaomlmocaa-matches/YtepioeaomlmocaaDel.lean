import Derived.Test.YtepioeaomlmocaaIns
namespace Go.Proofs.Ytepioeaomlmocaa
open Go.RowKit

theorem del_list (L xs : List Value) (k i : Nat) (z : List Value) (hi : i ≤ k) (hL : k * 2 + 2 ≤ L.length) (hx : L.take ((k + 1) * 2) = xs) (hz : z.length = 2) :
    let M := L.take (i * 2) ++ xs.drop ((i + 1) * 2) ++ L.drop (i * 2 + (xs.drop ((i + 1) * 2)).length)
    (M.take (k * 2) ++ z ++ M.drop (k * 2 + z.length)).take (k * 2) = xs.take (i * 2) ++ xs.drop ((i + 1) * 2) ∧ (M.take (k * 2) ++ z ++ M.drop (k * 2 + z.length)).length = L.length ∧ M.length = L.length := by
  intro M
  have hxl : xs.length = (k + 1) * 2 := by rw [← hx]; simp; omega
  have hML : M.length = L.length := by simp [M, hxl]; omega
  refine ⟨?_, by simp [hML, hz]; omega, hML⟩
  rw [List.append_assoc, List.take_left' (by simp [hML]; omega)]
  simp only [M]
  rw [List.take_left' (by simp [hxl]; omega)]
  congr 1
  rw [← hx, List.take_take]
  congr 1; omega

set_option maxHeartbeats 1600000 in
set_option maxRecDepth 100000 in
theorem delete_any (g k cap i : Nat) (L xs : List Value) (w : World) (hR : Row w g 85 L) (hL : L.length = cap * 2) (hm : cap ≤ maxLen) (hnc : k + 1 ≤ cap) (hx : L.take ((k + 1) * 2) = xs) (hi : i ≤ k) (hn : k ≤ 99) (h1 : ∀ v ∈ xs, v.oneCell' = true) :
    Calls Try.prog 65 #[.slice (some ⟨g, 0, none⟩) (k + 1) cap, .int .i64 i, .int .i64 ((i : Int) + 1)] w fun e w' => e = .returned (.slice (some ⟨g, 0, none⟩) k cap) ∧ OSl w' 85 2 (some ⟨g, 0, none⟩) k cap (xs.take (i * 2) ++ xs.drop ((i + 1) * 2)) ∧ Kp (fun k => k = g) w w' := by
  have hxl : xs.length = (k + 1) * 2 := by rw [← hx]; simp; omega
  obtain ⟨i0, hi0, hz0, hzs, hzb⟩ := info_parts Try.infoSu
  obtain ⟨news, hnews⟩ : ∃ news, news = xs.drop ((i + 1) * 2) := ⟨_, rfl⟩
  have hnl : news.length = (k - i) * 2 := by rw [hnews]; simp [hxl]; omega
  have hsrcx : ∀ j v, xs[j]? = some v → L[j]? = some v := fun j v hj => by
    rw [← hx, List.getElem?_take] at hj
    split at hj
    · exact hj
    · cases hj
  have hRd : Row w.drew g 85 L := hR
  obtain ⟨A, hA, hsrc⟩ : ∃ A : Addr, (if cap = i + 1 then some (⟨g, 0, none⟩ : Addr) else some ⟨g, (i + 1) * 2, none⟩) = some A ∧ Hid (∀ t u, news[t]? = some u → w.drew.cell? (A.add t) = some u) := by
    by_cases h : cap = i + 1
    · refine ⟨⟨g, 0, none⟩, by simp [h], fun t u hu => ?_⟩
      have h0 : news.length = 0 := by rw [hnl]; omega
      rw [List.length_eq_zero_iff.1 h0] at hu
      simp at hu
    · refine ⟨⟨g, (i + 1) * 2, none⟩, by simp [h], fun t u hu => ?_⟩
      rw [add_at]
      rw [hnews, List.getElem?_drop] at hu
      exact hRd.at (hsrcx _ u hu)
  have s2 : Hid (∀ u ∈ news, u.oneCell' = true) := fun u hu => by rw [hnews] at hu; exact h1 u (List.mem_of_mem_drop hu)
  have s3 : Hid (∀ t, t < news.length → (w.drew.cell? ⟨g, 0 + i * 2 + t, none⟩).isSome = true ∧ w.drew.frozen? ⟨g, 0 + i * 2 + t, none⟩ = false) := by
    intro t ht
    rw [Nat.zero_add, hRd.cell (j := i * 2 + t) (by omega)]
    exact ⟨rfl, hRd.frozen _⟩
  have s1 : Hid (news.length = (k - i) * 2) := hnl
  obtain ⟨z, hz⟩ : ∃ z : List Value, z = [.int .i64 0, .slice none 0 0] := ⟨_, rfl⟩
  have hzl : z.length = 2 := by rw [hz]; rfl
  obtain ⟨d1, d2, d3⟩ := del_list L xs k i z hi (by omega) hx hzl
  obtain ⟨W1, hW1⟩ : ∃ W1, W1 = w.drew.setCells g (0 + i * 2) news := ⟨_, rfl⟩
  obtain ⟨M, hM⟩ : ∃ M, M = L.take (i * 2) ++ xs.drop ((i + 1) * 2) ++ L.drop (i * 2 + (xs.drop ((i + 1) * 2)).length) := ⟨_, rfl⟩
  simp only [← hM] at d1 d2 d3
  have r1 : Row W1 g 85 M := by
    rw [hW1, Nat.zero_add, hM, hnews]
    refine row_setCells _ (i * 2) _ L hRd ?_
    rw [← hnews]; omega
  have k1 : Kp (fun b => b = g) w W1 := by
    rw [hW1]
    exact kp_setCells (M := fun b => b = g) rfl _ _ _ _ (((Ext.refl w).drew).kp _)
  have hz1 : ∀ v ∈ z, v.oneCell' = true := by
    rw [hz]; intro v hv; simp at hv; rcases hv with rfl | rfl <;> rfl
  obtain ⟨N, hN⟩ : ∃ N, N = M.take (k * 2) ++ z ++ M.drop (k * 2 + z.length) := ⟨_, rfl⟩
  rw [← hN] at d1 d2
  have hcl : ∀ ty, (Builtin.clear_ #[77] ty #[.slice (some ⟨g, k * 2, none⟩) 1 (cap - k)]).run Try.prog W1 = .ok (.tuple #[]) (W1.setRow g N.toArray) := fun ty => by
    have hst := run_storeCells_at Try.prog g (k * 2) 85 z 0 M.toArray W1 r1 (by simp; omega) hz1
    have hzc : (Builtin.zeroCells (Value.agg #[.int .i64 0, .slice none 0 0]).cells 1).toList = z := by rw [hz]; kernel_rfl
    have hzv := Try.zeroValue85 W1
    simp only [Nat.add_zero] at hst
    simp only [← hN] at hst
    simp [Builtin.clear_, run_underlying Try.underlying77, hzv, hzc, hst]
  have hfin : OSl (W1.setRow g N.toArray) 85 2 (some ⟨g, 0, none⟩) k cap (xs.take (i * 2) ++ xs.drop ((i + 1) * 2)) ∧ Kp (fun k => k = g) w (W1.setRow g N.toArray) :=
    ⟨osl_of_row (r1.setRow N) k cap (by omega) hm (by omega) d1, k1.setRow rfl _⟩
  have HF : Hid _ := hfin
  have hW : Hid (W1 = w.drew.setCells g (0 + i * 2) news) := hW1
  have hik : i + (k - i) = k := by omega
  have hin : i ≤ k + 1 := by omega
  have hc63 : cap ≤ 9223372036854775807 := by unfold maxLen at hm; omega
  have hb0 : (0 : Int) ≤ (i : Int) + 1 := by omega
  have hb1 : (i : Int) + 1 ≤ (k : Int) + 1 := by omega
  have hb2 : i + 1 ≤ cap := by omega
  have hb3 : i ≤ cap := by omega
  have hb4 : ¬ cap = i := by omega
  have hb5 : ¬ cap = k := by omega
  have hb6 : k ≤ cap := by omega
  have hb7 : ((i : Int) + 1).toNat = i + 1 := by omega
  have hb8 : (i : Int) ≤ (k : Int) := by omega
  have hb9 : ¬ (i : Int) = (i : Int) + 1 := by omega
  clear hfin d1 d2 d3 r1 k1 hW1 hM hN hz hzl hz1 hx hxl hR hRd hL hm h1 hnews hnl hsrcx
  go_enter Try.func65, Try.ntmps65
  go_wp2_with fail
  go_region_law (refine step_append_room rfl (.tmp 22) (.tmp 25) 77 rfl 85 i0 2 Try.underlying77 hi0 hzs g 0 i cap (by simp [Act.eval, Act.put]) A (k - i) (cap - (i + 1)) news (by simp [Act.eval, Act.put]) s1.out hsrc.out s2.out (by omega) s3.out ?_; rw [← hW.out, hik])
  go_wp2
  go_ret
  exact ⟨rfl, HF.out⟩
end Go.Proofs.Ytepioeaomlmocaa
