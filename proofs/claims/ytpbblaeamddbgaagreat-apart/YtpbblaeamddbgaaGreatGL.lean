import Derived.Test.YtpbblaeamddbgaaGreatGK
import Derived.Test.YtpbblaeamddbgaaGreatGG
namespace Go.Proofs.YtpbblaeamddbgaaGreat
open Go.RowKit

theorem Tryz.sizeOw : (Tryz.prog.info? 193).map (·.size) = some 2 := by kernel_rfl
theorem ow_one (o : Int × Int) : ∀ v ∈ owCells o, v.oneCell' = true := by
  intro v hv
  simp only [owCells, List.mem_cons, List.not_mem_nil, or_false] at hv
  rcases hv with rfl | rfl <;> rfl
theorem rem2_any (o : Int × Int) (fb : Nat) (id : Int) (w : World) (hb : w.cell? ⟨fb, 0, none⟩ = some (.int .i64 id)) :
    Calls Tryz.prog 103 #[.agg #[.int .i64 o.1, .int .i64 o.2], .pointer (some ⟨fb, 0, none⟩)] w fun e w' => e = .returned (.bool (o.1 == id)) ∧ Ext w w' := by
  have hbl := World.block_lt_of_cell? w _ hb
  generalize hr : (o.1 == id) = r
  have hba : ∀ ob, (w.alloc ob).cell? ⟨fb, 0, none⟩ = _ := fun ob => ((Ext.refl w).alloc ob).cell hb
  go_enter Tryz.func103, Tryz.ntmps103
  go_wp2
  go_ret
  exact ⟨ret_bool (by rw [← hr]), (Ext.refl _).alloc _⟩
theorem rem1_any (x : Int) (fb : Nat) (id : Int) (w : World) (hb : w.cell? ⟨fb, 0, none⟩ = some (.int .i64 id)) :
    Calls Tryz.prog 101 #[.int .i64 x, .pointer (some ⟨fb, 0, none⟩)] w fun e w' => e = .returned (.bool (x == id)) ∧ w' = w := by
  generalize hr : (x == id) = r
  go_enter Tryz.func101, Tryz.ntmps101
  go_wp2
  go_ret
  exact ⟨ret_bool (by rw [← hr]), rfl⟩

/-- The first with that number; the length, if there is none. -/
def FirstAt (os : List (Int × Int)) (id : Int) (q : Nat) : Prop := q ≤ os.length ∧ (∀ j (hj : j < os.length), j < q → os[j].1 ≠ id) ∧ ∀ hq : q < os.length, os[q].1 = id
theorem ex_first (os : List (Int × Int)) (id : Int) : ∃ q, FirstAt os id q := by
  have h : ∃ q, q = os.length ∨ ∃ hq : q < os.length, os[q].1 = id := ⟨os.length, Or.inl rfl⟩
  obtain ⟨q, hq, hmin⟩ := exists_least h
  refine ⟨q, by rcases hq with rfl | ⟨hq, _⟩ <;> omega, fun j hj hlt e => ?_, fun hq' => ?_⟩
  · have := hmin j (Or.inr ⟨hj, e⟩); omega
  · rcases hq with rfl | ⟨_, hf⟩
    · omega
    · exact hf
set_option maxHeartbeats 400000 in
theorem ixf_any (ao : Option Addr) (cap : Nat) (os : List (Int × Int)) (fb : Nat) (id : Int) (q : Nat) (w : World) (hO : OSl w 193 2 ao os.length cap (os.flatMap owCells)) (hb : w.cell? ⟨fb, 0, none⟩ = some (.int .i64 id)) (hq : FirstAt os id q) (_hl : os.length ≤ 1000) :
    Calls Tryz.prog 146 #[.slice ao os.length cap, .func (Fn.func 103) #[] #[.pointer (some ⟨fb, 0, none⟩)]] w fun e w' => e = .returned (.int .i64 (if q < os.length then (q : Int) else -1)) ∧ Ext w w' := by
  obtain ⟨h1, h2, h3⟩ := hq
  have H2 : Hid (∀ j (hj : j < os.length), j < q → os[j].1 ≠ id) := h2
  have H3 : Hid (∀ hq : q < os.length, os[q].1 = id) := h3
  clear h2 h3
  go_enter Tryz.func146, Tryz.ntmps146
  go_wp2_with fail
  go_loopw [8] (fun vi wr => ∃ k : Nat, k ≤ q ∧ vi = .int .i64 k ∧ Ext w wr) (fun vi _ => os.length - (intOf vi).toNat)
  case atStart => exact ⟨0, Nat.zero_le _, rfl, Ext.refl _⟩
  case round =>
    obtain ⟨k, hk, rfl, hE⟩ := hrel
    by_cases hlt : k < os.length
    · obtain ⟨g, rfl, e0⟩ := (hO.ext hE).at (ow_at os k hlt).1
      obtain ⟨_, q1, e1⟩ := (hO.ext hE).at (ow_at os k hlt).2
      cases q1
      have HC : Hid _ := rem2_any os[k] fb id wr (hE.cell hb)
      have hki : (k : Int) < (os.length : Int) := by omega
      by_cases hkq : k = q
      · subst hkq
        have he : (os[k].1 == id) = true := by simpa using H3.out hlt
        rw [he] at HC
        have hif : (if k < os.length then (k : Int) else -1) = (k : Int) := if_pos hlt
        clear he hO
        generalize os[k] = o at *
        go_wp2_with fail
        refine Calls.mono HC.out ?_
        rintro e w2 ⟨rfl, hE2⟩
        go_wp2
        go_ret
        exact ⟨rfl, hE.trans hE2⟩
      · have he : (os[k].1 == id) = false := by simpa using H2.out k hlt (by omega)
        rw [he] at HC
        clear he hO
        generalize os[k] = o at *
        go_wp2_with fail
        refine Calls.mono HC.out ?_
        rintro e w2 ⟨rfl, hE2⟩
        go_wp2
        go_roundw
        case rel => exact ⟨k + 1, by omega, by go_num, hE.trans hE2⟩
        case measure => simp [intOf]; omega
    · have hif : (if q < os.length then (q : Int) else -1) = -1 := if_neg (by omega)
      clear hO
      go_wp2
      go_ret
      exact ⟨rfl, hE⟩
/-- Without those of that number. -/
def dropId (os : List (Int × Int)) (id : Int) : List (Int × Int) := os.filter (fun o => !(o.1 == id))
theorem dropId_succ (os : List (Int × Int)) (id : Int) (k : Nat) (hk : k < os.length) : dropId (os.take (k + 1)) id = if os[k].1 == id then dropId (os.take k) id else dropId (os.take k) id ++ [os[k]] := by
  unfold dropId
  rw [take_filter_succ _ _ _ hk]
  cases h : os[k].1 == id <;> simp
theorem dropId_first {os : List (Int × Int)} {id : Int} {q : Nat} (h : FirstAt os id q) : dropId (os.take q) id = os.take q := by
  unfold dropId
  refine List.filter_eq_self.2 (fun o ho => ?_)
  obtain ⟨j, hj, rfl⟩ := List.getElem_of_mem ho
  rw [List.getElem_take]
  simp at hj
  have := h.2.1 j (by omega) (by omega)
  simpa using this
theorem flat_takeO (l : List (Int × Int)) (k : Nat) : (l.flatMap owCells).take (k * 2) = (l.take k).flatMap owCells := by
  rcases Nat.lt_or_ge k l.length with h | h
  · have e : l.flatMap owCells = (l.take k).flatMap owCells ++ (l.drop k).flatMap owCells := by rw [← List.flatMap_append, List.take_append_drop]
    rw [e, List.take_left' (by rw [flat_len owCells 2 (fun _ => rfl)]; simp; omega)]
  · rw [List.take_of_length_le (by rw [flat_len owCells 2 (fun _ => rfl)]; omega), List.take_of_length_le h]

set_option maxHeartbeats 3200000 in
set_option maxRecDepth 100000 in
theorem delf_any (ao : Option Addr) (cap : Nat) (os : List (Int × Int)) (fb : Nat) (id : Int) (w : World) (hO : OSl w 193 2 ao os.length cap (os.flatMap owCells)) (hb : w.cell? ⟨fb, 0, none⟩ = some (.int .i64 id)) (hfb : blkOf ao ≠ some fb) (hl : os.length ≤ 1000) :
    Calls Tryz.prog 102 #[.slice ao os.length cap, .func (Fn.func 103) #[] #[.pointer (some ⟨fb, 0, none⟩)]] w fun e w' => e = .returned (.slice ao (dropId os id).length cap) ∧ OSl w' 193 2 ao (dropId os id).length cap ((dropId os id).flatMap owCells) ∧ Kp (fun b => blkOf ao = some b) w w' := by
  obtain ⟨q, hq⟩ := ex_first os id
  have HI : Hid _ := ixf_any ao cap os fb id q w hO hb hq hl
  have hdf := dropId_first hq
  by_cases hql : q < os.length
  · rw [if_pos hql] at HI
    obtain ⟨g, L, rfl, hR, hnc, hm, hL, hx⟩ := row_of_osl hO (by omega)
    have HQ : Hid (FirstAt os id q) := hq
    have hd1 : Hid (dropId (os.take (q + 1)) id = os.take q) := by
      show _ = _
      rw [dropId_succ os id q hql, if_pos (by simpa using hq.2.2 hql), hdf]
    have hfg : fb ≠ g := fun e => hfb (by rw [e]; rfl)
    have HLL : Hid (L.length = cap * 2 ∧ L.take (os.length * 2) = os.flatMap owCells) := ⟨hL, hx⟩
    have hqm : ((q : Int) == -1) = false := by simp
    clear hO hq hdf hfb hL hx
    go_enter Tryz.func102, Tryz.ntmps102
    go_wp2_with fail
    refine Calls.mono HI.out ?_
    rintro e w1 ⟨rfl, hE1⟩
    have hR1 := hR.ext hE1
    have hb1 := hE1.cell hb
    clear hR hb HI
    go_wp2_with fail
    go_loopw [5, 6] (fun v5 v6 wr => ∃ (i j : Nat) (Z : List Value), v5 = .int .i64 i ∧ v6 = .int .i64 j ∧ q + 1 ≤ j ∧ j ≤ os.length ∧ (dropId (os.take j) id).length = i ∧ i < j ∧ Row wr g 193 Z ∧ Z.length = cap * 2 ∧ Z.take (i * 2) = (dropId (os.take j) id).flatMap owCells ∧ Z.drop (j * 2) = L.drop (j * 2) ∧ wr.cell? ⟨fb, 0, none⟩ = some (.int .i64 id) ∧ Kp (fun b => b = g) w wr) (fun _ v6 _ => os.length - (intOf v6).toNat)
    case atStart =>
      refine ⟨q, q + 1, L, rfl, by go_num, Nat.le_refl _, by omega, by rw [hd1.out]; simp; omega, by omega, hR1, HLL.out.1, ?_, rfl, hb1, hE1.kp _⟩
      rw [hd1.out, ← flat_takeO, ← HLL.out.2, List.take_take]
      congr 1; omega
    case round =>
      obtain ⟨i, j, Z, rfl, rfl, hqj, hjn, hil, hij, hZ, hZl, hZt, hZd, hbr, hKr⟩ := hrel
      have HZ : Hid (Z.length = cap * 2 ∧ Z.take (i * 2) = (dropId (os.take j) id).flatMap owCells ∧ Z.drop (j * 2) = L.drop (j * 2) ∧ (dropId (os.take j) id).length = i) := ⟨hZl, hZt, hZd, hil⟩
      have HK : Hid (Kp (fun b => b = g) w wr) := hKr
      clear hZt hZd hil hKr hR1 hb1 hE1
      by_cases hjl : j < os.length
      · have hat : ∀ r v, r < 2 → (owCells os[j])[r]? = some v → wr.cell? ⟨g, j * 2 + r, none⟩ = some v := fun r v hr hv => by
          refine hZ.at ?_
          have h1 := flat_at owCells 2 (fun _ => rfl) os j r hjl hr
          rw [← HLL.out.2, List.getElem?_take, if_pos (by omega)] at h1
          have h2 : (Z.drop (j * 2))[r]? = (L.drop (j * 2))[r]? := by rw [HZ.out.2.2.1]
          rw [List.getElem?_drop, List.getElem?_drop, h1] at h2
          rw [h2]; exact hv
        have y0 : wr.cell? ⟨g, j * 2, none⟩ = some (.int .i64 os[j].1) := hat 0 _ (by omega) rfl
        have y1 : wr.cell? ⟨g, j * 2 + 1, none⟩ = some (.int .i64 os[j].2) := hat 1 _ (by omega) rfl
        have hst : Hid _ := dropId_succ os id j hjl
        have HC : Hid (∀ W, Ext wr W → Calls Tryz.prog 103 #[.agg #[.int .i64 os[j].1, .int .i64 os[j].2], .pointer (some ⟨fb, 0, none⟩)] W fun e w' => e = .returned (.bool (os[j].1 == id)) ∧ Ext W w') := fun W h => rem2_any os[j] fb id W (h.cell hbr)
        have hji : (j : Int) < (os.length : Int) := by omega
        have hii : (i : Int) < (os.length : Int) := by omega
        have hgl := hZ.lt
        clear hat
        cases hB : (os[j].1 == id) with
        | true =>
          have HS2 : Hid (dropId (os.take (j + 1)) id = dropId (os.take j) id) := by show _ = _; rw [hst.out, if_pos hB]
          rw [hB] at HC
          clear hB
          generalize os[j] = o at *
          go_wp2_with fail
          refine Calls.mono (HC.out _ (by exact (Ext.refl wr).alloc _)) ?_
          rintro e w2 ⟨rfl, hE2⟩
          clear HC y0 y1
          go_wp2
          go_roundw
          case rel =>
            have hEw : Ext wr w2 := ((Ext.refl wr).alloc _).trans hE2
            refine ⟨i, j + 1, Z, rfl, by go_num, by omega, by omega, by rw [HS2.out]; exact HZ.out.2.2.2, by omega, hZ.ext hEw, HZ.out.1, by rw [HS2.out]; exact HZ.out.2.1, ?_, hEw.cell hbr, HK.out.trans (hEw.kp _)⟩
            have := congrArg (fun x => x.drop 2) HZ.out.2.2.1
            rw [show (j + 1) * 2 = j * 2 + 2 by omega]
            simpa [List.drop_drop] using this
          case measure => simp [intOf]; omega
        | false =>
          have HS2 : Hid (dropId (os.take (j + 1)) id = dropId (os.take j) id ++ [os[j]]) := by show _ = _; rw [hst.out, hB]; rfl
          rw [hB] at HC
          clear hB
          generalize os[j] = o at *
          have ta : True := trivial
          go_wp2_with fail
          refine Calls.mono (HC.out _ (by exact (Ext.refl wr).alloc _)) ?_
          rintro e w2 ⟨rfl, hE2⟩
          have hEw : Ext wr w2 := ((Ext.refl wr).alloc _).trans hE2
          have v0 : w2.cell? ⟨wr.heap.size, 0, none⟩ = some (.int .i64 o.1) := hE2.cell (cell_new _ _ _ _ _ rfl rfl)
          have v1 : w2.cell? ⟨wr.heap.size, 1, none⟩ = some (.int .i64 o.2) := hE2.cell (cell_new _ _ _ _ _ rfl rfl)
          have hZ2 := hZ.ext hEw
          have HM : Hid (w2.there g (i * 2) (owCells o).toArray.size) := hZ2.mid' (i * 2) 2 (by rw [HZ.out.1]; omega)
          clear HC y0 y1
          go_wp2_with (first
            | (have _t := ta; refine wpList_store_mid rfl 193 (.tmp 33) (.tmp 32) rfl g (i * 2) (owCells o).toArray rfl rfl HM.out Tryz.sizeOw (all_oneCell_toArray (ow_one o)) ?_; clear ta))
          go_roundw
          case rel =>
            have hl2 : (owCells o).length = 2 := rfl
            have hrow' := row_setCells (owCells o) (i * 2) _ Z hZ2 (by rw [HZ.out.1, hl2]; omega)
            rw [hl2] at hrow'
            have hks := kp_setCells (M := fun b => b = g) rfl (owCells o) (i * 2) w2 w2 (Kp.refl _ _)
            refine ⟨i + 1, j + 1, _, by go_num, by go_num, by omega, by omega, by rw [HS2.out]; simp; exact HZ.out.2.2.2, by omega, hrow', ?_, ?_, ?_, hks.cell (hEw.cell hbr) (by simpa using hfg), (HK.out.trans (hEw.kp _)).trans hks⟩
            · simp [hl2, HZ.out.1]; omega
            · rw [HS2.out, show (i + 1) * 2 = i * 2 + 2 by omega, List.take_left' (by simp [hl2, HZ.out.1]; omega), HZ.out.2.1]; simp
            · have := congrArg (fun x => x.drop 2) HZ.out.2.2.1
              simp only [List.drop_drop] at this
              have e5 : (Z.take (i * 2) ++ owCells o ++ Z.drop (i * 2 + 2)).drop (i * 2 + 2) = Z.drop (i * 2 + 2) := List.drop_left' (by simp [hl2, HZ.out.1]; omega)
              rw [show (j + 1) * 2 = (i * 2 + 2) + ((j - i) * 2) by omega, ← List.drop_drop, e5, List.drop_drop, show i * 2 + 2 + (j - i) * 2 = j * 2 + 2 by omega]
              exact this
          case measure => simp [intOf]; omega
      · have hje : j = os.length := by omega
        have htk : os.take j = os := List.take_of_length_le (by omega)
        obtain ⟨z, hz⟩ : ∃ z : List Value, z = (Builtin.zeroCells (Value.agg #[.int .i64 0, .int .i64 0]).cells (os.length - i)).toList := ⟨_, rfl⟩
        have hzl : z.length = (os.length - i) * 2 := by rw [hz]; simp [Builtin.zeroCells, Value.cells]
        have hcl : ∀ ty, (Builtin.clear_ #[176] ty #[.slice (some ⟨g, i * 2, none⟩) (os.length - i) (cap - i)]).run Tryz.prog wr = .ok (.tuple #[]) (wr.setRow g (Z.take (i * 2) ++ z ++ Z.drop (i * 2 + z.length)).toArray) := fun ty => by
          rw [hz]
          exact run_clear_row wr 176 193 193 ty Tryz.underlying176 _ (Tryz.zeroValue193 wr) (by decide) g (i * 2) (os.length - i) (cap - i) Z hZ (by omega) (by rw [HZ.out.1]; simp only [Value.cells]; show _ + _ * 2 ≤ _; omega)
        have hfin : OSl (wr.setRow g (Z.take (i * 2) ++ z ++ Z.drop (i * 2 + z.length)).toArray) 193 2 (some ⟨g, 0, none⟩) (dropId os id).length cap ((dropId os id).flatMap owCells) ∧ Kp (fun b => blkOf (some (⟨g, 0, none⟩ : Addr)) = some b) w (wr.setRow g (Z.take (i * 2) ++ z ++ Z.drop (i * 2 + z.length)).toArray) := by
          have e3 := HZ.out.2.1
          have e4 := HZ.out.2.2.2
          rw [htk] at e3 e4
          have hK2 : Kp (fun b => blkOf (some (⟨g, 0, none⟩ : Addr)) = some b) w wr := HK.out.mono (fun b _ e => by rw [e]; rfl)
          refine ⟨?_, hK2.setRow rfl _⟩
          rw [e4]
          refine osl_of_row (hZ.setRow _) 2 i cap (by omega) hm ?_ ?_
          · simp [hzl, HZ.out.1]; omega
          · rw [List.append_assoc, List.take_left' (by simp [HZ.out.1]; omega), e3]
        have hcl2 : Hid ((dropId os id).length = i) := by
          show _ = _
          have e := HZ.out.2.2.2
          rwa [htk] at e
        have HFin : Hid _ := hfin
        clear hfin hzl hz hZ HZ HK htk
        generalize (Z.take (i * 2) ++ z ++ Z.drop (i * 2 + z.length)).toArray = NN at *
        have hb3 : ¬ cap = i := by omega
        have hb4 : i ≤ os.length := by omega
        have hb5 : i ≤ cap := by omega
        have hc63 : cap ≤ 9223372036854775807 := by unfold maxLen at hm; omega
        have hjn2 : ¬ (j : Int) < (os.length : Int) := by omega
        go_wp2
        go_ret
        rw [hcl2.out]
        exact ⟨rfl, hcl2.out ▸ HFin.out⟩
  · rw [if_neg hql] at HI
    have hqn : os.take q = os := List.take_of_length_le (by omega)
    have hde : dropId os id = os := by rw [hqn] at hdf; exact hdf
    have HFin : Hid (∀ w', Ext w w' → OSl w' 193 2 ao os.length cap (os.flatMap owCells)) := fun w' h => hO.ext h
    rw [hde]
    clear hO hq hdf hqn hde
    generalize os.length = n at *
    go_enter Tryz.func102, Tryz.ntmps102
    go_wp2_with fail
    refine Calls.mono HI.out ?_
    rintro e w1 ⟨rfl, hE1⟩
    clear HI
    go_wp2
    go_ret
    exact ⟨rfl, HFin.out w1 hE1, hE1.kp _⟩
end Go.Proofs.YtpbblaeamddbgaaGreat
namespace Go.Proofs.YtpbblaeamddbgaaGreat
open Go.RowKit

theorem int_at (os : List Int) (k : Nat) (hk : k < os.length) : (os.map (Value.int .i64))[k]? = some (.int .i64 os[k]) := by simp [hk]
/-- The first with that number; the length, if there is none. -/
def FirstI (os : List Int) (id : Int) (q : Nat) : Prop := q ≤ os.length ∧ (∀ j (hj : j < os.length), j < q → os[j] ≠ id) ∧ ∀ hq : q < os.length, os[q] = id
theorem ex_firstI (os : List Int) (id : Int) : ∃ q, FirstI os id q := by
  have h : ∃ q, q = os.length ∨ ∃ hq : q < os.length, os[q] = id := ⟨os.length, Or.inl rfl⟩
  obtain ⟨q, hq, hmin⟩ := exists_least h
  refine ⟨q, by rcases hq with rfl | ⟨hq, _⟩ <;> omega, fun j hj hlt e => ?_, fun hq' => ?_⟩
  · have := hmin j (Or.inr ⟨hj, e⟩); omega
  · rcases hq with rfl | ⟨_, hf⟩
    · omega
    · exact hf
set_option maxHeartbeats 400000 in
theorem ixfI_any (ao : Option Addr) (cap : Nat) (os : List Int) (fb : Nat) (id : Int) (q : Nat) (w : World) (hO : OSl w 3 1 ao os.length cap (os.map (Value.int .i64))) (hb : w.cell? ⟨fb, 0, none⟩ = some (.int .i64 id)) (hq : FirstI os id q) (_hl : os.length ≤ 1000) :
    Calls Tryz.prog 145 #[.slice ao os.length cap, .func (Fn.func 101) #[] #[.pointer (some ⟨fb, 0, none⟩)]] w fun e w' => e = .returned (.int .i64 (if q < os.length then (q : Int) else -1)) ∧ Ext w w' := by
  obtain ⟨h1, h2, h3⟩ := hq
  have H2 : Hid (∀ j (hj : j < os.length), j < q → os[j] ≠ id) := h2
  have H3 : Hid (∀ hq : q < os.length, os[q] = id) := h3
  clear h2 h3
  go_enter Tryz.func145, Tryz.ntmps145
  go_wp2_with fail
  go_loopw [8] (fun vi wr => ∃ k : Nat, k ≤ q ∧ vi = .int .i64 k ∧ Ext w wr) (fun vi _ => os.length - (intOf vi).toNat)
  case atStart => exact ⟨0, Nat.zero_le _, rfl, Ext.refl _⟩
  case round =>
    obtain ⟨k, hk, rfl, hE⟩ := hrel
    by_cases hlt : k < os.length
    · obtain ⟨g, rfl, e0⟩ := (hO.ext hE).at (int_at os k hlt)
      have HC : Hid _ := rem1_any os[k] fb id wr (hE.cell hb)
      have hki : (k : Int) < (os.length : Int) := by omega
      by_cases hkq : k = q
      · subst hkq
        have he : (os[k] == id) = true := by simpa using H3.out hlt
        rw [he] at HC
        have hif : (if k < os.length then (k : Int) else -1) = (k : Int) := if_pos hlt
        clear he hO
        generalize os[k] = o at *
        go_wp2_with fail
        refine Calls.mono HC.out ?_
        rintro e w2 ⟨rfl, rfl⟩
        go_wp2
        go_ret
        exact ⟨rfl, hE⟩
      · have he : (os[k] == id) = false := by simpa using H2.out k hlt (by omega)
        rw [he] at HC
        clear he hO
        generalize os[k] = o at *
        go_wp2_with fail
        refine Calls.mono HC.out ?_
        rintro e w2 ⟨rfl, rfl⟩
        go_wp2
        go_roundw
        case rel => exact ⟨k + 1, by omega, by go_num, hE⟩
        case measure => simp [intOf]; omega
    · have hif : (if q < os.length then (q : Int) else -1) = -1 := if_neg (by omega)
      clear hO
      go_wp2
      go_ret
      exact ⟨rfl, hE⟩
/-- Without those of that number. -/
def dropI (os : List Int) (id : Int) : List Int := os.filter (fun o => !(o == id))
theorem dropI_succ (os : List Int) (id : Int) (k : Nat) (hk : k < os.length) : dropI (os.take (k + 1)) id = if os[k] == id then dropI (os.take k) id else dropI (os.take k) id ++ [os[k]] := by
  unfold dropI
  rw [take_filter_succ _ _ _ hk]
  cases h : os[k] == id <;> simp
theorem dropI_first {os : List Int} {id : Int} {q : Nat} (h : FirstI os id q) : dropI (os.take q) id = os.take q := by
  unfold dropI
  refine List.filter_eq_self.2 (fun o ho => ?_)
  obtain ⟨j, hj, rfl⟩ := List.getElem_of_mem ho
  rw [List.getElem_take]
  simp at hj
  have := h.2.1 j (by omega) (by omega)
  simpa using this
set_option maxHeartbeats 3200000 in
set_option maxRecDepth 100000 in
theorem delfI_any (ao : Option Addr) (cap : Nat) (os : List Int) (fb : Nat) (id : Int) (w : World) (hO : OSl w 3 1 ao os.length cap (os.map (Value.int .i64))) (hb : w.cell? ⟨fb, 0, none⟩ = some (.int .i64 id)) (hfb : blkOf ao ≠ some fb) (hl : os.length ≤ 1000) :
    Calls Tryz.prog 100 #[.slice ao os.length cap, .func (Fn.func 101) #[] #[.pointer (some ⟨fb, 0, none⟩)]] w fun e w' => e = .returned (.slice ao (dropI os id).length cap) ∧ OSl w' 3 1 ao (dropI os id).length cap ((dropI os id).map (Value.int .i64)) ∧ Kp (fun b => blkOf ao = some b) w w' := by
  obtain ⟨q, hq⟩ := ex_firstI os id
  have HI : Hid _ := ixfI_any ao cap os fb id q w hO hb hq hl
  have hdf := dropI_first hq
  by_cases hql : q < os.length
  · rw [if_pos hql] at HI
    obtain ⟨g, L, rfl, hR, hnc, hm, hL, hx⟩ := row_of_osl hO (by omega)
    have HQ : Hid (FirstI os id q) := hq
    have hd1 : Hid (dropI (os.take (q + 1)) id = os.take q) := by
      show _ = _
      rw [dropI_succ os id q hql, if_pos (by simpa using hq.2.2 hql), hdf]
    have hfg : fb ≠ g := fun e => hfb (by rw [e]; rfl)
    have HLL : Hid (L.length = cap ∧ L.take (os.length) = os.map (Value.int .i64)) := ⟨by omega, by simpa using hx⟩
    have hqm : ((q : Int) == -1) = false := by simp
    clear hO hq hdf hfb hL hx
    go_enter Tryz.func100, Tryz.ntmps100
    go_wp2_with fail
    refine Calls.mono HI.out ?_
    rintro e w1 ⟨rfl, hE1⟩
    have hR1 := hR.ext hE1
    have hb1 := hE1.cell hb
    clear hR hb HI
    go_wp2_with fail
    go_loopw [5, 6] (fun v5 v6 wr => ∃ (i j : Nat) (Z : List Value), v5 = .int .i64 i ∧ v6 = .int .i64 j ∧ q + 1 ≤ j ∧ j ≤ os.length ∧ (dropI (os.take j) id).length = i ∧ i < j ∧ Row wr g 3 Z ∧ Z.length = cap ∧ Z.take (i) = (dropI (os.take j) id).map (Value.int .i64) ∧ Z.drop (j) = L.drop (j) ∧ wr.cell? ⟨fb, 0, none⟩ = some (.int .i64 id) ∧ Kp (fun b => b = g) w wr) (fun _ v6 _ => os.length - (intOf v6).toNat)
    case atStart =>
      refine ⟨q, q + 1, L, rfl, by go_num, Nat.le_refl _, by omega, by rw [hd1.out]; simp; omega, by omega, hR1, HLL.out.1, ?_, rfl, hb1, hE1.kp _⟩
      rw [hd1.out, List.map_take, ← HLL.out.2, List.take_take]
      congr 1; omega
    case round =>
      obtain ⟨i, j, Z, rfl, rfl, hqj, hjn, hil, hij, hZ, hZl, hZt, hZd, hbr, hKr⟩ := hrel
      have HZ : Hid (Z.length = cap ∧ Z.take (i) = (dropI (os.take j) id).map (Value.int .i64) ∧ Z.drop (j) = L.drop (j) ∧ (dropI (os.take j) id).length = i) := ⟨hZl, hZt, hZd, hil⟩
      have HK : Hid (Kp (fun b => b = g) w wr) := hKr
      clear hZt hZd hil hKr hR1 hb1 hE1
      by_cases hjl : j < os.length
      · have y0 : wr.cell? ⟨g, j, none⟩ = some (.int .i64 os[j]) := by
          refine hZ.at ?_
          have h1 : (os.map (Value.int .i64))[j]? = some (.int .i64 os[j]) := by simp [hjl]
          rw [← HLL.out.2, List.getElem?_take, if_pos hjl] at h1
          have h2 : (Z.drop j)[0]? = (L.drop j)[0]? := by rw [HZ.out.2.2.1]
          rw [List.getElem?_drop, List.getElem?_drop, Nat.add_zero, h1] at h2
          exact h2
        have hst : Hid _ := dropI_succ os id j hjl
        have HC : Hid (∀ W, Ext wr W → Calls Tryz.prog 101 #[.int .i64 os[j], .pointer (some ⟨fb, 0, none⟩)] W fun e w' => e = .returned (.bool (os[j] == id)) ∧ w' = W) := fun W h => rem1_any os[j] fb id W (h.cell hbr)
        have hji : (j : Int) < (os.length : Int) := by omega
        have hii : (i : Int) < (os.length : Int) := by omega
        have hgl := hZ.lt
        cases hB : (os[j] == id) with
        | true =>
          have HS2 : Hid (dropI (os.take (j + 1)) id = dropI (os.take j) id) := by show _ = _; rw [hst.out, if_pos hB]
          rw [hB] at HC
          clear hB
          generalize os[j] = o at *
          go_wp2_with fail
          refine Calls.mono (HC.out _ (Ext.refl _)) ?_
          rintro e w2 ⟨rfl, rfl⟩
          clear HC y0
          go_wp2
          go_roundw
          case rel =>
            refine ⟨i, j + 1, Z, rfl, by go_num, by omega, by omega, by rw [HS2.out]; exact HZ.out.2.2.2, by omega, hZ, HZ.out.1, by rw [HS2.out]; exact HZ.out.2.1, ?_, hbr, HK.out⟩
            have := congrArg (fun x => x.drop 1) HZ.out.2.2.1
            simpa [List.drop_drop] using this
          case measure => simp [intOf]; omega
        | false =>
          have HS2 : Hid (dropI (os.take (j + 1)) id = dropI (os.take j) id ++ [os[j]]) := by show _ = _; rw [hst.out, hB]; rfl
          rw [hB] at HC
          clear hB
          generalize os[j] = o at *
          have hc0 : wr.cell? ⟨g, i, none⟩ = some (Z[i]'(by rw [HZ.out.1]; omega)) := hZ.cell (by rw [HZ.out.1]; omega)
          have hf0 := hZ.frozen i
          generalize Z[i]'(by rw [HZ.out.1]; omega) = zi at *
          go_wp2_with fail
          refine Calls.mono (HC.out _ (Ext.refl _)) ?_
          rintro e w2 ⟨rfl, rfl⟩
          clear HC y0
          go_wp2
          go_roundw
          case rel =>
            have hks : Kp (fun b => b = g) w2 (w2.setCell ⟨g, i, none⟩ (.int .i64 o)) := (Kp.refl (fun b => b = g) w2).setCell (fun _ => rfl) _
            refine ⟨i + 1, j + 1, _, by go_num, by go_num, by omega, by omega, by rw [HS2.out]; simp; exact HZ.out.2.2.2, by omega, hZ.set i (.int .i64 o), by simpa using HZ.out.1, ?_, ?_, hks.cell hbr (by simpa using hfg), HK.out.trans hks⟩
            · rw [HS2.out, List.take_succ_eq_append_getElem (by simp [HZ.out.1]; omega)]
              simp [List.take_set_of_le, HZ.out.2.1]
            · have := congrArg (fun x => x.drop 1) HZ.out.2.2.1
              simp only [List.drop_drop] at this
              rw [List.drop_set_of_lt (by omega)]
              exact this
          case measure => simp [intOf]; omega
      · have hje : j = os.length := by omega
        have htk : os.take j = os := List.take_of_length_le (by omega)
        obtain ⟨z, hz⟩ : ∃ z : List Value, z = (Builtin.zeroCells (Value.int .i64 0).cells (os.length - i)).toList := ⟨_, rfl⟩
        have hzl : z.length = (os.length - i) := by rw [hz]; simp [Builtin.zeroCells, Value.cells]
        have hcl : ∀ ty, (Builtin.clear_ #[25] ty #[.slice (some ⟨g, i, none⟩) (os.length - i) (cap - i)]).run Tryz.prog wr = .ok (.tuple #[]) (wr.setRow g (Z.take (i) ++ z ++ Z.drop (i + z.length)).toArray) := fun ty => by
          rw [hz]
          exact run_clear_row wr 25 3 3 ty Tryz.underlying25 _ (Tryz.zeroValue3 wr) (by decide) g (i) (os.length - i) (cap - i) Z hZ (by omega) (by rw [HZ.out.1]; simp only [Value.cells]; show _ + _ * 1 ≤ _; omega)
        have hfin : OSl (wr.setRow g (Z.take (i) ++ z ++ Z.drop (i + z.length)).toArray) 3 1 (some ⟨g, 0, none⟩) (dropI os id).length cap ((dropI os id).map (Value.int .i64)) ∧ Kp (fun b => blkOf (some (⟨g, 0, none⟩ : Addr)) = some b) w (wr.setRow g (Z.take (i) ++ z ++ Z.drop (i + z.length)).toArray) := by
          have e3 := HZ.out.2.1
          have e4 := HZ.out.2.2.2
          rw [htk] at e3 e4
          have hK2 : Kp (fun b => blkOf (some (⟨g, 0, none⟩ : Addr)) = some b) w wr := HK.out.mono (fun b _ e => by rw [e]; rfl)
          refine ⟨?_, hK2.setRow rfl _⟩
          rw [e4]
          refine osl_of_row (hZ.setRow _) 1 i cap (by omega) hm ?_ ?_
          · simp [hzl, HZ.out.1]; omega
          · rw [Nat.mul_one, List.append_assoc, List.take_left' (by simp [HZ.out.1]; omega), e3]
        have hcl2 : Hid ((dropI os id).length = i) := by
          show _ = _
          have e := HZ.out.2.2.2
          rwa [htk] at e
        have HFin : Hid _ := hfin
        clear hfin hzl hz hZ HZ HK htk
        generalize (Z.take (i) ++ z ++ Z.drop (i + z.length)).toArray = NN at *
        have hb3 : ¬ cap = i := by omega
        have hb4 : i ≤ os.length := by omega
        have hb5 : i ≤ cap := by omega
        have hc63 : cap ≤ 9223372036854775807 := by unfold maxLen at hm; omega
        have hjn2 : ¬ (j : Int) < (os.length : Int) := by omega
        go_wp2
        go_ret
        rw [hcl2.out]
        exact ⟨rfl, hcl2.out ▸ HFin.out⟩
  · rw [if_neg hql] at HI
    have hqn : os.take q = os := List.take_of_length_le (by omega)
    have hde : dropI os id = os := by rw [hqn] at hdf; exact hdf
    have HFin : Hid (∀ w', Ext w w' → OSl w' 3 1 ao os.length cap (os.map (Value.int .i64))) := fun w' h => hO.ext h
    rw [hde]
    clear hO hq hdf hqn hde
    generalize os.length = n at *
    go_enter Tryz.func100, Tryz.ntmps100
    go_wp2_with fail
    refine Calls.mono HI.out ?_
    rintro e w1 ⟨rfl, hE1⟩
    clear HI
    go_wp2
    go_ret
    exact ⟨rfl, HFin.out w1 hE1, hE1.kp _⟩
end Go.Proofs.YtpbblaeamddbgaaGreat
namespace Go.Proofs.YtpbblaeamddbgaaGreat
open Go.RowKit

/-- Whose a block of the index is. -/
abbrev ITag : Type := Option (Option (Nat ⊕ Cd))
abbrev ITag.no : ITag := none
abbrev ITag.free : ITag := some none
abbrev ITag.shelf (i : Nat) : ITag := some (some (.inl i))
abbrev ITag.owners (c : Cd) : ITag := some (some (.inr c))
/-- A shelf as it lies in memory. -/
structure ShR where
  es : List EnR
  ao : Option Addr
  cap : Nat
def shV (s : ShR) : Value := .slice s.ao s.es.length s.cap
def spotOf (c : Cd) : Nat := (c.attr * 10 + c.kind).toNat
def upd (Sh : Nat → ShR) (i : Nat) (s : ShR) : Nat → ShR := fun k => if k = i then s else Sh k
theorem upd_same (Sh : Nat → ShR) (i : Nat) (s : ShR) : upd Sh i s i = s := if_pos rfl
theorem upd_ne (Sh : Nat → ShR) {i k : Nat} (h : k ≠ i) (s : ShR) : upd Sh i s k = Sh k := if_neg h
structure IdxAt (w : World) (own : Nat → ITag) (fl : List Int) (fa : Option Addr) (fcap : Nat) (Sh : Nat → ShR) : Prop where
  free : OSl w 3 1 fa fl.length fcap (fl.map (Value.int .i64))
  sh : ∀ i, i < 60 → OSl w 178 7 (Sh i).ao (Sh i).es.length (Sh i).cap ((Sh i).es.flatMap EnR.cells)
  ow : ∀ i, i < 60 → ∀ e ∈ (Sh i).es, OSl w 193 2 e.ao e.os.length e.cap (e.os.flatMap owCells)
  tf : ∀ g, blkOf fa = some g → own g = .free
  ts : ∀ i, i < 60 → ∀ g, blkOf (Sh i).ao = some g → own g = .shelf i
  to : ∀ i, i < 60 → ∀ e ∈ (Sh i).es, ∀ g, blkOf e.ao = some g → own g = .owners e.c
  tn : ∀ g, w.heap.size ≤ g → own g = .no
theorem IdxAt.lt {w : World} {own : Nat → ITag} {fl : List Int} {fa : Option Addr} {fcap : Nat} {Sh : Nat → ShR} (h : IdxAt w own fl fa fcap Sh) {b : Nat} (hb : own b ≠ .no) : b < w.heap.size := by
  rcases Nat.lt_or_ge b w.heap.size with h' | h'
  · exact h'
  · exact absurd (h.tn b h') hb
theorem IdxAt.kp {w w' : World} {M : Nat → Prop} {own : Nat → ITag} {fl : List Int} {fa : Option Addr} {fcap : Nat} {Sh : Nat → ShR} (h : IdxAt w own fl fa fcap Sh) (k : Kp M w w') (hm : ∀ b, own b ≠ .no → ¬ M b) : IdxAt w' own fl fa fcap Sh :=
  ⟨h.free.kp k (fun g hg => hm g (by rw [h.tf g hg]; simp)), fun i hi => (h.sh i hi).kp k (fun g hg => hm g (by rw [h.ts i hi g hg]; simp)), fun i hi e he => (h.ow i hi e he).kp k (fun g hg => hm g (by rw [h.to i hi e he g hg]; simp)), h.tf, h.ts, h.to, fun g hg => h.tn g (Nat.le_trans k.size hg)⟩

theorem idx_turn {w w' : World} {own : Nat → ITag} {fl : List Int} {fa : Option Addr} {fcap : Nat} {Sh : Nat → ShR} (I : IdxAt w own fl fa fcap Sh) (hsp : ∀ j, j < 60 → ∀ e ∈ (Sh j).es, spotOf e.c = j) (i : Nat) (_hi : i < 60) (c : Cd) (hc : spotOf c = i) (eb : Nat) (heb : own eb = .no)
    (hK : Kp (fun b => b = eb ∨ own b = .shelf i ∨ own b = .owners c) w w') (s' : ShR) (hO : OSl w' 178 7 s'.ao s'.es.length s'.cap (s'.es.flatMap EnR.cells)) (hs : ∀ g, blkOf s'.ao = some g → own g = .shelf i ∨ w.heap.size ≤ g)
    (hes : ∀ e ∈ s'.es, (e ∈ (Sh i).es ∧ e.c ≠ c) ∨ (e.c = c ∧ OSl w' 193 2 e.ao e.os.length e.cap (e.os.flatMap owCells) ∧ ∀ g, blkOf e.ao = some g → (own g = .owners c ∨ w.heap.size ≤ g) ∧ blkOf s'.ao ≠ some g)) :
    ∃ own', IdxAt w' own' fl fa fcap (upd Sh i s') ∧ ∀ b, b < w.heap.size → own' b = own b := by
  have hle := hK.size
  have hold : ∀ b, own b ≠ .no → b < w.heap.size := fun b hb => I.lt hb
  let P2 : Nat → Prop := fun b => ∃ e ∈ s'.es, e.c = c ∧ blkOf e.ao = some b
  let own' : Nat → ITag := fun b => if b < w.heap.size then own b else @ite _ (blkOf s'.ao = some b) (Classical.propDecidable _) (.shelf i) (@ite _ (P2 b) (Classical.propDecidable _) (.owners c) .no)
  have o1 : ∀ b, b < w.heap.size → own' b = own b := fun b hb => if_pos hb
  have o2 : ∀ b, own b ≠ .no → own' b = own b := fun b hb => o1 b (hold b hb)
  refine ⟨own', ⟨?_, ?_, ?_, ?_, ?_, ?_, ?_⟩, o1⟩
  · refine I.free.kp hK (fun g hg => ?_)
    have h0 := I.tf g hg
    rintro (h | h | h)
    · rw [h, heb] at h0; cases h0
    · rw [h0] at h; cases h
    · rw [h0] at h; cases h
  · intro j hj
    by_cases hji : j = i
    · subst hji; rw [upd_same]; exact hO
    · rw [upd_ne Sh hji]
      refine (I.sh j hj).kp hK (fun g hg => ?_)
      have h0 := I.ts j hj g hg
      rintro (h | h | h)
      · rw [h, heb] at h0; cases h0
      · rw [h0] at h; cases h; exact hji rfl
      · rw [h0] at h; cases h
  · intro j hj e he
    have keep : ∀ j, j < 60 → e ∈ (Sh j).es → e.c ≠ c → OSl w' 193 2 e.ao e.os.length e.cap (e.os.flatMap owCells) := fun j hj he hne => by
      refine (I.ow j hj e he).kp hK (fun g hg => ?_)
      have h0 := I.to j hj e he g hg
      rintro (h | h | h)
      · rw [h, heb] at h0; cases h0
      · rw [h0] at h; cases h
      · rw [h0] at h; cases h; exact hne rfl
    by_cases hji : j = i
    · subst hji
      rw [upd_same] at he
      rcases hes e he with ⟨h1, h2⟩ | ⟨_, h2, _⟩
      · exact keep j hj h1 h2
      · exact h2
    · rw [upd_ne Sh hji] at he
      refine keep j hj he (fun h => hji ?_)
      rw [← hsp j hj e he, h, hc]
  · intro g hg
    rw [o2 g (by rw [I.tf g hg]; simp)]; exact I.tf g hg
  · intro j hj g hg
    by_cases hji : j = i
    · subst hji
      rw [upd_same] at hg
      rcases hs g hg with h | h
      · rw [o2 g (by rw [h]; simp)]; exact h
      · show (if g < w.heap.size then own g else _) = _
        rw [if_neg (by omega), if_pos hg]
    · rw [upd_ne Sh hji] at hg
      rw [o2 g (by rw [I.ts j hj g hg]; simp)]; exact I.ts j hj g hg
  · intro j hj e he g hg
    by_cases hji : j = i
    · subst hji
      rw [upd_same] at he
      rcases hes e he with ⟨h1, _⟩ | ⟨h1, _, h3⟩
      · rw [o2 g (by rw [I.to j hj e h1 g hg]; simp)]; exact I.to j hj e h1 g hg
      · obtain ⟨h4, h5⟩ := h3 g hg
        rcases h4 with h | h
        · rw [o2 g (by rw [h]; simp), h, h1]
        · show (if g < w.heap.size then own g else _) = _
          rw [if_neg (by omega), if_neg h5, if_pos ⟨e, he, h1, hg⟩, h1]
    · rw [upd_ne Sh hji] at he
      rw [o2 g (by rw [I.to j hj e he g hg]; simp)]; exact I.to j hj e he g hg
  · intro g hg
    show (if g < w.heap.size then own g else _) = _
    rw [if_neg (by omega), if_neg (fun h => by have := hO.lt h; omega), if_neg]
    rintro ⟨e, he, h1, h2⟩
    rcases hes e he with ⟨h3, h4⟩ | ⟨_, h3, _⟩
    · exact h4 h1
    · have := h3.lt h2; omega

/-- The engine's cells: four ahead of the index, its own, and one behind it. -/
def engCells (pre : List Value) (fa : Option Addr) (n fcap : Nat) (Sh : Nat → ShR) (ev : Value) : List Value := pre ++ (.slice fa n fcap :: ((List.range 60).map (fun i => shV (Sh i)) ++ [ev]))
theorem eng_free (pre : List Value) (hp : pre.length = 4) (fa : Option Addr) (n fcap : Nat) (Sh : Nat → ShR) (ev : Value) : (engCells pre fa n fcap Sh ev)[4]? = some (.slice fa n fcap) := by
  unfold engCells
  rw [List.getElem?_append_right (by omega), hp]; rfl
theorem eng_sh (pre : List Value) (hp : pre.length = 4) (fa : Option Addr) (n fcap : Nat) (Sh : Nat → ShR) (ev : Value) (i : Nat) (hi : i < 60) : (engCells pre fa n fcap Sh ev)[5 + i]? = some (shV (Sh i)) := by
  unfold engCells
  rw [List.getElem?_append_right (by omega), hp, show 5 + i - 4 = i + 1 by omega, List.getElem?_cons_succ, List.getElem?_append_left (by simpa using hi)]
  simp [hi]
theorem eng_setF (pre : List Value) (hp : pre.length = 4) (fa : Option Addr) (n fcap : Nat) (Sh : Nat → ShR) (ev : Value) (fa' : Option Addr) (n' fcap' : Nat) : (engCells pre fa n fcap Sh ev).set 4 (.slice fa' n' fcap') = engCells pre fa' n' fcap' Sh ev := by
  unfold engCells
  rw [List.set_append, if_neg (by omega), hp]; rfl
theorem eng_setS (pre : List Value) (hp : pre.length = 4) (fa : Option Addr) (n fcap : Nat) (Sh : Nat → ShR) (ev : Value) (i : Nat) (hi : i < 60) (s : ShR) : (engCells pre fa n fcap Sh ev).set (5 + i) (shV s) = engCells pre fa n fcap (upd Sh i s) ev := by
  unfold engCells
  rw [List.set_append, if_neg (by omega), hp, show 5 + i - 4 = i + 1 by omega, List.set_cons_succ, List.set_append, if_pos (by simpa using hi)]
  congr 2
  congr 1
  apply List.ext_getElem?
  intro k
  rw [List.getElem?_set]
  by_cases hk : i = k
  · subst hk; simp [hi, upd]
  · rw [if_neg hk]
    simp only [List.getElem?_map]
    rcases Nat.lt_or_ge k 60 with h | h
    · have hki : ¬ k = i := fun e => hk e.symm
      simp [h, upd, hki]
    · simp [h]
end Go.Proofs.YtpbblaeamddbgaaGreat
namespace Go.Proofs.YtpbblaeamddbgaaGreat

/-- The index of some filters, each with how many conditions it has, and those that are there so far. -/
structure IdxG (K : List (Int × Int × List Cd)) (Sh : Nat → ShR) : Prop where
  rise : ∀ i, i < 60 → Rise cmpCd ((Sh i).es.map (·.c))
  spot : ∀ i, i < 60 → ∀ e ∈ (Sh i).es, spotOf e.c = i
  ndup : ∀ i, i < 60 → ∀ e ∈ (Sh i).es, (e.os.map (·.1)).Nodup
  one : ∀ i, i < 60 → ∀ e ∈ (Sh i).es, e.os ≠ []
  om : ∀ i, i < 60 → ∀ e ∈ (Sh i).es, ∀ o, o ∈ e.os ↔ ∃ l, (o.1, o.2, l) ∈ K ∧ e.c ∈ l
  al : ∀ k ∈ K, ∀ c ∈ k.2.2, spotOf c < 60 ∧ ∃ e ∈ (Sh (spotOf c)).es, e.c = c
theorem mem_set_cases {α : Type} {l : List α} {q : Nat} {x y : α} (h : y ∈ l.set q x) : y = x ∨ ∃ k, ∃ hk : k < l.length, k ≠ q ∧ y = l[k] := by
  obtain ⟨k, hk, rfl⟩ := List.getElem_of_mem h
  have hk' : k < l.length := by simpa using hk
  by_cases hkq : k = q
  · subst hkq; exact Or.inl (by simp)
  · exact Or.inr ⟨k, hk', hkq, by rw [List.getElem_set_ne (fun e => hkq e.symm)]⟩
theorem rise_at_ne {es : List EnR} (h : Rise cmpCd (es.map (·.c))) {k q : Nat} (hk : k < es.length) (hq : q < es.length) (hne : k ≠ q) : es[k].c ≠ es[q].c := fun e => by
  have hn := h.nodup cmpCd_ord
  rw [List.Nodup, List.pairwise_iff_getElem] at hn
  rcases Nat.lt_or_ge k q with h' | h'
  · exact hn k q (by simpa using hk) (by simpa using hq) h' (by simpa using e)
  · exact hn q k (by simpa using hq) (by simpa using hk) (by omega) (by simpa using e.symm)
theorem map_set_c {es : List EnR} {q : Nat} (hq : q < es.length) {x : EnR} (hx : x.c = es[q].c) : (es.set q x).map (·.c) = es.map (·.c) := by
  rw [List.map_set, hx]
  apply List.ext_getElem?
  intro k
  rw [List.getElem?_set]
  by_cases hk : q = k
  · subst hk; simp [hq]
  · simp [hk]

theorem add_one {K0 : List (Int × Int × List Cd)} {id n : Int} {l : List Cd} {Sh : Nat → ShR} (G : IdxG (K0 ++ [(id, n, l)]) Sh) (hid : ∀ k ∈ K0, k.1 ≠ id) (c : Cd) (hcl : c ∉ l) (i : Nat) (hi : i < 60) (hci : spotOf c = i) (es1 : List EnR) (q : Nat) (hq : q < es1.length) (hq1 : es1[q].c = c) (h1 : Rise cmpCd (es1.map (·.c)))
    (hfrom : ∀ e ∈ es1, e ∈ (Sh i).es ∨ (e.c = c ∧ e.os = [] ∧ c ∉ (Sh i).es.map (·.c))) (hall : ∀ e ∈ (Sh i).es, e ∈ es1) (x : EnR) (hx : x.c = c) (hxo : x.os = es1[q].os ++ [(id, n)]) (s' : ShR) (hs' : s'.es = es1.set q x) :
    IdxG (K0 ++ [(id, n, l ++ [c])]) (upd Sh i s') := by
  have hold : ∀ k (hk : k < es1.length), k ≠ q → es1[k] ∈ (Sh i).es ∧ es1[k].c ≠ c := fun k hk hkq => by
    have hne := rise_at_ne h1 hk hq hkq
    rw [hq1] at hne
    rcases hfrom _ (List.getElem_mem hk) with h | ⟨h, _⟩
    · exact ⟨h, hne⟩
    · exact absurd h hne
  have hxos : ∀ o, o ∈ es1[q].os ↔ ∃ l', (o.1, o.2, l') ∈ K0 ∧ c ∈ l' := fun o => by
    rcases hfrom _ (List.getElem_mem hq) with h | ⟨_, h2, h3⟩
    · rw [G.om i hi _ h o, hq1]
      constructor
      · rintro ⟨l', h4, h5⟩
        rcases List.mem_append.1 h4 with h6 | h6
        · exact ⟨l', h6, h5⟩
        · simp only [List.mem_singleton, Prod.mk.injEq] at h6
          obtain ⟨_, _, rfl⟩ := h6
          exact absurd h5 hcl
      · rintro ⟨l', h4, h5⟩
        exact ⟨l', List.mem_append_left _ h4, h5⟩
    · rw [h2]
      simp only [List.not_mem_nil, false_iff]
      rintro ⟨l', h4, h5⟩
      obtain ⟨_, e, he, hec⟩ := G.al _ (List.mem_append_left _ h4) c h5
      rw [hci] at he
      exact h3 (List.mem_map.2 ⟨e, he, hec⟩)
  have hKe : ∀ o : Int × Int, ∀ d : Cd, d ≠ c → ((∃ l', (o.1, o.2, l') ∈ K0 ++ [(id, n, l ++ [c])] ∧ d ∈ l') ↔ ∃ l', (o.1, o.2, l') ∈ K0 ++ [(id, n, l)] ∧ d ∈ l') := fun o d hd => by
    constructor
    · rintro ⟨l', h4, h5⟩
      rcases List.mem_append.1 h4 with h6 | h6
      · exact ⟨l', List.mem_append_left _ h6, h5⟩
      · simp only [List.mem_singleton, Prod.mk.injEq] at h6
        obtain ⟨e1, e2, rfl⟩ := h6
        refine ⟨l, List.mem_append_right _ (by simp [e1, e2]), ?_⟩
        rcases List.mem_append.1 h5 with h7 | h7
        · exact h7
        · exact absurd (by simpa using h7) hd
    · rintro ⟨l', h4, h5⟩
      rcases List.mem_append.1 h4 with h6 | h6
      · exact ⟨l', List.mem_append_left _ h6, h5⟩
      · simp only [List.mem_singleton, Prod.mk.injEq] at h6
        obtain ⟨e1, e2, rfl⟩ := h6
        exact ⟨l' ++ [c], List.mem_append_right _ (by simp [e1, e2]), List.mem_append_left _ h5⟩
  have hent : ∀ j, j < 60 → ∀ e ∈ (upd Sh i s' j).es, (j = i ∧ e = x) ∨ (e ∈ (Sh j).es ∧ e.c ≠ c) := fun j hj e he => by
    by_cases hji : j = i
    · subst hji
      rw [upd_same, hs'] at he
      rcases mem_set_cases he with h | ⟨k, hk, hkq, rfl⟩
      · exact Or.inl ⟨rfl, h⟩
      · exact Or.inr (hold k hk hkq)
    · rw [upd_ne Sh hji] at he
      refine Or.inr ⟨he, fun h => hji ?_⟩
      rw [← G.spot j hj e he, h, hci]
  refine ⟨?_, ?_, ?_, ?_, ?_, ?_⟩
  · intro j hj
    by_cases hji : j = i
    · subst hji
      rw [upd_same, hs', map_set_c hq (by rw [hx, hq1])]; exact h1
    · rw [upd_ne Sh hji]; exact G.rise j hj
  · intro j hj e he
    rcases hent j hj e he with ⟨rfl, rfl⟩ | ⟨h, _⟩
    · rw [hx]; exact hci
    · exact G.spot j hj e h
  · intro j hj e he
    rcases hent j hj e he with ⟨rfl, rfl⟩ | ⟨h, _⟩
    · rw [hxo, List.map_append, List.nodup_append]
      refine ⟨?_, by simp, fun a ha b hb e => ?_⟩
      · rcases hfrom _ (List.getElem_mem hq) with h | ⟨_, h2, _⟩
        · exact G.ndup j hj _ h
        · rw [h2]; simp
      · simp only [List.map_cons, List.map_nil, List.mem_singleton] at hb
        subst hb e
        obtain ⟨o, ho, hoe⟩ := List.mem_map.1 ha
        obtain ⟨l', h4, _⟩ := (hxos o).1 ho
        exact hid _ h4 hoe
    · exact G.ndup j hj e h
  · intro j hj e he
    rcases hent j hj e he with ⟨rfl, rfl⟩ | ⟨h, _⟩
    · rw [hxo]; simp
    · exact G.one j hj e h
  · intro j hj e he o
    rcases hent j hj e he with ⟨rfl, rfl⟩ | ⟨h, hne⟩
    · rw [hxo, hx, List.mem_append, hxos o]
      constructor
      · rintro (⟨l', h4, h5⟩ | h4)
        · exact ⟨l', List.mem_append_left _ h4, h5⟩
        · simp only [List.mem_singleton] at h4
          subst h4
          exact ⟨l ++ [c], List.mem_append_right _ (by simp), by simp⟩
      · rintro ⟨l', h4, h5⟩
        rcases List.mem_append.1 h4 with h6 | h6
        · exact Or.inl ⟨l', h6, h5⟩
        · simp only [List.mem_singleton, Prod.mk.injEq] at h6
          exact Or.inr (by simp [Prod.ext_iff, h6.1, h6.2.1])
    · rw [G.om j hj e h o, hKe o e.c hne]
  · intro k hk d hd
    have hstep : ∀ d, spotOf d < 60 → (∃ e ∈ (Sh (spotOf d)).es, e.c = d) → ∃ e ∈ (upd Sh i s' (spotOf d)).es, e.c = d := fun d hd60 => by
      rintro ⟨e, he, hed⟩
      by_cases hdi : spotOf d = i
      · rw [hdi] at he ⊢
        rw [upd_same, hs']
        have hm : d ∈ (es1.set q x).map (·.c) := by
          rw [map_set_c hq (by rw [hx, hq1])]
          exact List.mem_map.2 ⟨e, hall e he, hed⟩
        obtain ⟨e', he', hec⟩ := List.mem_map.1 hm
        exact ⟨e', he', hec⟩
      · rw [upd_ne Sh hdi]; exact ⟨e, he, hed⟩
    rcases List.mem_append.1 hk with h | h
    · obtain ⟨h60, he⟩ := G.al k (List.mem_append_left _ h) d hd
      exact ⟨h60, hstep d h60 he⟩
    · simp only [List.mem_singleton] at h
      subst h
      rcases List.mem_append.1 hd with h' | h'
      · obtain ⟨h60, he⟩ := G.al (id, n, l) (List.mem_append_right _ (by simp)) d h'
        exact ⟨h60, hstep d h60 he⟩
      · have e0 : d = c := by simpa using h'
        subst e0
        refine ⟨by omega, ?_⟩
        rw [hci, upd_same, hs']
        exact ⟨x, List.mem_iff_getElem.2 ⟨q, by simpa using hq, by simp⟩, hx⟩
end Go.Proofs.YtpbblaeamddbgaaGreat
namespace Go.Proofs.YtpbblaeamddbgaaGreat
open Go.RowKit

theorem sub_len {α : Type} [DecidableEq α] : ∀ (l m : List α), l.Nodup → (∀ x ∈ l, x ∈ m) → l.length ≤ m.length
  | [], _, _, _ => Nat.zero_le _
  | a :: l, m, hn, hs => by
    have h1 := List.nodup_cons.1 hn
    have h2 := sub_len l (m.erase a) h1.2 (fun x hx => (List.mem_erase_of_ne (fun e => by subst e; exact h1.1 hx)).2 (hs x (List.mem_cons_of_mem _ hx)))
    have h3 := List.length_erase_of_mem (hs a (by simp))
    have h4 := List.length_pos_of_mem (hs a (by simp))
    simp only [List.length_cons]; omega
theorem flat_le {K : List (Int × Int × List Cd)} (h8 : ∀ k ∈ K, k.2.2.length ≤ 8) : (K.flatMap (·.2.2)).length ≤ K.length * 8 := by
  induction K with
  | nil => simp
  | cons k K ih =>
    have h1 := h8 k (by simp)
    have h2 := ih (fun x hx => h8 x (List.mem_cons_of_mem _ hx))
    simp only [List.flatMap_cons, List.length_append, List.length_cons]; omega
theorem es_len {K : List (Int × Int × List Cd)} {Sh : Nat → ShR} (G : IdxG K Sh) (h8 : ∀ k ∈ K, k.2.2.length ≤ 8) (i : Nat) (hi : i < 60) : (Sh i).es.length ≤ K.length * 8 := by
  classical
  have h := sub_len ((Sh i).es.map (·.c)) (K.flatMap (·.2.2)) ((G.rise i hi).nodup cmpCd_ord) (fun x hx => by
    obtain ⟨e, he, rfl⟩ := List.mem_map.1 hx
    obtain ⟨o, ho⟩ := List.exists_mem_of_ne_nil _ (G.one i hi e he)
    obtain ⟨l, h1, h2⟩ := (G.om i hi e he o).1 ho
    exact List.mem_flatMap.2 ⟨_, h1, h2⟩)
  have := flat_le h8
  simp only [List.length_map] at h; omega
theorem os_len {K : List (Int × Int × List Cd)} {Sh : Nat → ShR} (G : IdxG K Sh) (i : Nat) (hi : i < 60) (e : EnR) (he : e ∈ (Sh i).es) : e.os.length ≤ K.length := by
  have h := sub_len (e.os.map (·.1)) (K.map (·.1)) (G.ndup i hi e he) (fun x hx => by
    obtain ⟨o, ho, rfl⟩ := List.mem_map.1 hx
    obtain ⟨l, h1, _⟩ := (G.om i hi e he o).1 ho
    exact List.mem_map.2 ⟨_, h1, rfl⟩)
  simpa using h
theorem add_zero {K0 : List (Int × Int × List Cd)} {Sh : Nat → ShR} (G : IdxG K0 Sh) (id n : Int) : IdxG (K0 ++ [(id, n, [])]) Sh := by
  refine ⟨G.rise, G.spot, G.ndup, G.one, fun i hi e he o => ?_, fun k hk c hc => ?_⟩
  · rw [G.om i hi e he o]
    constructor
    · rintro ⟨l, h1, h2⟩; exact ⟨l, List.mem_append_left _ h1, h2⟩
    · rintro ⟨l, h1, h2⟩
      rcases List.mem_append.1 h1 with h | h
      · exact ⟨l, h, h2⟩
      · simp only [List.mem_singleton, Prod.mk.injEq] at h
        obtain ⟨_, _, rfl⟩ := h
        cases h2
  · rcases List.mem_append.1 hk with h | h
    · exact G.al k h c hc
    · simp only [List.mem_singleton] at h
      subst h
      cases hc
theorem enr_set (es : List EnR) (q : Nat) (hq : q < es.length) (os : List (Int × Int)) (ao : Option Addr) (cap : Nat) : (es.set q ⟨es[q].c, os, ao, cap⟩).flatMap EnR.cells = (es.flatMap EnR.cells).set (q * 7 + 6) (.slice ao os.length cap) := by
  induction es generalizing q with
  | nil => simp at hq
  | cons e es ih =>
    cases q with
    | zero => simp [EnR.cells]
    | succ q =>
      have h := ih q (by simpa using hq)
      simp only [List.set_cons_succ, List.getElem_cons_succ, List.flatMap_cons]
      rw [h, List.set_append, if_neg (by simp [EnR.cells]; omega)]
      congr 2
      simp [EnR.cells]; omega
theorem OSl.set {w : World} {T K n cap : Nat} {ao : Option Addr} {xs : List Value} (h : OSl w T K ao n cap xs) (g : Nat) (hg : ao = some ⟨g, 0, none⟩) (hn : 0 < n) (k : Nat) (v : Value) : OSl (w.setCell ⟨g, k, none⟩ v) T K ao n cap (xs.set k v) := by
  obtain ⟨g', l, h1, h2, h3, h4, h5, h6⟩ := row_of_osl h hn
  rw [hg] at h1
  cases h1
  rw [hg]
  refine osl_of_row (h2.set k v) K n cap h3 h4 (by simpa using h5) ?_
  rw [← h6, List.take_set]
theorem enr_ins (es : List EnR) (q : Nat) (x : EnR) : (es.flatMap EnR.cells).take (q * 7) ++ x.cells ++ (es.flatMap EnR.cells).drop (q * 7) = (es.take q ++ x :: es.drop q).flatMap EnR.cells := by
  have e : es.flatMap EnR.cells = (es.take q).flatMap EnR.cells ++ (es.drop q).flatMap EnR.cells := by rw [← List.flatMap_append, List.take_append_drop]
  rcases Nat.lt_or_ge q es.length with h | h
  · have hl : ((es.take q).flatMap EnR.cells).length = q * 7 := by rw [enr_len]; simp; omega
    rw [e, List.take_left' hl, List.drop_left' hl]; simp
  · rw [List.take_of_length_le (by rw [enr_len]; omega), List.drop_of_length_le (by rw [enr_len]; omega), List.take_of_length_le h, List.drop_of_length_le h]; simp

/-- The index with what a filter has of conditions so far. -/
structure IxSt (w : World) (own : Nat → ITag) (eb : Nat) (pre : List Value) (ev : Value) (fl : List Int) (fa : Option Addr) (fcap : Nat) (Sh : Nat → ShR) (K : List (Int × Int × List Cd)) : Prop where
  at_ : IdxAt w own fl fa fcap Sh
  g : IdxG K Sh
  row : Row w eb 112 (engCells pre fa fl.length fcap Sh ev)
  eb : own eb = .no
theorem IxSt.kp {w w' : World} {M : Nat → Prop} {own : Nat → ITag} {eb : Nat} {pre : List Value} {ev : Value} {fl : List Int} {fa : Option Addr} {fcap : Nat} {Sh : Nat → ShR} {K : List (Int × Int × List Cd)} (h : IxSt w own eb pre ev fl fa fcap Sh K) (k : Kp M w w') (hm : ∀ b, own b ≠ .no → ¬ M b) (he : ¬ M eb) : IxSt w' own eb pre ev fl fa fcap Sh K :=
  ⟨h.at_.kp k hm, h.g, k.row h.row he, h.eb⟩
theorem IxSt.ext {w w' : World} {own : Nat → ITag} {eb : Nat} {pre : List Value} {ev : Value} {fl : List Int} {fa : Option Addr} {fcap : Nat} {Sh : Nat → ShR} {K : List (Int × Int × List Cd)} (h : IxSt w own eb pre ev fl fa fcap Sh K) (k : Ext w w') : IxSt w' own eb pre ev fl fa fcap Sh K :=
  h.kp (k.kp (fun _ => False)) (fun _ _ h => h) (fun h => h)

theorem add_done {w W1 W2 : World} {own : Nat → ITag} {eb : Nat} {pre : List Value} {ev : Value} {fl : List Int} {fa : Option Addr} {fcap : Nat} {Sh : Nat → ShR} {K0 : List (Int × Int × List Cd)} {id n : Int} {l : List Cd} (S : IxSt w own eb pre ev fl fa fcap Sh (K0 ++ [(id, n, l)])) (hid : ∀ k ∈ K0, k.1 ≠ id) (c : Cd) (hcl : c ∉ l) (i : Nat) (hi : i < 60) (hci : spotOf c = i)
    (es1 : List EnR) (ao1 : Option Addr) (cap1 : Nat) (q : Nat) (hq : q < es1.length) (hq1 : es1[q].c = c) (h1 : Rise cmpCd (es1.map (·.c))) (hfrom : ∀ e ∈ es1, e ∈ (Sh i).es ∨ (e.c = c ∧ e.os = [] ∧ e.ao = none ∧ c ∉ (Sh i).es.map (·.c))) (hall : ∀ e ∈ (Sh i).es, e ∈ es1)
    (hK1 : Kp (fun b => b = eb ∨ own b = .shelf i) w W1) (hR1 : Row W1 eb 112 (engCells pre fa fl.length fcap (upd Sh i ⟨es1, ao1, cap1⟩) ev)) (hO1 : OSl W1 178 7 ao1 es1.length cap1 (es1.flatMap EnR.cells)) (hat1 : ∀ g, blkOf ao1 = some g → own g = .shelf i ∨ w.heap.size ≤ g)
    (ao2 : Option Addr) (cap2 : Nat) (hK2 : Kp (fun b => blkOf es1[q].ao = some b) W1 W2) (hO2 : OSl W2 193 2 ao2 (es1[q].os.length + 1) cap2 (es1[q].os.flatMap owCells ++ owCells (id, n))) (hat2 : ∀ g, blkOf ao2 = some g → blkOf es1[q].ao = some g ∨ W1.heap.size ≤ g) (g1 : Nat) (hg1 : ao1 = some ⟨g1, 0, none⟩) :
    ∃ own' Sh', IxSt (W2.setCell ⟨g1, q * 7 + 6, none⟩ (.slice ao2 (es1[q].os.length + 1) cap2)) own' eb pre ev fl fa fcap Sh' (K0 ++ [(id, n, l ++ [c])]) ∧ (∀ b, b < w.heap.size → own' b = own b) ∧ Kp (fun b => b = eb ∨ own b ≠ .no) w (W2.setCell ⟨g1, q * 7 + 6, none⟩ (.slice ao2 (es1[q].os.length + 1) cap2)) := by
  obtain ⟨w', hw'⟩ : ∃ w', w' = W2.setCell ⟨g1, q * 7 + 6, none⟩ (.slice ao2 (es1[q].os.length + 1) cap2) := ⟨_, rfl⟩
  have hz1 := hK1.size
  have hz2 := hK2.size
  have hown : ∀ g, blkOf es1[q].ao = some g → own g = .owners c ∧ g < w.heap.size := fun g hg => by
    rcases hfrom _ (List.getElem_mem hq) with h | ⟨_, _, h, _⟩
    · have h2 := S.at_.to i hi _ h g hg
      rw [hq1] at h2
      exact ⟨h2, S.at_.lt (by rw [h2]; simp)⟩
    · rw [h] at hg; cases hg
  have hg1' : own g1 = .shelf i ∨ w.heap.size ≤ g1 := hat1 g1 (by rw [hg1]; rfl)
  have hg1q : blkOf es1[q].ao ≠ some g1 := fun h => by
    obtain ⟨h2, h3⟩ := hown g1 h
    rcases hg1' with h4 | h4
    · rw [h2] at h4; cases h4
    · omega
  have hg1e : g1 ≠ eb := fun h => by
    rcases hg1' with h4 | h4
    · rw [h, S.eb] at h4; cases h4
    · have := S.row.lt; omega
  have hne2 : blkOf ao2 ≠ some g1 := fun h => by
    rcases hat2 g1 h with h2 | h2
    · exact hg1q h2
    · have := hO1.lt (g := g1) (by rw [hg1]; rfl); omega
  have hebq : blkOf es1[q].ao ≠ some eb := fun h => by
    have h2 := (hown eb h).1
    rw [S.eb] at h2; cases h2
  have hks : Kp (fun b => b = g1) W2 w' := by rw [hw']; exact (Kp.refl (fun b => b = g1) W2).setCell (fun _ => rfl) _
  have hKall : Kp (fun b => b = eb ∨ own b = .shelf i ∨ own b = .owners c) w w' := by
    refine (((hK1.mono (fun b _ h => ?_)).andThen hK2 (fun b hb h => Or.inr (Or.inr (hown b h).1))).andThen hks (fun b hb h => ?_))
    · rcases h with h | h
      · exact Or.inl h
      · exact Or.inr (Or.inl h)
    · rcases hg1' with h4 | h4
      · exact Or.inr (Or.inl (by rw [h]; exact h4))
      · omega
  have hx : ∀ e ∈ (es1.set q ⟨es1[q].c, es1[q].os ++ [(id, n)], ao2, cap2⟩), (e ∈ (Sh i).es ∧ e.c ≠ c) ∨ (e = ⟨es1[q].c, es1[q].os ++ [(id, n)], ao2, cap2⟩) := fun e he => by
    rcases mem_set_cases he with h | ⟨k, hk, hkq, rfl⟩
    · exact Or.inr h
    · have hne := rise_at_ne h1 hk hq hkq
      rw [hq1] at hne
      rcases hfrom _ (List.getElem_mem hk) with h | ⟨h, _⟩
      · exact Or.inl ⟨h, hne⟩
      · exact absurd h hne
  have hO' : OSl w' 178 7 ao1 es1.length cap1 ((es1.set q ⟨es1[q].c, es1[q].os ++ [(id, n)], ao2, cap2⟩).flatMap EnR.cells) := by
    rw [hw', enr_set es1 q hq, List.length_append]
    exact (hO1.kp hK2 (fun g hg h => by rw [hg1] at hg; cases hg; exact hg1q h)).set g1 hg1 (by omega) _ _
  obtain ⟨own', I', ho'⟩ := idx_turn S.at_ S.g.spot i hi c hci eb S.eb hKall ⟨es1.set q ⟨es1[q].c, es1[q].os ++ [(id, n)], ao2, cap2⟩, ao1, cap1⟩ (by simpa using hO') hat1 (fun e he => by
    rcases hx e he with h | h
    · exact Or.inl h
    · refine Or.inr ?_
      subst h
      refine ⟨hq1, ?_, fun g hg => ⟨?_, fun h => ?_⟩⟩
      · simp only [List.length_append, List.flatMap_append]
        have := hO2.kp hks (fun g hg h => hne2 (by rw [← h]; exact hg))
        simpa using this
      · rcases hat2 g hg with h | h
        · exact Or.inl (hown g h).1
        · exact Or.inr (by omega)
      · rw [hg1] at h
        cases h
        exact hne2 hg)
  rw [← hw']
  refine ⟨own', _, ⟨I', add_one S.g hid c hcl i hi hci es1 q hq hq1 h1 (fun e he => ?_) hall ⟨es1[q].c, es1[q].os ++ [(id, n)], ao2, cap2⟩ hq1 rfl _ rfl, ?_, ?_⟩, ho', hKall.mono (fun b _ h => ?_)⟩
  · rcases hfrom e he with h | ⟨h, h2, _, h3⟩
    · exact Or.inl h
    · exact Or.inr ⟨h, h2, h3⟩
  · have hr2 := hks.row (hK2.row hR1 hebq) (fun h => hg1e h.symm)
    have he : engCells pre fa fl.length fcap (upd Sh i ⟨es1.set q ⟨es1[q].c, es1[q].os ++ [(id, n)], ao2, cap2⟩, ao1, cap1⟩) ev = engCells pre fa fl.length fcap (upd Sh i ⟨es1, ao1, cap1⟩) ev := by
      unfold engCells
      congr 3
      apply List.map_congr_left
      intro k _
      unfold upd
      split
      · simp [shV]
      · rfl
    rw [he]; exact hr2
  · rw [ho' eb S.row.lt]; exact S.eb
  · rcases h with h | h | h
    · exact Or.inl h
    · exact Or.inr (by rw [h]; simp)
    · exact Or.inr (by rw [h]; simp)

/-- The index between two conditions of a filter that is put in. -/
def AddSt (w : World) (own : Nat → ITag) (eb : Nat) (pre : List Value) (ev : Value) (fl : List Int) (fa : Option Addr) (fcap : Nat) (K0 : List (Int × Int × List Cd)) (id : Int) (l : List Cd) (bx : List Value) (j : Nat) (wr : World) : Prop :=
  ∃ own' Sh', IxSt wr own' eb pre ev fl fa fcap Sh' (K0 ++ [(id, (l.length : Int), l.take j)]) ∧ (∀ b, b < w.heap.size + 1 → own' b = own b) ∧ Kp (fun b => b = eb ∨ own b ≠ .no) w wr ∧ Row wr w.heap.size 130 bx
/-- The entry is there, its owners are not yet told of. -/
structure AddMid (w : World) (own : Nat → ITag) (eb : Nat) (pre : List Value) (ev : Value) (fl : List Int) (fa : Option Addr) (fcap : Nat) (K0 : List (Int × Int × List Cd)) (id : Int) (l : List Cd) (bx : List Value) (j : Nat) (q g1 n1 cap1 : Nat) (oa : Option Addr) (on ocap : Nat) (os : List (Int × Int)) (W1 : World) : Prop where
  c6 : W1.cell? ⟨g1, q * 7 + 6, none⟩ = some (.slice oa on ocap)
  qn : (q : Int) < (n1 : Int)
  bxr : Row W1 w.heap.size 130 bx
  o : OSl W1 193 2 oa on ocap (os.flatMap owCells)
  nx : ∀ W2 ao2 cap2, OSl W2 193 2 ao2 (on + 1) cap2 (os.flatMap owCells ++ owCells (id, (l.length : Int))) → Kp (fun b => blkOf oa = some b) W1 W2 → (∀ g, blkOf ao2 = some g → blkOf oa = some g ∨ W1.heap.size ≤ g) → AddSt w own eb pre ev fl fa fcap K0 id l bx (j + 1) (W2.setCell ⟨g1, q * 7 + 6, none⟩ (.slice ao2 (on + 1) cap2))
  fz : ∀ W2, Kp (fun b => blkOf oa = some b) W1 W2 → W2.cell? ⟨g1, q * 7 + 6, none⟩ = some (.slice oa on ocap) ∧ W2.frozen? ⟨g1, q * 7 + 6, none⟩ = false
  lo : on ≤ 100

theorem mid_of {w wr W1 : World} {own own' : Nat → ITag} {eb : Nat} {pre : List Value} {ev : Value} {fl : List Int} {fa : Option Addr} {fcap : Nat} {Sh : Nat → ShR} {K0 : List (Int × Int × List Cd)} {id : Int} {l : List Cd} {bx : List Value} {j : Nat} (hlt : j < l.length) (S : IxSt wr own' eb pre ev fl fa fcap Sh (K0 ++ [(id, (l.length : Int), l.take j)])) (ho : ∀ b, b < w.heap.size + 1 → own' b = own b) (hK : Kp (fun b => b = eb ∨ own b ≠ .no) w wr) (hbox : Row wr w.heap.size 130 bx) (hno : own w.heap.size = .no) (hebl : eb < w.heap.size) (hid : ∀ k ∈ K0, k.1 ≠ id) (hn : l.Nodup) (hK0 : K0.length < 100) (i : Nat) (hi : i < 60) (hci : spotOf l[j] = i)
    (es1 : List EnR) (ao1 : Option Addr) (cap1 : Nat) (q : Nat) (hq : q < es1.length) (hq1 : es1[q].c = l[j]) (h1 : Rise cmpCd (es1.map (·.c))) (hfrom : ∀ e ∈ es1, e ∈ (Sh i).es ∨ (e.c = l[j] ∧ e.os = [] ∧ e.ao = none ∧ e.cap = 0 ∧ l[j] ∉ (Sh i).es.map (·.c))) (hall : ∀ e ∈ (Sh i).es, e ∈ es1)
    (hK1 : Kp (fun b => b = eb ∨ own' b = .shelf i) wr W1) (hR1 : Row W1 eb 112 (engCells pre fa fl.length fcap (upd Sh i ⟨es1, ao1, cap1⟩) ev)) (hO1 : OSl W1 178 7 ao1 es1.length cap1 (es1.flatMap EnR.cells)) (hat1 : ∀ g, blkOf ao1 = some g → own' g = .shelf i ∨ wr.heap.size ≤ g) :
    ∃ g1, ao1 = some ⟨g1, 0, none⟩ ∧ AddMid w own eb pre ev fl fa fcap K0 id l bx j q g1 es1.length cap1 es1[q].ao es1[q].os.length es1[q].cap es1[q].os W1 := by
  obtain ⟨g1, hg1, hc6⟩ := hO1.at (enr_at es1 q hq).2.2.2.2.2.2
  have hcl : l[j] ∉ l.take j := fun h => by
    obtain ⟨k, hk, e⟩ := List.getElem_of_mem h
    rw [List.getElem_take] at e
    have hk' : k < j := by simp at hk; omega
    exact (List.pairwise_iff_getElem.1 hn) k j (by omega) hlt hk' e
  have hbno : own' w.heap.size = .no := by rw [ho _ (by omega)]; exact hno
  have hbe : w.heap.size ≠ eb := by omega
  have hown : ∀ g, blkOf es1[q].ao = some g → own' g = .owners l[j] ∧ g < wr.heap.size := fun g hg => by
    rcases hfrom _ (List.getElem_mem hq) with h | ⟨_, _, h, _⟩
    · have h2 := S.at_.to i hi _ h g hg
      rw [hq1] at h2
      exact ⟨h2, S.at_.lt (by rw [h2]; simp)⟩
    · rw [h] at hg; cases hg
  have hg1q : blkOf es1[q].ao ≠ some g1 := fun h => by
    obtain ⟨h2, h3⟩ := hown g1 h
    rcases hat1 g1 (by rw [hg1]; rfl) with h4 | h4
    · rw [h2] at h4; cases h4
    · omega
  refine ⟨g1, hg1, ⟨hc6, by omega, hK1.row hbox (fun h => ?_), ?_, fun W2 ao2 cap2 hO2 hK2 hat2 => ?_, fun W2 hK2 => ?_, ?_⟩⟩
  · rcases h with h | h
    · exact hbe h
    · rw [hbno] at h; cases h
  · rcases hfrom _ (List.getElem_mem hq) with h | ⟨_, h2, h3, h4, _⟩
    · refine (S.at_.ow i hi _ h).kp hK1 (fun g hg h5 => ?_)
      have h6 := (hown g hg).1
      rcases h5 with h5 | h5
      · rw [h5, S.eb] at h6; cases h6
      · rw [h5] at h6; cases h6
    · rw [h2, h3, h4]; exact OSl.nil _ _ _
  · obtain ⟨own2, Sh2, S2, ho2, hk2⟩ := add_done S hid l[j] hcl i hi hci es1 ao1 cap1 q hq hq1 h1 (fun e he => by
      rcases hfrom e he with h | ⟨a, b, c, _, d⟩
      · exact Or.inl h
      · exact Or.inr ⟨a, b, c, d⟩) hall hK1 hR1 hO1 hat1 ao2 cap2 hK2 hO2 hat2 g1 hg1
    have hwz := hK.size
    have hbl := hbox.lt
    refine ⟨own2, Sh2, ?_, fun b hb => ?_, hK.andThen hk2 (fun b hb h => ?_), hk2.row hbox (fun h => ?_)⟩
    · rw [List.take_succ_eq_append_getElem hlt]; exact S2
    · rw [ho2 b (by omega)]; exact ho b hb
    · rcases h with h | h
      · exact Or.inl h
      · exact Or.inr (by rw [← ho b (by omega)]; exact h)
    · rcases h with h | h
      · exact hbe h
      · exact h hbno
  · have hOx := hO1.kp hK2 (fun g hg h => by rw [hg1] at hg; cases hg; exact hg1q h)
    obtain ⟨g', h2, h3⟩ := hOx.at (enr_at es1 q hq).2.2.2.2.2.2
    rw [hg1] at h2
    cases h2
    refine ⟨h3, ?_⟩
    obtain ⟨g', L, h2, h4, _⟩ := row_of_osl hOx (by omega)
    rw [hg1] at h2
    cases h2
    exact h4.frozen _
  · rcases hfrom _ (List.getElem_mem hq) with h | ⟨_, h2, _⟩
    · have := os_len S.g i hi _ h
      simp only [List.length_append, List.length_singleton] at this; omega
    · rw [h2]; simp

theorem mid_found {w wr W1 : World} {own own' : Nat → ITag} {eb : Nat} {pre : List Value} {ev : Value} {fl : List Int} {fa : Option Addr} {fcap : Nat} {Sh : Nat → ShR} {K0 : List (Int × Int × List Cd)} {id : Int} {l : List Cd} {bx : List Value} {j : Nat} (hlt : j < l.length) (S : IxSt wr own' eb pre ev fl fa fcap Sh (K0 ++ [(id, (l.length : Int), l.take j)])) (ho : ∀ b, b < w.heap.size + 1 → own' b = own b) (hK : Kp (fun b => b = eb ∨ own b ≠ .no) w wr) (hbox : Row wr w.heap.size 130 bx) (hno : own w.heap.size = .no) (hebl : eb < w.heap.size) (hid : ∀ k ∈ K0, k.1 ≠ id) (hn : l.Nodup) (hK0 : K0.length < 100) (i : Nat) (hi : i < 60) (hci : spotOf l[j] = i)
    (q : Nat) (hq : q < (Sh i).es.length) (hq1 : (Sh i).es[q].c = l[j]) (hE : Ext wr W1) :
    ∃ g1, (Sh i).ao = some ⟨g1, 0, none⟩ ∧ AddMid w own eb pre ev fl fa fcap K0 id l bx j q g1 (Sh i).es.length (Sh i).cap (Sh i).es[q].ao (Sh i).es[q].os.length (Sh i).es[q].cap (Sh i).es[q].os W1 := by
  have hu : upd Sh i ⟨(Sh i).es, (Sh i).ao, (Sh i).cap⟩ = Sh := by
    funext k
    unfold upd
    split
    · rename_i h; rw [h]
    · rfl
  exact mid_of hlt S ho hK hbox hno hebl hid hn hK0 i hi hci (Sh i).es (Sh i).ao (Sh i).cap q hq hq1 (S.g.rise i hi) (fun e he => Or.inl he) (fun e he => he) (hE.kp _) (by rw [hu]; exact S.row.ext hE) ((S.at_.sh i hi).ext hE) (fun g hg => Or.inl (S.at_.ts i hi g hg))

theorem mid_new {w wr W wI : World} {own own' : Nat → ITag} {eb : Nat} {pre : List Value} {ev : Value} {fl : List Int} {fa : Option Addr} {fcap : Nat} {Sh : Nat → ShR} {K0 : List (Int × Int × List Cd)} {id : Int} {l : List Cd} {bx : List Value} {j : Nat} (hlt : j < l.length) (S : IxSt wr own' eb pre ev fl fa fcap Sh (K0 ++ [(id, (l.length : Int), l.take j)])) (hp : pre.length = 4) (ho : ∀ b, b < w.heap.size + 1 → own' b = own b) (hK : Kp (fun b => b = eb ∨ own b ≠ .no) w wr) (hbox : Row wr w.heap.size 130 bx) (hno : own w.heap.size = .no) (hebl : eb < w.heap.size) (hid : ∀ k ∈ K0, k.1 ≠ id) (hn : l.Nodup) (hK0 : K0.length < 100) (i : Nat) (hi : i < 60) (hci : spotOf l[j] = i)
    (q : Nat) (hq : SpotOf cmpCd ((Sh i).es.map (·.c)) l[j] q) (hq1 : l[j] ∉ (Sh i).es.map (·.c)) (hE : Ext wr W) (ao1 : Option Addr) (cap1 : Nat) (hO : OSl wI 178 7 ao1 ((Sh i).es.length + 1) cap1 (((Sh i).es.flatMap EnR.cells).take (q * 7) ++ (⟨l[j], [], none, 0⟩ : EnR).cells ++ ((Sh i).es.flatMap EnR.cells).drop (q * 7))) (hkI : Kp (fun k => blkOf (Sh i).ao = some k) W wI) (hat : ∀ g, blkOf ao1 = some g → blkOf (Sh i).ao = some g ∨ W.heap.size ≤ g) :
    ∃ g1, ao1 = some ⟨g1, 0, none⟩ ∧ AddMid w own eb pre ev fl fa fcap K0 id l bx j q g1 ((Sh i).es.length + 1) cap1 none 0 0 [] (wI.setCell ⟨eb, 5 + i, none⟩ (.slice ao1 ((Sh i).es.length + 1) cap1)) := by
  have hqs : q ≤ (Sh i).es.length := by simpa using hq.1
  have hle := hE.le
  have hsh : ∀ g, blkOf (Sh i).ao = some g → own' g = .shelf i := fun g hg => S.at_.ts i hi g hg
  have hne : blkOf (Sh i).ao ≠ some eb := fun h => by
    have := hsh eb h
    rw [S.eb] at this; cases this
  have hat1 : ∀ g, blkOf ao1 = some g → own' g = .shelf i ∨ wr.heap.size ≤ g := fun g hg => by
    rcases hat g hg with h | h
    · exact Or.inl (hsh g h)
    · exact Or.inr (by omega)
  have hane : ∀ g, blkOf ao1 = some g → g ≠ eb := fun g hg e => by
    rcases hat1 g hg with h | h
    · rw [e, S.eb] at h; cases h
    · have := S.row.lt; omega
  have hlen : ((Sh i).es.take q ++ (⟨l[j], [], none, 0⟩ : EnR) :: (Sh i).es.drop q).length = (Sh i).es.length + 1 := by simp; omega
  have hget : ((Sh i).es.take q ++ (⟨l[j], [], none, 0⟩ : EnR) :: (Sh i).es.drop q)[q]'(by omega) = ⟨l[j], [], none, 0⟩ := by
    rw [List.getElem_append_right (by simp; omega)]
    simp [show min q (Sh i).es.length = q by omega]
  have hks : Kp (fun b => b = eb) wI (wI.setCell ⟨eb, 5 + i, none⟩ (.slice ao1 ((Sh i).es.length + 1) cap1)) := (Kp.refl (fun b => b = eb) wI).setCell (fun _ => rfl) _
  have hr := (hkI.row (S.row.ext hE) hne).set (5 + i) (.slice ao1 ((Sh i).es.length + 1) cap1)
  have hsv := eng_setS pre hp fa fl.length fcap Sh ev i hi ⟨(Sh i).es.take q ++ (⟨l[j], [], none, 0⟩ : EnR) :: (Sh i).es.drop q, ao1, cap1⟩
  rw [shV, hlen] at hsv
  rw [hsv] at hr
  rw [enr_ins] at hO
  have := mid_of hlt S ho hK hbox hno hebl hid hn hK0 i hi hci ((Sh i).es.take q ++ (⟨l[j], [], none, 0⟩ : EnR) :: (Sh i).es.drop q) ao1 cap1 q (by omega) (by rw [hget]) (by
      rw [List.map_append, List.map_cons, List.map_take, List.map_drop]
      exact rise_ins cmpCd_ord (S.g.rise i hi) hq hq1) (fun e he => by
      rcases (mem_ins _ _ _ _).1 he with h | h
      · rw [h]; exact Or.inr ⟨rfl, rfl, rfl, rfl, hq1⟩
      · exact Or.inl h) (fun e he => (mem_ins _ _ _ _).2 (Or.inr he)) (((hE.kp (fun b => b = eb ∨ own' b = .shelf i)).trans (hkI.mono (fun b _ h => Or.inr (hsh b h)))).trans (hks.mono (fun b _ h => Or.inl h))) hr (by rw [hlen]; exact hO.kp hks (fun g hg e => hane g hg e)) hat1
  rw [hget, hlen] at this
  exact this
end Go.Proofs.YtpbblaeamddbgaaGreat
