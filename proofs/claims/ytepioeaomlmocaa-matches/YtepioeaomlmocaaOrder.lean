import Derived.Test.YtepioeaomlmocaaStrs
namespace Go.Proofs.Ytepioeaomlmocaa
open Go.RowKit

theorem cmpB_drop : ∀ (k : Nat) (us vs : List UInt8), us.take k = vs.take k → Lib.compareBytes us vs = Lib.compareBytes (us.drop k) (vs.drop k)
  | 0, us, vs, _ => by simp
  | k + 1, [], [], _ => by simp
  | k + 1, [], b :: vs, h => by simp at h
  | k + 1, a :: us, [], h => by simp at h
  | k + 1, a :: us, b :: vs, h => by
    simp only [List.take_succ_cons, List.cons.injEq] at h
    obtain ⟨rfl, h⟩ := h
    have : Lib.compareBytes (a :: us) (a :: vs) = Lib.compareBytes us vs := by
      simp [Lib.compareBytes, UInt8.lt_irrefl]
    rw [this, cmpB_drop k us vs h]; simp

/-- r stands to 0 us o does. -/
def Sgn (r o : Int) : Prop := (r < 0 ↔ o < 0) ∧ (r = 0 ↔ o = 0)

theorem sgn_diff (us vs : List UInt8) (k : Nat) (h : us.take k = vs.take k) (ha : k < us.length) (hb : k < vs.length) (hne : us[k] ≠ vs[k]) : Sgn ((us[k].toNat : Int) - (vs[k].toNat : Int)) (Lib.compareBytes us vs) := by
  rw [cmpB_drop k us vs h, List.drop_eq_getElem_cons ha, List.drop_eq_getElem_cons hb]
  simp only [Lib.compareBytes]
  have hn : us[k].toNat ≠ vs[k].toNat := fun e => hne (UInt8.toNat_inj.1 e)
  unfold Sgn
  split
  · rename_i hlt
    have := UInt8.lt_iff_toNat_lt.1 hlt
    omega
  · rename_i hlt
    have h1 : ¬ us[k].toNat < vs[k].toNat := fun e => hlt (UInt8.lt_iff_toNat_lt.2 e)
    rw [if_pos (UInt8.lt_iff_toNat_lt.2 (by omega))]
    omega
theorem sgn_end (us vs : List UInt8) (k : Nat) (h : us.take k = vs.take k) (ha : k ≤ us.length) (hb : k ≤ vs.length) (hor : k = us.length ∨ k = vs.length) : Sgn ((us.length : Int) - (vs.length : Int)) (Lib.compareBytes us vs) := by
  rw [cmpB_drop k us vs h]
  unfold Sgn
  rcases hor with e | e
  · have h1 : us.drop k = [] := List.drop_eq_nil_of_le (by omega)
    rw [h1]
    have hl := List.length_drop (l := vs) (i := k)
    cases hd : vs.drop k with
    | nil => rw [hd] at hl; simp at hl; simp [Lib.compareBytes]; omega
    | cons b r => rw [hd] at hl; simp at hl; simp [Lib.compareBytes]; omega
  · have h1 : vs.drop k = [] := List.drop_eq_nil_of_le (by omega)
    rw [h1]
    have hl := List.length_drop (l := us) (i := k)
    cases hd : us.drop k with
    | nil => rw [hd] at hl; simp at hl; simp [Lib.compareBytes]; omega
    | cons b r => rw [hd] at hl; simp at hl; simp [Lib.compareBytes]; omega

theorem bytes_take_succ (a b : ByteArray) (k : Nat) (ha : k < a.size) (hb : k < b.size) (h : a.data.toList.take k = b.data.toList.take k) (e : a[k] = b[k]) : a.data.toList.take (k + 1) = b.data.toList.take (k + 1) := by
  rw [List.take_succ_eq_append_getElem (by simpa using ha), List.take_succ_eq_append_getElem (by simpa using hb), h]
  congr 2

theorem wrap_bytes (a b : UInt8) : wrap64 (wrap64 (a.toNat : Int) - wrap64 (b.toNat : Int)) = (a.toNat : Int) - (b.toNat : Int) := by
  have := a.toNat_lt
  have := b.toNat_lt
  unfold wrap64; omega

set_option maxHeartbeats 400000 in
theorem order_any (x y : Vl) (w : World) (hx : x.s.size ≤ 9223372036854775807) (hy : y.s.size ≤ 9223372036854775807) :
    Calls Try.prog 89 #[.agg #[.int .i64 x.n, .string x.s], .agg #[.int .i64 y.n, .string y.s]] w fun e w' => ∃ r, e = .returned (.int .i64 r) ∧ Sgn r (cmpV x y) ∧ Ext w w' := by
  obtain ⟨xn, xs⟩ := x
  obtain ⟨yn, ys⟩ := y
  simp only at hx hy ⊢
  by_cases hn : xn = yn
  · subst hn
    have HC : Hid (cmpV ⟨xn, xs⟩ ⟨xn, ys⟩ = Lib.compareBytes xs.data.toList ys.data.toList) := by show _ = _; simp [cmpV, cmpI, orI]
    generalize cmpV ⟨xn, xs⟩ ⟨xn, ys⟩ = cv at *
    go_enter Try.func89, Try.ntmps89
    go_wp2
    go_loopw [5] (fun i wr => ∃ k : Nat, k ≤ xs.size ∧ k ≤ ys.size ∧ i = .int .i64 k ∧ xs.data.toList.take k = ys.data.toList.take k ∧ Ext ((w.alloc (.cells #[.int .i64 xn, .string xs] 66)).alloc (.cells #[.int .i64 xn, .string ys] 66)) wr) (fun i _ => xs.size - (intOf i).toNat)
    case atStart => exact ⟨0, by omega, by omega, rfl, rfl, Ext.refl _⟩
    case round =>
      obtain ⟨k, hk1, hk2, rfl, hT, hE⟩ := hrel
      have HT : Hid (xs.data.toList.take k = ys.data.toList.take k) := hT
      clear hT
      have hEw : Ext w wr := (((Ext.refl _).alloc _).alloc _).trans hE
      have c0 : wr.cell? ⟨w.heap.size, 1, none⟩ = some (.string xs) := hE.cell (by simp)
      have c1 : wr.cell? ⟨w.heap.size + 1, 1, none⟩ = some (.string ys) := hE.cell (by exact cell_new _ _ _ _ _ (by simp) rfl)
      have hEE : Hid (Ext _ wr) := hE
      clear hE
      by_cases h1 : k < xs.size
      · by_cases h2 : k < ys.size
        · have i1 : (k : Int) < (xs.size : Int) := by omega
          have i2 : (k : Int) < (ys.size : Int) := by omega
          by_cases he : xs[k] = ys[k]
          · have HE : Hid (xs[k] = ys[k]) := he
            have hb : ((xs[k].toNat : Int) != (ys[k].toNat : Int)) = false := by simp [he]
            clear he
            go_wp2_with fail
            go_quiet (fail)
            go_wp2
            go_roundw
            case rel => exact ⟨k + 1, by omega, by omega, by go_num, bytes_take_succ xs ys k h1 h2 HT.out HE.out, (Ext.trans hEE.out (drewN_ext _ _))⟩
            case measure => simp [intOf]; omega
          · have HE : Hid (xs[k] ≠ ys[k]) := he
            have hb : ((xs[k].toNat : Int) != (ys[k].toNat : Int)) = true := by
              simp only [bne_iff_ne, ne_eq]; intro e; exact he (UInt8.toNat_inj.1 (by omega))
            clear he
            go_wp2_with fail
            go_quiet (fail)
            go_wp2
            go_quiet (fail)
            go_wp2
            go_ret
            refine ⟨_, rfl, ?_, (hEw.trans (drewN_ext _ _)).trans (drewN_ext _ _)⟩
            rw [HC.out, wrap_bytes]
            exact sgn_diff xs.data.toList ys.data.toList k HT.out h1 h2 HE.out
        · go_wp2_with fail
          go_ret
          refine ⟨_, rfl, ?_, hEw⟩
          rw [HC.out]
          exact sgn_end xs.data.toList ys.data.toList k HT.out hk1 hk2 (Or.inr (show k = ys.size by omega))
      · go_wp2_with fail
        go_ret
        refine ⟨_, rfl, ?_, hEw⟩
        rw [HC.out]
        exact sgn_end xs.data.toList ys.data.toList k HT.out hk1 hk2 (Or.inl (show k = xs.size by omega))
  · have hn' : (xn != yn) = true := by simpa using hn
    by_cases hlt : xn < yn
    · have HC : Hid (Sgn (-1) (cmpV ⟨xn, xs⟩ ⟨yn, ys⟩)) := by show Sgn _ _; simp [Sgn, cmpV, cmpI, orI, hlt]
      go_enter Try.func89, Try.ntmps89
      go_wp2
      go_ret
      exact ⟨_, rfl, HC.out, ((Ext.refl _).alloc _).alloc _⟩
    · have hgt : yn < xn := by omega
      have HC : Hid (Sgn 1 (cmpV ⟨xn, xs⟩ ⟨yn, ys⟩)) := by show Sgn _ _; simp [Sgn, cmpV, cmpI, orI, hlt, hgt]
      go_enter Try.func89, Try.ntmps89
      go_wp2
      go_ret
      exact ⟨_, rfl, HC.out, ((Ext.refl _).alloc _).alloc _⟩
end Go.Proofs.Ytepioeaomlmocaa
