import Derived.Test.YtpbblaeamddbgaaGreatWA
import Derived.Test.YtpbblaeamddbgaaGreatGG
import Derived.Test.YtpbblaeamddbgaaGreatKA
namespace Go.Proofs.YtpbblaeamddbgaaGreat
open Go.RowKit

theorem one_lt (L : List UInt8) : numOf (L.take 1) < 256 := numOf_lt _ 1 (by simp; omega)
set_option maxRecDepth 100000 in
theorem rvalue_any (rb : Nat) (L : List UInt8) (w : World) (hr : RdAt w rb L) (hL : L.length ≤ 9223372036854775807) :
    Calls Tryz.prog 165 #[.pointer (some ⟨rb, 0, none⟩)] w fun e w' => e = .returned (.agg #[.int .i64 (rdV L).1.n, .string (rdV L).1.s]) ∧ RdAt w' rb (rdV L).2 ∧ Kp (fun b => b = rb) w w' := by
  have HR : Hid (RdAt w rb L) := hr
  have H8 : Hid (∀ W, RdAt W rb L → _) := fun W h => number_any rb 8 L W h (by omega) hL
  have H1 : Hid (∀ W, RdAt W rb (L.drop 8) → _) := fun W h => number_any rb 1 (L.drop 8) W h (by omega) (by simp; omega)
  have hsz := one_lt (L.drop 8)
  have HT : Hid (∀ W, RdAt W rb ((L.drop 8).drop 1) → _) := fun W h => take_any rb (numOf ((L.drop 8).take 1)) ((L.drop 8).drop 1) W h (by omega) (by simp; omega)
  have HV : Hid (rdV L = (⟨IntKind.i64.wrap (numOf (L.take 8) : Int), strB (((L.drop 8).drop 1).take (numOf ((L.drop 8).take 1)))⟩, ((L.drop 8).drop 1).drop (numOf ((L.drop 8).take 1)))) := rfl
  have hts : (strB (((L.drop 8).drop 1).take (numOf ((L.drop 8).take 1)))).size ≤ 281474976710656 := by rw [str_size]; simp; omega
  rw [HV.out]
  clear hr HV
  generalize numOf (L.take 8) = n at *
  obtain ⟨z, hz⟩ : ∃ z, IntKind.i64.wrap (n : Int) = z := ⟨_, rfl⟩
  rw [hz]
  rw [Go.IntWalk.i64_left] at hz
  generalize numOf ((L.drop 8).take 1) = k at *
  generalize L.drop 8 = L1 at *
  generalize L1.drop 1 = L2 at *
  have HC : Hid (∀ W, Calls Tryz.prog 92 #[.string (strB (L2.take k))] W fun e w' => e = .returned (.string (strB (L2.take k))) ∧ Ext W w') := fun W => sclone_any _ W hts
  generalize L2.take k = T at *
  generalize L2.drop k = R at *
  have hrb := HR.out.lt
  go_enter Tryz.func165, Tryz.ntmps165
  go_wp2_with fail
  refine Calls.mono (H8.out _ (Row.ext HR.out ((Ext.refl _).alloc _))) ?_
  rintro e w1 ⟨rfl, hr1, hK1⟩
  have HR1 : Hid (RdAt w1 rb L1) := hr1
  have HK1 : Hid _ := hK1
  clear hr1 hK1 H8
  have HZ : Hid (Row (w.alloc (.cells #[.int .i64 0, .string ⟨#[]⟩] 69)) w.heap.size 69 [.int .i64 0, .string ⟨#[]⟩]) := row_alloc _ _ _ _ _ rfl rfl
  have hne : ¬ w.heap.size = rb := by omega
  have HZ1 : Hid (Row w1 w.heap.size 69 [.int .i64 0, .string ⟨#[]⟩]) := HK1.out.row HZ.out hne
  have HQ1 : Hid (Kp (fun b => b = rb) w w1) := ((Ext.refl w).alloc _).kp _ |>.trans HK1.out
  clear HZ HK1
  go_wp2_with fail
  refine Calls.mono (H1.out _ HR1.out) ?_
  rintro e w2 ⟨rfl, hr2, hK2⟩
  have HR2 : Hid (RdAt w2 rb L2) := hr2
  have HZ2 : Hid (Row w2 w.heap.size 69 [.int .i64 0, .string ⟨#[]⟩]) := hK2.row HZ1.out hne
  have HQ2 : Hid (Kp (fun b => b = rb) w w2) := HQ1.out.trans hK2
  clear hr2 hK2 H1 HR1 HZ1 HQ1
  go_wp2_with fail
  refine Calls.mono (HT.out _ HR2.out) ?_
  rintro e w3 ⟨rfl, hr3, hK3⟩
  have HR3 : Hid (RdAt w3 rb R) := hr3
  have HZ3 : Hid (Row w3 w.heap.size 69 [.int .i64 0, .string ⟨#[]⟩]) := hK3.row HZ2.out hne
  have HQ3 : Hid (Kp (fun b => b = rb) w w3) := HQ2.out.trans hK3
  clear hr3 hK3 HT HR2 HZ2 HQ2
  go_wp2_with fail
  refine Calls.mono (HC.out _) ?_
  rintro e w4 ⟨rfl, hE4⟩
  have HR4 : Hid (RdAt w4 rb R) := Row.ext HR3.out hE4
  have HQ4 : Hid (Kp (fun b => b = rb) w w4) := HQ3.out.trans (hE4.kp _)
  have rZ : Row w4 w.heap.size 69 [.int .i64 0, .string ⟨#[]⟩] := Row.ext HZ3.out hE4
  clear hE4 HC HR3 HZ3 HQ3
  go_wp2_with (first
    | (refine wpList_store_row rfl 69 _ _ rfl w.heap.size [.int .i64 z, .string (strB T)] _ rfl rfl 69 rZ rfl Tryz.sizeVl (vl_one ⟨z, strB T⟩) ?_; intro w7 r7 k7))
  refine bodyPost_ret (kresults_cell1 Tryz.results165 _ _ _ _ _ _ r7 Tryz.underlying69 rfl Tryz.sizeVl rfl) rfl ⟨rfl, k7.row HR4.out (fun e => hne e.symm), ?_⟩
  exact ⟨k7.os.trans HQ4.out.os, k7.tape.trans HQ4.out.tape, k7.output.trans HQ4.out.output, Nat.le_trans HQ4.out.size k7.size, fun b hb hm => (k7.block b (Nat.lt_of_lt_of_le hb HQ4.out.size) (by omega)).trans (HQ4.out.block b hb hm)⟩
end Go.Proofs.YtpbblaeamddbgaaGreat
namespace Go.Proofs.YtpbblaeamddbgaaGreat
open Go.RowKit

set_option maxHeartbeats 800000 in
set_option maxRecDepth 100000 in
theorem rcond_any (rb : Nat) (L : List UInt8) (w : World) (hr : RdAt w rb L) (hL : L.length ≤ 9223372036854775807) :
    Calls Tryz.prog 113 #[.pointer (some ⟨rb, 0, none⟩)] w fun e w' => e = .returned (.agg #[.int .i64 (rdC L).1.attr, .int .i64 (rdC L).1.kind, .int .i64 (rdC L).1.a.n, .string (rdC L).1.a.s, .int .i64 (rdC L).1.b.n, .string (rdC L).1.b.s]) ∧ RdAt w' rb (rdC L).2 ∧ Kp (fun b => b = rb) w w' := by
  have HR : Hid (RdAt w rb L) := hr
  have H1 : Hid (∀ W, RdAt W rb L → _) := fun W h => number_any rb 1 L W h (by omega) hL
  have H2 : Hid (∀ W, RdAt W rb (L.drop 1) → _) := fun W h => number_any rb 1 (L.drop 1) W h (by omega) (by simp; omega)
  have H3 : Hid (∀ W, RdAt W rb ((L.drop 1).drop 1) → _) := fun W h => rvalue_any rb ((L.drop 1).drop 1) W h (by simp; omega)
  have hl4 : (rdV ((L.drop 1).drop 1)).2.length ≤ 9223372036854775807 := by simp [rdV]; omega
  have H4 : Hid (∀ W, RdAt W rb (rdV ((L.drop 1).drop 1)).2 → _) := fun W h => rvalue_any rb (rdV ((L.drop 1).drop 1)).2 W h hl4
  have hk1 := one_lt L
  have hk2 := one_lt (L.drop 1)
  have HV : Hid (rdC L = (⟨(numOf (L.take 1) : Int), (numOf ((L.drop 1).take 1) : Int), (rdV ((L.drop 1).drop 1)).1, (rdV (rdV ((L.drop 1).drop 1)).2).1⟩, (rdV (rdV ((L.drop 1).drop 1)).2).2)) := rfl
  rw [HV.out]
  clear hr HV
  generalize numOf (L.take 1) = k1 at *
  generalize numOf ((L.drop 1).take 1) = k2 at *
  generalize L.drop 1 = L1 at *
  generalize L1.drop 1 = L2 at *
  generalize (rdV (rdV L2).2).1 = v2 at *
  generalize (rdV (rdV L2).2).2 = L4 at *
  generalize (rdV L2).1 = v1 at *
  generalize (rdV L2).2 = L3 at *
  have hrb := HR.out.lt
  have hne : ¬ w.heap.size = rb := by omega
  go_enter Tryz.func113, Tryz.ntmps113
  go_wp2_with fail
  refine Calls.mono (H1.out _ (Row.ext HR.out ((Ext.refl _).alloc _))) ?_
  rintro e w1 ⟨rfl, hr1, hK1⟩
  have HR1 : Hid (RdAt w1 rb L1) := hr1
  have HZ1 : Hid (Row w1 w.heap.size 80 [.int .i64 0, .int .i64 0, .int .i64 0, .string ⟨#[]⟩, .int .i64 0, .string ⟨#[]⟩]) := hK1.row (row_alloc _ _ _ _ _ rfl rfl) hne
  have HQ1 : Hid (Kp (fun b => b = rb) w w1) := ((Ext.refl w).alloc _).kp _ |>.trans hK1
  clear hr1 hK1 H1 HR
  go_wp2_with fail
  refine Calls.mono (H2.out _ HR1.out) ?_
  rintro e w2 ⟨rfl, hr2, hK2⟩
  have HR2 : Hid (RdAt w2 rb L2) := hr2
  have HZ2 : Hid (Row w2 w.heap.size 80 [.int .i64 0, .int .i64 0, .int .i64 0, .string ⟨#[]⟩, .int .i64 0, .string ⟨#[]⟩]) := hK2.row HZ1.out hne
  have HQ2 : Hid (Kp (fun b => b = rb) w w2) := HQ1.out.trans hK2
  clear hr2 hK2 H2 HR1 HZ1 HQ1
  go_wp2_with fail
  refine Calls.mono (H3.out _ HR2.out) ?_
  rintro e w3 ⟨rfl, hr3, hK3⟩
  have HR3 : Hid (RdAt w3 rb L3) := hr3
  have HZ3 : Hid (Row w3 w.heap.size 80 [.int .i64 0, .int .i64 0, .int .i64 0, .string ⟨#[]⟩, .int .i64 0, .string ⟨#[]⟩]) := hK3.row HZ2.out hne
  have HQ3 : Hid (Kp (fun b => b = rb) w w3) := HQ2.out.trans hK3
  clear hr3 hK3 H3 HR2 HZ2 HQ2
  go_wp2_with fail
  refine Calls.mono (H4.out _ HR3.out) ?_
  rintro e w4 ⟨rfl, hr4, hK4⟩
  have HR4 : Hid (RdAt w4 rb L4) := hr4
  have rZ : Row w4 w.heap.size 80 [.int .i64 0, .int .i64 0, .int .i64 0, .string ⟨#[]⟩, .int .i64 0, .string ⟨#[]⟩] := hK4.row HZ3.out hne
  have HQ4 : Hid (Kp (fun b => b = rb) w w4) := HQ3.out.trans hK4
  clear hr4 hK4 H4 HR3 HZ3 HQ3
  go_wp2_with (first
    | (refine wpList_store_row rfl 80 _ _ rfl w.heap.size [.int .i64 k1, .int .i64 k2, .int .i64 v1.n, .string v1.s, .int .i64 v2.n, .string v2.s] _ rfl rfl 80 (Row.ext rZ (((Ext.refl _).alloc _).alloc _)) rfl Tryz.sizeCd (cd_one ⟨k1, k2, v1, v2⟩) ?_; intro w7 r7 k7))
  have HQ5 : Hid (Kp (fun b => b = rb) w _) := HQ4.out.trans ((((Ext.refl w4).alloc (.cells #[.int .i64 v1.n, .string v1.s] 69)).alloc (.cells #[.int .i64 v2.n, .string v2.s] 69)).kp _)
  refine bodyPost_ret (kresults_cell1 Tryz.results113 _ _ _ _ _ _ r7 Tryz.underlying80 rfl Tryz.sizeCd rfl) rfl ⟨rfl, k7.row (Row.ext HR4.out (((Ext.refl _).alloc _).alloc _)) (fun e => hne e.symm), ?_⟩
  exact ⟨k7.os.trans HQ5.out.os, k7.tape.trans HQ5.out.tape, k7.output.trans HQ5.out.output, Nat.le_trans HQ5.out.size k7.size, fun b hb hm => (k7.block b (Nat.lt_of_lt_of_le hb HQ5.out.size) (by omega)).trans (HQ5.out.block b hb hm)⟩
end Go.Proofs.YtpbblaeamddbgaaGreat
namespace Go.Proofs.YtpbblaeamddbgaaGreat
open Go.RowKit

theorem encN_snoc (n : Int) (k : Nat) (hk : k < 8) : (encN n).take (k + 1) = (encN n).take k ++ [byN n (56 - 8 * k)] := by
  rcases (show k = 0 ∨ k = 1 ∨ k = 2 ∨ k = 3 ∨ k = 4 ∨ k = 5 ∨ k = 6 ∨ k = 7 by omega) with rfl | rfl | rfl | rfl | rfl | rfl | rfl | rfl <;> rfl
theorem byt_one (w : World) (T : TypeId) (b : UInt8) : ∀ j u, (byC [b])[j]? = some u → (w.alloc (.cells #[.int .u8 (b.toNat : Int)] T)).cell? ((⟨w.heap.size, 0, none⟩ : Addr).add j) = some u := by
  intro j u hj
  rw [add_lt]
  exact (show Row (w.alloc (.cells #[.int .u8 (b.toNat : Int)] T)) w.heap.size T (byC [b]) from row_alloc _ _ _ _ _ rfl rfl).at hj
/-- Bytes that are appended to, and what is kept beside them. -/
structure AppAt (w0 wb wr : World) (M : Nat → Prop) (ao : Option Addr) (cap : Nat) (l : List UInt8) : Prop where
  bs : BSl w0 wr ao cap l
  blk : ∀ g, blkOf ao = some g → M g
  kp : Kp M wb wr
theorem AppAt.alloc {w0 wb wr : World} {M : Nat → Prop} {ao : Option Addr} {cap : Nat} {l : List UInt8} (h : AppAt w0 wb wr M ao cap l) (o : Obj) : AppAt w0 wb (wr.alloc o) M ao cap l :=
  ⟨h.bs.ext ((Ext.refl _).alloc o), h.blk, h.kp.trans (((Ext.refl _).alloc o).kp _)⟩
theorem AppAt.app {w0 wb wr w' : World} {M : Nat → Prop} {ao ao' : Option Addr} {cap cap' : Nat} {l l' : List UInt8} (h : AppAt w0 wb wr M ao cap l) (hb : BSl w0 w' ao' cap' l') (hk : Kp (fun k => blkOf ao = some k) wr w') (hat : blkOf ao' = blkOf ao ∨ blkOf ao' = some wr.heap.size) (hM : M wr.heap.size) : AppAt w0 wb w' M ao' cap' l' :=
  ⟨hb, fun g hg => by
    rcases hat with e | e
    · exact h.blk g (by rw [← e]; exact hg)
    · rw [e] at hg; cases hg; exact hM, h.kp.trans (hk.mono (fun k _ e => h.blk k e))⟩
set_option maxHeartbeats 800000 in
set_option maxRecDepth 100000 in
theorem appv_any {w0 w : World} (ao : Option Addr) (cap : Nat) (l : List UInt8) (v : Vl) (hown : BSl w0 w ao cap l) (hl : l.length ≤ 1000) (hs : v.s.size ≤ 20) :
    Calls Tryz.prog 115 #[.slice ao l.length cap, .agg #[.int .i64 v.n, .string v.s]] w fun e w' => ∃ ao' cap', e = .returned (.slice ao' (l ++ encV v).length cap') ∧ BSl w0 w' ao' cap' (l ++ encV v) ∧ Kp (fun k => blkOf ao = some k) w w' := by
  have HO : Hid (BSl w0 w ao cap l) := hown
  have hlt : ∀ g, blkOf ao = some g → g < w.heap.size := fun g hg => by
    obtain ⟨_, h2 | ⟨g', cap', cur, hv, hb, hh, _⟩⟩ := hown.1
    · simp only [Value.slice.injEq] at h2
      rw [h2.1.1] at hg; cases hg
    · simp only [Value.slice.injEq] at hv
      rw [hv.1] at hg
      cases hg
      exact (Array.getElem?_eq_some_iff.1 hh).1
  have HLt : Hid (∀ g, blkOf ao = some g → g < w.heap.size) := hlt
  clear hown hlt
  obtain ⟨n, s⟩ := v
  simp only at hs
  have hV : l ++ encV ⟨n, s⟩ = ((l ++ encN n) ++ [UInt8.ofNat s.size]) ++ bl s := by simp [encV]
  rw [hV]
  have hb2 : (s.size : Int) = ((UInt8.ofNat s.size).toNat : Int) := by rw [u8_back _ (by omega)]
  have hXl8 : (l ++ encN n).length ≤ 1008 := by simp [encN]; omega
  have hss := bl_size s
  obtain ⟨X8, hX8⟩ : ∃ X8, X8 = l ++ encN n := ⟨_, rfl⟩
  have HX8 : Hid (X8 = l ++ encN n) := hX8
  rw [← hX8] at hXl8 ⊢
  generalize UInt8.ofNat s.size = b8 at *
  have HB2 : Hid ((s.size : Int) = (b8.toNat : Int)) := hb2
  obtain ⟨X9, hX9⟩ : ∃ X9, X9 = X8 ++ [b8] := ⟨_, rfl⟩
  have HX9 : Hid (X9 = X8 ++ [b8]) := hX9
  have hX9l : X9.length ≤ 1009 := by rw [hX9]; simp; omega
  rw [← hX9]
  clear hX9
  clear hV hX8 hb2
  go_enter Tryz.func115, Tryz.ntmps115
  go_wp2_with fail
  have HRb : Hid (Row (w.alloc (.cells #[.int .i64 n, .string s] 69)) w.heap.size 69 [.int .i64 n, .string s]) := row_alloc _ _ _ _ _ rfl rfl
  have HA : Hid (AppAt w0 (w.alloc (.cells #[.int .i64 n, .string s] 69)) (w.alloc (.cells #[.int .i64 n, .string s] 69)) (fun k => blkOf ao = some k ∨ w.heap.size < k) ao cap l) := ⟨HO.out.ext ((Ext.refl _).alloc _), fun g hg => Or.inl hg, Kp.refl _ _⟩
  have HM : Hid (¬ (blkOf ao = some w.heap.size ∨ w.heap.size < w.heap.size)) := fun h => by
    rcases h with h | h
    · have := HLt.out _ h; omega
    · omega
  have HK0 : Hid (Ext w (w.alloc (.cells #[.int .i64 n, .string s] 69))) := (Ext.refl _).alloc _
  have hsz : (w.alloc (.cells #[.int .i64 n, .string s] 69)).heap.size = w.heap.size + 1 := by simp
  clear HO HLt
  obtain ⟨wb, hwb⟩ : ∃ wb, wb = w.alloc (.cells #[.int .i64 n, .string s] 69) := ⟨_, rfl⟩
  rw [← hwb] at HRb HA HK0 hsz
  rw [← hwb]
  clear hwb
  obtain ⟨M, hM⟩ : ∃ M : Nat → Prop, M = fun k => blkOf ao = some k ∨ w.heap.size < k := ⟨_, rfl⟩
  have HMg : Hid (∀ k, w.heap.size < k → M k) := fun k hk => by rw [hM]; exact Or.inr hk
  have HMb : Hid (¬ M w.heap.size) := by rw [hM]; exact HM.out
  have HMo : Hid (∀ k, k < w.heap.size → M k → blkOf ao = some k) := fun k hk h => by rw [hM] at h; rcases h with h | h; exact h; omega
  rw [← hM] at HA
  clear hM HM
  go_loopw [0, 5] (fun v0 v5 wr => ∃ (k : Nat) (ao' : Option Addr) (cap' : Nat), k ≤ 8 ∧ v5 = .int .i64 (56 - 8 * (k : Int)) ∧ v0 = .slice ao' (l ++ (encN n).take k).length cap' ∧ AppAt w0 wb wr M ao' cap' (l ++ (encN n).take k)) (fun _ v5 _ => (intOf v5 + 8).toNat)
  case atStart => exact ⟨0, ao, cap, by omega, rfl, by simp, by simpa using HA.out⟩
  case round =>
    obtain ⟨k, ao1, cap1, hk, rfl, rfl, A1⟩ := hrel
    have HA1 : Hid (AppAt w0 wb wr M ao1 cap1 (l ++ (encN n).take k)) := A1
    have r1 := A1.kp.row HRb.out HMb.out
    have hsr := A1.kp.size
    have b0 := r1.at (j := 0) rfl
    have b1 := r1.at (j := 1) rfl
    clear A1 r1
    by_cases hlt : k < 8
    · have hge : (0 : Int) ≤ 56 - 8 * (k : Int) := by omega
      have hS := encN_snoc n k hlt
      have hb := (byN_nat n (56 - 8 * k)).symm
      have HX : Hid (l ++ (encN n).take (k + 1) = (l ++ (encN n).take k) ++ [byN n (56 - 8 * k)]) := by show _ = _; rw [hS, List.append_assoc]
      have hXl : (l ++ (encN n).take k).length ≤ 1008 := by simp; omega
      generalize byN n (56 - 8 * k) = b at *
      generalize l ++ (encN n).take k = X at *
      clear hS
      go_wp2_with (at_builtin; go_must (refine wpList_appB rfl (.tmp 10) (.tmp 16) rfl ao1 cap1 X rfl (HA1.out.alloc _).bs ⟨wr.heap.size, 0, none⟩ 1 [b] rfl (byt_one _ _ b) (by simp; omega) ?_; intro ao3 cap3 w3 hB3 hk3 hat3))
      have A3 := (HA1.out.alloc (.cells #[.int .u8 (b.toNat : Int)] 5)).app hB3 hk3 hat3.out (HMg.out _ (by simp; omega))
      clear hB3 hk3 hat3
      go_roundw
      case rel => exact ⟨k + 1, ao3, cap3, by omega, by go_num, by rw [HX.out]; simp, by rw [HX.out]; exact A3⟩
      case measure => simp [intOf]; omega
    · obtain rfl : k = 8 := by omega
      have HE : Hid ((encN n).take 8 = encN n) := rfl
      rw [HE.out, ← HX8.out] at HA1
      rw [HE.out, ← HX8.out]
      have hb := HB2.out
      have hlt8 : (s.size : Int) % 256 = (b8.toNat : Int) := by omega
      clear HE HX8
      go_wp2_with (at_builtin; first
        | (refine wpList_appB rfl (.tmp 18) (.tmp 23) rfl ao1 cap1 X8 rfl (HA1.out.alloc _).bs ⟨wr.heap.size, 0, none⟩ 1 [b8] rfl (byt_one _ _ b8) (by simp; omega) ?_
           intro ao3 cap3 w3 hB3 hk3 hat3
           have A3 := (HA1.out.alloc (.cells #[.int .u8 (b8.toNat : Int)] 5)).app hB3 hk3 hat3.out (HMg.out _ (by simp; omega))
           rw [← HX9.out] at A3 ⊢
           have HA3 : Hid (AppAt w0 wb w3 M ao3 cap3 X9) := A3
           have c3 := (A3.kp.row HRb.out HMb.out).at (j := 1) rfl
           clear A3 hB3 hk3 hat3)
        | (refine wpList_appS rfl (.tmp 25) (.tmp 27) rfl ao3 cap3 X9 rfl HA3.out.bs s rfl (by omega) ?_
           intro ao4 cap4 w4 hB4 hk4
           have HF : Hid (BSl w0 w4 ao4 cap4 (X9 ++ bl s) ∧ Kp (fun k => blkOf ao = some k) w w4) := ⟨hB4, ((HK0.out.kp M).trans (HA3.out.kp.trans (hk4.mono (fun k _ e => HA3.out.blk k e)))).mono HMo.out⟩
           clear hB4 hk4))
      go_ret
      exact ⟨ao4, cap4, by simp [hss], HF.out⟩
end Go.Proofs.YtpbblaeamddbgaaGreat
namespace Go.Proofs.YtpbblaeamddbgaaGreat
open Go.RowKit

set_option maxHeartbeats 800000 in
set_option maxRecDepth 100000 in
theorem tell_any (c : Cd) (w : World) :
    Calls Tryz.prog 114 #[.agg #[.int .i64 c.attr, .int .i64 c.kind, .int .i64 c.a.n, .string c.a.s, .int .i64 c.b.n, .string c.b.s]] w fun e w' => e = .returned (.bool (tellB c)) ∧ Ext w w' := by
  obtain ⟨attr, kind, ⟨an, s⟩, ⟨bn, t⟩⟩ := c
  show Calls Tryz.prog 114 #[.agg #[.int .i64 attr, .int .i64 kind, .int .i64 an, .string s, .int .i64 bn, .string t]] w fun e w' => e = .returned (.bool (decide (0 ≤ attr) && decide (attr < 6) && (decide (1 ≤ kind ∧ kind ≤ 9)) && (decide (s.size ≤ 20)) && decide (t.size ≤ 20))) ∧ Ext w w'
  by_cases h0 : 0 ≤ attr
  · by_cases h6 : attr < 6
    · by_cases hk : 1 ≤ kind ∧ kind ≤ 9
      · by_cases hs : s.size ≤ 20
        · have hsi : (s.size : Int) ≤ 20 := by omega
          by_cases ht : t.size ≤ 20
          · have hti : (t.size : Int) ≤ 20 := by omega
            have hv : (decide (0 ≤ attr) && decide (attr < 6) && (decide (1 ≤ kind ∧ kind ≤ 9)) && (decide (s.size ≤ 20)) && decide (t.size ≤ 20)) = true := by simp only [Bool.and_eq_true, decide_eq_true_eq]; omega
            rw [hv]
            go_enter Tryz.func114, Tryz.ntmps114
            go_wp2_with fail
            refine (kind_yes _ _ hk.1 hk.2).mono ?_
            rintro e w1 ⟨rfl, rfl⟩
            go_wp2
            go_ret
            exact ⟨ret_bool (by first | rfl | (simp only [decide_eq_false_iff_not]; omega) | (simp only [decide_eq_true_eq]; omega) | (symm; simp only [decide_eq_false_iff_not]; omega) | (simp; omega)), (Ext.refl _).alloc _⟩
          · have hti : ¬ (t.size : Int) ≤ 20 := by omega
            have hv : (decide (0 ≤ attr) && decide (attr < 6) && (decide (1 ≤ kind ∧ kind ≤ 9)) && (decide (s.size ≤ 20)) && decide (t.size ≤ 20)) = false := by simp only [Bool.and_eq_false_iff, decide_eq_false_iff_not]; omega
            rw [hv]
            go_enter Tryz.func114, Tryz.ntmps114
            go_wp2_with fail
            refine (kind_yes _ _ hk.1 hk.2).mono ?_
            rintro e w1 ⟨rfl, rfl⟩
            go_wp2
            go_ret
            exact ⟨ret_bool (by first | rfl | (simp only [decide_eq_false_iff_not]; omega) | (simp only [decide_eq_true_eq]; omega) | (symm; simp only [decide_eq_false_iff_not]; omega) | (simp; omega)), (Ext.refl _).alloc _⟩
        · have hsi : ¬ (s.size : Int) ≤ 20 := by omega
          have hv : (decide (0 ≤ attr) && decide (attr < 6) && (decide (1 ≤ kind ∧ kind ≤ 9)) && (decide (s.size ≤ 20)) && decide (t.size ≤ 20)) = false := by simp only [Bool.and_eq_false_iff, decide_eq_false_iff_not]; omega
          rw [hv]
          go_enter Tryz.func114, Tryz.ntmps114
          go_wp2_with fail
          refine (kind_yes _ _ hk.1 hk.2).mono ?_
          rintro e w1 ⟨rfl, rfl⟩
          go_wp2
          go_ret
          exact ⟨ret_bool (by first | rfl | (simp only [decide_eq_false_iff_not]; omega) | (simp only [decide_eq_true_eq]; omega) | (symm; simp only [decide_eq_false_iff_not]; omega) | (simp; omega)), (Ext.refl _).alloc _⟩
      · have hv : (decide (0 ≤ attr) && decide (attr < 6) && (decide (1 ≤ kind ∧ kind ≤ 9)) && (decide (s.size ≤ 20)) && decide (t.size ≤ 20)) = false := by simp only [Bool.and_eq_false_iff, decide_eq_false_iff_not]; omega
        rw [hv]
        go_enter Tryz.func114, Tryz.ntmps114
        go_wp2_with fail
        refine (kind_no _ _ hk).mono ?_
        rintro e w1 ⟨rfl, rfl⟩
        go_wp2
        go_ret
        exact ⟨ret_bool (by first | rfl | (simp only [decide_eq_false_iff_not]; omega) | (simp only [decide_eq_true_eq]; omega) | (symm; simp only [decide_eq_false_iff_not]; omega) | (simp; omega)), (Ext.refl _).alloc _⟩
    · have hv : (decide (0 ≤ attr) && decide (attr < 6) && (decide (1 ≤ kind ∧ kind ≤ 9)) && (decide (s.size ≤ 20)) && decide (t.size ≤ 20)) = false := by simp only [Bool.and_eq_false_iff, decide_eq_false_iff_not]; omega
      rw [hv]
      go_enter Tryz.func114, Tryz.ntmps114
      go_wp2
      go_ret
      exact ⟨ret_bool (by first | rfl | (simp only [decide_eq_false_iff_not]; omega) | (simp only [decide_eq_true_eq]; omega) | (symm; simp only [decide_eq_false_iff_not]; omega) | (simp; omega)), (Ext.refl _).alloc _⟩
  · have hv : (decide (0 ≤ attr) && decide (attr < 6) && (decide (1 ≤ kind ∧ kind ≤ 9)) && (decide (s.size ≤ 20)) && decide (t.size ≤ 20)) = false := by simp only [Bool.and_eq_false_iff, decide_eq_false_iff_not]; omega
    rw [hv]
    go_enter Tryz.func114, Tryz.ntmps114
    go_wp2
    go_ret
    exact ⟨ret_bool (by first | rfl | (simp only [decide_eq_false_iff_not]; omega) | (simp only [decide_eq_true_eq]; omega) | (symm; simp only [decide_eq_false_iff_not]; omega) | (simp; omega)), (Ext.refl _).alloc _⟩
end Go.Proofs.YtpbblaeamddbgaaGreat
