import Derived.Test.YtpbblaeamddbgaaGreatWB
import Derived.Test.YtpbblaeamddbgaaGreatKA
namespace Go.Proofs.YtpbblaeamddbgaaGreat
open Go.RowKit

theorem encL_snoc (l : List Cd) (k : Nat) (hk : k < l.length) : encL (l.take (k + 1)) = encL (l.take k) ++ encC l[k] := by
  unfold encL
  rw [List.take_succ_eq_append_getElem hk, List.flatMap_append, List.flatMap_singleton]
theorem encC_len (c : Cd) (ha : c.a.s.size ≤ 20) (hb : c.b.s.size ≤ 20) : (encC c).length ≤ 60 := by
  simp [encC, encV, encN, bl_size]; omega
theorem encL_len : ∀ (l : List Cd) (_ : ∀ c ∈ l, tellB c = true), (encL l).length ≤ 60 * l.length
  | [], _ => by simp [encL]
  | c :: l, h => by
    have h1 := encL_len l (fun x hx => h x (List.mem_cons_of_mem _ hx))
    have h2 := h c (List.mem_cons_self ..)
    simp only [tellB, Bool.and_eq_true, decide_eq_true_eq] at h2
    have h3 := encC_len c h2.1.2 h2.2
    have e : encL (c :: l) = encC c ++ encL l := by simp [encL]
    rw [e, List.length_append, List.length_cons]
    omega
theorem byt_two (w : World) (T : TypeId) (b c : UInt8) : ∀ j u, (byC [b, c])[j]? = some u → (w.alloc (.cells #[.int .u8 (b.toNat : Int), .int .u8 (c.toNat : Int)] T)).cell? ((⟨w.heap.size, 0, none⟩ : Addr).add j) = some u := by
  intro j u hj
  rw [add_lt]
  exact (show Row (w.alloc (.cells #[.int .u8 (b.toNat : Int), .int .u8 (c.toNat : Int)] T)) w.heap.size T (byC [b, c]) from row_alloc _ _ _ _ _ rfl rfl).at hj
theorem cds_range {w : World} {b o : Nat} {l : List Cd} (h : Cds w b o l) (k : Nat) (hk : k < l.length) : w.rangeAt b (o + k * 6) l[k].cells := fun j v hv => by
  obtain ⟨h0, h1, h2, h3, h4, h5⟩ := h k hk
  match j, hv with
  | 0, hv => cases hv; exact h0
  | 1, hv => cases hv; exact h1
  | 2, hv => cases hv; exact h2
  | 3, hv => cases hv; exact h3
  | 4, hv => cases hv; exact h4
  | 5, hv => cases hv; exact h5
theorem BSl.first (w : World) (b : UInt8) : BSl w (w.alloc (.cells #[.int .u8 (b.toNat : Int)] 5)) (some ⟨w.heap.size, 0, none⟩) 1 [b] := by
  refine ⟨⟨by simp [byC], Or.inr ⟨w.heap.size, 1, #[.int .u8 (b.toNat : Int)], rfl, Nat.le_refl _, ?_, by simp, by unfold maxLen; omega, by simp, by simp [byC]⟩⟩, (Ext.refl _).alloc _⟩
  exact heap_alloc_new w _
theorem BSl.lt {w0 w : World} {ao : Option Addr} {cap : Nat} {l : List UInt8} (hown : BSl w0 w ao cap l) : ∀ g, blkOf ao = some g → g < w.heap.size := fun g hg => by
  obtain ⟨_, h2 | ⟨g', cap', cur, hv, hb, hh, _⟩⟩ := hown.1
  · simp only [Value.slice.injEq] at h2
    rw [h2.1.1] at hg; cases hg
  · simp only [Value.slice.injEq] at hv
    rw [hv.1] at hg
    cases hg
    exact (Array.getElem?_eq_some_iff.1 hh).1
theorem vl_range {w : World} {g : Nat} {T : TypeId} {c : Cd} (r : Row w g T c.cells) : w.rangeAt g 2 c.a.cells ∧ w.rangeAt g 4 c.b.cells := by
  refine ⟨fun j v hv => ?_, fun j v hv => ?_⟩
  · match j, hv with
    | 0, hv => cases hv; exact r.at (j := 2) rfl
    | 1, hv => cases hv; exact r.at (j := 3) rfl
  · match j, hv with
    | 0, hv => cases hv; exact r.at (j := 4) rfl
    | 1, hv => cases hv; exact r.at (j := 5) rfl
set_option maxHeartbeats 1600000 in
set_option maxRecDepth 100000 in
theorem encode_any (ao : Option Addr) (cap : Nat) (l : List Cd) (w : World) (hl : l.length ≤ 8) (hc : Cxs w ao l) :
    Calls Tryz.prog 61 #[.slice ao l.length cap] w fun e w' => ((∀ c ∈ l, tellB c = true) ∧ e = .returned (.tuple #[.string (strB (enc l)), .int .i64 0]) ∨ (¬ ∀ c ∈ l, tellB c = true) ∧ e = .returned (.tuple #[.string ⟨#[]⟩, .int .i64 5])) ∧ Ext w w' := by
  have HC : Hid (Cxs w ao l) := hc
  clear hc
  have hl8 : ¬ (8 : Int) < (l.length : Int) := by omega
  have hb : (l.length : Int) = ((UInt8.ofNat l.length).toNat : Int) := by rw [u8_back _ (by omega)]
  have hbm : (l.length : Int) % 256 = ((UInt8.ofNat l.length).toNat : Int) := by omega
  have HEn : Hid (enc l = UInt8.ofNat l.length :: encL l) := rfl
  rw [HEn.out]
  have HF : Hid (∀ W, BSl W (W.alloc (.cells #[.int .u8 ((UInt8.ofNat l.length).toNat : Int)] 5)) (some ⟨W.heap.size, 0, none⟩) 1 [UInt8.ofNat l.length]) := fun W => BSl.first W _
  generalize UInt8.ofNat l.length = b0 at *
  have HB : Hid ((l.length : Int) = (b0.toNat : Int)) := hb
  clear hb HEn
  obtain ⟨XL, hXL⟩ : ∃ XL, XL = b0 :: encL l := ⟨_, rfl⟩
  have HXL : Hid (XL = b0 :: encL l) := hXL
  rw [← hXL]
  clear hXL
  go_enter Tryz.func61, Tryz.ntmps61
  go_wp2_with fail
  have HA : Hid (BSl w (w.alloc (.cells #[.int .u8 (l.length : Int)] 5)) (some ⟨w.heap.size, 0, none⟩) 1 [b0]) := by rw [HB.out]; exact HF.out w
  go_loopw [4, 16] (fun v4 v16 wr => ∃ (k : Nat) (ao' : Option Addr) (cap' : Nat), k ≤ l.length ∧ v16 = .int .i64 k ∧ v4 = .slice ao' (b0 :: encL (l.take k)).length cap' ∧ BSl w wr ao' cap' (b0 :: encL (l.take k)) ∧ ∀ c ∈ l.take k, tellB c = true) (fun _ v16 _ => l.length - (intOf v16).toNat)
  case atStart => exact ⟨0, _, _, Nat.zero_le _, rfl, rfl, HA.out, fun c hc => by cases hc⟩
  case round =>
    obtain ⟨k, ao1, cap1, hk, rfl, rfl, hB, hT⟩ := hrel
    have HBs : Hid (BSl w wr ao1 cap1 (b0 :: encL (l.take k))) := hB
    have HT : Hid (∀ c ∈ l.take k, tellB c = true) := hT
    have hXl := encL_len (l.take k) hT
    have hXl2 : (b0 :: encL (l.take k)).length ≤ 500 := by simp at hXl ⊢; omega
    clear hB hT hXl HA HF
    by_cases hlt : k < l.length
    · have hli : (k : Int) < (l.length : Int) := by omega
      obtain ⟨b, o, rfl, hcd⟩ := HC.out (by omega)
      have hr := cds_range (hcd.ext HBs.out.2) k hlt
      have HSn : Hid (∀ ba bk : UInt8, l[k].attr = (ba.toNat : Int) → l[k].kind = (bk.toNat : Int) → b0 :: encL (l.take (k + 1)) = ((((b0 :: encL (l.take k)) ++ [ba, bk]) ++ encV l[k].a) ++ encV l[k].b)) := fun ba bk ea ek => by
        rw [encL_snoc l k hlt]; simp [encC, ea, ek]
      have HTn : Hid (tellB l[k] = true → ∀ c ∈ l.take (k + 1), tellB c = true) := fun h c hc => by
        rw [List.take_succ_eq_append_getElem hlt] at hc
        rcases List.mem_append.1 hc with h1 | h1
        · exact HT.out c h1
        · simp at h1; subst h1; exact h
      have HTf : Hid (tellB l[k] = false → ¬ ∀ c ∈ l, tellB c = true) := fun h h2 => by
        have := h2 l[k] (List.getElem_mem hlt)
        rw [h] at this; cases this
      have HTl : Hid (∀ W, Calls Tryz.prog 114 #[.agg l[k].cells.toArray] W fun e w' => e = .returned (.bool (tellB l[k])) ∧ Ext W w') := fun W => tell_any l[k] W
      generalize b0 :: encL (l.take k) = X at *
      clear hcd HT
      generalize l[k] = c at *
      have hlr := HBs.out.lt
      have HLr : Hid (∀ g, blkOf ao1 = some g → g < wr.heap.size) := hlr
      clear hlr
      go_wp2_with (first
        | (refine wpList_load_mid rfl 80 _ rfl b (o + k * 6) rfl c.cells _ hr Tryz.underlying80 rfl Tryz.sizeCd ?_; clear hr)
        | (refine wpList_store_row rfl 80 _ _ rfl wr.heap.size c.cells _ rfl rfl 80 (row_alloc _ _ _ _ _ rfl rfl) rfl Tryz.sizeCd (cd_one c) ?_
           intro w7 r7 k7
           have HE7 : Hid (Ext wr w7) := ((Ext.refl wr).alloc _).kpFresh k7 (Nat.le_refl _)
           have HR7 : Hid (Row w7 wr.heap.size 80 c.cells) := r7
           clear k7)
        | (refine wpList_load_row rfl 80 _ rfl wr.heap.size rfl c.cells _ 80 r7 Tryz.underlying80 rfl Tryz.sizeCd ?_; clear r7))
      refine Calls.mono (HTl.out _) ?_
      rintro e w8 ⟨rfl, hE8⟩
      have HE8 : Hid (Ext wr w8) := HE7.out.trans hE8
      have HR8 : Hid (Row w8 wr.heap.size 80 c.cells) := Row.ext HR7.out hE8
      clear HTl HE7 HR7 hE8
      cases hB : tellB c with
      | false =>
        go_wp2
        go_ret2
        exact ⟨Or.inr ⟨HTf.out hB, rfl⟩, HBs.out.2.trans HE8.out⟩
      | true =>
        have HTn2 : Hid _ := HTn.out hB
        simp only [tellB, Bool.and_eq_true, decide_eq_true_eq] at hB
        obtain ⟨⟨⟨⟨h0, h6⟩, h1, h9⟩, hsa⟩, hsb⟩ := hB
        obtain ⟨ba, hba⟩ : ∃ ba : UInt8, c.attr = (ba.toNat : Int) := ⟨UInt8.ofNat c.attr.toNat, by rw [u8_back _ (by omega)]; omega⟩
        obtain ⟨bk, hbk⟩ : ∃ bk : UInt8, c.kind = (bk.toNat : Int) := ⟨UInt8.ofNat c.kind.toNat, by rw [u8_back _ (by omega)]; omega⟩
        have HS2 : Hid _ := HSn.out ba bk hba hbk
        have c0 : w8.cell? ⟨wr.heap.size, 0, none⟩ = some (.int .i64 (ba.toNat : Int)) := by rw [← hba]; exact HR8.out.at (j := 0) rfl
        have c1 : w8.cell? ⟨wr.heap.size, 1, none⟩ = some (.int .i64 (bk.toNat : Int)) := by rw [← hbk]; exact HR8.out.at (j := 1) rfl
        have hba6 : (ba.toNat : Int) < 6 := by omega
        have hbk9 : (bk.toNat : Int) ≤ 9 := by omega
        have HB8 : Hid (BSl w w8 ao1 cap1 X) := HBs.out.ext HE8.out
        have hsz8 := HE8.out.le
        have hX1l : (X ++ [ba, bk]).length ≤ 502 := by simp; omega
        have hX2l : ((X ++ [ba, bk]) ++ encV c.a).length ≤ 600 := by simp [encV, encN, bl_size]; omega
        clear h0 h6 h1 h9 hba hbk HTn HTf HSn HBs HE8
        obtain ⟨X1, hX1⟩ : ∃ X1, X1 = X ++ [ba, bk] := ⟨_, rfl⟩
        rw [← hX1] at HS2 hX1l hX2l
        have HX1 : Hid (X1 = X ++ [ba, bk]) := hX1
        clear hX1
        go_wp2_with (first
          | (at_builtin
             refine wpList_appB rfl (.tmp 23) (.tmp 30) rfl ao1 cap1 X rfl (HB8.out.ext ((Ext.refl _).alloc _)) ⟨w8.heap.size, 0, none⟩ 2 [ba, bk] rfl (byt_two _ _ ba bk) (by simp; omega) ?_
             intro ao3 cap3 w9 hB9 hk9 hat9
             rw [← HX1.out] at hB9 ⊢
             have HB9 : Hid (BSl w w9 ao3 cap3 X1) := hB9
             have HR9 : Hid (Row w9 wr.heap.size 80 c.cells) := hk9.row (Row.ext HR8.out ((Ext.refl _).alloc _)) (fun e => by have := HLr.out _ e; omega)
             have HN9 : Hid (¬ blkOf ao3 = some wr.heap.size) := fun e => by
               rcases hat9.out with e2 | e2
               · rw [e2] at e; have := HLr.out _ e; omega
               · rw [e2] at e; simp at e; omega
             have hrA := (vl_range HR9.out).1
             clear hB9 hk9 hat9)
          | (refine wpList_load_mid rfl 69 _ rfl wr.heap.size 2 rfl c.a.cells _ hrA Tryz.underlying69 rfl Tryz.sizeVl ?_; clear hrA))
        refine Calls.mono (appv_any ao3 cap3 X1 c.a HB9.out (by omega) hsa) ?_
        rintro e w10 ⟨ao4, cap4, rfl, hB10, hk10⟩
        have HB10 : Hid (BSl w w10 ao4 cap4 (X1 ++ encV c.a)) := hB10
        have hrB := (vl_range (hk10.row HR9.out HN9.out)).2
        clear hB10 hk10 HB9 HR9 HN9
        generalize X1 ++ encV c.a = X2 at *
        go_wp2_with (first
          | (refine wpList_load_mid rfl 69 _ rfl wr.heap.size 4 rfl c.b.cells _ hrB Tryz.underlying69 rfl Tryz.sizeVl ?_; clear hrB))
        refine Calls.mono (appv_any ao4 cap4 X2 c.b HB10.out (by omega) hsb) ?_
        rintro e w11 ⟨ao5, cap5, rfl, hB11, hk11⟩
        have HB11 : Hid (BSl w w11 ao5 cap5 (X2 ++ encV c.b)) := hB11
        clear hB11 hk11 HB10
        generalize X2 ++ encV c.b = X3 at *
        go_wp2
        go_roundw
        case rel => exact ⟨k + 1, ao5, cap5, by omega, by go_num, by rw [HS2.out], by rw [HS2.out]; exact HB11.out, HTn2.out⟩
        case measure => simp [intOf]; omega
    · have hli : ¬ (k : Int) < (l.length : Int) := by omega
      have HTk : Hid (l.take k = l) := List.take_of_length_le (by omega)
      rw [HTk.out] at HBs HT hXl2
      rw [HTk.out]
      rw [← HXL.out] at HBs
      rw [← HXL.out]
      have hXp : 0 < XL.length := by rw [HXL.out]; simp
      clear HXL HTk hXl2
      go_wp2_with (first
        | (refine wpList_ofBytes rfl _ rfl ao1 cap1 XL rfl HBs.out hXp ?_))
      go_ret2
      exact ⟨Or.inl ⟨HT.out, rfl⟩, HBs.out.2⟩
end Go.Proofs.YtpbblaeamddbgaaGreat
namespace Go.Proofs.YtpbblaeamddbgaaGreat
open Go.RowKit

/-- What is left behind k conditions. -/
def rdR : Nat → List UInt8 → List UInt8
  | 0, L => L
  | k + 1, L => rdR k (rdC L).2
theorem rdR_snoc : ∀ (k : Nat) (L : List UInt8), rdR (k + 1) L = (rdC (rdR k L)).2
  | 0, _ => rfl
  | k + 1, L => rdR_snoc k (rdC L).2
theorem rdL_snoc : ∀ (k m : Nat) (L : List UInt8), k < m → (rdL m L).take (k + 1) = (rdL m L).take k ++ [(rdC (rdR k L)).1]
  | 0, m + 1, L, _ => by simp [rdL, rdR]
  | k + 1, m + 1, L, h => by
    have := rdL_snoc k m (rdC L).2 (by omega)
    simp only [rdL, List.take_succ_cons, List.cons_append]
    rw [this]
    rfl
theorem rdC_len (L : List UInt8) : (rdC L).2.length ≤ L.length := by simp [rdC, rdV]
theorem rdR_len : ∀ (k : Nat) (L : List UInt8), (rdR k L).length ≤ L.length
  | 0, _ => Nat.le_refl _
  | k + 1, L => Nat.le_trans (rdR_len k (rdC L).2) (rdC_len L)
theorem osl_row {w : World} {g T n size : Nat} {xs : List Value} (r : Row w g T xs) (hx : xs.length = n * size) (hn : n ≤ maxLen) : OSl w T size (some ⟨g, 0, none⟩) n n xs :=
  ⟨hx, Or.inr ⟨g, n, xs.toArray, rfl, Nat.zero_le _, r, Nat.le_refl _, hn, by simpa using hx, by rw [List.take_of_length_le (by simp; omega)]⟩⟩
theorem str_ne {X Y : List UInt8} (h : ¬ X = Y) : ((strB X).toList == (strB Y).toList) = false := by
  rw [ByteArray.toList_eq, ByteArray.toList_eq]
  simpa [strB] using h
theorem dec_small (L : List UInt8) : (dec L).length ≤ 8 := by rw [dec_len]; omega
set_option maxHeartbeats 1600000 in
set_option maxRecDepth 100000 in
theorem decode_any (L : List UInt8) (w : World) (hL : L.length ≤ 9223372036854775807) :
    Calls Tryz.prog 60 #[.string (strB L)] w fun e w' => ((goodT L ∧ ∃ g, e = .returned (.tuple #[.slice (some ⟨g, 0, none⟩) (dec L).length (dec L).length, .int .i64 0]) ∧ Row w' g 80 ((dec L).flatMap Cd.cells) ∧ w.heap.size ≤ g) ∨ (¬ goodT L ∧ e = .returned (.tuple #[.slice none 0 0, .int .i64 10]))) ∧ Ext w w' := by
  have H1 : Hid (∀ W rb, RdAt W rb L → _) := fun W rb h => number_any rb 1 L W h (by omega) hL
  have hn := one_lt L
  have HD : Hid (dec L = rdL (min (numOf (L.take 1)) 8) (L.drop 1)) := rfl
  have hDl := dec_len L
  have hLd : (L.drop 1).length ≤ 9223372036854775807 := by simp; omega
  have HCn : Hid (∀ k W rb, RdAt W rb (rdR k (L.drop 1)) → _) := fun k W rb h => rcond_any rb (rdR k (L.drop 1)) W h (Nat.le_trans (rdR_len k _) hLd)
  have HSn : Hid (∀ k, k < (dec L).length → (dec L).take (k + 1) = (dec L).take k ++ [(rdC (rdR k (L.drop 1))).1]) := fun k hk => by
    rw [HD.out]; rw [hDl] at hk; exact rdL_snoc k _ _ hk
  have HEn : Hid (∀ g W, Row W g 80 ((dec L).flatMap Cd.cells) → Calls Tryz.prog 61 #[.slice (some ⟨g, 0, none⟩) (dec L).length (dec L).length] W fun e w' => ((∀ c ∈ dec L, tellB c = true) ∧ e = .returned (.tuple #[.string (strB (enc (dec L))), .int .i64 0]) ∨ (¬ ∀ c ∈ dec L, tellB c = true) ∧ e = .returned (.tuple #[.string ⟨#[]⟩, .int .i64 5])) ∧ Ext W w') := fun g W h => encode_any (some ⟨g, 0, none⟩) (dec L).length (dec L) W (dec_small L) (fun _ => ⟨g, 0, rfl, cds_row h⟩)
  have HGd : Hid (goodT L ↔ (∀ c ∈ dec L, tellB c = true) ∧ enc (dec L) = L) := Iff.rfl
  generalize L.drop 1 = L1 at *
  generalize numOf (L.take 1) = n at *
  generalize dec L = D at *
  generalize enc D = ED at *
  have hD8 : D.length ≤ 8 := by omega
  have HDl : Hid (D.length = min n 8) := hDl
  clear HD hDl
  go_enter Tryz.func60, Tryz.ntmps60
  go_wp2_with fail
  have r0 : RdAt (w.alloc (.cells #[.string (strB L)] 213)) w.heap.size L := row_alloc _ _ _ _ _ rfl rfl
  refine Calls.mono (H1.out _ _ r0) ?_
  rintro e w1 ⟨rfl, r1, k1⟩
  have HR1 : Hid (RdAt w1 w.heap.size L1) := r1
  have HE1 : Hid (Ext w w1) := ((Ext.refl w).alloc _).kpFresh k1 (Nat.le_refl _)
  have hs1 : w.heap.size < w1.heap.size := r1.lt
  clear r0 r1 k1 H1
  go_wp2_with (first
    | (at_make; (refine wpList_make_row _ rfl _ _ 26 rfl 80 (.agg #[.int .i64 0, .int .i64 0, .int .i64 0, .string ⟨#[]⟩, .int .i64 0, .string ⟨#[]⟩]) 6 64 Tryz.underlying26 Tryz.infoCd _ _ _ _ D.length rfl rfl (by have := HDl.out; omega) (by have := HDl.out; omega) (by omega) (by unfold maxLen; omega) ?_); intro w2 Z2 hr2 hz2 hE2))
  have HE2 : Hid (Ext w w2) := HE1.out.trans hE2
  have HR2 : Hid (RdAt w2 w.heap.size L1) := Row.ext HR1.out hE2
  have HY2 : Hid (Row w2 w1.heap.size 80 Z2) := hr2
  have HZ2 : Hid (Z2.length = D.length * 6) := hz2.out
  clear hE2 hr2 hz2 HE1 HR1
  have hw1 : w.heap.size ≤ w1.heap.size := by omega
  have hne : ¬ w1.heap.size = w.heap.size := by omega
  generalize w1.heap.size = fb at *
  go_loopw [16] (fun v16 wr => ∃ (k : Nat) (Z : List Value), k ≤ D.length ∧ v16 = .int .i64 k ∧ RdAt wr w.heap.size (rdR k L1) ∧ Row wr fb 80 Z ∧ Z.length = D.length * 6 ∧ Z.take (k * 6) = (D.flatMap Cd.cells).take (k * 6) ∧ Ext w wr) (fun v16 _ => D.length - (intOf v16).toNat)
  case atStart => exact ⟨0, Z2, Nat.zero_le _, rfl, HR2.out, HY2.out, HZ2.out, by simp, HE2.out⟩
  case round =>
    obtain ⟨k, Z, hk, rfl, hR, hY, hZl, hZt, hE⟩ := hrel
    have HR : Hid (RdAt wr w.heap.size (rdR k L1)) := hR
    have HY : Hid (Row wr fb 80 Z) := hY
    have HZ : Hid (Z.length = D.length * 6 ∧ Z.take (k * 6) = (D.flatMap Cd.cells).take (k * 6)) := ⟨hZl, hZt⟩
    have HE : Hid (Ext w wr) := hE
    clear hR hY hZl hZt hE HE2 HR2 HY2 HZ2
    by_cases hlt : k < D.length
    · have hli : (k : Int) < (D.length : Int) := by omega
      have HCk : Hid _ := HCn.out k wr w.heap.size HR.out
      have HS : Hid ((D.flatMap Cd.cells).take ((k + 1) * 6) = (D.flatMap Cd.cells).take (k * 6) ++ (rdC (rdR k L1)).1.cells) := by
        show _ = _
        rw [flat_take Cd.cells 6 (fun _ => rfl), flat_take Cd.cells 6 (fun _ => rfl), HSn.out k hlt, List.flatMap_append, List.flatMap_singleton]
      have HRs : Hid (rdR (k + 1) L1 = (rdC (rdR k L1)).2) := rdR_snoc k L1
      generalize (rdC (rdR k L1)).1 = c at *
      generalize (rdC (rdR k L1)).2 = Lk at *
      go_wp2_with fail
      refine Calls.mono HCk.out ?_
      rintro e w3 ⟨rfl, hR3, hK3⟩
      have HR3 : Hid (RdAt w3 w.heap.size Lk) := hR3
      have HY3 : Hid (Row w3 fb 80 Z) := hK3.row HY.out hne
      have HE3 : Hid (Ext w w3) := HE.out.kpFresh hK3 (Nat.le_refl _)
      clear hR3 hK3 HCk HR HY HE
      have ta : True := trivial
      go_wp2_with (first
        | (have _t := ta; refine wpList_store_mid rfl 80 _ _ rfl fb (k * 6) c.cells.toArray rfl rfl (HY3.out.mid (k * 6) 6 (by rw [HZ.out.1]; omega)) Tryz.sizeCd (all_oneCell_toArray (cd_one c)) ?_; clear ta))
      go_roundw
      case rel =>
        have hl6 : c.cells.length = 6 := rfl
        have hrow' := row_setCells (g := fb) (T := 80) c.cells (k * 6) w3 Z HY3.out (by rw [hl6, HZ.out.1]; omega)
        have hkp : Kp (fun b => b = fb) w3 (w3.setCells fb (k * 6) c.cells) := kp_setCells (M := fun b => b = fb) rfl _ _ _ _ (Kp.refl _ _)
        have hst := seg_take Z (D.flatMap Cd.cells) c.cells (k * 6) HZ.out.2 (by rw [HZ.out.1]; omega) (by rw [hl6, show k * 6 + 6 = (k + 1) * 6 by omega]; exact HS.out)
        rw [hl6] at hst hrow'
        refine ⟨k + 1, _, by omega, by go_num, ?_, hrow', ?_, ?_, HE3.out.kpFresh hkp hw1⟩
        · rw [HRs.out]; exact hkp.row HR3.out (fun e => hne e.symm)
        · simp [hl6, HZ.out.1]; omega
        · rw [show (k + 1) * 6 = k * 6 + 6 by omega]; exact hst
      case measure => simp [intOf]; omega
    · have hli : ¬ (k : Int) < (D.length : Int) := by omega
      have e1 : Z = D.flatMap Cd.cells := by
        have := HZ.out.2
        rwa [List.take_of_length_le (by rw [HZ.out.1]; omega), List.take_of_length_le (by rw [flat_len _ 6 (fun _ => rfl)]; omega)] at this
      rw [e1] at HY
      have HEk : Hid _ := HEn.out fb wr HY.out
      clear e1 HZ HR HCn HSn HEn
      go_wp2_with fail
      refine Calls.mono HEk.out ?_
      rintro e w3 ⟨hcase, hE3⟩
      have HY3 : Hid (Row w3 fb 80 (D.flatMap Cd.cells)) := Row.ext HY.out hE3
      have HE3 : Hid (Ext w w3) := HE.out.trans hE3
      clear HEk hE3 HY HE
      rcases hcase with ⟨ht, rfl⟩ | ⟨ht, rfl⟩
      · by_cases he : ED = L
        · have HG : Hid (goodT L) := HGd.out.2 ⟨ht, he⟩
          rw [he]
          go_wp2
          go_ret2
          exact ⟨Or.inl ⟨HG.out, fb, rfl, HY3.out, hw1⟩, HE3.out⟩
        · have HG : Hid (¬ goodT L) := fun h => he (HGd.out.1 h).2
          have hns : ((strB ED).toList == (strB L).toList) = false := str_ne he
          go_wp2
          go_ret2
          exact ⟨Or.inr ⟨HG.out, rfl⟩, HE3.out⟩
      · have HG : Hid (¬ goodT L) := fun h => ht (HGd.out.1 h).1
        go_wp2
        go_ret2
        exact ⟨Or.inr ⟨HG.out, rfl⟩, HE3.out⟩
end Go.Proofs.YtpbblaeamddbgaaGreat
