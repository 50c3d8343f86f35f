import Derived.Test.YtpbblaeamddbgaaGreatKB
namespace Go.Proofs.YtpbblaeamddbgaaGreat
open Go.RowKit

theorem ord4_ok {xs : List Int} (h : Ord4 xs) : orderB sch4.length xs = true := by
  show orderB 4 xs = true
  rw [order_iff 4 xs h.1]
  exact h.2
theorem fltOf_drop (ls : List WL) (n k : Nat) (hk : k < n) : (fltOf ls n).drop k = ((k : Int), filterOf (lAt ls k)) :: (fltOf ls n).drop (k + 1) := by
  have hl : k < (fltOf ls n).length := by rw [fltOf_len]; exact hk
  rw [List.drop_eq_getElem_cons hl, fltOf_at]
theorem down_pos (ls : List WL) (n k : Nat) : PosOf ((fltOf ls n).drop (k + 1)) k 0 := by
  refine ⟨Nat.zero_le _, fun j _ h => absurd h (by omega), fun hq => ?_⟩
  rw [List.getElem_drop, fltOf_at]
  simp only
  omega
theorem down_sub (ls : List WL) (n k : Nat) (hk : k < n) (hn : n ≤ 90) : subErr ((fltOf ls n).drop (k + 1)) k (filterOf (lAt ls k)) 0 (filterOf (lAt ls k)).length = 0 ∧ subFlt ((fltOf ls n).drop (k + 1)) k (filterOf (lAt ls k)) 0 (filterOf (lAt ls k)).length = (fltOf ls n).drop k := by
  have h8 := filter_len (lAt ls k)
  have hl : ((fltOf ls n).drop (k + 1)).length ≤ 90 := by rw [List.length_drop, fltOf_len]; omega
  have hth : thereB ((fltOf ls n).drop (k + 1)) k 0 = false := thereB_no (fun h e => by
    rw [List.getElem_drop, fltOf_at] at e
    simp only at e
    omega)
  have h : subErr ((fltOf ls n).drop (k + 1)) k (filterOf (lAt ls k)) 0 (filterOf (lAt ls k)).length = 0 := by
    unfold subErr
    rw [if_neg (by omega), hth]
    simp only [Bool.false_eq_true, if_false]
    rw [if_neg (by omega), if_neg (by omega), if_neg (by omega)]
  refine ⟨h, ?_⟩
  unfold subFlt
  rw [h, fltOf_drop ls n k hk]
  simp
section
variable {E : World → Nat → (Nat → Prop) → List Int → List (Int × List Cd) → Int → Prop}
theorem filt_at {w W : World} {lo : Option Addr} {ls : List WL} (hL : WLs w lo ls) (n : Nat) (hlt : n < ls.length) (h : Ext w W) :
    Calls Tryz.prog 25 #[.slice ls[n].ao ls[n].l.length ls[n].cap] W fun e w' => ∃ ro rcap, e = .returned (.slice ro (filterOf (lAt ls n)).length rcap) ∧ Cxs w' ro (filterOf (lAt ls n)) ∧ Ext W w' := by
  obtain ⟨hw, hwl, hok⟩ := hL.2.2 ls[n] (List.getElem_mem hlt)
  have hla : lAt ls n = ls[n].l := by simp [lAt, hlt]
  refine (filter_any ls[n].ao ls[n].cap ls[n].l W hwl (hw.ext h) hok).mono ?_
  rintro e w' ⟨ro, rcap, rfl, hO, _, hE⟩
  rw [hla]
  exact ⟨ro, rcap, rfl, cxs_osl hO, hE⟩
theorem KS.subAt (C : EngC E) {w0 w w2 : World} {own : Nat → Nat} {es : List KE} (S : KS E w0 w own es) (hE : Ext w w2) {i : Nat} {x y : KE} (hi : es[i]? = some x) (hs : x.sch = sch4) (k q : Nat) (hk : k < 100) (l : List Wt) (hq : PosOf x.flt k q) (he : subErr x.flt k (filterOf l) q (filterOf l).length = 0) (hy : y = ⟨x.eb, x.sch, subFlt x.flt k (filterOf l) q (filterOf l).length, x.n⟩) (ro : Option Addr) (rcap : Nat) (hc : Cxs w2 ro (filterOf l)) :
    Calls Tryz.prog 24 #[.pointer (some ⟨x.eb, 0, none⟩), .int .i64 k, .slice ro (filterOf l).length rcap] w2 fun e w' => e = .returned (.tuple #[.int .i64 0, .int .i64 0]) ∧ ∃ own', KS E w0 w' own' (es.set i y) := by
  have hwf : (Lit.int .i64 (k : Int)).wf = true := by
    simp only [Lit.wf, IntKind.min, IntKind.max, IntKind.signed, IntKind.bits, Bool.and_eq_true, decide_eq_true_eq, if_true]
    omega
  refine (KS.subs C (S.ahead C hE) hi k hwf ro rcap (filterOf l) hc (filter_sz _) q _ hq (by rw [hs]; exact filter_may _)).mono ?_
  rw [hy]
  simp only [subPlace, he]
  rintro e w' ⟨rfl, own', S', _⟩
  exact ⟨rfl, own', S'⟩
theorem KS.rebAt (C : EngC E) {w0 w w2 : World} {own : Nat → Nat} {es : List KE} (S : KS E w0 w own es) (hE : Ext w w2) {i : Nat} {x : KE} (hi : es[i]? = some x) (hs : x.sch = sch4) (g : Nat) (xs : List Int) (hr : Row w2 g 3 (xs.map (Value.int .i64))) (ho : Ord4 xs) :
    Calls Tryz.prog 22 #[.pointer (some ⟨x.eb, 0, none⟩), .slice (some ⟨g, 0, none⟩) 4 4] w2 fun e w' => e = .returned (.int .i64 0) ∧ ∃ own', KS E w0 w' own' (es.set i x) := by
  have h4 : xs.length = 4 := ho.1
  have hx : Ixs w2 (some ⟨g, 0, none⟩) xs := fun _ => ⟨g, 0, rfl, fun j hj => by
    rw [Nat.zero_add]
    exact hr.at (by simp [hj])⟩
  have h := KS.reb C (S.ahead C hE) hi (some ⟨g, 0, none⟩) 4 xs hx
  rw [h4, hs, ord4_ok ho] at h
  refine h.mono ?_
  rintro e w' ⟨rfl, own', S', _⟩
  exact ⟨rfl, own', S'⟩
end
end Go.Proofs.YtpbblaeamddbgaaGreat
namespace Go.Proofs.YtpbblaeamddbgaaGreat
open Go.RowKit

section
variable {E : World → Nat → (Nat → Prop) → List Int → List (Int × List Cd) → Int → Prop}
/-- The two engines of Anew. -/
def Pair (eb xb : Nat) (f g : List (Int × List Cd)) (a b : Int) : List KE := [⟨eb, sch4, f, a⟩, ⟨xb, sch4, g, b⟩]
theorem Tryz.sizeHv : (Tryz.prog.info? 42).map (·.size) = some 12 := by kernel_rfl
set_option maxHeartbeats 3200000 in
set_option maxRecDepth 100000 in
theorem anew_walk (C : EngC E) (lo ho fo' to' : Option Addr) (lcap hcap fcap tcap : Nat) (ls : List WL) (hs : List Hv) (fs ts : List Int) (w : World) (hL : WLs w lo ls) (hH : HVs w ho hs) (hF : Ixs w fo' fs) (hFl : fs.length * 8 ≤ 140737488351232) (hFz : ∀ j, -9223372036854775808 ≤ fs.getD j 0 ∧ fs.getD j 0 ≤ 9223372036854775807) (hT : Ixs w to' ts) (hTl : ts.length * 8 ≤ 140737488351232) (hTz : ∀ j, -9223372036854775808 ≤ ts.getD j 0 ∧ ts.getD j 0 ≤ 9223372036854775807) :
    Calls Tryz.prog 6 #[.slice lo ls.length lcap, .slice ho hs.length hcap, .slice fo' fs.length fcap, .slice to' ts.length tcap] w fun e w' => e = .returned (.bool true) ∧ Ext w w' := by
  have HE : Hid _ := engine_any C (KS.start (E := E) w) lo lcap ls hL
  have HN : Hid (∀ w1 w2 own eb n g, KS E w w1 own [⟨eb, sch4, fltOf ls n, 0⟩] → Ext w1 w2 → Ixs w2 (some ⟨g, 0, none⟩) [1, 2, 1, 2] → Calls Tryz.prog 20 #[.slice (some ⟨g, 0, none⟩) 4 4] w2 fun e w' => ∃ xb own', e = .returned (.tuple #[.pointer (some ⟨xb, 0, none⟩), .int .i64 0]) ∧ KS E w w' own' (Pair eb xb (fltOf ls n) [] 0 0)) := fun w1 w2 own eb n g S h hx => by
    refine (KS.new C (S.ahead C h) (some ⟨g, 0, none⟩) 4 [1, 2, 1, 2] (by decide) hx (fun h => by cases h) (by decide)).mono ?_
    rintro e w' ⟨xb, own', rfl, S', _, _⟩
    exact ⟨xb, own', rfl, S'⟩
  have HO1 : Hid (∀ W, Ext w W → _) := fun W h => korder_any fo' fcap fs W hFl (hF.ext h) hFz
  have HO2 : Hid (∀ W, Ext w W → _) := fun W h => korder_any to' tcap ts W hTl (hT.ext h) hTz
  have HRb : Hid (∀ w1 w2 own eb xb f g a b bk xs, KS E w w1 own (Pair eb xb f g a b) → Ext w1 w2 → Row w2 bk 3 (xs.map (Value.int .i64)) → Ord4 xs → Calls Tryz.prog 22 #[.pointer (some ⟨xb, 0, none⟩), .slice (some ⟨bk, 0, none⟩) 4 4] w2 fun e w' => e = .returned (.int .i64 0) ∧ ∃ own', KS E w w' own' (Pair eb xb f g a b)) := fun w1 w2 own eb xb f g a b bk xs S h hr ho => KS.rebAt C S h (i := 1) rfl rfl bk xs hr ho
  have HFi : Hid (∀ W n (hlt : n < ls.length), Ext w W → _) := fun W n hlt h => filt_at hL n hlt h
  have HSu : Hid (∀ w1 w2 own eb xb n k (ro : Option Addr) (rcap : Nat), n ≤ 90 → k < n → KS E w w1 own (Pair eb xb (fltOf ls n) ((fltOf ls n).drop (k + 1)) 0 0) → Ext w1 w2 → Cxs w2 ro (filterOf (lAt ls k)) → Calls Tryz.prog 24 #[.pointer (some ⟨xb, 0, none⟩), .int .i64 k, .slice ro (filterOf (lAt ls k)).length rcap] w2 fun e w' => e = .returned (.tuple #[.int .i64 0, .int .i64 0]) ∧ ∃ own', KS E w w' own' (Pair eb xb (fltOf ls n) ((fltOf ls n).drop k) 0 0)) := fun w1 w2 own eb xb n k ro rcap hn hk S h hc =>
    KS.subAt C S h (i := 1) (x := ⟨xb, sch4, (fltOf ls n).drop (k + 1), 0⟩) (y := ⟨xb, sch4, (fltOf ls n).drop k, 0⟩) rfl rfl k 0 (by omega) (lAt ls k) (down_pos ls n k) (down_sub ls n k hk hn).1 (by rw [(down_sub ls n k hk hn).2]) ro rcap hc
  have HT1 : Hid (∀ w1 w2 own eb xb f a b h (ro : Option Addr) (rcap : Nat), KS E w w1 own (Pair eb xb f f a b) → Ext w1 w2 → Fxs w2 ro (eventOf h) → Calls Tryz.prog 17 #[.pointer (some ⟨eb, 0, none⟩), .slice ro (eventOf h).length rcap] w2 fun e w' => TelPost E w w2 own (Pair eb xb f f a b) 0 ⟨eb, sch4, f, a⟩ h e w') := fun w1 w2 own eb xb f a b h ro rcap S hE hc => KS.tel C (S.ahead C hE) (i := 0) rfl rfl h _ (Or.inr (Or.inl rfl)) ro rcap hc
  have HT2 : Hid (∀ w1 w2 own eb xb f a b h (ro : Option Addr) (rcap : Nat), KS E w w1 own (Pair eb xb f f a b) → Ext w1 w2 → Fxs w2 ro (eventOf h) → Calls Tryz.prog 17 #[.pointer (some ⟨xb, 0, none⟩), .slice ro (eventOf h).length rcap] w2 fun e w' => TelPost E w w2 own (Pair eb xb f f a b) 1 ⟨xb, sch4, f, b⟩ h e w') := fun w1 w2 own eb xb f a b h ro rcap S hE hc => KS.tel C (S.ahead C hE) (i := 1) rfl rfl h _ (Or.inr (Or.inl rfl)) ro rcap hc
  have HL : Hid (WLs w lo ls) := hL
  have HHv : Hid (HVs w ho hs) := hH
  have hll := hL.1
  have hhl := hH.1
  clear hL hH hF hT hFl hFz hTl hTz
  go_enter Tryz.func6, Tryz.ntmps6
  go_wp2_with fail
  refine Calls.mono HE.out ?_
  rintro e w1 ⟨eb, n, own1, rfl, hn1, hn2, S1, _, _, hmin⟩
  clear HE hmin
  go_wp2_with fail
  refine Calls.mono (kschema_any w1) ?_
  rintro e w2 ⟨rfl, hx2, hE2⟩
  go_wp2_with fail
  refine Calls.mono (HN.out w1 w2 own1 eb n w1.heap.size S1 hE2 hx2) ?_
  rintro e w3 ⟨xb, own3, rfl, S3⟩
  clear HN S1 hx2 hE2
  go_wp2_with fail
  refine Calls.mono (HO1.out w3 S3.ext) ?_
  rintro e w4 ⟨xs4, rfl, hr4, ho4, hE4⟩
  go_wp2_with fail
  refine Calls.mono (HRb.out w3 w4 own3 eb xb _ _ _ _ w3.heap.size xs4 S3 hE4 hr4 ho4) ?_
  rintro e w5 ⟨rfl, own5, S5⟩
  clear HO1 S3 hr4 ho4 hE4
  go_wp2_with fail
  go_loopw [15] (fun v15 wr => ∃ (k : Nat) (own : Nat → Nat), k ≤ n ∧ v15 = .int .i64 ((k : Int) - 1) ∧ KS E w wr own (Pair eb xb (fltOf ls n) ((fltOf ls n).drop k) 0 0)) (fun v15 _ => (intOf v15 + 1).toNat)
  case atStart => exact ⟨n, own5, Nat.le_refl _, rfl, by rw [List.drop_of_length_le (by rw [fltOf_len]; exact Nat.le_refl _)]; exact S5⟩
  case round =>
    obtain ⟨k, ownk, hkn, rfl, Sk⟩ := hrel
    clear S5
    by_cases hk0 : k = 0
    · subst hk0
      rw [show (((0 : Nat) : Int) - 1) = -1 from rfl]
      have S0 : KS E w wr ownk (Pair eb xb (fltOf ls n) (fltOf ls n) 0 0) := Sk
      clear Sk HSu HFi
      go_wp2_with fail
      go_loopw [18] (fun v18 wr2 => ∃ (i : Nat) (own : Nat → Nat) (a b : Int), i ≤ hs.length ∧ v18 = .int .i64 i ∧ KS E w wr2 own (Pair eb xb (fltOf ls n) (fltOf ls n) a b)) (fun v18 _ => hs.length - (intOf v18).toNat)
      case atStart => exact ⟨0, ownk, 0, 0, Nat.zero_le _, rfl, S0⟩
      case round =>
        obtain ⟨i, ownX, a, b, hil, rfl, SX⟩ := hrel
        clear S0
        by_cases hlt : i < hs.length
        · have hli : (i : Int) < (hs.length : Int) := by omega
          by_cases hi1 : i = 1
          · subst hi1
            go_wp2_with fail
            refine Calls.mono (HO2.out wr SX.ext) ?_
            rintro e z1 ⟨xs1, rfl, hrz, hoz, hEz⟩
            go_wp2_with fail
            refine Calls.mono (HRb.out wr z1 ownX eb xb _ _ _ _ wr.heap.size xs1 SX hEz hrz hoz) ?_
            rintro e z2 ⟨rfl, ownY, SY⟩
            clear hrz hoz hEz SX HO2 HRb
            have HSx : Hid (KS E w z2 ownY (Pair eb xb (fltOf ls n) (fltOf ls n) a b)) := SY
            obtain ⟨hb, ho2, rfl, hrg⟩ := HHv.out.2 (by omega)
            have HRg : Hid (∀ W, Ext w W → W.rangeAt hb (ho2 + 1 * 12) hs[1].cells) := fun W h j v hv => h.cell (hrg 1 hlt j v hv)
            have HEv : Hid (∀ W, Calls Tryz.prog 15 #[.agg hs[1].cells.toArray] W fun e w' => ∃ ro rcap, e = .returned (.slice ro (eventOf hs[1]).length rcap) ∧ Fxs w' ro (eventOf hs[1]) ∧ Ext W w') := fun W => (event_any hs[1] W).mono (fun _ _ ⟨ro, rcap, h1, h2, _, h3⟩ => ⟨ro, rcap, h1, fxs_osl h2, h3⟩)
            clear hrg SY
            generalize hs[1] = hv at *
            have hr1 := HRg.out z2 HSx.out.ext
            go_wp2_with (first
              | (refine wpList_load_mid rfl 42 _ rfl hb (ho2 + 1 * 12) rfl hv.cells _ hr1 Tryz.underlying42 rfl Tryz.sizeHv ?_; clear hr1))
            refine Calls.mono (HEv.out z2) ?_
            rintro e y1 ⟨ro1, rc1, rfl, hf1, hE1⟩
            go_wp2_with fail
            refine Calls.mono (HT1.out z2 y1 ownY eb xb _ a b hv ro1 rc1 HSx.out hE1 hf1) ?_
            rintro e y2 ⟨ao2, ac2, own2, rfl, hO2, S2, hR2, hK2, _⟩
            have HS2 : Hid (KS E w y2 own2 (Pair eb xb (fltOf ls n) (fltOf ls n) (nxt a) b)) := S2
            have hr2 := HRg.out y2 HS2.out.ext
            clear S2 hf1 hE1 HSx hK2
            go_wp2_with (first
              | (refine wpList_load_mid rfl 42 _ rfl hb (ho2 + 1 * 12) rfl hv.cells _ hr2 Tryz.underlying42 rfl Tryz.sizeHv ?_; clear hr2))
            refine Calls.mono (HEv.out y2) ?_
            rintro e y3 ⟨ro3, rc3, rfl, hf3, hE3⟩
            go_wp2_with fail
            refine Calls.mono (HT2.out y2 y3 own2 eb xb _ _ b hv ro3 rc3 HS2.out hE3 hf3) ?_
            rintro e y4 ⟨ao4, ac4, own4, rfl, hO4, S4, hR4, hK4, _⟩
            replace hO2 : OSl y2 3 1 ao2 (metIds (fltOf ls n) (fo (eventOf hv))).length ac2 ((metIds (fltOf ls n) (fo (eventOf hv))).map (Value.int .i64)) := hO2
            replace hO4 : OSl y4 3 1 ao4 (metIds (fltOf ls n) (fo (eventOf hv))).length ac4 ((metIds (fltOf ls n) (fo (eventOf hv))).map (Value.int .i64)) := hO4
            have HS4 : Hid (KS E w y4 own4 (Pair eb xb (fltOf ls n) (fltOf ls n) (nxt a) (nxt b))) := S4
            have hO24 := OSl.kp (OSl.ext hO2 hE3) hK4 (fun g hg e => by have := (hR2 g hg).2; omega)
            have hml : (metIds (fltOf ls n) (fo (eventOf hv))).length ≤ 90 := by
              have h := met_le (fltOf ls n) (fo (eventOf hv)) (fltOf ls n).length
              rw [List.take_of_length_le (Nat.le_refl _), fltOf_len] at h
              omega
            have HSm : Hid _ := ksame_any ao2 ao4 ac2 ac4 _ _ y4 (by omega) (by omega) (ixs_of_osl hO24) (ixs_of_osl hO4)
            rw [eqB_refl] at HSm
            clear S4 HS2 hO2 hO24 hO4 hR2 hR4 hK4 hf3 hE3 HRg HEv HT1 HT2
            generalize (metIds (fltOf ls n) (fo (eventOf hv))).length = ml at *
            go_wp2_with fail
            refine Calls.mono HSm.out ?_
            rintro e y5 ⟨rfl, hE5⟩
            have S5 := HS4.out.ahead C hE5
            clear HSm HS4 hE5
            go_wp2
            go_roundw
            case rel => exact ⟨2, own4, nxt a, nxt b, by omega, by go_num, S5⟩
            case measure => simp [intOf]; omega
          · have hne : ((i : Int) == 1) = false := by simp; omega
            have HSx : Hid (KS E w wr ownX (Pair eb xb (fltOf ls n) (fltOf ls n) a b)) := SX
            obtain ⟨hb, ho2, rfl, hrg⟩ := HHv.out.2 (by omega)
            have HRg : Hid (∀ W, Ext w W → W.rangeAt hb (ho2 + i * 12) hs[i].cells) := fun W h j v hv => h.cell (hrg i hlt j v hv)
            have HEv : Hid (∀ W, Calls Tryz.prog 15 #[.agg hs[i].cells.toArray] W fun e w' => ∃ ro rcap, e = .returned (.slice ro (eventOf hs[i]).length rcap) ∧ Fxs w' ro (eventOf hs[i]) ∧ Ext W w') := fun W => (event_any hs[i] W).mono (fun _ _ ⟨ro, rcap, h1, h2, _, h3⟩ => ⟨ro, rcap, h1, fxs_osl h2, h3⟩)
            clear hrg SX
            generalize hs[i] = hv at *
            have hr1 := HRg.out wr HSx.out.ext
            go_wp2_with (first
              | (refine wpList_load_mid rfl 42 _ rfl hb (ho2 + i * 12) rfl hv.cells _ hr1 Tryz.underlying42 rfl Tryz.sizeHv ?_; clear hr1))
            refine Calls.mono (HEv.out wr) ?_
            rintro e y1 ⟨ro1, rc1, rfl, hf1, hE1⟩
            go_wp2_with fail
            refine Calls.mono (HT1.out wr y1 ownX eb xb _ a b hv ro1 rc1 HSx.out hE1 hf1) ?_
            rintro e y2 ⟨ao2, ac2, own2, rfl, hO2, S2, hR2, hK2, _⟩
            have HS2 : Hid (KS E w y2 own2 (Pair eb xb (fltOf ls n) (fltOf ls n) (nxt a) b)) := S2
            have hr2 := HRg.out y2 HS2.out.ext
            clear S2 hf1 hE1 HSx hK2
            go_wp2_with (first
              | (refine wpList_load_mid rfl 42 _ rfl hb (ho2 + i * 12) rfl hv.cells _ hr2 Tryz.underlying42 rfl Tryz.sizeHv ?_; clear hr2))
            refine Calls.mono (HEv.out y2) ?_
            rintro e y3 ⟨ro3, rc3, rfl, hf3, hE3⟩
            go_wp2_with fail
            refine Calls.mono (HT2.out y2 y3 own2 eb xb _ _ b hv ro3 rc3 HS2.out hE3 hf3) ?_
            rintro e y4 ⟨ao4, ac4, own4, rfl, hO4, S4, hR4, hK4, _⟩
            replace hO2 : OSl y2 3 1 ao2 (metIds (fltOf ls n) (fo (eventOf hv))).length ac2 ((metIds (fltOf ls n) (fo (eventOf hv))).map (Value.int .i64)) := hO2
            replace hO4 : OSl y4 3 1 ao4 (metIds (fltOf ls n) (fo (eventOf hv))).length ac4 ((metIds (fltOf ls n) (fo (eventOf hv))).map (Value.int .i64)) := hO4
            have HS4 : Hid (KS E w y4 own4 (Pair eb xb (fltOf ls n) (fltOf ls n) (nxt a) (nxt b))) := S4
            have hO24 := OSl.kp (OSl.ext hO2 hE3) hK4 (fun g hg e => by have := (hR2 g hg).2; omega)
            have hml : (metIds (fltOf ls n) (fo (eventOf hv))).length ≤ 90 := by
              have h := met_le (fltOf ls n) (fo (eventOf hv)) (fltOf ls n).length
              rw [List.take_of_length_le (Nat.le_refl _), fltOf_len] at h
              omega
            have HSm : Hid _ := ksame_any ao2 ao4 ac2 ac4 _ _ y4 (by omega) (by omega) (ixs_of_osl hO24) (ixs_of_osl hO4)
            rw [eqB_refl] at HSm
            clear S4 HS2 hO2 hO24 hO4 hR2 hR4 hK4 hf3 hE3 HRg HEv HT1 HT2
            generalize (metIds (fltOf ls n) (fo (eventOf hv))).length = ml at *
            go_wp2_with fail
            refine Calls.mono HSm.out ?_
            rintro e y5 ⟨rfl, hE5⟩
            have S5 := HS4.out.ahead C hE5
            clear HSm HS4 hE5
            go_wp2
            go_roundw
            case rel => exact ⟨i + 1, own4, nxt a, nxt b, by omega, by go_num, S5⟩
            case measure => simp [intOf]; omega
        · have HEx : Hid (Ext w wr) := SX.ext
          have hli : ¬ (i : Int) < (hs.length : Int) := by omega
          clear SX
          go_wp2
          go_ret
          exact ⟨rfl, HEx.out⟩
    · obtain ⟨j, rfl⟩ : ∃ j, k = j + 1 := ⟨k - 1, by omega⟩
      have hj1 : ((j + 1 : Nat) : Int) - 1 = (j : Int) := by omega
      rw [hj1]
      clear hj1
      have hjl : j < ls.length := by omega
      have hji : (j : Int) < (ls.length : Int) := by omega
      have HSk : Hid (KS E w wr ownk (Pair eb xb (fltOf ls n) ((fltOf ls n).drop (j + 1)) 0 0)) := Sk
      obtain ⟨b, o, rfl, hcell⟩ := HL.out.2.1 (by omega)
      have c0 := Sk.ext.cell (hcell j hjl)
      have HF1 : Hid _ := HFi.out wr j hjl Sk.ext
      clear hcell Sk
      generalize ls[j].ao = xa at *
      generalize ls[j].l.length = xl at *
      generalize ls[j].cap = xc at *
      go_wp2_with fail
      refine Calls.mono HF1.out ?_
      rintro e y1 ⟨ro, rcap, rfl, hc1, hE1⟩
      clear HF1
      go_wp2_with fail
      refine Calls.mono (HSu.out wr y1 ownk eb xb n j ro rcap hn2 (by omega) HSk.out hE1 hc1) ?_
      rintro e y2 ⟨rfl, own2, S2⟩
      clear HSk hc1 hE1 c0
      go_wp2
      go_roundw
      case rel => exact ⟨j, own2, by omega, by go_num, S2⟩
      case measure => simp [intOf]
end
end Go.Proofs.YtpbblaeamddbgaaGreat
