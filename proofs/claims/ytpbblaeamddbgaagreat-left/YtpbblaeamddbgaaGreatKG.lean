import Derived.Test.YtpbblaeamddbgaaGreatKC
import Derived.Test.YtpbblaeamddbgaaGreatKF
namespace Go.Proofs.YtpbblaeamddbgaaGreat
open Go.RowKit

theorem want_succ (ls : List WL) (f : Int → Option Vl) (k : Nat) : metIds (fltOf ls (k + 1)) f = if meetsB (filterOf (lAt ls k)) f then metIds (fltOf ls k) f ++ [(k : Int)] else metIds (fltOf ls k) f := by
  unfold metIds
  rw [fltOf_succ, List.filter_append, List.map_append]
  by_cases h : meetsB (filterOf (lAt ls k)) f = true <;> simp [h]
theorem want_len (ls : List WL) (f : Int → Option Vl) (k : Nat) : (metIds (fltOf ls k) f).length ≤ k := by
  have h := met_le (fltOf ls k) f k
  rwa [List.take_of_length_le (by rw [fltOf_len]; exact Nat.le_refl _)] at h
theorem meets_at {w W : World} {lo : Option Addr} {ls : List WL} (hL : WLs w lo ls) (n : Nat) (hlt : n < ls.length) (h : Ext w W) (hv : Hv) :
    Calls Tryz.prog 14 #[.slice ls[n].ao ls[n].l.length ls[n].cap, .agg #[.bool (hv.th 0), .bool (hv.th 1), .bool (hv.th 2), .bool (hv.th 3), .int .i64 (hv.n 0), .int .i64 (hv.n 1), .int .i64 (hv.n 2), .int .i64 (hv.n 3), .string (hv.s 0), .string (hv.s 1), .string (hv.s 2), .string (hv.s 3)]] W fun e w' => e = .returned (.bool (meetsB (filterOf (lAt ls n)) (fo (eventOf hv)))) ∧ Ext W w' := by
  obtain ⟨hw, hwl, hok⟩ := hL.2.2 ls[n] (List.getElem_mem hlt)
  have hla : lAt ls n = ls[n].l := by simp [lAt, hlt]
  rw [hla]
  exact kmeets_any ls[n].ao ls[n].cap ls[n].l hv W hwl (hw.ext h) hok
theorem one_newI (w : World) (T : TypeId) (v : Value) : ∀ j u, [v][j]? = some u → (w.alloc (.cells #[v] T)).cell? ((⟨w.heap.size, 0, none⟩ : Addr).add j) = some u := by
  intro j u hj
  rw [add_lt]
  exact (show Row (w.alloc (.cells #[v] T)) w.heap.size T [v] from row_alloc _ _ _ _ _ rfl rfl).at hj
/-- A list of one's own that is no engine's. -/
structure KList (w : World) (own : Nat → Nat) (T size : Nat) (ro : Option Addr) (n cap : Nat) (xs : List Value) : Prop where
  osl : OSl w T size ro n cap xs
  free : ∀ g, blkOf ro = some g → own g = 0
theorem KList.tel {w w' : World} {own own' : Nat → Nat} {T size : Nat} {ro : Option Addr} {n cap i : Nat} {xs : List Value} (h : KList w own T size ro n cap xs) (k : Kp (fun b => own b = i + 1) w w') (ho : ∀ b, b < w.heap.size → own' b = own b) : KList w' own' T size ro n cap xs :=
  ⟨OSl.kp h.1 k (fun g hg e => by have := h.2 g hg; omega), fun g hg => by rw [ho g (OSl.lt h.1 hg)]; exact h.2 g hg⟩
theorem KList.ext {w w' : World} {own : Nat → Nat} {T size : Nat} {ro : Option Addr} {n cap : Nat} {xs : List Value} (h : KList w own T size ro n cap xs) (e : Ext w w') : KList w' own T size ro n cap xs := ⟨OSl.ext h.1 e, h.2⟩
section
variable {E : World → Nat → (Nat → Prop) → List Int → List (Int × List Cd) → Int → Prop}
set_option maxHeartbeats 3200000 in
set_option maxRecDepth 100000 in
theorem told_walk (C : EngC E) (lo ho : Option Addr) (lcap hcap : Nat) (ls : List WL) (hs : List Hv) (w : World) (hL : WLs w lo ls) (hH : HVs w ho hs) :
    Calls Tryz.prog 5 #[.slice lo ls.length lcap, .slice ho hs.length hcap] w fun e w' => e = .returned (.bool true) ∧ Ext w w' := by
  have HE : Hid _ := engine_any C (KS.start (E := E) w) lo lcap ls hL
  have HMt : Hid (∀ W n (hlt : n < ls.length), Ext w W → ∀ hv : Hv, _) := fun W n hlt h hv => meets_at hL n hlt h hv
  have HT : Hid (∀ fn w1 w2 own eb f a h (ro : Option Addr) (rcap : Nat), (fn = 16 ∨ fn = 17 ∨ fn = 18) → KS E w w1 own [⟨eb, sch4, f, a⟩] → Ext w1 w2 → Fxs w2 ro (eventOf h) → Calls Tryz.prog fn #[.pointer (some ⟨eb, 0, none⟩), .slice ro (eventOf h).length rcap] w2 fun e w' => TelPost E w w2 own [⟨eb, sch4, f, a⟩] 0 ⟨eb, sch4, f, a⟩ h e w') := fun fn w1 w2 own eb f a h ro rcap hfn S hE hc => KS.tel C (S.ahead C hE) (i := 0) rfl rfl h _ hfn ro rcap hc
  have HL : Hid (WLs w lo ls) := hL
  have HHv : Hid (HVs w ho hs) := hH
  have hll := hL.1
  have hhl := hH.1
  clear hL hH
  go_enter Tryz.func5, Tryz.ntmps5
  go_wp2_with fail
  refine Calls.mono HE.out ?_
  rintro e w1 ⟨eb, n, own1, rfl, hn1, hn2, S1, _, _, hmin⟩
  clear HE hmin
  go_wp2_with fail
  go_loopw [8] (fun v8 wr => ∃ (i : Nat) (own : Nat → Nat) (a : Int), i ≤ hs.length ∧ v8 = .int .i64 i ∧ KS E w wr own [⟨eb, sch4, fltOf ls n, a⟩]) (fun v8 _ => hs.length - (intOf v8).toNat)
  case atStart => exact ⟨0, own1, 0, Nat.zero_le _, rfl, S1⟩
  case round =>
    obtain ⟨i, ownX, a, hil, rfl, SX⟩ := hrel
    clear S1
    by_cases hlt : i < hs.length
    · have hli : (i : Int) < (hs.length : Int) := by omega
      have HSx : Hid (KS E w wr ownX [⟨eb, sch4, fltOf ls n, a⟩]) := SX
      obtain ⟨hb, ho2, rfl, hrg⟩ := HHv.out.2 (by omega)
      have HRg : Hid (∀ W, Ext w W → W.rangeAt hb (ho2 + i * 12) hs[i].cells) := fun W h j v hv => h.cell (hrg i hlt j v hv)
      have HEv : Hid (∀ W, Calls Tryz.prog 15 #[.agg hs[i].cells.toArray] W fun e w' => ∃ ro rcap, e = .returned (.slice ro (eventOf hs[i]).length rcap) ∧ OSl w' 71 3 ro (eventOf hs[i]).length rcap ((eventOf hs[i]).flatMap Fd.cells) ∧ (∀ g, blkOf ro = some g → W.heap.size ≤ g) ∧ Ext W w') := fun W => event_any hs[i] W
      clear hrg SX
      generalize hs[i] = hv at *
      obtain ⟨wo, hwo⟩ : ∃ wo : World, wo = wr := ⟨_, rfl⟩
      subst hwo
      go_wp2_with fail
      go_loopw [9, 10] (fun v9 v10 wr => ∃ (ro : Option Addr) (rcap k : Nat), k ≤ n ∧ v10 = .int .i64 k ∧ v9 = .slice ro (metIds (fltOf ls k) (fo (eventOf hv))).length rcap ∧ OSl wr 3 1 ro (metIds (fltOf ls k) (fo (eventOf hv))).length rcap ((metIds (fltOf ls k) (fo (eventOf hv))).map (Value.int .i64)) ∧ (∀ g, blkOf ro = some g → wo.heap.size ≤ g) ∧ Ext wo wr) (fun _ v10 _ => n - (intOf v10).toNat)
      case atStart => exact ⟨none, 0, 0, Nat.zero_le _, rfl, rfl, OSl.nil _ _ _, (fun g hg => by cases hg), Ext.refl _⟩
      case round =>
        obtain ⟨ro, rcap, k, hkn, rfl, rfl, hown, hnew, hEr⟩ := hrel
        have HNw : Hid (∀ g, blkOf ro = some g → wo.heap.size ≤ g) := hnew
        have hwl := want_len ls (fo (eventOf hv)) k
        clear hnew
        have HEw : Hid (Ext w wr) := HSx.out.ext.trans hEr
        by_cases hk : k < n
        · have hkl : k < ls.length := by omega
          have hki : (k : Int) < (ls.length : Int) := by omega
          have hkn' : (k : Int) < (n : Int) := by omega
          obtain ⟨lb, lp, rfl, hcell⟩ := HL.out.2.1 (by omega)
          have c0 := HEw.out.cell (hcell k hkl)
          have HMk : Hid (∀ W, Ext w W → _) := fun W h => HMt.out W k hkl h hv
          have HSu : Hid _ := want_succ ls (fo (eventOf hv)) k
          have hr12 := HRg.out wr HEw.out
          have d0 : wr.cell? ⟨hb, ho2 + i * 12, none⟩ = some (.bool (hv.th 0)) := hr12 0 _ rfl
          have d1 : wr.cell? ⟨hb, ho2 + i * 12 + 1, none⟩ = some (.bool (hv.th 1)) := hr12 1 _ rfl
          have d2 : wr.cell? ⟨hb, ho2 + i * 12 + 2, none⟩ = some (.bool (hv.th 2)) := hr12 2 _ rfl
          have d3 : wr.cell? ⟨hb, ho2 + i * 12 + 3, none⟩ = some (.bool (hv.th 3)) := hr12 3 _ rfl
          have d4 : wr.cell? ⟨hb, ho2 + i * 12 + 4, none⟩ = some (.int .i64 (hv.n 0)) := hr12 4 _ rfl
          have d5 : wr.cell? ⟨hb, ho2 + i * 12 + 5, none⟩ = some (.int .i64 (hv.n 1)) := hr12 5 _ rfl
          have d6 : wr.cell? ⟨hb, ho2 + i * 12 + 6, none⟩ = some (.int .i64 (hv.n 2)) := hr12 6 _ rfl
          have d7 : wr.cell? ⟨hb, ho2 + i * 12 + 7, none⟩ = some (.int .i64 (hv.n 3)) := hr12 7 _ rfl
          have d8 : wr.cell? ⟨hb, ho2 + i * 12 + 8, none⟩ = some (.string (hv.s 0)) := hr12 8 _ rfl
          have d9 : wr.cell? ⟨hb, ho2 + i * 12 + 9, none⟩ = some (.string (hv.s 1)) := hr12 9 _ rfl
          have d10 : wr.cell? ⟨hb, ho2 + i * 12 + 10, none⟩ = some (.string (hv.s 2)) := hr12 10 _ rfl
          have d11 : wr.cell? ⟨hb, ho2 + i * 12 + 11, none⟩ = some (.string (hv.s 3)) := hr12 11 _ rfl
          clear hr12
          clear hcell
          generalize ls[k].ao = xa at *
          generalize ls[k].l.length = xl at *
          generalize ls[k].cap = xc at *
          generalize hB : meetsB (filterOf (lAt ls k)) (fo (eventOf hv)) = B at *
          clear hB
          generalize hM : metIds (fltOf ls k) (fo (eventOf hv)) = M at *
          clear hM
          cases B with
          | false =>
            go_wp2_with fail
            go_region_held3 (fun w' => w'.cell? ⟨lb, lp + k, none⟩ = some (.slice xa xl xc) ∧ w'.cell? ⟨hb, ho2 + i * 12, none⟩ = some (.bool (hv.th 0)) ∧ w'.cell? ⟨hb, ho2 + i * 12 + 1, none⟩ = some (.bool (hv.th 1)) ∧ w'.cell? ⟨hb, ho2 + i * 12 + 2, none⟩ = some (.bool (hv.th 2)) ∧ w'.cell? ⟨hb, ho2 + i * 12 + 3, none⟩ = some (.bool (hv.th 3)) ∧ w'.cell? ⟨hb, ho2 + i * 12 + 4, none⟩ = some (.int .i64 (hv.n 0)) ∧ w'.cell? ⟨hb, ho2 + i * 12 + 5, none⟩ = some (.int .i64 (hv.n 1)) ∧ w'.cell? ⟨hb, ho2 + i * 12 + 6, none⟩ = some (.int .i64 (hv.n 2)) ∧ w'.cell? ⟨hb, ho2 + i * 12 + 7, none⟩ = some (.int .i64 (hv.n 3)) ∧ w'.cell? ⟨hb, ho2 + i * 12 + 8, none⟩ = some (.string (hv.s 0)) ∧ w'.cell? ⟨hb, ho2 + i * 12 + 9, none⟩ = some (.string (hv.s 1)) ∧ w'.cell? ⟨hb, ho2 + i * 12 + 10, none⟩ = some (.string (hv.s 2)) ∧ w'.cell? ⟨hb, ho2 + i * 12 + 11, none⟩ = some (.string (hv.s 3)))
              (first | go_keep | exact ⟨hE2.cell (by exact c0), hE2.cell (by exact d0), hE2.cell (by exact d1), hE2.cell (by exact d2), hE2.cell (by exact d3), hE2.cell (by exact d4), hE2.cell (by exact d5), hE2.cell (by exact d6), hE2.cell (by exact d7), hE2.cell (by exact d8), hE2.cell (by exact d9), hE2.cell (by exact d10), hE2.cell (by exact d11)⟩)
              (first | (go_at_call 14; refine Calls.mono (HMk.out _ (HEw.out.drew)) ?_; rintro e w2 ⟨rfl, hE2⟩))
            have hown2 := OSl.ext hown ((Ext.refl _).drew.trans hE2)
            have hEr2 := hEr.drew.trans hE2
            clear hown
            go_wp2
            go_roundw
            case rel => exact ⟨ro, rcap, k + 1, by omega, by go_num, by rw [HSu.out]; rfl, by rw [HSu.out]; exact hown2, HNw.out, hEr2⟩
            case measure => simp [intOf]; omega
          | true =>
            go_wp2_with fail
            go_region_held3 (fun w' => w'.cell? ⟨lb, lp + k, none⟩ = some (.slice xa xl xc) ∧ w'.cell? ⟨hb, ho2 + i * 12, none⟩ = some (.bool (hv.th 0)) ∧ w'.cell? ⟨hb, ho2 + i * 12 + 1, none⟩ = some (.bool (hv.th 1)) ∧ w'.cell? ⟨hb, ho2 + i * 12 + 2, none⟩ = some (.bool (hv.th 2)) ∧ w'.cell? ⟨hb, ho2 + i * 12 + 3, none⟩ = some (.bool (hv.th 3)) ∧ w'.cell? ⟨hb, ho2 + i * 12 + 4, none⟩ = some (.int .i64 (hv.n 0)) ∧ w'.cell? ⟨hb, ho2 + i * 12 + 5, none⟩ = some (.int .i64 (hv.n 1)) ∧ w'.cell? ⟨hb, ho2 + i * 12 + 6, none⟩ = some (.int .i64 (hv.n 2)) ∧ w'.cell? ⟨hb, ho2 + i * 12 + 7, none⟩ = some (.int .i64 (hv.n 3)) ∧ w'.cell? ⟨hb, ho2 + i * 12 + 8, none⟩ = some (.string (hv.s 0)) ∧ w'.cell? ⟨hb, ho2 + i * 12 + 9, none⟩ = some (.string (hv.s 1)) ∧ w'.cell? ⟨hb, ho2 + i * 12 + 10, none⟩ = some (.string (hv.s 2)) ∧ w'.cell? ⟨hb, ho2 + i * 12 + 11, none⟩ = some (.string (hv.s 3)))
              (first | go_keep | exact ⟨hE2.cell (by exact c0), hE2.cell (by exact d0), hE2.cell (by exact d1), hE2.cell (by exact d2), hE2.cell (by exact d3), hE2.cell (by exact d4), hE2.cell (by exact d5), hE2.cell (by exact d6), hE2.cell (by exact d7), hE2.cell (by exact d8), hE2.cell (by exact d9), hE2.cell (by exact d10), hE2.cell (by exact d11)⟩)
              (first | (go_at_call 14; refine Calls.mono (HMk.out _ (HEw.out.drew)) ?_; rintro e w2 ⟨rfl, hE2⟩))
            have hown2 := OSl.ext hown ((Ext.refl _).drew.trans hE2)
            have hEr2 := hEr.drew.trans hE2
            clear hown hEr c0 d0 d1 d2 d3 d4 d5 d6 d7 d8 d9 d10 d11
            go_wp2_with (at_builtin; go_must (refine wpList_app rfl (.tmp 54) (.tmp 56) 25 rfl 3 (.int .i64 0) 1 8 Tryz.underlying25 Tryz.infoInt rfl (by decide) ro M.length rcap _ rfl (OSl.ext hown2 ((Ext.refl _).alloc _)) (some ⟨w2.heap.size, 0, none⟩) 1 1 [.int .i64 k] rfl (by intro h; cases h) rfl (fun _ => ⟨_, rfl, one_newI _ _ _⟩) (by intro u hu; simp at hu; subst hu; rfl) (by unfold maxLen; omega) (by omega) ?_; intro ro3 rcap3 w3 hown3 hk3 hat3))
            go_roundw
            case rel =>
              refine ⟨ro3, rcap3, k + 1, by omega, by go_num, by rw [HSu.out]; simp, ?_, fresh2 ((hEr2.alloc _).le) HNw.out hat3, (hEr2.alloc _).kpNew hk3 HNw.out⟩
              rw [HSu.out]
              simpa using hown3
            case measure => simp [intOf]; omega
        · obtain rfl : k = n := by omega
          have HRo : Hid (KList wr ownX 3 1 ro (metIds (fltOf ls k) (fo (eventOf hv))).length rcap ((metIds (fltOf ls k) (fo (eventOf hv))).map (Value.int .i64))) := ⟨hown, fun g hg => HSx.out.fresh g (HNw.out g hg)⟩
          have HSr : Hid (KS E w wr ownX [⟨eb, sch4, fltOf ls k, a⟩]) := HSx.out.ahead C hEr
          have hml : (metIds (fltOf ls k) (fo (eventOf hv))).length ≤ 90 := by omega
          clear hown hEr HSx HMt hwl
          have hr1 := HRg.out wr HSr.out.ext
          go_wp2_with (first
            | (refine wpList_load_mid rfl 42 _ rfl hb (ho2 + i * 12) rfl hv.cells _ hr1 Tryz.underlying42 rfl Tryz.sizeHv ?_; clear hr1))
          refine Calls.mono (HEv.out wr) ?_
          rintro e y1 ⟨ro1, rc1, rfl, hf1, hfr1, hE1⟩
          have HK1 : Hid (KList y1 ownX 71 3 ro1 (eventOf hv).length rc1 ((eventOf hv).flatMap Fd.cells)) := ⟨hf1, fun g hg => HSr.out.fresh g (hfr1 g hg)⟩
          have HW1 : Hid (KList y1 ownX 3 1 ro (metIds (fltOf ls k) (fo (eventOf hv))).length rcap ((metIds (fltOf ls k) (fo (eventOf hv))).map (Value.int .i64))) := HRo.out.ext hE1
          have HS1 : Hid (KS E w y1 ownX [⟨eb, sch4, fltOf ls k, a⟩]) := HSr.out.ahead C hE1
          clear hf1 hfr1 hE1 HRo HSr HEv HRg
          go_wp2_with fail
          refine Calls.mono (HT.out 16 y1 y1 ownX eb _ a hv ro1 rc1 (Or.inl rfl) HS1.out (Ext.refl _) (fxs_osl HK1.out.1)) ?_
          rintro e y2 ⟨ao2, ac2, own2, rfl, hO2, S2, hR2, hK2, hb2⟩
          have HA2 : Hid (KList y2 own2 3 1 ao2 (metIds (fltOf ls k) (fo (eventOf hv))).length ac2 ((metIds (fltOf ls k) (fo (eventOf hv))).map (Value.int .i64))) := ⟨hO2, fun g hg => (hR2 g hg).2⟩
          have HK2 : Hid _ := HK1.out.tel hK2 hb2
          have HW2 : Hid _ := HW1.out.tel hK2 hb2
          have HS2 : Hid (KS E w y2 own2 [⟨eb, sch4, fltOf ls k, nxt a⟩]) := S2
          clear hO2 S2 hR2 hK2 hb2 HK1 HW1 HS1
          go_wp2_with fail
          refine Calls.mono (HT.out 17 y2 y2 own2 eb _ _ hv ro1 rc1 (Or.inr (Or.inl rfl)) HS2.out (Ext.refl _) (fxs_osl HK2.out.1)) ?_
          rintro e y3 ⟨ao3, ac3, own3, rfl, hO3, S3, hR3, hK3, hb3⟩
          have HB3 : Hid (KList y3 own3 3 1 ao3 (metIds (fltOf ls k) (fo (eventOf hv))).length ac3 ((metIds (fltOf ls k) (fo (eventOf hv))).map (Value.int .i64))) := ⟨hO3, fun g hg => (hR3 g hg).2⟩
          have HK3 : Hid _ := HK2.out.tel hK3 hb3
          have HW3 : Hid _ := HW2.out.tel hK3 hb3
          have HA3 : Hid _ := HA2.out.tel hK3 hb3
          have HS3 : Hid (KS E w y3 own3 [⟨eb, sch4, fltOf ls k, nxt (nxt a)⟩]) := S3
          clear hO3 S3 hR3 hK3 hb3 HK2 HW2 HA2 HS2
          go_wp2_with fail
          refine Calls.mono (HT.out 18 y3 y3 own3 eb _ _ hv ro1 rc1 (Or.inr (Or.inr rfl)) HS3.out (Ext.refl _) (fxs_osl HK3.out.1)) ?_
          rintro e y4 ⟨ao4, ac4, own4, rfl, hO4, S4, hR4, hK4, hb4⟩
          have HC4 : Hid (KList y4 own4 3 1 ao4 (metIds (fltOf ls k) (fo (eventOf hv))).length ac4 ((metIds (fltOf ls k) (fo (eventOf hv))).map (Value.int .i64))) := ⟨hO4, fun g hg => (hR4 g hg).2⟩
          have HW4 : Hid _ := HW3.out.tel hK4 hb4
          have HA4 : Hid _ := HA3.out.tel hK4 hb4
          have HB4 : Hid _ := HB3.out.tel hK4 hb4
          have HS4 : Hid (KS E w y4 own4 [⟨eb, sch4, fltOf ls k, nxt (nxt (nxt a))⟩]) := S4
          clear hO4 S4 hR4 hK4 hb4 HK3 HW3 HA3 HB3 HS3 HT
          have HSm : Hid (∀ W bo bc, Ext y4 W → KList y4 own4 3 1 bo (metIds (fltOf ls k) (fo (eventOf hv))).length bc ((metIds (fltOf ls k) (fo (eventOf hv))).map (Value.int .i64)) → Calls Tryz.prog 19 #[.slice bo (metIds (fltOf ls k) (fo (eventOf hv))).length bc, .slice ro (metIds (fltOf ls k) (fo (eventOf hv))).length rcap] W fun e w' => e = .returned (.bool true) ∧ Ext W w') := fun W bo bc h hb => by
            have := ksame_any bo ro bc rcap _ _ W (by omega) (by omega) (ixs_of_osl (OSl.ext hb.1 h)) (ixs_of_osl (OSl.ext HW4.out.1 h))
            rw [eqB_refl] at this
            exact this
          go_wp2_with fail
          refine Calls.mono (HSm.out y4 ao2 ac2 (Ext.refl _) HA4.out) ?_
          rintro e y5 ⟨rfl, hE5⟩
          go_wp2_with fail
          refine Calls.mono (HSm.out y5 ao3 ac3 hE5 HB4.out) ?_
          rintro e y6 ⟨rfl, hE6⟩
          have hE46 := hE5.trans hE6
          clear hE5 hE6
          go_wp2_with fail
          refine Calls.mono (HSm.out y6 ao4 ac4 hE46 HC4.out) ?_
          rintro e y7 ⟨rfl, hE7⟩
          have S7 := HS4.out.ahead C (hE46.trans hE7)
          clear HSm HS4 hE46 hE7 HA4 HB4 HC4 HW4
          generalize (metIds (fltOf ls k) (fo (eventOf hv))).length = ml at *
          go_wp2
          go_roundw
          case rel => exact ⟨i + 1, own4, _, by omega, by go_num, S7⟩
          case measure => simp [intOf]; omega
    · have HEx : Hid (Ext w wr) := SX.ext
      have hli : ¬ (i : Int) < (hs.length : Int) := by omega
      clear SX
      go_wp2
      go_ret
      exact ⟨rfl, HEx.out⟩
end
end Go.Proofs.YtpbblaeamddbgaaGreat
