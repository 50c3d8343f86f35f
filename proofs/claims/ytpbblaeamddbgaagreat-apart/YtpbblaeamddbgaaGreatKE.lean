import Derived.Test.YtpbblaeamddbgaaGreatKC
namespace Go.Proofs.YtpbblaeamddbgaaGreat
open Go.RowKit

section
variable {E : World → Nat → (Nat → Prop) → List Int → List (Int × List Cd) → Int → Prop}
/-- The three engines of Apart. -/
def Trip (eb xb ob : Nat) (f g : List (Int × List Cd)) (a b c : Int) : List KE := [⟨eb, sch4, f, a⟩, ⟨xb, sch4, f, b⟩, ⟨ob, sch4, g, c⟩]
theorem eventAt (h : Hv) (W : World) : Calls Tryz.prog 15 #[.agg h.cells.toArray] W fun e w' => ∃ ro rcap, e = .returned (.slice ro (eventOf h).length rcap) ∧ Fxs w' ro (eventOf h) ∧ Ext W w' :=
  (event_any h W).mono (fun _ _ ⟨ro, rcap, h1, h2, _, h3⟩ => ⟨ro, rcap, h1, fxs_osl h2, h3⟩)
set_option maxHeartbeats 3200000 in
set_option maxRecDepth 100000 in
theorem apart_walk (C : EngC E) (lo mo ho : Option Addr) (lcap mcap hcap : Nat) (ls ms : List WL) (hs : List Hv) (w : World) (hL : WLs w lo ls) (hM : WLs w mo ms) (hH : HVs w ho hs) :
    Calls Tryz.prog 9 #[.slice lo ls.length lcap, .slice mo ms.length mcap, .slice ho hs.length hcap] w fun e w' => e = .returned (.bool true) ∧ Ext w w' := by
  have HE1 : Hid _ := engine_any C (KS.start (E := E) w) lo lcap ls hL
  have HE2 : Hid (∀ w1 own1 es, KS E w w1 own1 es → Ext w w1 → _) := fun w1 own1 es S h => engine_any C (own := own1) (es := es) S lo lcap ls (hL.ext h)
  have HE3 : Hid (∀ w1 own1 es, KS E w w1 own1 es → Ext w w1 → _) := fun w1 own1 es S h => engine_any C (own := own1) (es := es) S mo mcap ms (hM.ext h)
  have HTo : Hid (∀ w1 w2 own eb xb ob f g a b c h (ro : Option Addr) (rcap : Nat), KS E w w1 own (Trip eb xb ob f g a b c) → Ext w1 w2 → Fxs w2 ro (eventOf h) → Calls Tryz.prog 16 #[.pointer (some ⟨ob, 0, none⟩), .slice ro (eventOf h).length rcap] w2 fun e w' => TelPost E w w2 own (Trip eb xb ob f g a b c) 2 ⟨ob, sch4, g, c⟩ h e w') := fun w1 w2 own eb xb ob f g a b c h ro rcap S hE hc => KS.tel C (S.ahead C hE) (i := 2) rfl rfl h _ (Or.inl rfl) ro rcap hc
  have HTe : Hid (∀ w1 w2 own eb xb ob f g a b c h (ro : Option Addr) (rcap : Nat), KS E w w1 own (Trip eb xb ob f g a b c) → Ext w1 w2 → Fxs w2 ro (eventOf h) → Calls Tryz.prog 17 #[.pointer (some ⟨eb, 0, none⟩), .slice ro (eventOf h).length rcap] w2 fun e w' => TelPost E w w2 own (Trip eb xb ob f g a b c) 0 ⟨eb, sch4, f, a⟩ h e w') := fun w1 w2 own eb xb ob f g a b c h ro rcap S hE hc => KS.tel C (S.ahead C hE) (i := 0) rfl rfl h _ (Or.inr (Or.inl rfl)) ro rcap hc
  have HMe : Hid (∀ w1 w2 own eb xb ob f g a b c h (ro : Option Addr) (rcap : Nat), KS E w w1 own (Trip eb xb ob f g a b c) → Ext w1 w2 → Fxs w2 ro (eventOf h) → Calls Tryz.prog 16 #[.pointer (some ⟨eb, 0, none⟩), .slice ro (eventOf h).length rcap] w2 fun e w' => TelPost E w w2 own (Trip eb xb ob f g a b c) 0 ⟨eb, sch4, f, a⟩ h e w') := fun w1 w2 own eb xb ob f g a b c h ro rcap S hE hc => KS.tel C (S.ahead C hE) (i := 0) rfl rfl h _ (Or.inl rfl) ro rcap hc
  have HMx : Hid (∀ w1 w2 own eb xb ob f g a b c h (ro : Option Addr) (rcap : Nat), KS E w w1 own (Trip eb xb ob f g a b c) → Ext w1 w2 → Fxs w2 ro (eventOf h) → Calls Tryz.prog 16 #[.pointer (some ⟨xb, 0, none⟩), .slice ro (eventOf h).length rcap] w2 fun e w' => TelPost E w w2 own (Trip eb xb ob f g a b c) 1 ⟨xb, sch4, f, b⟩ h e w') := fun w1 w2 own eb xb ob f g a b c h ro rcap S hE hc => KS.tel C (S.ahead C hE) (i := 1) rfl rfl h _ (Or.inl rfl) ro rcap hc
  have HUn : Hid (∀ w1 own eb xb ob f g a b c (id : Int), KS E w w1 own (Trip eb xb ob f g a b c) → Calls Tryz.prog 27 #[.pointer (some ⟨ob, 0, none⟩), .int .i64 id] w1 fun e w' => ∃ (er : Int) (own' : Nat → Nat) (g' : List (Int × List Cd)), e = .returned (.int .i64 er) ∧ KS E w w' own' (Trip eb xb ob f g' a b c)) := fun w1 own eb xb ob f g a b c id S => by
    obtain ⟨q, hq⟩ := ex_pos g id
    refine (KS.uns C S (i := 2) (x := ⟨ob, sch4, g, c⟩) rfl id q hq).mono ?_
    rintro e w' ⟨rfl, own', S', _⟩
    exact ⟨_, own', _, rfl, S'⟩
  have HSt : Hid (∀ w1 own eb xb ob f g a b c, KS E w w1 own (Trip eb xb ob f g a b c) → Calls Tryz.prog 28 #[.pointer (some ⟨eb, 0, none⟩)] w1 fun e w' => ∃ (k : Nat) (own' : Nat → Nat), e = .returned (.agg #[.int .i64 f.length, .int .i64 k, .int .i64 a]) ∧ KS E w w' own' (Trip eb xb ob f g a b c)) := fun w1 own eb xb ob f g a b c S => by
    refine (KS.sta C S (i := 0) (x := ⟨eb, sch4, f, a⟩) rfl).mono ?_
    rintro e w' ⟨k, rfl, _, _, own', S', _⟩
    exact ⟨k, own', rfl, S'⟩
  have HHv : Hid (HVs w ho hs) := hH
  have hhl := hH.1
  clear hL hM hH
  go_enter Tryz.func9, Tryz.ntmps9
  go_wp2_with fail
  refine Calls.mono HE1.out ?_
  rintro e w1 ⟨eb, n, own1, rfl, hn1, hn2, S1, _, hX1, hmin⟩
  have HMn : Hid (n = min ls.length 90) := hmin
  clear HE1 hmin
  go_wp2_with fail
  refine Calls.mono (HE2.out w1 own1 _ S1 hX1) ?_
  rintro e w2 ⟨xb, n2, own2, rfl, hn3, hn4, S2, _, _, hmin⟩
  have hnn : n2 = n := by rw [hmin, HMn.out]
  subst hnn
  clear HE2 HMn S1 hX1 hmin
  go_wp2_with fail
  refine Calls.mono (HE3.out w2 own2 _ S2 S2.ext) ?_
  rintro e w3 ⟨ob, n3, own3, rfl, hn5, hn6, S3, _, _, hmin⟩
  clear HE3 S2 hmin
  have S3' : KS E w w3 own3 (Trip eb xb ob (fltOf ls n2) (fltOf ms n3) 0 0 0) := S3
  clear S3
  have hfl : (fltOf ls n2).length = n2 := fltOf_len ls n2
  have HFl : Hid ((fltOf ls n2).length = n2) := hfl
  clear hfl
  go_wp2_with fail
  go_loopw [16] (fun v16 wr => ∃ (i : Nat) (own : Nat → Nat) (a b c : Int) (g : List (Int × List Cd)), i ≤ hs.length ∧ v16 = .int .i64 i ∧ KS E w wr own (Trip eb xb ob (fltOf ls n2) g a b c)) (fun v16 _ => hs.length - (intOf v16).toNat)
  case atStart => exact ⟨0, own3, 0, 0, 0, _, Nat.zero_le _, rfl, S3'⟩
  case round =>
    obtain ⟨i, ownX, a, b, c, g, hil, rfl, SX⟩ := hrel
    clear S3'
    have HSx : Hid (KS E w wr ownX (Trip eb xb ob (fltOf ls n2) g a b c)) := SX
    clear SX
    by_cases hlt : i < hs.length
    · have hli : (i : Int) < (hs.length : Int) := by omega
      obtain ⟨hb, ho2, rfl, hrg⟩ := HHv.out.2 (by omega)
      have HRg : Hid (∀ W, Ext w W → W.rangeAt hb (ho2 + i * 12) hs[i].cells) := fun W h j v hv => h.cell (hrg i hlt j v hv)
      have HEv : Hid (∀ W, _) := fun W => eventAt hs[i] W
      clear hrg
      generalize hs[i] = hv at *
      have hr1 := HRg.out wr HSx.out.ext
      go_wp2_with (first
        | (refine wpList_load_mid rfl 42 _ rfl hb (ho2 + i * 12) rfl hv.cells _ hr1 Tryz.underlying42 rfl Tryz.sizeHv ?_; clear hr1))
      refine Calls.mono (HEv.out wr) ?_
      rintro e y1 ⟨ro1, rc1, rfl, hf1, hE1⟩
      go_wp2_with fail
      refine Calls.mono (HTo.out wr y1 ownX eb xb ob _ g a b c hv ro1 rc1 HSx.out hE1 hf1) ?_
      rintro e y2 ⟨ao2, ac2, own2, rfl, _, S2, _, _, _⟩
      have HS2 : Hid (KS E w y2 own2 (Trip eb xb ob (fltOf ls n2) g a b (nxt c))) := S2
      clear S2 hf1 hE1 HSx
      go_wp2_with fail
      refine Calls.mono (HUn.out y2 own2 eb xb ob _ g a b _ (i : Int) HS2.out) ?_
      rintro e y3 ⟨er, own3', g3, rfl, S3⟩
      have HS3 : Hid (KS E w y3 own3' (Trip eb xb ob (fltOf ls n2) g3 a b (nxt c))) := S3
      have hr3 := HRg.out y3 HS3.out.ext
      clear S3 HS2
      go_wp2_with (first
        | (refine wpList_load_mid rfl 42 _ rfl hb (ho2 + i * 12) rfl hv.cells _ hr3 Tryz.underlying42 rfl Tryz.sizeHv ?_; clear hr3))
      refine Calls.mono (HEv.out y3) ?_
      rintro e y4 ⟨ro4, rc4, rfl, hf4, hE4⟩
      go_wp2_with fail
      refine Calls.mono (HTe.out y3 y4 own3' eb xb ob _ g3 a b _ hv ro4 rc4 HS3.out hE4 hf4) ?_
      rintro e y5 ⟨ao5, ac5, own5, rfl, _, S5, _, _, _⟩
      have HS5 : Hid (KS E w y5 own5 (Trip eb xb ob (fltOf ls n2) g3 (nxt a) b (nxt c))) := S5
      clear S5 hf4 hE4 HS3
      go_wp2_with fail
      refine Calls.mono (HSt.out y5 own5 eb xb ob _ g3 _ b _ HS5.out) ?_
      rintro e y6 ⟨k6, own6, rfl, S6⟩
      clear HS5 HRg HEv HTo HTe HUn HSt HMe HMx
      go_wp2
      go_roundw
      case rel => exact ⟨i + 1, own6, nxt a, b, nxt c, g3, by omega, by go_num, S6⟩
      case measure => simp [intOf]; omega
    · have hli : ¬ (i : Int) < (hs.length : Int) := by omega
      have S0 := HSx.out
      clear HTo HTe HUn HSx
      go_wp2_with fail
      go_loopw [17] (fun v17 wr2 => ∃ (k : Nat) (own : Nat → Nat) (a b c : Int), k ≤ hs.length ∧ v17 = .int .i64 k ∧ KS E w wr2 own (Trip eb xb ob (fltOf ls n2) g a b c)) (fun v17 _ => hs.length - (intOf v17).toNat)
      case atStart => exact ⟨0, ownX, a, b, c, Nat.zero_le _, rfl, S0⟩
      case round =>
        obtain ⟨k, ownY, a', b', c', hkl, rfl, SY⟩ := hrel
        have HSy : Hid (KS E w wr ownY (Trip eb xb ob (fltOf ls n2) g a' b' c')) := SY
        clear S0 SY hli hlt
        by_cases hlt : k < hs.length
        · have hli : (k : Int) < (hs.length : Int) := by omega
          obtain ⟨hb, ho2, rfl, hrg⟩ := HHv.out.2 (by omega)
          have HRg : Hid (∀ W, Ext w W → W.rangeAt hb (ho2 + k * 12) hs[k].cells) := fun W h j v hv => h.cell (hrg k hlt j v hv)
          have HEv : Hid (∀ W, _) := fun W => eventAt hs[k] W
          clear hrg
          generalize hs[k] = hv at *
          have hr1 := HRg.out wr HSy.out.ext
          go_wp2_with (first
            | (refine wpList_load_mid rfl 42 _ rfl hb (ho2 + k * 12) rfl hv.cells _ hr1 Tryz.underlying42 rfl Tryz.sizeHv ?_; clear hr1))
          refine Calls.mono (HEv.out wr) ?_
          rintro e y1 ⟨ro1, rc1, rfl, hf1, hE1⟩
          go_wp2_with fail
          refine Calls.mono (HMe.out wr y1 ownY eb xb ob _ g _ _ _ hv ro1 rc1 HSy.out hE1 hf1) ?_
          rintro e y2 ⟨ao2, ac2, own2, rfl, hO2, S2, hR2, _, _⟩
          have HS2 : Hid (KS E w y2 own2 (Trip eb xb ob (fltOf ls n2) g (nxt a') b' c')) := S2
          have hr2 := HRg.out y2 HS2.out.ext
          clear S2 hf1 hE1 HSy
          go_wp2_with (first
            | (refine wpList_load_mid rfl 42 _ rfl hb (ho2 + k * 12) rfl hv.cells _ hr2 Tryz.underlying42 rfl Tryz.sizeHv ?_; clear hr2))
          refine Calls.mono (HEv.out y2) ?_
          rintro e y3 ⟨ro3, rc3, rfl, hf3, hE3⟩
          go_wp2_with fail
          refine Calls.mono (HMx.out y2 y3 own2 eb xb ob _ g _ _ _ hv ro3 rc3 HS2.out hE3 hf3) ?_
          rintro e y4 ⟨ao4, ac4, own4, rfl, hO4, S4, hR4, hK4, _⟩
          replace hO2 : OSl y2 3 1 ao2 (metIds (fltOf ls n2) (fo (eventOf hv))).length ac2 ((metIds (fltOf ls n2) (fo (eventOf hv))).map (Value.int .i64)) := hO2
          replace hO4 : OSl y4 3 1 ao4 (metIds (fltOf ls n2) (fo (eventOf hv))).length ac4 ((metIds (fltOf ls n2) (fo (eventOf hv))).map (Value.int .i64)) := hO4
          have HS4 : Hid (KS E w y4 own4 (Trip eb xb ob (fltOf ls n2) g (nxt a') (nxt b') c')) := S4
          have hO24 := OSl.kp (OSl.ext hO2 hE3) hK4 (fun g hg e => by have := (hR2 g hg).2; omega)
          have hml : (metIds (fltOf ls n2) (fo (eventOf hv))).length ≤ 90 := by
            have h := met_le (fltOf ls n2) (fo (eventOf hv)) (fltOf ls n2).length
            rw [List.take_of_length_le (Nat.le_refl _), fltOf_len] at h
            omega
          have HSm : Hid _ := ksame_any ao2 ao4 ac2 ac4 _ _ y4 (by omega) (by omega) (ixs_of_osl hO24) (ixs_of_osl hO4)
          rw [eqB_refl] at HSm
          clear S4 HS2 hO2 hO24 hO4 hR2 hR4 hK4 hf3 hE3 HRg HEv HMe HMx HSt
          generalize (metIds (fltOf ls n2) (fo (eventOf hv))).length = ml at *
          go_wp2_with fail
          refine Calls.mono HSm.out ?_
          rintro e y5 ⟨rfl, hE5⟩
          have S5 := HS4.out.ahead C hE5
          clear HSm HS4 hE5
          go_wp2
          go_roundw
          case rel => exact ⟨k + 1, own4, nxt a', nxt b', c', by omega, by go_num, S5⟩
          case measure => simp [intOf]; omega
        · have hli : ¬ (k : Int) < (hs.length : Int) := by omega
          clear HMe HMx
          go_wp2_with fail
          refine Calls.mono (HSt.out wr ownY eb xb ob _ g _ _ _ HSy.out) ?_
          rintro e y1 ⟨k1, own1', rfl, S1⟩
          have HEx : Hid (Ext w y1) := S1.ext
          rw [HFl.out]
          clear S1 HSy HSt
          go_wp2
          go_ret
          exact ⟨rfl, Ext.alloc HEx.out _⟩
end
end Go.Proofs.YtpbblaeamddbgaaGreat
