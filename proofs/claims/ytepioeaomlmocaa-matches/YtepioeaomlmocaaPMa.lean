import Derived.Test.YtepioeaomlmocaaPUn
namespace Go.Proofs.Ytepioeaomlmocaa
open Go.RowKit

theorem meets_is (eb : Nat) (f : Int → Option Vl) (ao : Option Addr) (cap : Nat) (l : List Cd) (w : World) (hl : l.length ≤ 8) (EC : List Value) (he : EC = evCells f) (hr : Row w eb 121 EC) (hc : Cxs w ao l) (hC : CdsOK l) (r : Bool) (hm : meetsB l f = r) :
    Calls Try.prog 62 #[.pointer (some ⟨eb, 0, none⟩), .slice ao l.length cap] w fun e w' => e = .returned (.bool r) ∧ Ext w w' := by
  subst hm he; exact meets_any eb f ao cap l w hl hr hc hC

set_option maxHeartbeats 1600000 in
set_option maxRecDepth 100000 in
theorem pma_bad (eb sb sc : Nat) (sch : List Int) (ao : Option Addr) (lcap : Nat) (ev : List Fd) (w : World) (hn : sch.length ≤ 6) (hl : ev.length * 32 ≤ 140737488351232) (hr : w.cell? ⟨eb, 0, none⟩ = some (.slice (some ⟨sb, 0, none⟩) sch.length sc)) (hs : Ints w sb 0 sch) (hf : Fxs w ao ev) (q : Nat) (hq : FirstBad sch ev q) (hql : q < ev.length) :
    Calls Try.prog 41 #[.pointer (some ⟨eb, 0, none⟩), .slice ao ev.length lcap] w fun e w' => e = .returned (.tuple #[.slice none 0 0, .int .i64 8, .int .i64 q]) ∧ Ext w w' := by
  have hc := readEvent_any sb 0 sc sch ao lcap ev w hn hl hs hf q hq
  rw [if_pos hql] at hc
  have HC : Hid _ := hc
  obtain ⟨EC, hEC⟩ : ∃ EC, EC = zCells := ⟨_, rfl⟩
  have HL : Hid (EC.length = 18) := by show _ = _; rw [hEC]; rfl
  have HO : Hid (∀ v ∈ EC, v.oneCell' = true) := by show ∀ v ∈ EC, _; rw [hEC]; exact evCells_one _
  rw [← hEC] at HC
  clear hc hEC hs hf
  go_enter Try.func41, Try.ntmps41
  go_wp2_with fail
  refine Calls.mono HC.out ?_
  rintro e w1 ⟨rfl, hE⟩
  go_wp2_with (first
    | (refine wpList_store_row rfl 121 _ _ rfl w1.heap.size EC zCells rfl rfl 121 (row_alloc _ _ _ _ _ rfl rfl) (by rw [HL.out]; rfl) (by rw [HL.out]; exact Try.infoEv) HO.out ?_; intro w2 hA2 hk2))
  go_ret3
  exact ⟨rfl, (hE.alloc _).kpFresh hk2 hE.le⟩

set_option maxHeartbeats 1600000 in
set_option maxRecDepth 100000 in
theorem pma_ok (eb sb sc : Nat) (sch : List Int) (fa : Option Addr) (fcap : Nat) (es : List Ent) (flt : List (Int × List Cd)) (F X : Nat → Prop) (ao : Option Addr) (lcap : Nat) (ev : List Fd) (w : World) (hn : sch.length ≤ 6) (hl : ev.length * 32 ≤ 140737488351232) (hfl : es.length ≤ 100) (hes : es.map Ent.key = flt)
    (hrow : Row w eb 79 [.slice (some ⟨sb, 0, none⟩) sch.length sc, .slice fa es.length fcap]) (hs : Ints w sb 0 sch) (hO : OSl w 85 2 fa es.length fcap (es.flatMap Ent.cells)) (hEs : ∀ e ∈ es, EntOK w F X e) (hf : Fxs w ao ev) (hq : FirstBad sch ev ev.length) (hG : FltOK flt) :
    Calls Try.prog 41 #[.pointer (some ⟨eb, 0, none⟩), .slice ao ev.length lcap] w fun e w' => ∃ ro rcap, e = .returned (.tuple #[.slice ro (metIds flt (fo ev)).length rcap, .int .i64 0, .int .i64 0]) ∧ OSl w' 3 1 ro (metIds flt (fo ev)).length rcap ((metIds flt (fo ev)).map (Value.int .i64)) ∧ (∀ g, blkOf ro = some g → w.heap.size ≤ g) ∧ Ext w w' := by
  have hc := readEvent_any sb 0 sc sch ao lcap ev w hn hl hs hf ev.length hq
  rw [if_neg (Nat.lt_irrefl _)] at hc
  have HC : Hid _ := hc
  obtain ⟨EC, hEC⟩ : ∃ EC, EC = evCells (fo ev) := ⟨_, rfl⟩
  have HEC : Hid (EC = evCells (fo ev)) := hEC
  have HL : Hid (EC.length = 18) := by show _ = _; rw [hEC]; rfl
  have HO : Hid (∀ v ∈ EC, v.oneCell' = true) := by show ∀ v ∈ EC, _; rw [hEC]; exact evCells_one _
  rw [← hEC] at HC
  obtain ⟨hkl, hky⟩ := key_at hes
  have HKY : Hid (∀ k (hk : k < es.length) (hk' : k < flt.length), flt[k] = (es[k].id, es[k].l)) := hky
  have HKL : Hid (flt.length = es.length) := hkl
  have HG : Hid (FltOK flt) := hG
  have HES : Hid (∀ e ∈ es, EntOK w F X e) := hEs
  have HOw : Hid (OSl w 85 2 fa es.length fcap (es.flatMap Ent.cells)) := hO
  have a0 := hrow.at (j := 0) rfl
  have a1 := hrow.at (j := 1) rfl
  clear hc hEC hs hf hky hG hEs hO hrow hkl hes
  go_enter Try.func41, Try.ntmps41
  go_wp2_with fail
  refine Calls.mono HC.out ?_
  rintro e w1 ⟨rfl, hE⟩
  clear HC
  go_wp2_with (first
    | (refine wpList_store_row rfl 121 _ _ rfl w1.heap.size EC zCells rfl rfl 121 (row_alloc _ _ _ _ _ rfl rfl) (by rw [HL.out]; rfl) (by rw [HL.out]; exact Try.infoEv) HO.out ?_; intro W hA2 hk2; have hEW : Ext w W := (hE.alloc _).kpFresh hk2 hE.le; have b1 := hEW.cell a1; clear a0 a1))
  clear hk2 hE
  go_loopw [10, 31] (fun v i wr => ∃ (ro : Option Addr) (rcap : Nat) (k : Nat), k ≤ es.length ∧ i = .int .i64 k ∧ v = .slice ro (metIds (flt.take k) (fo ev)).length rcap ∧ OSl wr 3 1 ro (metIds (flt.take k) (fo ev)).length rcap ((metIds (flt.take k) (fo ev)).map (Value.int .i64)) ∧ (∀ g, blkOf ro = some g → W.heap.size ≤ g) ∧ Ext W wr) (fun _ i _ => es.length - (intOf i).toNat)
  case atStart => exact ⟨none, 0, 0, Nat.zero_le _, rfl, rfl, OSl.nil _ _ _, (fun g hg => by cases hg), Ext.refl _⟩
  case round =>
    obtain ⟨ro, rcap, k, hk, rfl, rfl, hown, hnew, hEr⟩ := hrel
    have HN : Hid (∀ g, blkOf ro = some g → W.heap.size ≤ g) := hnew
    have hml := met_le flt (fo ev) k
    clear hnew b1
    by_cases hlt : k < es.length
    · have hkf : k < flt.length := by rw [HKL.out]; exact hlt
      have hms : Hid _ := met_succ flt (fo ev) k hkf
      have hkk : Hid (flt[k] = (es[k].id, es[k].l)) := HKY.out k hlt hkf
      have hok := HG.out k hkf
      rw [hkk.out] at hms hok
      obtain ⟨fb, rfl, e0⟩ := HOw.out.at (ent_at es k hlt).1
      obtain ⟨fb', efb, e1⟩ := HOw.out.at (ent_at es k hlt).2
      cases efb
      have d0 := hEr.cell (hEW.cell e0)
      have d1 := hEr.cell (hEW.cell e1)
      have hent := HES.out es[k] (List.getElem_mem hlt)
      have hcx : Cxs wr es[k].ao es[k].l := ((hent.cxs).ext hEW).ext hEr
      have hAr := hA2.ext hEr
      clear e0 e1 hent
      generalize es[k] = en0 at *
      obtain ⟨eid, el, eao, ecap⟩ := en0
      simp only at d0 d1 hcx hms hok
      go_wp2_with fail
      cases hB : meetsB el (fo ev) with
      | false =>
        have hms2 : Hid (metIds (flt.take (k + 1)) (fo ev) = metIds (flt.take k) (fo ev)) := by show _ = _; rw [hms.out, hB]; rfl
        refine (meets_is w1.heap.size (fo ev) eao ecap el _ hok.2 EC HEC.out (hAr.ext ((Ext.refl _).alloc _)) (hcx.ext ((Ext.refl _).alloc _)) hok.1 false hB).mono ?_
        rintro e w2 ⟨rfl, hE2⟩
        have hEr2 : Ext wr w2 := ((Ext.refl wr).alloc _).trans hE2
        clear hcx d0 d1 hms hB hAr hE2
        generalize metIds (flt.take k) (fo ev) = mi at *
        go_wp2
        go_roundw
        case rel => exact ⟨ro, rcap, k + 1, by omega, by go_num, by rw [hms2.out], by rw [hms2.out]; exact hown.ext hEr2, HN.out, hEr.trans hEr2⟩
        case measure => simp [intOf]; omega
      | true =>
        have hms2 : Hid (metIds (flt.take (k + 1)) (fo ev) = metIds (flt.take k) (fo ev) ++ [eid]) := by show _ = _; rw [hms.out, hB]; rfl
        refine (meets_is w1.heap.size (fo ev) eao ecap el _ hok.2 EC HEC.out (hAr.ext ((Ext.refl _).alloc _)) (hcx.ext ((Ext.refl _).alloc _)) hok.1 true hB).mono ?_
        rintro e w2 ⟨rfl, hE2⟩
        have f0 := hE2.cell (cell_new wr #[.int .i64 eid, .slice eao el.length ecap] 85 wr.heap.size 0 rfl rfl)
        have hEr2 : Ext wr w2 := ((Ext.refl wr).alloc _).trans hE2
        have hown2 := hown.ext hEr2
        have hErr := hEr.trans hEr2
        clear hcx d0 d1 hms hB hown hAr hE2 hEr2
        generalize metIds (flt.take k) (fo ev) = mi at *
        go_wp2_with (at_builtin; go_must (refine wpList_app rfl (.tmp 38) (.tmp 41) 27 rfl 3 (.int .i64 0) 1 8 Try.underlying27 Try.infoInt rfl (by decide) ro mi.length rcap _ rfl (OSl.ext hown2 ((Ext.refl _).alloc _)) (some ⟨w2.heap.size, 0, none⟩) 1 1 [.int .i64 eid] rfl (by intro h; cases h) rfl (fun _ => ⟨_, rfl, one_new _ _ _⟩) (by intro u hu; simp at hu; subst hu; rfl) (by unfold maxLen; omega) (by omega) ?_; intro ro3 rcap3 w3 hown3 hk3 hat3))
        go_roundw
        case rel =>
          refine ⟨ro3, rcap3, k + 1, by omega, by go_num, by rw [hms2.out]; simp, ?_, fresh2 ((hErr.alloc _).le) HN.out hat3, (hErr.alloc _).kpNew hk3 HN.out⟩
          rw [hms2.out]
          simpa using hown3
        case measure => simp [intOf]; omega
    · have hfin : Hid (metIds (flt.take k) (fo ev) = metIds flt (fo ev)) := by show _ = _; rw [List.take_of_length_le (by rw [HKL.out]; omega)]
      rw [hfin.out] at hown hml ⊢
      go_wp2
      go_ret3
      exact ⟨ro, rcap, rfl, hown, fun g hg => Nat.le_trans hEW.le (HN.out g hg), hEW.trans hEr⟩

theorem pma_any (eb : Nat) (F : Nat → Prop) (sch : List Int) (flt : List (Int × List Cd)) (ao : Option Addr) (lcap : Nat) (ev : List Fd) (w : World) (hn : sch.length ≤ 6) (hl : ev.length * 32 ≤ 140737488351232) (hf : flt.length ≤ 100) (hE : EngAt w eb F sch flt) (hfx : Fxs w ao ev) (hG : FltOK flt) (q : Nat) (hq : FirstBad sch ev q) :
    Calls Try.prog 41 #[.pointer (some ⟨eb, 0, none⟩), .slice ao ev.length lcap] w fun e w' => ∃ ro rcap F', e = .returned (.tuple #[.slice ro (maIds flt ev q).length rcap, .int .i64 (maErr ev q), .int .i64 (maPlace ev q)]) ∧ OSl w' 3 1 ro (maIds flt ev q).length rcap ((maIds flt ev q).map (Value.int .i64))
      ∧ (∀ g, blkOf ro = some g → w.heap.size ≤ g ∧ ¬ F' g) ∧ Kp F w w' ∧ EngAt w' eb F' sch flt ∧ ∀ b, F' b → Grow F w w' b := by
  have hE0 := hE.old
  have fin : ∀ w', Ext w w' → EngAt w' eb (fun b => F b ∧ b < w.heap.size) sch flt := fun w' h => hE0.kp (h.kp (fun _ => False)) (fun _ _ h => h)
  obtain ⟨hF, sb, sc, fa, fcap, es, hes, hrow, hFs, hsn, hI, hO, hFa, hEs⟩ := hE
  obtain ⟨hkl, hky⟩ := key_at hes
  by_cases hql : q < ev.length
  · have e1 : maIds flt ev q = [] := by simp [maIds, hql]
    have e2 : maErr ev q = 8 := by simp [maErr, hql]
    have e3 : maPlace ev q = q := by simp [maPlace, hql]
    rw [e1, e2, e3]
    refine (pma_bad eb sb sc sch ao lcap ev w hn hl (hrow.at (j := 0) rfl) hI hfx q hq hql).mono ?_
    rintro e w' ⟨rfl, hE'⟩
    exact ⟨none, 0, _, rfl, OSl.nil _ _ _, (fun g hg => by cases hg), hE'.kp _, fin w' hE', fun b hb => Or.inl hb.1⟩
  · have e1 : maIds flt ev q = metIds flt (fo ev) := by simp [maIds, hql]
    have e2 : maErr ev q = 0 := by simp [maErr, hql]
    have e3 : maPlace ev q = 0 := by simp [maPlace, hql]
    rw [e1, e2, e3]
    obtain rfl : q = ev.length := by have := hq.1; omega
    refine (pma_ok eb sb sc sch fa fcap es flt F _ ao lcap ev w hn hl (by omega) hes hrow hI hO hEs hfx hq hG).mono ?_
    rintro e w' ⟨ro, rcap, rfl, hro, hnew, hE'⟩
    exact ⟨ro, rcap, _, rfl, hro, fun g hg => ⟨hnew g hg, fun h => by have := hnew g hg; omega⟩, hE'.kp _, fin w' hE', fun b hb => Or.inl hb.1⟩

theorem engC : EngC EngAt where
  kp := fun h k hm => h.kp k hm
  mono := fun h hm => h.mono hm
  new_no := fun ao cap xs w hl hx _ hs => new_no ao cap xs w hl hx hs
  new_ok := fun ao cap xs w hl hx _ hs => new_ok ao cap xs w hl hx hs
  sub := fun eb F sch flt id ao cap l w _ h6 hf hS hl _ hE hc _ _ q k hq hk => psub_any eb F sch flt id ao cap l w h6 hf hS hl hE hc q k hq hk
  un := fun eb F sch flt id w hf hS hE q hq => pun_any eb F sch flt id w hf hS hE q hq
  ma := fun eb F sch flt ao lcap ev w h6 hl hf hE hfx _ _ hG q hq => pma_any eb F sch flt ao lcap ev w h6 hl hf hE hfx hG q hq
end Go.Proofs.Ytepioeaomlmocaa
