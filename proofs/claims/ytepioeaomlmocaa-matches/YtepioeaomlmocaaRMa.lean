import Derived.Test.YtepioeaomlmocaaRUn
namespace Go.Proofs.Ytepioeaomlmocaa
open Go.RowKit

/-- Whose filters an event meets. -/
def metIds (flt : List (Int × List Cd)) (f : Int → Option Vl) : List Int := (flt.filter (fun e => meetsB e.2 f)).map (·.1)
theorem met_succ (flt : List (Int × List Cd)) (f : Int → Option Vl) (k : Nat) (hk : k < flt.length) : metIds (flt.take (k + 1)) f = if meetsB flt[k].2 f then metIds (flt.take k) f ++ [flt[k].1] else metIds (flt.take k) f := by
  unfold metIds
  rw [List.take_succ_eq_append_getElem hk, List.filter_append, List.map_append]
  cases h : meetsB flt[k].2 f <;> simp [h]
theorem met_le (flt : List (Int × List Cd)) (f : Int → Option Vl) (k : Nat) : (metIds (flt.take k) f).length ≤ k := by
  unfold metIds
  rw [List.length_map]
  exact Nat.le_trans (List.length_filter_le _ _) (List.length_take_le _ _)
theorem fds_of_bad {sch : List Int} {ev : List Fd} (h : FirstBad sch ev ev.length) (hz : ∀ j (hj : j < ev.length), ev[j].v.s.size ≤ 9223372036854775807) : FdsOK ev := by
  intro j hj
  refine ⟨hz j hj, ?_⟩
  have := h.2.1 j hj hj
  simp only [fieldOK, Bool.and_eq_true] at this
  exact this.2.2
/-- Filters that can be asked. -/
def FltOK (flt : List (Int × List Cd)) : Prop := ∀ k (hk : k < flt.length), CdsOK flt[k].2 ∧ flt[k].2.length ≤ 8

theorem rmeets_is (ao : Option Addr) (cap : Nat) (l : List Cd) (bo : Option Addr) (ecap : Nat) (ev : List Fd) (w : World) (hl : l.length ≤ 8) (he : ev.length * 32 ≤ 140737488351232) (hc : Cxs w ao l) (hf : Fxs w bo ev) (hC : CdsOK l) (hU : FdsOK ev) (r : Bool) (hr : meetsB l (fo ev) = r) :
    Calls Try.prog 64 #[.slice ao l.length cap, .slice bo ev.length ecap] w fun e w' => e = .returned (.bool r) ∧ Ext w w' := by
  subst hr; exact rmeets_any ao cap l bo ecap ev w hl he hc hf hC hU
theorem one_new (w : World) (T : TypeId) (x : Value) : ∀ j u, [x][j]? = some u → (w.alloc (.cells #[x] T)).cell? ((⟨w.heap.size, 0, none⟩ : Addr).add j) = some u := by
  intro j u hj
  rw [add_lt]
  exact cell_new w _ T _ j rfl (by simpa using hj)

set_option maxHeartbeats 3200000 in
set_option maxRecDepth 100000 in
theorem rMatch_bad (rb b cap : Nat) (sch : List Int) (ao : Option Addr) (lcap : Nat) (ev : List Fd) (w : World) (hn : sch.length ≤ 6) (hl : ev.length * 32 ≤ 140737488351232) (hr : w.cell? ⟨rb, 0, none⟩ = some (.slice (some ⟨b, 0, none⟩) sch.length cap)) (hs : Ints w b 0 sch) (hf : Fxs w ao ev)
    (q : Nat) (hq : FirstBad sch ev q) (hql : q < ev.length) :
    Calls Try.prog 42 #[.pointer (some ⟨rb, 0, none⟩), .slice ao ev.length lcap] w fun e w' => e = .returned (.tuple #[.slice none 0 0, .int .i64 8, .int .i64 q]) ∧ Ext w w' := by
  have hp : placeOf ev q = (q : Int) := by simp [placeOf, hql]
  have hc : Hid _ := rEvent_any rb b 0 cap sch ao lcap ev w hn hl hr hs hf q hq
  rw [hp] at hc
  clear hp
  go_enter Try.func42, Try.ntmps42
  go_wp2_with fail
  refine Calls.mono hc.out ?_
  rintro e w1 ⟨rfl, hE⟩
  go_wp2
  go_ret3
  exact ⟨rfl, hE⟩

set_option maxHeartbeats 3200000 in
set_option maxRecDepth 100000 in
theorem rMatch_ok (rb b cap : Nat) (sch : List Int) (fa : Option Addr) (fcap : Nat) (evn : Int) (es : List Ent) (flt : List (Int × List Cd)) (F : Nat → Prop) (ao : Option Addr) (lcap : Nat) (ev : List Fd) (w : World) (hn : sch.length ≤ 6) (hl : ev.length * 32 ≤ 140737488351232) (hfl : es.length ≤ 100)
    (hes : es.map Ent.key = flt) (hrow : Row w rb 94 [.slice (some ⟨b, 0, none⟩) sch.length cap, .slice fa es.length fcap, .int .i64 evn]) (hs : Ints w b 0 sch) (hO : OSl w 116 2 fa es.length fcap (es.flatMap Ent.cells)) (hFa : ∀ g, blkOf fa = some g → g ≠ rb)
    (hEs : ∀ e ∈ es, EntOK w F (fun b => b = rb) e) (hfx : Fxs w ao ev) (hfx' : ∀ g, blkOf ao = some g → 0 < ev.length → g ≠ rb) (hq : FirstBad sch ev ev.length) (hU : FdsOK ev) (hG : FltOK flt) :
    Calls Try.prog 42 #[.pointer (some ⟨rb, 0, none⟩), .slice ao ev.length lcap] w fun e w' => ∃ ro rcap evn', e = .returned (.tuple #[.slice ro (metIds flt (fo ev)).length rcap, .int .i64 0, .int .i64 0]) ∧ OSl w' 3 1 ro (metIds flt (fo ev)).length rcap ((metIds flt (fo ev)).map (Value.int .i64))
      ∧ (∀ g, blkOf ro = some g → w.heap.size ≤ g) ∧ Kp (fun k => k = rb) w w' ∧ Row w' rb 94 [.slice (some ⟨b, 0, none⟩) sch.length cap, .slice fa es.length fcap, .int .i64 evn'] := by
  have hp : placeOf ev ev.length = -1 := by simp [placeOf]
  have hc : Hid _ := rEvent_any rb b 0 cap sch ao lcap ev w hn hl (hrow.at (j := 0) rfl) hs hfx ev.length hq
  rw [hp] at hc
  clear hp
  obtain ⟨hkl, hky⟩ := key_at hes
  have HKY : Hid (∀ k (hk : k < es.length) (hk' : k < flt.length), flt[k] = (es[k].id, es[k].l)) := hky
  have HKL : Hid (flt.length = es.length) := hkl
  have HES : Hid (∀ e ∈ es, EntOK w F (fun b => b = rb) e) := hEs
  have HU : Hid (FdsOK ev) := hU
  have HG : Hid (FltOK flt) := hG
  clear hky hkl hes hEs hU hG
  go_enter Try.func42, Try.ntmps42
  go_wp2_with fail
  refine Calls.mono hc.out ?_
  rintro e w1 ⟨rfl, hE⟩
  have hr1 := hrow.ext hE
  have a1 := hr1.at (j := 1) rfl
  have a2 := hr1.at (j := 2) rfl
  have af := hr1.frozen
  clear hc
  go_wp2
  have hK0 : Kp (fun k => k = rb) w (w1.setCell ⟨rb, 2, none⟩ (.int .i64 (wrap64 (evn + 1)))) := (hE.kp (fun k => k = rb)).setCell (fun _ => rfl) _
  have hr2 := hr1.set 2 (.int .i64 (wrap64 (evn + 1)))
  generalize w1.setCell ⟨rb, 2, none⟩ (.int .i64 (wrap64 (evn + 1))) = W1 at *
  simp only [List.set] at hr2
  generalize wrap64 (evn + 1) = en at *
  have hO1 := hO.kp hK0 (fun g hg => hFa g hg)
  have hE1 : Hid (∀ e ∈ es, EntOK W1 F (fun b => b = rb) e) := fun e he => (HES.out e he).kp hK0 (fun b _ hb => hb)
  have hf1 : Fxs W1 ao ev := fun hp => by
    obtain ⟨fb, fo', rfl, hF⟩ := hfx hp
    have hne : ¬ fb = rb := hfx' fb rfl hp
    exact ⟨fb, fo', rfl, fun j hj => ⟨hK0.cell (hF j hj).1 hne, hK0.cell (hF j hj).2.1 hne, hK0.cell (hF j hj).2.2 hne⟩⟩
  have hWle := hK0.size
  clear hE hr1 a1 a2 af hO hfx HES hs hrow
  go_loopw [8, 9] (fun v i wr => ∃ (ro : Option Addr) (rcap : Nat) (k : Nat), k ≤ es.length ∧ i = .int .i64 k ∧ v = .slice ro (metIds (flt.take k) (fo ev)).length rcap ∧ OSl wr 3 1 ro (metIds (flt.take k) (fo ev)).length rcap ((metIds (flt.take k) (fo ev)).map (Value.int .i64)) ∧ (∀ g, blkOf ro = some g → W1.heap.size ≤ g) ∧ Ext W1 wr) (fun _ i _ => es.length - (intOf i).toNat)
  case atStart => exact ⟨none, 0, 0, Nat.zero_le _, rfl, rfl, OSl.nil _ _ _, (fun g hg => by cases hg), Ext.refl _⟩
  case round =>
    obtain ⟨ro, rcap, k, hk, rfl, rfl, hown, hnew, hEr⟩ := hrel
    have HN : Hid (∀ g, blkOf ro = some g → W1.heap.size ≤ g) := hnew
    have hml := met_le flt (fo ev) k
    have b1 := (hr2.ext hEr).at (j := 1) rfl
    clear hnew
    by_cases hlt : k < es.length
    · have hkf : k < flt.length := by rw [HKL.out]; exact hlt
      have hms : Hid _ := met_succ flt (fo ev) k hkf
      have hkk : Hid (flt[k] = (es[k].id, es[k].l)) := HKY.out k hlt hkf
      have hok := HG.out k hkf
      rw [hkk.out] at hms hok
      obtain ⟨fb, rfl, e0⟩ := hO1.at (ent_at es k hlt).1
      obtain ⟨fb', efb, e1⟩ := hO1.at (ent_at es k hlt).2
      cases efb
      have d0 := hEr.cell e0
      have d1 := hEr.cell e1
      have hent := hE1.out es[k] (List.getElem_mem hlt)
      have hcx : Cxs wr es[k].ao es[k].l := (hent.cxs).ext hEr
      have hfr := hf1.ext hEr
      clear e0 e1 hO1 hf1 hent
      generalize es[k] = en0 at *
      obtain ⟨eid, el, eao, ecap⟩ := en0
      simp only at d0 d1 hcx hms hok
      go_wp2_with fail
      cases hB : meetsB el (fo ev) with
      | false =>
        have hms2 : Hid (metIds (flt.take (k + 1)) (fo ev) = metIds (flt.take k) (fo ev)) := by show _ = _; rw [hms.out, hB]; rfl
        refine (rmeets_is eao ecap el ao lcap ev wr hok.2 hl hcx hfr hok.1 HU.out false hB).mono ?_
        rintro e w2 ⟨rfl, hE2⟩
        clear hcx hfr d0 d1 hms hB
        generalize metIds (flt.take k) (fo ev) = mi at *
        go_wp2
        go_roundw
        case rel => exact ⟨ro, rcap, k + 1, by omega, by go_num, by rw [hms2.out], by rw [hms2.out]; exact hown.ext hE2, HN.out, hEr.trans hE2⟩
        case measure => simp [intOf]; omega
      | true =>
        have hms2 : Hid (metIds (flt.take (k + 1)) (fo ev) = metIds (flt.take k) (fo ev) ++ [eid]) := by show _ = _; rw [hms.out, hB]; rfl
        refine (rmeets_is eao ecap el ao lcap ev wr hok.2 hl hcx hfr hok.1 HU.out true hB).mono ?_
        rintro e w2 ⟨rfl, hE2⟩
        have f0 := hE2.cell d0
        have f1 := hE2.cell b1
        have hown2 := hown.ext hE2
        have hEr2 := hEr.trans hE2
        clear hcx hfr d0 d1 hms hB hown b1
        generalize metIds (flt.take k) (fo ev) = mi at *
        go_wp2_with (at_builtin; go_must (refine wpList_app rfl (.tmp 44) (.tmp 53) 27 rfl 3 (.int .i64 0) 1 8 Try.underlying27 Try.infoInt rfl (by decide) ro mi.length rcap _ rfl (OSl.ext hown2 ((Ext.refl _).alloc _)) (some ⟨w2.heap.size, 0, none⟩) 1 1 [.int .i64 eid] rfl (by intro h; cases h) rfl (fun _ => ⟨_, rfl, one_new _ _ _⟩) (by intro u hu; simp at hu; subst hu; rfl) (by unfold maxLen; omega) (by omega) ?_; intro ro3 rcap3 w3 hown3 hk3 hat3))
        go_roundw
        case rel =>
          refine ⟨ro3, rcap3, k + 1, by omega, by go_num, by rw [hms2.out]; simp, ?_, fresh2 ((hEr2.alloc _).le) HN.out hat3, (hEr2.alloc _).kpNew hk3 HN.out⟩
          rw [hms2.out]
          simpa using hown3
        case measure => simp [intOf]; omega
    · have hfin : Hid (metIds (flt.take k) (fo ev) = metIds flt (fo ev)) := by show _ = _; rw [List.take_of_length_le (by rw [HKL.out]; omega)]
      rw [hfin.out] at hown hml ⊢
      clear hO1 hf1
      go_wp2
      go_ret3
      exact ⟨ro, rcap, en, rfl, hown, fun g hg => Nat.le_trans hWle (HN.out g hg), hK0.trans (hEr.kp _), hr2.ext hEr⟩

/-- What Match answers: the numbers, the error, the place. -/
def maIds (flt : List (Int × List Cd)) (ev : List Fd) (q : Nat) : List Int := if q < ev.length then [] else metIds flt (fo ev)
def maErr (ev : List Fd) (q : Nat) : Int := if q < ev.length then 8 else 0
def maPlace (ev : List Fd) (q : Nat) : Int := if q < ev.length then (q : Int) else 0

theorem rMatch_any (rb : Nat) (F : Nat → Prop) (sch : List Int) (flt : List (Int × List Cd)) (ao : Option Addr) (lcap : Nat) (ev : List Fd) (w : World) (hn : sch.length ≤ 6) (hl : ev.length * 32 ≤ 140737488351232) (hfl : flt.length ≤ 100)
    (hR : RefAt w rb F sch flt) (hfx : Fxs w ao ev) (hfx' : ∀ g, blkOf ao = some g → 0 < ev.length → ¬ F g) (q : Nat) (hq : FirstBad sch ev q) (hz : ∀ j (hj : j < ev.length), ev[j].v.s.size ≤ 9223372036854775807) (hG : FltOK flt) :
    Calls Try.prog 42 #[.pointer (some ⟨rb, 0, none⟩), .slice ao ev.length lcap] w fun e w' => ∃ ro rcap, e = .returned (.tuple #[.slice ro (maIds flt ev q).length rcap, .int .i64 (maErr ev q), .int .i64 (maPlace ev q)]) ∧ OSl w' 3 1 ro (maIds flt ev q).length rcap ((maIds flt ev q).map (Value.int .i64))
      ∧ (∀ g, blkOf ro = some g → w.heap.size ≤ g) ∧ Kp F w w' ∧ RefAt w' rb F sch flt := by
  have hR0 := hR
  obtain ⟨hFr, sb, sc, fa, fcap, evn, es, hes, hrow, hFs, hsn, hI, hO, hFa, hEs⟩ := hR
  by_cases hql : q < ev.length
  · have e1 : maIds flt ev q = [] := by simp [maIds, hql]
    have e2 : maErr ev q = 8 := by simp [maErr, hql]
    have e3 : maPlace ev q = q := by simp [maPlace, hql]
    rw [e1, e2, e3]
    refine (rMatch_bad rb sb sc sch ao lcap ev w hn hl (hrow.at (j := 0) rfl) hI hfx q hq hql).mono ?_
    rintro e w' ⟨rfl, hE⟩
    exact ⟨none, 0, rfl, OSl.nil _ _ _, (fun g hg => by cases hg), hE.kp _, hR0.kp (hE.kp (fun _ => False)) (fun _ _ h => h)⟩
  · have e1 : maIds flt ev q = metIds flt (fo ev) := by simp [maIds, hql]
    have e2 : maErr ev q = 0 := by simp [maErr, hql]
    have e3 : maPlace ev q = 0 := by simp [maPlace, hql]
    rw [e1, e2, e3]
    obtain rfl : q = ev.length := by have := hq.1; omega
    obtain ⟨hkl, _⟩ := key_at hes
    refine (rMatch_ok rb sb sc sch fa fcap evn es flt F ao lcap ev w hn hl (by omega) hes hrow hI hO (fun g hg => (hFa g hg).2) hEs hfx (fun g hg hp e => hfx' g hg hp (e ▸ hFr)) hq (fds_of_bad hq hz) hG).mono ?_
    rintro e w' ⟨ro, rcap, evn', rfl, hown, hnew, hK, hrow'⟩
    refine ⟨ro, rcap, rfl, hown, hnew, hK.one hFr, hFr, sb, sc, fa, fcap, evn', es, hes, hrow', hFs, hsn, hI.kp hK hsn, hO.kp hK (fun g hg => (hFa g hg).2), hFa, fun e he => (hEs e he).kp hK (fun b _ hb => hb)⟩
end Go.Proofs.Ytepioeaomlmocaa
