import Derived.ArgAppend
import Derived.Lib.SliceRun
import Derived.Test.YtpbblaeamddbgaaGreatGE
import Derived.Test.YtpbblaeamddbgaaGreatGS
import Derived.Test.YtpbblaeamddbgaaGreatGQ
import Derived.Test.YtpbblaeamddbgaaGreatGC
namespace Go.Proofs.YtpbblaeamddbgaaGreat
open Go.RowKit

/-- The reference's engine. -/
def RefN (w : World) (rb : Nat) (F : Nat → Prop) (sch : List Int) (flt : List (Int × List Cd)) (ev : Int) : Prop :=
  F rb ∧ ∃ (sb sc : Nat) (fa : Option Addr) (fcap : Nat) (es : List Ent), es.map Ent.key = flt ∧ Row w rb 148 [.slice (some ⟨sb, 0, none⟩) sch.length sc, .slice fa es.length fcap, .int .i64 ev] ∧ F sb ∧ sb ≠ rb ∧ Ints w sb 0 sch
    ∧ OSl w 219 2 fa es.length fcap (es.flatMap Ent.cells) ∧ (∀ g, blkOf fa = some g → F g ∧ g ≠ rb) ∧ ∀ e ∈ es, EntOK w F (fun b => b = rb) e
theorem RefN.kp {w w' : World} {rb : Nat} {F M : Nat → Prop} {sch : List Int} {flt : List (Int × List Cd)} {ev : Int} (h : RefN w rb F sch flt ev) (k : Kp M w w') (hm : ∀ b, F b → ¬ M b) : RefN w' rb F sch flt ev := by
  obtain ⟨h1, sb, sc, fa, fcap, es, he, hr, hF, hne, hI, hO, hg, hE⟩ := h
  exact ⟨h1, sb, sc, fa, fcap, es, he, k.row hr (hm _ h1), hF, hne, hI.kp k (hm _ hF), hO.kp k (fun g hg' => hm _ (hg g hg').1), hg, fun e he => (hE e he).kp k (fun b hb _ => hm b hb)⟩
theorem RefN.mono {w : World} {rb : Nat} {F G : Nat → Prop} {sch : List Int} {flt : List (Int × List Cd)} {ev : Int} (h : RefN w rb F sch flt ev) (hm : ∀ b, F b → G b) : RefN w rb G sch flt ev := by
  obtain ⟨h1, sb, sc, fa, fcap, es, he, hr, hF, hne, hI, hO, hg, hE⟩ := h
  exact ⟨hm _ h1, sb, sc, fa, fcap, es, he, hr, hm _ hF, hne, hI, hO, fun g hg' => ⟨hm _ (hg g hg').1, (hg g hg').2⟩, fun e he => (hE e he).mono (fun b h1 h2 _ => ⟨hm b h1, h2⟩)⟩
theorem rSubN_any (rb : Nat) (F : Nat → Prop) (sch : List Int) (flt : List (Int × List Cd)) (ev : Int) (id : Int) (ao : Option Addr) (cap : Nat) (l : List Cd) (w : World) (hn : sch.length ≤ 6) (hf : flt.length ≤ 100) (hl : l.length * 64 ≤ 140737488351232)
    (hR : RefN w rb F sch flt ev) (hc : Cxs w ao l) (hcn : ao = none → l.length = 0 ∧ cap = 0) (q k : Nat) (hq : PosOf flt id q) (hk : BadOf sch l k) :
    Calls Tryz.prog 67 #[.pointer (some ⟨rb, 0, none⟩), .int .i64 id, .slice ao l.length cap] w fun e w' => e = .returned (.tuple #[.int .i64 (subErr flt id l q k), .int .i64 (subPlace flt id l q k)]) ∧ Kp F w w' ∧ RefN w' rb (Grow F w w') sch (subFlt flt id l q k) ev := by
  have hR0 := hR
  have grow : ∀ w', Ext w w' → Kp F w w' ∧ RefN w' rb (Grow F w w') sch flt ev := fun w' hE => ⟨hE.kp _, (hR0.kp (hE.kp (fun _ => False)) (fun _ _ h => h)).mono (fun b hb => Or.inl hb)⟩
  by_cases hid : id < 0
  · refine (rSub_neg rb id ao l.length cap w hid).mono ?_
    rintro e w' ⟨rfl, rfl⟩
    have e2 : subErr flt id l q k = 2 := by simp [subErr, hid]
    obtain ⟨g1, g2⟩ := grow w' (Ext.refl _)
    refine ⟨by simp [subPlace, e2], g1, ?_⟩
    have : subFlt flt id l q k = flt := by simp [subFlt, e2]
    rw [this]; exact g2
  obtain ⟨hFr, sb, sc, fa, fcap, es, hes, hrow, hFs, hsn, hI, hO, hFa, hEs⟩ := hR
  obtain ⟨hkl, hky⟩ := key_at hes
  have mk : ∀ c, c ≠ 0 → c ≠ 5 → subErr flt id l q k = c → ∀ w', Ext w w' → (Ending.returned (.tuple #[.int .i64 c, .int .i64 0]) = .returned (.tuple #[.int .i64 (subErr flt id l q k), .int .i64 (subPlace flt id l q k)]) ∧ Kp F w w' ∧ RefN w' rb (Grow F w w') sch (subFlt flt id l q k) ev) := by
    intro c h0 h5 hc w' hE
    obtain ⟨g1, g2⟩ := grow w' hE
    have e1 : subFlt flt id l q k = flt := by simp [subFlt, hc, h0]
    have e2 : subPlace flt id l q k = 0 := by simp [subPlace, hc, h5]
    rw [e1, e2, hc]
    exact ⟨rfl, g1, g2⟩
  have mk5 : subErr flt id l q k = 5 → ∀ w', Ext w w' → (Ending.returned (.tuple #[.int .i64 5, .int .i64 k]) = .returned (.tuple #[.int .i64 (subErr flt id l q k), .int .i64 (subPlace flt id l q k)]) ∧ Kp F w w' ∧ RefN w' rb (Grow F w w') sch (subFlt flt id l q k) ev) := by
    intro hc w' hE
    obtain ⟨g1, g2⟩ := grow w' hE
    have e1 : subFlt flt id l q k = flt := by simp [subFlt, hc]
    have e2 : subPlace flt id l q k = k := by simp [subPlace, hc]
    rw [e1, e2, hc]
    exact ⟨rfl, g1, g2⟩
  have mk0 : subErr flt id l q k = 0 → SubDone rb sch sb sc ev es id l q w (fun e w' => e = .returned (.tuple #[.int .i64 (subErr flt id l q k), .int .i64 (subPlace flt id l q k)]) ∧ Kp F w w' ∧ RefN w' rb (Grow F w w') sch (subFlt flt id l q k) ev) := by
    intro hc w' ao1 cap1 fa' fcap' hK hrow' hown' hnew hown1 hnew1
    have hrl := hrow.lt
    have e1 : subFlt flt id l q k = flt.take q ++ (id, l) :: flt.drop q := by simp [subFlt, hc]
    have e2 : subPlace flt id l q k = 0 := by simp [subPlace, hc]
    rw [e1, e2, hc]
    refine ⟨rfl, hK.one hFr, Or.inl hFr, sb, sc, fa', fcap', es.take q ++ ⟨id, l, ao1, cap1⟩ :: es.drop q, ?_, ?_, Or.inl hFs, hsn, hI.kp hK hsn, ?_, ?_, ?_⟩
    · rw [← hes]; simp [Ent.key, List.map_take, List.map_drop]
    · have el : (es.take q ++ (⟨id, l, ao1, cap1⟩ : Ent) :: es.drop q).length = es.length + 1 := by
        have := hq.1; simp; omega
      rw [el]; exact hrow'
    · have el : (es.take q ++ (⟨id, l, ao1, cap1⟩ : Ent) :: es.drop q).length = es.length + 1 := by
        have := hq.1; simp; omega
      rw [el]; exact hown'
    · intro g hg
      have := hnew g hg
      exact ⟨Or.inr ⟨this, hown'.lt hg⟩, by omega⟩
    · have old : ∀ e ∈ es, EntOK w' (Grow F w w') (fun b => b = rb) e := fun e he => ((hEs e he).kp hK (fun b _ hb => hb)).mono (fun b h1 h2 _ => ⟨Or.inl h1, h2⟩)
      intro e he
      rcases List.mem_append.1 he with h | h
      · exact old e (List.mem_of_mem_take h)
      · rcases List.mem_cons.1 h with rfl | h
        · intro hp
          obtain ⟨b, hb, hC⟩ := osl_cds hown1 hp
          have := hnew1 b (by rw [hb]; rfl)
          exact ⟨b, hb, hC, Or.inr ⟨this, World.block_lt_of_cell? w' _ (hC 0 hp).1⟩, by omega⟩
        · exact old e (List.mem_of_mem_drop h)
  by_cases hfa : fa = none
  · subst hfa
    rcases hO.form with ⟨_, h0, hc0, _⟩ | ⟨_, _, h, _⟩
    · obtain rfl : es = [] := List.eq_nil_of_length_eq_zero h0
      subst hc0
      have hf0 : flt = [] := by rw [← hes]; rfl
      have hq0 : q = 0 := by have := hq.1; rw [hf0] at this; simpa using this
      have hth : thereB flt id q = false := by rw [hf0]; simp [thereB]
      subst hq0
      refine rSub_nil rb sch sb sc ev id ao cap l w hn hl hid hrow hI hO hc hcn k hk _ ?_ ?_ ?_
      · intro h8; exact mk 4 (by decide) (by decide) (by simp [subErr, hid, hth, h8]) w (Ext.refl _)
      · intro h8 hk5 w' hE; exact mk5 (by simp [subErr, hid, hth, h8, hk5]) w' hE
      · intro h8 hk5; exact mk0 (by rw [hf0] at hth ⊢; simp [subErr, hid, hth, h8, hk5])
    · cases h
  · refine rSub_core rb sch sb sc fa fcap ev es id ao cap l w hn (by omega) hl hid hrow hI hO hc hcn q k hfa (by have := hq.1; omega) ?_ ?_ hk _ ?_ ?_ ?_ ?_ ?_
    · intro j hj hjq
      have := hq.2.1 j (by omega) hjq
      rw [hky j hj] at this; exact this
    · intro hq'
      have := hq.2.2 (by omega)
      rw [hky q hq'] at this; exact this
    · intro hq' he
      have hqf : q < flt.length := by omega
      have hth : thereB flt id q = true := thereB_yes hqf (by rw [hky q hq' hqf]; exact he)
      exact mk 3 (by decide) (by decide) (by simp [subErr, hid, hth]) w (Ext.refl _)
    all_goals
      intro hne
      have hth : thereB flt id q = false := thereB_no (fun hq' => by rw [hky q (by omega)]; exact hne (by omega))
    · intro h8; exact mk 4 (by decide) (by decide) (by simp [subErr, hid, hth, h8]) w (Ext.refl _)
    · intro h8 hk5 w' hE; exact mk5 (by simp [subErr, hid, hth, h8, hk5]) w' hE
    · intro h8 hk5 h100 w' hE; exact mk 6 (by decide) (by decide) (by simp [subErr, hid, hth, h8, hk5]; omega) w' hE
    · intro h8 hk5 h100; exact mk0 (by simp [subErr, hid, hth, h8, hk5]; omega)
theorem rUnN_any (rb : Nat) (F : Nat → Prop) (sch : List Int) (flt : List (Int × List Cd)) (ev : Int) (id : Int) (w : World) (hf : flt.length ≤ 100) (hS : SortedF flt)
    (hR : RefN w rb F sch flt ev) (q : Nat) (hq : PosOf flt id q) :
    Calls Tryz.prog 74 #[.pointer (some ⟨rb, 0, none⟩), .int .i64 id] w fun e w' => e = .returned (.int .i64 (unErr flt id q)) ∧ Kp F w w' ∧ RefN w' rb (Grow F w w') sch (unFlt flt id q) ev := by
  have hR0 := hR
  obtain ⟨hFr, sb, sc, fa, fcap, es, hes, hrow, hFs, hsn, hI, hO, hFa, hEs⟩ := hR
  obtain ⟨hkl, hky⟩ := key_at hes
  cases hth : thereB flt id q with
  | true =>
    obtain ⟨hqf, hid⟩ := there_iff.1 hth
    have e1 : unErr flt id q = 0 := by simp [unErr, hth]
    have e2 : unFlt flt id q = flt.take q ++ flt.drop (q + 1) := by simp [unFlt, hth]
    rw [e1, e2]
    refine rUn_core rb sch sb sc fa fcap ev es id w (by omega) hrow hO q (by omega) ?_ ?_ _ ?_ ?_
    · intro j hj hjq
      have := hq.2.1 j (by omega) hjq
      rw [hky j hj (by omega)] at this
      simp only at this; omega
    · intro hq'
      rw [hky q hq' hqf] at hid; exact hid
    · intro h; omega
    · intro hqe w' fa' fcap' hK hrow' hown' hnew
      have hrl := hrow.lt
      have el : (es.take q ++ es.drop (q + 1)).length = es.length - 1 := by simp; omega
      refine ⟨rfl, hK.one hFr, Or.inl hFr, sb, sc, fa', fcap', es.take q ++ es.drop (q + 1), ?_, ?_, Or.inl hFs, hsn, hI.kp hK hsn, ?_, ?_, ?_⟩
      · rw [← hes]; simp [List.map_take, List.map_drop]
      · rw [el]; exact hrow'
      · rw [el]; exact hown'
      · intro g hg
        have := hnew g hg
        exact ⟨Or.inr ⟨this, hown'.lt hg⟩, by omega⟩
      · intro e he
        have hme : e ∈ es := by
          rcases List.mem_append.1 he with h | h
          · exact List.mem_of_mem_take h
          · exact List.mem_of_mem_drop h
        exact ((hEs e hme).kp hK (fun b _ hb => hb)).mono (fun b h1 h2 _ => ⟨Or.inl h1, h2⟩)
  | false =>
    have e1 : unErr flt id q = 7 := by simp [unErr, hth]
    have e2 : unFlt flt id q = flt := by simp [unFlt, hth]
    rw [e1, e2]
    have hne : ∀ j (hj : j < flt.length), ¬ flt[j].1 = id := by
      intro j hj he
      rcases Nat.lt_trichotomy j q with h | h | h
      · have := hq.2.1 j hj h; omega
      · subst h
        rw [there_iff.2 ⟨hj, he⟩] at hth; cases hth
      · have hqf : q < flt.length := by omega
        have h1 := hq.2.2 hqf
        have h2 := hS q j hqf hj h
        have h3 : ¬ flt[q].1 = id := fun e => by rw [there_iff.2 ⟨hqf, e⟩] at hth; cases hth
        omega
    refine rUn_core rb sch sb sc fa fcap ev es id w (by omega) hrow hO es.length (Nat.le_refl _) ?_ ?_ _ ?_ ?_
    · intro j hj _
      have := hne j (by omega)
      rw [hky j hj (by omega)] at this; exact this
    · intro h; omega
    · intro _
      exact ⟨rfl, Kp.refl _ _, hR0.mono (fun b hb => Or.inl hb)⟩
    · intro h; omega
set_option maxHeartbeats 3200000 in
set_option maxRecDepth 100000 in
theorem rMatchN_ok (rb b cap : Nat) (sch : List Int) (fa : Option Addr) (fcap : Nat) (evn : Int) (es : List Ent) (flt : List (Int × List Cd)) (F : Nat → Prop) (ao : Option Addr) (lcap : Nat) (ev : List Fd) (w : World) (hn : sch.length ≤ 6) (hl : ev.length * 32 ≤ 140737488351232) (hfl : es.length ≤ 100)
    (hes : es.map Ent.key = flt) (hrow : Row w rb 148 [.slice (some ⟨b, 0, none⟩) sch.length cap, .slice fa es.length fcap, .int .i64 evn]) (hs : Ints w b 0 sch) (hO : OSl w 219 2 fa es.length fcap (es.flatMap Ent.cells)) (hFa : ∀ g, blkOf fa = some g → g ≠ rb)
    (hEs : ∀ e ∈ es, EntOK w F (fun b => b = rb) e) (hfx : Fxs w ao ev) (hfx' : ∀ g, blkOf ao = some g → 0 < ev.length → g ≠ rb) (hq : FirstBad sch ev ev.length) (hU : FdsOK ev) (hG : FltOK flt) :
    Calls Tryz.prog 70 #[.pointer (some ⟨rb, 0, none⟩), .slice ao ev.length lcap] w fun e w' => ∃ ro rcap, e = .returned (.tuple #[.slice ro (metIds flt (fo ev)).length rcap, .int .i64 0, .int .i64 0]) ∧ OSl w' 3 1 ro (metIds flt (fo ev)).length rcap ((metIds flt (fo ev)).map (Value.int .i64))
      ∧ (∀ g, blkOf ro = some g → w.heap.size ≤ g) ∧ Kp (fun k => k = rb) w w' ∧ Row w' rb 148 [.slice (some ⟨b, 0, none⟩) sch.length cap, .slice fa es.length fcap, .int .i64 (nxt evn)] := by
  have hp : placeOf ev ev.length = -1 := by simp [placeOf]
  have hc : Hid _ := rEvent_any rb b 0 cap sch ao lcap ev w hn hl (hrow.at (j := 0) rfl) hs hfx ev.length hq
  rw [hp] at hc
  clear hp
  obtain ⟨hkl, hky⟩ := key_at hes
  have HKY : Hid (∀ k (hk : k < es.length) (hk' : k < flt.length), flt[k] = (es[k].id, es[k].l)) := hky
  have HKL : Hid (flt.length = es.length) := hkl
  have HES : Hid (∀ e ∈ es, EntOK w F (fun b => b = rb) e) := hEs
  have HU : Hid (FdsOK ev) := hU
  have HG : Hid (FltOK flt) := hG
  clear hky hkl hes hEs hU hG
  go_enter Tryz.func70, Tryz.ntmps70
  go_wp2_with fail
  refine Calls.mono hc.out ?_
  rintro e w1 ⟨rfl, hE⟩
  have hr1 := hrow.ext hE
  have a1 := hr1.at (j := 1) rfl
  have a2 := hr1.at (j := 2) rfl
  have af := hr1.frozen
  clear hc
  go_wp2
  have hK0 : Kp (fun k => k = rb) w (w1.setCell ⟨rb, 2, none⟩ (.int .i64 (wrap64 (evn + 1)))) := (hE.kp (fun k => k = rb)).setCell (fun _ => rfl) _
  have hr2 := hr1.set 2 (.int .i64 (wrap64 (evn + 1)))
  generalize w1.setCell ⟨rb, 2, none⟩ (.int .i64 (wrap64 (evn + 1))) = W1 at *
  simp only [List.set] at hr2
  have hnx : wrap64 (evn + 1) = nxt evn := by unfold nxt; exact (IntWalk.i64_left _).symm
  rw [hnx] at hr2
  clear hnx
  have hO1 := hO.kp hK0 (fun g hg => hFa g hg)
  have hE1 : Hid (∀ e ∈ es, EntOK W1 F (fun b => b = rb) e) := fun e he => (HES.out e he).kp hK0 (fun b _ hb => hb)
  have hf1 : Fxs W1 ao ev := fun hp => by
    obtain ⟨fb, fo', rfl, hF⟩ := hfx hp
    have hne : ¬ fb = rb := hfx' fb rfl hp
    exact ⟨fb, fo', rfl, fun j hj => ⟨hK0.cell (hF j hj).1 hne, hK0.cell (hF j hj).2.1 hne, hK0.cell (hF j hj).2.2 hne⟩⟩
  have hWle := hK0.size
  clear hE hr1 a1 a2 af hO hfx HES hs hrow
  go_loopw [8, 9] (fun v i wr => ∃ (ro : Option Addr) (rcap : Nat) (k : Nat), k ≤ es.length ∧ i = .int .i64 k ∧ v = .slice ro (metIds (flt.take k) (fo ev)).length rcap ∧ OSl wr 3 1 ro (metIds (flt.take k) (fo ev)).length rcap ((metIds (flt.take k) (fo ev)).map (Value.int .i64)) ∧ (∀ g, blkOf ro = some g → W1.heap.size ≤ g) ∧ Ext W1 wr) (fun _ i _ => es.length - (intOf i).toNat)
  case atStart => exact ⟨none, 0, 0, Nat.zero_le _, rfl, rfl, OSl.nil _ _ _, (fun g hg => by cases hg), Ext.refl _⟩
  case round =>
    obtain ⟨ro, rcap, k, hk, rfl, rfl, hown, hnew, hEr⟩ := hrel
    have HN : Hid (∀ g, blkOf ro = some g → W1.heap.size ≤ g) := hnew
    have hml := met_le flt (fo ev) k
    have b1 := (hr2.ext hEr).at (j := 1) rfl
    clear hnew
    by_cases hlt : k < es.length
    · have hkf : k < flt.length := by rw [HKL.out]; exact hlt
      have hms : Hid _ := met_succ flt (fo ev) k hkf
      have hkk : Hid (flt[k] = (es[k].id, es[k].l)) := HKY.out k hlt hkf
      have hok := HG.out k hkf
      rw [hkk.out] at hms hok
      obtain ⟨fb, rfl, e0⟩ := hO1.at (ent_at es k hlt).1
      obtain ⟨fb', efb, e1⟩ := hO1.at (ent_at es k hlt).2
      cases efb
      have d0 := hEr.cell e0
      have d1 := hEr.cell e1
      have hent := hE1.out es[k] (List.getElem_mem hlt)
      have hcx : Cxs wr es[k].ao es[k].l := (hent.cxs).ext hEr
      have hfr := hf1.ext hEr
      clear e0 e1 hO1 hf1 hent
      generalize es[k] = en0 at *
      obtain ⟨eid, el, eao, ecap⟩ := en0
      simp only at d0 d1 hcx hms hok
      go_wp2_with fail
      cases hB : meetsB el (fo ev) with
      | false =>
        have hms2 : Hid (metIds (flt.take (k + 1)) (fo ev) = metIds (flt.take k) (fo ev)) := by show _ = _; rw [hms.out, hB]; rfl
        refine (rmeets_is eao ecap el ao lcap ev wr hok.2 hl hcx hfr hok.1 HU.out false hB).mono ?_
        rintro e w2 ⟨rfl, hE2⟩
        clear hcx hfr d0 d1 hms hB
        generalize metIds (flt.take k) (fo ev) = mi at *
        go_wp2
        go_roundw
        case rel => exact ⟨ro, rcap, k + 1, by omega, by go_num, by rw [hms2.out], by rw [hms2.out]; exact hown.ext hE2, HN.out, hEr.trans hE2⟩
        case measure => simp [intOf]; omega
      | true =>
        have hms2 : Hid (metIds (flt.take (k + 1)) (fo ev) = metIds (flt.take k) (fo ev) ++ [eid]) := by show _ = _; rw [hms.out, hB]; rfl
        refine (rmeets_is eao ecap el ao lcap ev wr hok.2 hl hcx hfr hok.1 HU.out true hB).mono ?_
        rintro e w2 ⟨rfl, hE2⟩
        have f0 := hE2.cell d0
        have f1 := hE2.cell b1
        have hown2 := hown.ext hE2
        have hEr2 := hEr.trans hE2
        clear hcx hfr d0 d1 hms hB hown b1
        generalize metIds (flt.take k) (fo ev) = mi at *
        go_wp2_with (at_builtin; go_must (refine wpList_app rfl (.tmp 44) (.tmp 53) 25 rfl 3 (.int .i64 0) 1 8 Tryz.underlying25 Tryz.infoInt rfl (by decide) ro mi.length rcap _ rfl (OSl.ext hown2 ((Ext.refl _).alloc _)) (some ⟨w2.heap.size, 0, none⟩) 1 1 [.int .i64 eid] rfl (by intro h; cases h) rfl (fun _ => ⟨_, rfl, one_new _ _ _⟩) (by intro u hu; simp at hu; subst hu; rfl) (by unfold maxLen; omega) (by omega) ?_; intro ro3 rcap3 w3 hown3 hk3 hat3))
        go_roundw
        case rel =>
          refine ⟨ro3, rcap3, k + 1, by omega, by go_num, by rw [hms2.out]; simp, ?_, fresh2 ((hEr2.alloc _).le) HN.out hat3, (hEr2.alloc _).kpNew hk3 HN.out⟩
          rw [hms2.out]
          simpa using hown3
        case measure => simp [intOf]; omega
    · have hfin : Hid (metIds (flt.take k) (fo ev) = metIds flt (fo ev)) := by show _ = _; rw [List.take_of_length_le (by rw [HKL.out]; omega)]
      rw [hfin.out] at hown hml ⊢
      clear hO1 hf1
      go_wp2
      go_ret3
      exact ⟨ro, rcap, rfl, hown, fun g hg => Nat.le_trans hWle (HN.out g hg), hK0.trans (hEr.kp _), hr2.ext hEr⟩

theorem rMatchN_any (rb : Nat) (F : Nat → Prop) (sch : List Int) (flt : List (Int × List Cd)) (evn : Int) (ao : Option Addr) (lcap : Nat) (ev : List Fd) (w : World) (hn : sch.length ≤ 6) (hl : ev.length * 32 ≤ 140737488351232) (hfl : flt.length ≤ 100)
    (hR : RefN w rb F sch flt evn) (hfx : Fxs w ao ev) (hfx' : ∀ g, blkOf ao = some g → 0 < ev.length → ¬ F g) (q : Nat) (hq : FirstBad sch ev q) (hz : ∀ j (hj : j < ev.length), ev[j].v.s.size ≤ 9223372036854775807) (hG : FltOK flt) :
    Calls Tryz.prog 70 #[.pointer (some ⟨rb, 0, none⟩), .slice ao ev.length lcap] w fun e w' => ∃ ro rcap, e = .returned (.tuple #[.slice ro (maIds flt ev q).length rcap, .int .i64 (maErr ev q), .int .i64 (maPlace ev q)]) ∧ OSl w' 3 1 ro (maIds flt ev q).length rcap ((maIds flt ev q).map (Value.int .i64))
      ∧ (∀ g, blkOf ro = some g → w.heap.size ≤ g) ∧ Kp F w w' ∧ RefN w' rb F sch flt (maN ev q evn) := by
  have hR0 := hR
  obtain ⟨hFr, sb, sc, fa, fcap, es, hes, hrow, hFs, hsn, hI, hO, hFa, hEs⟩ := hR
  by_cases hql : q < ev.length
  · have e1 : maIds flt ev q = [] := by simp [maIds, hql]
    have e2 : maErr ev q = 8 := by simp [maErr, hql]
    have e3 : maPlace ev q = q := by simp [maPlace, hql]
    have e4 : maN ev q evn = evn := by simp [maN, hql]
    rw [e1, e2, e3, e4]
    refine (rMatch_bad rb sb sc sch ao lcap ev w hn hl (hrow.at (j := 0) rfl) hI hfx q hq hql).mono ?_
    rintro e w' ⟨rfl, hE⟩
    exact ⟨none, 0, rfl, OSl.nil _ _ _, (fun g hg => by cases hg), hE.kp _, hR0.kp (hE.kp (fun _ => False)) (fun _ _ h => h)⟩
  · have e1 : maIds flt ev q = metIds flt (fo ev) := by simp [maIds, hql]
    have e2 : maErr ev q = 0 := by simp [maErr, hql]
    have e3 : maPlace ev q = 0 := by simp [maPlace, hql]
    have e4 : maN ev q evn = nxt evn := by simp [maN, hql]
    rw [e1, e2, e3, e4]
    obtain rfl : q = ev.length := by have := hq.1; omega
    obtain ⟨hkl, _⟩ := key_at hes
    refine (rMatchN_ok rb sb sc sch fa fcap evn es flt F ao lcap ev w hn hl (by omega) hes hrow hI hO (fun g hg => (hFa g hg).2) hEs hfx (fun g hg hp e => hfx' g hg hp (e ▸ hFr)) hq (fds_of_bad hq hz) hG).mono ?_
    rintro e w' ⟨ro, rcap, rfl, hown, hnew, hK, hrow'⟩
    refine ⟨ro, rcap, rfl, hown, hnew, hK.one hFr, hFr, sb, sc, fa, fcap, es, hes, hrow', hFs, hsn, hI.kp hK hsn, hO.kp hK (fun g hg => (hFa g hg).2), hFa, fun e he => (hEs e he).kp hK (fun b _ hb => hb)⟩
end Go.Proofs.YtpbblaeamddbgaaGreat
namespace Go.Proofs.YtpbblaeamddbgaaGreat
open Go.RowKit

/-- All elements of a list are the mark m. -/
def MarkAt (w : World) (ao : Option Addr) (n : Nat) (m : Int) : Prop := ∀ j, j < n → ∃ g, ao = some ⟨g, 0, none⟩ ∧ w.cell? ⟨g, j, none⟩ = some (.int .i64 m)
/-- Marks stay. -/
def Marks (m : Int) (w w' : World) : Prop := ∀ p, w.cell? p = some (.int .i64 m) → w'.cell? p = some (.int .i64 m)
theorem MarkAt.marks {w w' : World} {ao : Option Addr} {n : Nat} {m : Int} (h : MarkAt w ao n m) (k : Marks m w w') : MarkAt w' ao n m := fun j hj => by
  obtain ⟨g, h1, h2⟩ := h j hj
  exact ⟨g, h1, k _ h2⟩
theorem MarkAt.kp {w w' : World} {ao : Option Addr} {n : Nat} {m : Int} {M : Nat → Prop} (h : MarkAt w ao n m) (k : Kp M w w') (hm : ∀ g, blkOf ao = some g → ¬ M g) : MarkAt w' ao n m := fun j hj => by
  obtain ⟨g, h1, h2⟩ := h j hj
  exact ⟨g, h1, k.cell h2 (hm g (by rw [h1]; rfl))⟩
theorem OSl.mark {w : World} {e : Nat} {ao : Option Addr} {n cap : Nat} {m : Int} (h : OSl w e 1 ao n cap (List.replicate n (.int .i64 m))) : MarkAt w ao n m := fun j hj =>
  h.at (by rw [List.getElem?_replicate, if_pos hj])
theorem Marks.refl (m : Int) (w : World) : Marks m w w := fun _ h => h
theorem Marks.trans {m : Int} {a b c : World} (h : Marks m a b) (k : Marks m b c) : Marks m a c := fun p hp => k p (h p hp)
theorem Marks.ext {m : Int} {a b : World} (h : Ext a b) : Marks m a b := fun _ hp => h.cell hp

theorem marks_setCells {m : Int} {g : Nat} : ∀ (vs : List Value) (o : Nat) (w : World), (∀ v ∈ vs, v = .int .i64 m) → Marks m w (w.setCells g o vs)
  | [], _, _, _ => Marks.refl _ _
  | v :: r, o, w, h => by
    simp only [World.setCells]
    refine Marks.trans ?_ (marks_setCells r (o + 1) _ (fun x hx => h x (by simp [hx])))
    intro p hp
    have hv : v = .int .i64 m := h v (by simp)
    by_cases hpe : p = ⟨g, o, none⟩
    · subst hpe
      subst hv
      exact World.cell?_setCell_same w _ _ hp
    · rw [World.cell?_setCell_other w _ _ _ (fun e => hpe e.symm)]; exact hp

/-- 'append(s, m, ..)', s a list of one's own of marks m: both lists are of marks m. -/
theorem wpList_app_mark {P : Program} {w : World} {ops : Array Oper} {rest : List Oper} {o : Oper} {a : Act} {Q : Exit → Act → World → Prop} (hgd : o.guard = none) (s x : Operand) (t : TypeId)
    (ho : o.op = .call { callee := .builtin .append, args := #[s, x], argTypes := #[t, t] })
    (e : TypeId) (z : Value) (bytes : Nat) (ht : P.underlying t = some (.slice e)) (hi : (P.info? e).map (fun i => (i.zero, i.size, i.bytes)) = some (some z, 1, bytes)) (hzs : z.cells.size = 1)
    (m : Int) (ao : Option Addr) (n cap : Nat) (hs : a.eval s = .slice ao n cap) (hown : OSl w e 1 ao n cap (List.replicate n (.int .i64 m)))
    (ad : Addr) (k c : Nat) (hk : 0 < k) (hx : a.eval x = .slice (some ad) k c)
    (hsrc : ∀ j u, (List.replicate k (Value.int .i64 m))[j]? = some u → w.cell? (ad.add j) = some u)
    (h63 : n + k ≤ maxLen) (hbytes : (n + k) * bytes ≤ 140737488355328)
    (h : ∀ ao' cap' w', OSl w' e 1 ao n cap (List.replicate n (.int .i64 m)) → MarkAt w' ao' (n + k) m → Kp (fun b => blkOf ao = some b) w w' → Marks m w w' → Hid (∀ g, blkOf ao' = some g → (blkOf ao = some g ∨ w.heap.size ≤ g) ∧ g < w'.heap.size) → wpList P ops Q rest (a.put o.dst (.slice ao' (n + k) cap')) w') : wpList P ops Q (o :: rest) a w := by
  obtain ⟨i, hi, hz0, hz1, hz2⟩ := info_parts hi
  have h1 : ∀ u ∈ List.replicate k (Value.int .i64 m), u.oneCell' = true := fun u hu => by rw [List.eq_of_mem_replicate hu]; rfl
  have hone : ∀ v ∈ List.replicate k (Value.int .i64 m), v = .int .i64 m := fun v hv => List.eq_of_mem_replicate hv
  have er : List.replicate n (Value.int .i64 m) ++ List.replicate k (Value.int .i64 m) = List.replicate (n + k) (Value.int .i64 m) := by rw [List.replicate_append_replicate]
  have fin : ∀ v' w', w'.ownsRow w.heap.size e 1 v' (n + k) (List.replicate n (Value.int .i64 m) ++ List.replicate k (Value.int .i64 m)) → w.grownBy w' none → wpList P ops Q rest (a.put o.dst v') w' := by
    intro v' w' hown' hgrow
    have hform : ∃ g cap', v' = .slice (some ⟨g, 0, none⟩) (n + k) cap' ∧ w.heap.size ≤ g := by
      rcases hown'.2 with ⟨hv, hn⟩ | ⟨g, cap', cur, hv, hb, _⟩
      · omega
      · exact ⟨g, cap', hv, hb⟩
    obtain ⟨g, cap', rfl, hg⟩ := hform
    have hE : Ext w w' := ⟨hgrow.os, hgrow.tape, hgrow.output, hgrow.size, fun q hq => hgrow.block q hq (by simp)⟩
    have hO' : OSl w' e 1 (some ⟨g, 0, none⟩) (n + k) cap' (List.replicate (n + k) (.int .i64 m)) := by
      rw [er] at hown'
      obtain ⟨q1, q2 | ⟨g', c', cur, hv, hb, r⟩⟩ := hown'
      · exact ⟨q1, Or.inl q2⟩
      · exact ⟨q1, Or.inr ⟨g', c', cur, hv, Nat.zero_le _, r⟩⟩
    refine h (some ⟨g, 0, none⟩) cap' w' (hown.ext hE) hO'.mark (hE.kp _) (Marks.ext hE) ?_
    intro g' hg'
    simp [blkOf] at hg'; subst hg'
    exact ⟨Or.inr hg, hO'.lt rfl⟩
  rcases hown.form with ⟨rfl, rfl, rfl, _⟩ | ⟨g, cur, rfl, hh, hnc, hcm, hcs, hct⟩
  · exact wpList_append_grows w hgd s x t ho e i z 1 bytes ht hi hz0 hz1 hz2 hzs (by decide) none 0 0 [] hs (fun _ => ⟨rfl, rfl⟩) rfl (fun b hb => by cases hb) ad k c _ hx (by simp) hsrc h1 (by omega) h63 hbytes (fun v' w' q1 q2 => fin v' w' (by simpa using q1) q2)
  · have hmk := hown.mark
    refine wpList_append_arg w hgd s x t ho e i z 1 bytes ht hi hz0 hz1 hz2 hzs (by decide) g 0 n cap (List.replicate n (.int .i64 m)) hs (by simp) ?_ ad k c _ hx (by simp) hsrc h1 ?_ h63 hbytes ?_ ?_
    · intro j u hj
      obtain ⟨g', e1, h2⟩ := hown.at hj
      cases e1
      rw [Nat.zero_add]; exact h2
    · intro hroom j hj
      simp at hj
      constructor
      · simp [World.cell?, hh]; omega
      · simp [World.frozen?, hh]
    · intro hroom
      have hrow : Row w g e cur.toList := by unfold Row; simpa using hh
      have hr2 := row_setCells (List.replicate k (Value.int .i64 m)) (0 + n * 1) w cur.toList hrow (by simp [hcs]; omega)
      have hM := marks_setCells (g := g) (List.replicate k (Value.int .i64 m)) (0 + n * 1) w hone
      have hK : Kp (fun b => blkOf (some (⟨g, 0, none⟩ : Addr)) = some b) w (w.setCells g (0 + n * 1) (List.replicate k (Value.int .i64 m))) := kp_setCells (M := fun b => blkOf (some (⟨g, 0, none⟩ : Addr)) = some b) rfl _ _ _ _ (Kp.refl _ _)
      generalize w.setCells g (0 + n * 1) (List.replicate k (Value.int .i64 m)) = w2 at *
      have etk : cur.toList.take n = List.replicate n (Value.int .i64 m) := by simpa using hct
      have hO2 : ∀ q, q ≤ n + k → OSl w2 e 1 (some ⟨g, 0, none⟩) q cap (List.replicate q (.int .i64 m)) := by
        intro q hq
        refine ⟨by simp, Or.inr ⟨g, cap, _, rfl, Nat.zero_le _, hr2, by omega, hcm, ?_, ?_⟩⟩
        · simp [hcs]; omega
        · simp only [Nat.zero_add, Nat.mul_one, etk, er]
          rw [List.take_append_of_le_length (by simp; omega), List.take_replicate, Nat.min_eq_left hq]
      refine h (some ⟨g, 0, none⟩) cap w2 (hO2 n (by omega)) (hO2 (n + k) (Nat.le_refl _)).mark hK hM ?_
      intro g' hg'
      refine ⟨Or.inl hg', (hO2 n (by omega)).lt hg'⟩
    · intro _ v' w' q1 q2; exact fin v' w' q1 q2
end Go.Proofs.YtpbblaeamddbgaaGreat
namespace Go.Proofs.YtpbblaeamddbgaaGreat
open Go.RowKit

theorem Tryz.infoLi : (Tryz.prog.info? 25).map (fun i => (i.zero, i.size, i.bytes)) = some (some (.slice none 0 0), 1, 24) := by kernel_rfl
theorem rep_new (w : World) (T : TypeId) (x : Value) (k : Nat) (cs : Array Value) (hc : cs = (List.replicate k x).toArray) : ∀ j u, (List.replicate k x)[j]? = some u → (w.alloc (.cells cs T)).cell? ((⟨w.heap.size, 0, none⟩ : Addr).add j) = some u := by
  intro j u hj
  rw [add_lt]
  exact cell_new w _ T _ j rfl (by rw [hc]; rw [List.getElem?_toArray]; exact hj)
theorem one_new' (w : World) (T : TypeId) (x : Value) (b : Nat) (hb : b = w.heap.size) : ∀ j u, [x][j]? = some u → (w.alloc (.cells #[x] T)).cell? ((⟨b, 0, none⟩ : Addr).add j) = some u := by
  subst hb; exact one_new w T x
theorem osl_set {w : World} {e : Nat} {ao : Option Addr} {n cap : Nat} {m : Int} {k : Nat} {g : Nat} (hao : ao = some ⟨g, 0, none⟩) {xs : List Value} (h : OSl w e 1 ao n cap xs) : OSl (w.setCell ⟨g, k, none⟩ (.int .i64 m)) e 1 ao n cap (xs.set k (.int .i64 m)) := by
  subst hao
  have := World.ownsRow.stored h k (.int .i64 m)
  exact this.1

theorem hid_of {p : Prop} (h : p) : Hid p := h
theorem kb (ic x : Nat) (h : (ic + 4) * 24 ≤ 140737488355328) (hx : x ≤ ic + 4) : x ≤ maxLen := by unfold maxLen; omega
theorem kc (ic x : Nat) (h : (ic + 4) * 24 ≤ 140737488355328) (hx : x ≤ ic + 4) : x * 24 ≤ 140737488355328 := by omega
/-- Behind the three lists that were appended. -/
structure Mid (w w4 : World) (wb : Nat) (vs : List Value) (ia : Option Addr) (ic icap : Nat) (ivs : List Value) (lo : Option Addr) (n : Nat) (aa ba ca : Option Addr) (mk : Int) : Prop where
  hI : OSl w4 25 1 ia ic icap ivs
  hW : Row w4 wb 89 vs
  mL : MarkAt w4 lo n mk
  mA : MarkAt w4 aa (n + 1) mk
  mB : MarkAt w4 ba (n + 2) mk
  mC : MarkAt w4 ca (n + 3) mk
  kp : Kp (fun b => blkOf lo = some b) w w4
  fA : ∀ g, blkOf aa = some g → (blkOf lo = some g ∨ w.heap.size ≤ g) ∧ g < w4.heap.size
  fB : ∀ g, blkOf ba = some g → (blkOf lo = some g ∨ w.heap.size ≤ g) ∧ g < w4.heap.size
  fC : ∀ g, blkOf ca = some g → (blkOf lo = some g ∨ w.heap.size ≤ g) ∧ g < w4.heap.size
theorem keep_mid {w w1 w2 w3 w4 : World} {wb : Nat} {vs : List Value} {ia : Option Addr} {ic icap : Nat} {ivs : List Value} {lo : Option Addr} {n cap : Nat} {aa ba ca : Option Addr} {mk : Int} {X1 X2 X3 : Obj}
    (hW : Row w wb 89 vs) (hI : OSl w 25 1 ia ic icap ivs) (hK : Kp (fun b => blkOf lo = some b) w w1) (s2 : ∀ g, blkOf lo = some g → g ≠ wb) (s3 : ∀ g, blkOf lo = some g → ¬ blkOf ia = some g)
    (kA : Kp (fun b => blkOf lo = some b) (w1.alloc X1) w2) (fA : Hid (∀ g, blkOf aa = some g → (blkOf lo = some g ∨ (w1.alloc X1).heap.size ≤ g) ∧ g < w2.heap.size)) (mA : MarkAt w2 aa (n + 1) mk)
    (kB : Kp (fun b => blkOf lo = some b) (w2.alloc X2) w3) (maB : Marks mk (w2.alloc X2) w3) (fB : Hid (∀ g, blkOf ba = some g → (blkOf lo = some g ∨ (w2.alloc X2).heap.size ≤ g) ∧ g < w3.heap.size)) (mB : MarkAt w3 ba (n + 2) mk)
    (kC : Kp (fun b => blkOf lo = some b) (w3.alloc X3) w4) (maC : Marks mk (w3.alloc X3) w4) (fC : Hid (∀ g, blkOf ca = some g → (blkOf lo = some g ∨ (w3.alloc X3).heap.size ≤ g) ∧ g < w4.heap.size)) (mC : MarkAt w4 ca (n + 3) mk)
    (hO4 : OSl w4 3 1 lo n cap (List.replicate n (.int .i64 mk))) : Mid w w4 wb vs ia ic icap ivs lo n aa ba ca mk := by
  have al : ∀ (u : World) (X : Obj), Ext u (u.alloc X) := fun u X => (Ext.refl u).alloc X
  have k2 : Kp (fun b => blkOf lo = some b) w w2 := (hK.trans ((al w1 X1).kp _)).trans kA
  have k3 : Kp (fun b => blkOf lo = some b) w w3 := (k2.trans ((al w2 X2).kp _)).trans kB
  have k4 : Kp (fun b => blkOf lo = some b) w w4 := (k3.trans ((al w3 X3).kp _)).trans kC
  have m3 : Marks mk w2 w3 := (Marks.ext (al w2 X2)).trans maB
  have m4 : Marks mk w3 w4 := (Marks.ext (al w3 X3)).trans maC
  have l1 := hK.size
  have l2 := k2.size
  have l3 := k3.size
  have z1 := (al w1 X1).le
  have z2 := (al w2 X2).le
  have z3 := (al w3 X3).le
  have y2 := kB.size
  have y3 := kC.size
  refine ⟨hI.kp k4 (fun g hg hl => s3 g hl hg), k4.row hW (fun h => s2 wb h rfl), hO4.mark, (mA.marks m3).marks m4, mB.marks m4, mC, k4, ?_, ?_, ?_⟩
  · intro g hg
    obtain ⟨h1, h2⟩ := fA.out g hg
    exact ⟨h1.imp (fun h => h) (fun h => by omega), by omega⟩
  · intro g hg
    obtain ⟨h1, h2⟩ := fB.out g hg
    exact ⟨h1.imp (fun h => h) (fun h => by omega), by omega⟩
  · intro g hg
    obtain ⟨h1, h2⟩ := fC.out g hg
    exact ⟨h1.imp (fun h => h) (fun h => by omega), by omega⟩
/-- The book while lists are entered. -/
structure Ids (w4 S : World) (wb : Nat) (v0 v1 v3 v4 v5 : Value) (ia ia' : Option Addr) (c' icap' : Nat) (vs : List Value) : Prop where
  hI : OSl S 25 1 ia' c' icap' vs
  hW : Row S wb 89 [v0, v1, .slice ia' c' icap', v3, v4, v5]
  kp : Kp (fun b => b = wb ∨ blkOf ia = some b) w4 S
  fr : ∀ g, blkOf ia' = some g → (blkOf ia = some g ∨ w4.heap.size ≤ g) ∧ g ≠ wb
theorem ids_step {w4 S w5 : World} {wb : Nat} {v0 v1 v3 v4 v5 : Value} {ia ia1 ia2 : Option Addr} {c1 k1 k2 : Nat} {vs : List Value} {v : Value} {X : Obj} (h : Ids w4 S wb v0 v1 v3 v4 v5 ia ia1 c1 k1 vs)
    (hk : Kp (fun b => blkOf ia1 = some b) (S.alloc X) w5) (hat : Hid (blkOf ia2 = blkOf ia1 ∨ blkOf ia2 = some (S.alloc X).heap.size)) (hI : OSl w5 25 1 ia2 (c1 + 1) k2 (vs ++ [v])) :
    w5.cell? ⟨wb, 2, none⟩ = some (.slice ia1 c1 k1) ∧ w5.frozen? ⟨wb, 2, none⟩ = false ∧ Ids w4 (w5.setCell ⟨wb, 2, none⟩ (.slice ia2 (c1 + 1) k2)) wb v0 v1 v3 v4 v5 ia ia2 (c1 + 1) k2 (vs ++ [v]) := by
  have al : Ext S (S.alloc X) := (Ext.refl S).alloc X
  have hk2 : Kp (fun b => blkOf ia1 = some b) S w5 := (al.kp _).trans hk
  have hne : ¬ blkOf ia1 = some wb := fun e => (h.fr wb e).2 rfl
  have hrow : Row w5 wb 89 [v0, v1, .slice ia1 c1 k1, v3, v4, v5] := hk2.row h.hW hne
  have hwl := h.hW.lt
  have hsz := al.le
  have h4 := h.kp.size
  have hfr : ∀ g, blkOf ia2 = some g → (blkOf ia = some g ∨ w4.heap.size ≤ g) ∧ g ≠ wb := by
    intro g hg
    rcases hat.out with e | e
    · rw [e] at hg; exact h.fr g hg
    · rw [e] at hg; cases hg
      exact ⟨Or.inr (by omega), by omega⟩
  have hset : Kp (fun b => b = wb ∨ blkOf ia = some b) w5 (w5.setCell ⟨wb, 2, none⟩ (.slice ia2 (c1 + 1) k2)) := (Kp.refl (fun b => b = wb ∨ blkOf ia = some b) _).setCell (fun _ => Or.inl rfl) _
  have hset1 : Kp (fun b => b = wb) w5 (w5.setCell ⟨wb, 2, none⟩ (.slice ia2 (c1 + 1) k2)) := (Kp.refl (fun b => b = wb) _).setCell (fun _ => rfl) _
  refine ⟨hrow.at (j := 2) rfl, hrow.frozen 2, hI.kp hset1 (fun g hg => (hfr g hg).2), hrow.set 2 _, ?_, hfr⟩
  refine Kp.trans ?_ hset
  refine ⟨hk2.os.trans h.kp.os, hk2.tape.trans h.kp.tape, hk2.output.trans h.kp.output, Nat.le_trans h4 hk2.size, fun b hb hn => ?_⟩
  rw [hk2.block b (by omega) (fun e => ?_)]
  · exact h.kp.block b hb hn
  · rcases (h.fr b e).1 with e2 | e2
    · exact hn (Or.inr e2)
    · omega

/-- What keep leaves: four lists more in the book, all of one mark. -/
def KeepPost (w w' : World) (wb : Nat) (v0 v1 v3 v4 v5 : Value) (ia : Option Addr) (ic : Nat) (ivs : List Value) (lo : Option Addr) (n cap : Nat) (mk : Int) : Prop :=
  ∃ (ia' : Option Addr) (icap' : Nat) (aa : Option Addr) (ac : Nat) (ba : Option Addr) (bc : Nat) (ca : Option Addr) (cc hm : Nat),
    Row w' wb 89 [v0, v1, .slice ia' (ic + 4) icap', v3, v4, v5] ∧ OSl w' 25 1 ia' (ic + 4) icap' (ivs ++ [.slice lo n cap, .slice aa (n + 1) ac, .slice ba (n + 2) bc, .slice ca (n + 3) cc])
    ∧ MarkAt w' lo n mk ∧ MarkAt w' aa (n + 1) mk ∧ MarkAt w' ba (n + 2) mk ∧ MarkAt w' ca (n + 3) mk ∧ Kp (fun b => b = wb ∨ blkOf ia = some b ∨ blkOf lo = some b) w w'
    ∧ (∀ g, blkOf ia' = some g → (blkOf ia = some g ∨ hm ≤ g) ∧ g ≠ wb ∧ g < w'.heap.size) ∧ (∀ g, (blkOf aa = some g ∨ blkOf ba = some g ∨ blkOf ca = some g) → blkOf lo = some g ∨ (w.heap.size ≤ g ∧ g < hm)) ∧ w.heap.size ≤ hm ∧ hm ≤ w'.heap.size
theorem keep_end {w w4 S : World} {wb : Nat} {v0 v1 v3 v4 v5 : Value} {ia ia4 : Option Addr} {ic icap icap4 : Nat} {ivs : List Value} {lo : Option Addr} {n cap : Nat} {aa ba ca : Option Addr} {ac bc cc : Nat} {mk : Int} (Z : Mid w w4 wb [v0, v1, .slice ia ic icap, v3, v4, v5] ia ic icap ivs lo n aa ba ca mk)
    (Y : Ids w4 S wb v0 v1 v3 v4 v5 ia ia4 (ic + 1 + 1 + 1 + 1) icap4 (ivs ++ [.slice lo n cap] ++ [.slice aa (n + 1) ac] ++ [.slice ba (n + 2) bc] ++ [.slice ca (n + 3) cc])) (s1 : ∀ g, blkOf ia = some g → g < w.heap.size) (s2 : ∀ g, blkOf lo = some g → g ≠ wb) (s3 : ∀ g, blkOf lo = some g → ¬ blkOf ia = some g) (hwb : wb < w.heap.size) :
    KeepPost w S wb v0 v1 v3 v4 v5 ia ic ivs lo n cap mk := by
  have off : ∀ (x : Option Addr), (∀ g, blkOf x = some g → (blkOf lo = some g ∨ w.heap.size ≤ g) ∧ g < w4.heap.size) → ∀ g, blkOf x = some g → ¬ (g = wb ∨ blkOf ia = some g) := by
    intro x hx g hg hor
    rcases (hx g hg).1 with h | h
    · rcases hor with e | e
      · exact s2 g h e
      · exact s3 g h e
    · rcases hor with e | e
      · omega
      · have := s1 g e; omega
  have offL : ∀ g, blkOf lo = some g → ¬ (g = wb ∨ blkOf ia = some g) := fun g hg hor => by
    rcases hor with e | e
    · exact s2 g hg e
    · exact s3 g hg e
  refine ⟨ia4, icap4, aa, ac, ba, bc, ca, cc, w4.heap.size, Y.hW, ?_, Z.mL.kp Y.kp offL, Z.mA.kp Y.kp (off aa Z.fA), Z.mB.kp Y.kp (off ba Z.fB), Z.mC.kp Y.kp (off ca Z.fC), ?_, ?_, ?_, Z.kp.size, Y.kp.size⟩
  · have := Y.hI
    simpa [List.append_assoc] using this
  · exact (Z.kp.mono (fun b _ h => Or.inr (Or.inr h))).trans (Y.kp.mono (fun b _ h => h.imp (fun e => e) Or.inl))
  · intro g hg
    exact ⟨(Y.fr g hg).1, (Y.fr g hg).2, Y.hI.lt hg⟩
  · intro g hg
    rcases hg with h | h | h
    · exact (Z.fA g h).1.imp (fun e => e) (fun e => ⟨e, (Z.fA g h).2⟩)
    · exact (Z.fB g h).1.imp (fun e => e) (fun e => ⟨e, (Z.fB g h).2⟩)
    · exact (Z.fC g h).1.imp (fun e => e) (fun e => ⟨e, (Z.fC g h).2⟩)

set_option maxHeartbeats 800000 in
set_option maxRecDepth 100000 in
theorem keep_any (wb : Nat) (v0 v1 v3 v4 v5 : Value) (ia : Option Addr) (ic icap : Nat) (ivs : List Value) (lo : Option Addr) (n cap : Nat) (xs : List Value) (w : World) (_hn : n ≤ 100) (_hic : (ic + 4) * 24 ≤ 140737488355328)
    (hW : Row w wb 89 [v0, v1, .slice ia ic icap, v3, v4, v5]) (hI : OSl w 25 1 ia ic icap ivs) (hL : OSl w 3 1 lo n cap xs)
    (s1 : ∀ g, blkOf ia = some g → g ≠ wb) (s2 : ∀ g, blkOf lo = some g → g ≠ wb) (s3 : ∀ g, blkOf lo = some g → ¬ blkOf ia = some g) :
    Calls Tryz.prog 73 #[.pointer (some ⟨wb, 0, none⟩), .slice lo n cap] w fun e w' => e = .returned (.tuple #[]) ∧ KeepPost w w' wb v0 v1 v3 v4 v5 ia ic ivs lo n cap ((-1000 : Int) - (ic : Int) / 4) := by
  have a2 := hW.at (j := 2) rfl
  have s1' : ∀ g, blkOf ia = some g → g < w.heap.size := fun g hg => hI.lt hg
  have s2' : ∀ b : Nat, ¬ blkOf lo = some wb := fun _ h => s2 wb h rfl
  obtain ⟨mk, hmk⟩ : ∃ mk, (-1000 : Int) - (ic : Int) / 4 = mk := ⟨_, rfl⟩
  have HMK : Hid ((-1000 : Int) - (ic : Int) / 4 = mk) := hmk
  have Hb1 : Hid (ic + 1 ≤ maxLen) := hid_of (kb _ _ _hic (by omega))
  have Hc1 : Hid ((ic + 1) * 24 ≤ 140737488355328) := hid_of (kc _ _ _hic (by omega))
  have Hb2 : Hid (ic + 1 + 1 ≤ maxLen) := hid_of (kb _ _ _hic (by omega))
  have Hc2 : Hid ((ic + 1 + 1) * 24 ≤ 140737488355328) := hid_of (kc _ _ _hic (by omega))
  have Hb3 : Hid (ic + 1 + 1 + 1 ≤ maxLen) := hid_of (kb _ _ _hic (by omega))
  have Hc3 : Hid ((ic + 1 + 1 + 1) * 24 ≤ 140737488355328) := hid_of (kc _ _ _hic (by omega))
  have Hb4 : Hid (ic + 1 + 1 + 1 + 1 ≤ maxLen) := hid_of (kb _ _ _hic (by omega))
  have Hc4 : Hid ((ic + 1 + 1 + 1 + 1) * 24 ≤ 140737488355328) := hid_of (kc _ _ _hic (by omega))
  go_enter Tryz.func73, Tryz.ntmps73
  go_wp2
  clear hmk
  go_loopw [5] (fun i wr => ∃ k : Nat, k ≤ n ∧ i = .int .i64 k ∧ Kp (fun b => blkOf lo = some b) w wr ∧ ∃ ys, OSl wr 3 1 lo n cap ys ∧ ys.take k = List.replicate k (.int .i64 mk)) (fun i _ => n - (intOf i).toNat)
  case atStart => exact ⟨0, Nat.zero_le _, rfl, Kp.refl _ _, xs, hL, rfl⟩
  case round =>
    obtain ⟨k, hk, rfl, hKn, ys, hY, hyt⟩ := hrel
    have HY : Hid (ys.take k = List.replicate k (.int .i64 mk)) := hyt
    clear hyt
    have hyl : Hid (ys.length = n * 1) := hY.len
    by_cases hlt : k < n
    · obtain ⟨g, hlo, hc⟩ := hY.at (List.getElem?_eq_getElem (l := ys) (i := k) (by rw [hyl.out]; omega))
      subst hlo
      have hf := World.ownsRow.frozenAt hY k
      go_wp2
      go_roundw
      case rel =>
        refine ⟨k + 1, by omega, by go_num, hKn.setCell (p := ⟨g, k, none⟩) (fun _ => rfl) _, _, osl_set rfl hY, ?_⟩
        rw [List.take_succ_eq_append_getElem (by simp; rw [hyl.out]; omega)]
        simp [List.take_set_of_le, HY.out, List.replicate_succ']
      case measure => simp [intOf]; omega
    · have hOn : OSl wr 3 1 lo n cap (List.replicate n (.int .i64 mk)) := by
        have e : ys = List.replicate n (.int .i64 mk) := by
          have := HY.out
          rw [List.take_of_length_le (by rw [hyl.out]; omega)] at this
          rw [this]; congr 1; omega
        rw [← e]; exact hY
      obtain ⟨w1, hw1⟩ : ∃ w1 : World, w1 = wr := ⟨_, rfl⟩
      subst hw1
      have q1 : w1.cell? ⟨wb, 2, none⟩ = some (.slice ia ic icap) := hKn.cell a2 (s2' wb)
      clear hY HY hyl
      have ta : True := trivial
      have tb : True := trivial
      have tc : True := trivial
      have t1 : True := trivial
      have t2 : True := trivial
      have t3 : True := trivial
      have t4 : True := trivial
      go_wp2_with (first
        | (at_builtin; have _t := ta; go_must (refine wpList_app_mark rfl (.tmp 26) (.tmp 28) 25 rfl 3 (.int .i64 0) 8 Tryz.underlying25 Tryz.infoInt rfl mk lo n cap rfl (OSl.ext hOn ((Ext.refl _).alloc _)) ⟨w1.heap.size, 0, none⟩ 1 1 (by decide) rfl (rep_new _ _ _ 1 _ rfl) (by unfold maxLen; omega) (by omega) ?_; intro aa ac w2 hO2 mA hkA maA frA; have q2 : w2.cell? ⟨wb, 2, none⟩ = some (.slice ia ic icap) := hkA.cell (((Ext.refl _).alloc _).cell q1) (s2' wb); clear ta))
        | (at_builtin; have _t := tb; go_must (refine wpList_app_mark rfl (.tmp 30) (.tmp 33) 25 rfl 3 (.int .i64 0) 8 Tryz.underlying25 Tryz.infoInt rfl mk lo n cap rfl (OSl.ext hO2 ((Ext.refl _).alloc _)) ⟨w2.heap.size, 0, none⟩ 2 2 (by decide) rfl (rep_new _ _ _ 2 _ rfl) (by unfold maxLen; omega) (by omega) ?_; intro ba bc w3 hO3 mB hkB maB frB; have q3 : w3.cell? ⟨wb, 2, none⟩ = some (.slice ia ic icap) := hkB.cell (((Ext.refl _).alloc _).cell q2) (s2' wb); clear tb))
        | (at_builtin; have _t := tc; go_must (refine wpList_app_mark rfl (.tmp 35) (.tmp 39) 25 rfl 3 (.int .i64 0) 8 Tryz.underlying25 Tryz.infoInt rfl mk lo n cap rfl (OSl.ext hO3 ((Ext.refl _).alloc _)) ⟨w3.heap.size, 0, none⟩ 3 3 (by decide) rfl (rep_new _ _ _ 3 _ rfl) (by unfold maxLen; omega) (by omega) ?_; intro ca cc w4 hO4 mC hkC maC frC; have q4 : w4.cell? ⟨wb, 2, none⟩ = some (.slice ia ic icap) := hkC.cell (((Ext.refl _).alloc _).cell q3) (s2' wb); have Z := keep_mid hW hI hKn s2 s3 hkA frA mA hkB maB frB mB hkC maC frC mC hO4; have Z0 : Ids w4 w4 wb v0 v1 v3 v4 v5 ia ia ic icap ivs := ⟨Z.hI, Z.hW, Kp.refl _ _, fun g hg => ⟨Or.inl hg, s1 g hg⟩⟩; clear tc))
        | (at_builtin; have _t := t1; go_must (refine wpList_app rfl (.tmp 45) (.tmp 47) 65 rfl 25 (.slice none 0 0) 1 24 Tryz.underlying65 Tryz.infoLi rfl (by decide) ia (ic) icap _ rfl (OSl.ext Z0.hI ((Ext.refl _).alloc _)) (some ⟨w4.heap.size, 0, none⟩) 1 1 [.slice lo n cap] rfl (by intro h; cases h) rfl (fun _ => ⟨_, rfl, one_new _ _ _⟩) (by intro u hu; simp at hu; subst hu; rfl) Hb1.out Hc1.out ?_; intro ia1 icap1 w5 hI5 hk5 at5; have Y5 := ids_step Z0 hk5 at5 hI5; have q5 := Y5.1; have z5 := Y5.2.1; have Z5 := Y5.2.2; clear t1 Y5))
        | (at_builtin; have _t := t2; go_must (refine wpList_app rfl (.tmp 55) (.tmp 57) 65 rfl 25 (.slice none 0 0) 1 24 Tryz.underlying65 Tryz.infoLi rfl (by decide) ia1 (ic + 1) icap1 _ rfl (OSl.ext Z5.hI ((Ext.refl _).alloc _)) (some ⟨w5.heap.size, 0, none⟩) 1 1 [.slice aa (n + 1) ac] rfl (by intro h; cases h) rfl (fun _ => ⟨_, rfl, one_new' _ _ _ _ (by simp [World.setCell])⟩) (by intro u hu; simp at hu; subst hu; rfl) Hb2.out Hc2.out ?_; intro ia2 icap2 w6 hI6 hk6 at6; have Y6 := ids_step Z5 hk6 at6 hI6; have q6 := Y6.1; have z6 := Y6.2.1; have Z6 := Y6.2.2; clear t2 Y6))
        | (at_builtin; have _t := t3; go_must (refine wpList_app rfl (.tmp 65) (.tmp 67) 65 rfl 25 (.slice none 0 0) 1 24 Tryz.underlying65 Tryz.infoLi rfl (by decide) ia2 (ic + 1 + 1) icap2 _ rfl (OSl.ext Z6.hI ((Ext.refl _).alloc _)) (some ⟨w6.heap.size, 0, none⟩) 1 1 [.slice ba (n + 2) bc] rfl (by intro h; cases h) rfl (fun _ => ⟨_, rfl, one_new' _ _ _ _ (by simp [World.setCell])⟩) (by intro u hu; simp at hu; subst hu; rfl) Hb3.out Hc3.out ?_; intro ia3 icap3 w7 hI7 hk7 at7; have Y7 := ids_step Z6 hk7 at7 hI7; have q7 := Y7.1; have z7 := Y7.2.1; have Z7 := Y7.2.2; clear t3 Y7))
        | (at_builtin; have _t := t4; go_must (refine wpList_app rfl (.tmp 75) (.tmp 77) 65 rfl 25 (.slice none 0 0) 1 24 Tryz.underlying65 Tryz.infoLi rfl (by decide) ia3 (ic + 1 + 1 + 1) icap3 _ rfl (OSl.ext Z7.hI ((Ext.refl _).alloc _)) (some ⟨w7.heap.size, 0, none⟩) 1 1 [.slice ca (n + 3) cc] rfl (by intro h; cases h) rfl (fun _ => ⟨_, rfl, one_new' _ _ _ _ (by simp [World.setCell])⟩) (by intro u hu; simp at hu; subst hu; rfl) Hb4.out Hc4.out ?_; intro ia4 icap4 w8 hI8 hk8 at8; have Y8 := ids_step Z7 hk8 at8 hI8; have q8 := Y8.1; have z8 := Y8.2.1; have Z8 := Y8.2.2; clear t4 Y8))
        )
      go_end0
      exact ⟨rfl, by rw [HMK.out]; exact keep_end Z Z8 s1' s2 s3 hW.lt⟩
end Go.Proofs.YtpbblaeamddbgaaGreat
namespace Go.Proofs.YtpbblaeamddbgaaGreat
open Go.RowKit

/-- The lists in the book, each of its own mark. -/
def Book (w : World) (vs : List Value) : Prop := ∀ i (hi : i < vs.length), ∃ ao n cap, vs[i] = .slice ao n cap ∧ n ≤ 103 ∧ MarkAt w ao n ((-1000 : Int) - (i : Int) / 4)

set_option maxHeartbeats 800000 in
set_option maxRecDepth 100000 in
theorem still_any (wb : Nat) (v0 v1 v5 : Value) (ia : Option Addr) (ic icap : Nat) (vs : List Value) (w : World) (hl : vs.length = ic) (_hic : ic * 24 ≤ 140737488355328)
    (hW : Row w wb 89 [v0, v1, .slice ia ic icap, .slice none 0 0, .slice none 0 0, v5]) (hI : OSl w 25 1 ia ic icap vs) (hB : Book w vs) :
    Calls Tryz.prog 38 #[.pointer (some ⟨wb, 0, none⟩)] w fun e w' => e = .returned (.bool true) ∧ w' = w := by
  have a2 := hW.at (j := 2) rfl
  have a3 := hW.at (j := 3) rfl
  have a4 := hW.at (j := 4) rfl
  have HL : Hid (vs.length = ic) := hl
  have HB : Hid (Book w vs) := hB
  clear hl hB
  go_enter Tryz.func38, Tryz.ntmps38
  go_wp2
  go_loop [3] (fun i => ∃ k : Nat, k ≤ ic ∧ i = .int .i64 k) (fun i => ic - (intOf i).toNat)
  case atStart => exact ⟨0, Nat.zero_le _, rfl⟩
  case round =>
    obtain ⟨k, hk, rfl⟩ := hrel
    by_cases hlt : k < ic
    · have hkv : k < vs.length := by rw [HL.out]; exact hlt
      obtain ⟨ao, n, cap, hv, hn, hm⟩ := HB.out k hkv
      obtain ⟨g, rfl, hc⟩ := hI.at (List.getElem?_eq_getElem hkv)
      rw [hv] at hc
      generalize hmk : (-1000 : Int) - (k : Int) / 4 = mk at hm
      have HMK : Hid ((-1000 : Int) - (k : Int) / 4 = mk) := hmk
      clear hv
      go_wp2
      go_loop [4] (fun i => ∃ j : Nat, j ≤ n ∧ i = .int .i64 j) (fun i => n - (intOf i).toNat)
      case atStart => exact ⟨0, Nat.zero_le _, rfl⟩
      case round =>
        obtain ⟨j, hj, rfl⟩ := hrel
        by_cases hjn : j < n
        · obtain ⟨b, rfl, hcb⟩ := hm j hjn
          go_wp2
          go_round
          case rel => exact ⟨j + 1, by omega, by go_num⟩
          case measure => simp [intOf]; omega
        · clear hm
          go_wp2
          go_round
          case rel => exact ⟨k + 1, by omega, by go_num⟩
          case measure => simp [intOf]; omega
    · clear HB hI
      go_wp2
      go_loop [5] (fun i => i = .int .i64 0) (fun _ => 0)
      case atStart => rfl
      case round =>
        subst hrel
        go_wp2
        go_loop [7] (fun i => i = .int .i64 0) (fun _ => 0)
        case atStart => rfl
        case round =>
          subst hrel
          go_wp2
          go_ret
          exact ⟨rfl, rfl⟩
end Go.Proofs.YtpbblaeamddbgaaGreat
namespace Go.Proofs.YtpbblaeamddbgaaGreat
open Go.RowKit

/-- What the laws ask of the program's engine: its contracts. (n: how many events were matched.) -/
structure EngC (E : World → Nat → (Nat → Prop) → List Int → List (Int × List Cd) → Int → Prop) : Prop where
  kp : ∀ {w w' : World} {eb : Nat} {F M : Nat → Prop} {sch : List Int} {flt : List (Int × List Cd)} {n : Int}, E w eb F sch flt n → Kp M w w' → (∀ b, F b → ¬ M b) → E w' eb F sch flt n
  mono : ∀ {w : World} {eb : Nat} {F G : Nat → Prop} {sch : List Int} {flt : List (Int × List Cd)} {n : Int}, E w eb F sch flt n → (∀ b, F b → G b) → E w eb G sch flt n
  new_no : ∀ (ao : Option Addr) (cap : Nat) (xs : List Int) (w : World), xs.length * 8 ≤ 140737488351232 → Ixs w ao xs → (ao = none → xs.length = 0 ∧ cap = 0) → schB xs = false →
    Calls Tryz.prog 20 #[.slice ao xs.length cap] w fun e w' => e = .returned (.tuple #[.pointer none, .int .i64 1]) ∧ Ext w w'
  new_ok : ∀ (ao : Option Addr) (cap : Nat) (xs : List Int) (w : World), xs.length * 8 ≤ 140737488351232 → Ixs w ao xs → (ao = none → xs.length = 0 ∧ cap = 0) → schB xs = true →
    Calls Tryz.prog 20 #[.slice ao xs.length cap] w fun e w' => ∃ eb, e = .returned (.tuple #[.pointer (some ⟨eb, 0, none⟩), .int .i64 0]) ∧ Ext w w' ∧ E w' eb (fun b => w.heap.size ≤ b ∧ b < w'.heap.size) xs [] 0
  sub : ∀ (eb : Nat) (F : Nat → Prop) (sch : List Int) (flt : List (Int × List Cd)) (n : Int) (id : Int) (ao : Option Addr) (cap : Nat) (l : List Cd) (w : World), flt.length ≤ 100 → SortedF flt → (Lit.int .i64 id).wf = true → E w eb F sch flt n → Cxs w ao l → ∀ q k, PosOf flt id q → BadOf sch l k →
    Calls Tryz.prog 24 #[.pointer (some ⟨eb, 0, none⟩), .int .i64 id, .slice ao l.length cap] w fun e w' => e = .returned (.tuple #[.int .i64 (subErr flt id l q k), .int .i64 (subPlace flt id l q k)]) ∧ Kp F w w' ∧ E w' eb (Grow F w w') sch (subFlt flt id l q k) n
  un : ∀ (eb : Nat) (F : Nat → Prop) (sch : List Int) (flt : List (Int × List Cd)) (n : Int) (id : Int) (w : World), flt.length ≤ 100 → SortedF flt → E w eb F sch flt n → ∀ q, PosOf flt id q →
    Calls Tryz.prog 27 #[.pointer (some ⟨eb, 0, none⟩), .int .i64 id] w fun e w' => e = .returned (.int .i64 (unErr flt id q)) ∧ Kp F w w' ∧ E w' eb (Grow F w w') sch (unFlt flt id q) n
  ma : ∀ (fn : Nat), (fn = 16 ∨ fn = 17 ∨ fn = 18) → ∀ (eb : Nat) (F : Nat → Prop) (sch : List Int) (flt : List (Int × List Cd)) (n : Int) (ao : Option Addr) (lcap : Nat) (ev : List Fd) (w : World), ev.length * 32 ≤ 140737488351232 → E w eb F sch flt n → Fxs w ao ev → ∀ q, FirstBad sch ev q →
    Calls Tryz.prog fn #[.pointer (some ⟨eb, 0, none⟩), .slice ao ev.length lcap] w fun e w' => ∃ ro rcap F', e = .returned (.tuple #[.slice ro (maIds flt ev q).length rcap, .int .i64 (maErr ev q), .int .i64 (maPlace ev q)]) ∧ OSl w' 3 1 ro (maIds flt ev q).length rcap ((maIds flt ev q).map (Value.int .i64))
      ∧ (∀ g, blkOf ro = some g → w.heap.size ≤ g ∧ ¬ F' g) ∧ Kp F w w' ∧ E w' eb F' sch flt (maN ev q n) ∧ ∀ b, F' b → Grow F w w' b
  rb : ∀ (eb : Nat) (F : Nat → Prop) (sch : List Int) (flt : List (Int × List Cd)) (n : Int) (ao : Option Addr) (cap : Nat) (xs : List Int) (w : World), E w eb F sch flt n → Ixs w ao xs →
    Calls Tryz.prog 22 #[.pointer (some ⟨eb, 0, none⟩), .slice ao xs.length cap] w fun e w' => e = .returned (.int .i64 (if orderB sch.length xs then 0 else 9)) ∧ Kp F w w' ∧ E w' eb (Grow F w w') sch flt n
  st : ∀ (eb : Nat) (F : Nat → Prop) (sch : List Int) (flt : List (Int × List Cd)) (n : Int) (w : World), E w eb F sch flt n →
    Calls Tryz.prog 28 #[.pointer (some ⟨eb, 0, none⟩)] w fun e w' => ∃ k : Nat, e = .returned (.agg #[.int .i64 flt.length, .int .i64 k, .int .i64 n]) ∧ 1 ≤ k ∧ k ≤ 1 + flt.length * sch.length ∧ Kp F w w' ∧ E w' eb (Grow F w w') sch flt n

/-- The blocks of two things that go together, behind a step: nothing but these and what is new. -/
structure Two (E : World → Nat → (Nat → Prop) → List Int → List (Int × List Cd) → Int → Prop) (w : World) (eb rb : Nat) (Fe Fr : Nat → Prop) (sch : List Int) (flt : List (Int × List Cd)) (n : Int) : Prop where
  e : E w eb Fe sch flt n
  r : RefN w rb Fr sch flt n
  le : ∀ b, Fe b → b < w.heap.size
  lr : ∀ b, Fr b → b < w.heap.size
  dis : ∀ b, Fe b → ¬ Fr b
theorem pad_cds {w : World} {g : Nat} {T : TypeId} {l : List Cd} (h : Row w g T (padCd l)) : Cds w g 0 l := by
  intro j hj
  have := cds_row h j (by simp; omega)
  rw [List.getElem_append_left hj] at this
  exact this
end Go.Proofs.YtpbblaeamddbgaaGreat
namespace Go.Proofs.YtpbblaeamddbgaaGreat
open Go.RowKit

theorem cxs_kp {w w' : World} {ao : Option Addr} {l : List Cd} {M : Nat → Prop} (h : Cxs w ao l) (k : Kp M w w') (hm : ∀ g, blkOf ao = some g → 0 < l.length → ¬ M g) : Cxs w' ao l := fun hp => by
  obtain ⟨b, o, h1, h2⟩ := h hp
  exact ⟨b, o, h1, h2.kp k (hm b (by rw [h1]; rfl) hp)⟩
theorem Two.ext1 {E : World → Nat → (Nat → Prop) → List Int → List (Int × List Cd) → Int → Prop} (C : EngC E) {w w1 : World} {eb rb : Nat} {Fe Fr : Nat → Prop} {sch : List Int} {flt : List (Int × List Cd)} {nn : Int} (T : Two E w eb rb Fe Fr sch flt nn) (h : Ext w w1) : E w1 eb Fe sch flt nn ∧ RefN w1 rb Fr sch flt nn :=
  ⟨C.kp T.e (h.kp (fun _ => False)) (fun _ _ h => h), T.r.kp (h.kp (fun _ => False)) (fun _ _ h => h)⟩
/-- What a step on an engine and its reference leaves. -/
def LStep (E : World → Nat → (Nat → Prop) → List Int → List (Int × List Cd) → Int → Prop) (w w' : World) (eb rb : Nat) (Fe Fr : Nat → Prop) (sch : List Int) (flt' : List (Int × List Cd)) (nn : Int) : Prop :=
  ∃ Fe' Fr', Two E w' eb rb Fe' Fr' sch flt' nn ∧ Kp (fun b => Fe b ∨ Fr b) w w' ∧ (∀ b, Fe' b → Grow Fe w w' b) ∧ ∀ b, Fr' b → Grow Fr w w' b
theorem enters_end {E : World → Nat → (Nat → Prop) → List Int → List (Int × List Cd) → Int → Prop} (C : EngC E) {w w1 w2 w3 w4 : World} {eb rb : Nat} {Fe Fr : Nat → Prop} {sch : List Int} {flt flt' : List (Int × List Cd)} {nn : Int} (T : Two E w eb rb Fe Fr sch flt nn) (hE1 : Ext w w1) (hg : w.heap.size < w1.heap.size) (hk2 : Kp Fe w1 w2)
    (he2 : E w2 eb (Grow Fe w1 w2) sch flt' nn) (hk3 : Kp Fr w2 w3) (hr3 : RefN w3 rb (Grow Fr w2 w3) sch flt' nn) (hk4 : Kp (fun k => k = w.heap.size) w3 w4) : LStep E w w4 eb rb Fe Fr sch flt' nn := by
  have z1 := hE1.le
  have z2 := hk2.size
  have z3 := hk3.size
  have z4 := hk4.size
  have dis : ∀ b, Grow Fe w1 w2 b → ¬ Grow Fr w2 w3 b := by
    intro b h1 h2
    rcases h1 with h1 | ⟨h1, h1'⟩
    · rcases h2 with h2 | ⟨h2, _⟩
      · exact T.dis b h1 h2
      · have := T.le b h1; omega
    · rcases h2 with h2 | ⟨h2, _⟩
      · have := T.lr b h2; omega
      · omega
  have e3 : E w3 eb (Grow Fe w1 w2) sch flt' nn := C.kp he2 hk3 (fun b hb hF => dis b hb (Or.inl hF))
  have n1 : ∀ b, Grow Fe w1 w2 b → ¬ b = w.heap.size := by
    intro b h e
    rcases h with h | ⟨h, _⟩
    · have := T.le b h; omega
    · omega
  have n2 : ∀ b, Grow Fr w2 w3 b → ¬ b = w.heap.size := by
    intro b h e
    rcases h with h | ⟨h, _⟩
    · have := T.lr b h; omega
    · omega
  refine ⟨Grow Fe w1 w2, Grow Fr w2 w3, ⟨C.kp e3 hk4 n1, hr3.kp hk4 n2, ?_, ?_, dis⟩, ?_, ?_, ?_⟩
  · intro b h
    rcases h with h | ⟨_, h⟩
    · have := T.le b h; omega
    · omega
  · intro b h
    rcases h with h | ⟨_, h⟩
    · have := T.lr b h; omega
    · omega
  · have k1 : Kp (fun b => Fe b ∨ Fr b) w w3 := ((hE1.kp _).trans (hk2.mono (fun _ _ h => Or.inl h))).trans (hk3.mono (fun _ _ h => Or.inr h))
    exact ⟨hk4.os.trans k1.os, hk4.tape.trans k1.tape, hk4.output.trans k1.output, Nat.le_trans k1.size hk4.size, fun i hi hn => (hk4.block i (Nat.lt_of_lt_of_le hi k1.size) (by omega)).trans (k1.block i hi hn)⟩
  · intro b h
    rcases h with h | ⟨h, h'⟩
    · exact Or.inl h
    · exact Or.inr ⟨by omega, by omega⟩
  · intro b h
    rcases h with h | ⟨h, h'⟩
    · exact Or.inl h
    · exact Or.inr ⟨by omega, by omega⟩

set_option maxHeartbeats 800000 in
set_option maxRecDepth 100000 in
theorem enters_any {E : World → Nat → (Nat → Prop) → List Int → List (Int × List Cd) → Int → Prop} (C : EngC E) (eb rb : Nat) (Fe Fr : Nat → Prop) (sch : List Int) (flt : List (Int × List Cd)) (nn : Int) (id : Int) (ao : Option Addr) (cap : Nat) (l : List Cd) (w : World) (_hs1 : 1 ≤ sch.length) (hs6 : sch.length ≤ 6) (hf : flt.length ≤ 100) (hS : SortedF flt) (hwf : (Lit.int .i64 id).wf = true) (hl : l.length * 64 ≤ 140737488351232)
    (_hz : ∀ j (hj : j < l.length), l[j].a.s.size ≤ 9223372036854775807 ∧ l[j].b.s.size ≤ 9223372036854775807) (T : Two E w eb rb Fe Fr sch flt nn) (hc : Cxs w ao l) (ha : ∀ g, blkOf ao = some g → 0 < l.length → ¬ Fe g ∧ ¬ Fr g) (hcn : ao = none → l.length = 0 ∧ cap = 0) (q k : Nat) (hq : PosOf flt id q) (hk : BadOf sch l k) :
    Calls Tryz.prog 34 #[.pointer (some ⟨eb, 0, none⟩), .pointer (some ⟨rb, 0, none⟩), .int .i64 id, .slice ao l.length cap] w fun e w' => e = .returned (.bool true) ∧ LStep E w w' eb rb Fe Fr sch (subFlt flt id l q k) nn := by
  have qT : ∀ (w : World) (a : Option Addr) (n c n' c' : Nat), (binOp .eql 26 (.slice a n c) (.slice none n' c')).run Tryz.prog w = .ok (.bool a.isNone) w := fun w a n c n' c' => Lib.run_eql_slice_nil w _ _ a n c n' c' Tryz.underlying26
  cases ao with
  | none =>
    obtain ⟨hl0, rfl⟩ := hcn rfl
    obtain rfl : l = [] := List.eq_nil_of_length_eq_zero hl0
    go_enter Tryz.func34, Tryz.ntmps34
    go_wp2_with fail
    refine (conds_any none 0 [] w hl hc).mono ?_
    rintro e w1 ⟨rfl, hr1, hE1⟩
    have t1 := T.ext1 C hE1
    go_wp2_with fail
    refine (C.sub eb Fe sch flt nn id none 0 [] w1 hf hS hwf t1.1 (fun h => absurd h (by simp)) q k hq hk).mono ?_
    rintro e w2 ⟨rfl, hk2, he2⟩
    have hc2 : Cxs w2 none [] := cxs_kp (hc.ext hE1) hk2 (fun g hg hp => (ha g hg hp).1)
    have hr2 : RefN w2 rb Fr sch flt nn := t1.2.kp hk2 (fun b hb hF => T.dis b hF hb)
    have hg2 : Row w2 w.heap.size 80 (padCd []) := hk2.row hr1 (fun hF => absurd (T.le _ hF) (by simp))
    go_wp2_with fail
    refine (rSubN_any rb Fr sch flt nn id none 0 [] w2 hs6 hf hl hr2 hc2 (fun _ => ⟨rfl, rfl⟩) q k hq hk).mono ?_
    rintro e w3 ⟨rfl, hk3, hr3⟩
    have hc3 : Cxs w3 none [] := cxs_kp hc2 hk3 (fun g hg hp => (ha g hg hp).2)
    have hg3 : Row w3 w.heap.size 80 (padCd []) := hk3.row hg2 (fun hF => absurd (T.lr _ hF) (by simp))
    go_wp2_with fail
    refine (wholeConds_any w.heap.size none 0 [] w3 hl hg3 hc3).mono ?_
    rintro e w4 ⟨rfl, hk4⟩
    have fin := enters_end C T hE1 hr1.lt hk2 he2 hk3 hr3 hk4
    generalize subErr flt id [] q k = se at *
    generalize subPlace flt id [] q k = sp at *
    clear hg3 hc3 hg2 hc2 hr1 hr2 t1 he2 hr3
    go_wp2
    go_ret
    exact ⟨rfl, fin⟩
  | some a =>
    go_enter Tryz.func34, Tryz.ntmps34
    go_wp2_with fail
    refine (conds_any _ cap l w hl hc).mono ?_
    rintro e w1 ⟨rfl, hr1, hE1⟩
    have t1 := T.ext1 C hE1
    go_wp2_with fail
    refine (C.sub eb Fe sch flt nn id (some ⟨w.heap.size, 0, none⟩) (l.length + 3) l w1 hf hS hwf t1.1 (fun _ => ⟨_, _, rfl, pad_cds hr1⟩) q k hq hk).mono ?_
    rintro e w2 ⟨rfl, hk2, he2⟩
    have hc2 : Cxs w2 _ l := cxs_kp (hc.ext hE1) hk2 (fun g hg hp => (ha g hg hp).1)
    have hr2 : RefN w2 rb Fr sch flt nn := t1.2.kp hk2 (fun b hb hF => T.dis b hF hb)
    have hg2 : Row w2 w.heap.size 80 (padCd l) := hk2.row hr1 (fun hF => absurd (T.le _ hF) (by simp))
    go_wp2_with fail
    refine (rSubN_any rb Fr sch flt nn id _ cap l w2 hs6 hf hl hr2 hc2 hcn q k hq hk).mono ?_
    rintro e w3 ⟨rfl, hk3, hr3⟩
    have hc3 : Cxs w3 _ l := cxs_kp hc2 hk3 (fun g hg hp => (ha g hg hp).2)
    have hg3 : Row w3 w.heap.size 80 (padCd l) := hk3.row hg2 (fun hF => absurd (T.lr _ hF) (by simp))
    go_wp2_with fail
    refine (wholeConds_any w.heap.size _ cap l w3 hl hg3 hc3).mono ?_
    rintro e w4 ⟨rfl, hk4⟩
    have fin := enters_end C T hE1 hr1.lt hk2 he2 hk3 hr3 hk4
    generalize subErr flt id l q k = se at *
    generalize subPlace flt id l q k = sp at *
    clear hg3 hc3 hg2 hc2 hr1 hr2 t1 he2 hr3
    go_wp2
    go_ret
    exact ⟨rfl, fin⟩
end Go.Proofs.YtpbblaeamddbgaaGreat
