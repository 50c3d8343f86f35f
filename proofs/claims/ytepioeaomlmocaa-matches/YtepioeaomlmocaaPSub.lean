import Derived.Test.YtepioeaomlmocaaDel
import Derived.Deep.RegionWith
namespace Go.Proofs.Ytepioeaomlmocaa
open Go.RowKit

theorem may_small {sch : List Int} {c : Cd} (h : mayB sch c = true) : c.a.s.size ≤ 281474976710656 ∧ c.b.s.size ≤ 281474976710656 := by
  have em : ∀ s : ByteArray, s.toList.isEmpty = true → s.size ≤ 20 := fun s hs => by
    have : s.toList = [] := by simpa using hs
    rw [ByteArray.toList_eq] at this
    have h0 : s.data.toList.length = s.size := rfl
    rw [this] at h0
    simp at h0
    omega
  have hf : ∀ k v, fitsB k v = true → v.s.size ≤ 20 := fun k v hv => by
    unfold fitsB at hv
    split at hv
    · exact em _ hv
    · simp only [Bool.and_eq_true, decide_eq_true_eq] at hv; omega
  have hn : ∀ v, noneB v = true → v.s.size ≤ 20 := fun v hv => by
    unfold noneB at hv
    simp only [Bool.and_eq_true] at hv
    exact em _ hv.2
  simp only [mayB, mayK, Bool.and_eq_true] at h
  obtain ⟨_, _, h1, h2⟩ := h
  have e1 : c.a.s.size ≤ 20 := by
    unfold firstB at h1
    split at h1
    · exact hn _ h1
    · exact hf _ _ h1
  have e2 : c.b.s.size ≤ 20 := by
    unfold secondB at h2
    split at h2
    · exact hf _ _ h2
    · exact hn _ h2
  omega
theorem ent_ins (es : List Ent) (x : Ent) (q : Nat) : (es.flatMap Ent.cells).take (q * 2) ++ x.cells ++ (es.flatMap Ent.cells).drop (q * 2) = (es.take q ++ x :: es.drop q).flatMap Ent.cells := by
  have h1 := flat_take Ent.cells 2 (fun _ => rfl) es q
  have h2 : (es.flatMap Ent.cells).drop (q * 2) = (es.drop q).flatMap Ent.cells := by
    have e : es.flatMap Ent.cells = (es.take q).flatMap Ent.cells ++ (es.drop q).flatMap Ent.cells := by rw [← List.flatMap_append, List.take_append_drop]
    rcases Nat.lt_or_ge q es.length with h | h
    · rw [e, List.drop_left' (by rw [ent_len]; simp; omega)]
    · rw [List.drop_of_length_le (by rw [ent_len]; omega), List.drop_of_length_le h]; rfl
  rw [h1, h2]
  simp
theorem ent_del (es : List Ent) (q : Nat) (hq : q < es.length) : (es.flatMap Ent.cells).take (q * 2) ++ (es.flatMap Ent.cells).drop ((q + 1) * 2) = (es.take q ++ es.drop (q + 1)).flatMap Ent.cells := by
  have h1 := flat_take Ent.cells 2 (fun _ => rfl) es q
  have h2 : (es.flatMap Ent.cells).drop ((q + 1) * 2) = (es.drop (q + 1)).flatMap Ent.cells := by
    have e : es.flatMap Ent.cells = (es.take (q + 1)).flatMap Ent.cells ++ (es.drop (q + 1)).flatMap Ent.cells := by rw [← List.flatMap_append, List.take_append_drop]
    rw [e, List.drop_left' (by rw [ent_len]; simp; omega)]
  rw [h1, h2, List.flatMap_append]

/-- What a filter that is let in leaves. -/
theorem sub_done {w w2 wC wI : World} {eb : Nat} {F : Nat → Prop} {sch : List Int} {flt : List (Int × List Cd)} {id : Int} {l : List Cd} {q : Nat} {sb sc : Nat} {fa fa' : Option Addr} {fcap cap' : Nat} {es : List Ent}
    (hq : PosOf flt id q) (hF : F eb) (hes : es.map Ent.key = flt) (hrow : Row w eb 79 [.slice (some ⟨sb, 0, none⟩) sch.length sc, .slice fa es.length fcap]) (hFs : F sb ∧ sb < w.heap.size) (hsn : sb ≠ eb) (hI : Ints w sb 0 sch)
    (hO : OSl w 85 2 fa es.length fcap (es.flatMap Ent.cells)) (hFa : ∀ g, blkOf fa = some g → F g ∧ g ≠ eb ∧ g ≠ sb) (hEs : ∀ e ∈ es, EntOK w F (fun b => b = eb ∨ blkOf fa = some b) e)
    (hE2 : Ext w w2) (hEC : Ext w2 wC) (hrC : Row wC w2.heap.size 68 (l.flatMap Cd.cells)) {o : Obj} (hO' : OSl wI 85 2 fa' (es.length + 1) cap' ((es.flatMap Ent.cells).take (q * 2) ++ [.int .i64 id, .slice (some ⟨w2.heap.size, 0, none⟩) l.length l.length] ++ (es.flatMap Ent.cells).drop (q * 2)))
    (hkI : Kp (fun k => blkOf fa = some k) (wC.alloc o) wI) (hat : ∀ g, blkOf fa' = some g → blkOf fa = some g ∨ (wC.alloc o).heap.size ≤ g) :
    Kp F w (wI.setCell ⟨eb, 1, none⟩ (.slice fa' (es.length + 1) cap')) ∧ EngAt (wI.setCell ⟨eb, 1, none⟩ (.slice fa' (es.length + 1) cap')) eb (Grow F w (wI.setCell ⟨eb, 1, none⟩ (.slice fa' (es.length + 1) cap'))) sch (flt.take q ++ (id, l) :: flt.drop q) := by
  obtain ⟨wJ, hwJ⟩ : ∃ wJ, wJ = wC.alloc o := ⟨_, rfl⟩
  rw [← hwJ] at hkI hat
  have hEJ : Ext wC wJ := by rw [hwJ]; exact (Ext.refl _).alloc _
  have hzJ : wC.heap.size < wJ.heap.size := by rw [hwJ]; simp
  have hEw : Ext w wJ := (hE2.trans hEC).trans hEJ
  have z2 := hE2.le
  have zC := hEC.le
  have zI := hkI.size
  have hgl := hrC.lt
  have hel := hrow.lt
  have hfl : ∀ g, blkOf fa = some g → g < w.heap.size := fun g hg => hO.lt hg
  obtain ⟨w', hw'⟩ : ∃ w', w' = wI.setCell ⟨eb, 1, none⟩ (.slice fa' (es.length + 1) cap') := ⟨_, rfl⟩
  rw [← hw']
  have hks : Kp (fun b => b = eb) wI w' := by rw [hw']; exact (Kp.refl (fun b => b = eb) wI).setCell (fun _ => rfl) _
  have zs := hks.size
  have hK : Kp (fun b => b = eb ∨ blkOf fa = some b) w w' := ((hEw.kp _).trans (hkI.mono (fun _ _ h => Or.inr h))).trans (hks.mono (fun _ _ h => Or.inl h))
  have hKF : Kp F w w' := hK.mono (fun b _ h => by
    rcases h with rfl | h
    · exact hF
    · exact (hFa b h).1)
  have el : (es.take q ++ (⟨id, l, some ⟨w2.heap.size, 0, none⟩, l.length⟩ : Ent) :: es.drop q).length = es.length + 1 := by
    have h1 := hq.1
    rw [← hes] at h1
    simp at h1 ⊢; omega
  refine ⟨hKF, Or.inl hF, sb, sc, fa', cap', es.take q ++ ⟨id, l, some ⟨w2.heap.size, 0, none⟩, l.length⟩ :: es.drop q, ?_, ?_, ⟨Or.inl hFs.1, by have := hEw.le; have := hFs.2; omega⟩, hsn, ?_, ?_, ?_, ?_⟩
  · rw [← hes]; simp [Ent.key, List.map_take, List.map_drop]
  · rw [el, hw']
    exact (hkI.row (hrow.ext hEw) (fun h => (hFa eb h).2.1 rfl)).set 1 _
  · refine hI.kp hK ?_
    rintro (h | h)
    · exact hsn h
    · exact (hFa sb h).2.2 rfl
  · rw [el, ← ent_ins]
    refine OSl.kp hO' hks (fun g hg e => ?_)
    subst e
    rcases hat g hg with h | h
    · exact (hFa g h).2.1 rfl
    · have := hEw.le; omega
  · intro g hg
    have hgI := hO'.lt hg
    rcases hat g hg with h | h
    · exact ⟨Or.inl (hFa g h).1, (hFa g h).2⟩
    · have hsl : sb < w.heap.size := hFs.2
      have := hEw.le
      exact ⟨Or.inr ⟨by omega, by omega⟩, by omega, by omega⟩
  · have old : ∀ e ∈ es, EntOK w' (Grow F w w') (fun b => b = eb ∨ blkOf fa' = some b) e := fun e he => by
      have h1 : EntOK w F (fun b => b = eb ∨ blkOf fa = some b ∨ w.heap.size ≤ b) e := (hEs e he).mono (fun b hb hx hlt => ⟨hb, by
        rintro (h | h | h)
        · exact hx (Or.inl h)
        · exact hx (Or.inr h)
        · omega⟩)
      have h2 := h1.kp hK (fun b hb hx hm => hx (by
        rcases hm with h | h
        · exact Or.inl h
        · exact Or.inr (Or.inl h)))
      refine h2.mono (fun b hb hx _ => ⟨Or.inl hb, ?_⟩)
      rintro (h | h)
      · exact hx (Or.inl h)
      · rcases hat b h with h' | h'
        · exact hx (Or.inr (Or.inl h'))
        · exact hx (Or.inr (Or.inr (by have := hEw.le; omega)))
    intro e he
    rcases List.mem_append.1 he with h | h
    · exact old e (List.mem_of_mem_take h)
    · rcases List.mem_cons.1 h with rfl | h
      · intro hp
        have hrw : Row w' w2.heap.size 68 (l.flatMap Cd.cells) := by
          refine hks.row (hkI.row (hrC.ext hEJ) ?_) ?_
          · intro h; have := hfl _ h; omega
          · omega
        refine ⟨w2.heap.size, rfl, cds_row hrw, Or.inr ⟨by omega, hrw.lt⟩, ?_⟩
        rintro (h | h)
        · omega
        · rcases hat _ h with h' | h'
          · have := hfl _ h'; omega
          · omega
      · exact old e (List.mem_of_mem_drop h)

set_option maxHeartbeats 800000 in
set_option maxRecDepth 100000 in
theorem psub_any (eb : Nat) (F : Nat → Prop) (sch : List Int) (flt : List (Int × List Cd)) (id : Int) (ao : Option Addr) (cap : Nat) (l : List Cd) (w : World) (hs6 : sch.length ≤ 6) (hf : flt.length ≤ 100) (hS : SortedF flt) (_hl : l.length * 64 ≤ 140737488351232)
    (hE : EngAt w eb F sch flt) (hc : Cxs w ao l) (q k : Nat) (hq : PosOf flt id q) (hk : BadOf sch l k) :
    Calls Try.prog 11 #[.pointer (some ⟨eb, 0, none⟩), .int .i64 id, .slice ao l.length cap] w fun e w' => e = .returned (.tuple #[.int .i64 (subErr flt id l q k), .int .i64 (subPlace flt id l q k)]) ∧ Kp F w w' ∧ EngAt w' eb (Grow F w w') sch (subFlt flt id l q k) := by
  have hE0 := hE
  have grow : ∀ w', Ext w w' → Kp F w w' ∧ EngAt w' eb (Grow F w w') sch flt := fun w' hE => ⟨hE.kp _, (hE0.kp (hE.kp (fun _ => False)) (fun _ _ h => h)).mono (fun b hb => Or.inl hb)⟩
  have mk : ∀ c, c ≠ 0 → c ≠ 5 → subErr flt id l q k = c → ∀ w', Ext w w' → (Ending.returned (.tuple #[.int .i64 c, .int .i64 0]) = .returned (.tuple #[.int .i64 (subErr flt id l q k), .int .i64 (subPlace flt id l q k)]) ∧ Kp F w w' ∧ EngAt w' eb (Grow F w w') sch (subFlt flt id l q k)) := by
    intro c h0 h5 hc w' hE
    obtain ⟨g1, g2⟩ := grow w' hE
    have e1 : subFlt flt id l q k = flt := by simp [subFlt, hc, h0]
    have e2 : subPlace flt id l q k = 0 := by simp [subPlace, hc, h5]
    rw [e1, e2, hc]
    exact ⟨rfl, g1, g2⟩
  have mk5 : subErr flt id l q k = 5 → ∀ w', Ext w w' → (Ending.returned (.tuple #[.int .i64 5, .int .i64 k]) = .returned (.tuple #[.int .i64 (subErr flt id l q k), .int .i64 (subPlace flt id l q k)]) ∧ Kp F w w' ∧ EngAt w' eb (Grow F w w') sch (subFlt flt id l q k)) := by
    intro hc w' hE
    obtain ⟨g1, g2⟩ := grow w' hE
    have e1 : subFlt flt id l q k = flt := by simp [subFlt, hc]
    have e2 : subPlace flt id l q k = k := by simp [subPlace, hc]
    rw [e1, e2, hc]
    exact ⟨rfl, g1, g2⟩
  have hfind := find_any eb F sch flt id w hf hS hE0 q hq
  obtain ⟨hF, sb, sc, fa, fcap, es, hes, hrow, hFs, hsn, hI, hO, hFa, hEs⟩ := hE
  obtain ⟨hkl, hky⟩ := key_at hes
  have a0 := hrow.at (j := 0) rfl
  have a1 := hrow.at (j := 1) rfl
  have HM : Hid _ := mk
  have HM5 : Hid _ := mk5
  have HFi : Hid _ := hfind
  clear mk mk5 hfind grow
  by_cases hid : id < 0
  · clear HFi HM5 hO hEs
    go_enter Try.func11, Try.ntmps11
    go_wp2
    go_ret2
    exact HM.out 2 (by decide) (by decide) (by simp [subErr, hid]) w (Ext.refl _)
  cases hth : thereB flt id q with
  | true =>
    rw [hth] at HFi
    clear HM5 hO hEs
    go_enter Try.func11, Try.ntmps11
    go_wp2_with fail
    refine Calls.mono HFi.out ?_
    rintro e w1 ⟨rfl, hE1⟩
    go_wp2
    go_ret2
    exact HM.out 3 (by decide) (by decide) (by simp [subErr, hid, hth]) w1 hE1
  | false =>
    rw [hth] at HFi
    by_cases h8 : 8 < l.length
    · clear HM5 hO hEs
      go_enter Try.func11, Try.ntmps11
      go_wp2_with fail
      refine Calls.mono HFi.out ?_
      rintro e w1 ⟨rfl, hE1⟩
      go_wp2
      go_ret2
      exact HM.out 4 (by decide) (by decide) (by simp [subErr, hid, hth, h8]) w1 hE1
    have h8' : l.length ≤ 8 := by omega
    by_cases hkl' : k < l.length
    · have HB : Hid (∀ w', Ext w w' → Calls Try.prog 27 #[.slice (some ⟨sb, 0, none⟩) sch.length sc, .slice ao l.length cap] w' fun e w'' => e = .returned (.tuple #[.int .i64 k, .bool true]) ∧ Ext w' w'') := fun w' h => badCond_bad sb 0 sc sch ao cap l w' hs6 (hI.kp (h.kp (fun _ => False)) (fun h => h)) h8' (hc.ext h) k hkl' hk.2.1 (hk.2.2 hkl')
      clear hO hEs HM
      go_enter Try.func11, Try.ntmps11
      go_wp2_with fail
      refine Calls.mono HFi.out ?_
      rintro e w1 ⟨rfl, hE1⟩
      have b0 := hE1.cell a0
      go_wp2_with fail
      refine Calls.mono (HB.out w1 hE1) ?_
      rintro e w2 ⟨rfl, hE2⟩
      go_wp2
      go_ret2
      exact HM5.out (by simp [subErr, hid, hth, h8, hkl']) w2 (hE1.trans hE2)
    have hall : ∀ j (hj : j < l.length), mayB sch l[j] = true := fun j hj => hk.2.1 j hj (by have := hk.1; omega)
    have HB : Hid (∀ w', Ext w w' → Calls Try.prog 27 #[.slice (some ⟨sb, 0, none⟩) sch.length sc, .slice ao l.length cap] w' fun e w'' => e = .returned (.tuple #[.int .i64 0, .bool false]) ∧ Ext w' w'') := fun w' h => badCond_ok sb 0 sc sch ao cap l w' hs6 (hI.kp (h.kp (fun _ => False)) (fun h => h)) h8' (hc.ext h) hall
    by_cases h100 : 100 ≤ flt.length
    · have h100e : 100 ≤ es.length := by omega
      clear hO hEs HM5
      go_enter Try.func11, Try.ntmps11
      go_wp2_with fail
      refine Calls.mono HFi.out ?_
      rintro e w1 ⟨rfl, hE1⟩
      have b0 := hE1.cell a0
      go_wp2_with fail
      refine Calls.mono (HB.out w1 hE1) ?_
      rintro e w2 ⟨rfl, hE2⟩
      have hE12 := hE1.trans hE2
      have b1 := hE12.cell a1
      go_wp2
      go_ret2
      exact HM.out 6 (by decide) (by decide) (by simp [subErr, hid, hth, h8, hkl', h100]) w2 hE12
    have hse : subErr flt id l q k = 0 := by simp [subErr, hid, hth, h8, hkl', h100]
    have HCp : Hid (∀ w', Ext w w' → Calls Try.prog 29 #[.slice ao l.length cap] w' fun e w'' => e = .returned (.slice (some ⟨w'.heap.size, 0, none⟩) l.length l.length) ∧ Row w'' w'.heap.size 68 (l.flatMap Cd.cells) ∧ Ext w' w'') := fun w' h => copy_any ao cap l w' h8' (hc.ext h) (fun j hj => may_small (hall j hj))
    have hqe : q ≤ es.length := by have := hq.1; omega
    have hfl : ∀ g, blkOf fa = some g → g < w.heap.size := fun g hg => hO.lt hg
    have hne1 : ∀ g, blkOf fa = some g → g ≠ eb := fun g hg => (hFa g hg).2.1
    have HIn : Hid (∀ (w2 wC : World) (o : Obj), Ext w w2 → Ext w2 wC → o = .cells #[.int .i64 id, .slice (some ⟨w2.heap.size, 0, none⟩) l.length l.length] 85 → Calls Try.prog 28 #[.slice fa es.length fcap, .int .i64 q, .slice (some ⟨wC.heap.size, 0, none⟩) 1 1] (wC.alloc o) fun e w' => InsPost (wC.alloc o) w' fa es.length ((es.flatMap Ent.cells).take (q * 2) ++ [.int .i64 id, .slice (some ⟨w2.heap.size, 0, none⟩) l.length l.length] ++ (es.flatMap Ent.cells).drop (q * 2)) e) := fun w2 wC o h2 hC ho => by
      subst ho
      exact insert_any fa es.length fcap q _ wC.heap.size _ _ _ (hO.ext ((h2.trans hC).trans ((Ext.refl _).alloc _))) hqe (by omega) (row_alloc _ _ _ _ _ rfl rfl) (fun h => by have h1 := hfl _ h; have h3 := (h2.trans hC).le; omega) rfl rfl (ent_one es)
    have HD : Hid (∀ (w2 wC wI : World) (o : Obj) (fa' : Option Addr) (cap' : Nat), Ext w w2 → Ext w2 wC → Row wC w2.heap.size 68 (l.flatMap Cd.cells) → OSl wI 85 2 fa' (es.length + 1) cap' ((es.flatMap Ent.cells).take (q * 2) ++ [.int .i64 id, .slice (some ⟨w2.heap.size, 0, none⟩) l.length l.length] ++ (es.flatMap Ent.cells).drop (q * 2)) → Kp (fun k => blkOf fa = some k) (wC.alloc o) wI → (∀ g, blkOf fa' = some g → blkOf fa = some g ∨ (wC.alloc o).heap.size ≤ g) → Ending.returned (.tuple #[.int .i64 0, .int .i64 0]) = .returned (.tuple #[.int .i64 (subErr flt id l q k), .int .i64 (subPlace flt id l q k)]) ∧ Kp F w (wI.setCell ⟨eb, 1, none⟩ (.slice fa' (es.length + 1) cap')) ∧ EngAt (wI.setCell ⟨eb, 1, none⟩ (.slice fa' (es.length + 1) cap')) eb (Grow F w (wI.setCell ⟨eb, 1, none⟩ (.slice fa' (es.length + 1) cap'))) sch (subFlt flt id l q k)) := fun w2 wC wI o fa' cap' h1 h2 h3 h4 h5 h6 => by
      have e1 : subFlt flt id l q k = flt.take q ++ (id, l) :: flt.drop q := by simp [subFlt, hse]
      have e2 : subPlace flt id l q k = 0 := by simp [subPlace, hse]
      rw [e1, e2, hse]
      exact ⟨rfl, sub_done hq hF hes hrow hFs hsn hI hO hFa hEs h1 h2 h3 h4 h5 h6⟩
    have hlen100 : es.length < 100 := by omega
    have HR : Hid (Row w eb 79 [.slice (some ⟨sb, 0, none⟩) sch.length sc, .slice fa es.length fcap]) := hrow
    clear hO hEs HM5 HM hI hrow hc hall
    go_enter Try.func11, Try.ntmps11
    go_wp2_with fail
    refine Calls.mono HFi.out ?_
    rintro e w1 ⟨rfl, hE1⟩
    have b0 := hE1.cell a0
    go_wp2_with fail
    refine Calls.mono (HB.out w1 hE1) ?_
    rintro e w2 ⟨rfl, hE2⟩
    have hE12 := hE1.trans hE2
    have b1 := hE12.cell a1
    clear HB HFi b0 a0 a1 hE1 hE2
    go_wp2_with fail
    have hEd : Ext w w2.drew := hE12.drew
    go_region_with (first
      | (go_at_call 29; refine Calls.mono (HCp.out w2.drew hEd) ?_; rintro e wC ⟨rfl, hrC, hEC⟩; have cC : wC.cell? ⟨eb, 1, none⟩ = some (.slice fa es.length fcap) := hEC.cell b1; have nC := World.new_ne wC _ cC; have cA : ∀ o : Obj, (wC.alloc o).cell? ⟨eb, 1, none⟩ = some (.slice fa es.length fcap) := fun o => ((Ext.refl wC).alloc o).cell cC)
      | (go_at_call 28; refine Calls.mono (HIn.out w2.drew wC _ hEd hEC rfl) ?_; rintro e wI ⟨fa', cap', rfl, hO', hkI, hat⟩; have rI := hkI.row (((HR.out.ext hEd).ext hEC).ext ((Ext.refl _).alloc _)) (fun h => hne1 _ h rfl); have cI := rI.at (j := 1) rfl; have fI := rI.frozen))
    all_goals go_wp2
    all_goals go_ret2
    all_goals exact HD.out w2.drew wC wI _ fa' cap' hEd hEC hrC hO' hkI hat
end Go.Proofs.Ytepioeaomlmocaa
