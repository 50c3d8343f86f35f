import Derived.Test.YtepioeaomlmocaaPSub
namespace Go.Proofs.Ytepioeaomlmocaa
open Go.RowKit

set_option maxHeartbeats 800000 in
theorem pun_any (eb : Nat) (F : Nat → Prop) (sch : List Int) (flt : List (Int × List Cd)) (id : Int) (w : World) (hf : flt.length ≤ 100) (hS : SortedF flt) (hE : EngAt w eb F sch flt) (q : Nat) (hq : PosOf flt id q) :
    Calls Try.prog 46 #[.pointer (some ⟨eb, 0, none⟩), .int .i64 id] w fun e w' => e = .returned (.int .i64 (unErr flt id q)) ∧ Kp F w w' ∧ EngAt w' eb (Grow F w w') sch (unFlt flt id q) := by
  have hE0 := hE
  have hfind := find_any eb F sch flt id w hf hS hE0 q hq
  cases hth : thereB flt id q with
  | false =>
    have e1 : unErr flt id q = 7 := by simp [unErr, hth]
    have e2 : unFlt flt id q = flt := by simp [unFlt, hth]
    rw [e1, e2]
    rw [hth] at hfind
    have HFi : Hid _ := hfind
    clear hfind
    go_enter Try.func46, Try.ntmps46
    go_wp2_with fail
    refine Calls.mono HFi.out ?_
    rintro e w1 ⟨rfl, hE1⟩
    go_wp2
    go_ret
    exact ⟨rfl, hE1.kp _, (hE0.kp (hE1.kp (fun _ => False)) (fun _ _ h => h)).mono (fun b hb => Or.inl hb)⟩
  | true =>
    obtain ⟨hqf, hid⟩ := there_iff.1 hth
    have e1 : unErr flt id q = 0 := by simp [unErr, hth]
    have e2 : unFlt flt id q = flt.take q ++ flt.drop (q + 1) := by simp [unFlt, hth]
    rw [e1, e2]
    rw [hth] at hfind
    have HFi : Hid _ := hfind
    obtain ⟨hF, sb, sc, fa, fcap, es, hes, hrow, hFs, hsn, hI, hO, hFa, hEs⟩ := hE
    obtain ⟨hkl, hky⟩ := key_at hes
    obtain ⟨k, hk⟩ : ∃ k, es.length = k + 1 := ⟨es.length - 1, by omega⟩
    obtain ⟨g, L, rfl, hR, hnc, hm, hL, hx⟩ := row_of_osl hO (by omega)
    have hg := hFa g rfl
    have hgl := hR.lt
    rw [hk] at hx hnc
    have a1 := hrow.at (j := 1) rfl
    rw [hk] at a1
    have HDl : Hid (∀ w', Ext w w' → Calls Try.prog 65 #[.slice (some ⟨g, 0, none⟩) (k + 1) fcap, .int .i64 q, .int .i64 ((q : Int) + 1)] w' fun e w'' => e = .returned (.slice (some ⟨g, 0, none⟩) k fcap) ∧ OSl w'' 85 2 (some ⟨g, 0, none⟩) k fcap ((es.flatMap Ent.cells).take (q * 2) ++ (es.flatMap Ent.cells).drop ((q + 1) * 2)) ∧ Kp (fun k => k = g) w' w'') := fun w' h => delete_any g k fcap q L _ w' (hR.ext h) hL hm hnc hx (by omega) (by omega) (ent_one es)
    have HR : Hid (Row w eb 79 [.slice (some ⟨sb, 0, none⟩) sch.length sc, .slice (some ⟨g, 0, none⟩) es.length fcap]) := hrow
    have hqk : q ≤ k := by omega
    have hk99 : k ≤ 99 := by omega
    have HD : Hid (∀ w1 w2, Ext w w1 → OSl w2 85 2 (some ⟨g, 0, none⟩) k fcap ((es.flatMap Ent.cells).take (q * 2) ++ (es.flatMap Ent.cells).drop ((q + 1) * 2)) → Kp (fun k => k = g) w1 w2 → Kp F w (w2.setCell ⟨eb, 1, none⟩ (.slice (some ⟨g, 0, none⟩) k fcap)) ∧ EngAt (w2.setCell ⟨eb, 1, none⟩ (.slice (some ⟨g, 0, none⟩) k fcap)) eb (Grow F w (w2.setCell ⟨eb, 1, none⟩ (.slice (some ⟨g, 0, none⟩) k fcap))) sch (flt.take q ++ flt.drop (q + 1))) := fun w1 w2 h1 h2 h3 => by
      obtain ⟨w', hw'⟩ : ∃ w', w' = w2.setCell ⟨eb, 1, none⟩ (.slice (some ⟨g, 0, none⟩) k fcap) := ⟨_, rfl⟩
      rw [← hw']
      have hks : Kp (fun b => b = eb) w2 w' := by rw [hw']; exact (Kp.refl (fun b => b = eb) w2).setCell (fun _ => rfl) _
      have hK : Kp (fun b => b = eb ∨ blkOf (some ⟨g, 0, none⟩) = some b) w w' := ((h1.kp _).trans (h3.mono (fun b _ h => Or.inr (by rw [h]; rfl)))).trans (hks.mono (fun _ _ h => Or.inl h))
      have hKF : Kp F w w' := hK.mono (fun b _ h => by
        rcases h with rfl | h
        · exact hF
        · exact (hFa b h).1)
      have el : (es.take q ++ es.drop (q + 1)).length = k := by simp; omega
      refine ⟨hKF, Or.inl hF, sb, sc, some ⟨g, 0, none⟩, fcap, es.take q ++ es.drop (q + 1), ?_, ?_, ⟨Or.inl hFs.1, Nat.lt_of_lt_of_le hFs.2 hK.size⟩, hsn, ?_, ?_, ?_, ?_⟩
      · rw [← hes]; simp [List.map_take, List.map_drop]
      · rw [el, hw']
        exact (h3.row (HR.out.ext h1) (fun h => hg.2.1 h.symm)).set 1 _
      · refine hI.kp hK ?_
        rintro (h | h)
        · exact hsn h
        · exact (hFa sb h).2.2 rfl
      · rw [el, ← ent_del es q (by omega)]
        exact OSl.kp h2 hks (fun g' hg' e => by cases hg'; exact hg.2.1 e)
      · intro g' hg'
        exact ⟨Or.inl (hFa g' hg').1, (hFa g' hg').2⟩
      · have old : ∀ e ∈ es, EntOK w' (Grow F w w') (fun b => b = eb ∨ blkOf (some ⟨g, 0, none⟩) = some b) e := fun e he => ((hEs e he).kp hK (fun b _ hx => hx)).mono (fun b hb hx _ => ⟨Or.inl hb, hx⟩)
        intro e he
        rcases List.mem_append.1 he with h | h
        · exact old e (List.mem_of_mem_take h)
        · exact old e (List.mem_of_mem_drop h)
    have hne : ¬ eb = g := fun h => hg.2.1 h.symm
    clear hfind hO hEs hI hrow hR hx hL hm hFa
    go_enter Try.func46, Try.ntmps46
    go_wp2_with fail
    refine Calls.mono HFi.out ?_
    rintro e w1 ⟨rfl, hE1⟩
    have b1 := hE1.cell a1
    go_wp2_with fail
    refine Calls.mono (HDl.out w1 hE1) ?_
    rintro e w2 ⟨rfl, hO2, hk2⟩
    have r2 := hk2.row (HR.out.ext hE1) hne
    have c2 := r2.at (j := 1) rfl
    have f2 := r2.frozen
    go_wp2
    go_ret
    exact ⟨rfl, HD.out w1 w2 hE1 hO2 hk2⟩
end Go.Proofs.Ytepioeaomlmocaa
