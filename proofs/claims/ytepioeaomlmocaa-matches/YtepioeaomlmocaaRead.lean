import Derived.Test.YtepioeaomlmocaaPEv
import Derived.Test.YtepioeaomlmocaaRowLaws
import Derived.Test.YtepioeaomlmocaaREv
namespace Go.Proofs.Ytepioeaomlmocaa
open Go.RowKit

theorem ev_upd (f g : Int → Option Vl) (a : Nat) (v : Vl) (h : a < 6) (h1 : g a = some v) (h2 : ∀ x : Int, x ≠ a → g x = f x) :
    (((evCells f).set a (.bool true)).set (6 + a * 2) (.int .i64 v.n)).set (6 + a * 2 + 1) (.string v.s) = evCells g := by
  rcases (show a = 0 ∨ a = 1 ∨ a = 2 ∨ a = 3 ∨ a = 4 ∨ a = 5 by omega) with rfl | rfl | rfl | rfl | rfl | rfl
  · have e1 := h2 1 (by decide); have e2 := h2 2 (by decide); have e3 := h2 3 (by decide); have e4 := h2 4 (by decide); have e5 := h2 5 (by decide)
    have e0 : g 0 = some v := h1
    simp [evCells, e0, e1, e2, e3, e4, e5]
  · have e1 := h2 0 (by decide); have e2 := h2 2 (by decide); have e3 := h2 3 (by decide); have e4 := h2 4 (by decide); have e5 := h2 5 (by decide)
    have e0 : g 1 = some v := h1
    simp [evCells, e0, e1, e2, e3, e4, e5]
  · have e1 := h2 0 (by decide); have e2 := h2 1 (by decide); have e3 := h2 3 (by decide); have e4 := h2 4 (by decide); have e5 := h2 5 (by decide)
    have e0 : g 2 = some v := h1
    simp [evCells, e0, e1, e2, e3, e4, e5]
  · have e1 := h2 0 (by decide); have e2 := h2 1 (by decide); have e3 := h2 2 (by decide); have e4 := h2 4 (by decide); have e5 := h2 5 (by decide)
    have e0 : g 3 = some v := h1
    simp [evCells, e0, e1, e2, e3, e4, e5]
  · have e1 := h2 0 (by decide); have e2 := h2 1 (by decide); have e3 := h2 2 (by decide); have e4 := h2 3 (by decide); have e5 := h2 5 (by decide)
    have e0 : g 4 = some v := h1
    simp [evCells, e0, e1, e2, e3, e4, e5]
  · have e1 := h2 0 (by decide); have e2 := h2 1 (by decide); have e3 := h2 2 (by decide); have e4 := h2 3 (by decide); have e5 := h2 4 (by decide)
    have e0 : g 5 = some v := h1
    simp [evCells, e0, e1, e2, e3, e4, e5]
theorem fo_in (l : List Fd) (k : Nat) (hk : k < l.length) (h : (fo (l.take k) l[k].attr).isNone = true) : fo (l.take (k + 1)) l[k].attr = some l[k].v := by
  rw [fo_succ l k _ hk, Option.isNone_iff_eq_none.1 h]; simp
theorem fo_other (l : List Fd) (k : Nat) (hk : k < l.length) (x : Int) (h : x ≠ l[k].attr) : fo (l.take (k + 1)) x = fo (l.take k) x := by
  rw [fo_succ l k _ hk, if_neg (by simpa using fun e => h e.symm)]; simp

theorem Try.infoEv : (Try.prog.info? 121).map (·.size) = some 18 := by kernel_rfl
theorem evCells_one (f : Int → Option Vl) : ∀ v ∈ evCells f, v.oneCell' = true := by
  intro v hv
  simp only [evCells, List.mem_cons, List.not_mem_nil, or_false] at hv
  rcases hv with rfl | rfl | rfl | rfl | rfl | rfl | rfl | rfl | rfl | rfl | rfl | rfl | rfl | rfl | rfl | rfl | rfl | rfl <;> rfl
theorem row_alloc (w : World) (b : Nat) (T : TypeId) (l : List Value) (cs : Array Value) (hb : b = w.heap.size) (hc : cs = l.toArray) : Row (w.alloc (.cells cs T)) b T l := by
  subst hb; subst hc; exact heap_alloc_new w _
def zCells : List Value := evCells (fun _ => none)

theorem fits_is (k : Int) (v : Vl) (w : World) (r : Bool) (hr : fitsB k v = r) :
    Calls Try.prog 83 #[.int .i64 k, .agg #[.int .i64 v.n, .string v.s]] w fun e w' => e = .returned (.bool r) ∧ Ext w w' := by
  subst hr; exact fits_any k v.n v.s w

set_option maxHeartbeats 3200000 in
set_option maxRecDepth 100000 in
theorem readEvent_any (b o cap : Nat) (sch : List Int) (ao : Option Addr) (lcap : Nat) (l : List Fd) (w : World) (hn : sch.length ≤ 6) (_hl : l.length * 32 ≤ 140737488351232) (hs : Ints w b o sch) (hf : Fxs w ao l)
    (q : Nat) (hq : FirstBad sch l q) :
    Calls Try.prog 61 #[.slice (some ⟨b, o, none⟩) sch.length cap, .slice ao l.length lcap] w fun e w' => (e = if q < l.length then .returned (.tuple #[.agg zCells.toArray, .int .i64 q, .bool false]) else .returned (.tuple #[.agg (evCells (fo l)).toArray, .int .i64 0, .bool true])) ∧ Ext w w' := by
  obtain ⟨hql, hqa, hqb⟩ := hq
  have HQ : Hid ((∀ j (hj : j < l.length), j < q → fieldOK sch (l.take j) l[j] = true) ∧ ∀ hq : q < l.length, fieldOK sch (l.take q) l[q] = false) := ⟨hqa, hqb⟩
  clear hqa hqb
  generalize hre : (if q < l.length then Ending.returned (.tuple #[.agg zCells.toArray, .int .i64 q, .bool false]) else .returned (.tuple #[.agg (evCells (fo l)).toArray, .int .i64 0, .bool true])) = re
  have HRE : Hid ((if q < l.length then Ending.returned (.tuple #[.agg zCells.toArray, .int .i64 q, .bool false]) else .returned (.tuple #[.agg (evCells (fo l)).toArray, .int .i64 0, .bool true])) = re) := hre
  clear hre
  go_enter Try.func61, Try.ntmps61
  go_wp2
  go_loopw [12] (fun i wr => ∃ k : Nat, k ≤ q ∧ i = .int .i64 k ∧ Ext w wr ∧ Row wr w.heap.size 121 zCells ∧ Row wr (w.heap.size + 1) 121 (evCells (fo (l.take k)))) (fun i _ => l.length - (intOf i).toNat)
  case atStart => exact ⟨0, Nat.zero_le _, rfl, ((Ext.refl _).alloc _).alloc _, Row.ext (row_alloc _ _ _ _ _ rfl rfl) ((Ext.refl _).alloc _), row_alloc _ _ _ _ _ (by simp) rfl⟩
  case round =>
    obtain ⟨k, hk, rfl, hE, hA, hB⟩ := hrel
    by_cases hlt : k < l.length
    · obtain ⟨fb, fo', rfl, hF⟩ := hf (by omega)
      obtain ⟨c0, c1, c2⟩ := hF.ext hE k hlt
      have hSS := hs.ext hE
      have hOK : Hid ((k < q → fieldOK sch (l.take k) l[k] = true) ∧ (k = q → fieldOK sch (l.take k) l[k] = false)) := ⟨fun h => HQ.out.1 k hlt h, fun h => by subst h; exact HQ.out.2 hlt⟩
      have hbadE : Hid (k = q → Ending.returned (.tuple #[.agg zCells.toArray, .int .i64 k, .bool false]) = re) := fun h => by
        subst h; rw [← HRE.out, if_pos hlt]
      have hin : Hid ((fo (l.take k) l[k].attr).isNone = true → fo (l.take (k + 1)) l[k].attr = some l[k].v) := fo_in l k hlt
      have hot : Hid (∀ x : Int, x ≠ l[k].attr → fo (l.take (k + 1)) x = fo (l.take k) x) := fo_other l k hlt
      clear hF hs HQ hf HRE
      generalize hfd : l[k] = fd at *
      have HFD : Hid (l[k] = fd) := hfd
      clear hfd
      obtain ⟨at_, fv⟩ := fd
      simp only at c0 c1 c2
      generalize hpf : fo (l.take k) = pf at *
      generalize hpg : fo (l.take (k + 1)) = pg at *
      have HPF : Hid (fo (l.take k) = pf) := hpf
      have HPG : Hid (fo (l.take (k + 1)) = pg) := hpg
      clear hpf hpg
      by_cases ha : 0 ≤ at_ ∧ at_ < sch.length
      · obtain ⟨ha0, ha1⟩ := ha
        obtain ⟨a, rfl⟩ := Int.eq_ofNat_of_zero_le ha0
        have hal : a < sch.length := by omega
        have ha6 : a < 6 := by omega
        have hc := hSS a hal
        generalize hT : sch.getD a 0 = T at hc
        have HT : Hid (sch.getD a 0 = T) := hT
        clear hT hSS
        have g0 := hB.at (ev_has pf a ha6)
        have g1 := hB.at (ev_n pf a ha6)
        have g2 := hB.at (ev_s pf a ha6)
        have hal0 : ∀ ob, Ext wr (wr.alloc ob) := fun ob => (Ext.refl wr).alloc ob
        have g0a : ∀ ob, (wr.alloc ob).cell? ⟨w.heap.size + 1, a, none⟩ = _ := fun ob => (hal0 ob).cell g0
        have hca : ∀ ob, (wr.alloc ob).cell? ⟨b, o + a, none⟩ = _ := fun ob => (hal0 ob).cell hc
        have hi1 : (a : Int) < sch.length := by omega
        have hi6 : (a : Int) < 6 := by omega
        have hszA := hA.lt
        have hszB := hB.lt
        clear g0 hc
        cases hsome : pf (a : Int) with
        | some v0 =>
          have hkq : k = q := by
            rcases Nat.lt_or_ge k q with h | h
            · have h1 := hOK.out.1 h
              rw [fieldOK_in sch _ a fv T (fitsB T fv) hal HT.out rfl, HPF.out, hsome] at h1
              simp at h1
            · omega
          have HB2 : Hid _ := hbadE.out hkq
          rw [hsome] at g0a
          simp only [Option.isSome_some] at g0a
          clear hkq hsome g1 g2
          go_wp2_with fail
          go_quiet ((go_at_call 76; exact Calls.quiet_of_same (hasAttr_yes _ _ _ _ _ (by omega) (by omega) (by omega))))
          have hE1 : Ext w _ := (hE.alloc (.cells #[.int .i64 a, .int .i64 fv.n, .string fv.s] 71)).trans (drewN_ext _ nq)
          have hA1 := hA.ext ((hal0 (.cells #[.int .i64 a, .int .i64 fv.n, .string fv.s] 71)).trans (drewN_ext _ nq))
          clear hA hE
          go_wp2_with (first
            | (refine wpList_store_row rfl 121 _ _ rfl w.heap.size zCells zCells rfl rfl 121 hA1 rfl Try.infoEv (evCells_one _) ?_; intro w2 hA2 hk2; clear hA1))
          refine bodyPost_ret (results_cell2 (u := 5) (v := 6) Try.results61 _ _ _ zCells _ _ hA2 Try.underlying121 rfl Try.infoEv rfl) rfl ⟨HB2.out, ?_⟩
          exact hE1.kpFresh hk2 (Nat.le_refl _)
        | none =>
          rw [hsome] at g0a
          simp only [Option.isSome_none] at g0a
          have hsomeH : Hid (pf (a : Int) = none) := hsome
          clear hsome
          generalize hB' : fitsB T fv = B
          have HB : Hid (fitsB T fv = B) := hB'
          clear hB'
          have hfin : Hid (fieldOK sch (l.take k) ⟨(a : Int), fv⟩ = B) := by
            show _ = _
            rw [fieldOK_in sch _ a fv T B hal HT.out HB.out, HPF.out, hsomeH.out]; simp
          go_wp2_with fail
          go_region_held3 (fun w' => w'.cell? ⟨wr.heap.size, 0, none⟩ = some (.int .i64 a) ∧ w'.cell? ⟨wr.heap.size, 1, none⟩ = some (.int .i64 fv.n) ∧ w'.cell? ⟨wr.heap.size, 2, none⟩ = some (.string fv.s) ∧ w'.cell? ⟨w.heap.size + 1, a, none⟩ = some (.bool false) ∧ w'.cell? ⟨b, o + a, none⟩ = some (.int .i64 T)) (first | go_keep | exact ⟨hbb.cell (by exact cell_new _ _ _ _ _ rfl rfl), hbb.cell (by exact cell_new _ _ _ _ _ rfl rfl), hbb.cell (by exact cell_new _ _ _ _ _ rfl rfl), hbb.cell (by exact g0a _), hbb.cell (by exact hca _)⟩)
            (first | (go_at_call 76; refine (hasAttr_yes _ _ _ _ _ (by omega) (by omega) (by omega)).mono ?_; rintro e w' ⟨rfl, rfl⟩) | (go_at_call 83; refine (fits_is T fv _ B HB.out).mono ?_; rintro e w' ⟨rfl, hbb⟩))
          have hEw : Ext wr w' := (((hal0 _).trans (drewN_ext _ _))).trans hbb
          have hE1 := hE.trans hEw
          have hA1 := hA.ext hEw
          have hB1 := hB.ext hEw
          have f0 : w'.cell? ⟨wr.heap.size, 0, none⟩ = some (.int .i64 a) := hbb.cell (by exact cell_new _ _ _ _ _ rfl rfl)
          have f1 : w'.cell? ⟨wr.heap.size, 1, none⟩ = some (.int .i64 fv.n) := hbb.cell (by exact cell_new _ _ _ _ _ rfl rfl)
          have f2 : w'.cell? ⟨wr.heap.size, 2, none⟩ = some (.string fv.s) := hbb.cell (by exact cell_new _ _ _ _ _ rfl rfl)
          have e0 := hB1.at (ev_has pf a ha6)
          have e1 := hB1.at (ev_n pf a ha6)
          have e2 := hB1.at (ev_s pf a ha6)
          have efz := hB1.frozen
          have hne : wr.heap.size ≠ w.heap.size + 1 := by omega
          clear hA hB hE hbb hEw g0a hca g1 g2 hal0 c0 c1 c2
          cases B with
          | false =>
            have hkq : k = q := by
              rcases Nat.lt_or_ge k q with h | h
              · have h1 := hOK.out.1 h
                rw [hfin.out] at h1; cases h1
              · omega
            have HB2 : Hid _ := hbadE.out hkq
            clear hkq
            go_wp2_with (first
              | (refine wpList_store_row rfl 121 _ _ rfl w.heap.size zCells zCells rfl rfl 121 hA1 rfl Try.infoEv (evCells_one _) ?_; intro w2 hA2 hk2; clear hA1))
            refine bodyPost_ret (results_cell2 (u := 5) (v := 6) Try.results61 _ _ _ zCells _ _ hA2 Try.underlying121 rfl Try.infoEv rfl) rfl ⟨HB2.out, ?_⟩
            exact hE1.kpFresh hk2 (Nat.le_refl _)
          | true =>
            have hkq : k < q := by
              rcases Nat.lt_or_ge k q with h | h
              · exact h
              · have h1 := hOK.out.2 (by omega)
                rw [hfin.out] at h1; cases h1
            go_wp2
            go_roundw
            case rel =>
              refine ⟨k + 1, by omega, by go_num, ((hE1.setCell (by simp) _).setCell (by simp) _).setCell (by simp) _, ((hA1.setOther (by simp) _).setOther (by simp) _).setOther (by simp) _, ?_⟩
              rw [HPG.out, ← ev_upd pf pg a fv ha6 (hin.out (by rw [hsomeH.out]; rfl)) (fun x hx => hot.out x hx)]
              exact (((hB1.set _ _).set _ _).set _ _)
            case measure => simp [intOf]; omega
      · have hfin := fieldOK_out sch (l.take k) at_ fv ha
        have hkq : k = q := by
          rcases Nat.lt_or_ge k q with h | h
          · have h1 := hOK.out.1 h
            rw [hfin] at h1; cases h1
          · omega
        have HB2 : Hid _ := hbadE.out hkq
        clear hkq hfin hSS
        go_wp2_with fail
        go_quiet ((go_at_call 76; exact Calls.quiet_of_same (hasAttr_no _ _ _ _ _ (by omega) ha)))
        have hE1 : Ext w _ := (hE.alloc (.cells #[.int .i64 at_, .int .i64 fv.n, .string fv.s] 71)).trans (drewN_ext _ nq)
        have hA1 := hA.ext (((Ext.refl wr).alloc (.cells #[.int .i64 at_, .int .i64 fv.n, .string fv.s] 71)).trans (drewN_ext _ nq))
        clear hA hE
        go_wp2_with (first
          | (refine wpList_store_row rfl 121 _ _ rfl w.heap.size zCells zCells rfl rfl 121 hA1 rfl Try.infoEv (evCells_one _) ?_; intro w2 hA2 hk2; clear hA1))
        refine bodyPost_ret (results_cell2 (u := 5) (v := 6) Try.results61 _ _ _ zCells _ _ hA2 Try.underlying121 rfl Try.infoEv rfl) rfl ⟨HB2.out, ?_⟩
        exact hE1.kpFresh hk2 (Nat.le_refl _)
    · obtain rfl : k = q := by omega
      rw [List.take_of_length_le (by omega)] at hB
      have HR2 : Hid (Ending.returned (.tuple #[.agg (evCells (fo l)).toArray, .int .i64 0, .bool true]) = re) := by
        show _ = _
        rw [← HRE.out, if_neg hlt]
      generalize hgf : evCells (fo l) = EC at *
      have HL : Hid (EC.length = 18) := by show _ = _; rw [← hgf]; rfl
      have HO : Hid (∀ v ∈ EC, v.oneCell' = true) := by show ∀ v ∈ EC, _; rw [← hgf]; exact evCells_one _
      clear hgf HRE hf hs
      go_wp2_with (first
        | (refine wpList_load_row rfl 121 _ rfl (w.heap.size + 1) rfl EC _ 121 hB Try.underlying121 rfl (by rw [HL.out]; exact Try.infoEv) ?_; clear hB)
        | (refine wpList_store_row rfl 121 _ _ rfl w.heap.size EC zCells rfl rfl 121 hA (by rw [HL.out]; rfl) (by rw [HL.out]; exact Try.infoEv) HO.out ?_; intro w2 hA2 hk2; clear hA))
      refine bodyPost_ret (results_cell2 (u := 5) (v := 6) Try.results61 _ _ _ EC _ _ hA2 Try.underlying121 rfl (by rw [HL.out]; exact Try.infoEv) rfl) rfl ⟨HR2.out, ?_⟩
      exact hE.kpFresh hk2 (Nat.le_refl _)
end Go.Proofs.Ytepioeaomlmocaa
