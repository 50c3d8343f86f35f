import Derived.Test.YtpbblaeamddbgaaGreatGL
import Derived.Test.YtpbblaeamddbgaaGreatGI
namespace Go.Proofs.YtpbblaeamddbgaaGreat
open Go.RowKit

theorem Tryz.infoOw : (Tryz.prog.info? 193).map (fun i => (i.zero, i.size, i.bytes)) = some (some (.agg #[.int .i64 0, .int .i64 0]), 2, 16) := by kernel_rfl
theorem ow_new (w : World) (T : TypeId) (o : Int × Int) : ∀ j u, (owCells o)[j]? = some u → (w.alloc (.cells #[.int .i64 o.1, .int .i64 o.2] T)).cell? ((⟨w.heap.size, 0, none⟩ : Addr).add j) = some u :=
  src_row (row_alloc _ _ _ _ _ rfl rfl)
section
variable {w : World} {own : Nat → ITag} {eb : Nat} {pre : List Value} {ev : Value} {fl : List Int} {fa : Option Addr} {fcap : Nat} {Sh : Nat → ShR} {K0 : List (Int × Int × List Cd)}
set_option maxHeartbeats 3200000 in
set_option maxRecDepth 100000 in
theorem add_some (S : IxSt w own eb pre ev fl fa fcap Sh K0) (hp : pre.length = 4) (h8 : ∀ k ∈ K0, k.2.2.length ≤ 8) (hK0 : K0.length < 100) (id : Int) (hid : ∀ k ∈ K0, k.1 ≠ id) (l : List Cd) (ao : Option Addr) (cap : Nat) (hl : l.length ≤ 8) (hn : l.Nodup) (hc : Cxs w ao l) (hao : ∀ g, blkOf ao = some g → own g = .no ∧ g ≠ eb) (hk : ∀ c ∈ l, 0 ≤ c.attr ∧ c.attr < 6 ∧ 0 ≤ c.kind ∧ c.kind < 10) (hl0 : l.length ≠ 0) :
    Calls Tryz.prog 51 #[.pointer (some ⟨eb, 4, none⟩), .agg #[.int .i64 id, .slice ao l.length cap]] w fun e w' => e = .returned (.tuple #[]) ∧ ∃ own' fa' fcap' Sh', IxSt w' own' eb pre ev fl fa' fcap' Sh' (K0 ++ [(id, (l.length : Int), l)]) ∧ (∀ b, b < w.heap.size → own' b = own b) ∧ Kp (fun b => b = eb ∨ own b ≠ .no) w w' := by
  obtain ⟨wa, hwa⟩ : ∃ wa, wa = w.alloc (.cells #[.int .i64 id, .slice ao l.length cap] 130) := ⟨_, rfl⟩
  have hEa : Ext w wa := by rw [hwa]; exact (Ext.refl _).alloc _
  have hBx : Row wa w.heap.size 130 [.int .i64 id, .slice ao l.length cap] := by rw [hwa]; exact row_alloc _ _ _ _ _ rfl rfl
  have hsz : wa.heap.size = w.heap.size + 1 := by rw [hwa]; simp
  have x0 := hBx.at (j := 0) rfl
  have x1 := hBx.at (j := 1) rfl
  have hno : own w.heap.size = .no := S.at_.tn _ (Nat.le_refl _)
  have hebl := S.row.lt
  · have hz : ((l.length : Int) == 0) = false := by simpa using hl0
    go_enter Tryz.func51, Tryz.ntmps51
    go_wp2_with fail
    rw [← hwa]
    go_loopw [28] (fun vi wr => ∃ (j : Nat), j ≤ l.length ∧ vi = .int .i64 j ∧ AddSt w own eb pre ev fl fa fcap K0 id l [.int .i64 id, .slice ao l.length cap] j wr) (fun vi _ => l.length - (intOf vi).toNat)
    case atStart =>
      refine ⟨0, Nat.zero_le _, rfl, own, Sh, ?_, fun _ _ => rfl, hEa.kp _, hBx⟩
      have h := S.ext hEa
      exact ⟨h.at_, by rw [List.take_zero]; exact add_zero h.g _ _, h.row, h.eb⟩
    case round =>
      obtain ⟨j, hj, rfl, own', Sh', S', ho', hK, hbox⟩ := hrel
      by_cases hlt : j < l.length
      · obtain ⟨b, o, rfl, hcb⟩ := hc (by omega)
        obtain ⟨d0, d1, d2, d3, d4, d5⟩ := (Cds.kp hcb hK (fun h => by
          have := hao b rfl
          rcases h with h | h
          · exact this.2 h
          · exact h this.1)) j hlt
        obtain ⟨k1, k2, k3, k4⟩ := hk _ (List.getElem_mem hlt)
        have hji : (j : Int) < (l.length : Int) := by omega
        have hsp : spotOf l[j] < 60 := by unfold spotOf; omega
        have hpp : 5 + l[j].attr.toNat * 10 + l[j].kind.toNat = 5 + spotOf l[j] := by unfold spotOf; omega
        have hes := es_len S'.g (fun k hk => by
          rcases List.mem_append.1 hk with h | h
          · exact h8 k h
          · simp only [List.mem_singleton] at h
            subst h
            simp; omega) _ hsp
        simp only [List.length_append, List.length_singleton] at hes
        obtain ⟨q, hq⟩ := ex_spot cmpCd_ord (S'.g.rise _ hsp) l[j]
        have hqs : q ≤ (Sh' (spotOf l[j])).es.length := by simpa using hq.1
        have hqQ : ∀ h (hh : h < (Sh' (spotOf l[j])).es.length), cmpCd (Sh' (spotOf l[j])).es[h].c l[j] < 0 ↔ h < q := fun h hh => by
          have := hq.2 h (by simpa using hh)
          simpa using this
        have hEng := (S'.row.at (eng_sh pre hp fa fl.length fcap Sh' ev _ hsp))
        rw [← hpp] at hEng
        have hEngF := S'.row.frozen (5 + l[j].attr.toNat * 10 + l[j].kind.toNat)
        rw [shV] at hEng
        clear hwa x0 x1 hBx hsz hEa hc hcb
        have HM1 : Hid (∀ W1, q < (Sh' (spotOf l[j])).es.length → Ext wr W1 → ∀ (hqq : q < (Sh' (spotOf l[j])).es.length), (Sh' (spotOf l[j])).es[q].c = l[j] → ∃ g1, (Sh' (spotOf l[j])).ao = some ⟨g1, 0, none⟩ ∧ ∃ oa on ocap os, AddMid w own eb pre ev fl fa fcap K0 id l [.int .i64 id, .slice (some ⟨b, o, none⟩) l.length cap] j q g1 (Sh' (spotOf l[j])).es.length (Sh' (spotOf l[j])).cap oa on ocap os W1) := fun W1 _ hE hqq he => by
          obtain ⟨g1, h1, h2⟩ := mid_found hlt S' ho' hK hbox hno hebl hid hn hK0 _ hsp rfl q hqq he hE
          exact ⟨g1, h1, _, _, _, _, h2⟩
        have HM2 : Hid (∀ W wI ao1 cap1, l[j] ∉ (Sh' (spotOf l[j])).es.map (·.c) → Ext wr W → OSl wI 178 7 ao1 ((Sh' (spotOf l[j])).es.length + 1) cap1 (((Sh' (spotOf l[j])).es.flatMap EnR.cells).take (q * 7) ++ (⟨l[j], [], none, 0⟩ : EnR).cells ++ ((Sh' (spotOf l[j])).es.flatMap EnR.cells).drop (q * 7)) → Kp (fun k => blkOf (Sh' (spotOf l[j])).ao = some k) W wI → (∀ g, blkOf ao1 = some g → blkOf (Sh' (spotOf l[j])).ao = some g ∨ W.heap.size ≤ g) → ∃ g1, ao1 = some ⟨g1, 0, none⟩ ∧ AddMid w own eb pre ev fl fa fcap K0 id l [.int .i64 id, .slice (some ⟨b, o, none⟩) l.length cap] j q g1 ((Sh' (spotOf l[j])).es.length + 1) cap1 none 0 0 [] (wI.setCell ⟨eb, 5 + l[j].attr.toNat * 10 + l[j].kind.toNat, none⟩ (.slice ao1 ((Sh' (spotOf l[j])).es.length + 1) cap1))) := fun W wI ao1 cap1 hnf hE hO hkI hat => by
          rw [hpp]
          exact mid_new hlt S' hp ho' hK hbox hno hebl hid hn hK0 _ hsp rfl q hq hnf hE ao1 cap1 hO hkI hat
        have HOS : Hid (OSl wr 178 7 (Sh' (spotOf l[j])).ao (Sh' (spotOf l[j])).es.length (Sh' (spotOf l[j])).cap ((Sh' (spotOf l[j])).es.flatMap EnR.cells)) := S'.at_.sh _ hsp
        have hne0 : blkOf (Sh' (spotOf l[j])).ao ≠ some eb := fun h => by
          have h1 := S'.at_.ts _ hsp eb h
          rw [S'.eb] at h1
          cases h1
        have HNE : Hid (blkOf (Sh' (spotOf l[j])).ao ≠ some eb) := hne0
        clear hne0
        have HSF := spot_found cmpCd_ord (S'.g.rise _ hsp) hq
        simp only [List.length_map, List.getElem_map] at HSF
        have HER : Hid (Row wr eb 112 (engCells pre fa fl.length fcap Sh' ev)) := S'.row
        have HEC : Hid ((engCells pre fa fl.length fcap Sh' ev)[5 + l[j].attr.toNat * 10 + l[j].kind.toNat]? = some (.slice (Sh' (spotOf l[j])).ao (Sh' (spotOf l[j])).es.length (Sh' (spotOf l[j])).cap)) := by
          show _ = _
          rw [hpp]; exact eng_sh pre hp fa fl.length fcap Sh' ev _ hsp
        clear S' ho' hK hbox hpp
        generalize Sh' (spotOf l[j]) = sh at *
        obtain ⟨es, aoS, capS⟩ := sh
        dsimp only at *
        generalize engCells pre fa fl.length fcap Sh' ev = eL at *
        generalize hcl : l[j] = c at *
        go_wp2_with fail
        go_quiet (fail)
        have hE0 : Ext wr ((wr.alloc (.cells #[.int .i64 c.attr, .int .i64 c.kind, .int .i64 c.a.n, .string c.a.s, .int .i64 c.b.n, .string c.b.s] 80)).drewN nq) := ((Ext.refl wr).alloc _).trans (drewN_ext _ _)
        have hBc : Row ((wr.alloc (.cells #[.int .i64 c.attr, .int .i64 c.kind, .int .i64 c.a.n, .string c.a.s, .int .i64 c.b.n, .string c.b.s] 80)).drewN nq) wr.heap.size 80 c.cells := (show Row (wr.alloc (.cells #[.int .i64 c.attr, .int .i64 c.kind, .int .i64 c.a.n, .string c.a.s, .int .i64 c.b.n, .string c.b.s] 80)) wr.heap.size 80 c.cells from row_alloc _ _ _ _ _ rfl rfl)
        generalize hw0 : (wr.alloc (.cells #[.int .i64 c.attr, .int .i64 c.kind, .int .i64 c.a.n, .string c.a.s, .int .i64 c.b.n, .string c.b.s] 80)).drewN nq = w0 at *
        generalize 5 + c.attr.toNat * 10 + c.kind.toNat = p at *
        clear hw0 d0 d1 d2 d3 d4 d5
        have hEng0 := hE0.cell hEng
        have f0 := hBc.at (j := 0) rfl
        have f1 := hBc.at (j := 1) rfl
        have f2 := hBc.at (j := 2) rfl
        have f3 := hBc.at (j := 3) rfl
        have f4 := hBc.at (j := 4) rfl
        have f5 := hBc.at (j := 5) rfl
        clear hEng hEngF hcl
        by_cases hfd : c ∈ es.map (·.c)
        · obtain ⟨hqq, hqe⟩ := HSF.2 hfd
          have HB : Hid (∀ W, Ext w0 W → Calls Tryz.prog 98 #[.slice aoS es.length capS, .agg #[.int .i64 c.attr, .int .i64 c.kind, .int .i64 c.a.n, .string c.a.s, .int .i64 c.b.n, .string c.b.s]] W fun e w' => e = .returned (.tuple #[.int .i64 q, .bool true]) ∧ Ext W w') := fun W hE => xfind_any aoS capS es c q true W (HOS.out.ext (hE0.trans hE)) (by omega) hqs hqQ (fun _ => by rw [hqe, cmpCd_ord.refl]; rfl) (fun h => absurd hqq h)
          have HMf : Hid _ := fun W1 hE => HM1.out W1 hqq hE hqq hqe
          have hnl : es.length ≤ 1000 := by omega
          clear HM1 HM2 HOS HSF HER HEC hqQ hq hfd hqe hes
          generalize es.length = en at *
          go_wp2_with fail
          go_region_held3 (fun w' => w'.cell? ⟨eb, p, none⟩ = some (.slice aoS en capS) ∧ w'.cell? ⟨wr.heap.size, 0, none⟩ = some (.int .i64 c.attr) ∧ w'.cell? ⟨wr.heap.size, 1, none⟩ = some (.int .i64 c.kind) ∧ w'.cell? ⟨wr.heap.size, 2, none⟩ = some (.int .i64 c.a.n) ∧ w'.cell? ⟨wr.heap.size, 3, none⟩ = some (.string c.a.s) ∧ w'.cell? ⟨wr.heap.size, 4, none⟩ = some (.int .i64 c.b.n) ∧ w'.cell? ⟨wr.heap.size, 5, none⟩ = some (.string c.b.s))
            (first | go_keep | (refine ⟨?_, ?_, ?_, ?_, ?_, ?_, ?_⟩ <;> exact hbb.cell (by first | assumption | simp [*])))
            (first | (go_at_call 98; refine Calls.mono (HB.out _ (by exact (Ext.refl w0).drew)) ?_; rintro e w' ⟨rfl, hbb⟩))
          rename_i hheld
          have hE1 : Ext wr w' := hE0.trans (((Ext.refl w0).drew).trans hbb)
          have eW := (((Ext.refl w0).drew).trans hbb).cell hEng0
          obtain ⟨g1, rfl, oa, on, ocap, os, M⟩ := HMf.out w' hE1
          clear hheld HB hbb HMf hEng0 f0 f1 f2 f3 f4 f5 hBc hE0 hE1
          generalize en = n1 at *
          generalize capS = cap1 at *
          generalize w' = W1 at *
          have c6 := M.c6
          have hqn := M.qn
          have c6A : ∀ ob : Obj, (W1.alloc ob).cell? ⟨g1, q * 7 + 6, none⟩ = some (.slice oa on ocap) := fun ob => ((Ext.refl _).alloc ob).cell c6
          have b0 := M.bxr.at (j := 0) rfl
          have b1 := M.bxr.at (j := 1) rfl
          have HO : Hid (OSl W1 193 2 oa on ocap (os.flatMap owCells)) := M.o
          have hol := M.lo
          have HB1 : Hid (on + 1 ≤ maxLen) := by show _ ≤ _; unfold maxLen; omega
          have HB2 : Hid ((on + 1) * 16 ≤ 140737488355328) := by show _ ≤ _; omega
          have HM : Hid (AddMid w own eb pre ev fl fa fcap K0 id l [.int .i64 id, .slice (some ⟨b, o, none⟩) l.length cap] j q g1 n1 cap1 oa on ocap os W1) := M
          clear M
          go_wp2_with fail
          go_region_law (refine step_app (by rfl) _ _ 176 (by rfl) 193 (.agg #[.int .i64 0, .int .i64 0]) 2 16 Tryz.underlying176 Tryz.infoOw rfl (by decide) oa on ocap _ (by rfl) (OSl.ext (OSl.ext HO.out (Ext.refl _).drew) ((Ext.refl _).alloc _)) ⟨W1.heap.size, 0, none⟩ 1 1 (owCells (id, (l.length : Int))) (by rfl) rfl (ow_new W1.drew _ _) (ow_one _) (by decide) HB1.out HB2.out ?_; intro ro3 rcap3 w3 hown3 hk3 hat3; have cI := (HM.out.fz w3 (((((Ext.refl W1).drew).alloc _).kp _).trans hk3)).1; have fI := (HM.out.fz w3 (((((Ext.refl W1).drew).alloc _).kp _).trans hk3)).2)
          all_goals
            go_wp2
            go_roundw
            case rel =>
              refine ⟨j + 1, by omega, by go_num, HM.out.nx w3 ro3 rcap3 hown3 (((((Ext.refl W1).drew).alloc _).kp _).trans hk3) (fun g hg => ?_)⟩
              rcases hat3.out with h | h
              · exact Or.inl (h ▸ hg)
              · rw [h] at hg; cases hg; exact Or.inr (Ext.le (((Ext.refl W1).alloc _).drew))
            case measure => simp [intOf]; omega
        · have HB : Hid (∀ W, Ext w0 W → Calls Tryz.prog 98 #[.slice aoS es.length capS, .agg #[.int .i64 c.attr, .int .i64 c.kind, .int .i64 c.a.n, .string c.a.s, .int .i64 c.b.n, .string c.b.s]] W fun e w' => e = .returned (.tuple #[.int .i64 q, .bool false]) ∧ Ext W w') := fun W hE => xfind_any aoS capS es c q false W (HOS.out.ext (hE0.trans hE)) (by omega) hqs hqQ (fun hqq => by
            have hne : es[q].c ≠ c := fun h => hfd (HSF.1 ⟨hqq, h⟩)
            have : cmpCd es[q].c c ≠ 0 := fun h => hne ((cmpCd_ord.eq _ _).1 h)
            simpa using this) (fun _ => rfl)
          have HIn : Hid (∀ (W : World) (ob : Obj), Ext wr W → ob = .cells #[.int .i64 c.attr, .int .i64 c.kind, .int .i64 c.a.n, .string c.a.s, .int .i64 c.b.n, .string c.b.s, .slice none 0 0] 178 → Calls Tryz.prog 99 #[.slice aoS es.length capS, .int .i64 q, .slice (some ⟨W.heap.size, 0, none⟩) 1 1] (W.alloc ob) fun e w' => InsPost 178 7 (W.alloc ob) w' aoS es.length ((es.flatMap EnR.cells).take (q * 7) ++ (⟨c, [], none, 0⟩ : EnR).cells ++ (es.flatMap EnR.cells).drop (q * 7)) e) := fun W ob hE hob => by
            subst hob
            exact insert_anyX aoS es.length capS q _ W.heap.size _ _ ((HOS.out.ext hE).ext ((Ext.refl _).alloc _)) hqs (by omega) (row_alloc _ _ _ _ _ rfl rfl) (fun h => by have := HOS.out.lt h; have := hE.le; omega) (by intro u hu; simp [EnR.cells] at hu; rcases hu with rfl | rfl | rfl | rfl | rfl | rfl | rfl <;> rfl) rfl (enr_one _)
          have HMn : Hid _ := fun W wI ao1 cap1 => HM2.out W wI ao1 cap1 hfd
          have hnl : es.length ≤ 1000 := by omega
          have hqi : (q : Int) ≤ (es.length : Int) := by omega
          clear HM1 HM2 HOS HSF hqQ hq hfd hes
          generalize (es.flatMap EnR.cells).take (q * 7) ++ (⟨c, [], none, 0⟩ : EnR).cells ++ (es.flatMap EnR.cells).drop (q * 7) = ncs at *
          generalize es.length = en at *
          go_wp2_with fail
          go_region_held3 (fun w' => w'.cell? ⟨eb, p, none⟩ = some (.slice aoS en capS) ∧ w'.cell? ⟨wr.heap.size, 0, none⟩ = some (.int .i64 c.attr) ∧ w'.cell? ⟨wr.heap.size, 1, none⟩ = some (.int .i64 c.kind) ∧ w'.cell? ⟨wr.heap.size, 2, none⟩ = some (.int .i64 c.a.n) ∧ w'.cell? ⟨wr.heap.size, 3, none⟩ = some (.string c.a.s) ∧ w'.cell? ⟨wr.heap.size, 4, none⟩ = some (.int .i64 c.b.n) ∧ w'.cell? ⟨wr.heap.size, 5, none⟩ = some (.string c.b.s))
            (first | go_keep | (refine ⟨?_, ?_, ?_, ?_, ?_, ?_, ?_⟩ <;> exact hbb.cell (by first | assumption | simp [*])))
            (first | (go_at_call 98; refine Calls.mono (HB.out _ (by exact (Ext.refl w0).drew)) ?_; rintro e w' ⟨rfl, hbb⟩))
          rename_i hheld
          have hE1 : Ext wr w' := hE0.trans (((Ext.refl w0).drew).trans hbb)
          have eW := (((Ext.refl w0).drew).trans hbb).cell hEng0
          have hBc1 := hBc.ext (((Ext.refl w0).drew).trans hbb)
          clear hheld HB hbb hEng0 f0 f1 f2 f3 f4 f5 hBc hE0
          have f0 := hBc1.at (j := 0) rfl
          have f1 := hBc1.at (j := 1) rfl
          have f2 := hBc1.at (j := 2) rfl
          have f3 := hBc1.at (j := 3) rfl
          have f4 := hBc1.at (j := 4) rfl
          have f5 := hBc1.at (j := 5) rfl
          have HE1 : Hid (Ext wr w'.drew) := hE1.trans (Ext.refl _).drew
          have bA : ∀ ob : Obj, (w'.drew.alloc ob).cell? ⟨eb, p, none⟩ = some (.slice aoS en capS) := fun ob => ((Ext.refl _).alloc ob).cell eW
          have bB : ∀ ob : Obj, (w'.alloc ob).cell? ⟨eb, p, none⟩ = some (.slice aoS en capS) := fun ob => ((Ext.refl _).alloc ob).cell eW
          have hebw : eb < w'.heap.size := Nat.lt_of_lt_of_le HER.out.lt hE1.le
          clear hBc1 hE1
          go_wp2_with fail
          go_region_with (first
            | (go_at_call 99; refine Calls.mono (HIn.out w'.drew _ HE1.out rfl) ?_; rintro e wI ⟨ea', ecap', rfl, hO', hkI, hat⟩; have rI := hkI.row ((Row.ext HER.out HE1.out).ext ((Ext.refl _).alloc _)) (fun h => HNE.out h); have cI := rI.at HEC.out; have fI := rI.frozen p))
          all_goals
            obtain ⟨g1, rfl, M⟩ := HMn.out _ wI ea' ecap' (HE1.out.trans ((Ext.refl _).alloc _)) hO' hkI hat
            have eW1 := (rI.set p (.slice (some ⟨g1, 0, none⟩) (en + 1) ecap')).at (j := p) (v := .slice (some ⟨g1, 0, none⟩) (en + 1) ecap') (by rw [List.getElem?_set_self (by have := HEC.out; rw [List.getElem?_eq_some_iff] at this; exact this.1)])
            clear rI cI fI hO' hkI hat HMn HIn bA bB f0 f1 f2 f3 f4 f5 HE1 eW HER HEC HNE
            generalize wI.setCell ⟨eb, p, none⟩ (.slice (some ⟨g1, 0, none⟩) (en + 1) ecap') = W1 at *
            generalize en + 1 = n1 at *
            generalize ecap' = cap1 at *
            obtain ⟨oa, hoa⟩ : ∃ oa : Option Addr, oa = none := ⟨_, rfl⟩
            obtain ⟨on, hon⟩ : ∃ on : Nat, on = 0 := ⟨_, rfl⟩
            obtain ⟨ocap, hoc⟩ : ∃ ocap : Nat, ocap = 0 := ⟨_, rfl⟩
            obtain ⟨os, hos⟩ : ∃ os : List (Int × Int), os = [] := ⟨_, rfl⟩
            replace M : AddMid w own eb pre ev fl fa fcap K0 id l [.int .i64 id, .slice (some ⟨b, o, none⟩) l.length cap] j q g1 n1 cap1 oa on ocap os W1 := by rw [hoa, hon, hoc, hos]; exact M
            clear hoa hon hoc hos
            have c6 := M.c6
            have hqn := M.qn
            have c6A : ∀ ob : Obj, (W1.alloc ob).cell? ⟨g1, q * 7 + 6, none⟩ = some (.slice oa on ocap) := fun ob => ((Ext.refl _).alloc ob).cell c6
            have b0 := M.bxr.at (j := 0) rfl
            have b1 := M.bxr.at (j := 1) rfl
            have HO : Hid (OSl W1 193 2 oa on ocap (os.flatMap owCells)) := M.o
            have hol := M.lo
            have HB1 : Hid (on + 1 ≤ maxLen) := by show _ ≤ _; unfold maxLen; omega
            have HB2 : Hid ((on + 1) * 16 ≤ 140737488355328) := by show _ ≤ _; omega
            have HM : Hid (AddMid w own eb pre ev fl fa fcap K0 id l [.int .i64 id, .slice (some ⟨b, o, none⟩) l.length cap] j q g1 n1 cap1 oa on ocap os W1) := M
            clear M
            go_wp2_with fail
            go_region_law (refine step_app (by rfl) _ _ 176 (by rfl) 193 (.agg #[.int .i64 0, .int .i64 0]) 2 16 Tryz.underlying176 Tryz.infoOw rfl (by decide) oa on ocap _ (by rfl) (OSl.ext (OSl.ext HO.out (Ext.refl _).drew) ((Ext.refl _).alloc _)) ⟨W1.heap.size, 0, none⟩ 1 1 (owCells (id, (l.length : Int))) (by rfl) rfl (ow_new W1.drew _ _) (ow_one _) (by decide) HB1.out HB2.out ?_; intro ro3 rcap3 w3 hown3 hk3 hat3; have cI := (HM.out.fz w3 (((((Ext.refl W1).drew).alloc _).kp _).trans hk3)).1; have fI := (HM.out.fz w3 (((((Ext.refl W1).drew).alloc _).kp _).trans hk3)).2)
            all_goals
              go_wp2
              go_roundw
              case rel =>
                refine ⟨j + 1, by omega, by go_num, HM.out.nx w3 ro3 rcap3 hown3 (((((Ext.refl W1).drew).alloc _).kp _).trans hk3) (fun g hg => ?_)⟩
                rcases hat3.out with h | h
                · exact Or.inl (h ▸ hg)
                · rw [h] at hg; cases hg; exact Or.inr (Ext.le (((Ext.refl W1).alloc _).drew))
              case measure => simp [intOf]; omega
      · have hje : j = l.length := by omega
        rw [hje, List.take_length] at S'
        go_wp2
        go_end0
        exact ⟨rfl, own', fa, fcap, Sh', S', fun b hb => ho' b (by omega), hK⟩
end
end Go.Proofs.YtpbblaeamddbgaaGreat
