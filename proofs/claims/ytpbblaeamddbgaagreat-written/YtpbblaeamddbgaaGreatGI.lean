import Derived.Test.YtpbblaeamddbgaaGreatGH
import Derived.Test.YtpbblaeamddbgaaGreatGF
import Derived.Test.YtpbblaeamddbgaaGreatGE
namespace Go.Proofs.YtpbblaeamddbgaaGreat
open Go.RowKit

theorem lv_snoc {order : List Int} {p : List (List Cd)} (h : LvOK Cd.attr order p) (d : Nat) (hd : p.length = d) (ho : d < order.length) (c : List Cd) (hc : ∀ x ∈ c, x.attr = order[d]) : LvOK Cd.attr order (p ++ [c]) := by
  refine ⟨by simp; omega, fun k hk ho' x hx => ?_⟩
  by_cases hkp : k < p.length
  · rw [List.getElem_append_left hkp] at hx
    exact h.2 k hkp ho' x hx
  · have ek : k = p.length := by simp at hk; omega
    subst ek
    rw [List.getElem_append_right (Nat.le_refl _)] at hx
    simp only [Nat.sub_self, List.getElem_cons_zero] at hx
    rw [hc x hx]
    congr 1
    exact hd.symm
theorem on_attr (a : Int) (l : List Cd) : ∀ x ∈ onA Cd.attr a l, x.attr = a := fun x hx => by
  simp only [onA, List.mem_filter, beq_iff_eq] at hx
  exact hx.2

theorem osl_cds0 {w : World} {ao : Option Addr} {cap : Nat} {l : List Cd} (h : OSl w 80 6 ao l.length cap (l.flatMap Cd.cells)) (hp : 0 < l.length) : ∃ b, ao = some ⟨b, 0, none⟩ ∧ Cds w b 0 l := by
  obtain ⟨b, o, h1, h2⟩ := osl_cxs h hp
  obtain ⟨g, L, h3, _⟩ := row_of_osl h hp
  rw [h3] at h1
  cases h1
  exact ⟨_, h3, h2⟩
theorem way_cons (a : Int) (os : List Int) (l : List Cd) (n : Nat) (hn : n ≠ 0) : way Cd.attr (a :: os) l n = onA Cd.attr a l :: way Cd.attr os l (n - (onA Cd.attr a l).length) := by
  rw [way, if_neg hn]
theorem way_zero (os : List Int) (l : List Cd) : way Cd.attr os l 0 = [] := by
  cases os with
  | nil => rfl
  | cons a os => rw [way, if_pos rfl]

section
variable {w : World} {tb : Nat} {F : Nat → Prop} {order : List Int} {N : List (Nd Cd)} {R : List NdR} {oa : Option Addr} {oc : Nat} {own : Nat → Nat} {ks : List (Int × List Cd)} {m : Nat}
/-- A step, whatever is there. -/
theorem step_any (O : TreeOK Cd.attr ceE order ks N m) (T : TreeAt w tb F order N R oa oc) (S : TreeSep own w tb R oa) (i : Nat) (hi : i < N.length) (hr : i < R.length) (c : List Cd) (bo : Option Addr) (bcap : Nat) (hc8 : c.length ≤ 8) (hkd : ∀ x ∈ c, 1 ≤ x.kind ∧ x.kind ≤ 9) (hcd : 0 < c.length → ∃ b, bo = some ⟨b, 0, none⟩ ∧ Cds w b 0 c) (hbo : ∀ g, blkOf bo = some g → F g ∧ g < w.heap.size ∧ own g = 0) (hN : m ≤ 900) (hlv : LvOK Cd.attr order (N[i].path ++ [c])) (hF : ∀ b, w.heap.size ≤ b → F b) :
    Calls Tryz.prog 202 #[.pointer (some ⟨tb, 0, none⟩), .pointer (some ⟨R[i].blk, 0, none⟩), .slice bo c.length bcap] w fun e w' => StepPost own w tb F order ks (N[i].path ++ [c]) oa oc (m + 1) e w' := by
  have hN' : N.length ≤ 900 := Nat.le_trans O.cnt hN
  obtain ⟨q, hq⟩ := ex_spot ceE_ord (O.srt i hi) c
  by_cases hf : c ∈ N[i].kids.map (·.1)
  · have hcx : Cxs w bo c := fun hp => by
      obtain ⟨b, h1, h2⟩ := hcd hp
      exact ⟨b, 0, h1, h2⟩
    refine (step_found O T S i hi hr q c bo bcap hc8 hcx hN' hq hf).mono ?_
    rintro e w' ⟨N', R', own', j, hj, hr', h1, h2, h3⟩
    exact ⟨N', R', own', j, hj, hr', h1, h2.mono (Nat.le_succ _), h3⟩
  · exact step_new O T S i hi hr q c bo bcap hc8 hkd hcd hbo hN' hq hf hlv hF

/-- What put leaves. -/
def PutPost (w : World) (tb : Nat) (F : Nat → Prop) (order : List Int) (ks : List (Int × List Cd)) (oa : Option Addr) (oc : Nat) (m : Nat) (w' : World) : Prop :=
  ∃ (N' : List (Nd Cd)) (R' : List NdR) (own' : Nat → Nat), TreeOK Cd.attr ceE order ks N' m ∧ TreeAt w' tb F order N' R' oa oc ∧ TreeSep own' w' tb R' oa ∧ Kp F w w'

set_option maxHeartbeats 1600000 in
set_option maxRecDepth 100000 in
theorem put_any (O : TreeOK Cd.attr ceE order ks N m) (T : TreeAt w tb F order N R oa oc) (S : TreeSep own w tb R oa) (id : Int) (ao : Option Addr) (cap : Nat) (l : List Cd) (hl : l.length ≤ 8) (hc : Cxs w ao l) (hao : ∀ g, blkOf ao = some g → 0 < l.length → ¬ F g) (hm : m + order.length ≤ 900) (ho6 : order.length ≤ 6) (hks : ks.length ≤ 100) (hnd : order.Nodup) (hat : ∀ c ∈ l, c.attr ∈ order) (hkd : ∀ c ∈ l, 1 ≤ c.kind ∧ c.kind ≤ 9) (hid : ∀ l', (id, l') ∉ ks) (hF : ∀ b, w.heap.size ≤ b → F b) :
    Calls Tryz.prog 149 #[.pointer (some ⟨tb, 0, none⟩), .agg #[.int .i64 id, .slice ao l.length cap]] w fun e w' => e = .returned (.tuple #[]) ∧ PutPost w tb F order (ks ++ [(id, l)]) oa oc (m + order.length) w' := by
  obtain ⟨rb0, hrb0, htr⟩ := T.row
  obtain ⟨wa, hwa⟩ : ∃ wa, wa = w.alloc (.cells #[.int .i64 id, .slice ao l.length cap] 130) := ⟨_, rfl⟩
  have hEa : Ext w wa := by rw [hwa]; exact (Ext.refl _).alloc _
  have hBx : Row wa w.heap.size 130 [.int .i64 id, .slice ao l.length cap] := by rw [hwa]; exact row_alloc _ _ _ _ _ rfl rfl
  have hsz : wa.heap.size = w.heap.size + 1 := by rw [hwa]; simp
  have h0 : within Cd.attr order l = l := List.filter_eq_self.2 (fun c hc => by simpa using hat c hc)
  have hr1 := (htr.ext hEa).at (j := 1) rfl
  have hr0 := (htr.ext hEa).at (j := 0) rfl
  have x0 := hBx.at (j := 0) rfl
  have x1 := hBx.at (j := 1) rfl
  go_enter Tryz.func149, Tryz.ntmps149
  go_wp2_with fail
  rw [← hwa]
  clear hwa
  go_quiet (fail)
  have hEq : Ext w (wa.drewN nq) := hEa.trans (drewN_ext _ _)
  have hBq : Row (wa.drewN nq) w.heap.size 130 [.int .i64 id, .slice ao l.length cap] := hBx
  have hr0q : (wa.drewN nq).cell? ⟨tb, 0, none⟩ = _ := hr0
  clear hr1 hr0 x0 x1 hBx hEa
  generalize hwq : wa.drewN nq = wq at *
  have hszq : w.heap.size + 1 ≤ wq.heap.size := by rw [← hwq]; show _ ≤ wa.heap.size; omega
  clear hwq hsz
  have hT0 := T.kp (hEq.kp (fun _ => False)) (fun _ _ h => h)
  have hS0 := S.ahead hEq.le
  have hr0' : 0 < R.length := by rw [T.len]; exact O.pos
  have hrb1 : R[0].blk = rb0 := by
    rw [List.getElem?_eq_getElem hr0'] at hrb0
    simpa using hrb0
  have HW : Hid (∀ d left, left = (within Cd.attr (order.drop d) l).length → True) := fun _ _ _ => trivial
  go_wp2_with fail
  go_loopw [4, 5, 21] (fun v4 v5 vi wr => ∃ (d left : Nat) (N' : List (Nd Cd)) (R' : List NdR) (own' : Nat → Nat) (j : Nat) (hj : j < N'.length) (hr : j < R'.length), d ≤ order.length ∧ vi = .int .i64 d ∧ v4 = .pointer (some ⟨R'[j].blk, 0, none⟩) ∧ v5 = .int .i64 left ∧ left = (within Cd.attr (order.drop d) l).length ∧ TreeOK Cd.attr ceE order ks N' (m + d) ∧ TreeAt wr tb F order N' R' oa oc ∧ TreeSep own' wr tb R' oa ∧ N'[j].path.length = d ∧ N'[j].path ++ way Cd.attr (order.drop d) l left = way Cd.attr order l l.length ∧ Kp F w wr ∧ Row wr w.heap.size 130 [.int .i64 id, .slice ao l.length cap] ∧ own' w.heap.size = 0 ∧ w.heap.size + 1 ≤ wr.heap.size) (fun _ _ vi _ => order.length - (intOf vi).toNat)
  case atStart =>
    refine ⟨0, l.length, N, R, own, 0, O.pos, hr0', Nat.zero_le _, rfl, by rw [hrb1], rfl, by rw [List.drop_zero, h0], O, hT0, hS0, by rw [O.root]; rfl, by rw [O.root, List.drop_zero]; rfl, hEq.kp _, hBq, S.n _ (Nat.le_refl _), hszq⟩
  case round =>
    obtain ⟨d, left, N', R', own', j, hj, hr, hd, rfl, rfl, rfl, hleft, O', T', S', hpl, hpw, hKw, hbox, hbo, hsr⟩ := hrel
    have hll : left ≤ l.length := by rw [hleft]; exact List.length_filter_le _ _
    clear hT0 hS0 hrb1 hBq hr0q hEq hrb0 htr hszq HW
    by_cases hdl : d < order.length
    · have hdrop : order.drop d = order[d] :: order.drop (d + 1) := List.drop_eq_getElem_cons hdl
      obtain ⟨ob, oo, rfl, hI⟩ := T'.ord (by omega)
      have hcd := hI d hdl
      rw [List.getD_eq_getElem?_getD, List.getElem?_eq_getElem hdl, Option.getD_some] at hcd
      by_cases hl0 : left = 0
      · subst hl0
        have hpw2 : N'[j].path = way Cd.attr order l l.length := by rw [← hpw, way_zero, List.append_nil]
        clear hpw hleft hdrop
        have n0 := T'.nd j hj hr
        have hn0 := n0.row
        have hids := n0.ids
        have hil := O'.il j hj
        have z0 := hn0.at (j := 0) rfl
        have zf := hn0.frozen 0
        have b0 := hbox.at (j := 0) rfl
        have hbl := hn0.lt
        have hxl := hbox.lt
        have hne : R'[j].blk ≠ w.heap.size := fun e => by have := S'.b j hr; rw [e, hbo] at this; omega
        have hne2 : ∀ g, blkOf R'[j].ia = some g → g ≠ R'[j].blk := fun g hg => (S'.i j hr g hg).2
        have HFin : Hid (∀ (W : World) (ia' : Option Addr) (icap' : Nat), OSl W 3 1 ia' (N'[j].ids.length + 1) icap' (N'[j].ids.map (Value.int .i64) ++ [.int .i64 id]) → Kp (fun k => blkOf R'[j].ia = some k) wr W → (∀ g, blkOf ia' = some g → blkOf R'[j].ia = some g ∨ wr.heap.size ≤ g) → PutPost w tb F order (ks ++ [(id, l)]) (some ⟨ob, oo, none⟩) oc (m + order.length) (W.setCell ⟨R'[j].blk, 0, none⟩ (.slice ia' (N'[j].ids.length + 1) icap'))) := fun W ia' icap' hO hK hia => by
          have hks' : Kp (fun b => b = R'[j].blk) W (W.setCell ⟨R'[j].blk, 0, none⟩ (.slice ia' (N'[j].ids.length + 1) icap')) := (Kp.refl (fun b => b = R'[j].blk) W).setCell (fun _ => rfl) _
          have hKall : Kp (fun b => b = R'[j].blk ∨ blkOf R'[j].ia = some b) wr (W.setCell ⟨R'[j].blk, 0, none⟩ (.slice ia' (N'[j].ids.length + 1) icap')) := (hK.mono (fun _ _ h => Or.inr h)).trans (hks'.mono (fun _ _ h => Or.inl h))
          have hrow' := (hK.row hn0 (fun h => hne2 _ h rfl)).set 0 (.slice ia' (N'[j].ids.length + 1) icap')
          obtain ⟨own2, t1, t2⟩ := put_done T' S' j hj hr id hKall ia' icap' hrow' (by rw [List.map_append]; exact OSl.kp hO hks' (fun g hg => by
            rcases hia g hg with h | h
            · exact hne2 g h
            · omega)) hia (fun b hb => hF b (by have := hKw.size; omega))
          refine ⟨_, _, own2, ((O'.mono (by omega)).put j hj id l hid hpw2), t1, t2, hKw.trans (hKall.mono (fun b _ h => ?_))⟩
          rcases h with h | h
          · rw [h]; exact n0.fb
          · exact n0.fi b h
        have HNE : Hid (R'[j].blk ≠ w.heap.size) := hne
        have HNE2 : Hid (∀ g, blkOf R'[j].ia = some g → g ≠ R'[j].blk) := hne2
        have HN0 : Hid (Row wr R'[j].blk 232 [.slice R'[j].ia N'[j].ids.length R'[j].icap, .slice R'[j].ea R'[j].es.length R'[j].ecap]) := hn0
        clear n0 hn0 T' S' O' hpw2 hne hne2
        generalize R'[j].blk = jb at *
        generalize R'[j].ia = ja at *
        generalize R'[j].icap = jc at *
        generalize N'[j].ids = jids at *
        have hidsd : OSl wr.drew 3 1 ja jids.length jc (jids.map (Value.int .i64)) := hids.ext (Ext.refl _).drew
        have HB1 : Hid (jids.length + 1 ≤ maxLen) := by show _ ≤ _; unfold maxLen; omega
        have HB2 : Hid ((jids.length + 1) * 8 ≤ 140737488355328) := by show _ ≤ _; omega
        clear hids
        go_wp2_with fail
        go_region_law (refine step_app (by rfl) _ _ 25 (by rfl) 3 (.int .i64 0) 1 8 Tryz.underlying25 Tryz.infoInt rfl (by decide) ja jids.length jc _ (by rfl) (OSl.ext hidsd ((Ext.refl _).alloc _)) ⟨wr.heap.size, 0, none⟩ 1 1 [.int .i64 id] (by rfl) rfl (one_new wr.drew 3 (.int .i64 id)) (by intro u hu; simp at hu; subst hu; rfl) (by decide) HB1.out HB2.out ?_; intro ro3 rcap3 w3 hown3 hk3 hat3; have rI := hk3.row ((Row.ext HN0.out ((Ext.refl wr).drew)).ext ((Ext.refl _).alloc _)) (fun h => HNE2.out _ h rfl); have cI := rI.at (j := 0) rfl; have fI := rI.frozen 0)
        all_goals
          go_wp2
          go_end0
          refine ⟨rfl, HFin.out w3 ro3 rcap3 hown3 (((((Ext.refl wr).drew).alloc _).kp _).trans hk3) (fun g hg => ?_)⟩
          rcases hat3.out with h | h
          · exact Or.inl (h ▸ hg)
          · rw [h] at hg; cases hg; exact Or.inr (Ext.le (((Ext.refl wr).alloc _).drew))
      · have hlz : ((left : Int) == 0) = false := by simp; omega
        rw [hdrop] at hleft hpw
        have hnod : order[d] ∉ order.drop (d + 1) := fun hm => by
          have := List.Nodup.sublist (List.drop_sublist d order) hnd
          rw [hdrop] at this
          exact (List.nodup_cons.1 this).1 hm
        rw [within_len _ _ _ hnod] at hleft
        rw [way_cons _ _ _ _ hl0] at hpw
        have hcx : Cxs wr ao l := fun hp => by
          obtain ⟨b, o, h1, h2⟩ := hc hp
          exact ⟨b, o, h1, h2.kp hKw (hao b (by rw [h1]; rfl) hp)⟩
        have HON : Hid _ := on_any id ao cap l order[d] wr hl hcx
        have b0 := hbox.at (j := 0) rfl
        have b1 := hbox.at (j := 1) rfl
        have hlv : LvOK Cd.attr order (N'[j].path ++ [onA Cd.attr order[d] l]) := lv_snoc (O'.lv j hj) d hpl hdl _ (on_attr _ _)
        have hon8 : (onA Cd.attr order[d] l).length ≤ 8 := Nat.le_trans (List.length_filter_le _ _) hl
        have HST : Hid (∀ (W : World) (bo : Option Addr) (bcap : Nat), Ext wr W → OSl W 80 6 bo (onA Cd.attr order[d] l).length bcap ((onA Cd.attr order[d] l).flatMap Cd.cells) → (∀ g, blkOf bo = some g → wr.heap.size ≤ g) → Calls Tryz.prog 202 #[.pointer (some ⟨tb, 0, none⟩), .pointer (some ⟨R'[j].blk, 0, none⟩), .slice bo (onA Cd.attr order[d] l).length bcap] W fun e w' => StepPost own' W tb F order ks (N'[j].path ++ [onA Cd.attr order[d] l]) (some ⟨ob, oo, none⟩) oc (m + d + 1) e w') := fun W bo bcap hE hO hnew => by
          have hle := hE.le
          exact step_any O' (T'.kp (hE.kp (fun _ => False)) (fun _ _ h => h)) (S'.ahead hE.le) j hj hr _ bo bcap hon8 (fun x hx => hkd x (List.mem_filter.1 hx).1) (osl_cds0 hO) (fun g hg => ⟨hF g (by have := hnew g hg; omega), hO.lt hg, S'.n g (hnew g hg)⟩) (by omega) hlv (fun b hb => hF b (by omega))
        have HNX : Hid (left - (onA Cd.attr order[d] l).length = (within Cd.attr (order.drop (d + 1)) l).length ∧ (onA Cd.attr order[d] l).length ≤ left) := ⟨by omega, by omega⟩
        have HPW : Hid (N'[j].path ++ [onA Cd.attr order[d] l] ++ way Cd.attr (order.drop (d + 1)) l (left - (onA Cd.attr order[d] l).length) = way Cd.attr order l l.length) := by
          show _ = _
          rw [List.append_assoc]; exact hpw
        have HBX : Hid (Row wr w.heap.size 130 [.int .i64 id, .slice ao l.length cap]) := hbox
        have HPL : Hid (N'[j].path.length = d) := hpl
        have HKw : Hid (Kp F w wr) := hKw
        have hwr : IntKind.i64.wrap ((left : Int) - ((onA Cd.attr order[d] l).length : Int)) = ((left - (onA Cd.attr order[d] l).length : Nat) : Int) := by rw [IntKind.wrap_i64]; have := HNX.out; omega
        have hdi : (d : Int) < (order.length : Int) := by omega
        clear O' T' S' hpl hpw hKw hbox hcx hlv hleft hdrop hI hon8
        generalize order[d] = a at *
        generalize onA Cd.attr a l = ca at *
        generalize N'[j].path = pj at *
        generalize R'[j].blk = jb at *
        go_wp2_with fail
        refine Calls.mono HON.out ?_
        rintro e w2 ⟨bo, bcap, rfl, hO2, hn2, hE2⟩
        have HS2 : Hid _ := HST.out w2 bo bcap hE2 hO2 hn2
        have hbx2 := Row.ext HBX.out hE2
        have hl2 := hE2.le
        have hsub : ∀ x : Int, x = (left : Int) - (ca.length : Int) → True := fun _ _ => trivial
        clear HON HST hO2 hn2 b0 b1 hcd
        go_wp2_with fail
        refine Calls.mono HS2.out ?_
        rintro e w3 ⟨N2, R2, own2, j2, hj2, hr2, rfl, O2, T2, S2, hp2, hK2, hKO2, ho2⟩
        have hl3 := hK2.size
        have hbx3 := hKO2.row hbx2 (by simpa using hbo)
        have HX : Hid (TreeOK Cd.attr ceE order ks N2 (m + d + 1) ∧ TreeAt w3 tb F order N2 R2 (some ⟨ob, oo, none⟩) oc ∧ TreeSep own2 w3 tb R2 (some ⟨ob, oo, none⟩) ∧ N2[j2].path = pj ++ [ca]) := ⟨O2, T2, S2, hp2⟩
        clear O2 T2 S2 HS2
        go_wp2
        go_roundw
        case rel =>
          obtain ⟨O2, T2, S2, hp2'⟩ := HX.out
          refine ⟨d + 1, left - ca.length, N2, R2, own2, j2, hj2, hr2, by omega, by go_num, rfl, ?_, HNX.out.1, O2, T2, S2, by rw [hp2']; simp [HPL.out], by rw [hp2']; exact HPW.out, (HKw.out.trans (hE2.kp _)).trans hK2, hbx3, by rw [ho2 _ (by omega)]; exact hbo, by omega⟩
          congr 1
        case measure => simp [intOf]; omega
    · have hde : d = order.length := by omega
      have hpw2 : N'[j].path = way Cd.attr order l l.length := by
        rw [← hpw, List.drop_of_length_le (by omega)]; simp [way]
      clear hpw hleft
      have n0 := T'.nd j hj hr
      have hn0 := n0.row
      have hids := n0.ids
      have hil := O'.il j hj
      have z0 := hn0.at (j := 0) rfl
      have zf := hn0.frozen 0
      have b0 := hbox.at (j := 0) rfl
      have hbl := hn0.lt
      have hxl := hbox.lt
      have hne : R'[j].blk ≠ w.heap.size := fun e => by have := S'.b j hr; rw [e, hbo] at this; omega
      have hne2 : ∀ g, blkOf R'[j].ia = some g → g ≠ R'[j].blk := fun g hg => (S'.i j hr g hg).2
      have HFin : Hid (∀ (W : World) (ia' : Option Addr) (icap' : Nat), OSl W 3 1 ia' (N'[j].ids.length + 1) icap' (N'[j].ids.map (Value.int .i64) ++ [.int .i64 id]) → Kp (fun k => blkOf R'[j].ia = some k) wr W → (∀ g, blkOf ia' = some g → blkOf R'[j].ia = some g ∨ wr.heap.size ≤ g) → PutPost w tb F order (ks ++ [(id, l)]) oa oc (m + order.length) (W.setCell ⟨R'[j].blk, 0, none⟩ (.slice ia' (N'[j].ids.length + 1) icap'))) := fun W ia' icap' hO hK hia => by
        have hks' : Kp (fun b => b = R'[j].blk) W (W.setCell ⟨R'[j].blk, 0, none⟩ (.slice ia' (N'[j].ids.length + 1) icap')) := (Kp.refl (fun b => b = R'[j].blk) W).setCell (fun _ => rfl) _
        have hKall : Kp (fun b => b = R'[j].blk ∨ blkOf R'[j].ia = some b) wr (W.setCell ⟨R'[j].blk, 0, none⟩ (.slice ia' (N'[j].ids.length + 1) icap')) := (hK.mono (fun _ _ h => Or.inr h)).trans (hks'.mono (fun _ _ h => Or.inl h))
        have hrow' := (hK.row hn0 (fun h => hne2 _ h rfl)).set 0 (.slice ia' (N'[j].ids.length + 1) icap')
        obtain ⟨own2, t1, t2⟩ := put_done T' S' j hj hr id hKall ia' icap' hrow' (by rw [List.map_append]; exact OSl.kp hO hks' (fun g hg => by
          rcases hia g hg with h | h
          · exact hne2 g h
          · omega)) hia (fun b hb => hF b (by have := hKw.size; omega))
        refine ⟨_, _, own2, ((O'.mono (by omega)).put j hj id l hid hpw2), t1, t2, hKw.trans (hKall.mono (fun b _ h => ?_))⟩
        rcases h with h | h
        · rw [h]; exact n0.fb
        · exact n0.fi b h
      have HNE : Hid (R'[j].blk ≠ w.heap.size) := hne
      have HNE2 : Hid (∀ g, blkOf R'[j].ia = some g → g ≠ R'[j].blk) := hne2
      have HN0 : Hid (Row wr R'[j].blk 232 [.slice R'[j].ia N'[j].ids.length R'[j].icap, .slice R'[j].ea R'[j].es.length R'[j].ecap]) := hn0
      clear n0 hn0 T' S' O' hpw2 hne hne2
      generalize R'[j].blk = jb at *
      generalize R'[j].ia = ja at *
      generalize R'[j].icap = jc at *
      generalize N'[j].ids = jids at *
      have hidsd : OSl wr.drew 3 1 ja jids.length jc (jids.map (Value.int .i64)) := hids.ext (Ext.refl _).drew
      have HB1 : Hid (jids.length + 1 ≤ maxLen) := by show _ ≤ _; unfold maxLen; omega
      have HB2 : Hid ((jids.length + 1) * 8 ≤ 140737488355328) := by show _ ≤ _; omega
      clear hids
      go_wp2_with fail
      go_region_law (refine step_app (by rfl) _ _ 25 (by rfl) 3 (.int .i64 0) 1 8 Tryz.underlying25 Tryz.infoInt rfl (by decide) ja jids.length jc _ (by rfl) (OSl.ext hidsd ((Ext.refl _).alloc _)) ⟨wr.heap.size, 0, none⟩ 1 1 [.int .i64 id] (by rfl) rfl (one_new wr.drew 3 (.int .i64 id)) (by intro u hu; simp at hu; subst hu; rfl) (by decide) HB1.out HB2.out ?_; intro ro3 rcap3 w3 hown3 hk3 hat3; have rI := hk3.row ((Row.ext HN0.out ((Ext.refl wr).drew)).ext ((Ext.refl _).alloc _)) (fun h => HNE2.out _ h rfl); have cI := rI.at (j := 0) rfl; have fI := rI.frozen 0)
      all_goals
        go_wp2
        go_end0
        refine ⟨rfl, HFin.out w3 ro3 rcap3 hown3 (((((Ext.refl wr).drew).alloc _).kp _).trans hk3) (fun g hg => ?_)⟩
        rcases hat3.out with h | h
        · exact Or.inl (h ▸ hg)
        · rw [h] at hg; cases hg; exact Or.inr (Ext.le (((Ext.refl wr).alloc _).drew))
end
end Go.Proofs.YtpbblaeamddbgaaGreat
namespace Go.Proofs.YtpbblaeamddbgaaGreat
open Go.RowKit

theorem osl_of_own' {w : World} {base e size n : Nat} {v : Value} {xs : List Value} (h : w.ownsRow base e size v n xs) (hv : v ≠ .slice none 0 0) : ∃ g cap, v = .slice (some ⟨g, 0, none⟩) n cap ∧ base ≤ g ∧ OSl w e size (some ⟨g, 0, none⟩) n cap xs := by
  obtain ⟨h1, ⟨h2, _⟩ | ⟨g, cap, cur, rfl, hb, r⟩⟩ := h
  · exact absurd h2 hv
  · exact ⟨g, cap, rfl, hb, h1, Or.inr ⟨g, cap, cur, rfl, Nat.zero_le _, r⟩⟩
theorem osl_ixs {w : World} {T : Nat} {ao : Option Addr} {cap : Nat} {xs : List Int} (h : OSl w T 1 ao xs.length cap (xs.map (Value.int .i64))) : Ixs w ao xs := fun hp => by
  obtain ⟨g, L, rfl, hR, _, _, hL, hx⟩ := row_of_osl h hp
  refine ⟨g, 0, rfl, fun j hj => ?_⟩
  rw [Nat.zero_add]
  refine hR.at ?_
  have h1 : (L.take (xs.length * 1))[j]? = (xs.map (Value.int .i64))[j]? := by rw [hx]
  rw [List.getElem?_take, if_pos (by omega)] at h1
  rw [h1]
  simp [hj]

/-- What Build gives. -/
def BuildPost (w : World) (order : List Int) (ks : List (Int × List Cd)) (e : Ending) (w' : World) : Prop :=
  ∃ (tb : Nat) (N : List (Nd Cd)) (R : List NdR) (oa : Option Addr) (oc : Nat), e = .returned (.pointer (some ⟨tb, 0, none⟩)) ∧ TreeAt w' tb (fun b => w.heap.size ≤ b) order N R oa oc ∧ TreeOK Cd.attr ceE order ks N (1 + ks.length * order.length) ∧ Ext w w'

set_option maxHeartbeats 1600000 in
set_option maxRecDepth 100000 in
theorem build_any (ob oo : Nat) (ocap : Nat) (order : List Int) (fa : Option Addr) (fcap : Nat) (es : List Ent) (w : World) (ho1 : 1 ≤ order.length) (ho6 : order.length ≤ 6) (hI : Ints w ob oo order) (hO : OSl w 130 2 fa es.length fcap (es.flatMap Ent.cells)) (hes : es.length ≤ 100)
    (hE : ∀ e ∈ es, Cxs w e.ao e.l ∧ e.l.length ≤ 8 ∧ ∀ c ∈ e.l, c.attr ∈ order ∧ 1 ≤ c.kind ∧ c.kind ≤ 9) (hnd : order.Nodup) (hid : ∀ i j (hi : i < es.length) (hj : j < es.length), i < j → es[i].id ≠ es[j].id) :
    Calls Tryz.prog 107 #[.slice (some ⟨ob, oo, none⟩) order.length ocap, .slice fa es.length fcap] w fun e w' => BuildPost w order (es.map Ent.key) e w' := by
  have HC : Hid _ := Tryz.slices_Clone_int ob oo order.length ocap order w (Nat.le_refl _) (by omega) (fun j hj => by have := hI j hj; simpa [hj] using this)
  have HE : Hid (∀ e ∈ es, Cxs w e.ao e.l ∧ e.l.length ≤ 8 ∧ ∀ c ∈ e.l, c.attr ∈ order ∧ 1 ≤ c.kind ∧ c.kind ≤ 9) := hE
  have HID : Hid (∀ i j (hi : i < es.length) (hj : j < es.length), i < j → es[i].id ≠ es[j].id) := hid
  clear hE hid hI
  go_enter Tryz.func107, Tryz.ntmps107
  go_wp2_with fail
  refine Calls.mono HC.out ?_
  rintro e w2 ⟨v, rfl, hown, hne, hB⟩
  obtain ⟨g, c, rfl, hg, hOo⟩ := osl_of_own' hown hne
  rw [List.take_of_length_le (Nat.le_refl _)] at hOo
  clear hown hne HC
  have hE2 : Ext w w2 := hB
  clear hB
  have hl2 := hE2.le
  obtain ⟨W, hW⟩ : ∃ W, W = (w2.alloc (.cells #[.slice none 0 0, .slice none 0 0] 232)).alloc (.cells #[.slice (some ⟨g, 0, none⟩) order.length c, .pointer (some ⟨w2.heap.size, 0, none⟩), .int .i64 1] 203) := ⟨_, rfl⟩
  have hEW : Ext w2 W := by rw [hW]; exact ((Ext.refl _).alloc _).alloc _
  have hgl := hOo.lt (g := g) rfl
  have r1 : Row W w2.heap.size 232 [.slice none 0 0, .slice none 0 0] := by
    rw [hW]; exact (row_alloc _ _ _ _ _ rfl rfl).ext ((Ext.refl _).alloc _)
  have r2 : Row W (w2.heap.size + 1) 203 [.slice (some ⟨g, 0, none⟩) order.length c, .pointer (some ⟨w2.heap.size, 0, none⟩), .int .i64 1] := by
    rw [hW]; exact row_alloc _ _ _ _ _ (by simp) rfl
  have hzW : W.heap.size = w2.heap.size + 2 := by rw [hW]; simp
  have T0 : TreeAt W (w2.heap.size + 1) (fun b => w.heap.size ≤ b) order [⟨[], [], []⟩] [⟨w2.heap.size, none, 0, none, 0, []⟩] (some ⟨g, 0, none⟩) c := by
    refine ⟨rfl, ⟨w2.heap.size, rfl, r2⟩, (osl_ixs hOo).ext hEW, fun g' hg' => ?_, by omega, fun i hi hr => ?_⟩
    · cases hg'; exact ⟨hg, by show g < _; omega⟩
    · obtain rfl : i = 0 := by simp at hi; omega
      exact ⟨r1, OSl.nil _ _ _, OSl.nil _ _ _, rfl, fun e he => by simp at he, hl2, fun g hg => by simp [blkOf] at hg, fun g hg => by simp [blkOf] at hg⟩
  have S0 : TreeSep (fun b => if b = w2.heap.size + 1 then 1 else if b = w2.heap.size then 2 else 0) W (w2.heap.size + 1) [⟨w2.heap.size, none, 0, none, 0, []⟩] (some ⟨g, 0, none⟩) := by
    refine ⟨by simp, fun i hr => ?_, fun i hr g hg => ?_, fun i hr g hg => ?_, fun i hr x hx => ?_, fun g' hg' => ?_, fun b hb => ?_⟩
    · obtain rfl : i = 0 := by simp at hr; omega
      simp
    · obtain rfl : i = 0 := by simp at hr; omega
      simp [blkOf] at hg
    · obtain rfl : i = 0 := by simp at hr; omega
      simp [blkOf] at hg
    · obtain rfl : i = 0 := by simp at hr; omega
      simp at hx
    · cases hg'
      show (if g = _ then _ else if g = _ then _ else _) = 0
      rw [if_neg (by omega), if_neg (by omega)]
    · show (if b = _ then _ else if b = _ then _ else _) = 0
      rw [if_neg (by omega), if_neg (by omega)]
  have HT0 : Hid _ := T0
  have HS0 : Hid _ := S0
  have HEW : Hid (Ext w W) := hE2.trans hEW
  clear T0 S0 r1 r2 hOo hEW hE2
  go_wp2_with fail
  rw [← hW]
  clear hW
  generalize w2.heap.size + 1 = tb at *
  go_loopw [16] (fun vi wr => ∃ (k : Nat) (N : List (Nd Cd)) (R : List NdR) (own : Nat → Nat), k ≤ es.length ∧ vi = .int .i64 k ∧ TreeOK Cd.attr ceE order ((es.take k).map Ent.key) N (1 + k * order.length) ∧ TreeAt wr tb (fun b => w.heap.size ≤ b) order N R (some ⟨g, 0, none⟩) c ∧ TreeSep own wr tb R (some ⟨g, 0, none⟩) ∧ Ext w wr) (fun vi _ => es.length - (intOf vi).toNat)
  case atStart => exact ⟨0, _, _, _, Nat.zero_le _, rfl, by simpa using tree_start Cd.attr ceE order, HT0.out, HS0.out, HEW.out⟩
  case round =>
    obtain ⟨k, N, R, own, hk, rfl, O, T, S, hEr⟩ := hrel
    by_cases hlt : k < es.length
    · obtain ⟨fb, rfl, e0⟩ := hO.at (ent_at es k hlt).1
      obtain ⟨fb', efb, e1⟩ := hO.at (ent_at es k hlt).2
      cases efb
      have d0 := hEr.cell e0
      have d1 := hEr.cell e1
      have hent := HE.out es[k] (List.getElem_mem hlt)
      have hlr := hEr.le
      have hmul : k * order.length ≤ 99 * 6 := Nat.mul_le_mul (by omega) ho6
      have htk : (es.take (k + 1)).map Ent.key = (es.take k).map Ent.key ++ [(es[k].id, es[k].l)] := by
        rw [List.take_succ_eq_append_getElem hlt, List.map_append]; rfl
      have HP : Hid (∀ o : Obj, Calls Tryz.prog 149 #[.pointer (some ⟨tb, 0, none⟩), .agg #[.int .i64 es[k].id, .slice es[k].ao es[k].l.length es[k].cap]] (wr.alloc o) fun e w' => e = .returned (.tuple #[]) ∧ PutPost (wr.alloc o) tb (fun b => w.heap.size ≤ b) order ((es.take k).map Ent.key ++ [(es[k].id, es[k].l)]) (some ⟨g, 0, none⟩) c (1 + k * order.length + order.length) w') := fun o => by
        have hEo : Ext wr (wr.alloc o) := (Ext.refl _).alloc o
        have hcx := (hent.1.ext hEr).ext hEo
        refine put_any O (T.kp (hEo.kp (fun _ => False)) (fun _ _ h => h)) (S.ahead hEo.le) es[k].id es[k].ao es[k].cap es[k].l hent.2.1 hcx (fun g hg hp => ?_) (by omega) ho6 (by simp; omega) hnd (fun c hc => (hent.2.2 c hc).1) (fun c hc => (hent.2.2 c hc).2) (fun l' hm => ?_) (fun b hb => by have := hEo.le; show _ ≤ _; omega)
        · obtain ⟨b, o, h1, h2⟩ := hent.1 hp
          rw [h1] at hg
          simp [blkOf] at hg
          subst hg
          have := World.block_lt_of_cell? w _ (h2 0 hp).1
          show ¬ _ ≤ _
          simp only at this
          omega
        · simp only [List.mem_map] at hm
          obtain ⟨x, hx, ex⟩ := hm
          obtain ⟨n, hn, rfl⟩ := List.getElem_of_mem hx
          rw [List.getElem_take] at ex
          simp at hn
          have := HID.out n k (by omega) hlt (by omega)
          simp only [Ent.key, Prod.mk.injEq] at ex
          exact this ex.1
      have HTK : Hid _ := htk
      clear e0 e1 hO hent O T S htk
      generalize es[k].id = eid at *
      generalize es[k].ao = eao at *
      generalize es[k].cap = ecap at *
      generalize es[k].l = el at *
      go_wp2_with (go_at_call 149; refine Calls.mono (HP.out _) ?_; rintro e w3 ⟨rfl, N', R', own', O', T', S', hK⟩)
      go_roundw
      case rel =>
        refine ⟨k + 1, N', R', own', by omega, by go_num, ?_, T', S', (hEr.alloc _).kpNew hK (fun _ h => h)⟩
        rw [HTK.out]
        exact O'.mono (by rw [Nat.add_mul]; omega)
      case measure => simp [intOf]; omega
    · have e1 : es.take k = es := List.take_of_length_le (by omega)
      rw [e1] at O
      have ek : k = es.length := by omega
      have O2 : TreeOK Cd.attr ceE order (es.map Ent.key) N (1 + (es.map Ent.key).length * order.length) := by rw [List.length_map, ← ek]; exact O
      have HX : Hid (BuildPost w order (es.map Ent.key) (.returned (.pointer (some ⟨tb, 0, none⟩))) wr) := ⟨tb, N, R, _, _, rfl, T, O2, hEr⟩
      clear O2
      clear O T S hO
      go_wp2
      go_ret
      exact HX.out
end Go.Proofs.YtpbblaeamddbgaaGreat
