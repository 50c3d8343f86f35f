import Derived.Test.YtpbblaeamddbgaaGreatGR
import Derived.Test.YtpbblaeamddbgaaGreatGQ
import Derived.Test.YtpbblaeamddbgaaGreatGD
namespace Go.Proofs.YtpbblaeamddbgaaGreat
open Go.RowKit

theorem late_set (d : Int) (tp : Option Addr) (t : Option Addr) : ((((lateCells d tp).set 1 (.int .i32 1)).set 3 (.pointer t)).set 0 (.int .u32 1)).set 1 (.int .i32 0) = lateCells 1 t := rfl

/-- What the first asking leaves. -/
def DoPost (W : World) (lb : Nat) (order : List Int) (ks : List (Int × List Cd)) (w' : World) : Prop :=
  ∃ (tb : Nat) (N : List (Nd Cd)) (R : List NdR) (oa : Option Addr) (oc : Nat), Kp (fun b => b = lb) W w' ∧ Row w' lb 125 (lateCells 1 (some ⟨tb, 0, none⟩)) ∧ TreeAt w' tb (fun b => W.heap.size ≤ b) order N R oa oc ∧ TreeOK Cd.attr ceE order ks N (1 + ks.length * order.length)

section
variable {w : World} {eb : Nat} {tg : Nat → Nat} {own : Nat → ITag} {sch : List Int} {r : EngR}
theorem EngS.at (S : EngS w eb tg own sch r) {j : Nat} {v : Value} (hj : (r.pre sch.length)[j]? = some v) : w.cell? ⟨eb, j, none⟩ = some v := by
  have h4 : j < (r.pre sch.length).length := (List.getElem?_eq_some_iff.1 hj).1
  exact S.ix.row.at (by rw [eng_pre _ _ _ _ _ _ j h4]; exact hj)
theorem EngS.ids (S : EngS w eb tg own sch r) : ∀ i j (hi : i < r.es.length) (hj : j < r.es.length), i < j → r.es[i].id ≠ r.es[j].id := fun i j hi hj hij e => by
  have h := S.srt i j (by simpa [EngR.ks] using hi) (by simpa [EngR.ks] using hj) hij
  simp only [EngR.ks, List.getElem_map, Ent.key] at h
  omega

theorem do_tree (S : EngS w eb tg own sch r) (hd : r.d = 0) (pe pl : Nat) (hpe : w.cell? ⟨pe, 0, none⟩ = some (.pointer (some ⟨eb, 0, none⟩))) (hpl : w.cell? ⟨pl, 0, none⟩ = some (.pointer (some ⟨r.lb, 0, none⟩))) (ne : pe ≠ r.lb) (nl : pl ≠ r.lb) :
    Calls Tryz.prog 105 #[.pointer (some ⟨r.lb, 0, none⟩), .func (.func 106) #[] #[.pointer (some ⟨pe, 0, none⟩), .pointer (some ⟨pl, 0, none⟩)]] w fun e w' => e = .returned (.tuple #[]) ∧ DoPost w r.lb r.order r.ks w' := by
  have hl := S.l
  rw [hd] at hl
  obtain ⟨W, hW⟩ : ∃ W, W = w.setCell ⟨r.lb, 1, none⟩ (.int .i32 1) := ⟨_, rfl⟩
  have hk : Kp (fun b => b = r.lb) w W := by rw [hW]; exact (Kp.refl (fun b => b = r.lb) w).setCell (fun _ => rfl) _
  have hW1 : Row W r.lb 125 ((lateCells 0 r.tp).set 1 (.int .i32 1)) := by rw [hW]; exact hl.set 1 _
  have hsz : W.heap.size = w.heap.size := by rw [hW]; simp
  have hnl : ∀ b, tg b = 3 → ∀ c, tg c ≠ 3 → ¬ c = b := fun b hb c hc e => by rw [e] at hc; exact hc hb
  have hne : ∀ c, tg c ≠ 3 → ¬ c = r.lb := fun c hc => hnl _ S.tl c hc
  obtain ⟨g1, g2, g3, g4⟩ := order_of S.ord
  have h6 := S.s6
  have h1 := S.s1
  refine (do_first r.lb _ w (fun w' => Ask1 W r.lb r.order r.ks w') (hl.at (j := 0) rfl) (hl.at (j := 1) rfl) (hl.frozen 1) ?_).mono ?_
  · rw [← hW]
    refine (ask1 eb r.lb pe pl W r.ob r.oc r.order r.fa r.fcap r.es.length r.ks _ _ (hk.cell hpe ne) (hk.cell hpl nl) (hk.cell (S.at (j := 1) rfl) (hne _ (by rw [S.te]; decide))) (hk.cell (S.at (j := 2) rfl) (hne _ (by rw [S.te]; decide))) hW1 (show 3 < 4 by decide) ?_).mono ?_
    · intro W' hE
      have hkk : Kp (fun b => b = r.lb) w W' := hk.trans (hE.kp _)
      refine build_any r.ob 0 r.oc r.order r.fa r.fcap r.es W' (by omega) (by omega) (S.o.kp hkk (hne _ (by rw [S.to]; decide))) (S.f.kp hkk (fun g hg => hne _ (by rw [S.tf g hg]; decide))) S.hun (fun e he => ⟨?_, (S.ok e he).2.2.1, fun c hc => ?_⟩) g3 S.ids
      · intro _
        obtain ⟨b, h1, h2, h3⟩ := S.en e he
        exact ⟨b, 0, h1, h2.kp hkk (hne _ (by rw [h3]; decide))⟩
      · have hm := may_of ((S.ok e he).2.2.2 c hc)
        exact ⟨g4 c.attr hm.1 hm.2.1, hm.2.2⟩
    · rintro e w' ⟨rfl, tb, N, R, oa, oc, W2, hT, hO, hE, rfl⟩
      have hr2 := (hW1.ext hE).set 3 (.pointer (some ⟨tb, 0, none⟩))
      exact ⟨rfl, ⟨tb, N, R, oa, oc, W2, hT, hO, hE, rfl⟩, hr2.at (j := 0) rfl, hr2.at (j := 1) rfl, hr2.frozen 0, hr2.frozen 1⟩
  · rintro e w' ⟨rfl, w2, ⟨tb, N, R, oa, oc, W2, hT, hO, hE, rfl⟩, rfl⟩
    have hr2 := (((hW1.ext hE).set 3 (.pointer (some ⟨tb, 0, none⟩))).ext ((Ext.refl _).drew)).set 0 (.int .u32 1)
    have hr3 := hr2.set 1 (.int .i32 0)
    have hk2 : Kp (fun b => b = r.lb) W2 (((W2.setCell ⟨r.lb, 3, none⟩ (.pointer (some ⟨tb, 0, none⟩))).drew.setCell ⟨r.lb, 0, none⟩ (.int .u32 1)).setCell ⟨r.lb, 1, none⟩ (.int .i32 0)) :=
      ((((Kp.refl (fun b => b = r.lb) W2).setCell (fun _ => rfl) _).trans (((Ext.refl _).drew).kp _)).setCell (fun _ => rfl) _).setCell (fun _ => rfl) _
    refine ⟨rfl, tb, N, R, oa, oc, (hk.trans (hE.kp _)).trans hk2, hr3, ?_, hO⟩
    rw [hsz] at hT
    exact hT.kp hk2 (fun b hb e => by have := S.l.lt; omega)

end
end Go.Proofs.YtpbblaeamddbgaaGreat
namespace Go.Proofs.YtpbblaeamddbgaaGreat
open Go.RowKit
section
variable {w : World} {eb : Nat} {tg : Nat → Nat} {own : Nat → ITag} {sch : List Int} {r : EngR}
/-- What askTree leaves. -/
def AskPost (w : World) (eb : Nat) (tg : Nat → Nat) (own : Nat → ITag) (sch : List Int) (r : EngR) (e : Ending) (w' : World) : Prop :=
  ∃ tg' tb, e = .returned (.pointer (some ⟨tb, 0, none⟩)) ∧ EngS w' eb tg' own sch { r with d := 1, tp := some ⟨tb, 0, none⟩ } ∧ (∀ b, b < w.heap.size → tg' b = tg b) ∧ (∀ b, tg' b ≠ 0 → tg b ≠ 0 ∨ (w.heap.size ≤ b ∧ b < w'.heap.size)) ∧ Kp (fun b => b = r.lb) w w'

theorem ask_fin (S : EngS w eb tg own sch r) {W w' : World} (hE : Ext w W) (h : DoPost W r.lb r.order r.ks w') : ∃ tb, w'.cell? ⟨r.lb, 3, none⟩ = some (.pointer (some ⟨tb, 0, none⟩)) ∧ AskPost w eb tg own sch r (.returned (.pointer (some ⟨tb, 0, none⟩))) w' := by
  obtain ⟨tb, N, R, oa, oc, hK, hr, hT, hO⟩ := h
  have S1 := S.ext hE
  have z := hE.le
  obtain ⟨tg', S2, h1, h2⟩ := S1.asked hK hr hT hO
  refine ⟨tb, hr.at (j := 3) rfl, tg', tb, rfl, S2, fun b hb => h1 b (by omega), fun b hb => ?_, (hE.kp _).trans hK⟩
  rcases h2 b hb with h | h
  · exact Or.inl h
  · exact Or.inr ⟨by omega, h.2⟩

set_option maxHeartbeats 1600000 in
set_option maxRecDepth 100000 in
theorem ask_any (S : EngS w eb tg own sch r) : Calls Tryz.prog 55 #[.pointer (some ⟨eb, 0, none⟩)] w fun e w' => AskPost w eb tg own sch r e w' := by
  have c3 := S.at (j := 3) rfl
  have c3A : ∀ ob : Obj, (w.alloc ob).cell? ⟨eb, 3, none⟩ = some (.pointer (some ⟨r.lb, 0, none⟩)) := fun ob => ((Ext.refl _).alloc ob).cell c3
  have hll := S.l.lt
  have hmf : ∀ (fn : Fn) (first cap : Array Value) (w : World), (Instr.makeFunc fn first cap).run Tryz.prog w = .ok (.func fn first cap) w := fun _ _ _ _ => rfl
  have HF : Hid (∀ {W w' : World}, Ext w W → DoPost W r.lb r.order r.ks w' → _) := fun {W w'} hE h => ask_fin S hE h
  rcases S.tr with hd | ⟨hd, tb, N, R, oa, oc, htp, hT, hO⟩
  · have HD : Hid (∀ W, Ext w W → W.cell? ⟨w.heap.size, 0, none⟩ = some (.pointer (some ⟨eb, 0, none⟩)) → W.cell? ⟨w.heap.size + 1, 0, none⟩ = some (.pointer (some ⟨r.lb, 0, none⟩)) → Calls Tryz.prog 105 #[.pointer (some ⟨r.lb, 0, none⟩), .func (.func 106) #[] #[.pointer (some ⟨w.heap.size, 0, none⟩), .pointer (some ⟨w.heap.size + 1, 0, none⟩)]] W fun e w' => e = .returned (.tuple #[]) ∧ DoPost W r.lb r.order r.ks w') := fun W hE h1 h2 => do_tree (S.ext hE) hd _ _ h1 h2 (by omega) (by omega)
    clear hd
    obtain ⟨W0, hW0⟩ : ∃ W0, W0 = (w.alloc (.cells #[.pointer (some ⟨eb, 0, none⟩)] 33)).alloc (.cells #[.pointer (some ⟨r.lb, 0, none⟩)] 99) := ⟨_, rfl⟩
    have hE0 : Ext w W0 := by rw [hW0]; exact ((Ext.refl _).alloc _).alloc _
    have p0 : W0.cell? ⟨w.heap.size, 0, none⟩ = some (.pointer (some ⟨eb, 0, none⟩)) := by
      rw [hW0]; exact ((Ext.refl _).alloc _).cell (cell_new w #[.pointer (some ⟨eb, 0, none⟩)] 33 w.heap.size 0 rfl rfl)
    have p1 : W0.cell? ⟨w.heap.size + 1, 0, none⟩ = some (.pointer (some ⟨r.lb, 0, none⟩)) := by
      rw [hW0]; exact cell_new _ #[.pointer (some ⟨r.lb, 0, none⟩)] 99 (w.heap.size + 1) 0 (by simp) rfl
    go_enter Tryz.func55, Tryz.ntmps55
    go_wp2_with fail
    rw [← hW0]
    refine Calls.mono (HD.out W0 hE0 p0 p1) ?_
    rintro e w1 ⟨rfl, hP⟩
    obtain ⟨tb, c1, hfin⟩ := HF.out hE0 hP
    obtain ⟨_, _, _, _, _, hK, _⟩ := hP
    have q1 := hK.cell p1 (by show ¬ w.heap.size + 1 = r.lb; omega)
    clear HD HF p0 p1 hW0 hK
    go_wp2
    go_ret
    exact hfin
  · have hrr : r = { r with d := 1, tp := some ⟨tb, 0, none⟩ } := by
      obtain ⟨a1, a2, a3, a4, a5, a6, a7, a8, a9, a10, a11, a12, a13, a14, a15, a16⟩ := r
      simp only at hd htp
      rw [hd, htp]
    have hl := S.l
    rw [hd, htp] at hl
    have l0 := hl.at (j := 0) rfl
    have l3 := hl.at (j := 3) rfl
    have HS : Hid (EngS w eb tg own sch r) := S
    have HR : Hid (r = { r with d := 1, tp := some ⟨tb, 0, none⟩ }) := hrr
    obtain ⟨W0, hW0⟩ : ∃ W0, W0 = (w.alloc (.cells #[.pointer (some ⟨eb, 0, none⟩)] 33)).alloc (.cells #[.pointer (some ⟨r.lb, 0, none⟩)] 99) := ⟨_, rfl⟩
    have hE0 : Ext w W0 := by rw [hW0]; exact ((Ext.refl _).alloc _).alloc _
    have p1 : W0.cell? ⟨w.heap.size + 1, 0, none⟩ = some (.pointer (some ⟨r.lb, 0, none⟩)) := by
      rw [hW0]; exact cell_new _ #[.pointer (some ⟨r.lb, 0, none⟩)] 99 (w.heap.size + 1) 0 (by simp) rfl
    have m0 := hE0.cell l0
    have m3 := hE0.cell l3
    clear hd htp hT hO hrr hl S HF l0 l3
    go_enter Tryz.func55, Tryz.ntmps55
    go_wp2_with fail
    rw [← hW0]
    refine Calls.mono (do_done _ _ W0 m0) ?_
    rintro e w1 ⟨rfl, rfl⟩
    clear hW0
    go_wp2
    go_ret
    refine ⟨tg, tb, rfl, ?_, fun b _ => rfl, fun b hb => Or.inl hb, hE0.kp _⟩
    rw [← HR.out]
    exact HS.out.ext hE0
end
end Go.Proofs.YtpbblaeamddbgaaGreat
namespace Go.Proofs.YtpbblaeamddbgaaGreat
open Go.RowKit

/-- One event more. -/
def nxt (n : Int) : Int := IntKind.i64.wrap (n + 1)
/-- What a way of matching leaves. -/
def MetPost (w : World) (eb : Nat) (tg : Nat → Nat) (own : Nat → ITag) (sch : List Int) (r : EngR) (f : Int → Option Vl) (e : Ending) (w' : World) : Prop :=
  ∃ ro rcap tg' r', e = .returned (.slice ro (metIds r.ks f).length rcap) ∧ OSl w' 3 1 ro (metIds r.ks f).length rcap ((metIds r.ks f).map (Value.int .i64)) ∧ (∀ g, blkOf ro = some g → w.heap.size ≤ g ∧ tg' g = 0) ∧ EngS w' eb tg' own sch r' ∧ r'.es = r.es ∧ r'.n = r.n ∧ (∀ b, tg' b ≠ 0 → tg b ≠ 0 ∨ (w.heap.size ≤ b ∧ b < w'.heap.size)) ∧ Kp (fun b => b = r.lb) w w'
section
variable {w : World} {eb : Nat} {tg : Nat → Nat} {own : Nat → ITag} {sch : List Int} {r : EngR}
theorem metBy_any (S : EngS w eb tg own sch r) (vb : Nat) (f : Int → Option Vl) (hev : Row w vb 166 (evCells f)) (hvb : vb ≠ r.lb) :
    Calls Tryz.prog 42 #[.pointer (some ⟨eb, 0, none⟩), .pointer (some ⟨vb, 0, none⟩)] w fun e w' => MetPost w eb tg own sch r f e w' := by
  have HA : Hid _ := ask_any S
  go_enter Tryz.func42, Tryz.ntmps42
  go_wp2_with fail
  refine Calls.mono HA.out ?_
  rintro e w1 ⟨tg', tb, rfl, S1, h1, h2, hK⟩
  have HM : Hid _ := S1.met rfl tb rfl vb f (hK.row hev hvb)
  go_wp2_with fail
  refine Calls.mono HM.out ?_
  rintro e w2 ⟨ro, rcap, rfl, hO, hn, hE⟩
  go_wp2
  go_ret
  have z1 := hK.size
  have z2 := hE.le
  refine ⟨ro, rcap, tg', _, rfl, hO, fun g hg => ?_, S1.ext hE, rfl, rfl, fun b hb => ?_, hK.trans (hE.kp _)⟩
  · have h3 := hn g hg
    refine ⟨by omega, ?_⟩
    apply Classical.byContradiction
    intro h4
    have := S1.lt g h4
    omega
  · rcases h2 b hb with h | h
    · exact Or.inl h
    · exact Or.inr ⟨h.1, by omega⟩
theorem idxBy_any (S : EngS w eb tg own sch r) (vb : Nat) (f : Int → Option Vl) (hev : Row w vb 166 (evCells f)) (hf : ∀ a v, f a = some v → 0 ≤ a → fitsB (sch.getD a.toNat 0) v = true) :
    Calls Tryz.prog 43 #[.pointer (some ⟨eb, 4, none⟩), .pointer (some ⟨vb, 0, none⟩)] w fun e w' => MetPost w eb tg own sch r f e w' := by
  refine (S.imet vb f hev hf).mono ?_
  rintro e w2 ⟨ro, rcap, rfl, hO, hn, hE⟩
  refine ⟨ro, rcap, tg, r, rfl, hO, fun g hg => ⟨hn g hg, ?_⟩, S.ext hE, rfl, rfl, fun b hb => Or.inl hb, hE.kp _⟩
  apply Classical.byContradiction
  intro h4
  have := S.lt g h4
  have := hn g hg
  omega

theorem atomAdd (a : Addr) (n : Int) (w : World) (hc : w.cell? a = some (.int .i64 n)) (hz : w.frozen? a = false) :
    (callFunc 169 #[.pointer (some a), .int .i64 1]).run Tryz.prog w = .ok (.value (.int .i64 (nxt n))) (w.setCell a (.int .i64 (nxt n))) :=
  run_call_add (P := Tryz.prog) Tryz.func169 (by kernel_rfl) (by kernel_rfl) (by kernel_rfl) .i64 (by kernel_rfl) (y := 1) (s := nxt n) hc hz (by simp [go_sem, nxt])
theorem add64 (a : Addr) (n : Int) (w : World) (hc : w.cell? a = some (.int .i64 n)) (hz : w.frozen? a = false) :
    Calls Tryz.prog 126 #[.pointer (some a), .int .i64 1] w fun e w' => e = .returned (.int .i64 (nxt n)) ∧ w' = w.setCell a (.int .i64 (nxt n)) := by
  have hadd := atomAdd a n w hc hz
  go_enter Tryz.func126, Tryz.ntmps126
  go_wp2
  go_ret
  exact ⟨rfl, rfl⟩

theorem EngS.evc (S : EngS w eb tg own sch r) : w.cell? ⟨eb, 65, none⟩ = some (.int .i64 r.n) := S.ix.row.at (eng_ev _ rfl _ _ _ _ _)
/-- An event is counted, then matched by the given way. -/
def CntPost (w : World) (eb : Nat) (tg : Nat → Nat) (own : Nat → ITag) (sch : List Int) (r : EngR) (f : Int → Option Vl) (e : Ending) (w' : World) : Prop :=
  ∃ ro rcap tg' r', e = .returned (.slice ro (metIds r.ks f).length rcap) ∧ OSl w' 3 1 ro (metIds r.ks f).length rcap ((metIds r.ks f).map (Value.int .i64)) ∧ (∀ g, blkOf ro = some g → w.heap.size ≤ g ∧ tg' g = 0) ∧ EngS w' eb tg' own sch r' ∧ r'.es = r.es ∧ r'.n = nxt r.n ∧ (∀ b, tg' b ≠ 0 → tg b ≠ 0 ∨ (w.heap.size ≤ b ∧ b < w'.heap.size)) ∧ Kp (fun b => tg b ≠ 0) w w'
theorem cnt_of (S : EngS w eb tg own sch r) (f : Int → Option Vl) (e : Ending) (w' : World) (h : MetPost (w.setCell ⟨eb, 65, none⟩ (.int .i64 (nxt r.n))) eb tg own sch { r with n := nxt r.n } f e w') : CntPost w eb tg own sch r f e w' := by
  obtain ⟨ro, rcap, tg', r', rfl, hO, h1, S', h2, h3, h4, hK⟩ := h
  have hsz : (w.setCell ⟨eb, 65, none⟩ (.int .i64 (nxt r.n))).heap.size = w.heap.size := by simp
  rw [hsz] at h1 h4
  have hk : Kp (fun b => tg b ≠ 0) w (w.setCell ⟨eb, 65, none⟩ (.int .i64 (nxt r.n))) := (Kp.refl _ w).setCell (fun _ => by rw [S.te]; decide) _
  exact ⟨ro, rcap, tg', r', rfl, hO, h1, S', h2, h3, h4, hk.trans (hK.mono (fun b _ e => by rw [e]; show tg r.lb ≠ 0; rw [S.tl]; decide))⟩
theorem cntTree (S : EngS w eb tg own sch r) (vb : Nat) (f : Int → Option Vl) (hev : Row w vb 166 (evCells f)) (hvb : tg vb = 0) :
    Calls Tryz.prog 80 #[.pointer (some ⟨eb, 0, none⟩), .pointer (some ⟨vb, 0, none⟩), .func (.func 42) #[.pointer (some ⟨eb, 0, none⟩)] #[]] w fun e w' => CntPost w eb tg own sch r f e w' := by
  have HA : Hid _ := add64 ⟨eb, 65, none⟩ r.n w S.evc (S.ix.row.frozen 65)
  have nv : ¬ vb = eb := fun e => by have h := S.te; rw [← e, hvb] at h; omega
  have nl : vb ≠ r.lb := fun e => by have h := S.tl; rw [← e, hvb] at h; omega
  have HM : Hid _ := metBy_any (S.countd (nxt r.n)) vb f (hev.setOther (p := ⟨eb, 65, none⟩) (fun e => nv e.symm) _) nl
  have HC : Hid (∀ e w', _ → CntPost w eb tg own sch r f e w') := fun e w' => cnt_of S f e w'
  clear hev
  go_enter Tryz.func80, Tryz.ntmps80
  go_wp2_with fail
  refine Calls.mono HA.out ?_
  rintro e w1 ⟨rfl, rfl⟩
  go_wp2_with fail
  refine Calls.mono HM.out ?_
  rintro e w2 hP
  have hQ := HC.out _ _ hP
  obtain ⟨ro, rcap, tg', r', rfl, hh⟩ := hQ
  go_wp2
  go_ret
  exact ⟨ro, rcap, tg', r', rfl, hh⟩
theorem cntIdx (S : EngS w eb tg own sch r) (vb : Nat) (f : Int → Option Vl) (hev : Row w vb 166 (evCells f)) (hvb : tg vb = 0) (hf : ∀ a v, f a = some v → 0 ≤ a → fitsB (sch.getD a.toNat 0) v = true) :
    Calls Tryz.prog 80 #[.pointer (some ⟨eb, 0, none⟩), .pointer (some ⟨vb, 0, none⟩), .func (.func 43) #[.pointer (some ⟨eb, 4, none⟩)] #[]] w fun e w' => CntPost w eb tg own sch r f e w' := by
  have HA : Hid _ := add64 ⟨eb, 65, none⟩ r.n w S.evc (S.ix.row.frozen 65)
  have nv : ¬ vb = eb := fun e => by have h := S.te; rw [← e, hvb] at h; omega
  have HM : Hid _ := idxBy_any (S.countd (nxt r.n)) vb f (hev.setOther (p := ⟨eb, 65, none⟩) (fun e => nv e.symm) _) hf
  have HC : Hid (∀ e w', _ → CntPost w eb tg own sch r f e w') := fun e w' => cnt_of S f e w'
  clear hev
  go_enter Tryz.func80, Tryz.ntmps80
  go_wp2_with fail
  refine Calls.mono HA.out ?_
  rintro e w1 ⟨rfl, rfl⟩
  go_wp2_with fail
  refine Calls.mono HM.out ?_
  rintro e w2 hP
  have hQ := HC.out _ _ hP
  obtain ⟨ro, rcap, tg', r', rfl, hh⟩ := hQ
  go_wp2
  go_ret
  exact ⟨ro, rcap, tg', r', rfl, hh⟩
end
end Go.Proofs.YtpbblaeamddbgaaGreat
namespace Go.Proofs.YtpbblaeamddbgaaGreat
open Go.RowKit

set_option maxHeartbeats 1600000 in
set_option maxRecDepth 100000 in
theorem ans_bad (eb sb sc : Nat) (sch : List Int) (ao : Option Addr) (lcap : Nat) (ev : List Fd) (fv : Value) (w : World) (hn : sch.length ≤ 6) (hl : ev.length * 32 ≤ 140737488351232) (hr : w.cell? ⟨eb, 0, none⟩ = some (.slice (some ⟨sb, 0, none⟩) sch.length sc)) (hs : Ints w sb 0 sch) (hf : Fxs w ao ev) (q : Nat) (hq : FirstBad sch ev q) (hql : q < ev.length) :
    Calls Tryz.prog 41 #[.pointer (some ⟨eb, 0, none⟩), .slice ao ev.length lcap, fv] w fun e w' => e = .returned (.tuple #[.slice none 0 0, .int .i64 8, .int .i64 q]) ∧ Ext w w' := by
  have hc := readEvent_any sb 0 sc sch ao lcap ev w hn hl hs hf q hq
  rw [if_pos hql] at hc
  have HC : Hid _ := hc
  obtain ⟨EC, hEC⟩ : ∃ EC, EC = zCells := ⟨_, rfl⟩
  have HL : Hid (EC.length = 18) := by show _ = _; rw [hEC]; rfl
  have HO : Hid (∀ v ∈ EC, v.oneCell' = true) := by show ∀ v ∈ EC, _; rw [hEC]; exact evCells_one _
  rw [← hEC] at HC
  clear hc hEC hs hf
  go_enter Tryz.func41, Tryz.ntmps41
  go_wp2_with fail
  refine Calls.mono HC.out ?_
  rintro e w1 ⟨rfl, hE⟩
  go_wp2_with (first
    | (refine wpList_store_row rfl 166 _ _ rfl w1.heap.size EC zCells rfl rfl 166 (row_alloc _ _ _ _ _ rfl rfl) (by rw [HL.out]; rfl) (by rw [HL.out]; exact Tryz.infoEv) HO.out ?_; intro w2 hA2 hk2))
  go_ret3
  exact ⟨rfl, (hE.alloc _).kpFresh hk2 hE.le⟩

/-- What an answer to an event that may be leaves. -/
def AnsPost (w : World) (eb : Nat) (tg : Nat → Nat) (own : Nat → ITag) (sch : List Int) (r : EngR) (f : Int → Option Vl) (e : Ending) (w' : World) : Prop :=
  ∃ ro rcap tg' r', e = .returned (.tuple #[.slice ro (metIds r.ks f).length rcap, .int .i64 0, .int .i64 0]) ∧ OSl w' 3 1 ro (metIds r.ks f).length rcap ((metIds r.ks f).map (Value.int .i64)) ∧ (∀ g, blkOf ro = some g → w.heap.size ≤ g ∧ tg' g = 0) ∧ EngS w' eb tg' own sch r' ∧ r'.es = r.es ∧ r'.n = nxt r.n ∧ (∀ b, tg' b ≠ 0 → tg b ≠ 0 ∨ (w.heap.size ≤ b ∧ b < w'.heap.size)) ∧ Kp (fun b => tg b ≠ 0) w w'
section
variable {w : World} {eb : Nat} {tg : Nat → Nat} {own : Nat → ITag} {sch : List Int} {r : EngR}
set_option maxHeartbeats 1600000 in
set_option maxRecDepth 100000 in
theorem ans_ok (S : EngS w eb tg own sch r) (ao : Option Addr) (lcap : Nat) (ev : List Fd) (fv : Value) (hl : ev.length * 32 ≤ 140737488351232) (hf : Fxs w ao ev) (hq : FirstBad sch ev ev.length)
    (HCt : ∀ W vb, Ext w W → Row W vb 166 (evCells (fo ev)) → w.heap.size ≤ vb → Calls Tryz.prog 80 #[.pointer (some ⟨eb, 0, none⟩), .pointer (some ⟨vb, 0, none⟩), fv] W fun e w' => CntPost W eb tg own sch r (fo ev) e w') :
    Calls Tryz.prog 41 #[.pointer (some ⟨eb, 0, none⟩), .slice ao ev.length lcap, fv] w fun e w' => AnsPost w eb tg own sch r (fo ev) e w' := by
  have hr := S.at (j := 0) rfl
  have hc := readEvent_any r.sb 0 r.sc sch ao lcap ev w S.s6 hl S.s hf ev.length hq
  rw [if_neg (Nat.lt_irrefl _)] at hc
  have HC : Hid _ := hc
  have HCC : Hid _ := HCt
  obtain ⟨EC, hEC⟩ : ∃ EC, EC = evCells (fo ev) := ⟨_, rfl⟩
  have HEC : Hid (EC = evCells (fo ev)) := hEC
  have HL : Hid (EC.length = 18) := by show _ = _; rw [hEC]; rfl
  have HO : Hid (∀ v ∈ EC, v.oneCell' = true) := by show ∀ v ∈ EC, _; rw [hEC]; exact evCells_one _
  rw [← hEC] at HC
  clear hc hEC HCt hf S
  go_enter Tryz.func41, Tryz.ntmps41
  go_wp2_with fail
  refine Calls.mono HC.out ?_
  rintro e w1 ⟨rfl, hE⟩
  go_wp2_with (first
    | (refine wpList_store_row rfl 166 _ _ rfl w1.heap.size EC zCells rfl rfl 166 (row_alloc _ _ _ _ _ rfl rfl) (by rw [HL.out]; rfl) (by rw [HL.out]; exact Tryz.infoEv) HO.out ?_; intro W hA2 hk2; have hEW : Ext w W := (hE.alloc _).kpFresh hk2 hE.le))
  refine Calls.mono (HCC.out W w1.heap.size hEW (by rw [← HEC.out]; exact hA2) hE.le) ?_
  rintro e w2 ⟨ro, rcap, tg', r', rfl, hO, hn, S', h1, h2, h3, h4⟩
  have z := hEW.le
  clear HCC HEC HL HO HC hA2 hk2
  go_wp2
  go_ret3
  refine ⟨ro, rcap, tg', r', rfl, hO, fun g hg => ⟨by have := (hn g hg).1; omega, (hn g hg).2⟩, S', h1, h2, fun b hb => ?_, (hEW.kp _).trans h4⟩
  rcases h3 b hb with h | h
  · exact Or.inl h
  · exact Or.inr ⟨by omega, h.2⟩
theorem EngS.new0 (S : EngS w eb tg own sch r) {b : Nat} (hb : w.heap.size ≤ b) : tg b = 0 := by
  apply Classical.byContradiction
  intro h
  have := S.lt b h
  omega
end
def maN (ev : List Fd) (q : Nat) (n : Int) : Int := if q < ev.length then n else nxt n
/-- What Match, ByTree and ByCount leave. -/
def MaPost (w : World) (eb : Nat) (F : Nat → Prop) (sch : List Int) (flt : List (Int × List Cd)) (n : Int) (ev : List Fd) (q : Nat) (e : Ending) (w' : World) : Prop :=
  ∃ ro rcap F', e = .returned (.tuple #[.slice ro (maIds flt ev q).length rcap, .int .i64 (maErr ev q), .int .i64 (maPlace ev q)]) ∧ OSl w' 3 1 ro (maIds flt ev q).length rcap ((maIds flt ev q).map (Value.int .i64))
      ∧ (∀ g, blkOf ro = some g → w.heap.size ≤ g ∧ ¬ F' g) ∧ Kp F w w' ∧ EngAt w' eb F' sch flt (maN ev q n) ∧ ∀ b, F' b → Grow F w w' b
theorem ans_any (eb : Nat) (F : Nat → Prop) (sch : List Int) (flt : List (Int × List Cd)) (n : Int) (ao : Option Addr) (lcap : Nat) (ev : List Fd) (w : World) (hl : ev.length * 32 ≤ 140737488351232) (hE : EngAt w eb F sch flt n) (hfx : Fxs w ao ev) (q : Nat) (hq : FirstBad sch ev q) (fv : Value)
    (hfv : fv = .func (.func 42) #[.pointer (some ⟨eb, 0, none⟩)] #[] ∨ fv = .func (.func 43) #[.pointer (some ⟨eb, 4, none⟩)] #[]) :
    Calls Tryz.prog 41 #[.pointer (some ⟨eb, 0, none⟩), .slice ao ev.length lcap, fv] w fun e w' => MaPost w eb F sch flt n ev q e w' := by
  obtain ⟨tg, own, r, S, hF, hA, hn⟩ := hE
  by_cases hql : q < ev.length
  · have e1 : maIds flt ev q = [] := by simp [maIds, hql]
    have e2 : maErr ev q = 8 := by simp [maErr, hql]
    have e3 : maPlace ev q = q := by simp [maPlace, hql]
    have e4 : maN ev q n = n := by simp [maN, hql]
    refine (ans_bad eb r.sb r.sc sch ao lcap ev fv w S.s6 hl (S.at (j := 0) rfl) S.s hfx q hq hql).mono ?_
    rintro e w' ⟨rfl, hE'⟩
    unfold MaPost
    rw [e1, e2, e3, e4]
    exact ⟨none, 0, fun b => tg b ≠ 0, rfl, OSl.nil _ _ _, (fun g hg => by cases hg), hE'.kp _, ⟨tg, own, r, S.ext hE', fun b hb => hb, hA, hn⟩, fun b hb => Or.inl (hF b hb)⟩
  · have e1 : maIds flt ev q = metIds r.ks (fo ev) := by simp only [maIds, hql, if_false]; exact (hA.met (fo ev)).symm
    have e2 : maErr ev q = 0 := by simp [maErr, hql]
    have e3 : maPlace ev q = 0 := by simp [maPlace, hql]
    have e4 : maN ev q n = nxt n := by simp [maN, hql]
    obtain rfl : q = ev.length := by have := hq.1; omega
    have hf : ∀ a v, fo ev a = some v → 0 ≤ a → fitsB (sch.getD a.toNat 0) v = true := fun a v hv _ => fo_fits hq a v hv
    refine (ans_ok S ao lcap ev fv hl hfx hq ?_).mono ?_
    · intro W vb hEW hrow hvb
      rcases hfv with rfl | rfl
      · exact cntTree (S.ext hEW) vb (fo ev) hrow (S.new0 hvb)
      · exact cntIdx (S.ext hEW) vb (fo ev) hrow (S.new0 hvb) hf
    · rintro e w' ⟨ro, rcap, tg', r', rfl, hO, hn', S', h1, h2, h3, h4⟩
      unfold MaPost
      rw [e1, e2, e3, e4]
      refine ⟨ro, rcap, fun b => tg' b ≠ 0, rfl, hO, fun g hg => ⟨(hn' g hg).1, fun h => h (hn' g hg).2⟩, h4.mono (fun b _ hb => hF b hb), ⟨tg', own, r', S', fun b hb => hb, by rw [h1]; exact hA, by rw [h2, hn]⟩, fun b hb => ?_⟩
      rcases h3 b hb with h | h
      · exact Or.inl (hF b h)
      · exact Or.inr h
theorem match_any (eb : Nat) (F : Nat → Prop) (sch : List Int) (flt : List (Int × List Cd)) (n : Int) (ao : Option Addr) (lcap : Nat) (ev : List Fd) (w : World) (hl : ev.length * 32 ≤ 140737488351232) (hE : EngAt w eb F sch flt n) (hfx : Fxs w ao ev) (q : Nat) (hq : FirstBad sch ev q) : Calls Tryz.prog 16 #[.pointer (some ⟨eb, 0, none⟩), .slice ao ev.length lcap] w fun e w' => MaPost w eb F sch flt n ev q e w' := by
  have HA : Hid _ := ans_any eb F sch flt n ao lcap ev w hl hE hfx q hq _ (Or.inl rfl)
  have hmf : ∀ (fn : Fn) (first cap : Array Value) (w : World), (Instr.makeFunc fn first cap).run Tryz.prog w = .ok (.func fn first cap) w := fun _ _ _ _ => rfl
  clear hl hE hfx hq
  go_enter Tryz.func16, Tryz.ntmps16
  go_wp2_with fail
  refine Calls.mono HA.out ?_
  rintro e w1 ⟨ro, rcap, F', rfl, hh⟩
  clear HA
  go_wp2
  go_ret3
  exact ⟨ro, rcap, F', rfl, hh⟩
theorem byTree_any (eb : Nat) (F : Nat → Prop) (sch : List Int) (flt : List (Int × List Cd)) (n : Int) (ao : Option Addr) (lcap : Nat) (ev : List Fd) (w : World) (hl : ev.length * 32 ≤ 140737488351232) (hE : EngAt w eb F sch flt n) (hfx : Fxs w ao ev) (q : Nat) (hq : FirstBad sch ev q) : Calls Tryz.prog 17 #[.pointer (some ⟨eb, 0, none⟩), .slice ao ev.length lcap] w fun e w' => MaPost w eb F sch flt n ev q e w' := by
  have HA : Hid _ := ans_any eb F sch flt n ao lcap ev w hl hE hfx q hq _ (Or.inl rfl)
  have hmf : ∀ (fn : Fn) (first cap : Array Value) (w : World), (Instr.makeFunc fn first cap).run Tryz.prog w = .ok (.func fn first cap) w := fun _ _ _ _ => rfl
  clear hl hE hfx hq
  go_enter Tryz.func17, Tryz.ntmps17
  go_wp2_with fail
  refine Calls.mono HA.out ?_
  rintro e w1 ⟨ro, rcap, F', rfl, hh⟩
  clear HA
  go_wp2
  go_ret3
  exact ⟨ro, rcap, F', rfl, hh⟩
theorem byCount_any (eb : Nat) (F : Nat → Prop) (sch : List Int) (flt : List (Int × List Cd)) (n : Int) (ao : Option Addr) (lcap : Nat) (ev : List Fd) (w : World) (hl : ev.length * 32 ≤ 140737488351232) (hE : EngAt w eb F sch flt n) (hfx : Fxs w ao ev) (q : Nat) (hq : FirstBad sch ev q) : Calls Tryz.prog 18 #[.pointer (some ⟨eb, 0, none⟩), .slice ao ev.length lcap] w fun e w' => MaPost w eb F sch flt n ev q e w' := by
  have HA : Hid _ := ans_any eb F sch flt n ao lcap ev w hl hE hfx q hq _ (Or.inr rfl)
  have hmf : ∀ (fn : Fn) (first cap : Array Value) (w : World), (Instr.makeFunc fn first cap).run Tryz.prog w = .ok (.func fn first cap) w := fun _ _ _ _ => rfl
  clear hl hE hfx hq
  go_enter Tryz.func18, Tryz.ntmps18
  go_wp2_with fail
  refine Calls.mono HA.out ?_
  rintro e w1 ⟨ro, rcap, F', rfl, hh⟩
  clear HA
  go_wp2
  go_ret3
  exact ⟨ro, rcap, F', rfl, hh⟩
end Go.Proofs.YtpbblaeamddbgaaGreat
