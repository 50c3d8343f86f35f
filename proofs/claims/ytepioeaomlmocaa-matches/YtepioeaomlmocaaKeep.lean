import Derived.Test.YtepioeaomlmocaaMark
namespace Go.Proofs.Ytepioeaomlmocaa
open Go.RowKit

theorem Try.infoLi : (Try.prog.info? 27).map (fun i => (i.zero, i.size, i.bytes)) = some (some (.slice none 0 0), 1, 24) := by kernel_rfl
theorem rep_new (w : World) (T : TypeId) (x : Value) (k : Nat) (cs : Array Value) (hc : cs = (List.replicate k x).toArray) : ∀ j u, (List.replicate k x)[j]? = some u → (w.alloc (.cells cs T)).cell? ((⟨w.heap.size, 0, none⟩ : Addr).add j) = some u := by
  intro j u hj
  rw [add_lt]
  exact cell_new w _ T _ j rfl (by rw [hc]; rw [List.getElem?_toArray]; exact hj)
theorem one_new' (w : World) (T : TypeId) (x : Value) (b : Nat) (hb : b = w.heap.size) : ∀ j u, [x][j]? = some u → (w.alloc (.cells #[x] T)).cell? ((⟨b, 0, none⟩ : Addr).add j) = some u := by
  subst hb; exact one_new w T x
theorem osl_set {w : World} {e : Nat} {ao : Option Addr} {n cap : Nat} {m : Int} {k : Nat} {g : Nat} (hao : ao = some ⟨g, 0, none⟩) {xs : List Value} (h : OSl w e 1 ao n cap xs) : OSl (w.setCell ⟨g, k, none⟩ (.int .i64 m)) e 1 ao n cap (xs.set k (.int .i64 m)) := by
  subst hao
  have := World.ownsRow.stored h k (.int .i64 m)
  exact this.1

theorem hid_of {p : Prop} (h : p) : Hid p := h
theorem kb (ic x : Nat) (h : (ic + 4) * 24 ≤ 140737488355328) (hx : x ≤ ic + 4) : x ≤ maxLen := by unfold maxLen; omega
theorem kc (ic x : Nat) (h : (ic + 4) * 24 ≤ 140737488355328) (hx : x ≤ ic + 4) : x * 24 ≤ 140737488355328 := by omega
/-- Behind the three lists that were appended. -/
structure Mid (w w4 : World) (wb : Nat) (vs : List Value) (ia : Option Addr) (ic icap : Nat) (ivs : List Value) (lo : Option Addr) (n : Nat) (aa ba ca : Option Addr) (mk : Int) : Prop where
  hI : OSl w4 27 1 ia ic icap ivs
  hW : Row w4 wb 61 vs
  mL : MarkAt w4 lo n mk
  mA : MarkAt w4 aa (n + 1) mk
  mB : MarkAt w4 ba (n + 2) mk
  mC : MarkAt w4 ca (n + 3) mk
  kp : Kp (fun b => blkOf lo = some b) w w4
  fA : ∀ g, blkOf aa = some g → (blkOf lo = some g ∨ w.heap.size ≤ g) ∧ g < w4.heap.size
  fB : ∀ g, blkOf ba = some g → (blkOf lo = some g ∨ w.heap.size ≤ g) ∧ g < w4.heap.size
  fC : ∀ g, blkOf ca = some g → (blkOf lo = some g ∨ w.heap.size ≤ g) ∧ g < w4.heap.size
theorem keep_mid {w w1 w2 w3 w4 : World} {wb : Nat} {vs : List Value} {ia : Option Addr} {ic icap : Nat} {ivs : List Value} {lo : Option Addr} {n cap : Nat} {aa ba ca : Option Addr} {mk : Int} {X1 X2 X3 : Obj}
    (hW : Row w wb 61 vs) (hI : OSl w 27 1 ia ic icap ivs) (hK : Kp (fun b => blkOf lo = some b) w w1) (s2 : ∀ g, blkOf lo = some g → g ≠ wb) (s3 : ∀ g, blkOf lo = some g → ¬ blkOf ia = some g)
    (kA : Kp (fun b => blkOf lo = some b) (w1.alloc X1) w2) (fA : Hid (∀ g, blkOf aa = some g → (blkOf lo = some g ∨ (w1.alloc X1).heap.size ≤ g) ∧ g < w2.heap.size)) (mA : MarkAt w2 aa (n + 1) mk)
    (kB : Kp (fun b => blkOf lo = some b) (w2.alloc X2) w3) (maB : Marks mk (w2.alloc X2) w3) (fB : Hid (∀ g, blkOf ba = some g → (blkOf lo = some g ∨ (w2.alloc X2).heap.size ≤ g) ∧ g < w3.heap.size)) (mB : MarkAt w3 ba (n + 2) mk)
    (kC : Kp (fun b => blkOf lo = some b) (w3.alloc X3) w4) (maC : Marks mk (w3.alloc X3) w4) (fC : Hid (∀ g, blkOf ca = some g → (blkOf lo = some g ∨ (w3.alloc X3).heap.size ≤ g) ∧ g < w4.heap.size)) (mC : MarkAt w4 ca (n + 3) mk)
    (hO4 : OSl w4 3 1 lo n cap (List.replicate n (.int .i64 mk))) : Mid w w4 wb vs ia ic icap ivs lo n aa ba ca mk := by
  have al : ∀ (u : World) (X : Obj), Ext u (u.alloc X) := fun u X => (Ext.refl u).alloc X
  have k2 : Kp (fun b => blkOf lo = some b) w w2 := (hK.trans ((al w1 X1).kp _)).trans kA
  have k3 : Kp (fun b => blkOf lo = some b) w w3 := (k2.trans ((al w2 X2).kp _)).trans kB
  have k4 : Kp (fun b => blkOf lo = some b) w w4 := (k3.trans ((al w3 X3).kp _)).trans kC
  have m3 : Marks mk w2 w3 := (Marks.ext (al w2 X2)).trans maB
  have m4 : Marks mk w3 w4 := (Marks.ext (al w3 X3)).trans maC
  have l1 := hK.size
  have l2 := k2.size
  have l3 := k3.size
  have z1 := (al w1 X1).le
  have z2 := (al w2 X2).le
  have z3 := (al w3 X3).le
  have y2 := kB.size
  have y3 := kC.size
  refine ⟨hI.kp k4 (fun g hg hl => s3 g hl hg), k4.row hW (fun h => s2 wb h rfl), hO4.mark, (mA.marks m3).marks m4, mB.marks m4, mC, k4, ?_, ?_, ?_⟩
  · intro g hg
    obtain ⟨h1, h2⟩ := fA.out g hg
    exact ⟨h1.imp (fun h => h) (fun h => by omega), by omega⟩
  · intro g hg
    obtain ⟨h1, h2⟩ := fB.out g hg
    exact ⟨h1.imp (fun h => h) (fun h => by omega), by omega⟩
  · intro g hg
    obtain ⟨h1, h2⟩ := fC.out g hg
    exact ⟨h1.imp (fun h => h) (fun h => by omega), by omega⟩
/-- The book while lists are entered. -/
structure Ids (w4 S : World) (wb : Nat) (v0 v1 v3 v4 v5 : Value) (ia ia' : Option Addr) (c' icap' : Nat) (vs : List Value) : Prop where
  hI : OSl S 27 1 ia' c' icap' vs
  hW : Row S wb 61 [v0, v1, .slice ia' c' icap', v3, v4, v5]
  kp : Kp (fun b => b = wb ∨ blkOf ia = some b) w4 S
  fr : ∀ g, blkOf ia' = some g → (blkOf ia = some g ∨ w4.heap.size ≤ g) ∧ g ≠ wb
theorem ids_step {w4 S w5 : World} {wb : Nat} {v0 v1 v3 v4 v5 : Value} {ia ia1 ia2 : Option Addr} {c1 k1 k2 : Nat} {vs : List Value} {v : Value} {X : Obj} (h : Ids w4 S wb v0 v1 v3 v4 v5 ia ia1 c1 k1 vs)
    (hk : Kp (fun b => blkOf ia1 = some b) (S.alloc X) w5) (hat : Hid (blkOf ia2 = blkOf ia1 ∨ blkOf ia2 = some (S.alloc X).heap.size)) (hI : OSl w5 27 1 ia2 (c1 + 1) k2 (vs ++ [v])) :
    w5.cell? ⟨wb, 2, none⟩ = some (.slice ia1 c1 k1) ∧ w5.frozen? ⟨wb, 2, none⟩ = false ∧ Ids w4 (w5.setCell ⟨wb, 2, none⟩ (.slice ia2 (c1 + 1) k2)) wb v0 v1 v3 v4 v5 ia ia2 (c1 + 1) k2 (vs ++ [v]) := by
  have al : Ext S (S.alloc X) := (Ext.refl S).alloc X
  have hk2 : Kp (fun b => blkOf ia1 = some b) S w5 := (al.kp _).trans hk
  have hne : ¬ blkOf ia1 = some wb := fun e => (h.fr wb e).2 rfl
  have hrow : Row w5 wb 61 [v0, v1, .slice ia1 c1 k1, v3, v4, v5] := hk2.row h.hW hne
  have hwl := h.hW.lt
  have hsz := al.le
  have h4 := h.kp.size
  have hfr : ∀ g, blkOf ia2 = some g → (blkOf ia = some g ∨ w4.heap.size ≤ g) ∧ g ≠ wb := by
    intro g hg
    rcases hat.out with e | e
    · rw [e] at hg; exact h.fr g hg
    · rw [e] at hg; cases hg
      exact ⟨Or.inr (by omega), by omega⟩
  have hset : Kp (fun b => b = wb ∨ blkOf ia = some b) w5 (w5.setCell ⟨wb, 2, none⟩ (.slice ia2 (c1 + 1) k2)) := (Kp.refl (fun b => b = wb ∨ blkOf ia = some b) _).setCell (fun _ => Or.inl rfl) _
  have hset1 : Kp (fun b => b = wb) w5 (w5.setCell ⟨wb, 2, none⟩ (.slice ia2 (c1 + 1) k2)) := (Kp.refl (fun b => b = wb) _).setCell (fun _ => rfl) _
  refine ⟨hrow.at (j := 2) rfl, hrow.frozen 2, hI.kp hset1 (fun g hg => (hfr g hg).2), hrow.set 2 _, ?_, hfr⟩
  refine Kp.trans ?_ hset
  refine ⟨hk2.os.trans h.kp.os, hk2.tape.trans h.kp.tape, hk2.output.trans h.kp.output, Nat.le_trans h4 hk2.size, fun b hb hn => ?_⟩
  rw [hk2.block b (by omega) (fun e => ?_)]
  · exact h.kp.block b hb hn
  · rcases (h.fr b e).1 with e2 | e2
    · exact hn (Or.inr e2)
    · omega

/-- What keep leaves: four lists more in the book, all of one mark. -/
def KeepPost (w w' : World) (wb : Nat) (v0 v1 v3 v4 v5 : Value) (ia : Option Addr) (ic : Nat) (ivs : List Value) (lo : Option Addr) (n cap : Nat) (mk : Int) : Prop :=
  ∃ (ia' : Option Addr) (icap' : Nat) (aa : Option Addr) (ac : Nat) (ba : Option Addr) (bc : Nat) (ca : Option Addr) (cc hm : Nat),
    Row w' wb 61 [v0, v1, .slice ia' (ic + 4) icap', v3, v4, v5] ∧ OSl w' 27 1 ia' (ic + 4) icap' (ivs ++ [.slice lo n cap, .slice aa (n + 1) ac, .slice ba (n + 2) bc, .slice ca (n + 3) cc])
    ∧ MarkAt w' lo n mk ∧ MarkAt w' aa (n + 1) mk ∧ MarkAt w' ba (n + 2) mk ∧ MarkAt w' ca (n + 3) mk ∧ Kp (fun b => b = wb ∨ blkOf ia = some b ∨ blkOf lo = some b) w w'
    ∧ (∀ g, blkOf ia' = some g → (blkOf ia = some g ∨ hm ≤ g) ∧ g ≠ wb ∧ g < w'.heap.size) ∧ (∀ g, (blkOf aa = some g ∨ blkOf ba = some g ∨ blkOf ca = some g) → blkOf lo = some g ∨ (w.heap.size ≤ g ∧ g < hm)) ∧ w.heap.size ≤ hm ∧ hm ≤ w'.heap.size
theorem keep_end {w w4 S : World} {wb : Nat} {v0 v1 v3 v4 v5 : Value} {ia ia4 : Option Addr} {ic icap icap4 : Nat} {ivs : List Value} {lo : Option Addr} {n cap : Nat} {aa ba ca : Option Addr} {ac bc cc : Nat} {mk : Int} (Z : Mid w w4 wb [v0, v1, .slice ia ic icap, v3, v4, v5] ia ic icap ivs lo n aa ba ca mk)
    (Y : Ids w4 S wb v0 v1 v3 v4 v5 ia ia4 (ic + 1 + 1 + 1 + 1) icap4 (ivs ++ [.slice lo n cap] ++ [.slice aa (n + 1) ac] ++ [.slice ba (n + 2) bc] ++ [.slice ca (n + 3) cc])) (s1 : ∀ g, blkOf ia = some g → g < w.heap.size) (s2 : ∀ g, blkOf lo = some g → g ≠ wb) (s3 : ∀ g, blkOf lo = some g → ¬ blkOf ia = some g) (hwb : wb < w.heap.size) :
    KeepPost w S wb v0 v1 v3 v4 v5 ia ic ivs lo n cap mk := by
  have off : ∀ (x : Option Addr), (∀ g, blkOf x = some g → (blkOf lo = some g ∨ w.heap.size ≤ g) ∧ g < w4.heap.size) → ∀ g, blkOf x = some g → ¬ (g = wb ∨ blkOf ia = some g) := by
    intro x hx g hg hor
    rcases (hx g hg).1 with h | h
    · rcases hor with e | e
      · exact s2 g h e
      · exact s3 g h e
    · rcases hor with e | e
      · omega
      · have := s1 g e; omega
  have offL : ∀ g, blkOf lo = some g → ¬ (g = wb ∨ blkOf ia = some g) := fun g hg hor => by
    rcases hor with e | e
    · exact s2 g hg e
    · exact s3 g hg e
  refine ⟨ia4, icap4, aa, ac, ba, bc, ca, cc, w4.heap.size, Y.hW, ?_, Z.mL.kp Y.kp offL, Z.mA.kp Y.kp (off aa Z.fA), Z.mB.kp Y.kp (off ba Z.fB), Z.mC.kp Y.kp (off ca Z.fC), ?_, ?_, ?_, Z.kp.size, Y.kp.size⟩
  · have := Y.hI
    simpa [List.append_assoc] using this
  · exact (Z.kp.mono (fun b _ h => Or.inr (Or.inr h))).trans (Y.kp.mono (fun b _ h => h.imp (fun e => e) Or.inl))
  · intro g hg
    exact ⟨(Y.fr g hg).1, (Y.fr g hg).2, Y.hI.lt hg⟩
  · intro g hg
    rcases hg with h | h | h
    · exact (Z.fA g h).1.imp (fun e => e) (fun e => ⟨e, (Z.fA g h).2⟩)
    · exact (Z.fB g h).1.imp (fun e => e) (fun e => ⟨e, (Z.fB g h).2⟩)
    · exact (Z.fC g h).1.imp (fun e => e) (fun e => ⟨e, (Z.fC g h).2⟩)

set_option maxHeartbeats 800000 in
set_option maxRecDepth 100000 in
theorem keep_any (wb : Nat) (v0 v1 v3 v4 v5 : Value) (ia : Option Addr) (ic icap : Nat) (ivs : List Value) (lo : Option Addr) (n cap : Nat) (xs : List Value) (w : World) (_hn : n ≤ 100) (_hic : (ic + 4) * 24 ≤ 140737488355328)
    (hW : Row w wb 61 [v0, v1, .slice ia ic icap, v3, v4, v5]) (hI : OSl w 27 1 ia ic icap ivs) (hL : OSl w 3 1 lo n cap xs)
    (s1 : ∀ g, blkOf ia = some g → g ≠ wb) (s2 : ∀ g, blkOf lo = some g → g ≠ wb) (s3 : ∀ g, blkOf lo = some g → ¬ blkOf ia = some g) :
    Calls Try.prog 45 #[.pointer (some ⟨wb, 0, none⟩), .slice lo n cap] w fun e w' => e = .returned (.tuple #[]) ∧ KeepPost w w' wb v0 v1 v3 v4 v5 ia ic ivs lo n cap ((-1000 : Int) - (ic : Int) / 4) := by
  have a2 := hW.at (j := 2) rfl
  have s1' : ∀ g, blkOf ia = some g → g < w.heap.size := fun g hg => hI.lt hg
  have s2' : ∀ b : Nat, ¬ blkOf lo = some wb := fun _ h => s2 wb h rfl
  obtain ⟨mk, hmk⟩ : ∃ mk, (-1000 : Int) - (ic : Int) / 4 = mk := ⟨_, rfl⟩
  have HMK : Hid ((-1000 : Int) - (ic : Int) / 4 = mk) := hmk
  have Hb1 : Hid (ic + 1 ≤ maxLen) := hid_of (kb _ _ _hic (by omega))
  have Hc1 : Hid ((ic + 1) * 24 ≤ 140737488355328) := hid_of (kc _ _ _hic (by omega))
  have Hb2 : Hid (ic + 1 + 1 ≤ maxLen) := hid_of (kb _ _ _hic (by omega))
  have Hc2 : Hid ((ic + 1 + 1) * 24 ≤ 140737488355328) := hid_of (kc _ _ _hic (by omega))
  have Hb3 : Hid (ic + 1 + 1 + 1 ≤ maxLen) := hid_of (kb _ _ _hic (by omega))
  have Hc3 : Hid ((ic + 1 + 1 + 1) * 24 ≤ 140737488355328) := hid_of (kc _ _ _hic (by omega))
  have Hb4 : Hid (ic + 1 + 1 + 1 + 1 ≤ maxLen) := hid_of (kb _ _ _hic (by omega))
  have Hc4 : Hid ((ic + 1 + 1 + 1 + 1) * 24 ≤ 140737488355328) := hid_of (kc _ _ _hic (by omega))
  go_enter Try.func45, Try.ntmps45
  go_wp2
  clear hmk
  go_loopw [5] (fun i wr => ∃ k : Nat, k ≤ n ∧ i = .int .i64 k ∧ Kp (fun b => blkOf lo = some b) w wr ∧ ∃ ys, OSl wr 3 1 lo n cap ys ∧ ys.take k = List.replicate k (.int .i64 mk)) (fun i _ => n - (intOf i).toNat)
  case atStart => exact ⟨0, Nat.zero_le _, rfl, Kp.refl _ _, xs, hL, rfl⟩
  case round =>
    obtain ⟨k, hk, rfl, hKn, ys, hY, hyt⟩ := hrel
    have HY : Hid (ys.take k = List.replicate k (.int .i64 mk)) := hyt
    clear hyt
    have hyl : Hid (ys.length = n * 1) := hY.len
    by_cases hlt : k < n
    · obtain ⟨g, hlo, hc⟩ := hY.at (List.getElem?_eq_getElem (l := ys) (i := k) (by rw [hyl.out]; omega))
      subst hlo
      have hf := World.ownsRow.frozenAt hY k
      go_wp2
      go_roundw
      case rel =>
        refine ⟨k + 1, by omega, by go_num, hKn.setCell (p := ⟨g, k, none⟩) (fun _ => rfl) _, _, osl_set rfl hY, ?_⟩
        rw [List.take_succ_eq_append_getElem (by simp; rw [hyl.out]; omega)]
        simp [List.take_set_of_le, HY.out, List.replicate_succ']
      case measure => simp [intOf]; omega
    · have hOn : OSl wr 3 1 lo n cap (List.replicate n (.int .i64 mk)) := by
        have e : ys = List.replicate n (.int .i64 mk) := by
          have := HY.out
          rw [List.take_of_length_le (by rw [hyl.out]; omega)] at this
          rw [this]; congr 1; omega
        rw [← e]; exact hY
      obtain ⟨w1, hw1⟩ : ∃ w1 : World, w1 = wr := ⟨_, rfl⟩
      subst hw1
      have q1 : w1.cell? ⟨wb, 2, none⟩ = some (.slice ia ic icap) := hKn.cell a2 (s2' wb)
      clear hY HY hyl
      have ta : True := trivial
      have tb : True := trivial
      have tc : True := trivial
      have t1 : True := trivial
      have t2 : True := trivial
      have t3 : True := trivial
      have t4 : True := trivial
      go_wp2_with (first
        | (at_builtin; have _t := ta; go_must (refine wpList_app_mark rfl (.tmp 26) (.tmp 28) 27 rfl 3 (.int .i64 0) 8 Try.underlying27 Try.infoInt rfl mk lo n cap rfl (OSl.ext hOn ((Ext.refl _).alloc _)) ⟨w1.heap.size, 0, none⟩ 1 1 (by decide) rfl (rep_new _ _ _ 1 _ rfl) (by unfold maxLen; omega) (by omega) ?_; intro aa ac w2 hO2 mA hkA maA frA; have q2 : w2.cell? ⟨wb, 2, none⟩ = some (.slice ia ic icap) := hkA.cell (((Ext.refl _).alloc _).cell q1) (s2' wb); clear ta))
        | (at_builtin; have _t := tb; go_must (refine wpList_app_mark rfl (.tmp 30) (.tmp 33) 27 rfl 3 (.int .i64 0) 8 Try.underlying27 Try.infoInt rfl mk lo n cap rfl (OSl.ext hO2 ((Ext.refl _).alloc _)) ⟨w2.heap.size, 0, none⟩ 2 2 (by decide) rfl (rep_new _ _ _ 2 _ rfl) (by unfold maxLen; omega) (by omega) ?_; intro ba bc w3 hO3 mB hkB maB frB; have q3 : w3.cell? ⟨wb, 2, none⟩ = some (.slice ia ic icap) := hkB.cell (((Ext.refl _).alloc _).cell q2) (s2' wb); clear tb))
        | (at_builtin; have _t := tc; go_must (refine wpList_app_mark rfl (.tmp 35) (.tmp 39) 27 rfl 3 (.int .i64 0) 8 Try.underlying27 Try.infoInt rfl mk lo n cap rfl (OSl.ext hO3 ((Ext.refl _).alloc _)) ⟨w3.heap.size, 0, none⟩ 3 3 (by decide) rfl (rep_new _ _ _ 3 _ rfl) (by unfold maxLen; omega) (by omega) ?_; intro ca cc w4 hO4 mC hkC maC frC; have q4 : w4.cell? ⟨wb, 2, none⟩ = some (.slice ia ic icap) := hkC.cell (((Ext.refl _).alloc _).cell q3) (s2' wb); have Z := keep_mid hW hI hKn s2 s3 hkA frA mA hkB maB frB mB hkC maC frC mC hO4; have Z0 : Ids w4 w4 wb v0 v1 v3 v4 v5 ia ia ic icap ivs := ⟨Z.hI, Z.hW, Kp.refl _ _, fun g hg => ⟨Or.inl hg, s1 g hg⟩⟩; clear tc))
        | (at_builtin; have _t := t1; go_must (refine wpList_app rfl (.tmp 45) (.tmp 47) 56 rfl 27 (.slice none 0 0) 1 24 Try.underlying56 Try.infoLi rfl (by decide) ia (ic) icap _ rfl (OSl.ext Z0.hI ((Ext.refl _).alloc _)) (some ⟨w4.heap.size, 0, none⟩) 1 1 [.slice lo n cap] rfl (by intro h; cases h) rfl (fun _ => ⟨_, rfl, one_new _ _ _⟩) (by intro u hu; simp at hu; subst hu; rfl) Hb1.out Hc1.out ?_; intro ia1 icap1 w5 hI5 hk5 at5; have Y5 := ids_step Z0 hk5 at5 hI5; have q5 := Y5.1; have z5 := Y5.2.1; have Z5 := Y5.2.2; clear t1 Y5))
        | (at_builtin; have _t := t2; go_must (refine wpList_app rfl (.tmp 55) (.tmp 57) 56 rfl 27 (.slice none 0 0) 1 24 Try.underlying56 Try.infoLi rfl (by decide) ia1 (ic + 1) icap1 _ rfl (OSl.ext Z5.hI ((Ext.refl _).alloc _)) (some ⟨w5.heap.size, 0, none⟩) 1 1 [.slice aa (n + 1) ac] rfl (by intro h; cases h) rfl (fun _ => ⟨_, rfl, one_new' _ _ _ _ (by simp [World.setCell])⟩) (by intro u hu; simp at hu; subst hu; rfl) Hb2.out Hc2.out ?_; intro ia2 icap2 w6 hI6 hk6 at6; have Y6 := ids_step Z5 hk6 at6 hI6; have q6 := Y6.1; have z6 := Y6.2.1; have Z6 := Y6.2.2; clear t2 Y6))
        | (at_builtin; have _t := t3; go_must (refine wpList_app rfl (.tmp 65) (.tmp 67) 56 rfl 27 (.slice none 0 0) 1 24 Try.underlying56 Try.infoLi rfl (by decide) ia2 (ic + 1 + 1) icap2 _ rfl (OSl.ext Z6.hI ((Ext.refl _).alloc _)) (some ⟨w6.heap.size, 0, none⟩) 1 1 [.slice ba (n + 2) bc] rfl (by intro h; cases h) rfl (fun _ => ⟨_, rfl, one_new' _ _ _ _ (by simp [World.setCell])⟩) (by intro u hu; simp at hu; subst hu; rfl) Hb3.out Hc3.out ?_; intro ia3 icap3 w7 hI7 hk7 at7; have Y7 := ids_step Z6 hk7 at7 hI7; have q7 := Y7.1; have z7 := Y7.2.1; have Z7 := Y7.2.2; clear t3 Y7))
        | (at_builtin; have _t := t4; go_must (refine wpList_app rfl (.tmp 75) (.tmp 77) 56 rfl 27 (.slice none 0 0) 1 24 Try.underlying56 Try.infoLi rfl (by decide) ia3 (ic + 1 + 1 + 1) icap3 _ rfl (OSl.ext Z7.hI ((Ext.refl _).alloc _)) (some ⟨w7.heap.size, 0, none⟩) 1 1 [.slice ca (n + 3) cc] rfl (by intro h; cases h) rfl (fun _ => ⟨_, rfl, one_new' _ _ _ _ (by simp [World.setCell])⟩) (by intro u hu; simp at hu; subst hu; rfl) Hb4.out Hc4.out ?_; intro ia4 icap4 w8 hI8 hk8 at8; have Y8 := ids_step Z7 hk8 at8 hI8; have q8 := Y8.1; have z8 := Y8.2.1; have Z8 := Y8.2.2; clear t4 Y8))
        )
      go_end0
      exact ⟨rfl, by rw [HMK.out]; exact keep_end Z Z8 s1' s2 s3 hW.lt⟩
end Go.Proofs.Ytepioeaomlmocaa
