import Derived.Test.YtpbblaeamddbgaaGreatHA
namespace Go.Proofs.YtpbblaeamddbgaaGreat
open Go.RowKit

/-- The caller's world: the book of lists; whose each block is (1 the world, 2 the book, 3 the lists of engines, 4 lists that came out, 5 what came in, from 10 on the engines). -/
structure St (w : World) (own : Nat → Nat) (wb : Nat) (v0 v1 v5 : Value) (ia : Option Addr) (ic icap : Nat) (vs : List Value) : Prop where
  row : Row w wb 89 [v0, v1, .slice ia ic icap, .slice none 0 0, .slice none 0 0, v5]
  ids : OSl w 25 1 ia ic icap vs
  len : vs.length = ic
  four : ic % 4 = 0
  ow : own wb = 1
  oi : ∀ g, blkOf ia = some g → own g = 2
  book : ∀ i (hi : i < vs.length), ∃ ao n cap, vs[i] = .slice ao n cap ∧ n ≤ 103 ∧ MarkAt w ao n ((-1000 : Int) - (i : Int) / 4) ∧ ∀ g, blkOf ao = some g → own g = 4
  fresh : ∀ b, w.heap.size ≤ b → own b = 0
theorem fxs_kp {w w' : World} {ao : Option Addr} {l : List Fd} {M : Nat → Prop} (h : Fxs w ao l) (k : Kp M w w') (hm : ∀ g, blkOf ao = some g → 0 < l.length → ¬ M g) : Fxs w' ao l := fun hp => by
  obtain ⟨b, o, h1, h2⟩ := h hp
  have hne := hm b (by rw [h1]; rfl) hp
  exact ⟨b, o, h1, fun j hj => ⟨k.cell (h2 j hj).1 hne, k.cell (h2 j hj).2.1 hne, k.cell (h2 j hj).2.2 hne⟩⟩
theorem pad_fds {w : World} {g : Nat} {T : TypeId} {l : List Fd} (h : Row w g T (padFd l)) : Fds w g 0 l := by
  intro j hj
  have := fds_row h j (by simp; omega)
  rw [List.getElem_append_left hj] at this
  exact this
theorem ixs_of_osl {w : World} {T : Nat} {ao : Option Addr} {cap : Nat} {xs : List Int} (h : OSl w T 1 ao xs.length cap (xs.map (Value.int .i64))) : Ixs w ao xs := fun hp => by
  obtain ⟨g, rfl, _⟩ := h.at (j := 0) (v := .int .i64 xs[0]) (by simp [hp])
  refine ⟨g, 0, rfl, fun j hj => ?_⟩
  obtain ⟨g', e, hc⟩ := h.at (j := j) (v := .int .i64 xs[j]) (by simp [hj])
  cases e
  rw [Nat.zero_add, hc]; simp [hj]
theorem ma_len {flt : List (Int × List Cd)} (ev : List Fd) (q : Nat) (h : flt.length ≤ 100) : (maIds flt ev q).length ≤ 100 := by
  unfold maIds
  split
  · simp
  · have := met_le flt (fo ev) flt.length
    rw [List.take_of_length_le (Nat.le_refl _)] at this
    omega

theorem ma_mid {w w1 w2 w3 w4 w5 : World} {own : Nat → Nat} {wb : Nat} {v0 v1 v5 : Value} {ia : Option Addr} {ic icap : Nat} {vs : List Value} {te tr : Nat} (S : St w own wb v0 v1 v5 ia ic icap vs) (hE1 : Ext w w1) (hk2 : Kp (fun b => own b = te) w1 w2) (hte : 10 ≤ te) (hk3 : Kp (fun b => own b = tr) w2 w3) (htr : 10 ≤ tr) (hE4 : Ext w3 w4) (hk5 : Kp (fun k => k = w.heap.size + 1) w4 w5) :
    Row w5 wb 89 [v0, v1, .slice ia ic icap, .slice none 0 0, .slice none 0 0, v5] ∧ OSl w5 25 1 ia ic icap vs ∧ Kp (fun b => own b = te ∨ own b = tr) w w5 := by
  have hwb := S.row.lt
  have hK : Kp (fun b => own b = te ∨ own b = tr) w w5 := by
    have k3 : Kp (fun b => own b = te ∨ own b = tr) w w4 := (((hE1.kp _).trans (hk2.mono (fun _ _ h => Or.inl h))).trans (hk3.mono (fun _ _ h => Or.inr h))).trans (hE4.kp _)
    exact ⟨hk5.os.trans k3.os, hk5.tape.trans k3.tape, hk5.output.trans k3.output, Nat.le_trans k3.size hk5.size, fun i hi hn => (hk5.block i (Nat.lt_of_lt_of_le hi k3.size) (by omega)).trans (k3.block i hi hn)⟩
  refine ⟨hK.row S.row (fun h => by have := S.ow; omega), S.ids.kp hK (fun g hg h => by have := S.oi g hg; omega), hK⟩

/-- What a match leaves. -/
def LMa (E : World → Nat → (Nat → Prop) → List Int → List (Int × List Cd) → Int → Prop) (w w' : World) (own : Nat → Nat) (wb : Nat) (v0 v1 v5 : Value) (ic : Nat) (eb rb te tr : Nat) (sch : List Int) (flt : List (Int × List Cd)) (nn : Int) : Prop :=
  ∃ own' ia' icap' vs', St w' own' wb v0 v1 v5 ia' (ic + 4) icap' vs' ∧ Two E w' eb rb (fun b => own' b = te) (fun b => own' b = tr) sch flt nn ∧ (∀ b, b < w.heap.size → own' b = own b) ∧ Kp (fun b => own b = 1 ∨ own b = 2 ∨ own b = te ∨ own b = tr) w w'
theorem markN {w : World} {ao : Option Addr} {n : Nat} {m m' : Int} (h : MarkAt w ao n m) (e : m = m') : MarkAt w ao n m' := e ▸ h
theorem ma_end {E : World → Nat → (Nat → Prop) → List Int → List (Int × List Cd) → Int → Prop} (C : EngC E) {w w1 w2 w3 w4 w5 w6 w7 : World} {own : Nat → Nat} {wb : Nat} {v0 v1 v5 : Value} {ia : Option Addr} {ic icap : Nat} {vs : List Value} {eb rb te tr : Nat} {sch : List Int} {flt : List (Int × List Cd)} {nn : Int} {ro : Option Addr} {n rcap : Nat} {xs : List Value} {F' : Nat → Prop}
    (S : St w own wb v0 v1 v5 ia ic icap vs) (hte : 10 ≤ te) (htr : 10 ≤ tr) (htt : te ≠ tr) (hE1 : Ext w w1) (lw1 : w.heap.size + 1 < w1.heap.size) (hrf : ∀ g, blkOf ro = some g → w1.heap.size ≤ g ∧ ¬ F' g) (hk2 : Kp (fun b => own b = te) w1 w2)
    (he2 : E w2 eb F' sch flt nn) (hF' : ∀ b, F' b → Grow (fun b => own b = te) w1 w2 b) (hk3 : Kp (fun b => own b = tr) w2 w3) (hr3 : RefN w3 rb (fun b => own b = tr) sch flt nn) (hE4 : Ext w3 w4) (hk5 : Kp (fun k => k = w.heap.size + 1) w4 w5) (hK5 : Kp (fun b => own b = te ∨ own b = tr) w w5)
    (hro5 : OSl w5 3 1 ro n rcap xs) (hkp : KeepPost w5 w6 wb v0 v1 (.slice none 0 0) (.slice none 0 0) v5 ia ic vs ro n rcap ((-1000 : Int) - (ic : Int) / 4)) (hn : n ≤ 100) (hE7 : Ext w6 w7) : LMa E w w7 own wb v0 v1 v5 ic eb rb te tr sch flt nn := by
  obtain ⟨ia', icap', aa, ac, ba, bc, ca, cc, hm, kW, kI, kL, kA, kB, kC, kK, kia, kabc, khm1, khm2⟩ := hkp
  have z1 := hE1.le
  have z2 := hk2.size
  have z3 := hk3.size
  have z4 := hE4.le
  have z5 := hk5.size
  have z6 := kK.size
  have z7 := hE7.le
  have hwb := S.row.lt
  have hfr := S.fresh
  have hlt : ∀ b, 0 < own b → b < w.heap.size := fun b hb => by
    rcases Nat.lt_or_ge b w.heap.size with h | h
    · exact h
    · have := hfr b h; omega
  -- whose the new blocks are
  have hdec : ∃ own' : Nat → Nat, (∀ b, b < w.heap.size → own' b = own b) ∧ (∀ b, w.heap.size ≤ b → w7.heap.size ≤ b → own' b = 0) ∧ (∀ b, w.heap.size ≤ b → b < w7.heap.size → blkOf ia' = some b → own' b = 2) ∧ (∀ b, w.heap.size ≤ b → b < w7.heap.size → ¬ blkOf ia' = some b → F' b → own' b = te) ∧ (∀ b, w.heap.size ≤ b → b < w7.heap.size → ¬ blkOf ia' = some b → ¬ F' b → own' b = 4) := by
    refine ⟨fun b => @ite _ (b < w.heap.size) (Classical.propDecidable _) (own b) (@ite _ (w7.heap.size ≤ b) (Classical.propDecidable _) 0 (@ite _ (blkOf ia' = some b) (Classical.propDecidable _) 2 (@ite _ (F' b) (Classical.propDecidable _) te 4))), ?_, ?_, ?_, ?_, ?_⟩
    · intro b h; simp [h]
    · intro b h1 h2; simp [show ¬ b < w.heap.size by omega, h2]
    · intro b h1 h2 h3; simp [show ¬ b < w.heap.size by omega, show ¬ w7.heap.size ≤ b by omega, h3]
    · intro b h1 h2 h3 h4; simp [show ¬ b < w.heap.size by omega, show ¬ w7.heap.size ≤ b by omega, h3, h4]
    · intro b h1 h2 h3 h4; simp [show ¬ b < w.heap.size by omega, show ¬ w7.heap.size ≤ b by omega, h3, h4]
  obtain ⟨own', o1, o2, o3, o4, o5⟩ := hdec
  -- the book's array, where it is new, is behind all that the match made
  have iaNew : ∀ g, blkOf ia' = some g → w.heap.size ≤ g → hm ≤ g := by
    intro g hg hge
    rcases (kia g hg).1 with e | e
    · have := S.oi g e; have := hlt g (by omega); omega
    · exact e
  have F'lt : ∀ b, F' b → w.heap.size ≤ b → b < w5.heap.size := by
    intro b hb hge
    rcases hF' b hb with h | ⟨_, h⟩
    · have := hlt b (by omega); omega
    · omega
  have hK6 : Kp (fun b => own b = 1 ∨ own b = 2 ∨ own b = te ∨ own b = tr) w w6 := by
    have a1 := hK5.mono (N := fun b => own b = 1 ∨ own b = 2 ∨ own b = te ∨ own b = tr) (fun _ _ h => Or.inr (Or.inr h))
    refine ⟨kK.os.trans a1.os, kK.tape.trans a1.tape, kK.output.trans a1.output, Nat.le_trans a1.size kK.size, fun i hi hnn => ?_⟩
    rw [kK.block i (by omega) ?_]
    · exact a1.block i hi hnn
    · rintro (e | e | e)
      · subst e; exact hnn (Or.inl S.ow)
      · exact hnn (Or.inr (Or.inl (S.oi i e)))
      · have := (hrf i e).1; omega
  have hK7 := hK6.trans (hE7.kp (fun b => own b = 1 ∨ own b = 2 ∨ own b = te ∨ own b = tr))
  -- F' and tr are off the book, the list, the lent
  have offF : ∀ b, F' b → ¬ (b = wb ∨ blkOf ia = some b ∨ blkOf ro = some b) := by
    rintro b hb (e | e | e)
    · subst e
      rcases hF' _ hb with h | ⟨h, _⟩
      · have := S.ow; omega
      · omega
    · rcases hF' _ hb with h | ⟨h, _⟩
      · have := S.oi b e; omega
      · have := S.oi b e; have := hlt b (by omega); omega
    · exact (hrf b e).2 hb
  have offR : ∀ b, own b = tr → ¬ (b = wb ∨ blkOf ia = some b ∨ blkOf ro = some b) := by
    rintro b hb (e | e | e)
    · subst e; have := S.ow; omega
    · have := S.oi b e; omega
    · have := (hrf b e).1; have := hlt b (by omega); omega
  have e6 : E w7 eb F' sch flt nn := by
    have e3 := C.kp he2 hk3 (fun b hb hr => by rcases hF' b hb with h | ⟨h, _⟩; exact htt (h.symm.trans hr); have := hlt b (by omega); omega)
    have e4 := C.kp e3 (hE4.kp (fun _ => False)) (fun _ _ h => h)
    have e5 := C.kp e4 hk5 (fun b hb e => by rcases hF' b hb with h | ⟨h, _⟩; have := hlt b (by omega); omega; omega)
    exact C.kp (C.kp e5 kK offF) (hE7.kp (fun _ => False)) (fun _ _ h => h)
  have r6 : RefN w7 rb (fun b => own b = tr) sch flt nn := by
    have r4 := hr3.kp (hE4.kp (fun _ => False)) (fun _ _ h => h)
    have r5 := r4.kp hk5 (fun b hb e => by have := hlt b (by omega); omega)
    exact (r5.kp kK offR).kp (hE7.kp (fun _ => False)) (fun _ _ h => h)
  have oldT : ∀ (b t : Nat), own b = t → 0 < t → own' b = t := fun b t hb ht => by rw [o1 b (hlt b (by omega))]; exact hb
  have listT : ∀ g, (blkOf ro = some g ∨ blkOf aa = some g ∨ blkOf ba = some g ∨ blkOf ca = some g) → own' g = 4 := by
    intro g hg
    have hro : blkOf ro = some g → own' g = 4 := fun e => by
      have h1 := (hrf g e).1
      have h2 := hro5.lt e
      refine o5 g (by omega) (by omega) (fun e2 => ?_) (hrf g e).2
      have := iaNew g e2 (by omega); omega
    rcases hg with e | e
    · exact hro e
    · rcases kabc g e with h | ⟨h1, h2⟩
      · exact hro h
      · refine o5 g (by omega) (by omega) (fun e2 => ?_) (fun hF => ?_)
        · have := iaNew g e2 (by omega); omega
        · have := F'lt g hF (by omega); omega
  have ext7 : ∀ (x : Option Addr) (k : Nat), MarkAt w6 x k ((-1000 : Int) - (ic : Int) / 4) → MarkAt w7 x k ((-1000 : Int) - (ic : Int) / 4) := fun x k h => h.kp (hE7.kp (fun _ => False)) (fun _ _ h => h)
  refine ⟨own', ia', icap', vs ++ [.slice ro n rcap, .slice aa (n + 1) ac, .slice ba (n + 2) bc, .slice ca (n + 3) cc], ⟨kW.ext hE7, kI.ext hE7, by simp [S.len], by have := S.four; omega, ?_, ?_, ?_, ?_⟩, ⟨?_, ?_, ?_, ?_, ?_⟩, o1, hK7⟩
  · exact oldT wb 1 S.ow (by decide)
  · intro g hg
    rcases Nat.lt_or_ge g w.heap.size with h | h
    · rcases (kia g hg).1 with e | e
      · exact oldT g 2 (S.oi g e) (by decide)
      · omega
    · exact o3 g h (by have := (kia g hg).2.2; omega) hg
  · intro i hi
    by_cases hiv : i < vs.length
    · obtain ⟨ao, k, cap, h1, h2, h3, h4⟩ := S.book i hiv
      refine ⟨ao, k, cap, by rw [List.getElem_append_left hiv]; exact h1, h2, ?_, fun g hg => oldT g 4 (h4 g hg) (by decide)⟩
      exact h3.kp hK7 (fun g hg => by have := h4 g hg; omega)
    · have hl := S.len
      have h4 := S.four
      have hi4 : i < vs.length + 4 := by simpa using hi
      have em : ((-1000 : Int) - (ic : Int) / 4) = (-1000 : Int) - (i : Int) / 4 := by omega
      rcases (show i = vs.length ∨ i = vs.length + 1 ∨ i = vs.length + 2 ∨ i = vs.length + 3 by omega) with e | e | e | e
      · refine ⟨ro, n, rcap, by simp [e], by omega, markN (ext7 _ _ kL) em, fun g hg => listT g (Or.inl hg)⟩
      · refine ⟨aa, n + 1, ac, by simp [e], by omega, markN (ext7 _ _ kA) em, fun g hg => listT g (Or.inr (Or.inl hg))⟩
      · refine ⟨ba, n + 2, bc, by simp [e], by omega, markN (ext7 _ _ kB) em, fun g hg => listT g (Or.inr (Or.inr (Or.inl hg)))⟩
      · refine ⟨ca, n + 3, cc, by simp [e], by omega, markN (ext7 _ _ kC) em, fun g hg => listT g (Or.inr (Or.inr (Or.inr hg)))⟩
  · intro b hb; exact o2 b (by omega) hb
  · refine C.mono e6 (fun b hb => ?_)
    rcases Nat.lt_or_ge b w.heap.size with h | h
    · rcases hF' b hb with e | ⟨e, _⟩
      · exact oldT b te e (by omega)
      · omega
    · have h2 := F'lt b hb h
      exact o4 b h (by omega) (fun e => by have := iaNew b e h; omega) hb
  · exact r6.mono (fun b hb => oldT b tr hb (by omega))
  · intro b hb
    rcases Nat.lt_or_ge b w7.heap.size with h | h
    · exact h
    · have := o2 b (by omega) h; omega
  · intro b hb
    rcases Nat.lt_or_ge b w7.heap.size with h | h
    · exact h
    · have := o2 b (by omega) h; omega
  · intro b h1 h2; exact htt (h1.symm.trans h2)

set_option maxHeartbeats 1600000 in
set_option maxRecDepth 100000 in
theorem matches_core {E : World → Nat → (Nat → Prop) → List Int → List (Int × List Cd) → Int → Prop} (C : EngC E) (own : Nat → Nat) (wb : Nat) (v0 v1 v5 : Value) (ia : Option Addr) (ic icap : Nat) (vs : List Value) (eb rb te tr : Nat) (sch : List Int) (flt : List (Int × List Cd)) (nn : Int) (kind at_ id : Int) (nv fv xv sv : Value) (a : Addr) (cap : Nat) (ev : List Fd) (w : World)
    (S : St w own wb v0 v1 v5 ia ic icap vs) (T : Two E w eb rb (fun b => own b = te) (fun b => own b = tr) sch flt nn) (hte : 10 ≤ te) (htr : 10 ≤ tr) (htt : te ≠ tr) (hs6 : sch.length ≤ 6) (hf : flt.length ≤ 100) (hG : FltOK flt) (hl : ev.length * 32 ≤ 140737488351232) (hic : (ic + 4) * 24 ≤ 140737488355328)
    (hz : ∀ j (hj : j < ev.length), ev[j].v.s.size ≤ 9223372036854775807) (hc : Fxs w (some a) ev) (ha : 0 < ev.length → own a.block = 5) (q : Nat) (hq : FirstBad sch ev q) (hk5 : (kind == 5) = false) (hk6 : (kind == 6) = false) :
    Calls Tryz.prog 35 #[.pointer (some ⟨wb, 0, none⟩), .pointer (some ⟨eb, 0, none⟩), .pointer (some ⟨rb, 0, none⟩), .agg #[.int .i64 kind, .int .i64 at_, .int .i64 id, nv, fv, .slice (some a) ev.length cap, xv, sv]] w fun e w' => e = .returned (.bool true) ∧ LMa E w w' own wb v0 v1 v5 ic eb rb te tr sch flt (maN ev q nn) := by
  have qT : ∀ (w : World) (a : Option Addr) (n c n' c' : Nat), (binOp .eql 27 (.slice a n c) (.slice none n' c')).run Tryz.prog w = .ok (.bool a.isNone) w := fun w a n c n' c' => Lib.run_eql_slice_nil w _ _ a n c n' c' Tryz.underlying27
  have hfr := S.fresh
  have own0 : ∀ (b t : Nat), w.heap.size ≤ b → 0 < t → ¬ own b = t := fun b t hb ht e => by have := hfr b hb; omega
  have hna : ∀ (t g : Nat), 10 ≤ t → blkOf (some a) = some g → 0 < ev.length → ¬ own g = t := fun t g ht hg hp e => by have := ha hp; simp [blkOf] at hg; subst hg; omega
  obtain ⟨w0, hw0⟩ : ∃ w0 : World, w0 = w.alloc (.cells #[.int .i64 kind, .int .i64 at_, .int .i64 id, nv, fv, .slice (some a) ev.length cap, xv, sv] 30) := ⟨_, rfl⟩
  have hE0 : Ext w w0 := by rw [hw0]; exact (Ext.refl w).alloc _
  have hz0 : w0.heap.size = w.heap.size + 1 := by rw [hw0]; simp
  have k0 : w0.cell? ⟨w.heap.size, 0, none⟩ = some (.int .i64 kind) := by rw [hw0]; exact cell_new _ _ _ _ _ rfl rfl
  have k5 : w0.cell? ⟨w.heap.size, 5, none⟩ = some (.slice (some a) ev.length cap) := by rw [hw0]; exact cell_new _ _ _ _ _ rfl rfl
  have HF : Hid _ := fields_any (some a) cap ev w0 hl (hc.ext hE0)
  rw [hz0] at HF
  rw [hw0] at HF
  go_enter Tryz.func35, Tryz.ntmps35
  go_wp2_with fail
  refine Calls.mono HF.out ?_
  rintro e w1 ⟨rfl, hr1, hE1'⟩
  have hE1 : Ext w0 w1 := by rw [hw0]; exact hE1'
  have hEw1 : Ext w w1 := hE0.trans hE1
  have c0 := hE1.cell k0
  have c5 := hE1.cell k5
  have lw1 : w.heap.size + 1 < w1.heap.size := hr1.lt
  clear HF hE1' hw0 k0 k5
  have t1 := T.ext1 C hEw1
  have M := C.ma 16 (Or.inl rfl) eb (fun b => own b = te) sch flt nn (some ⟨w.heap.size + 1, 0, none⟩) (ev.length + 3) ev w1 hl t1.1 (fun _ => ⟨_, _, rfl, pad_fds hr1⟩) q hq
  have HM : Hid _ := M
  clear M
  go_wp2_with fail
  refine Calls.mono HM.out ?_
  rintro e w2 ⟨ro, rcap, F', rfl, hro, hrf, hk2, he2, hF'⟩
  clear HM
  have d0 := hk2.cell c0 (own0 _ _ (by simp) (by omega))
  have d5 := hk2.cell c5 (own0 _ _ (by simp) (by omega))
  have hc2 : Fxs w2 (some a) ev := fxs_kp (hc.ext hEw1) hk2 (fun g hg hp => hna te g hte hg hp)
  have hr2 : RefN w2 rb (fun b => own b = tr) sch flt nn := t1.2.kp hk2 (fun b hb hF => htt (hF.symm.trans hb))
  have hg2 := hk2.row hr1 (own0 _ _ (by simp) (by omega))
  have HR : Hid _ := rMatchN_any rb (fun b => own b = tr) sch flt nn (some a) cap ev w2 hs6 hl hf hr2 hc2 (fun g hg hp => hna tr g htr hg hp) q hq hz hG
  clear c0 c5
  go_wp2_with fail
  refine Calls.mono HR.out ?_
  rintro e w3 ⟨mo, mcap, rfl, hmo, hmf, hk3, hr3⟩
  clear HR
  have f5 := hk3.cell d5 (own0 _ _ (by simp) (by omega))
  have hc3 : Fxs w3 (some a) ev := fxs_kp hc2 hk3 (fun g hg hp => hna tr g htr hg hp)
  have hg3 := hk3.row hg2 (own0 _ _ (by simp) (by omega))
  have hro3 := hro.kp hk3 (fun g hg => own0 g _ (by have := (hrf g hg).1; omega) (by omega))
  have hml := ma_len ev q hf
  have HS : Hid _ := sameNumbers_any ro mo rcap mcap (maIds flt ev q) (maIds flt ev q) w3 (by omega) (by omega) (ixs_of_osl hro3) (ixs_of_osl hmo)
  rw [eqB_refl] at HS
  clear d0 d5
  generalize maIds flt ev q = mi at *
  go_wp2_with fail
  refine Calls.mono HS.out ?_
  rintro e w4 ⟨rfl, hE4⟩
  clear HS
  have g5 := hE4.cell f5
  have HWh : Hid _ := wholeFields_any (w.heap.size + 1) (some a) cap ev w4 hl (hg3.ext hE4) (hc3.ext hE4)
  clear f5
  go_wp2_with fail
  refine Calls.mono HWh.out ?_
  rintro e w5 ⟨rfl, hk5'⟩
  clear HWh
  have D := ma_mid S hEw1 hk2 hte hk3 htr hE4 hk5'
  have hro5 : OSl w5 3 1 ro mi.length rcap (mi.map (Value.int .i64)) := (hro3.ext hE4).kp hk5' (fun g hg => by have := (hrf g hg).1; omega)
  have HK : Hid _ := keep_any wb v0 v1 (.slice none 0 0) (.slice none 0 0) v5 ia ic icap vs ro mi.length rcap (mi.map (Value.int .i64)) w5 hml hic D.1 D.2.1 hro5 (fun g hg e => by have h1 := S.oi _ hg; rw [e] at h1; have h2 := S.ow; omega) (fun g hg e => by have h1 := (hrf _ hg).1; have h2 := S.fresh g (by omega); rw [e] at h2; have h3 := S.ow; omega) (fun g hg e => by have h1 := (hrf _ hg).1; have h2 := S.fresh g (by omega); have h3 := S.oi g e; omega)
  go_wp2_with fail
  refine Calls.mono HK.out ?_
  rintro e w6 ⟨rfl, hkp⟩
  clear HK
  generalize maErr ev q = me at *
  generalize maPlace ev q = mp at *
  go_wp2_with fail
  refine (num_any _ _).mono ?_
  rintro e w7 ⟨rfl, rfl⟩
  go_wp2
  go_ret
  exact ⟨rfl, ma_end C S hte htr htt hEw1 lw1 hrf hk2 he2 hF' hk3 hr3 hE4 hk5' D.2.2 hro5 hkp hml (Ext.refl _)⟩
end Go.Proofs.YtpbblaeamddbgaaGreat
namespace Go.Proofs.YtpbblaeamddbgaaGreat
open Go.RowKit

set_option maxHeartbeats 1600000 in
set_option maxRecDepth 100000 in
theorem matches_nil {E : World → Nat → (Nat → Prop) → List Int → List (Int × List Cd) → Int → Prop} (C : EngC E) (own : Nat → Nat) (wb : Nat) (v0 v1 v5 : Value) (ia : Option Addr) (ic icap : Nat) (vs : List Value) (eb rb te tr : Nat) (sch : List Int) (flt : List (Int × List Cd)) (nn : Int) (kind at_ id : Int) (nv fv xv sv : Value) (w : World)
    (S : St w own wb v0 v1 v5 ia ic icap vs) (T : Two E w eb rb (fun b => own b = te) (fun b => own b = tr) sch flt nn) (hte : 10 ≤ te) (htr : 10 ≤ tr) (htt : te ≠ tr) (hs6 : sch.length ≤ 6) (hf : flt.length ≤ 100) (hG : FltOK flt) (hic : (ic + 4) * 24 ≤ 140737488355328)
    (q : Nat) (hq : FirstBad sch [] q) (hk5 : (kind == 5) = false) (hk6 : (kind == 6) = false) :
    Calls Tryz.prog 35 #[.pointer (some ⟨wb, 0, none⟩), .pointer (some ⟨eb, 0, none⟩), .pointer (some ⟨rb, 0, none⟩), .agg #[.int .i64 kind, .int .i64 at_, .int .i64 id, nv, fv, .slice none 0 0, xv, sv]] w fun e w' => e = .returned (.bool true) ∧ LMa E w w' own wb v0 v1 v5 ic eb rb te tr sch flt (maN [] q nn) := by
  have qT : ∀ (w : World) (a : Option Addr) (n c n' c' : Nat), (binOp .eql 27 (.slice a n c) (.slice none n' c')).run Tryz.prog w = .ok (.bool a.isNone) w := fun w a n c n' c' => Lib.run_eql_slice_nil w _ _ a n c n' c' Tryz.underlying27
  have hl : ([] : List Fd).length * 32 ≤ 140737488351232 := by simp
  have hz : ∀ j (hj : j < ([] : List Fd).length), ([] : List Fd)[j].v.s.size ≤ 9223372036854775807 := fun j hj => absurd hj (by simp)
  have hc : ∀ w, Fxs w none [] := fun _ h => absurd h (by simp)
  have hfr := S.fresh
  have own0 : ∀ (b t : Nat), w.heap.size ≤ b → 0 < t → ¬ own b = t := fun b t hb ht e => by have := hfr b hb; omega
  obtain ⟨w0, hw0⟩ : ∃ w0 : World, w0 = w.alloc (.cells #[.int .i64 kind, .int .i64 at_, .int .i64 id, nv, fv, .slice none 0 0, xv, sv] 30) := ⟨_, rfl⟩
  have hE0 : Ext w w0 := by rw [hw0]; exact (Ext.refl w).alloc _
  have hz0 : w0.heap.size = w.heap.size + 1 := by rw [hw0]; simp
  have k0 : w0.cell? ⟨w.heap.size, 0, none⟩ = some (.int .i64 kind) := by rw [hw0]; exact cell_new _ _ _ _ _ rfl rfl
  have k5 : w0.cell? ⟨w.heap.size, 5, none⟩ = some (.slice none 0 0) := by rw [hw0]; exact cell_new _ _ _ _ _ rfl rfl
  have HF : Hid _ := fields_any none 0 [] w0 hl (hc _)
  rw [hz0] at HF
  rw [hw0] at HF
  go_enter Tryz.func35, Tryz.ntmps35
  go_wp2_with fail
  refine Calls.mono HF.out ?_
  rintro e w1 ⟨rfl, hr1, hE1'⟩
  have hE1 : Ext w0 w1 := by rw [hw0]; exact hE1'
  have hEw1 : Ext w w1 := hE0.trans hE1
  have c0 := hE1.cell k0
  have c5 := hE1.cell k5
  have lw1 : w.heap.size + 1 < w1.heap.size := hr1.lt
  clear HF hE1' hw0 k0 k5
  have t1 := T.ext1 C hEw1
  have M := C.ma 16 (Or.inl rfl) eb (fun b => own b = te) sch flt nn none 0 [] w1 hl t1.1 (hc _) q hq
  have HM : Hid _ := M
  clear M
  go_wp2_with fail
  refine Calls.mono HM.out ?_
  rintro e w2 ⟨ro, rcap, F', rfl, hro, hrf, hk2, he2, hF'⟩
  clear HM
  have d0 := hk2.cell c0 (own0 _ _ (by simp) (by omega))
  have d5 := hk2.cell c5 (own0 _ _ (by simp) (by omega))
  have hr2 : RefN w2 rb (fun b => own b = tr) sch flt nn := t1.2.kp hk2 (fun b hb hF => htt (hF.symm.trans hb))
  have hg2 := hk2.row hr1 (own0 _ _ (by simp) (by omega))
  have HR : Hid _ := rMatchN_any rb (fun b => own b = tr) sch flt nn none 0 [] w2 hs6 hl hf hr2 (hc _) (fun g hg => by cases hg) q hq hz hG
  clear c0 c5
  go_wp2_with fail
  refine Calls.mono HR.out ?_
  rintro e w3 ⟨mo, mcap, rfl, hmo, hmf, hk3, hr3⟩
  clear HR
  have f5 := hk3.cell d5 (own0 _ _ (by simp) (by omega))
  have hg3 := hk3.row hg2 (own0 _ _ (by simp) (by omega))
  have hro3 := hro.kp hk3 (fun g hg => own0 g _ (by have := (hrf g hg).1; omega) (by omega))
  have hml := ma_len [] q hf
  have HS : Hid _ := sameNumbers_any ro mo rcap mcap (maIds flt [] q) (maIds flt [] q) w3 (by omega) (by omega) (ixs_of_osl hro3) (ixs_of_osl hmo)
  rw [eqB_refl] at HS
  clear d0 d5
  generalize maIds flt [] q = mi at *
  go_wp2_with fail
  refine Calls.mono HS.out ?_
  rintro e w4 ⟨rfl, hE4⟩
  clear HS
  have g5 := hE4.cell f5
  have HWh : Hid _ := wholeFields_any (w.heap.size + 1) none 0 [] w4 hl (hg3.ext hE4) (hc _)
  clear f5
  go_wp2_with fail
  refine Calls.mono HWh.out ?_
  rintro e w5 ⟨rfl, hk5'⟩
  clear HWh
  have D := ma_mid S hEw1 hk2 hte hk3 htr hE4 hk5'
  have hro5 : OSl w5 3 1 ro mi.length rcap (mi.map (Value.int .i64)) := (hro3.ext hE4).kp hk5' (fun g hg => by have := (hrf g hg).1; omega)
  have HK : Hid _ := keep_any wb v0 v1 (.slice none 0 0) (.slice none 0 0) v5 ia ic icap vs ro mi.length rcap (mi.map (Value.int .i64)) w5 hml hic D.1 D.2.1 hro5 (fun g hg e => by have h1 := S.oi _ hg; rw [e] at h1; have h2 := S.ow; omega) (fun g hg e => by have h1 := (hrf _ hg).1; have h2 := S.fresh g (by omega); rw [e] at h2; have h3 := S.ow; omega) (fun g hg e => by have h1 := (hrf _ hg).1; have h2 := S.fresh g (by omega); have h3 := S.oi g e; omega)
  go_wp2_with fail
  refine Calls.mono HK.out ?_
  rintro e w6 ⟨rfl, hkp⟩
  clear HK
  generalize maErr [] q = me at *
  generalize maPlace [] q = mp at *
  go_wp2_with fail
  refine (num_any _ _).mono ?_
  rintro e w7 ⟨rfl, rfl⟩
  go_wp2
  go_ret
  exact ⟨rfl, ma_end C S hte htr htt hEw1 lw1 hrf hk2 he2 hF' hk3 hr3 hE4 hk5' D.2.2 hro5 hkp hml (Ext.refl _)⟩
end Go.Proofs.YtpbblaeamddbgaaGreat
namespace Go.Proofs.YtpbblaeamddbgaaGreat
open Go.RowKit

set_option maxHeartbeats 1600000 in
set_option maxRecDepth 100000 in
theorem matches_core5 {E : World → Nat → (Nat → Prop) → List Int → List (Int × List Cd) → Int → Prop} (C : EngC E) (own : Nat → Nat) (wb : Nat) (v0 v1 v5 : Value) (ia : Option Addr) (ic icap : Nat) (vs : List Value) (eb rb te tr : Nat) (sch : List Int) (flt : List (Int × List Cd)) (nn : Int) (kind at_ id : Int) (nv fv xv sv : Value) (a : Addr) (cap : Nat) (ev : List Fd) (w : World)
    (S : St w own wb v0 v1 v5 ia ic icap vs) (T : Two E w eb rb (fun b => own b = te) (fun b => own b = tr) sch flt nn) (hte : 10 ≤ te) (htr : 10 ≤ tr) (htt : te ≠ tr) (hs6 : sch.length ≤ 6) (hf : flt.length ≤ 100) (hG : FltOK flt) (hl : ev.length * 32 ≤ 140737488351232) (hic : (ic + 4) * 24 ≤ 140737488355328)
    (hz : ∀ j (hj : j < ev.length), ev[j].v.s.size ≤ 9223372036854775807) (hc : Fxs w (some a) ev) (ha : 0 < ev.length → own a.block = 5) (q : Nat) (hq : FirstBad sch ev q) (hk5 : (kind == 5) = true) :
    Calls Tryz.prog 35 #[.pointer (some ⟨wb, 0, none⟩), .pointer (some ⟨eb, 0, none⟩), .pointer (some ⟨rb, 0, none⟩), .agg #[.int .i64 kind, .int .i64 at_, .int .i64 id, nv, fv, .slice (some a) ev.length cap, xv, sv]] w fun e w' => e = .returned (.bool true) ∧ LMa E w w' own wb v0 v1 v5 ic eb rb te tr sch flt (maN ev q nn) := by
  have qT : ∀ (w : World) (a : Option Addr) (n c n' c' : Nat), (binOp .eql 27 (.slice a n c) (.slice none n' c')).run Tryz.prog w = .ok (.bool a.isNone) w := fun w a n c n' c' => Lib.run_eql_slice_nil w _ _ a n c n' c' Tryz.underlying27
  have hfr := S.fresh
  have own0 : ∀ (b t : Nat), w.heap.size ≤ b → 0 < t → ¬ own b = t := fun b t hb ht e => by have := hfr b hb; omega
  have hna : ∀ (t g : Nat), 10 ≤ t → blkOf (some a) = some g → 0 < ev.length → ¬ own g = t := fun t g ht hg hp e => by have := ha hp; simp [blkOf] at hg; subst hg; omega
  obtain ⟨w0, hw0⟩ : ∃ w0 : World, w0 = w.alloc (.cells #[.int .i64 kind, .int .i64 at_, .int .i64 id, nv, fv, .slice (some a) ev.length cap, xv, sv] 30) := ⟨_, rfl⟩
  have hE0 : Ext w w0 := by rw [hw0]; exact (Ext.refl w).alloc _
  have hz0 : w0.heap.size = w.heap.size + 1 := by rw [hw0]; simp
  have k0 : w0.cell? ⟨w.heap.size, 0, none⟩ = some (.int .i64 kind) := by rw [hw0]; exact cell_new _ _ _ _ _ rfl rfl
  have k5 : w0.cell? ⟨w.heap.size, 5, none⟩ = some (.slice (some a) ev.length cap) := by rw [hw0]; exact cell_new _ _ _ _ _ rfl rfl
  have HF : Hid _ := fields_any (some a) cap ev w0 hl (hc.ext hE0)
  rw [hz0] at HF
  rw [hw0] at HF
  go_enter Tryz.func35, Tryz.ntmps35
  go_wp2_with fail
  refine Calls.mono HF.out ?_
  rintro e w1 ⟨rfl, hr1, hE1'⟩
  have hE1 : Ext w0 w1 := by rw [hw0]; exact hE1'
  have hEw1 : Ext w w1 := hE0.trans hE1
  have c0 := hE1.cell k0
  have c5 := hE1.cell k5
  have lw1 : w.heap.size + 1 < w1.heap.size := hr1.lt
  clear HF hE1' hw0 k0 k5
  have t1 := T.ext1 C hEw1
  have M := C.ma 17 (Or.inr (Or.inl rfl)) eb (fun b => own b = te) sch flt nn (some ⟨w.heap.size + 1, 0, none⟩) (ev.length + 3) ev w1 hl t1.1 (fun _ => ⟨_, _, rfl, pad_fds hr1⟩) q hq
  have HM : Hid _ := M
  clear M
  go_wp2_with fail
  refine Calls.mono HM.out ?_
  rintro e w2 ⟨ro, rcap, F', rfl, hro, hrf, hk2, he2, hF'⟩
  clear HM
  have d0 := hk2.cell c0 (own0 _ _ (by simp) (by omega))
  have d5 := hk2.cell c5 (own0 _ _ (by simp) (by omega))
  have hc2 : Fxs w2 (some a) ev := fxs_kp (hc.ext hEw1) hk2 (fun g hg hp => hna te g hte hg hp)
  have hr2 : RefN w2 rb (fun b => own b = tr) sch flt nn := t1.2.kp hk2 (fun b hb hF => htt (hF.symm.trans hb))
  have hg2 := hk2.row hr1 (own0 _ _ (by simp) (by omega))
  have HR : Hid _ := rMatchN_any rb (fun b => own b = tr) sch flt nn (some a) cap ev w2 hs6 hl hf hr2 hc2 (fun g hg hp => hna tr g htr hg hp) q hq hz hG
  clear c0 c5
  go_wp2_with fail
  refine Calls.mono HR.out ?_
  rintro e w3 ⟨mo, mcap, rfl, hmo, hmf, hk3, hr3⟩
  clear HR
  have f5 := hk3.cell d5 (own0 _ _ (by simp) (by omega))
  have hc3 : Fxs w3 (some a) ev := fxs_kp hc2 hk3 (fun g hg hp => hna tr g htr hg hp)
  have hg3 := hk3.row hg2 (own0 _ _ (by simp) (by omega))
  have hro3 := hro.kp hk3 (fun g hg => own0 g _ (by have := (hrf g hg).1; omega) (by omega))
  have hml := ma_len ev q hf
  have HS : Hid _ := sameNumbers_any ro mo rcap mcap (maIds flt ev q) (maIds flt ev q) w3 (by omega) (by omega) (ixs_of_osl hro3) (ixs_of_osl hmo)
  rw [eqB_refl] at HS
  clear d0 d5
  generalize maIds flt ev q = mi at *
  go_wp2_with fail
  refine Calls.mono HS.out ?_
  rintro e w4 ⟨rfl, hE4⟩
  clear HS
  have g5 := hE4.cell f5
  have HWh : Hid _ := wholeFields_any (w.heap.size + 1) (some a) cap ev w4 hl (hg3.ext hE4) (hc3.ext hE4)
  clear f5
  go_wp2_with fail
  refine Calls.mono HWh.out ?_
  rintro e w5 ⟨rfl, hk5'⟩
  clear HWh
  have D := ma_mid S hEw1 hk2 hte hk3 htr hE4 hk5'
  have hro5 : OSl w5 3 1 ro mi.length rcap (mi.map (Value.int .i64)) := (hro3.ext hE4).kp hk5' (fun g hg => by have := (hrf g hg).1; omega)
  have HK : Hid _ := keep_any wb v0 v1 (.slice none 0 0) (.slice none 0 0) v5 ia ic icap vs ro mi.length rcap (mi.map (Value.int .i64)) w5 hml hic D.1 D.2.1 hro5 (fun g hg e => by have h1 := S.oi _ hg; rw [e] at h1; have h2 := S.ow; omega) (fun g hg e => by have h1 := (hrf _ hg).1; have h2 := S.fresh g (by omega); rw [e] at h2; have h3 := S.ow; omega) (fun g hg e => by have h1 := (hrf _ hg).1; have h2 := S.fresh g (by omega); have h3 := S.oi g e; omega)
  go_wp2_with fail
  refine Calls.mono HK.out ?_
  rintro e w6 ⟨rfl, hkp⟩
  clear HK
  generalize maErr ev q = me at *
  generalize maPlace ev q = mp at *
  go_wp2_with fail
  refine (num_any _ _).mono ?_
  rintro e w7 ⟨rfl, rfl⟩
  go_wp2
  go_ret
  exact ⟨rfl, ma_end C S hte htr htt hEw1 lw1 hrf hk2 he2 hF' hk3 hr3 hE4 hk5' D.2.2 hro5 hkp hml (Ext.refl _)⟩

set_option maxHeartbeats 1600000 in
set_option maxRecDepth 100000 in
theorem matches_core6 {E : World → Nat → (Nat → Prop) → List Int → List (Int × List Cd) → Int → Prop} (C : EngC E) (own : Nat → Nat) (wb : Nat) (v0 v1 v5 : Value) (ia : Option Addr) (ic icap : Nat) (vs : List Value) (eb rb te tr : Nat) (sch : List Int) (flt : List (Int × List Cd)) (nn : Int) (kind at_ id : Int) (nv fv xv sv : Value) (a : Addr) (cap : Nat) (ev : List Fd) (w : World)
    (S : St w own wb v0 v1 v5 ia ic icap vs) (T : Two E w eb rb (fun b => own b = te) (fun b => own b = tr) sch flt nn) (hte : 10 ≤ te) (htr : 10 ≤ tr) (htt : te ≠ tr) (hs6 : sch.length ≤ 6) (hf : flt.length ≤ 100) (hG : FltOK flt) (hl : ev.length * 32 ≤ 140737488351232) (hic : (ic + 4) * 24 ≤ 140737488355328)
    (hz : ∀ j (hj : j < ev.length), ev[j].v.s.size ≤ 9223372036854775807) (hc : Fxs w (some a) ev) (ha : 0 < ev.length → own a.block = 5) (q : Nat) (hq : FirstBad sch ev q) (hk5 : (kind == 5) = false) (hk6 : (kind == 6) = true) :
    Calls Tryz.prog 35 #[.pointer (some ⟨wb, 0, none⟩), .pointer (some ⟨eb, 0, none⟩), .pointer (some ⟨rb, 0, none⟩), .agg #[.int .i64 kind, .int .i64 at_, .int .i64 id, nv, fv, .slice (some a) ev.length cap, xv, sv]] w fun e w' => e = .returned (.bool true) ∧ LMa E w w' own wb v0 v1 v5 ic eb rb te tr sch flt (maN ev q nn) := by
  have qT : ∀ (w : World) (a : Option Addr) (n c n' c' : Nat), (binOp .eql 27 (.slice a n c) (.slice none n' c')).run Tryz.prog w = .ok (.bool a.isNone) w := fun w a n c n' c' => Lib.run_eql_slice_nil w _ _ a n c n' c' Tryz.underlying27
  have hfr := S.fresh
  have own0 : ∀ (b t : Nat), w.heap.size ≤ b → 0 < t → ¬ own b = t := fun b t hb ht e => by have := hfr b hb; omega
  have hna : ∀ (t g : Nat), 10 ≤ t → blkOf (some a) = some g → 0 < ev.length → ¬ own g = t := fun t g ht hg hp e => by have := ha hp; simp [blkOf] at hg; subst hg; omega
  obtain ⟨w0, hw0⟩ : ∃ w0 : World, w0 = w.alloc (.cells #[.int .i64 kind, .int .i64 at_, .int .i64 id, nv, fv, .slice (some a) ev.length cap, xv, sv] 30) := ⟨_, rfl⟩
  have hE0 : Ext w w0 := by rw [hw0]; exact (Ext.refl w).alloc _
  have hz0 : w0.heap.size = w.heap.size + 1 := by rw [hw0]; simp
  have k0 : w0.cell? ⟨w.heap.size, 0, none⟩ = some (.int .i64 kind) := by rw [hw0]; exact cell_new _ _ _ _ _ rfl rfl
  have k5 : w0.cell? ⟨w.heap.size, 5, none⟩ = some (.slice (some a) ev.length cap) := by rw [hw0]; exact cell_new _ _ _ _ _ rfl rfl
  have HF : Hid _ := fields_any (some a) cap ev w0 hl (hc.ext hE0)
  rw [hz0] at HF
  rw [hw0] at HF
  go_enter Tryz.func35, Tryz.ntmps35
  go_wp2_with fail
  refine Calls.mono HF.out ?_
  rintro e w1 ⟨rfl, hr1, hE1'⟩
  have hE1 : Ext w0 w1 := by rw [hw0]; exact hE1'
  have hEw1 : Ext w w1 := hE0.trans hE1
  have c0 := hE1.cell k0
  have c5 := hE1.cell k5
  have lw1 : w.heap.size + 1 < w1.heap.size := hr1.lt
  clear HF hE1' hw0 k0 k5
  have t1 := T.ext1 C hEw1
  have M := C.ma 18 (Or.inr (Or.inr rfl)) eb (fun b => own b = te) sch flt nn (some ⟨w.heap.size + 1, 0, none⟩) (ev.length + 3) ev w1 hl t1.1 (fun _ => ⟨_, _, rfl, pad_fds hr1⟩) q hq
  have HM : Hid _ := M
  clear M
  go_wp2_with fail
  refine Calls.mono HM.out ?_
  rintro e w2 ⟨ro, rcap, F', rfl, hro, hrf, hk2, he2, hF'⟩
  clear HM
  have d0 := hk2.cell c0 (own0 _ _ (by simp) (by omega))
  have d5 := hk2.cell c5 (own0 _ _ (by simp) (by omega))
  have hc2 : Fxs w2 (some a) ev := fxs_kp (hc.ext hEw1) hk2 (fun g hg hp => hna te g hte hg hp)
  have hr2 : RefN w2 rb (fun b => own b = tr) sch flt nn := t1.2.kp hk2 (fun b hb hF => htt (hF.symm.trans hb))
  have hg2 := hk2.row hr1 (own0 _ _ (by simp) (by omega))
  have HR : Hid _ := rMatchN_any rb (fun b => own b = tr) sch flt nn (some a) cap ev w2 hs6 hl hf hr2 hc2 (fun g hg hp => hna tr g htr hg hp) q hq hz hG
  clear c0 c5
  go_wp2_with fail
  refine Calls.mono HR.out ?_
  rintro e w3 ⟨mo, mcap, rfl, hmo, hmf, hk3, hr3⟩
  clear HR
  have f5 := hk3.cell d5 (own0 _ _ (by simp) (by omega))
  have hc3 : Fxs w3 (some a) ev := fxs_kp hc2 hk3 (fun g hg hp => hna tr g htr hg hp)
  have hg3 := hk3.row hg2 (own0 _ _ (by simp) (by omega))
  have hro3 := hro.kp hk3 (fun g hg => own0 g _ (by have := (hrf g hg).1; omega) (by omega))
  have hml := ma_len ev q hf
  have HS : Hid _ := sameNumbers_any ro mo rcap mcap (maIds flt ev q) (maIds flt ev q) w3 (by omega) (by omega) (ixs_of_osl hro3) (ixs_of_osl hmo)
  rw [eqB_refl] at HS
  clear d0 d5
  generalize maIds flt ev q = mi at *
  go_wp2_with fail
  refine Calls.mono HS.out ?_
  rintro e w4 ⟨rfl, hE4⟩
  clear HS
  have g5 := hE4.cell f5
  have HWh : Hid _ := wholeFields_any (w.heap.size + 1) (some a) cap ev w4 hl (hg3.ext hE4) (hc3.ext hE4)
  clear f5
  go_wp2_with fail
  refine Calls.mono HWh.out ?_
  rintro e w5 ⟨rfl, hk5'⟩
  clear HWh
  have D := ma_mid S hEw1 hk2 hte hk3 htr hE4 hk5'
  have hro5 : OSl w5 3 1 ro mi.length rcap (mi.map (Value.int .i64)) := (hro3.ext hE4).kp hk5' (fun g hg => by have := (hrf g hg).1; omega)
  have HK : Hid _ := keep_any wb v0 v1 (.slice none 0 0) (.slice none 0 0) v5 ia ic icap vs ro mi.length rcap (mi.map (Value.int .i64)) w5 hml hic D.1 D.2.1 hro5 (fun g hg e => by have h1 := S.oi _ hg; rw [e] at h1; have h2 := S.ow; omega) (fun g hg e => by have h1 := (hrf _ hg).1; have h2 := S.fresh g (by omega); rw [e] at h2; have h3 := S.ow; omega) (fun g hg e => by have h1 := (hrf _ hg).1; have h2 := S.fresh g (by omega); have h3 := S.oi g e; omega)
  go_wp2_with fail
  refine Calls.mono HK.out ?_
  rintro e w6 ⟨rfl, hkp⟩
  clear HK
  generalize maErr ev q = me at *
  generalize maPlace ev q = mp at *
  go_wp2_with fail
  refine (num_any _ _).mono ?_
  rintro e w7 ⟨rfl, rfl⟩
  go_wp2
  go_ret
  exact ⟨rfl, ma_end C S hte htr htt hEw1 lw1 hrf hk2 he2 hF' hk3 hr3 hE4 hk5' D.2.2 hro5 hkp hml (Ext.refl _)⟩

set_option maxHeartbeats 1600000 in
set_option maxRecDepth 100000 in
theorem matches_nil5 {E : World → Nat → (Nat → Prop) → List Int → List (Int × List Cd) → Int → Prop} (C : EngC E) (own : Nat → Nat) (wb : Nat) (v0 v1 v5 : Value) (ia : Option Addr) (ic icap : Nat) (vs : List Value) (eb rb te tr : Nat) (sch : List Int) (flt : List (Int × List Cd)) (nn : Int) (kind at_ id : Int) (nv fv xv sv : Value) (w : World)
    (S : St w own wb v0 v1 v5 ia ic icap vs) (T : Two E w eb rb (fun b => own b = te) (fun b => own b = tr) sch flt nn) (hte : 10 ≤ te) (htr : 10 ≤ tr) (htt : te ≠ tr) (hs6 : sch.length ≤ 6) (hf : flt.length ≤ 100) (hG : FltOK flt) (hic : (ic + 4) * 24 ≤ 140737488355328)
    (q : Nat) (hq : FirstBad sch [] q) (hk5 : (kind == 5) = true) :
    Calls Tryz.prog 35 #[.pointer (some ⟨wb, 0, none⟩), .pointer (some ⟨eb, 0, none⟩), .pointer (some ⟨rb, 0, none⟩), .agg #[.int .i64 kind, .int .i64 at_, .int .i64 id, nv, fv, .slice none 0 0, xv, sv]] w fun e w' => e = .returned (.bool true) ∧ LMa E w w' own wb v0 v1 v5 ic eb rb te tr sch flt (maN [] q nn) := by
  have qT : ∀ (w : World) (a : Option Addr) (n c n' c' : Nat), (binOp .eql 27 (.slice a n c) (.slice none n' c')).run Tryz.prog w = .ok (.bool a.isNone) w := fun w a n c n' c' => Lib.run_eql_slice_nil w _ _ a n c n' c' Tryz.underlying27
  have hl : ([] : List Fd).length * 32 ≤ 140737488351232 := by simp
  have hz : ∀ j (hj : j < ([] : List Fd).length), ([] : List Fd)[j].v.s.size ≤ 9223372036854775807 := fun j hj => absurd hj (by simp)
  have hc : ∀ w, Fxs w none [] := fun _ h => absurd h (by simp)
  have hfr := S.fresh
  have own0 : ∀ (b t : Nat), w.heap.size ≤ b → 0 < t → ¬ own b = t := fun b t hb ht e => by have := hfr b hb; omega
  obtain ⟨w0, hw0⟩ : ∃ w0 : World, w0 = w.alloc (.cells #[.int .i64 kind, .int .i64 at_, .int .i64 id, nv, fv, .slice none 0 0, xv, sv] 30) := ⟨_, rfl⟩
  have hE0 : Ext w w0 := by rw [hw0]; exact (Ext.refl w).alloc _
  have hz0 : w0.heap.size = w.heap.size + 1 := by rw [hw0]; simp
  have k0 : w0.cell? ⟨w.heap.size, 0, none⟩ = some (.int .i64 kind) := by rw [hw0]; exact cell_new _ _ _ _ _ rfl rfl
  have k5 : w0.cell? ⟨w.heap.size, 5, none⟩ = some (.slice none 0 0) := by rw [hw0]; exact cell_new _ _ _ _ _ rfl rfl
  have HF : Hid _ := fields_any none 0 [] w0 hl (hc _)
  rw [hz0] at HF
  rw [hw0] at HF
  go_enter Tryz.func35, Tryz.ntmps35
  go_wp2_with fail
  refine Calls.mono HF.out ?_
  rintro e w1 ⟨rfl, hr1, hE1'⟩
  have hE1 : Ext w0 w1 := by rw [hw0]; exact hE1'
  have hEw1 : Ext w w1 := hE0.trans hE1
  have c0 := hE1.cell k0
  have c5 := hE1.cell k5
  have lw1 : w.heap.size + 1 < w1.heap.size := hr1.lt
  clear HF hE1' hw0 k0 k5
  have t1 := T.ext1 C hEw1
  have M := C.ma 17 (Or.inr (Or.inl rfl)) eb (fun b => own b = te) sch flt nn none 0 [] w1 hl t1.1 (hc _) q hq
  have HM : Hid _ := M
  clear M
  go_wp2_with fail
  refine Calls.mono HM.out ?_
  rintro e w2 ⟨ro, rcap, F', rfl, hro, hrf, hk2, he2, hF'⟩
  clear HM
  have d0 := hk2.cell c0 (own0 _ _ (by simp) (by omega))
  have d5 := hk2.cell c5 (own0 _ _ (by simp) (by omega))
  have hr2 : RefN w2 rb (fun b => own b = tr) sch flt nn := t1.2.kp hk2 (fun b hb hF => htt (hF.symm.trans hb))
  have hg2 := hk2.row hr1 (own0 _ _ (by simp) (by omega))
  have HR : Hid _ := rMatchN_any rb (fun b => own b = tr) sch flt nn none 0 [] w2 hs6 hl hf hr2 (hc _) (fun g hg => by cases hg) q hq hz hG
  clear c0 c5
  go_wp2_with fail
  refine Calls.mono HR.out ?_
  rintro e w3 ⟨mo, mcap, rfl, hmo, hmf, hk3, hr3⟩
  clear HR
  have f5 := hk3.cell d5 (own0 _ _ (by simp) (by omega))
  have hg3 := hk3.row hg2 (own0 _ _ (by simp) (by omega))
  have hro3 := hro.kp hk3 (fun g hg => own0 g _ (by have := (hrf g hg).1; omega) (by omega))
  have hml := ma_len [] q hf
  have HS : Hid _ := sameNumbers_any ro mo rcap mcap (maIds flt [] q) (maIds flt [] q) w3 (by omega) (by omega) (ixs_of_osl hro3) (ixs_of_osl hmo)
  rw [eqB_refl] at HS
  clear d0 d5
  generalize maIds flt [] q = mi at *
  go_wp2_with fail
  refine Calls.mono HS.out ?_
  rintro e w4 ⟨rfl, hE4⟩
  clear HS
  have g5 := hE4.cell f5
  have HWh : Hid _ := wholeFields_any (w.heap.size + 1) none 0 [] w4 hl (hg3.ext hE4) (hc _)
  clear f5
  go_wp2_with fail
  refine Calls.mono HWh.out ?_
  rintro e w5 ⟨rfl, hk5'⟩
  clear HWh
  have D := ma_mid S hEw1 hk2 hte hk3 htr hE4 hk5'
  have hro5 : OSl w5 3 1 ro mi.length rcap (mi.map (Value.int .i64)) := (hro3.ext hE4).kp hk5' (fun g hg => by have := (hrf g hg).1; omega)
  have HK : Hid _ := keep_any wb v0 v1 (.slice none 0 0) (.slice none 0 0) v5 ia ic icap vs ro mi.length rcap (mi.map (Value.int .i64)) w5 hml hic D.1 D.2.1 hro5 (fun g hg e => by have h1 := S.oi _ hg; rw [e] at h1; have h2 := S.ow; omega) (fun g hg e => by have h1 := (hrf _ hg).1; have h2 := S.fresh g (by omega); rw [e] at h2; have h3 := S.ow; omega) (fun g hg e => by have h1 := (hrf _ hg).1; have h2 := S.fresh g (by omega); have h3 := S.oi g e; omega)
  go_wp2_with fail
  refine Calls.mono HK.out ?_
  rintro e w6 ⟨rfl, hkp⟩
  clear HK
  generalize maErr [] q = me at *
  generalize maPlace [] q = mp at *
  go_wp2_with fail
  refine (num_any _ _).mono ?_
  rintro e w7 ⟨rfl, rfl⟩
  go_wp2
  go_ret
  exact ⟨rfl, ma_end C S hte htr htt hEw1 lw1 hrf hk2 he2 hF' hk3 hr3 hE4 hk5' D.2.2 hro5 hkp hml (Ext.refl _)⟩

set_option maxHeartbeats 1600000 in
set_option maxRecDepth 100000 in
theorem matches_nil6 {E : World → Nat → (Nat → Prop) → List Int → List (Int × List Cd) → Int → Prop} (C : EngC E) (own : Nat → Nat) (wb : Nat) (v0 v1 v5 : Value) (ia : Option Addr) (ic icap : Nat) (vs : List Value) (eb rb te tr : Nat) (sch : List Int) (flt : List (Int × List Cd)) (nn : Int) (kind at_ id : Int) (nv fv xv sv : Value) (w : World)
    (S : St w own wb v0 v1 v5 ia ic icap vs) (T : Two E w eb rb (fun b => own b = te) (fun b => own b = tr) sch flt nn) (hte : 10 ≤ te) (htr : 10 ≤ tr) (htt : te ≠ tr) (hs6 : sch.length ≤ 6) (hf : flt.length ≤ 100) (hG : FltOK flt) (hic : (ic + 4) * 24 ≤ 140737488355328)
    (q : Nat) (hq : FirstBad sch [] q) (hk5 : (kind == 5) = false) (hk6 : (kind == 6) = true) :
    Calls Tryz.prog 35 #[.pointer (some ⟨wb, 0, none⟩), .pointer (some ⟨eb, 0, none⟩), .pointer (some ⟨rb, 0, none⟩), .agg #[.int .i64 kind, .int .i64 at_, .int .i64 id, nv, fv, .slice none 0 0, xv, sv]] w fun e w' => e = .returned (.bool true) ∧ LMa E w w' own wb v0 v1 v5 ic eb rb te tr sch flt (maN [] q nn) := by
  have qT : ∀ (w : World) (a : Option Addr) (n c n' c' : Nat), (binOp .eql 27 (.slice a n c) (.slice none n' c')).run Tryz.prog w = .ok (.bool a.isNone) w := fun w a n c n' c' => Lib.run_eql_slice_nil w _ _ a n c n' c' Tryz.underlying27
  have hl : ([] : List Fd).length * 32 ≤ 140737488351232 := by simp
  have hz : ∀ j (hj : j < ([] : List Fd).length), ([] : List Fd)[j].v.s.size ≤ 9223372036854775807 := fun j hj => absurd hj (by simp)
  have hc : ∀ w, Fxs w none [] := fun _ h => absurd h (by simp)
  have hfr := S.fresh
  have own0 : ∀ (b t : Nat), w.heap.size ≤ b → 0 < t → ¬ own b = t := fun b t hb ht e => by have := hfr b hb; omega
  obtain ⟨w0, hw0⟩ : ∃ w0 : World, w0 = w.alloc (.cells #[.int .i64 kind, .int .i64 at_, .int .i64 id, nv, fv, .slice none 0 0, xv, sv] 30) := ⟨_, rfl⟩
  have hE0 : Ext w w0 := by rw [hw0]; exact (Ext.refl w).alloc _
  have hz0 : w0.heap.size = w.heap.size + 1 := by rw [hw0]; simp
  have k0 : w0.cell? ⟨w.heap.size, 0, none⟩ = some (.int .i64 kind) := by rw [hw0]; exact cell_new _ _ _ _ _ rfl rfl
  have k5 : w0.cell? ⟨w.heap.size, 5, none⟩ = some (.slice none 0 0) := by rw [hw0]; exact cell_new _ _ _ _ _ rfl rfl
  have HF : Hid _ := fields_any none 0 [] w0 hl (hc _)
  rw [hz0] at HF
  rw [hw0] at HF
  go_enter Tryz.func35, Tryz.ntmps35
  go_wp2_with fail
  refine Calls.mono HF.out ?_
  rintro e w1 ⟨rfl, hr1, hE1'⟩
  have hE1 : Ext w0 w1 := by rw [hw0]; exact hE1'
  have hEw1 : Ext w w1 := hE0.trans hE1
  have c0 := hE1.cell k0
  have c5 := hE1.cell k5
  have lw1 : w.heap.size + 1 < w1.heap.size := hr1.lt
  clear HF hE1' hw0 k0 k5
  have t1 := T.ext1 C hEw1
  have M := C.ma 18 (Or.inr (Or.inr rfl)) eb (fun b => own b = te) sch flt nn none 0 [] w1 hl t1.1 (hc _) q hq
  have HM : Hid _ := M
  clear M
  go_wp2_with fail
  refine Calls.mono HM.out ?_
  rintro e w2 ⟨ro, rcap, F', rfl, hro, hrf, hk2, he2, hF'⟩
  clear HM
  have d0 := hk2.cell c0 (own0 _ _ (by simp) (by omega))
  have d5 := hk2.cell c5 (own0 _ _ (by simp) (by omega))
  have hr2 : RefN w2 rb (fun b => own b = tr) sch flt nn := t1.2.kp hk2 (fun b hb hF => htt (hF.symm.trans hb))
  have hg2 := hk2.row hr1 (own0 _ _ (by simp) (by omega))
  have HR : Hid _ := rMatchN_any rb (fun b => own b = tr) sch flt nn none 0 [] w2 hs6 hl hf hr2 (hc _) (fun g hg => by cases hg) q hq hz hG
  clear c0 c5
  go_wp2_with fail
  refine Calls.mono HR.out ?_
  rintro e w3 ⟨mo, mcap, rfl, hmo, hmf, hk3, hr3⟩
  clear HR
  have f5 := hk3.cell d5 (own0 _ _ (by simp) (by omega))
  have hg3 := hk3.row hg2 (own0 _ _ (by simp) (by omega))
  have hro3 := hro.kp hk3 (fun g hg => own0 g _ (by have := (hrf g hg).1; omega) (by omega))
  have hml := ma_len [] q hf
  have HS : Hid _ := sameNumbers_any ro mo rcap mcap (maIds flt [] q) (maIds flt [] q) w3 (by omega) (by omega) (ixs_of_osl hro3) (ixs_of_osl hmo)
  rw [eqB_refl] at HS
  clear d0 d5
  generalize maIds flt [] q = mi at *
  go_wp2_with fail
  refine Calls.mono HS.out ?_
  rintro e w4 ⟨rfl, hE4⟩
  clear HS
  have g5 := hE4.cell f5
  have HWh : Hid _ := wholeFields_any (w.heap.size + 1) none 0 [] w4 hl (hg3.ext hE4) (hc _)
  clear f5
  go_wp2_with fail
  refine Calls.mono HWh.out ?_
  rintro e w5 ⟨rfl, hk5'⟩
  clear HWh
  have D := ma_mid S hEw1 hk2 hte hk3 htr hE4 hk5'
  have hro5 : OSl w5 3 1 ro mi.length rcap (mi.map (Value.int .i64)) := (hro3.ext hE4).kp hk5' (fun g hg => by have := (hrf g hg).1; omega)
  have HK : Hid _ := keep_any wb v0 v1 (.slice none 0 0) (.slice none 0 0) v5 ia ic icap vs ro mi.length rcap (mi.map (Value.int .i64)) w5 hml hic D.1 D.2.1 hro5 (fun g hg e => by have h1 := S.oi _ hg; rw [e] at h1; have h2 := S.ow; omega) (fun g hg e => by have h1 := (hrf _ hg).1; have h2 := S.fresh g (by omega); rw [e] at h2; have h3 := S.ow; omega) (fun g hg e => by have h1 := (hrf _ hg).1; have h2 := S.fresh g (by omega); have h3 := S.oi g e; omega)
  go_wp2_with fail
  refine Calls.mono HK.out ?_
  rintro e w6 ⟨rfl, hkp⟩
  clear HK
  generalize maErr [] q = me at *
  generalize maPlace [] q = mp at *
  go_wp2_with fail
  refine (num_any _ _).mono ?_
  rintro e w7 ⟨rfl, rfl⟩
  go_wp2
  go_ret
  exact ⟨rfl, ma_end C S hte htr htt hEw1 lw1 hrf hk2 he2 hF' hk3 hr3 hE4 hk5' D.2.2 hro5 hkp hml (Ext.refl _)⟩

end Go.Proofs.YtpbblaeamddbgaaGreat
namespace Go.Proofs.YtpbblaeamddbgaaGreat
open Go.RowKit

theorem pad_ints {w : World} {g : Nat} {T : TypeId} {xs : List Int} (h : Row w g T (padI xs)) : Ixs w (some ⟨g, 0, none⟩) xs := fun _ => by
  obtain ⟨b, o, e, hI⟩ := padI_row h (by simp)
  cases e
  refine ⟨g, 0, rfl, fun j hj => ?_⟩
  have := hI j (by simp; omega)
  rw [this]
  simp [List.getElem?_append_left hj]
theorem ixs_kp {w w' : World} {ao : Option Addr} {l : List Int} {M : Nat → Prop} (h : Ixs w ao l) (k : Kp M w w') (hm : ∀ g, blkOf ao = some g → ¬ M g) : Ixs w' ao l := fun hp => by
  obtain ⟨b, o, h1, h2⟩ := h hp
  exact ⟨b, o, h1, h2.kp k (hm b (by rw [h1]; rfl))⟩

set_option maxHeartbeats 800000 in
set_option maxRecDepth 100000 in
theorem made_nil {E : World → Nat → (Nat → Prop) → List Int → List (Int × List Cd) → Int → Prop} (C : EngC E) (wb : Nat) (w : World) :
    Calls Tryz.prog 33 #[.pointer (some ⟨wb, 0, none⟩), .slice none 0 0] w fun e w' => e = .returned (.bool true) ∧ Ext w w' := by
  have qT : ∀ (w : World) (a : Option Addr) (n c n' c' : Nat), (binOp .eql 25 (.slice a n c) (.slice none n' c')).run Tryz.prog w = .ok (.bool a.isNone) w := fun w a n c n' c' => Lib.run_eql_slice_nil w _ _ a n c n' c' Tryz.underlying25
  have hs : schB [] = false := rfl
  have hI : ∀ w, Ixs w none [] := fun _ h => absurd h (by simp)
  have HN := fun w => C.new_no none 0 [] w (by simp) (hI w) (fun _ => ⟨rfl, rfl⟩) hs
  have HN' : Hid _ := HN
  have HS : Hid (∀ w, Calls Tryz.prog 63 #[.slice none 0 0] w fun e w' => e = .returned (.bool false) ∧ w' = w) := fun w => rSchema_any none 0 [] w (by simp) (hI w)
  clear HN
  go_enter Tryz.func33, Tryz.ntmps33
  go_wp2_with fail
  refine (numbers_any none 0 [] w (by simp) (hI w)).mono ?_
  rintro e w1 ⟨rfl, hr1, hE1⟩
  go_wp2_with fail
  refine (HN'.out w1).mono ?_
  rintro e w2 ⟨rfl, hE2⟩
  go_wp2_with fail
  refine Calls.mono (HS.out w2) ?_
  rintro e w3 ⟨rfl, rfl⟩
  go_wp2_with fail
  refine (wholeNumbers_any w.heap.size none 0 [] w3 (by simp) (hr1.ext hE2) (hI _)).mono ?_
  rintro e w4 ⟨rfl, hk4⟩
  have hE4 : Ext w w4 := (hE1.trans hE2).kpFresh hk4 (Nat.le_refl _)
  go_wp2_with fail
  refine (num_any _ _).mono ?_
  rintro e w5 ⟨rfl, rfl⟩
  go_wp2
  go_ret
  exact ⟨rfl, hE4⟩

set_option maxHeartbeats 800000 in
set_option maxRecDepth 100000 in
theorem made_no {E : World → Nat → (Nat → Prop) → List Int → List (Int × List Cd) → Int → Prop} (C : EngC E) (wb : Nat) (a : Addr) (cap : Nat) (xs : List Int) (w : World) (hl : xs.length * 8 ≤ 140737488351232) (hx : Ixs w (some a) xs) (hs : schB xs = false) :
    Calls Tryz.prog 33 #[.pointer (some ⟨wb, 0, none⟩), .slice (some a) xs.length cap] w fun e w' => e = .returned (.bool true) ∧ Ext w w' := by
  have qT : ∀ (w : World) (a : Option Addr) (n c n' c' : Nat), (binOp .eql 25 (.slice a n c) (.slice none n' c')).run Tryz.prog w = .ok (.bool a.isNone) w := fun w a n c n' c' => Lib.run_eql_slice_nil w _ _ a n c n' c' Tryz.underlying25
  have HS : Hid (∀ w, Ixs w (some a) xs → Calls Tryz.prog 63 #[.slice (some a) xs.length cap] w fun e w' => e = .returned (.bool false) ∧ w' = w) := fun w h => by
    have := rSchema_any (some a) cap xs w hl h
    rw [hs] at this; exact this
  have hsH : Hid (schB xs = false) := hs
  clear hs
  go_enter Tryz.func33, Tryz.ntmps33
  go_wp2_with fail
  refine (numbers_any _ cap xs w hl hx).mono ?_
  rintro e w1 ⟨rfl, hr1, hE1⟩
  go_wp2_with fail
  refine (C.new_no (some ⟨w.heap.size, 0, none⟩) (xs.length + 3) xs w1 hl (pad_ints hr1) (fun h => by cases h) hsH.out).mono ?_
  rintro e w2 ⟨rfl, hE2⟩
  go_wp2_with fail
  refine (HS.out w2 ((hx.ext hE1).ext hE2)).mono ?_
  rintro e w3 ⟨rfl, rfl⟩
  go_wp2_with fail
  refine (wholeNumbers_any w.heap.size _ cap xs w3 hl (hr1.ext hE2) ((hx.ext hE1).ext hE2)).mono ?_
  rintro e w4 ⟨rfl, hk4⟩
  have hE4 : Ext w w4 := (hE1.trans hE2).kpFresh hk4 (Nat.le_refl _)
  go_wp2_with fail
  refine (num_any _ _).mono ?_
  rintro e w5 ⟨rfl, rfl⟩
  go_wp2
  go_ret
  exact ⟨rfl, hE4⟩
end Go.Proofs.YtpbblaeamddbgaaGreat
namespace Go.Proofs.YtpbblaeamddbgaaGreat
open Go.RowKit

theorem Tryz.infoPe : (Tryz.prog.info? 33).map (fun i => (i.zero, i.size, i.bytes)) = some (some (.pointer none), 1, 8) := by kernel_rfl
theorem Tryz.infoPr : (Tryz.prog.info? 92).map (fun i => (i.zero, i.size, i.bytes)) = some (some (.pointer none), 1, 8) := by kernel_rfl
theorem ints_of_osl {w : World} {T : Nat} {ao : Option Addr} {cap : Nat} {xs : List Int} (h : OSl w T 1 ao xs.length cap (xs.map (Value.int .i64))) (hp : 0 < xs.length) : ∃ g, ao = some ⟨g, 0, none⟩ ∧ Ints w g 0 xs := by
  obtain ⟨g, rfl, _⟩ := h.at (j := 0) (v := .int .i64 xs[0]) (by simp [hp])
  obtain ⟨b, o, e, hI⟩ := ixs_of_osl h hp
  exact ⟨g, rfl, by
    intro j hj
    obtain ⟨g', e', hc⟩ := h.at (j := j) (v := .int .i64 xs[j]) (by simp [hj])
    cases e'
    rw [Nat.zero_add, hc]; simp [hj]⟩

/-- What one engine more leaves. -/
def MadePost (E : World → Nat → (Nat → Prop) → List Int → List (Int × List Cd) → Int → Prop) (w w' : World) (own : Nat → Nat) (wb : Nat) (v5 : Value) (ia : Option Addr) (ic icap : Nat) (vs : List Value) (n : Nat) (es rs : List Value) (te tr : Nat) (xs : List Int) : Prop :=
  ∃ own' eb rb ea' ecap' ra' rcap', St w' own' wb (.slice ea' (n + 1) ecap') (.slice ra' (n + 1) rcap') v5 ia ic icap vs ∧ OSl w' 33 1 ea' (n + 1) ecap' (es ++ [.pointer (some ⟨eb, 0, none⟩)]) ∧ OSl w' 92 1 ra' (n + 1) rcap' (rs ++ [.pointer (some ⟨rb, 0, none⟩)])
    ∧ (∀ g, blkOf ea' = some g → own' g = 3) ∧ (∀ g, blkOf ra' = some g → own' g = 3) ∧ (∀ g, blkOf ea' = some g → ¬ blkOf ra' = some g) ∧ Two E w' eb rb (fun b => own' b = te) (fun b => own' b = tr) xs [] 0 ∧ (∀ b, b < w.heap.size → own' b = own b) ∧ Kp (fun b => own b = 1 ∨ own b = 3) w w'
theorem made_end {E : World → Nat → (Nat → Prop) → List Int → List (Int × List Cd) → Int → Prop} (C : EngC E) {w w1 w2 w4 w5 w6 w6b w7 w8 : World} {own : Nat → Nat} {wb : Nat} {v5 : Value} {ia : Option Addr} {ic icap : Nat} {vs : List Value} {n ecap rcap : Nat} {ea ra ea6 ra7 oo : Option Addr} {ecap6 rcap7 ocap eb rb : Nat} {es rs : List Value} {te tr : Nat} {xs : List Int}
    (S : St w own wb (.slice ea n ecap) (.slice ra n rcap) v5 ia ic icap vs) (hoe : ∀ g, blkOf ea = some g → own g = 3) (hor : ∀ g, blkOf ra = some g → own g = 3) (s3 : ∀ g, blkOf ea = some g → ¬ blkOf ra = some g) (hte : 10 ≤ te) (htr : 10 ≤ tr) (htt : te ≠ tr) (hl1 : 1 ≤ xs.length)
    (hE1 : Ext w w1) (lw1 : w.heap.size < w1.heap.size) (hE2 : Ext w1 w2) (he2 : E w2 eb (fun b => w1.heap.size ≤ b ∧ b < w2.heap.size) xs [] 0) (hk4 : Kp (fun k => k = w.heap.size) w2 w4) (hE5 : Ext w4 w5) (hoo : OSl w5 3 1 oo xs.length ocap (xs.map (Value.int .i64))) (hf5 : ∀ g, blkOf oo = some g → w4.heap.size ≤ g)
    (k56 : Kp (fun b => blkOf ea = some b) w5 w6) (hes6 : OSl w6 33 1 ea6 (n + 1) ecap6 (es ++ [.pointer (some ⟨eb, 0, none⟩)])) (at6 : ∀ g, blkOf ea6 = some g → blkOf ea = some g ∨ w5.heap.size ≤ g)
    (k66 : Kp (fun b => b = wb) w6 w6b) (hrb : rb = w6.heap.size) (hrow : Row w6b rb 148 [.slice oo xs.length ocap, .slice none 0 0, .int .i64 0]) (k67 : Kp (fun b => blkOf ra = some b) w6b w7) (hrs7 : OSl w7 92 1 ra7 (n + 1) rcap7 (rs ++ [.pointer (some ⟨rb, 0, none⟩)])) (at7 : ∀ g, blkOf ra7 = some g → blkOf ra = some g ∨ w6b.heap.size ≤ g)
    (k78 : Kp (fun b => b = wb) w7 w8) (hW8 : ∀ v2 v3 v4, Row w wb 89 [.slice ea n ecap, .slice ra n rcap, v2, v3, v4, v5] → Row w8 wb 89 [.slice ea6 (n + 1) ecap6, .slice ra7 (n + 1) rcap7, v2, v3, v4, v5]) :
    MadePost E w w8 own wb v5 ia ic icap vs n es rs te tr xs := by
  have z1 := hE1.le
  have z2 := hE2.le
  have z4 := hk4.size
  have z5 := hE5.le
  have z6 := k56.size
  have z6b := k66.size
  have z7 := k67.size
  have z8 := k78.size
  have hwb := S.row.lt
  have hfr := S.fresh
  have hrl := hrow.lt
  have hlt : ∀ b, 0 < own b → b < w.heap.size := fun b hb => by
    rcases Nat.lt_or_ge b w.heap.size with h | h
    · exact h
    · have := hfr b h; omega
  have lea : ∀ g, blkOf ea = some g → g < w.heap.size ∧ g ≠ wb := fun g hg => ⟨hlt g (by have := hoe g hg; omega), fun e => by have h1 := hoe g hg; rw [e, S.ow] at h1; omega⟩
  have lra : ∀ g, blkOf ra = some g → g < w.heap.size ∧ g ≠ wb := fun g hg => ⟨hlt g (by have := hor g hg; omega), fun e => by have h1 := hor g hg; rw [e, S.ow] at h1; omega⟩
  have K58 : Kp (fun b => b = wb ∨ blkOf ea = some b ∨ blkOf ra = some b) w5 w8 := (((k56.mono (fun _ _ h => Or.inr (Or.inl h))).trans (k66.mono (fun _ _ h => Or.inl h))).trans (k67.mono (fun _ _ h => Or.inr (Or.inr h)))).trans (k78.mono (fun _ _ h => Or.inl h))
  have K68 : Kp (fun b => b = wb ∨ blkOf ra = some b) w6 w8 := ((k66.mono (fun _ _ h => Or.inl h)).trans (k67.mono (fun _ _ h => Or.inr h))).trans (k78.mono (fun _ _ h => Or.inl h))
  have K6b8 : Kp (fun b => b = wb ∨ blkOf ra = some b) w6b w8 := (k67.mono (fun _ _ h => Or.inr h)).trans (k78.mono (fun _ _ h => Or.inl h))
  have offN : ∀ b, w.heap.size ≤ b → ¬ (b = wb ∨ blkOf ea = some b ∨ blkOf ra = some b) := by
    rintro b hb (e | e | e)
    · omega
    · have := (lea b e).1; omega
    · have := (lra b e).1; omega
  have hK : Kp (fun b => own b = 1 ∨ own b = 3) w w8 := by
    have a1 : Kp (fun b => own b = 1 ∨ own b = 3) w w2 := (hE1.trans hE2).kp _
    have a2 : Kp (fun b => own b = 1 ∨ own b = 3) w w4 := ⟨hk4.os.trans a1.os, hk4.tape.trans a1.tape, hk4.output.trans a1.output, Nat.le_trans a1.size hk4.size, fun i hi hn => (hk4.block i (Nat.lt_of_lt_of_le hi a1.size) (by omega)).trans (a1.block i hi hn)⟩
    have a3 := a2.trans (hE5.kp _)
    refine a3.trans (K58.mono ?_)
    rintro b _ (e | e | e)
    · subst e; exact Or.inl S.ow
    · exact Or.inr (hoe b e)
    · exact Or.inr (hor b e)
  obtain ⟨sb, hsb, hInt⟩ := ints_of_osl hoo hl1
  subst hsb
  have hsb4 := hf5 sb rfl
  have hsb5 := hoo.lt (g := sb) rfl
  have hdec : ∃ own' : Nat → Nat, (∀ b, b < w.heap.size → own' b = own b) ∧ (∀ b, w.heap.size ≤ b → w8.heap.size ≤ b → own' b = 0) ∧ (∀ b, w1.heap.size ≤ b → b < w2.heap.size → own' b = te) ∧ own' rb = tr ∧ own' sb = tr ∧ (∀ b, w.heap.size ≤ b → b < w8.heap.size → (blkOf ea6 = some b ∨ blkOf ra7 = some b) → own' b = 3) := by
    refine ⟨fun b => @ite _ (b < w.heap.size) (Classical.propDecidable _) (own b) (@ite _ (w8.heap.size ≤ b) (Classical.propDecidable _) 0 (@ite _ (w1.heap.size ≤ b ∧ b < w2.heap.size) (Classical.propDecidable _) te (@ite _ (b = rb ∨ b = sb) (Classical.propDecidable _) tr 3))), ?_, ?_, ?_, ?_, ?_, ?_⟩
    · intro b h; simp [h]
    · intro b h1 h2; simp [show ¬ b < w.heap.size by omega, h2]
    · intro b h1 h2; simp [show ¬ b < w.heap.size by omega, show ¬ w8.heap.size ≤ b by omega, h1, h2]
    · simp [show ¬ rb < w.heap.size by omega, show ¬ w8.heap.size ≤ rb by omega, show ¬ (w1.heap.size ≤ rb ∧ rb < w2.heap.size) by omega]
    · simp [show ¬ sb < w.heap.size by omega, show ¬ w8.heap.size ≤ sb by omega, show ¬ (w1.heap.size ≤ sb ∧ sb < w2.heap.size) by omega]
    · intro b h1 h2 h3
      have hb5 : w5.heap.size ≤ b ∧ b ≠ rb := by
        rcases h3 with e | e
        · rcases at6 b e with e2 | e2
          · have := (lea b e2).1; omega
          · exact ⟨e2, by have := hes6.lt e; omega⟩
        · rcases at7 b e with e2 | e2
          · have := (lra b e2).1; omega
          · exact ⟨by omega, by omega⟩
      simp [show ¬ b < w.heap.size by omega, show ¬ w8.heap.size ≤ b by omega, show ¬ (w1.heap.size ≤ b ∧ b < w2.heap.size) by omega, show ¬ (b = rb ∨ b = sb) by omega]
  obtain ⟨own', o1, o2, o3, o4, o5, o6⟩ := hdec
  have oldT : ∀ (b t : Nat), own b = t → 0 < t → own' b = t := fun b t hb ht => by rw [o1 b (hlt b (by omega))]; exact hb
  refine ⟨own', eb, rb, ea6, ecap6, ra7, rcap7, ⟨hW8 _ _ _ S.row, S.ids.kp hK (fun g hg h => by have := S.oi g hg; omega), S.len, S.four, oldT wb 1 S.ow (by decide), fun g hg => oldT g 2 (S.oi g hg) (by decide), ?_, ?_⟩, ?_, ?_, ?_, ?_, ?_, ⟨?_, ?_, ?_, ?_, ?_⟩, o1, hK⟩
  · intro i hi
    obtain ⟨ao, k, cap, h1, h2, h3, h4⟩ := S.book i hi
    exact ⟨ao, k, cap, h1, h2, h3.kp hK (fun g hg => by have := h4 g hg; omega), fun g hg => oldT g 4 (h4 g hg) (by decide)⟩
  · intro b hb; exact o2 b (by omega) hb
  · refine hes6.kp K68 ?_
    rintro g hg (e | e)
    · rcases at6 g hg with e2 | e2
      · exact (lea g e2).2 e
      · omega
    · rcases at6 g hg with e2 | e2
      · exact s3 g e2 e
      · have := (lra g e).1; omega
  · refine hrs7.kp k78 (fun g hg e => ?_)
    rcases at7 g hg with e2 | e2
    · exact (lra g e2).2 e
    · omega
  · intro g hg
    rcases Nat.lt_or_ge g w.heap.size with h | h
    · rcases at6 g hg with e2 | e2
      · exact oldT g 3 (hoe g e2) (by decide)
      · omega
    · exact o6 g h (by have := hes6.lt hg; omega) (Or.inl hg)
  · intro g hg
    rcases Nat.lt_or_ge g w.heap.size with h | h
    · rcases at7 g hg with e2 | e2
      · exact oldT g 3 (hor g e2) (by decide)
      · omega
    · exact o6 g h (by have := hrs7.lt hg; omega) (Or.inr hg)
  · intro g hg hg2
    have h6 := hes6.lt hg
    rcases at6 g hg with e2 | e2
    · rcases at7 g hg2 with e3 | e3
      · exact s3 g e2 e3
      · have := (lea g e2).1; omega
    · rcases at7 g hg2 with e3 | e3
      · have := (lra g e3).1; omega
      · omega
  · have e4 := C.kp he2 hk4 (fun b hb e => by omega)
    have e5 := C.kp e4 (hE5.kp (fun _ => False)) (fun _ _ h => h)
    have e8 := C.kp e5 K58 (fun b hb => offN b (by omega))
    exact C.mono e8 (fun b hb => o3 b hb.1 hb.2)
  · refine ⟨o4, sb, ocap, none, 0, [], rfl, ?_, o5, by omega, ?_, OSl.nil _ _ _, (fun g hg => by cases hg), (fun e he => by cases he)⟩
    · refine K6b8.row hrow ?_
      rintro (e | e)
      · omega
      · have := (lra rb e).1; omega
    · exact hInt.kp K58 (offN sb (by omega))
  · intro b hb
    rcases Nat.lt_or_ge b w8.heap.size with h | h
    · exact h
    · have := o2 b (by omega) h; omega
  · intro b hb
    rcases Nat.lt_or_ge b w8.heap.size with h | h
    · exact h
    · have := o2 b (by omega) h; omega
  · intro b h1 h2; exact htt (h1.symm.trans h2)

end Go.Proofs.YtpbblaeamddbgaaGreat
namespace Go.Proofs.YtpbblaeamddbgaaGreat
open Go.RowKit

set_option maxHeartbeats 800000 in
set_option maxRecDepth 100000 in
theorem made_yes {E : World → Nat → (Nat → Prop) → List Int → List (Int × List Cd) → Int → Prop} (C : EngC E) (wb : Nat) (ea ra : Option Addr) (n ecap rcap : Nat) (es rs : List Value) (v5 : Value) (own : Nat → Nat) (ia : Option Addr) (ic icap : Nat) (vs : List Value) (te tr : Nat) (a : Addr) (cap : Nat) (xs : List Int) (w : World) (hl : xs.length * 8 ≤ 140737488351232) (hx : Ixs w (some a) xs) (hs : schB xs = true) (hnb : (n + 1) * 8 ≤ 140737488355328)
    (S : St w own wb (.slice ea n ecap) (.slice ra n rcap) v5 ia ic icap vs) (hea : OSl w 33 1 ea n ecap es) (hra : OSl w 92 1 ra n rcap rs) (hoe : ∀ g, blkOf ea = some g → own g = 3) (hor : ∀ g, blkOf ra = some g → own g = 3) (hte : 10 ≤ te) (htr : 10 ≤ tr) (htt : te ≠ tr) (s3 : ∀ g, blkOf ea = some g → ¬ blkOf ra = some g) :
    Calls Tryz.prog 33 #[.pointer (some ⟨wb, 0, none⟩), .slice (some a) xs.length cap] w fun e w' => e = .returned (.bool true) ∧ MadePost E w w' own wb v5 ia ic icap vs n es rs te tr xs := by
  have hW := S.row
  have s1 : ∀ g, blkOf ea = some g → g ≠ wb := fun g hg e => by have h1 := hoe g hg; rw [e, S.ow] at h1; omega
  have s2 : ∀ g, blkOf ra = some g → g ≠ wb := fun g hg e => by have h1 := hor g hg; rw [e, S.ow] at h1; omega
  have qT : ∀ (w : World) (a : Option Addr) (n c n' c' : Nat), (binOp .eql 25 (.slice a n c) (.slice none n' c')).run Tryz.prog w = .ok (.bool a.isNone) w := fun w a n c n' c' => Lib.run_eql_slice_nil w _ _ a n c n' c' Tryz.underlying25
  have HS : Hid (∀ w, Ixs w (some a) xs → Calls Tryz.prog 63 #[.slice (some a) xs.length cap] w fun e w' => e = .returned (.bool true) ∧ w' = w) := fun w h => by
    have := rSchema_any (some a) cap xs w hl h
    rw [hs] at this; exact this
  have hsH : Hid (schB xs = true) := hs
  have hlen : 1 ≤ xs.length ∧ xs.length ≤ 6 := by
    simp only [schB, Bool.and_eq_true, decide_eq_true_eq] at hs
    exact hs.2
  obtain ⟨hl1, hl6⟩ := hlen
  have Hb1 : Hid (n + 1 ≤ maxLen) := hid_of (by unfold maxLen; omega)
  have Hc1 : Hid ((n + 1) * 8 ≤ 140737488355328) := hid_of hnb
  have Hb0 : Hid (0 + xs.length ≤ maxLen) := hid_of (by unfold maxLen; omega)
  have Hc0 : Hid ((0 + xs.length) * 8 ≤ 140737488355328) := hid_of (by omega)
  clear hs
  go_enter Tryz.func33, Tryz.ntmps33
  go_wp2_with fail
  refine (numbers_any _ cap xs w hl hx).mono ?_
  rintro e w1 ⟨rfl, hr1, hE1⟩
  go_wp2_with fail
  refine (C.new_ok (some ⟨w.heap.size, 0, none⟩) (xs.length + 3) xs w1 hl (pad_ints hr1) (fun h => by cases h) hsH.out).mono ?_
  rintro e w2 ⟨eb, rfl, hE2, he2⟩
  go_wp2_with fail
  refine (HS.out w2 ((hx.ext hE1).ext hE2)).mono ?_
  rintro e w3 ⟨rfl, rfl⟩
  go_wp2_with fail
  refine (wholeNumbers_any w.heap.size _ cap xs w3 hl (hr1.ext hE2) ((hx.ext hE1).ext hE2)).mono ?_
  rintro e w4 ⟨rfl, hk4⟩
  have hE4 : Ext w w4 := (hE1.trans hE2).kpFresh hk4 (Nat.le_refl _)
  have r0 := (hW.ext hE4).at (j := 0) rfl
  have ta : True := trivial
  have tb : True := trivial
  have tc : True := trivial
  go_wp2_with (first
    | (at_builtin; have _t := ta; go_must (refine wpList_app rfl (.tmp 41) (.tmp 42) 25 rfl 3 (.int .i64 0) 1 8 Tryz.underlying25 Tryz.infoInt rfl (by decide) none 0 0 [] rfl (OSl.nil _ _ _) (some a) xs.length cap (xs.map (Value.int .i64)) rfl (by intro h; cases h) (by simp) (ixs_src (hx.ext hE4)) (ints_oneCell' _) Hb0.out Hc0.out ?_; intro oo ocap w5 hoo hk5 at5; simp only [Nat.zero_add, List.nil_append] at hoo; have hE5 : Ext w4 w5 := hk5.ext (fun _ _ h => by cases h); have hEw5 : Ext w w5 := hE4.trans hE5; have p0 := hEw5.cell (hW.at (j := 0) rfl); have hf5 : Hid (∀ g, blkOf oo = some g → w4.heap.size ≤ g) := fresh1 (Nat.le_refl _) at5; clear ta))
    | (at_builtin; have _t := tb; go_must (refine wpList_app rfl (.tmp 48) (.tmp 50) 83 rfl 33 (.pointer none) 1 8 Tryz.underlying83 Tryz.infoPe rfl (by decide) ea n ecap _ rfl (OSl.ext (OSl.ext hea hEw5) ((Ext.refl _).alloc _)) (some ⟨w5.heap.size, 0, none⟩) 1 1 [.pointer (some ⟨eb, 0, none⟩)] rfl (by intro h; cases h) rfl (fun _ => ⟨_, rfl, one_new _ _ _⟩) (by intro u hu; simp at hu; subst hu; rfl) Hb1.out Hc1.out ?_; intro ea6 ecap6 w6 hes6 hk6 at6; have hR6 := hk6.row ((hW.ext hEw5).ext ((Ext.refl _).alloc _)) (fun h => s1 wb h rfl); have p60 := hR6.at (j := 0) rfl; have p61 := hR6.at (j := 1) rfl; have z6 := hR6.frozen; have hra6 := ((hra.ext hEw5).ext ((Ext.refl _).alloc _)).kp hk6 (fun g hg he => s3 g he hg); have hraS : OSl (w6.setCell ⟨wb, 0, none⟩ (.slice ea6 (n + 1) ecap6)) 92 1 ra n rcap rs := hra6.kp ((Kp.refl (fun b => b = wb) _).setCell (fun _ => rfl) _) (fun g hg => s2 g hg); clear tb))
    | (at_builtin; have _t := tc; go_must (refine wpList_app rfl (.tmp 58) (.tmp 62) 84 rfl 92 (.pointer none) 1 8 Tryz.underlying84 Tryz.infoPr rfl (by decide) ra n rcap _ rfl (OSl.ext (OSl.ext hraS ((Ext.refl _).alloc _)) ((Ext.refl _).alloc _)) (some ⟨w6.heap.size + 1, 0, none⟩) 1 1 [.pointer (some ⟨w6.heap.size, 0, none⟩)] rfl (by intro h; cases h) rfl (fun _ => ⟨_, rfl, one_new' _ _ _ _ (by simp [World.setCell])⟩) (by intro u hu; simp at hu; subst hu; rfl) Hb1.out Hc1.out ?_; intro ra7 rcap7 w7 hrs7 hk7 at7; have hR7 := hk7.row (((hR6.set 0 (.slice ea6 (n + 1) ecap6)).ext ((Ext.refl _).alloc _)).ext ((Ext.refl _).alloc _)) (fun h => s2 wb h rfl); have p71 := hR7.at (j := 1) rfl; have z7 := hR7.frozen; clear tc)))
  go_ret
  refine ⟨rfl, made_end C S hoe hor s3 hte htr htt hl1 hE1 hr1.lt hE2 he2 hk4 hE5 hoo hf5.out ((((Ext.refl _).alloc _).kp _).trans hk6) hes6 ?_ ((((Kp.refl (fun b => b = wb) w6).setCell (fun _ => rfl) _).trans (((Ext.refl _).alloc _).kp _)).trans (((Ext.refl _).alloc _).kp _)) rfl ?_ hk7 hrs7 ?_ ((Kp.refl (fun b => b = wb) w7).setCell (fun _ => rfl) _) ?_⟩
  · intro g hg
    rcases at6.out with e | e
    · rw [e] at hg; exact Or.inl hg
    · rw [e] at hg; cases hg; exact Or.inr (by simp)
  · exact Row.ext (row_alloc _ _ _ _ _ (by simp [World.setCell]) rfl) ((Ext.refl _).alloc _)
  · intro g hg
    rcases at7.out with e | e
    · rw [e] at hg; exact Or.inl hg
    · rw [e] at hg; cases hg; exact Or.inr (Nat.le_refl _)
  · intro v2 v3 v4 hr
    have e1 := ((hk6.row ((hr.ext hEw5).ext ((Ext.refl _).alloc _)) (fun h => s1 wb h rfl)).set 0 (.slice ea6 (n + 1) ecap6)).ext ((Ext.refl _).alloc (.cells #[.slice oo xs.length ocap, .slice none 0 0, .int .i64 0] 148))
    exact (hk7.row (e1.ext ((Ext.refl _).alloc _)) (fun h => s2 wb h rfl)).set 1 _
end Go.Proofs.YtpbblaeamddbgaaGreat
