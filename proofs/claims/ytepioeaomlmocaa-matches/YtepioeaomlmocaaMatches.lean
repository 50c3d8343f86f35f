import Derived.Test.YtepioeaomlmocaaEnters
namespace Go.Proofs.Ytepioeaomlmocaa
open Go.RowKit

/-- The caller's world: the book of lists; whose each block is (1 the world, 2 the book, 3 the lists of engines, 4 lists that came out, 5 what came in, from 10 on the engines). -/
structure St (w : World) (own : Nat → Nat) (wb : Nat) (v0 v1 v5 : Value) (ia : Option Addr) (ic icap : Nat) (vs : List Value) : Prop where
  row : Row w wb 61 [v0, v1, .slice ia ic icap, .slice none 0 0, .slice none 0 0, v5]
  ids : OSl w 27 1 ia ic icap vs
  len : vs.length = ic
  four : ic % 4 = 0
  ow : own wb = 1
  oi : ∀ g, blkOf ia = some g → own g = 2
  book : ∀ i (hi : i < vs.length), ∃ ao n cap, vs[i] = .slice ao n cap ∧ n ≤ 103 ∧ MarkAt w ao n ((-1000 : Int) - (i : Int) / 4) ∧ ∀ g, blkOf ao = some g → own g = 4
  fresh : ∀ b, w.heap.size ≤ b → own b = 0
theorem fxs_kp {w w' : World} {ao : Option Addr} {l : List Fd} {M : Nat → Prop} (h : Fxs w ao l) (k : Kp M w w') (hm : ∀ g, blkOf ao = some g → 0 < l.length → ¬ M g) : Fxs w' ao l := fun hp => by
  obtain ⟨b, o, h1, h2⟩ := h hp
  have hne := hm b (by rw [h1]; rfl) hp
  exact ⟨b, o, h1, fun j hj => ⟨k.cell (h2 j hj).1 hne, k.cell (h2 j hj).2.1 hne, k.cell (h2 j hj).2.2 hne⟩⟩
theorem pad_fds {w : World} {g : Nat} {T : TypeId} {l : List Fd} (h : Row w g T (padFd l)) : Fds w g 0 l := by
  intro j hj
  have := fds_row h j (by simp; omega)
  rw [List.getElem_append_left hj] at this
  exact this
theorem ixs_of_osl {w : World} {T : Nat} {ao : Option Addr} {cap : Nat} {xs : List Int} (h : OSl w T 1 ao xs.length cap (xs.map (Value.int .i64))) : Ixs w ao xs := fun hp => by
  obtain ⟨g, rfl, _⟩ := h.at (j := 0) (v := .int .i64 xs[0]) (by simp [hp])
  refine ⟨g, 0, rfl, fun j hj => ?_⟩
  obtain ⟨g', e, hc⟩ := h.at (j := j) (v := .int .i64 xs[j]) (by simp [hj])
  cases e
  rw [Nat.zero_add, hc]; simp [hj]
theorem ma_len {flt : List (Int × List Cd)} (ev : List Fd) (q : Nat) (h : flt.length ≤ 100) : (maIds flt ev q).length ≤ 100 := by
  unfold maIds
  split
  · simp
  · have := met_le flt (fo ev) flt.length
    rw [List.take_of_length_le (Nat.le_refl _)] at this
    omega

theorem ma_mid {w w1 w2 w3 w4 w5 : World} {own : Nat → Nat} {wb : Nat} {v0 v1 v5 : Value} {ia : Option Addr} {ic icap : Nat} {vs : List Value} {te tr : Nat} (S : St w own wb v0 v1 v5 ia ic icap vs) (hE1 : Ext w w1) (hk2 : Kp (fun b => own b = te) w1 w2) (hte : 10 ≤ te) (hk3 : Kp (fun b => own b = tr) w2 w3) (htr : 10 ≤ tr) (hE4 : Ext w3 w4) (hk5 : Kp (fun k => k = w.heap.size + 1) w4 w5) :
    Row w5 wb 61 [v0, v1, .slice ia ic icap, .slice none 0 0, .slice none 0 0, v5] ∧ OSl w5 27 1 ia ic icap vs ∧ Kp (fun b => own b = te ∨ own b = tr) w w5 := by
  have hwb := S.row.lt
  have hK : Kp (fun b => own b = te ∨ own b = tr) w w5 := by
    have k3 : Kp (fun b => own b = te ∨ own b = tr) w w4 := (((hE1.kp _).trans (hk2.mono (fun _ _ h => Or.inl h))).trans (hk3.mono (fun _ _ h => Or.inr h))).trans (hE4.kp _)
    exact ⟨hk5.os.trans k3.os, hk5.tape.trans k3.tape, hk5.output.trans k3.output, Nat.le_trans k3.size hk5.size, fun i hi hn => (hk5.block i (Nat.lt_of_lt_of_le hi k3.size) (by omega)).trans (k3.block i hi hn)⟩
  refine ⟨hK.row S.row (fun h => by have := S.ow; omega), S.ids.kp hK (fun g hg h => by have := S.oi g hg; omega), hK⟩

/-- What a match leaves. -/
def MaPost (E : World → Nat → (Nat → Prop) → List Int → List (Int × List Cd) → Prop) (w w' : World) (own : Nat → Nat) (wb : Nat) (v0 v1 v5 : Value) (ic : Nat) (eb rb te tr : Nat) (sch : List Int) (flt : List (Int × List Cd)) : Prop :=
  ∃ own' ia' icap' vs', St w' own' wb v0 v1 v5 ia' (ic + 4) icap' vs' ∧ Two E w' eb rb (fun b => own' b = te) (fun b => own' b = tr) sch flt ∧ (∀ b, b < w.heap.size → own' b = own b) ∧ Kp (fun b => own b = 1 ∨ own b = 2 ∨ own b = te ∨ own b = tr) w w'
theorem markN {w : World} {ao : Option Addr} {n : Nat} {m m' : Int} (h : MarkAt w ao n m) (e : m = m') : MarkAt w ao n m' := e ▸ h
theorem ma_end {E : World → Nat → (Nat → Prop) → List Int → List (Int × List Cd) → Prop} (C : EngC E) {w w1 w2 w3 w4 w5 w6 w7 : World} {own : Nat → Nat} {wb : Nat} {v0 v1 v5 : Value} {ia : Option Addr} {ic icap : Nat} {vs : List Value} {eb rb te tr : Nat} {sch : List Int} {flt : List (Int × List Cd)} {ro : Option Addr} {n rcap : Nat} {xs : List Value} {F' : Nat → Prop}
    (S : St w own wb v0 v1 v5 ia ic icap vs) (hte : 10 ≤ te) (htr : 10 ≤ tr) (htt : te ≠ tr) (hE1 : Ext w w1) (lw1 : w.heap.size + 1 < w1.heap.size) (hrf : ∀ g, blkOf ro = some g → w1.heap.size ≤ g ∧ ¬ F' g) (hk2 : Kp (fun b => own b = te) w1 w2)
    (he2 : E w2 eb F' sch flt) (hF' : ∀ b, F' b → Grow (fun b => own b = te) w1 w2 b) (hk3 : Kp (fun b => own b = tr) w2 w3) (hr3 : RefAt w3 rb (fun b => own b = tr) sch flt) (hE4 : Ext w3 w4) (hk5 : Kp (fun k => k = w.heap.size + 1) w4 w5) (hK5 : Kp (fun b => own b = te ∨ own b = tr) w w5)
    (hro5 : OSl w5 3 1 ro n rcap xs) (hkp : KeepPost w5 w6 wb v0 v1 (.slice none 0 0) (.slice none 0 0) v5 ia ic vs ro n rcap ((-1000 : Int) - (ic : Int) / 4)) (hn : n ≤ 100) (hE7 : Ext w6 w7) : MaPost E w w7 own wb v0 v1 v5 ic eb rb te tr sch flt := by
  obtain ⟨ia', icap', aa, ac, ba, bc, ca, cc, hm, kW, kI, kL, kA, kB, kC, kK, kia, kabc, khm1, khm2⟩ := hkp
  have z1 := hE1.le
  have z2 := hk2.size
  have z3 := hk3.size
  have z4 := hE4.le
  have z5 := hk5.size
  have z6 := kK.size
  have z7 := hE7.le
  have hwb := S.row.lt
  have hfr := S.fresh
  have hlt : ∀ b, 0 < own b → b < w.heap.size := fun b hb => by
    rcases Nat.lt_or_ge b w.heap.size with h | h
    · exact h
    · have := hfr b h; omega
  -- whose the new blocks are
  have hdec : ∃ own' : Nat → Nat, (∀ b, b < w.heap.size → own' b = own b) ∧ (∀ b, w.heap.size ≤ b → w7.heap.size ≤ b → own' b = 0) ∧ (∀ b, w.heap.size ≤ b → b < w7.heap.size → blkOf ia' = some b → own' b = 2) ∧ (∀ b, w.heap.size ≤ b → b < w7.heap.size → ¬ blkOf ia' = some b → F' b → own' b = te) ∧ (∀ b, w.heap.size ≤ b → b < w7.heap.size → ¬ blkOf ia' = some b → ¬ F' b → own' b = 4) := by
    refine ⟨fun b => @ite _ (b < w.heap.size) (Classical.propDecidable _) (own b) (@ite _ (w7.heap.size ≤ b) (Classical.propDecidable _) 0 (@ite _ (blkOf ia' = some b) (Classical.propDecidable _) 2 (@ite _ (F' b) (Classical.propDecidable _) te 4))), ?_, ?_, ?_, ?_, ?_⟩
    · intro b h; simp [h]
    · intro b h1 h2; simp [show ¬ b < w.heap.size by omega, h2]
    · intro b h1 h2 h3; simp [show ¬ b < w.heap.size by omega, show ¬ w7.heap.size ≤ b by omega, h3]
    · intro b h1 h2 h3 h4; simp [show ¬ b < w.heap.size by omega, show ¬ w7.heap.size ≤ b by omega, h3, h4]
    · intro b h1 h2 h3 h4; simp [show ¬ b < w.heap.size by omega, show ¬ w7.heap.size ≤ b by omega, h3, h4]
  obtain ⟨own', o1, o2, o3, o4, o5⟩ := hdec
  -- the book's array, where it is new, is behind all that the match made
  have iaNew : ∀ g, blkOf ia' = some g → w.heap.size ≤ g → hm ≤ g := by
    intro g hg hge
    rcases (kia g hg).1 with e | e
    · have := S.oi g e; have := hlt g (by omega); omega
    · exact e
  have F'lt : ∀ b, F' b → w.heap.size ≤ b → b < w5.heap.size := by
    intro b hb hge
    rcases hF' b hb with h | ⟨_, h⟩
    · have := hlt b (by omega); omega
    · omega
  have hK6 : Kp (fun b => own b = 1 ∨ own b = 2 ∨ own b = te ∨ own b = tr) w w6 := by
    have a1 := hK5.mono (N := fun b => own b = 1 ∨ own b = 2 ∨ own b = te ∨ own b = tr) (fun _ _ h => Or.inr (Or.inr h))
    refine ⟨kK.os.trans a1.os, kK.tape.trans a1.tape, kK.output.trans a1.output, Nat.le_trans a1.size kK.size, fun i hi hnn => ?_⟩
    rw [kK.block i (by omega) ?_]
    · exact a1.block i hi hnn
    · rintro (e | e | e)
      · subst e; exact hnn (Or.inl S.ow)
      · exact hnn (Or.inr (Or.inl (S.oi i e)))
      · have := (hrf i e).1; omega
  have hK7 := hK6.trans (hE7.kp (fun b => own b = 1 ∨ own b = 2 ∨ own b = te ∨ own b = tr))
  -- F' and tr are off the book, the list, the lent
  have offF : ∀ b, F' b → ¬ (b = wb ∨ blkOf ia = some b ∨ blkOf ro = some b) := by
    rintro b hb (e | e | e)
    · subst e
      rcases hF' _ hb with h | ⟨h, _⟩
      · have := S.ow; omega
      · omega
    · rcases hF' _ hb with h | ⟨h, _⟩
      · have := S.oi b e; omega
      · have := S.oi b e; have := hlt b (by omega); omega
    · exact (hrf b e).2 hb
  have offR : ∀ b, own b = tr → ¬ (b = wb ∨ blkOf ia = some b ∨ blkOf ro = some b) := by
    rintro b hb (e | e | e)
    · subst e; have := S.ow; omega
    · have := S.oi b e; omega
    · have := (hrf b e).1; have := hlt b (by omega); omega
  have e6 : E w7 eb F' sch flt := by
    have e3 := C.kp he2 hk3 (fun b hb hr => by rcases hF' b hb with h | ⟨h, _⟩; exact htt (h.symm.trans hr); have := hlt b (by omega); omega)
    have e4 := C.kp e3 (hE4.kp (fun _ => False)) (fun _ _ h => h)
    have e5 := C.kp e4 hk5 (fun b hb e => by rcases hF' b hb with h | ⟨h, _⟩; have := hlt b (by omega); omega; omega)
    exact C.kp (C.kp e5 kK offF) (hE7.kp (fun _ => False)) (fun _ _ h => h)
  have r6 : RefAt w7 rb (fun b => own b = tr) sch flt := by
    have r4 := hr3.kp (hE4.kp (fun _ => False)) (fun _ _ h => h)
    have r5 := r4.kp hk5 (fun b hb e => by have := hlt b (by omega); omega)
    exact (r5.kp kK offR).kp (hE7.kp (fun _ => False)) (fun _ _ h => h)
  have oldT : ∀ (b t : Nat), own b = t → 0 < t → own' b = t := fun b t hb ht => by rw [o1 b (hlt b (by omega))]; exact hb
  have listT : ∀ g, (blkOf ro = some g ∨ blkOf aa = some g ∨ blkOf ba = some g ∨ blkOf ca = some g) → own' g = 4 := by
    intro g hg
    have hro : blkOf ro = some g → own' g = 4 := fun e => by
      have h1 := (hrf g e).1
      have h2 := hro5.lt e
      refine o5 g (by omega) (by omega) (fun e2 => ?_) (hrf g e).2
      have := iaNew g e2 (by omega); omega
    rcases hg with e | e
    · exact hro e
    · rcases kabc g e with h | ⟨h1, h2⟩
      · exact hro h
      · refine o5 g (by omega) (by omega) (fun e2 => ?_) (fun hF => ?_)
        · have := iaNew g e2 (by omega); omega
        · have := F'lt g hF (by omega); omega
  have ext7 : ∀ (x : Option Addr) (k : Nat), MarkAt w6 x k ((-1000 : Int) - (ic : Int) / 4) → MarkAt w7 x k ((-1000 : Int) - (ic : Int) / 4) := fun x k h => h.kp (hE7.kp (fun _ => False)) (fun _ _ h => h)
  refine ⟨own', ia', icap', vs ++ [.slice ro n rcap, .slice aa (n + 1) ac, .slice ba (n + 2) bc, .slice ca (n + 3) cc], ⟨kW.ext hE7, kI.ext hE7, by simp [S.len], by have := S.four; omega, ?_, ?_, ?_, ?_⟩, ⟨?_, ?_, ?_, ?_, ?_⟩, o1, hK7⟩
  · exact oldT wb 1 S.ow (by decide)
  · intro g hg
    rcases Nat.lt_or_ge g w.heap.size with h | h
    · rcases (kia g hg).1 with e | e
      · exact oldT g 2 (S.oi g e) (by decide)
      · omega
    · exact o3 g h (by have := (kia g hg).2.2; omega) hg
  · intro i hi
    by_cases hiv : i < vs.length
    · obtain ⟨ao, k, cap, h1, h2, h3, h4⟩ := S.book i hiv
      refine ⟨ao, k, cap, by rw [List.getElem_append_left hiv]; exact h1, h2, ?_, fun g hg => oldT g 4 (h4 g hg) (by decide)⟩
      exact h3.kp hK7 (fun g hg => by have := h4 g hg; omega)
    · have hl := S.len
      have h4 := S.four
      have hi4 : i < vs.length + 4 := by simpa using hi
      have em : ((-1000 : Int) - (ic : Int) / 4) = (-1000 : Int) - (i : Int) / 4 := by omega
      rcases (show i = vs.length ∨ i = vs.length + 1 ∨ i = vs.length + 2 ∨ i = vs.length + 3 by omega) with e | e | e | e
      · refine ⟨ro, n, rcap, by simp [e], by omega, markN (ext7 _ _ kL) em, fun g hg => listT g (Or.inl hg)⟩
      · refine ⟨aa, n + 1, ac, by simp [e], by omega, markN (ext7 _ _ kA) em, fun g hg => listT g (Or.inr (Or.inl hg))⟩
      · refine ⟨ba, n + 2, bc, by simp [e], by omega, markN (ext7 _ _ kB) em, fun g hg => listT g (Or.inr (Or.inr (Or.inl hg)))⟩
      · refine ⟨ca, n + 3, cc, by simp [e], by omega, markN (ext7 _ _ kC) em, fun g hg => listT g (Or.inr (Or.inr (Or.inr hg)))⟩
  · intro b hb; exact o2 b (by omega) hb
  · refine C.mono e6 (fun b hb => ?_)
    rcases Nat.lt_or_ge b w.heap.size with h | h
    · rcases hF' b hb with e | ⟨e, _⟩
      · exact oldT b te e (by omega)
      · omega
    · have h2 := F'lt b hb h
      exact o4 b h (by omega) (fun e => by have := iaNew b e h; omega) hb
  · exact r6.mono (fun b hb => oldT b tr hb (by omega))
  · intro b hb
    rcases Nat.lt_or_ge b w7.heap.size with h | h
    · exact h
    · have := o2 b (by omega) h; omega
  · intro b hb
    rcases Nat.lt_or_ge b w7.heap.size with h | h
    · exact h
    · have := o2 b (by omega) h; omega
  · intro b h1 h2; exact htt (h1.symm.trans h2)

set_option maxHeartbeats 1600000 in
set_option maxRecDepth 100000 in
theorem matches_core {E : World → Nat → (Nat → Prop) → List Int → List (Int × List Cd) → Prop} (C : EngC E) (own : Nat → Nat) (wb : Nat) (v0 v1 v5 : Value) (ia : Option Addr) (ic icap : Nat) (vs : List Value) (eb rb te tr : Nat) (sch : List Int) (flt : List (Int × List Cd)) (kind at_ id : Int) (nv fv xv sv : Value) (a : Addr) (cap : Nat) (ev : List Fd) (w : World)
    (S : St w own wb v0 v1 v5 ia ic icap vs) (T : Two E w eb rb (fun b => own b = te) (fun b => own b = tr) sch flt) (hte : 10 ≤ te) (htr : 10 ≤ tr) (htt : te ≠ tr) (hs6 : sch.length ≤ 6) (hf : flt.length ≤ 100) (hG : FltOK flt) (hl : ev.length * 32 ≤ 140737488351232) (hic : (ic + 4) * 24 ≤ 140737488355328)
    (hz : ∀ j (hj : j < ev.length), ev[j].v.s.size ≤ 9223372036854775807) (hc : Fxs w (some a) ev) (ha : 0 < ev.length → own a.block = 5) (q : Nat) (hq : FirstBad sch ev q) (hk5 : (kind == 5) = false) (hk6 : (kind == 6) = false) :
    Calls Try.prog 18 #[.pointer (some ⟨wb, 0, none⟩), .pointer (some ⟨eb, 0, none⟩), .pointer (some ⟨rb, 0, none⟩), .agg #[.int .i64 kind, .int .i64 at_, .int .i64 id, nv, fv, .slice (some a) ev.length cap, xv, sv]] w fun e w' => e = .returned (.bool true) ∧ MaPost E w w' own wb v0 v1 v5 ic eb rb te tr sch flt := by
  have qT : ∀ (w : World) (a : Option Addr) (n c n' c' : Nat), (binOp .eql 44 (.slice a n c) (.slice none n' c')).run Try.prog w = .ok (.bool a.isNone) w := fun w a n c n' c' => Lib.run_eql_slice_nil w _ _ a n c n' c' Try.underlying44
  have hfr := S.fresh
  have own0 : ∀ (b t : Nat), w.heap.size ≤ b → 0 < t → ¬ own b = t := fun b t hb ht e => by have := hfr b hb; omega
  have hna : ∀ (t g : Nat), 10 ≤ t → blkOf (some a) = some g → 0 < ev.length → ¬ own g = t := fun t g ht hg hp e => by have := ha hp; simp [blkOf] at hg; subst hg; omega
  obtain ⟨w0, hw0⟩ : ∃ w0 : World, w0 = w.alloc (.cells #[.int .i64 kind, .int .i64 at_, .int .i64 id, nv, fv, .slice (some a) ev.length cap, xv, sv] 74) := ⟨_, rfl⟩
  have hE0 : Ext w w0 := by rw [hw0]; exact (Ext.refl w).alloc _
  have hz0 : w0.heap.size = w.heap.size + 1 := by rw [hw0]; simp
  have k0 : w0.cell? ⟨w.heap.size, 0, none⟩ = some (.int .i64 kind) := by rw [hw0]; exact cell_new _ _ _ _ _ rfl rfl
  have k5 : w0.cell? ⟨w.heap.size, 5, none⟩ = some (.slice (some a) ev.length cap) := by rw [hw0]; exact cell_new _ _ _ _ _ rfl rfl
  have HF : Hid _ := fields_any (some a) cap ev w0 hl (hc.ext hE0)
  rw [hz0] at HF
  rw [hw0] at HF
  go_enter Try.func18, Try.ntmps18
  go_wp2_with fail
  refine Calls.mono HF.out ?_
  rintro e w1 ⟨rfl, hr1, hE1'⟩
  have hE1 : Ext w0 w1 := by rw [hw0]; exact hE1'
  have hEw1 : Ext w w1 := hE0.trans hE1
  have c0 := hE1.cell k0
  have c5 := hE1.cell k5
  have lw1 : w.heap.size + 1 < w1.heap.size := hr1.lt
  clear HF hE1' hw0 k0 k5
  have t1 := T.ext1 C hEw1
  have M := C.ma eb (fun b => own b = te) sch flt (some ⟨w.heap.size + 1, 0, none⟩) (ev.length + 3) ev w1 hs6 hl hf t1.1 (fun _ => ⟨_, _, rfl, pad_fds hr1⟩) (fun g hg => by cases hg; exact own0 _ _ (by simp) (by omega)) hz hG q hq
  have HM : Hid _ := M
  clear M
  go_wp2_with fail
  refine Calls.mono HM.out ?_
  rintro e w2 ⟨ro, rcap, F', rfl, hro, hrf, hk2, he2, hF'⟩
  clear HM
  have d0 := hk2.cell c0 (own0 _ _ (by simp) (by omega))
  have d5 := hk2.cell c5 (own0 _ _ (by simp) (by omega))
  have hc2 : Fxs w2 (some a) ev := fxs_kp (hc.ext hEw1) hk2 (fun g hg hp => hna te g hte hg hp)
  have hr2 : RefAt w2 rb (fun b => own b = tr) sch flt := t1.2.kp hk2 (fun b hb hF => htt (hF.symm.trans hb))
  have hg2 := hk2.row hr1 (own0 _ _ (by simp) (by omega))
  have HR : Hid _ := rMatch_any rb (fun b => own b = tr) sch flt (some a) cap ev w2 hs6 hl hf hr2 hc2 (fun g hg hp => hna tr g htr hg hp) q hq hz hG
  clear c0 c5
  go_wp2_with fail
  refine Calls.mono HR.out ?_
  rintro e w3 ⟨mo, mcap, rfl, hmo, hmf, hk3, hr3⟩
  clear HR
  have f5 := hk3.cell d5 (own0 _ _ (by simp) (by omega))
  have hc3 : Fxs w3 (some a) ev := fxs_kp hc2 hk3 (fun g hg hp => hna tr g htr hg hp)
  have hg3 := hk3.row hg2 (own0 _ _ (by simp) (by omega))
  have hro3 := hro.kp hk3 (fun g hg => own0 g _ (by have := (hrf g hg).1; omega) (by omega))
  have hml := ma_len ev q hf
  have HS : Hid _ := sameNumbers_any ro mo rcap mcap (maIds flt ev q) (maIds flt ev q) w3 (by omega) (by omega) (ixs_of_osl hro3) (ixs_of_osl hmo)
  rw [eqB_refl] at HS
  clear d0 d5
  generalize maIds flt ev q = mi at *
  go_wp2_with fail
  refine Calls.mono HS.out ?_
  rintro e w4 ⟨rfl, hE4⟩
  clear HS
  have g5 := hE4.cell f5
  have HWh : Hid _ := wholeFields_any (w.heap.size + 1) (some a) cap ev w4 hl (hg3.ext hE4) (hc3.ext hE4)
  clear f5
  go_wp2_with fail
  refine Calls.mono HWh.out ?_
  rintro e w5 ⟨rfl, hk5'⟩
  clear HWh
  have D := ma_mid S hEw1 hk2 hte hk3 htr hE4 hk5'
  have hro5 : OSl w5 3 1 ro mi.length rcap (mi.map (Value.int .i64)) := (hro3.ext hE4).kp hk5' (fun g hg => by have := (hrf g hg).1; omega)
  have HK : Hid _ := keep_any wb v0 v1 (.slice none 0 0) (.slice none 0 0) v5 ia ic icap vs ro mi.length rcap (mi.map (Value.int .i64)) w5 hml hic D.1 D.2.1 hro5 (fun g hg e => by have h1 := S.oi _ hg; rw [e] at h1; have h2 := S.ow; omega) (fun g hg e => by have h1 := (hrf _ hg).1; have h2 := S.fresh g (by omega); rw [e] at h2; have h3 := S.ow; omega) (fun g hg e => by have h1 := (hrf _ hg).1; have h2 := S.fresh g (by omega); have h3 := S.oi g e; omega)
  go_wp2_with fail
  refine Calls.mono HK.out ?_
  rintro e w6 ⟨rfl, hkp⟩
  clear HK
  generalize maErr ev q = me at *
  generalize maPlace ev q = mp at *
  go_wp2_with fail
  refine (num_any _ _).mono ?_
  rintro e w7 ⟨rfl, rfl⟩
  go_wp2
  go_ret
  exact ⟨rfl, ma_end C S hte htr htt hEw1 lw1 hrf hk2 he2 hF' hk3 hr3 hE4 hk5' D.2.2 hro5 hkp hml (Ext.refl _)⟩
end Go.Proofs.Ytepioeaomlmocaa
