import Derived.Test.YtpbblaeamddbgaaGreatGL
import Derived.Test.YtpbblaeamddbgaaGreatGK
import Derived.Test.YtpbblaeamddbgaaGreatGJ
namespace Go.Proofs.YtpbblaeamddbgaaGreat
open Go.RowKit

theorem pre_le : ∀ (p s : List UInt8), p.isPrefixOf s = true → Lib.compareBytes p s ≤ 0
  | [], [], _ => by simp [Lib.compareBytes]
  | [], _ :: _, _ => by simp [Lib.compareBytes]
  | _ :: _, [], h => by simp at h
  | a :: p, b :: s, h => by
    simp only [List.isPrefixOf_cons_cons, Bool.and_eq_true, beq_iff_eq] at h
    obtain ⟨rfl, h⟩ := h
    have := pre_le p s h
    simpa [Lib.compareBytes] using this
theorem le_flip (x y : Vl) : cmpV x y ≤ 0 ↔ 0 ≤ cmpV y x := by
  have := cmpV_ord.anti y x
  omega
theorem near_sign (c : Cd) (v : Vl) (h8 : c.kind = 8 → c.a.n = v.n) (h : metB c v = true) : ((c.kind = 1 ∨ c.kind = 3 ∨ c.kind = 4) → 0 ≤ cmpV c.a v) ∧ ((c.kind = 1 ∨ c.kind = 5 ∨ c.kind = 6 ∨ c.kind = 7 ∨ c.kind = 8) → ¬ 0 < cmpV c.a v) := by
  have f1 := le_flip v c.a
  have f2 := le_flip c.a v
  constructor
  · rintro (hk | hk | hk)
    · simp only [metB, hk] at h
      have : cmpV v c.a = 0 := by simpa using h
      omega
    · simp only [metB, hk] at h
      have : cmpV v c.a < 0 := by simpa using h
      omega
    · simp only [metB, hk] at h
      have : cmpV v c.a ≤ 0 := by simpa using h
      omega
  · rintro (hk | hk | hk | hk | hk)
    · simp only [metB, hk] at h
      have : cmpV v c.a = 0 := by simpa using h
      omega
    · simp only [metB, hk] at h
      have : 0 < cmpV v c.a := by simpa using h
      omega
    · simp only [metB, hk] at h
      have : 0 ≤ cmpV v c.a := by simpa using h
      omega
    · simp only [metB, hk] at h
      have : 0 ≤ cmpV v c.a ∧ cmpV v c.b ≤ 0 := by simpa using h
      omega
    · have hn := h8 hk
      simp only [metB, hk] at h
      have h' : Lib.hasPrefix v.s.data.toList c.a.s.data.toList = true := by simpa using h
      have := pre_le _ _ h'
      unfold cmpV
      rw [hn, (cmpI_ord.eq _ _).2 rfl]
      unfold orI
      simp only [beq_self_eq_true, if_true]
      omega
theorem near_filter (k : Nat) (es : List EnR) (v : Vl) (q1 q2 : Nat) (hP : Parts es v q1 q2) (hk : ∀ e ∈ es, e.c.kind = (k : Int)) (h8 : ∀ e ∈ es, e.c.kind = 8 → e.c.a.n = v.n) :
    ((es.drop (nearLo k q1)).take (nearHi k q2 es.length - nearLo k q1)).filter (fun e => metB e.c v) = es.filter (fun e => metB e.c v) := by
  obtain ⟨h1, h2, h3, h4, h5⟩ := hP
  have hlo : nearLo k q1 ≤ nearHi k q2 es.length := by unfold nearLo nearHi; split <;> split <;> omega
  have hhi : nearHi k q2 es.length ≤ es.length := by unfold nearHi; split <;> omega
  have e1 : (es.take (nearLo k q1)).filter (fun e => metB e.c v) = [] := by
    rw [List.filter_eq_nil_iff]
    intro e he hm
    obtain ⟨j, hj, rfl⟩ := List.getElem_of_mem he
    simp only [List.length_take] at hj
    have hj' : j < es.length := by omega
    rw [List.getElem_take] at hm
    have hkk := hk _ (List.getElem_mem hj')
    have hs := (near_sign _ v (h8 _ (List.getElem_mem hj')) hm).1
    unfold nearLo at hj
    split at hj
    · have := (h4 j hj').1 (hs (by omega)); omega
    · omega
  have e2 : (es.drop (nearHi k q2 es.length)).filter (fun e => metB e.c v) = [] := by
    rw [List.filter_eq_nil_iff]
    intro e he hm
    obtain ⟨j, hj, rfl⟩ := List.getElem_of_mem he
    simp only [List.length_drop] at hj
    have hj' : nearHi k q2 es.length + j < es.length := by omega
    rw [List.getElem_drop] at hm
    have hkk := hk _ (List.getElem_mem hj')
    have hs := (near_sign _ v (h8 _ (List.getElem_mem hj')) hm).2
    by_cases hc : k = 1 ∨ k = 5 ∨ k = 6 ∨ k = 7 ∨ k = 8
    · have hq : nearHi k q2 es.length = q2 := by unfold nearHi; rw [if_pos hc]
      exact hs (by omega) ((h5 _ hj').2 (by omega))
    · unfold nearHi at hj; rw [if_neg hc] at hj; omega
  have e3 : es = es.take (nearLo k q1) ++ ((es.drop (nearLo k q1)).take (nearHi k q2 es.length - nearLo k q1) ++ es.drop (nearHi k q2 es.length)) := by
    conv => lhs; rw [← List.take_append_drop (nearLo k q1) es]
    congr 1
    conv => lhs; rw [← List.take_append_drop (nearHi k q2 es.length - nearLo k q1) (es.drop (nearLo k q1))]
    rw [List.drop_drop]
    congr 2
    omega
  conv => rhs; rw [e3]
  rw [List.filter_append, List.filter_append, e1, e2]
  simp
theorem ex_cut (P : Nat → Prop) : ∀ n, (∀ i j, i ≤ j → j < n → P i → P j) → ∃ q, q ≤ n ∧ ∀ k, k < n → (P k ↔ q ≤ k)
  | 0, _ => ⟨0, Nat.le_refl _, fun k hk => by omega⟩
  | n + 1, hm => by
    obtain ⟨q, h1, h2⟩ := ex_cut P n (fun i j hij hj => hm i j hij (by omega))
    by_cases hP : P n
    · refine ⟨q, by omega, fun k hk => ?_⟩
      rcases Nat.lt_or_ge k n with h | h
      · exact h2 k h
      · have : k = n := by omega
        subst this
        exact ⟨fun _ => h1, fun _ => hP⟩
    · refine ⟨n + 1, Nat.le_refl _, fun k hk => ⟨fun h => absurd (hm k n (by omega) (by omega) h) hP, fun h => by omega⟩⟩
theorem ex_parts (es : List EnR) (v : Vl) (a k : Int) (hr : Rise cmpCd (es.map (·.c))) (hs : ∀ e ∈ es, e.c.attr = a ∧ e.c.kind = k) : ∃ q1 q2, Parts es v q1 q2 := by
  have hle : ∀ i j (hi : i < es.length) (hj : j < es.length), i ≤ j → cmpV es[i].c.a es[j].c.a ≤ 0 := fun i j hi hj hij => by
    rcases Nat.eq_or_lt_of_le hij with h | h
    · subst h; rw [cmpV_ord.refl]; omega
    · have h1 := (List.pairwise_iff_getElem.1 hr) i j (by simpa using hi) (by simpa using hj) h
      simp only [List.getElem_map] at h1
      obtain ⟨a1, k1⟩ := hs _ (List.getElem_mem hi)
      obtain ⟨a2, k2⟩ := hs _ (List.getElem_mem hj)
      unfold cmpCd at h1
      rw [a1, a2, k1, k2, (cmpI_ord.eq a a).2 rfl, (cmpI_ord.eq k k).2 rfl] at h1
      unfold orI at h1
      simp only [beq_self_eq_true, if_true] at h1
      split at h1
      · rename_i h2
        have : cmpV es[i].c.a es[j].c.a = 0 := by simpa using h2
        omega
      · omega
  have htr : ∀ x y z : Vl, cmpV x y ≤ 0 → cmpV y z ≤ 0 → cmpV x z ≤ 0 := fun x y z h1 h2 => by
    rcases Int.lt_or_eq_of_le h1 with h | h
    · rcases Int.lt_or_eq_of_le h2 with h' | h'
      · have := cmpV_ord.trans x y z h h'; omega
      · have := (cmpV_ord.eq y z).1 h'; subst this; omega
    · have := (cmpV_ord.eq x y).1 h; subst this; exact h2
  obtain ⟨q1, a1, a2⟩ := ex_cut (fun k => ∃ hk : k < es.length, 0 ≤ cmpV es[k].c.a v) es.length (fun i j hij hj => by
    rintro ⟨hi, h⟩
    exact ⟨hj, (le_flip _ _).1 (htr _ _ _ ((le_flip _ _).2 h) (hle i j hi hj hij))⟩)
  obtain ⟨q2, b1, b2⟩ := ex_cut (fun k => ∃ hk : k < es.length, 0 < cmpV es[k].c.a v) es.length (fun i j hij hj => by
    rintro ⟨hi, h⟩
    refine ⟨hj, ?_⟩
    have h1 := hle i j hi hj hij
    have h2 := htr es[i].c.a es[j].c.a v h1
    omega)
  have c1 : ∀ k (hk : k < es.length), 0 ≤ cmpV es[k].c.a v ↔ q1 ≤ k := fun k hk => by
    rw [← a2 k hk]
    exact ⟨fun h => ⟨hk, h⟩, fun ⟨_, h⟩ => h⟩
  have c2 : ∀ k (hk : k < es.length), 0 < cmpV es[k].c.a v ↔ q2 ≤ k := fun k hk => by
    rw [← b2 k hk]
    exact ⟨fun h => ⟨hk, h⟩, fun ⟨_, h⟩ => h⟩
  refine ⟨q1, q2, a1, b1, ?_, c1, c2⟩
  rcases Nat.lt_or_ge q2 es.length with h | h
  · have := (c2 q2 h).2 (Nat.le_refl _)
    exact (c1 q2 h).1 (by omega)
  · omega

/-- The entries of the shelves so far. -/
def EE (Sh : Nat → ShR) (i : Nat) : List EnR := (List.range i).flatMap (fun i => (Sh i).es)
def VV (h : Cd → Bool) (Sh : Nat → ShR) (i : Nat) : List (Int × Int) := ((EE Sh i).filter (fun e => h e.c)).flatMap (·.os)
theorem EE_succ (Sh : Nat → ShR) (i : Nat) : EE Sh (i + 1) = EE Sh i ++ (Sh i).es := by
  unfold EE; rw [List.range_succ, List.flatMap_append]; simp
theorem VV_succ (h : Cd → Bool) (Sh : Nat → ShR) (i : Nat) : VV h Sh (i + 1) = VV h Sh i ++ ((Sh i).es.filter (fun e => h e.c)).flatMap (·.os) := by
  unfold VV; rw [EE_succ, List.filter_append, List.flatMap_append]
theorem EE_mem {Sh : Nat → ShR} {i : Nat} {e : EnR} : e ∈ EE Sh i ↔ ∃ j, j < i ∧ e ∈ (Sh j).es := by
  unfold EE; simp [List.mem_flatMap]
theorem EE_sub (Sh : Nat → ShR) (i : Nat) : ∀ n, (EE Sh i).Sublist (EE Sh (i + n))
  | 0 => List.Sublist.refl _
  | n + 1 => (EE_sub Sh i n).trans (by rw [← Nat.add_assoc, EE_succ]; exact List.sublist_append_left _ _)
theorem EE_nodup {K : List (Int × Int × List Cd)} {Sh : Nat → ShR} (G : IdxG K Sh) : ∀ n, n ≤ 60 → ((EE Sh n).map (·.c)).Nodup
  | 0, _ => by simp [EE]
  | n + 1, hn => by
    rw [EE_succ, List.map_append, List.nodup_append]
    refine ⟨EE_nodup G n (by omega), (G.rise n (by omega)).nodup cmpCd_ord, fun a ha b hb e => ?_⟩
    obtain ⟨x, hx, rfl⟩ := List.mem_map.1 ha
    obtain ⟨y, hy, rfl⟩ := List.mem_map.1 hb
    obtain ⟨j, hj, hx⟩ := EE_mem.1 hx
    have h1 := G.spot j (by omega) x hx
    have h2 := G.spot n (by omega) y hy
    rw [e] at h1
    omega
theorem sub_flat {K : List (Int × Int × List Cd)} {Sh : Nat → ShR} (G : IdxG K Sh) (h8 : ∀ k ∈ K, k.2.2.length ≤ 8) (hK : K.length ≤ 100) (L : List EnR) (hL : L.Sublist (EE Sh 60)) : (L.flatMap (·.os)).length ≤ 80000 := by
  classical
  have h1 : L.length ≤ K.length * 8 := by
    have h := sub_len (L.map (·.c)) (K.flatMap (·.2.2)) (List.Nodup.sublist (List.Sublist.map _ hL) (EE_nodup G 60 (Nat.le_refl _))) (fun x hx => by
      obtain ⟨e, he, rfl⟩ := List.mem_map.1 hx
      obtain ⟨j, hj, he⟩ := EE_mem.1 (hL.subset he)
      obtain ⟨o, ho⟩ := List.exists_mem_of_ne_nil _ (G.one j hj e he)
      obtain ⟨l, h1, h2⟩ := (G.om j hj e he o).1 ho
      exact List.mem_flatMap.2 ⟨_, h1, h2⟩)
    have := flat_le h8
    simp only [List.length_map] at h; omega
  have h2 : ∀ M : List EnR, (∀ e ∈ M, e.os.length ≤ 100) → (M.flatMap (·.os)).length ≤ M.length * 100 := fun M hM => by
    induction M with
    | nil => simp
    | cons e M ih =>
      have a := hM e (by simp)
      have b := ih (fun x hx => hM x (List.mem_cons_of_mem _ hx))
      simp only [List.flatMap_cons, List.length_append, List.length_cons]; omega
  have := h2 L (fun e he => by
    obtain ⟨j, hj, he⟩ := EE_mem.1 (hL.subset he)
    have := os_len G j hj e he
    omega)
  omega
theorem times_le (V : List (Int × Int)) (x : Int) : times V x ≤ V.length := List.length_filter_le _ _
theorem told_le (s : Cnt) (V : List (Int × Int)) : (s.run V).told.length ≤ s.told.length + V.length := by
  induction V generalizing s with
  | nil => simp [Cnt.run]
  | cons o V ih =>
    have h := ih (s.step o)
    have h2 : (s.step o).told.length ≤ s.told.length + 1 := by simp only [Cnt.step]; split <;> simp
    show ((s.step o).run V).told.length ≤ _
    simp only [List.length_cons]; omega

/-- What a list of filters is in the index. -/
def ksK (ks : List (Int × List Cd)) : List (Int × Int × List Cd) := ks.map (fun k => (k.1, (k.2.length : Int), k.2))
theorem ksK_mem {ks : List (Int × List Cd)} {x n : Int} {l : List Cd} : (x, n, l) ∈ ksK ks ↔ (x, l) ∈ ks ∧ n = l.length := by
  unfold ksK
  rw [List.mem_map]
  constructor
  · rintro ⟨k, hk, e⟩
    simp only [Prod.mk.injEq] at e
    obtain ⟨rfl, rfl, rfl⟩ := e
    exact ⟨hk, rfl⟩
  · rintro ⟨h, rfl⟩
    exact ⟨_, h, rfl⟩
theorem idxOK_of {ks : List (Int × List Cd)} {Sh : Nat → ShR} {fl : List Int} (G : IdxG (ksK ks) Sh) (hfn : fl.Nodup) (hfm : ∀ x, x ∈ fl ↔ (x, []) ∈ ks) : IdxOK ks fl ((EE Sh 60).map (fun e => (⟨e.c, e.os⟩ : En Cd))) := by
  refine ⟨hfn, hfm, ?_, fun e he => ?_, fun e he o => ?_, fun x l hx c hc => ?_⟩
  · rw [List.map_map]; exact EE_nodup G 60 (Nat.le_refl _)
  · obtain ⟨r, hr, rfl⟩ := List.mem_map.1 he
    obtain ⟨j, hj, hr⟩ := EE_mem.1 hr
    exact G.ndup j hj r hr
  · obtain ⟨r, hr, rfl⟩ := List.mem_map.1 he
    obtain ⟨j, hj, hr⟩ := EE_mem.1 hr
    rw [G.om j hj r hr o]
    constructor
    · rintro ⟨l, h1, h2⟩
      obtain ⟨h3, h4⟩ := ksK_mem.1 h1
      exact ⟨l, h3, h2, h4⟩
    · rintro ⟨l, h1, h2, h3⟩
      exact ⟨l, ksK_mem.2 ⟨h1, h3⟩, h2⟩
  · obtain ⟨h1, e, he, hec⟩ := G.al (x, (l.length : Int), l) (ksK_mem.2 ⟨hx, rfl⟩) c hc
    exact ⟨⟨e.c, e.os⟩, List.mem_map.2 ⟨e, EE_mem.2 ⟨_, h1, he⟩, rfl⟩, hec⟩
theorem seen_VV (h : Cd → Bool) (Sh : Nat → ShR) : seen h ((EE Sh 60).map (fun e => (⟨e.c, e.os⟩ : En Cd))) = VV h Sh 60 := by
  unfold seen VV
  rw [List.filter_map, List.flatMap_map]
  rfl
end Go.Proofs.YtpbblaeamddbgaaGreat
namespace Go.Proofs.YtpbblaeamddbgaaGreat
open Go.RowKit

/-- What is counted and told so far. -/
structure CntAt (w wr : World) (mb : Nat) (s : Cnt) (n : Nat) (ro : Option Addr) (rcap : Nat) : Prop where
  o : OSl wr 3 1 ro s.told.length rcap (s.told.map (Value.int .i64))
  m : MapAt wr mb n s.n
  r : ∀ g, blkOf ro = some g → w.heap.size ≤ g
  x : Ext w wr
theorem CntAt.ext {w wr wr' : World} {mb : Nat} {s : Cnt} {n : Nat} {ro : Option Addr} {rcap : Nat} (h : CntAt w wr mb s n ro rcap) (e : Ext wr wr') : CntAt w wr' mb s n ro rcap := ⟨h.o.ext e, h.m.ext e, h.r, h.x.trans e⟩

theorem map_made (w : World) : MapAt (w.alloc (.map #[] 0)) w.heap.size 0 (fun _ => 0) := ⟨.map [], World.ownsMap_made w _ _ _, ⟨[], rfl⟩, fun _ => rfl⟩
theorem VV_skip (h : Cd → Bool) (Sh : Nat → ShR) (i : Nat) : ∀ n, (∀ j, j < n → ∀ e ∈ (Sh (i + j)).es, h e.c = false) → VV h Sh (i + n) = VV h Sh i
  | 0, _ => rfl
  | n + 1, hn => by
    have e : (Sh (i + n)).es.filter (fun e => h e.c) = [] := by
      rw [List.filter_eq_nil_iff]
      intro x hx e
      rw [hn n (by omega) x hx] at e
      cases e
    rw [← Nat.add_assoc, VV_succ, VV_skip h Sh i n (fun j hj => hn j (by omega)), e]
    simp
set_option maxRecDepth 100000 in
theorem idx10 (s : Nat → ShR) (k : Nat) (hk : k < 10) (W : World) : Sem.run Tryz.prog (Instr.index 102 (.agg #[shV (s 0), shV (s 1), shV (s 2), shV (s 3), shV (s 4), shV (s 5), shV (s 6), shV (s 7), shV (s 8), shV (s 9)]) (.int .i64 (k : Int))) W = .ok (shV (s k)) W := by
  rcases (show k = 0 ∨ k = 1 ∨ k = 2 ∨ k = 3 ∨ k = 4 ∨ k = 5 ∨ k = 6 ∨ k = 7 ∨ k = 8 ∨ k = 9 by omega) with rfl | rfl | rfl | rfl | rfl | rfl | rfl | rfl | rfl | rfl
  all_goals kernel_rfl
section
variable {w : World} {own : Nat → ITag} {eb : Nat} {pre : List Value} {ev : Value} {fl : List Int} {fa : Option Addr} {fcap : Nat} {Sh : Nat → ShR} {ks : List (Int × List Cd)}
set_option maxHeartbeats 3200000 in
set_option maxRecDepth 100000 in
theorem imet_any (S : IxSt w own eb pre ev fl fa fcap Sh (ksK ks)) (hp : pre.length = 4) (hks : ks.length ≤ 100) (hS : SortedF ks) (h8 : ∀ k ∈ ks, k.2.length ≤ 8) (hnd : ∀ k ∈ ks, k.2.Nodup) (hcd : ∀ k ∈ ks, ∀ c ∈ k.2, 0 ≤ c.attr ∧ c.attr < 6 ∧ 1 ≤ c.kind ∧ c.kind ≤ 9) (hwf : ∀ k ∈ ks, wfI k.1) (hfn : fl.Nodup) (hfm : ∀ x, x ∈ fl ↔ (x, []) ∈ ks) (hfl : fl.length ≤ 1000)
    (vb : Nat) (f : Int → Option Vl) (hev : Row w vb 166 (evCells f)) (hbeg : ∀ k ∈ ks, ∀ c ∈ k.2, c.kind = 8 → ∀ v, f c.attr = some v → c.a.n = v.n) :
    Calls Tryz.prog 43 #[.pointer (some ⟨eb, 4, none⟩), .pointer (some ⟨vb, 0, none⟩)] w fun e w' => ∃ ro rcap, e = .returned (.slice ro (metIds ks f).length rcap) ∧ OSl w' 3 1 ro (metIds ks f).length rcap ((metIds ks f).map (Value.int .i64)) ∧ (∀ g, blkOf ro = some g → w.heap.size ≤ g) ∧ Ext w w' := by
  have HC : Hid _ := clone_any fa fcap fl w S.at_.free (by omega)
  have e4 := S.row.at (eng_free pre hp fa fl.length fcap Sh ev)
  have hmm := @run_makeMap Tryz.prog
  go_enter Tryz.func43, Tryz.ntmps43
  go_wp2_with fail
  refine Calls.mono HC.out ?_
  rintro e w1 ⟨ro0, rcap0, rfl, hown0, hnew0, hE1⟩
  clear HC e4
  go_wp2_with fail
  obtain ⟨W, hW⟩ : ∃ W, W = w1.alloc (.map #[] 0) := ⟨_, rfl⟩
  have hE1W : Ext w1 W := by rw [hW]; exact (Ext.refl _).alloc _
  have hM0 : MapAt W w1.heap.size 0 (fun _ => 0) := by rw [hW]; exact map_made w1
  rw [← hW]
  have hmbw : w.heap.size ≤ w1.heap.size := hE1.le
  have hC0 : CntAt w W w1.heap.size (Cnt.zero fl) 0 ro0 rcap0 := ⟨hown0.ext hE1W, hM0, hnew0, hE1.trans hE1W⟩
  clear hW hE1W hM0 hown0 hnew0 hE1 hmm
  generalize w1.heap.size = mb at *
  -- the entries of a shelf
  have hent : ∀ a k, a < 6 → k < 10 → ∀ e ∈ (Sh (a * 10 + k)).es, e.c.attr = (a : Int) ∧ e.c.kind = (k : Int) ∧ 1 ≤ e.c.kind ∧ e.c.kind ≤ 9 ∧ (e.c.kind = 8 → ∀ v, f e.c.attr = some v → e.c.a.n = v.n) ∧ ∀ o ∈ e.os, wfI o.1 := fun a k ha hk e he => by
    have hi : a * 10 + k < 60 := by omega
    obtain ⟨o, ho⟩ := List.exists_mem_of_ne_nil _ (S.g.one _ hi e he)
    obtain ⟨l, h1, h2⟩ := (S.g.om _ hi e he o).1 ho
    obtain ⟨h3, _⟩ := ksK_mem.1 h1
    obtain ⟨c1, c2, c3, c4⟩ := hcd _ h3 _ h2
    have h5 := S.g.spot _ hi e he
    unfold spotOf at h5
    refine ⟨by omega, by omega, c3, c4, fun h v => hbeg _ h3 _ h2 h v, fun o ho => ?_⟩
    obtain ⟨l, h1, _⟩ := (S.g.om _ hi e he o).1 ho
    exact hwf _ (ksK_mem.1 h1).1
  have hKl : (ksK ks).length ≤ 100 := by simpa [ksK] using hks
  have hK8 : ∀ k ∈ ksK ks, k.2.2.length ≤ 8 := fun k hk => by
    obtain ⟨x, n, l⟩ := k
    exact h8 (x, l) (ksK_mem.1 hk).1
  go_loopw [5, 20] (fun v5 vi wr => ∃ (ro : Option Addr) (rcap a : Nat), a ≤ 6 ∧ vi = .int .i64 a ∧ v5 = .slice ro ((Cnt.zero fl).run (VV (hB f) Sh (a * 10))).told.length rcap ∧ CntAt w wr mb ((Cnt.zero fl).run (VV (hB f) Sh (a * 10))) (VV (hB f) Sh (a * 10)).length ro rcap) (fun _ vi _ => 6 - (intOf vi).toNat)
  case atStart => exact ⟨ro0, rcap0, 0, by omega, rfl, rfl, hC0⟩
  case round =>
    obtain ⟨ro, rcap, a, ha6, rfl, rfl, hC⟩ := hrel
    clear hC0
    by_cases ha : a < 6
    · have HV : Hid _ := value_any vb f a ha wr (hev.ext hC.x)
      have hai : (a : Int) < 6 := by omega
      have HCn : Hid (CntAt w wr mb ((Cnt.zero fl).run (VV (hB f) Sh (a * 10))) (VV (hB f) Sh (a * 10)).length ro rcap) := hC
      clear hC
      go_wp2_with fail
      refine Calls.mono HV.out ?_
      rintro e w2 ⟨rfl, hE2⟩
      have hC2 := HCn.out.ext hE2
      clear HV HCn
      rcases hfa : f a with _ | v
      · have HVV : Hid (VV (hB f) Sh ((a + 1) * 10) = VV (hB f) Sh (a * 10)) := by
          show _ = _
          rw [show (a + 1) * 10 = a * 10 + 10 by omega]
          refine VV_skip _ _ _ _ (fun j hj e he => ?_)
          have := (hent a j ha hj e he).1
          unfold hB
          rw [this, hfa]; rfl
        have HC2 : Hid (CntAt w w2 mb ((Cnt.zero fl).run (VV (hB f) Sh (a * 10))) (VV (hB f) Sh (a * 10)).length ro rcap) := hC2
        clear hC2 hfa
        simp only [Option.isSome_none, Option.getD_none]
        go_wp2
        go_roundw
        case rel =>
          refine ⟨ro, rcap, a + 1, by omega, by go_num, by rw [HVV.out], ?_⟩
          rw [HVV.out]
          exact HC2.out.ext ((Ext.refl w2).alloc _)
        case measure => simp [intOf]; omega
      · simp only [Option.isSome_some, Option.getD_some]
        have hsv : ∀ j, j < 10 → w2.cell? ⟨eb, 5 + a * 10 + j, none⟩ = some (shV (Sh (a * 10 + j))) := fun j hj => by
          have h := (S.row.ext (hC2.x)).at (eng_sh pre hp fa fl.length fcap Sh ev (a * 10 + j) (by omega))
          rw [show 5 + (a * 10 + j) = 5 + a * 10 + j by omega] at h
          exact h
        have s0 : ∀ ob, (w2.alloc ob).cell? ⟨eb, 5 + a * 10, none⟩ = _ := fun ob => ((Ext.refl w2).alloc ob).cell (hsv 0 (by omega))
        have s1 : ∀ ob, (w2.alloc ob).cell? ⟨eb, 5 + a * 10 + 1, none⟩ = _ := fun ob => ((Ext.refl w2).alloc ob).cell (hsv 1 (by omega))
        have s2 : ∀ ob, (w2.alloc ob).cell? ⟨eb, 5 + a * 10 + 2, none⟩ = _ := fun ob => ((Ext.refl w2).alloc ob).cell (hsv 2 (by omega))
        have s3 : ∀ ob, (w2.alloc ob).cell? ⟨eb, 5 + a * 10 + 3, none⟩ = _ := fun ob => ((Ext.refl w2).alloc ob).cell (hsv 3 (by omega))
        have s4 : ∀ ob, (w2.alloc ob).cell? ⟨eb, 5 + a * 10 + 4, none⟩ = _ := fun ob => ((Ext.refl w2).alloc ob).cell (hsv 4 (by omega))
        have s5 : ∀ ob, (w2.alloc ob).cell? ⟨eb, 5 + a * 10 + 5, none⟩ = _ := fun ob => ((Ext.refl w2).alloc ob).cell (hsv 5 (by omega))
        have s6 : ∀ ob, (w2.alloc ob).cell? ⟨eb, 5 + a * 10 + 6, none⟩ = _ := fun ob => ((Ext.refl w2).alloc ob).cell (hsv 6 (by omega))
        have s7 : ∀ ob, (w2.alloc ob).cell? ⟨eb, 5 + a * 10 + 7, none⟩ = _ := fun ob => ((Ext.refl w2).alloc ob).cell (hsv 7 (by omega))
        have s8 : ∀ ob, (w2.alloc ob).cell? ⟨eb, 5 + a * 10 + 8, none⟩ = _ := fun ob => ((Ext.refl w2).alloc ob).cell (hsv 8 (by omega))
        have s9 : ∀ ob, (w2.alloc ob).cell? ⟨eb, 5 + a * 10 + 9, none⟩ = _ := fun ob => ((Ext.refl w2).alloc ob).cell (hsv 9 (by omega))
        have HC2 : Hid (CntAt w w2 mb ((Cnt.zero fl).run (VV (hB f) Sh (a * 10))) (VV (hB f) Sh (a * 10)).length ro rcap) := hC2
        clear hC2 hsv
        go_wp2_with fail
        obtain ⟨SA, hSA⟩ : ∃ SA : Array Value, SA = #[shV (Sh (a * 10)), shV (Sh (a * 10 + 1)), shV (Sh (a * 10 + 2)), shV (Sh (a * 10 + 3)), shV (Sh (a * 10 + 4)), shV (Sh (a * 10 + 5)), shV (Sh (a * 10 + 6)), shV (Sh (a * 10 + 7)), shV (Sh (a * 10 + 8)), shV (Sh (a * 10 + 9))] := ⟨_, rfl⟩
        have hSk : ∀ k : Nat, k < 10 → ∀ W, Sem.run Tryz.prog (Instr.index 102 (.agg SA) (.int .i64 (k : Int))) W = .ok (shV (Sh (a * 10 + k))) W := fun k hk W => by
          rw [hSA]
          exact idx10 (fun i => Sh (a * 10 + i)) k hk W
        rw [← hSA]
        obtain ⟨W3, hW3⟩ : ∃ W3, W3 = w2.alloc (.cells #[.int .i64 v.n, .string v.s] 69) := ⟨_, rfl⟩
        have hE3 : Ext w2 W3 := by rw [hW3]; exact (Ext.refl _).alloc _
        have hVr : Row W3 w2.heap.size 69 [.int .i64 v.n, .string v.s] := by rw [hW3]; exact row_alloc _ _ _ _ _ rfl rfl
        rw [← hW3]
        have HC3 : Hid (CntAt w W3 mb ((Cnt.zero fl).run (VV (hB f) Sh (a * 10))) (VV (hB f) Sh (a * 10)).length ro rcap) := HC2.out.ext hE3
        clear hSA hW3 HC2 hE3 s0 s1 s2 s3 s4 s5 s6 s7 s8 s9 hE2
        generalize w2.heap.size = xb at *
        go_loopw [5, 37] (fun v5 vi wr2 => ∃ (ro : Option Addr) (rcap k : Nat), k ≤ 10 ∧ vi = .int .i64 k ∧ v5 = .slice ro ((Cnt.zero fl).run (VV (hB f) Sh (a * 10 + k))).told.length rcap ∧ CntAt w wr2 mb ((Cnt.zero fl).run (VV (hB f) Sh (a * 10 + k))) (VV (hB f) Sh (a * 10 + k)).length ro rcap ∧ Row wr2 xb 69 [.int .i64 v.n, .string v.s]) (fun _ vi _ => 10 - (intOf vi).toNat)
        case atStart => exact ⟨ro, rcap, 0, by omega, rfl, rfl, HC3.out, hVr⟩
        case round =>
          obtain ⟨ro2, rcap2, k, hk10, rfl, rfl, hC, hVr2⟩ := hrel
          clear HC3 hVr
          by_cases hk : k < 10
          · have hki : (k : Int) < 10 := by omega
            have hSkk : ∀ W, Sem.run Tryz.prog (Instr.index 102 (.agg SA) (.int .i64 (k : Int))) W = .ok (.slice (Sh (a * 10 + k)).ao (Sh (a * 10 + k)).es.length (Sh (a * 10 + k)).cap) W := hSk k hk
            have x0 := hVr2.at (j := 0) rfl
            have x1 := hVr2.at (j := 1) rfl
            have hi60 : a * 10 + k < 60 := by omega
            have hOS := (S.at_.sh _ hi60).ext hC.x
            have hesl := es_len S.g hK8 _ hi60
            have hen := hent a k ha hk
            obtain ⟨q1, q2, hPa⟩ := ex_parts (Sh (a * 10 + k)).es v a k (S.g.rise _ hi60) (fun e he => ⟨(hen e he).1, (hen e he).2.1⟩)
            have HN : Hid (∀ W, Ext w W → Calls Tryz.prog 83 #[.slice (Sh (a * 10 + k)).ao (Sh (a * 10 + k)).es.length (Sh (a * 10 + k)).cap, .int .i64 k, .agg #[.int .i64 v.n, .string v.s]] W fun e w' => ∃ ao' cap', e = .returned (.slice ao' (nearHi k q2 (Sh (a * 10 + k)).es.length - nearLo k q1) cap') ∧ (0 < nearHi k q2 (Sh (a * 10 + k)).es.length - nearLo k q1 → ∃ g, (Sh (a * 10 + k)).ao = some ⟨g, 0, none⟩ ∧ ao' = some ⟨g, nearLo k q1 * 7, none⟩) ∧ Ext W w') := fun W hE => near_any k hk _ _ _ v q1 q2 W ((S.at_.sh _ hi60).ext hE) (by omega) hPa
            have HCn : Hid (CntAt w wr mb ((Cnt.zero fl).run (VV (hB f) Sh (a * 10 + k))) (VV (hB f) Sh (a * 10 + k)).length ro2 rcap2) := hC
            have hUm : Hid (VV (hB f) Sh (a * 10 + k) ++ ((((Sh (a * 10 + k)).es.drop (nearLo k q1)).take (nearHi k q2 (Sh (a * 10 + k)).es.length - nearLo k q1)).filter (fun e => metB e.c v)).flatMap (·.os) = VV (hB f) Sh (a * 10 + (k + 1))) := by
              show _ = _
              rw [near_filter k _ v q1 q2 hPa (fun e he => (hen e he).2.1) (fun e he h => (hen e he).2.2.2.2.1 h v (by rw [(hen e he).1]; exact hfa)), ← Nat.add_assoc, VV_succ]
              congr 2
              apply List.filter_congr
              intro e he
              show metB e.c v = condB (f e.c.attr) e.c
              rw [(hen e he).1, hfa]; rfl
            have hsubl : ∀ t, (((((Sh (a * 10 + k)).es.drop (nearLo k q1)).take (nearHi k q2 (Sh (a * 10 + k)).es.length - nearLo k q1)).take t).filter (fun e => metB e.c v)).Sublist (Sh (a * 10 + k)).es := fun t => (List.filter_sublist.trans (List.take_sublist _ _)).trans ((List.take_sublist _ _).trans (List.drop_sublist _ _))
            have hlen : ∀ t, (VV (hB f) Sh (a * 10 + k) ++ (((((Sh (a * 10 + k)).es.drop (nearLo k q1)).take (nearHi k q2 (Sh (a * 10 + k)).es.length - nearLo k q1)).take t).filter (fun e => metB e.c v)).flatMap (·.os)).length ≤ 80000 := fun t => by
              have h := sub_flat S.g hK8 hKl ((EE Sh (a * 10 + k)).filter (fun e => hB f e.c) ++ ((((Sh (a * 10 + k)).es.drop (nearLo k q1)).take (nearHi k q2 (Sh (a * 10 + k)).es.length - nearLo k q1)).take t).filter (fun e => metB e.c v)) (by
                have h1 := EE_sub Sh (a * 10 + k + 1) (60 - (a * 10 + k + 1))
                rw [show a * 10 + k + 1 + (60 - (a * 10 + k + 1)) = 60 by omega, EE_succ] at h1
                exact (List.Sublist.append List.filter_sublist (hsubl t)).trans h1)
              rw [List.flatMap_append] at h
              exact h
            obtain ⟨L, hL⟩ : ∃ L, L = ((Sh (a * 10 + k)).es.drop (nearLo k q1)).take (nearHi k q2 (Sh (a * 10 + k)).es.length - nearLo k q1) := ⟨_, rfl⟩
            have hLl : nearHi k q2 (Sh (a * 10 + k)).es.length - nearLo k q1 = L.length := by
              have : nearHi k q2 (Sh (a * 10 + k)).es.length ≤ (Sh (a * 10 + k)).es.length := by have := hPa.2.1; unfold nearHi; split <;> omega
              rw [hL]; simp; omega
            have hLg : ∀ t (ht : t < L.length), ∃ hh : nearLo k q1 + t < (Sh (a * 10 + k)).es.length, L[t] = (Sh (a * 10 + k)).es[nearLo k q1 + t] := fun t ht => by
              subst hL
              simp only [List.length_take, List.length_drop] at ht
              refine ⟨by omega, ?_⟩
              rw [List.getElem_take, List.getElem_drop]
            have hLb : L.length ≤ 1000 := by
              have : nearHi k q2 (Sh (a * 10 + k)).es.length ≤ (Sh (a * 10 + k)).es.length := by have := hPa.2.1; unfold nearHi; split <;> omega
              omega
            rw [hLl] at hUm hlen
            rw [← hLl, ← hL] at hUm
            rw [← hLl, ← hL] at hlen
            clear hsubl hPa
            have hSA' : True := trivial
            clear hC hSk
            go_wp2_with fail
            refine Calls.mono (HN.out wr HCn.out.x) ?_
            rintro e w3 ⟨ao', cap', rfl, hg, hE3⟩
            rw [hLl] at hg ⊢
            have HC3 : Hid (CntAt w w3 mb ((Cnt.zero fl).run (VV (hB f) Sh (a * 10 + k))) (VV (hB f) Sh (a * 10 + k)).length ro2 rcap2) := HCn.out.ext hE3
            have hVr3 := hVr2.ext hE3
            clear HN HCn hE3 x0 x1 hVr2 hSkk hOS hL hLl
            generalize nearLo k q1 = lo at *
            go_wp2_with fail
            go_loopw [5, 46] (fun v5 vi wr3 => ∃ (ro : Option Addr) (rcap t : Nat), t ≤ L.length ∧ vi = .int .i64 t ∧ v5 = .slice ro ((Cnt.zero fl).run (VV (hB f) Sh (a * 10 + k) ++ ((L.take t).filter (fun e => metB e.c v)).flatMap (·.os))).told.length rcap ∧ CntAt w wr3 mb ((Cnt.zero fl).run (VV (hB f) Sh (a * 10 + k) ++ ((L.take t).filter (fun e => metB e.c v)).flatMap (·.os))) (VV (hB f) Sh (a * 10 + k) ++ ((L.take t).filter (fun e => metB e.c v)).flatMap (·.os)).length ro rcap ∧ Row wr3 xb 69 [.int .i64 v.n, .string v.s]) (fun _ vi _ => L.length - (intOf vi).toNat)
            case atStart => exact ⟨ro2, rcap2, 0, by omega, rfl, by simp, by simpa using HC3.out, hVr3⟩
            case round =>
              obtain ⟨ro3, rcap3, t, ht, rfl, rfl, hC, hVr4⟩ := hrel
              clear HC3 hVr3
              by_cases htl : t < L.length
              · obtain ⟨hh, hLt⟩ := hLg t htl
                have heL : L[t] ∈ (Sh (a * 10 + k)).es := by rw [hLt]; exact List.getElem_mem hh
                obtain ⟨c1, c2, c3, c4, c5, c6⟩ := hen _ heL
                obtain ⟨g, hao, rfl⟩ := hg (by omega)
                have hOs := (S.at_.sh _ hi60).ext hC.x
                obtain ⟨p0, p1, p2, p3, p4, p5, p6⟩ := enr_at (Sh (a * 10 + k)).es (lo + t) hh
                rw [← hLt] at p0 p1 p2 p3 p4 p5 p6
                have hcell : ∀ j u, ((Sh (a * 10 + k)).es.flatMap EnR.cells)[(lo + t) * 7 + j]? = some u → wr.cell? ⟨g, lo * 7 + t * 7 + j, none⟩ = some u := fun j u hj => by
                  obtain ⟨g', h1, h2⟩ := hOs.at hj
                  rw [hao] at h1
                  cases h1
                  rw [Nat.add_mul] at h2
                  exact h2
                have e0 : wr.cell? ⟨g, lo * 7 + t * 7, none⟩ = _ := hcell 0 _ p0
                have e1 := hcell 1 _ p1
                have e2 := hcell 2 _ p2
                have e3 := hcell 3 _ p3
                have e4 := hcell 4 _ p4
                have e5 := hcell 5 _ p5
                have e6 := hcell 6 _ p6
                have HOw : Hid (∀ W, Ext w W → OSl W 193 2 L[t].ao L[t].os.length L[t].cap (L[t].os.flatMap owCells)) := fun W hE => (S.at_.ow _ hi60 _ heL).ext hE
                have hosl := os_len S.g _ hi60 _ heL
                have hdis : ∀ g', blkOf ro3 = some g' → blkOf L[t].ao ≠ some g' := fun g' h1 h2 => by
                  have h3 := hC.r g' h1
                  have h4 := S.at_.lt (b := g') (by rw [S.at_.to _ hi60 _ heL g' h2]; simp)
                  omega
                have hti : (t : Int) < (L.length : Int) := by omega
                have hU : VV (hB f) Sh (a * 10 + k) ++ ((L.take (t + 1)).filter (fun e => metB e.c v)).flatMap (·.os) = (VV (hB f) Sh (a * 10 + k) ++ ((L.take t).filter (fun e => metB e.c v)).flatMap (·.os)) ++ (if metB L[t].c v then L[t].os else []) := by
                  rw [List.take_succ_eq_append_getElem htl, List.filter_append, List.flatMap_append, List.append_assoc]
                  congr 2
                  by_cases h : metB L[t].c v <;> simp [h]
                have HU : Hid _ := hU
                have hcl := hlen t
                have hxr : ∀ g', blkOf ro3 = some g' → g' ≠ xb := fun g' h1 h2 => by
                  rcases hC.o.form with ⟨h3, _⟩ | ⟨g2, cur2, h3, h4, _⟩
                  · rw [h3] at h1; cases h1
                  · rw [h3] at h1
                    cases h1
                    have h5 : wr.heap[xb]? = _ := hVr4
                    rw [← h2, h4] at h5
                    injection h5 with h5
                    injection h5 with _ h6
                    exact absurd h6 (by decide)
                have hxm : xb ≠ mb := fun h => by
                  obtain ⟨es0, clk0, h1⟩ := hC.m.blk
                  have h5 : wr.heap[xb]? = _ := hVr4
                  rw [h, h1] at h5
                  cases h5
                have x0 := hVr4.at (j := 0) rfl
                have x1 := hVr4.at (j := 1) rfl
                have x0A : ∀ ob, (wr.alloc ob).cell? ⟨xb, 0, none⟩ = _ := fun ob => ((Ext.refl wr).alloc ob).cell x0
                have x1A : ∀ ob, (wr.alloc ob).cell? ⟨xb, 1, none⟩ = _ := fun ob => ((Ext.refl wr).alloc ob).cell x1
                have HC4 : Hid (CntAt w wr mb ((Cnt.zero fl).run (VV (hB f) Sh (a * 10 + k) ++ ((L.take t).filter (fun e => metB e.c v)).flatMap (·.os))) (VV (hB f) Sh (a * 10 + k) ++ ((L.take t).filter (fun e => metB e.c v)).flatMap (·.os)).length ro3 rcap3) := hC
                have hsn : ∀ x, 0 ≤ ((Cnt.zero fl).run (VV (hB f) Sh (a * 10 + k) ++ ((L.take t).filter (fun e => metB e.c v)).flatMap (·.os))).n x ∧ ((Cnt.zero fl).run (VV (hB f) Sh (a * 10 + k) ++ ((L.take t).filter (fun e => metB e.c v)).flatMap (·.os))).n x ≤ 100000 := fun x => by
                  rw [cnt_n]
                  have := times_le (VV (hB f) Sh (a * 10 + k) ++ ((L.take t).filter (fun e => metB e.c v)).flatMap (·.os)) x
                  omega
                have htd := told_le (Cnt.zero fl) (VV (hB f) Sh (a * 10 + k) ++ ((L.take t).filter (fun e => metB e.c v)).flatMap (·.os))
                have htz : (Cnt.zero fl).told.length = fl.length := rfl
                have HSN : Hid _ := hsn
                have HDI : Hid _ := hdis
                have HXR : Hid _ := hxr
                have HVR : Hid (Row wr xb 69 [.int .i64 v.n, .string v.s]) := hVr4
                clear hao hC hVr4 hOs p0 p1 p2 p3 p4 p5 p6 hcell hU hsn hdis hxr hlen hUm hLg hLt heL hh c1 c2 c5
                generalize VV (hB f) Sh (a * 10 + k) ++ ((L.take t).filter (fun e => metB e.c v)).flatMap (·.os) = cur at *
                generalize L[t] = en at *
                obtain ⟨ec, eos, eao, ecap⟩ := en
                dsimp only at *
                by_cases hm : metB ec v = true
                · rw [if_pos hm] at HU
                  have HH : Hid _ := fun W => holds_is ec v W true c3 c4 hm
                  have HK : Hid _ := fun W (hE : Ext wr W) => count_any ec eao ecap eos mb cur.length ((Cnt.zero fl).run cur) ro3 rcap3 W (HOw.out W (HC4.out.x.trans hE)) (HC4.out.m.ext hE) (HC4.out.o.ext hE) HDI.out c6 HSN.out (by omega) (by omega) (by omega)
                  clear HOw HDI HSN hm htd hcl c6
                  go_wp2_with fail
                  refine Calls.mono (HH.out _) ?_
                  rintro e w4 ⟨rfl, hE4⟩
                  have hBr : Row w4 wr.heap.size 178 (EnR.cells ⟨ec, eos, eao, ecap⟩) := (show Row (wr.alloc (.cells #[.int .i64 ec.attr, .int .i64 ec.kind, .int .i64 ec.a.n, .string ec.a.s, .int .i64 ec.b.n, .string ec.b.s, .slice eao eos.length ecap] 178)) wr.heap.size 178 (EnR.cells ⟨ec, eos, eao, ecap⟩) from row_alloc _ _ _ _ _ rfl rfl).ext hE4
                  have b0 := hBr.at (j := 0) rfl
                  have b1 := hBr.at (j := 1) rfl
                  have b2 := hBr.at (j := 2) rfl
                  have b3 := hBr.at (j := 3) rfl
                  have b4 := hBr.at (j := 4) rfl
                  have b5 := hBr.at (j := 5) rfl
                  have b6 := hBr.at (j := 6) rfl
                  have HE4 : Hid (Ext wr w4) := ((Ext.refl wr).alloc _).trans hE4
                  clear hE4 hBr HH e0 e1 e2 e3 e4 e5 e6 x0 x1 x0A x1A
                  go_wp2_with fail
                  refine Calls.mono (HK.out w4 HE4.out) ?_
                  rintro e w5 ⟨ro5, rcap5, rfl, hO5, hM5, hK5, hat5⟩
                  have hfin : CntAt w w5 mb (((Cnt.zero fl).run cur).run eos) (cur.length + eos.length) ro5 rcap5 ∧ Row w5 xb 69 [.int .i64 v.n, .string v.s] := by
                    have hx4 := HC4.out.x.trans HE4.out
                    refine ⟨⟨hO5, hM5, fun g hg => ?_, ((hx4.kp (fun _ => False)).andThen hK5 (fun i hi h => ?_)).ext (fun _ _ h => h)⟩, hK5.row (HVR.out.ext HE4.out) (fun h => ?_)⟩
                    · rcases hat5 g hg with h | h
                      · exact HC4.out.r g h
                      · have := hx4.le; omega
                    · rcases h with h | h
                      · have := HC4.out.r i h; omega
                      · omega
                    · rcases h with h | h
                      · exact HXR.out _ h rfl
                      · exact hxm h
                  rw [← run_app, ← List.length_append, ← HU.out] at hfin
                  have hrl : (((Cnt.zero fl).run cur).run eos).told.length = ((Cnt.zero fl).run (VV (hB f) Sh (a * 10 + k) ++ ((L.take (t + 1)).filter (fun e => metB e.c v)).flatMap (·.os))).told.length := by rw [HU.out, run_app]
                  rw [hrl]
                  have HFin : Hid (CntAt w w5 mb ((Cnt.zero fl).run (VV (hB f) Sh (a * 10 + k) ++ ((L.take (t + 1)).filter (fun e => metB e.c v)).flatMap (·.os))) (VV (hB f) Sh (a * 10 + k) ++ ((L.take (t + 1)).filter (fun e => metB e.c v)).flatMap (·.os)).length ro5 rcap5 ∧ Row w5 xb 69 [.int .i64 v.n, .string v.s]) := hfin
                  clear hfin hrl hO5 hM5 hK5 hat5 HK HU HC4 b0 b1 b2 b3 b4 b5 b6
                  go_wp2
                  go_roundw
                  case rel => exact ⟨ro5, rcap5, t + 1, by omega, by go_num, rfl, HFin.out.1, HFin.out.2⟩
                  case measure => simp [intOf]; omega
                · rw [if_neg hm, List.append_nil] at HU
                  have hm' : metB ec v = false := by simpa using hm
                  have HH : Hid _ := fun W => holds_is ec v W false c3 c4 hm'
                  clear HOw HDI HSN hm hm' htd hcl c6
                  go_wp2_with fail
                  refine Calls.mono (HH.out _) ?_
                  rintro e w4 ⟨rfl, hE4⟩
                  have HE4 : Hid (Ext wr w4) := ((Ext.refl wr).alloc _).trans hE4
                  clear hE4 HH e0 e1 e2 e3 e4 e5 e6 x0 x1 x0A x1A
                  go_wp2
                  go_roundw
                  case rel => exact ⟨ro3, rcap3, t + 1, by omega, by go_num, by rw [HU.out], by rw [HU.out]; exact HC4.out.ext HE4.out, HVR.out.ext HE4.out⟩
                  case measure => simp [intOf]; omega
              · have hte : t = L.length := by omega
                rw [hte, List.take_length, hUm.out] at hC ⊢
                have HC4 : Hid (CntAt w wr mb ((Cnt.zero fl).run (VV (hB f) Sh (a * 10 + (k + 1)))) (VV (hB f) Sh (a * 10 + (k + 1))).length ro3 rcap3) := hC
                clear hC hUm
                go_wp2
                go_roundw
                case rel => exact ⟨ro3, rcap3, k + 1, by omega, by go_num, rfl, HC4.out, hVr4⟩
                case measure => simp [intOf]; omega
          · have hke : k = 10 := by omega
            rw [hke, show a * 10 + 10 = (a + 1) * 10 by omega] at hC ⊢
            have HC4 : Hid (CntAt w wr mb ((Cnt.zero fl).run (VV (hB f) Sh ((a + 1) * 10))) (VV (hB f) Sh ((a + 1) * 10)).length ro2 rcap2) := hC
            clear hC
            go_wp2
            go_roundw
            case rel => exact ⟨ro2, rcap2, a + 1, by omega, by go_num, rfl, HC4.out⟩
            case measure => simp [intOf]; omega
    · have hae : a = 6 := by omega
      rw [hae, show 6 * 10 = 60 from rfl] at hC ⊢
      have HM := idxMet_ok (idxOK_of S.g hfn hfm) (fun x l l' => sorted_uniq hS x l l') hnd (hB f) (VV (hB f) Sh 60) (seen_VV (hB f) Sh).symm
      have HSo : Hid (((Cnt.zero fl).run (VV (hB f) Sh 60)).told.mergeSort (fun x y => decide (x ≤ y)) = metIds ks f) := sorted_is _ _ HM.1 (metIds_rise hS f) (fun x => (HM.2 x).trans (metIds_mem ks f x).symm)
      have hVl : (VV (hB f) Sh 60).length ≤ 80000 := sub_flat S.g hK8 hKl _ List.filter_sublist
      have htl := told_le (Cnt.zero fl) (VV (hB f) Sh 60)
      have htz : (Cnt.zero fl).told.length = fl.length := rfl
      have HSrt : Hid _ := sort_any ro rcap _ wr hC.o (by omega)
      have hml : Hid (((Cnt.zero fl).run (VV (hB f) Sh 60)).told.length = (metIds ks f).length) := by show _ = _; rw [← HSo.out, List.length_mergeSort]
      have HCx : Hid (Ext w wr ∧ ∀ g, blkOf ro = some g → w.heap.size ≤ g) := ⟨hC.x, hC.r⟩
      clear hC HM hVl htl htz
      go_wp2_with fail
      refine Calls.mono HSrt.out ?_
      rintro e w5 ⟨rfl, hO5, hK5⟩
      rw [HSo.out] at hO5
      rw [hml.out] at hO5 ⊢
      go_wp2
      go_ret
      exact ⟨ro, rcap, rfl, hO5, HCx.out.2, ((HCx.out.1.kp (fun _ => False)).andThen (N := fun k => blkOf ro = some k) hK5 (fun i hi h => by have := HCx.out.2 i h; omega)).ext (fun _ _ h => h)⟩
end
end Go.Proofs.YtpbblaeamddbgaaGreat
