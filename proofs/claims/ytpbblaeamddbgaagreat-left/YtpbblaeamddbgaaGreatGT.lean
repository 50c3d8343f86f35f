import Derived.Deep.RegionWith
import Derived.Test.YtpbblaeamddbgaaGreatGQ
import Derived.Test.YtpbblaeamddbgaaGreatGI
import Derived.Test.YtpbblaeamddbgaaGreatGC
import Derived.Test.YtpbblaeamddbgaaGreatGO
import Derived.Test.YtpbblaeamddbgaaGreatGF
import Derived.Test.YtpbblaeamddbgaaGreatGG
import Derived.Test.YtpbblaeamddbgaaGreatGE
import Derived.Test.YtpbblaeamddbgaaGreatGJ
namespace Go.Proofs.YtpbblaeamddbgaaGreat
open Go.RowKit

def Sh0 : Nat → ShR := fun _ => ⟨[], none, 0⟩
def ord0 (n : Nat) : List Int := (List.range n).map (fun i : Nat => (i : Int))
theorem ord0_ok (n : Nat) : orderB n (ord0 n) = true := by
  have h1 : (ord0 n).length = n := by simp [ord0]
  have h2 : ∀ x ∈ ord0 n, inR x n = true := fun x hx => by
    obtain ⟨i, hi, rfl⟩ := List.mem_map.1 hx
    have := List.mem_range.1 hi
    simp [inR]
    omega
  have h3 : (ord0 n).Nodup := by
    unfold ord0
    rw [List.Nodup, List.pairwise_map]
    exact (List.nodup_range (n := n)).imp (fun h e => h (by omega))
  unfold orderB
  rw [h1]
  simp only [beq_self_eq_true, Bool.true_and, Bool.and_eq_true, List.all_eq_true, decide_eq_true_eq]
  exact ⟨h2, h3⟩
theorem ord0_succ (n : Nat) : ord0 (n + 1) = ord0 n ++ [(n : Int)] := by simp [ord0, List.range_succ]
theorem ints_osl {w : World} {T g cap : Nat} {xs : List Int} (h : OSl w T 1 (some ⟨g, 0, none⟩) xs.length cap (xs.map (Value.int .i64))) : Ints w g 0 xs := fun j hj => by
  obtain ⟨g', e, hc⟩ := h.at (j := j) (v := .int .i64 xs[j]) (by simp [hj])
  cases e
  rw [List.getD_eq_getElem?_getD, List.getElem?_eq_getElem hj, Option.getD_some, Nat.zero_add]
  exact hc

theorem Kp.knew {M : Nat → Prop} {a b c : World} {ro : Option Addr} (h : Kp M a b) (k : Kp (fun k => blkOf ro = some k) b c) (hn : ∀ g, blkOf ro = some g → a.heap.size ≤ g) : Kp M a c :=
  ⟨k.os.trans h.os, k.tape.trans h.tape, k.output.trans h.output, Nat.le_trans h.size k.size, fun i hi hm => (k.block i (Nat.lt_of_lt_of_le hi h.size) (fun e => by have := hn i e; omega)).trans (h.block i hi hm)⟩
/-- An engine without filters. -/
theorem new_eng (w w' : World) (eb lb sb sc ob oc : Nat) (sch : List Int) (hs1 : 1 ≤ sch.length) (hs6 : sch.length ≤ 6)
    (hrow : Row w' eb 112 (engCells [.slice (some ⟨sb, 0, none⟩) sch.length sc, .slice none 0 0, .slice (some ⟨ob, 0, none⟩) sch.length oc, .pointer (some ⟨lb, 0, none⟩)] none 0 0 Sh0 (.int .i64 0)))
    (hl : Row w' lb 125 (lateCells 0 none)) (hs : Ints w' sb 0 sch) (ho : Ints w' ob 0 (ord0 sch.length)) (hsl : sb < w'.heap.size) (hol : ob < w'.heap.size)
    (hn : w.heap.size ≤ eb ∧ w.heap.size ≤ lb ∧ w.heap.size ≤ sb ∧ w.heap.size ≤ ob) (hd : eb ≠ lb ∧ eb ≠ sb ∧ eb ≠ ob ∧ lb ≠ sb ∧ lb ≠ ob) :
    EngAt w' eb (fun b => w.heap.size ≤ b ∧ b < w'.heap.size) sch [] 0 := by
  obtain ⟨tg, htg⟩ : ∃ tg : Nat → Nat, tg = fun b => if b = eb then 1 else if b = lb then 3 else if b = sb ∨ b = ob then 4 else 0 := ⟨_, rfl⟩
  have t1 : tg eb = 1 := by rw [htg]; simp
  have t3 : tg lb = 3 := by rw [htg]; simp [hd.1.symm]
  have t4 : tg sb = 4 := by rw [htg]; simp [hd.2.1.symm, hd.2.2.2.1.symm]
  have t5 : tg ob = 4 := by rw [htg]; simp [hd.2.2.1.symm, hd.2.2.2.2.symm]
  have tn : ∀ b, tg b ≠ 0 → b = eb ∨ b = lb ∨ b = sb ∨ b = ob := fun b hb => by
    apply Classical.byContradiction
    intro h
    simp only [not_or] at h
    rw [htg] at hb
    simp [h.1, h.2.1, h.2.2.1, h.2.2.2] at hb
  have hol' : (ord0 sch.length).length = sch.length := by simp [ord0]
  have hF : ∀ b, tg b ≠ 0 → w.heap.size ≤ b ∧ b < w'.heap.size := fun b hb => by
    rcases tn b hb with rfl | rfl | rfl | rfl
    · exact ⟨hn.1, hrow.lt⟩
    · exact ⟨hn.2.1, hl.lt⟩
    · exact ⟨hn.2.2.1, hsl⟩
    · exact ⟨hn.2.2.2, hol⟩
  refine ⟨tg, fun _ => .no, ⟨sb, sc, none, 0, [], ob, oc, ord0 sch.length, lb, 0, none, [], none, 0, Sh0, 0⟩, ?_, hF, .nil, rfl⟩
  exact {
    lt := fun b hb => (hF b hb).2
    te := t1
    ix := by
      refine ⟨⟨OSl.nil _ _ _, fun i _ => OSl.nil _ _ _, fun i _ e he => (by cases he), fun g hg => (by cases hg), fun i _ g hg => (by cases hg), fun i _ e he => (by cases he), fun _ _ => rfl⟩, ⟨fun i _ => List.Pairwise.nil, fun i _ e he => (by cases he), fun i _ e he => (by cases he), fun i _ e he => (by cases he), fun i _ e he => (by cases he), fun k hk => (by cases hk)⟩, ?_, rfl⟩
      simp only [EngR.pre, hol']
      exact hrow
    tx := fun b hb => absurd rfl hb
    s := hs
    ts := t4
    f := OSl.nil _ _ _
    tf := fun g hg => by cases hg
    o := ho
    to := t5
    ord := ord0_ok _
    l := hl
    tl := t3
    tr := Or.inl rfl
    en := fun e he => by cases he
    fn := List.nodup_nil
    fm := fun x => by simp [EngR.ks]
    ok := fun e he => by cases he
    srt := fun i j hi => by simp [EngR.ks] at hi
    hun := by simp
    s1 := hs1
    s6 := hs6 }

theorem new_no (ao : Option Addr) (cap : Nat) (xs : List Int) (w : World) (hl : xs.length * 8 ≤ 140737488351232) (hx : Ixs w ao xs) (hs : schB xs = false) :
    Calls Tryz.prog 20 #[.slice ao xs.length cap] w fun e w' => e = .returned (.tuple #[.pointer none, .int .i64 1]) ∧ Ext w w' := by
  have H := schemaMayBe_any ao cap xs w hl hx
  rw [hs] at H
  have HH : Hid _ := H
  clear H hs
  go_enter Tryz.func20, Tryz.ntmps20
  go_wp2_with fail
  refine Calls.mono HH.out ?_
  rintro e w1 ⟨rfl, rfl⟩
  go_wp2
  go_ret2
  exact ⟨rfl, Ext.refl _⟩

set_option maxHeartbeats 1600000 in
set_option maxRecDepth 100000 in
theorem new_ok (ao : Option Addr) (cap : Nat) (xs : List Int) (w : World) (hl : xs.length * 8 ≤ 140737488351232) (hx : Ixs w ao xs) (hs : schB xs = true) :
    Calls Tryz.prog 20 #[.slice ao xs.length cap] w fun e w' => ∃ eb, e = .returned (.tuple #[.pointer (some ⟨eb, 0, none⟩), .int .i64 0]) ∧ Ext w w' ∧ EngAt w' eb (fun b => w.heap.size ≤ b ∧ b < w'.heap.size) xs [] 0 := by
  have H := schemaMayBe_any ao cap xs w hl hx
  rw [hs] at H
  have HH : Hid _ := H
  have hl1 : 1 ≤ xs.length := by simp only [schB, Bool.and_eq_true, decide_eq_true_eq] at hs; exact hs.2.1
  have hl6 : xs.length ≤ 6 := by simp only [schB, Bool.and_eq_true, decide_eq_true_eq] at hs; exact hs.2.2
  obtain ⟨b, o, rfl, hI⟩ := hx hl1
  have HC : Hid _ := Tryz.slices_Clone_int b o xs.length cap xs w (Nat.le_refl _) (by omega) (fun j hj => by have := hI j hj; simpa [hj] using this)
  clear H hs hx hI
  go_enter Tryz.func20, Tryz.ntmps20
  go_wp2_with fail
  refine Calls.mono HH.out ?_
  rintro e w1 ⟨rfl, rfl⟩
  go_wp2_with fail
  refine Calls.mono HC.out ?_
  rintro e w2 ⟨v, rfl, hown, hne, hB⟩
  obtain ⟨g, c, rfl, hg, hO⟩ := osl_of_own' hown hne
  rw [List.take_of_length_le (Nat.le_refl _)] at hO
  clear hown hne HC HH
  have hE2 : Ext w1 w2 := hB
  go_wp2_with fail
  obtain ⟨W0, hW0⟩ : ∃ W0, W0 = (w2.alloc (.cells #[.int .u32 0, .int .i32 0, .int .u32 0, .pointer none] 125)).alloc (.cells ((Tryz.zeroCells112.setIfInBounds 0 (.slice (some ⟨g, 0, none⟩) xs.length c)).setIfInBounds 3 (.pointer (some ⟨w2.heap.size, 0, none⟩))) 112) := ⟨_, rfl⟩
  rw [← hW0]
  have hz0 : W0.heap.size = w2.heap.size + 2 := by rw [hW0]; simp
  have hR0 : Row W0 (w2.heap.size + 1) 112 (engCells [.slice (some ⟨g, 0, none⟩) xs.length c, .slice none 0 0, .slice none 0 0, .pointer (some ⟨w2.heap.size, 0, none⟩)] none 0 0 Sh0 (.int .i64 0)) := by
    rw [hW0]; exact row_alloc _ _ _ _ _ (by simp) rfl
  have hL0 : Row W0 w2.heap.size 125 (lateCells 0 none) := by
    rw [hW0]; exact (row_alloc w2 _ _ _ _ rfl rfl : Row _ _ _ (lateCells 0 none)).ext ((Ext.refl _).alloc _)
  have hE0 : Ext w2 W0 := by rw [hW0]; exact ((Ext.refl _).alloc _).alloc _
  clear hW0 hB
  have HG : Hid (g < w2.heap.size) := hO.lt rfl
  have HZ : Hid (W0.heap.size = w2.heap.size + 2) := hz0
  have HR0 : Hid (Row W0 (w2.heap.size + 1) 112 (engCells [.slice (some ⟨g, 0, none⟩) xs.length c, .slice none 0 0, .slice none 0 0, .pointer (some ⟨w2.heap.size, 0, none⟩)] none 0 0 Sh0 (.int .i64 0))) := hR0
  clear hz0 hR0
  go_loopw [17] (fun vi wr => ∃ (k : Nat) (oa : Option Addr) (ocap : Nat), k ≤ xs.length ∧ vi = .int .i64 k ∧ Row wr (w2.heap.size + 1) 112 (engCells [.slice (some ⟨g, 0, none⟩) xs.length c, .slice none 0 0, .slice oa k ocap, .pointer (some ⟨w2.heap.size, 0, none⟩)] none 0 0 Sh0 (.int .i64 0)) ∧ OSl wr 3 1 oa k ocap ((ord0 k).map (Value.int .i64)) ∧ (∀ g', blkOf oa = some g' → W0.heap.size ≤ g') ∧ Kp (fun b => b = w2.heap.size + 1) W0 wr) (fun vi _ => xs.length - (intOf vi).toNat)
  case atStart => exact ⟨0, none, 0, Nat.zero_le _, rfl, HR0.out, OSl.nil _ _ _, (fun g hg => by cases hg), Kp.refl _ _⟩
  case round =>
    obtain ⟨k, oa, ocap, hk, rfl, hR, hown, hnew, hK⟩ := hrel
    have HN : Hid (∀ g', blkOf oa = some g' → W0.heap.size ≤ g') := hnew
    have HRR : Hid (Row wr (w2.heap.size + 1) 112 (engCells [.slice (some ⟨g, 0, none⟩) xs.length c, .slice none 0 0, .slice oa k ocap, .pointer (some ⟨w2.heap.size, 0, none⟩)] none 0 0 Sh0 (.int .i64 0))) := hR
    have c2 : wr.cell? ⟨w2.heap.size + 1, 2, none⟩ = some (.slice oa k ocap) := hR.at (j := 2) rfl
    have c2A : ∀ ob : Obj, (wr.alloc ob).cell? ⟨w2.heap.size + 1, 2, none⟩ = some (.slice oa k ocap) := fun ob => ((Ext.refl _).alloc ob).cell c2
    clear hnew hR
    by_cases hlt : k < xs.length
    · have hki : (k : Int) < (xs.length : Int) := by omega
      go_wp2_with (at_builtin; go_must (refine wpList_app rfl (.tmp 24) (.tmp 26) 25 rfl 3 (.int .i64 0) 1 8 Tryz.underlying25 Tryz.infoInt rfl (by decide) oa k ocap _ rfl (OSl.ext hown ((Ext.refl _).alloc _)) (some ⟨wr.heap.size, 0, none⟩) 1 1 [.int .i64 k] rfl (by intro h; cases h) rfl (fun _ => ⟨_, rfl, one_new _ _ _⟩) (by intro u hu; simp at hu; subst hu; rfl) (by unfold maxLen; omega) (by omega) ?_; intro oa3 ocap3 w3 hown3 hk3 hat3; have r3 := hk3.row (HRR.out.ext ((Ext.refl _).alloc _)) (fun h => by have := HN.out _ h; have := HZ.out; omega); have c3 : w3.cell? ⟨w2.heap.size + 1, 2, none⟩ = some (.slice oa k ocap) := r3.at (j := 2) rfl; have f3 := r3.frozen 2))
      go_roundw
      case rel =>
        have hf := fresh2 (hK.trans (((Ext.refl wr).alloc _).kp _)).size HN.out hat3
        have hz := HZ.out
        have hkw : Kp (fun b => b = w2.heap.size + 1) W0 w3 := Kp.knew (hK.trans (((Ext.refl wr).alloc _).kp _)) hk3 HN.out
        refine ⟨k + 1, oa3, ocap3, by omega, by go_num, r3.set 2 _, ?_, hf, hkw.setCell (fun _ => rfl) _⟩
        rw [ord0_succ, List.map_append]
        exact OSl.kp hown3 ((Kp.refl (fun b => b = w2.heap.size + 1) w3).setCell (fun _ => rfl) _) (fun g' hg' e => by have := hf g' hg'; omega)
      case measure => simp [intOf]; omega
    · go_wp2
      go_ret2
      have hz := HZ.out
      obtain rfl : k = xs.length := by omega
      obtain ⟨ob, rfl, _⟩ := hown.at (j := 0) (v := .int .i64 0) (by
        have h0 : 0 < (ord0 xs.length).length := by simp [ord0]; omega
        rw [List.getElem?_map, List.getElem?_eq_getElem h0]
        simp [ord0])
      have hob := HN.out ob rfl
      have hgl := HG.out
      have z2 := hE2.le
      have hEr : Ext w2 wr := ⟨hK.os.trans hE0.os, hK.tape.trans hE0.tape, hK.output.trans hE0.output, Nat.le_trans hE0.size hK.size, fun i hi => (hK.block i (Nat.lt_of_lt_of_le hi hE0.le) (by omega)).trans (hE0.block i hi)⟩
      have hlen : (ord0 xs.length).length = xs.length := by simp [ord0]
      refine ⟨w2.heap.size + 1, rfl, hE2.trans hEr, new_eng w1 wr (w2.heap.size + 1) w2.heap.size g c ob ocap xs hl1 hl6 HRR.out (hK.row hL0 (by omega)) ?_ (ints_osl (by rw [hlen]; exact hown)) (by have := hEr.le; omega) (hown.lt rfl) (by omega) (by omega)⟩
      exact (ints_osl hO).kp (hEr.kp (fun _ => False)) (fun h => h)
end Go.Proofs.YtpbblaeamddbgaaGreat
namespace Go.Proofs.YtpbblaeamddbgaaGreat
open Go.RowKit

theorem ent_del (es : List Ent) (q : Nat) (hq : q < es.length) : (es.flatMap Ent.cells).take (q * 2) ++ (es.flatMap Ent.cells).drop ((q + 1) * 2) = (es.take q ++ es.drop (q + 1)).flatMap Ent.cells := by
  have h1 := flat_take Ent.cells 2 (fun _ => rfl) es q
  have h2 : (es.flatMap Ent.cells).drop ((q + 1) * 2) = (es.drop (q + 1)).flatMap Ent.cells := by
    have e : es.flatMap Ent.cells = (es.take (q + 1)).flatMap Ent.cells ++ (es.drop (q + 1)).flatMap Ent.cells := by rw [← List.flatMap_append, List.take_append_drop]
    rw [e, List.drop_left' (by rw [ent_len]; simp; omega)]
  rw [h1, h2, List.flatMap_append]
theorem ent_ins (es : List Ent) (x : Ent) (q : Nat) : (es.flatMap Ent.cells).take (q * 2) ++ x.cells ++ (es.flatMap Ent.cells).drop (q * 2) = (es.take q ++ x :: es.drop q).flatMap Ent.cells := by
  have h1 := flat_take Ent.cells 2 (fun _ => rfl) es q
  have h2 : (es.flatMap Ent.cells).drop (q * 2) = (es.drop q).flatMap Ent.cells := by
    have e : es.flatMap Ent.cells = (es.take q).flatMap Ent.cells ++ (es.drop q).flatMap Ent.cells := by rw [← List.flatMap_append, List.take_append_drop]
    rcases Nat.lt_or_ge q es.length with h | h
    · rw [e, List.drop_left' (by rw [ent_len]; simp; omega)]
    · rw [List.drop_of_length_le (by rw [ent_len]; omega), List.drop_of_length_le h]; rfl
  rw [h1, h2]
  simp
theorem sortedF_iff {ks : List (Int × List Cd)} : SortedF ks ↔ ks.Pairwise (fun a b => a.1 < b.1) := by
  rw [List.pairwise_iff_getElem]
  rfl
theorem split_at {α : Type} (l : List α) (q : Nat) (hq : q < l.length) : l = l.take q ++ l[q] :: l.drop (q + 1) := by
  conv => lhs; rw [← List.take_append_drop q l, List.drop_eq_getElem_cons hq]
section
variable {w : World} {eb : Nat} {tg : Nat → Nat} {own : Nat → ITag} {sch : List Int} {r : EngR}
theorem EngS.pw (S : EngS w eb tg own sch r) : r.es.Pairwise (fun a b => a.id < b.id) := by
  have h := sortedF_iff.1 S.srt
  unfold EngR.ks at h
  rw [List.pairwise_map] at h
  exact h
theorem EngS.other (S : EngS w eb tg own sch r) (q : Nat) (hq : q < r.es.length) : ∀ e, e ∈ r.es.take q ++ r.es.drop (q + 1) ↔ e ∈ r.es ∧ e.id ≠ r.es[q].id := fun e => by
  have h := S.pw
  have hs := split_at r.es q hq
  rw [hs, List.pairwise_append, List.pairwise_cons] at h
  obtain ⟨_, ⟨h2, _⟩, h3⟩ := h
  constructor
  · intro he
    refine ⟨?_, ?_⟩
    · rcases List.mem_append.1 he with h | h
      · exact List.mem_of_mem_take h
      · exact List.mem_of_mem_drop h
    · rcases List.mem_append.1 he with h | h
      · have := h3 e h r.es[q] (List.mem_cons_self); omega
      · have := h2 e h; omega
  · rintro ⟨he, hn⟩
    rw [hs] at he
    rcases List.mem_append.1 he with h | h
    · exact List.mem_append_left _ h
    · rcases List.mem_cons.1 h with rfl | h
      · exact absurd rfl hn
      · exact List.mem_append_right _ h
theorem ks_split (r : EngR) (q : Nat) (hq : q < r.es.length) : ∀ x, x ∈ ksK r.ks ↔ x ∈ (r.es[q].id, (r.es[q].l.length : Int), r.es[q].l) :: ksK ((r.es.take q ++ r.es.drop (q + 1)).map Ent.key) := fun x => by
  have hs := split_at r.es q hq
  unfold EngR.ks ksK
  conv => lhs; rw [hs]
  simp only [List.map_append, List.map_cons, List.mem_append, List.mem_cons, Ent.key]
  constructor
  · rintro (h | h | h)
    · exact Or.inr (Or.inl h)
    · exact Or.inl h
    · exact Or.inr (Or.inr h)
  · rintro (h | h | h)
    · exact Or.inr (Or.inl h)
    · exact Or.inl h
    · exact Or.inr (Or.inr h)
/-- The index's part of taking out. -/
theorem EngS.rem (S : EngS w eb tg own sch r) (q : Nat) (hq : q < r.es.length) :
    Calls Tryz.prog 53 #[.pointer (some ⟨eb, 4, none⟩), .agg #[.int .i64 r.es[q].id, .slice r.es[q].ao r.es[q].l.length r.es[q].cap]] w fun e w' => e = .returned (.tuple #[]) ∧ ∃ own' fa' fcap' Sh', IxSt w' own' eb (r.pre sch.length) (.int .i64 r.n) (dropI r.fl r.es[q].id) fa' fcap' Sh' (ksK ((r.es.take q ++ r.es.drop (q + 1)).map Ent.key)) ∧ (∀ b, b < w.heap.size → own' b = own b) ∧ Kp (fun b => b = eb ∨ own b ≠ .no) w w' := by
  have hm : r.es[q] ∈ r.es := List.getElem_mem hq
  have hin : ∀ k ∈ ksK ((r.es.take q ++ r.es.drop (q + 1)).map Ent.key), ∃ e ∈ r.es, e.id ≠ r.es[q].id ∧ k = (e.id, (e.l.length : Int), e.l) := fun k hk => by
    unfold ksK at hk
    obtain ⟨k', hk', rfl⟩ := List.mem_map.1 hk
    obtain ⟨e, he, rfl⟩ := List.mem_map.1 hk'
    have h := (S.other q hq e).1 he
    exact ⟨e, h.1, h.2, rfl⟩
  have h6 := S.s6
  refine remove_any r.es[q].id r.es[q].l.length r.es[q].l (S.ix.congr (ks_split r q hq)) rfl (fun k hk => ?_) ?_ ?_ (fun k hk => ?_) r.es[q].ao r.es[q].cap (S.ok _ hm).2.2.1 ((S.ok _ hm).2.1.nodup cmpCd_ord) (S.cxs hm) (fun g hg => ?_) (fun c hc => ?_)
  · obtain ⟨e, he, _, rfl⟩ := hin k hk; exact (S.ok e he).2.2.1
  · have := S.hun
    simp [ksK]; omega
  · exact S.flen
  · obtain ⟨e, he, hne, rfl⟩ := hin k hk; exact hne
  · obtain ⟨b, h1, _, h3⟩ := S.en _ hm
    have hgb : g = b := by rw [h1] at hg; cases hg; rfl
    subst hgb
    refine ⟨?_, fun e => ?_⟩
    · apply Classical.byContradiction
      intro h
      have h5 := S.tx g h
      omega
    · have h5 := S.te
      rw [← e] at h5
      omega
  · have := may_of ((S.ok _ hm).2.2.2 c hc); omega
/-- What taking out leaves. -/
theorem EngS.undone (S : EngS w eb tg own sch r) (q : Nat) (hq : q < r.es.length) (g k : Nat) (hfa : r.fa = some ⟨g, 0, none⟩) (hk : r.es.length = k + 1) {w1 w2 w3 W : World} (hE : Ext w w1) {own' : Nat → ITag} {xa : Option Addr} {xcap : Nat} {Sh : Nat → ShR} {lb : Nat}
    (hI : IxSt W own' eb [.slice (some ⟨r.sb, 0, none⟩) sch.length r.sc, .slice (some ⟨g, 0, none⟩) k r.fcap, .slice (some ⟨r.ob, 0, none⟩) r.order.length r.oc, .pointer (some ⟨lb, 0, none⟩)] (.int .i64 r.n) (dropI r.fl r.es[q].id) xa xcap Sh (ksK ((r.es.take q ++ r.es.drop (q + 1)).map Ent.key)))
    (ho : ∀ b, b < w1.heap.size → own' b = own b) (hK2 : Kp (fun b => b = eb ∨ own b ≠ .no) w1 w2) (hK3 : Kp (fun b => b = g) w2 w3) (hO3 : OSl w3 130 2 (some ⟨g, 0, none⟩) k r.fcap ((r.es.flatMap Ent.cells).take (q * 2) ++ (r.es.flatMap Ent.cells).drop ((q + 1) * 2)))
    (hKW : Kp (fun b => b = eb) w3 W) (hl : Row W lb 125 (lateCells 0 none)) (hlb : w3.heap.size ≤ lb) (hlo : own' lb = .no) :
    ∃ tg' r', EngS W eb tg' own' sch r' ∧ r'.es = r.es.take q ++ r.es.drop (q + 1) ∧ r'.n = r.n ∧ (∀ b, tg' b ≠ 0 → tg b ≠ 0 ∨ (w.heap.size ≤ b ∧ b < W.heap.size)) ∧ Kp (fun b => tg b ≠ 0) w W := by
  have hge : tg g = 2 := S.tf g (by rw [hfa]; rfl)
  have hgl := S.lt g (by omega)
  have z1 := hE.le
  have z2 := hK2.size
  have z3 := hK3.size
  have hK : Kp (fun b => tg b = 1 ∨ tg b = 2 ∨ tg b = 3 ∨ tg b = 5) w W := by
    refine (((hE.kp _).trans (hK2.mono (fun b _ h => ?_))).trans (hK3.mono (fun b _ h => ?_))).trans (hKW.mono (fun b _ h => ?_))
    · rcases h with h | h
      · rw [h]; exact Or.inl S.te
      · exact Or.inr (Or.inr (Or.inr (S.tx b h)))
    · rw [h]; exact Or.inr (Or.inl hge)
    · rw [h]; exact Or.inl S.te
  have el : (r.es.take q ++ r.es.drop (q + 1)).length = k := by simp; omega
  have hsub : ∀ e ∈ r.es.take q ++ r.es.drop (q + 1), e ∈ r.es := fun e he => ((S.other q hq e).1 he).1
  have hgne : ¬ g = eb := fun e => by rw [e, S.te] at hge; omega
  obtain ⟨tg', h1, h2⟩ := S.made (own' := own') (W := W) { r with fa := some ⟨g, 0, none⟩, es := r.es.take q ++ r.es.drop (q + 1), lb := lb, d := 0, tp := none, fl := dropI r.fl r.es[q].id, xa := xa, xcap := xcap, Sh := Sh } (fun _ => False) rfl hK (fun b hb => ho b (by omega))
    (by simp only [EngR.pre, el]; exact hI)
    (by
      simp only [el]
      rw [← ent_del r.es q hq]
      exact OSl.kp hO3 hKW (fun g' hg' e => by cases hg'; exact hgne e))
    (fun g' hg' => by cases hg'; exact Or.inl hge) (Or.inl ⟨rfl, rfl⟩) S.ord hl rfl (by show w.heap.size ≤ lb; omega) hlo (fun e => by cases e; omega)
    (fun e he => Or.inl (hsub e he)) (List.Pairwise.filter _ S.fn)
    (fun x => by
      show x ∈ dropI r.fl r.es[q].id ↔ (x, []) ∈ (r.es.take q ++ r.es.drop (q + 1)).map Ent.key
      unfold dropI
      rw [List.mem_filter, S.fm x]
      unfold EngR.ks
      simp only [List.mem_map]
      constructor
      · rintro ⟨⟨e, he, h1⟩, h2⟩
        refine ⟨e, (S.other q hq e).2 ⟨he, fun h => ?_⟩, h1⟩
        have h3 : e.id = x := congrArg Prod.fst h1
        rw [← h3, h] at h2
        simp at h2
      · rintro ⟨e, he, h1⟩
        have h4 := (S.other q hq e).1 he
        have h3 : e.id = x := congrArg Prod.fst h1
        refine ⟨⟨e, h4.1, h1⟩, ?_⟩
        rw [← h3]
        simp [h4.2])
    (fun e he => S.ok e (hsub e he))
    (by
      show SortedF ((r.es.take q ++ r.es.drop (q + 1)).map Ent.key)
      rw [sortedF_iff, List.pairwise_map]
      have h := S.pw
      rw [split_at r.es q hq, List.pairwise_append, List.pairwise_cons] at h
      rw [List.pairwise_append]
      exact ⟨h.1, h.2.1.2, fun a ha b hb => h.2.2 a ha b (List.mem_cons_of_mem _ hb)⟩)
    (by show (r.es.take q ++ r.es.drop (q + 1)).length ≤ 100; have := S.hun; omega) (fun _ h => h.elim)
  exact ⟨tg', _, h1, rfl, rfl, h2, hK.mono (fun b _ h => by omega)⟩
end
end Go.Proofs.YtpbblaeamddbgaaGreat
namespace Go.Proofs.YtpbblaeamddbgaaGreat
open Go.RowKit

def UnDn (eb : Nat) (F : Nat → Prop) (sch : List Int) (flt : List (Int × List Cd)) (q : Nat) (n : Int) (w w' : World) : Prop := Kp F w w' ∧ EngAt w' eb (Grow F w w') sch (flt.take q ++ flt.drop (q + 1)) n

set_option maxHeartbeats 1600000 in
set_option maxRecDepth 100000 in
theorem pun_any (eb : Nat) (F : Nat → Prop) (sch : List Int) (flt : List (Int × List Cd)) (n : Int) (id : Int) (w : World) (hf : flt.length ≤ 100) (hS : SortedF flt) (hE : EngAt w eb F sch flt n) (q : Nat) (hq : PosOf flt id q) :
    Calls Tryz.prog 27 #[.pointer (some ⟨eb, 0, none⟩), .int .i64 id] w fun e w' => e = .returned (.int .i64 (unErr flt id q)) ∧ Kp F w w' ∧ EngAt w' eb (Grow F w w') sch (unFlt flt id q) n := by
  have hE0 := hE
  obtain ⟨tg, own, r, S, hF, hA, hn⟩ := hE
  have hlen : r.es.length = flt.length := hA.len
  have hfind := find_any eb r.fa r.fcap r.es flt id w hf hS hA.ids (S.ix.row.at (j := 1) rfl) S.f q hq
  cases hth : thereB flt id q with
  | false =>
    have e1 : unErr flt id q = 7 := by simp [unErr, hth]
    have e2 : unFlt flt id q = flt := by simp [unFlt, hth]
    rw [e1, e2]
    rw [hth] at hfind
    have HFi : Hid _ := hfind
    clear hfind S
    go_enter Tryz.func27, Tryz.ntmps27
    go_wp2_with fail
    refine Calls.mono HFi.out ?_
    rintro e w1 ⟨rfl, hE1⟩
    go_wp2
    go_ret
    exact ⟨rfl, hE1.kp _, (hE0.kp (hE1.kp (fun _ => False)) (fun _ _ h => h)).mono (fun b hb => Or.inl hb)⟩
  | true =>
    obtain ⟨hqf, hid⟩ := there_iff.1 hth
    have e1 : unErr flt id q = 0 := by simp [unErr, hth]
    have e2 : unFlt flt id q = flt.take q ++ flt.drop (q + 1) := by simp [unFlt, hth]
    rw [e1, e2]
    rw [hth] at hfind
    have HFi : Hid _ := hfind
    have hqe : q < r.es.length := by omega
    obtain ⟨k, hk⟩ : ∃ k, r.es.length = k + 1 := ⟨r.es.length - 1, by omega⟩
    have hun := S.hun
    have HRm : Hid (∀ w', Ext w w' → _) := fun w' h => (S.ext h).rem q hqe
    obtain ⟨g, hfa, c0⟩ := S.f.at (ent_at r.es q hqe).1
    obtain ⟨g', hfa', c1⟩ := S.f.at (ent_at r.es q hqe).2
    rw [hfa] at hfa'
    cases hfa'
    have hge : tg g = 2 := S.tf g (by rw [hfa]; rfl)
    have hgno : own g = .no := by
      apply Classical.byContradiction
      intro h
      have := S.tx g h
      omega
    have hgeb : ¬ g = eb := fun e => by have h5 := S.te; rw [← e] at h5; omega
    have f1 : w.cell? ⟨eb, 1, none⟩ = some (.slice (some ⟨g, 0, none⟩) (k + 1) r.fcap) := by
      have h := S.ix.row.at (j := 1) (v := .slice r.fa r.es.length r.fcap) rfl
      rw [hfa, hk] at h; exact h
    have HDl : Hid (∀ w1 w2, Ext w w1 → Kp (fun b => b = eb ∨ own b ≠ .no) w1 w2 → Calls Tryz.prog 54 #[.slice (some ⟨g, 0, none⟩) (k + 1) r.fcap, .int .i64 q, .int .i64 ((q : Int) + 1)] w2 fun e w' => e = .returned (.slice (some ⟨g, 0, none⟩) k r.fcap) ∧ OSl w' 130 2 (some ⟨g, 0, none⟩) k r.fcap ((r.es.flatMap Ent.cells).take (q * 2) ++ (r.es.flatMap Ent.cells).drop ((q + 1) * 2)) ∧ Kp (fun b => b = g) w2 w') := fun w1 w2 h1 h2 => by
      have hO := OSl.kp (S.f.ext h1) h2 (fun g' hg' e => by
        rw [hfa] at hg'
        cases hg'
        rcases e with e | e
        · exact hgeb e
        · exact e hgno)
      rw [hfa] at hO
      obtain ⟨g', L, e', hR, hnc, hm, hL, hx⟩ := row_of_osl hO (by omega)
      cases e'
      rw [hk] at hx hnc
      exact delete_anyF g k r.fcap q L _ w2 hR hL hm hnc hx (by omega) (by omega) (ent_one r.es)
    have HU : Hid (∀ {w1 w2 w3 W : World} {own' : Nat → ITag} {xa : Option Addr} {xcap : Nat} {Sh : Nat → ShR} {lb : Nat}, Ext w w1 → IxSt W own' eb [.slice (some ⟨r.sb, 0, none⟩) sch.length r.sc, .slice (some ⟨g, 0, none⟩) k r.fcap, .slice (some ⟨r.ob, 0, none⟩) r.order.length r.oc, .pointer (some ⟨lb, 0, none⟩)] (.int .i64 r.n) (dropI r.fl r.es[q].id) xa xcap Sh (ksK ((r.es.take q ++ r.es.drop (q + 1)).map Ent.key)) →
        (∀ b, b < w1.heap.size → own' b = own b) → Kp (fun b => b = eb ∨ own b ≠ .no) w1 w2 → Kp (fun b => b = g) w2 w3 → OSl w3 130 2 (some ⟨g, 0, none⟩) k r.fcap ((r.es.flatMap Ent.cells).take (q * 2) ++ (r.es.flatMap Ent.cells).drop ((q + 1) * 2)) → Kp (fun b => b = eb) w3 W → Row W lb 125 (lateCells 0 none) → w3.heap.size ≤ lb → own' lb = .no → UnDn eb F sch flt q n w W) := fun {w1 w2 w3 W own' xa xcap Sh lb} a1 a2 a3 a4 a5 a6 a7 a8 a9 a10 => by
      obtain ⟨tg', r', s1, s2, s3, s4, s5⟩ := S.undone q hqe g k hfa hk a1 a2 a3 a4 a5 a6 a7 a8 a9 a10
      refine ⟨s5.mono (fun b _ hb => hF b hb), tg', own', r', s1, fun b hb => ?_, ?_, s3.trans hn⟩
      · rcases s4 b hb with h | h
        · exact Or.inl (hF b h)
        · exact Or.inr h
      · rw [s2]; exact (hA.take q).app (hA.drop (q + 1))
    have HP : Hid (r.pre sch.length = [.slice (some ⟨r.sb, 0, none⟩) sch.length r.sc, .slice (some ⟨g, 0, none⟩) (k + 1) r.fcap, .slice (some ⟨r.ob, 0, none⟩) r.order.length r.oc, .pointer (some ⟨r.lb, 0, none⟩)]) := by
      show _ = _
      unfold EngR.pre
      rw [hfa, hk]
    have hgl := S.lt g (by omega)
    have hqk : q ≤ k := by omega
    have hk99 : k ≤ 99 := by omega
    have hqi : (q : Int) < ((k + 1 : Nat) : Int) := by omega
    have hqw : IntKind.i64.wrap ((q : Int) + 1) = (q : Int) + 1 := by rw [IntKind.wrap_i64]; omega
    generalize r.es[q].id = xid at *
    generalize r.es[q].ao = xao at *
    generalize r.es[q].l.length = xl at *
    generalize r.es[q].cap = xcp at *
    clear hfind hS hq hA hF S hE0 hlen hid hk hfa hth e1 e2 hn hge
    go_enter Tryz.func27, Tryz.ntmps27
    go_wp2_with fail
    refine Calls.mono HFi.out ?_
    rintro e w1 ⟨rfl, hE1⟩
    have d0 := hE1.cell c0
    have d1 := hE1.cell c1
    have d2 := hE1.cell f1
    clear c0 c1 f1 HFi
    go_wp2_with fail
    go_region_with (first
      | (go_at_call 53; refine Calls.mono (HRm.out _ (by exact hE1.trans (Ext.refl _).drew)) ?_; rintro e w2 ⟨rfl, own', xa, xcap, Sh, hI, ho, hK2⟩; rw [HP.out] at hI; have x1 : w2.cell? ⟨eb, 1, none⟩ = some (.slice (some ⟨g, 0, none⟩) (k + 1) r.fcap) := hI.row.at (j := 1) rfl))
    all_goals
      clear d0 d1 d2 HRm
      go_wp2_with fail
      refine Calls.mono (HDl.out _ w2 (hE1.trans (Ext.refl _).drew) hK2) ?_
      rintro e w3 ⟨rfl, hO3, hK3⟩
      have hI3 := hI.kp hK3 (fun b hb e => hb (by rw [e]; rw [ho g (by have := hE1.le; simp; omega)]; exact hgno)) (fun e => hgeb e.symm)
      have r3 := hI3.row
      have y1 : w3.cell? ⟨eb, 1, none⟩ = some (.slice (some ⟨g, 0, none⟩) (k + 1) r.fcap) := r3.at (j := 1) rfl
      have y3 : w3.cell? ⟨eb, 3, none⟩ = some (.pointer (some ⟨r.lb, 0, none⟩)) := r3.at (j := 3) rfl
      have z1 := r3.frozen 1
      have z3 := r3.frozen 3
      have hel : eb < w3.heap.size := r3.lt
      have rS := r3.set 1 (.slice (some ⟨g, 0, none⟩) k r.fcap)
      have yA : ∀ ob : Obj, ((w3.setCell ⟨eb, 1, none⟩ (.slice (some ⟨g, 0, none⟩) k r.fcap)).alloc ob).cell? ⟨eb, 3, none⟩ = some (.pointer (some ⟨r.lb, 0, none⟩)) := fun ob => (rS.ext ((Ext.refl _).alloc ob)).at (j := 3) rfl
      have zA : ∀ ob : Obj, ((w3.setCell ⟨eb, 1, none⟩ (.slice (some ⟨g, 0, none⟩) k r.fcap)).alloc ob).frozen? ⟨eb, 3, none⟩ = false := fun ob => (rS.ext ((Ext.refl _).alloc ob)).frozen 3
      have hno3 : own' w3.heap.size = .no := hI.at_.tn _ hK3.size
      have HI3 : Hid _ := hI3
      clear r3 rS hI hI3 HDl
      go_wp2
      go_ret
      exact ⟨rfl, HU.out (hE1.trans (Ext.refl _).drew) (((HI3.out.setPre 1 (show 1 < 4 by decide) (.slice (some ⟨g, 0, none⟩) k r.fcap)).setPre 3 (show 3 < 4 by decide) (.pointer (some ⟨w3.heap.size, 0, none⟩))).ext ((Ext.refl _).alloc _)) ho hK2 hK3 hO3 ((((Kp.refl (fun b => b = eb) w3).setCell (fun _ => rfl) _).setCell (fun _ => rfl) _).trans (((Ext.refl _).alloc _).kp _)) (row_alloc _ _ _ _ _ (by simp) rfl) (Nat.le_refl _) hno3⟩
end Go.Proofs.YtpbblaeamddbgaaGreat
namespace Go.Proofs.YtpbblaeamddbgaaGreat
open Go.RowKit

section
variable {w : World} {eb : Nat} {tg : Nat → Nat} {own : Nat → ITag} {sch : List Int} {r : EngR}
/-- What a new order leaves. -/
theorem EngS.rebuilt (S : EngS w eb tg own sch r) (xs : List Int) (hx : orderB sch.length xs = true) {w1 W : World} (hE : Ext w w1) {ob oc lb : Nat}
    (hI : IxSt W own eb [.slice (some ⟨r.sb, 0, none⟩) sch.length r.sc, .slice r.fa r.es.length r.fcap, .slice (some ⟨ob, 0, none⟩) xs.length oc, .pointer (some ⟨lb, 0, none⟩)] (.int .i64 r.n) r.fl r.xa r.xcap r.Sh (ksK r.ks))
    (hO : OSl w1 3 1 (some ⟨ob, 0, none⟩) xs.length oc (xs.map (Value.int .i64))) (hob : w.heap.size ≤ ob)
    (hKW : Kp (fun b => b = eb) w1 W) (hl : Row W lb 125 (lateCells 0 none)) (hlb : w1.heap.size ≤ lb) :
    ∃ tg' r', EngS W eb tg' own sch r' ∧ r'.es = r.es ∧ r'.n = r.n ∧ (∀ b, tg' b ≠ 0 → tg b ≠ 0 ∨ (w.heap.size ≤ b ∧ b < W.heap.size)) ∧ Kp (fun b => tg b ≠ 0) w W := by
  have z1 := hE.le
  have hol := hO.lt (g := ob) rfl
  have hel := S.lt eb (by rw [S.te]; decide)
  have hK0 : Kp (fun b => b = eb) w W := (hE.kp _).trans hKW
  have hK : Kp (fun b => tg b = 1 ∨ tg b = 2 ∨ tg b = 3 ∨ tg b = 5) w W := hK0.mono (fun b _ h => by rw [h]; exact Or.inl S.te)
  have hno : ∀ b, w.heap.size ≤ b → own b = .no := fun b hb => by
    apply Classical.byContradiction
    intro h
    have := S.lt b (by rw [S.tx b h]; decide)
    omega
  have hfl : ∀ g, blkOf r.fa = some g → g < w.heap.size := fun g hg => S.f.lt hg
  have hlen : (xs.length : Nat) = sch.length := (order_of hx).1
  obtain ⟨tg', h1, h2⟩ := S.made (own' := own) (W := W) { r with ob := ob, oc := oc, order := xs, lb := lb, d := 0, tp := none } (fun b => b = ob) rfl hK (fun b _ => rfl)
    hI (S.f.kp hK0 (fun g hg e => by have h5 := S.tf g hg; rw [e, S.te] at h5; omega)) (fun g hg => Or.inl (S.tf g hg))
    (Or.inr ⟨hob, hno ob hob, (fun e => by have := hfl _ e; show False; have : ob < w.heap.size := this; omega), (by show ob ≠ lb; omega), rfl, (ints_osl hO).kp hKW (by omega)⟩) hx hl rfl (by show w.heap.size ≤ lb; omega) (hno lb (by omega)) (fun e => by have h5 : lb < w.heap.size := hfl _ e; omega)
    (fun e he => Or.inl he) S.fn S.fm S.ok S.srt S.hun (fun b hb => by rw [hb]; exact Nat.lt_of_lt_of_le hol hKW.size)
  exact ⟨tg', _, h1, rfl, rfl, h2, hK.mono (fun b _ h => by omega)⟩
end

def rebErr (sch xs : List Int) : Int := if orderB sch.length xs then 0 else 9
set_option maxHeartbeats 1600000 in
set_option maxRecDepth 100000 in
theorem preb_any (eb : Nat) (F : Nat → Prop) (sch : List Int) (flt : List (Int × List Cd)) (n : Int) (ao : Option Addr) (cap : Nat) (xs : List Int) (w : World) (hE : EngAt w eb F sch flt n) (hs : Ixs w ao xs) :
    Calls Tryz.prog 22 #[.pointer (some ⟨eb, 0, none⟩), .slice ao xs.length cap] w fun e w' => e = .returned (.int .i64 (rebErr sch xs)) ∧ Kp F w w' ∧ EngAt w' eb (Grow F w w') sch flt n := by
  have hE0 := hE
  obtain ⟨tg, own, r, S, hF, hA, hn⟩ := hE
  have c0 := S.ix.row.at (j := 0) (v := .slice (some ⟨r.sb, 0, none⟩) sch.length r.sc) rfl
  have HOr : Hid _ := orderMayBe_any (some ⟨r.sb, 0, none⟩) sch.length r.sc ao cap xs w S.s6 hs
  cases hb : orderB sch.length xs with
  | false =>
    have e1 : rebErr sch xs = 9 := by simp [rebErr, hb]
    rw [e1]
    rw [hb] at HOr
    clear S e1 hb
    go_enter Tryz.func22, Tryz.ntmps22
    go_wp2_with fail
    refine Calls.mono HOr.out ?_
    rintro e w1 ⟨rfl, hE1⟩
    go_wp2
    go_ret
    exact ⟨rfl, hE1.kp _, (hE0.kp (hE1.kp (fun _ => False)) (fun _ _ h => h)).mono (fun b hb => Or.inl hb)⟩
  | true =>
    have e1 : rebErr sch xs = 0 := by simp [rebErr, hb]
    rw [e1]
    rw [hb] at HOr
    have hlen := (order_of hb).1
    have h1 := S.s1
    have h6 := S.s6
    obtain ⟨b, o, rfl, hI⟩ := hs (by omega)
    have HC : Hid (∀ w1, Ext w w1 → Calls Tryz.prog 45 #[.slice (some ⟨b, o, none⟩) xs.length cap] w1 fun e w' => ∃ g c, e = .returned (.slice (some ⟨g, 0, none⟩) xs.length c) ∧ w1.heap.size ≤ g ∧ OSl w' 3 1 (some ⟨g, 0, none⟩) xs.length c (xs.map (Value.int .i64)) ∧ Ext w1 w') := fun w1 hE => by
      refine (Tryz.slices_Clone_int b o xs.length cap xs w1 (Nat.le_refl _) (by omega) (fun j hj => by have := hE.cell (hI j hj); simpa [hj] using this)).mono ?_
      rintro e w2 ⟨v, rfl, hown, hne, hB⟩
      obtain ⟨g, c, rfl, hg, hO⟩ := osl_of_own' hown hne
      rw [List.take_of_length_le (Nat.le_refl _)] at hO
      exact ⟨g, c, rfl, hg, hO, hB⟩
    have HU : Hid (∀ {w1 W : World} {ob oc lb : Nat}, Ext w w1 → IxSt W own eb [.slice (some ⟨r.sb, 0, none⟩) sch.length r.sc, .slice r.fa r.es.length r.fcap, .slice (some ⟨ob, 0, none⟩) xs.length oc, .pointer (some ⟨lb, 0, none⟩)] (.int .i64 r.n) r.fl r.xa r.xcap r.Sh (ksK r.ks) → OSl w1 3 1 (some ⟨ob, 0, none⟩) xs.length oc (xs.map (Value.int .i64)) → w.heap.size ≤ ob → Kp (fun b => b = eb) w1 W → Row W lb 125 (lateCells 0 none) → w1.heap.size ≤ lb → Kp F w W ∧ EngAt W eb (Grow F w W) sch flt n) := fun {w1 W ob oc lb} a1 a2 a3 a4 a5 a6 a7 => by
      obtain ⟨tg', r', s1, s2, s3, s4, s5⟩ := S.rebuilt xs hb a1 a2 a3 a4 a5 a6 a7
      refine ⟨s5.mono (fun b _ hb => hF b hb), tg', own, r', s1, fun b hb => ?_, by rw [s2]; exact hA, s3.trans hn⟩
      rcases s4 b hb with h | h
      · exact Or.inl (hF b h)
      · exact Or.inr h
    have HI : Hid (IxSt w own eb [.slice (some ⟨r.sb, 0, none⟩) sch.length r.sc, .slice r.fa r.es.length r.fcap, .slice (some ⟨r.ob, 0, none⟩) r.order.length r.oc, .pointer (some ⟨r.lb, 0, none⟩)] (.int .i64 r.n) r.fl r.xa r.xcap r.Sh (ksK r.ks)) := S.ix
    clear S e1 hb hE0 hA hF hn hI hs hlen
    go_enter Tryz.func22, Tryz.ntmps22
    go_wp2_with fail
    refine Calls.mono HOr.out ?_
    rintro e w1 ⟨rfl, hE1⟩
    go_wp2_with fail
    refine Calls.mono (HC.out w1 hE1) ?_
    rintro e w2 ⟨g, c, rfl, hg, hO, hE2⟩
    have hE12 := hE1.trans hE2
    have HI2 : Hid _ := HI.out.ext hE12
    have r2 := HI2.out.row
    have y2 : w2.cell? ⟨eb, 2, none⟩ = some (.slice (some ⟨r.ob, 0, none⟩) r.order.length r.oc) := r2.at (j := 2) rfl
    have z2 := r2.frozen 2
    have hel : eb < w2.heap.size := r2.lt
    have rS := r2.set 2 (.slice (some ⟨g, 0, none⟩) xs.length c)
    have yA : ∀ ob : Obj, ((w2.setCell ⟨eb, 2, none⟩ (.slice (some ⟨g, 0, none⟩) xs.length c)).alloc ob).cell? ⟨eb, 3, none⟩ = some (.pointer (some ⟨r.lb, 0, none⟩)) := fun ob => (rS.ext ((Ext.refl _).alloc ob)).at (j := 3) rfl
    have zA : ∀ ob : Obj, ((w2.setCell ⟨eb, 2, none⟩ (.slice (some ⟨g, 0, none⟩) xs.length c)).alloc ob).frozen? ⟨eb, 3, none⟩ = false := fun ob => (rS.ext ((Ext.refl _).alloc ob)).frozen 3
    have hle := hE1.le
    clear r2 rS HC HI HOr
    go_wp2
    go_ret
    exact ⟨rfl, HU.out hE12 (((HI2.out.setPre 2 (show 2 < 4 by decide) (.slice (some ⟨g, 0, none⟩) xs.length c)).setPre 3 (show 3 < 4 by decide) (.pointer (some ⟨w2.heap.size, 0, none⟩))).ext ((Ext.refl _).alloc _)) hO (by omega) ((((Kp.refl (fun b => b = eb) w2).setCell (fun _ => rfl) _).setCell (fun _ => rfl) _).trans (((Ext.refl _).alloc _).kp _)) (row_alloc _ _ _ _ _ (by simp) rfl) (Nat.le_refl _)⟩
end Go.Proofs.YtpbblaeamddbgaaGreat
