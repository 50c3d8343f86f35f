import Derived.BigQuiet
import Derived.Test.YtpbblaeamddbgaaGreatGE
import Derived.Test.YtpbblaeamddbgaaGreatGC
import Derived.Test.YtpbblaeamddbgaaGreatGF
import Derived.Test.YtpbblaeamddbgaaGreatGP
import Derived.Test.YtpbblaeamddbgaaGreatGJ
namespace Go.Proofs.YtpbblaeamddbgaaGreat
open Go.RowKit

theorem cmpf_any (eid : Int) (ao : Option Addr) (n cap : Nat) (id : Int) (w : World) :
    Calls Tryz.prog 89 #[.agg #[.int .i64 eid, .slice ao n cap], .int .i64 id] w fun e w' => e = .returned (.int .i64 (Lib.compareInt eid id)) ∧ Ext w w' := by
  go_enter Tryz.func89, Tryz.ntmps89
  go_wp2_with fail
  refine (Tryz.cmp_Compare_int eid id _).mono ?_
  rintro e w1 ⟨rfl, rfl⟩
  go_wp2
  go_ret
  exact ⟨rfl, (Ext.refl w).alloc _⟩

theorem pos_iff {flt : List (Int × List Cd)} {id : Int} {q : Nat} (hS : SortedF flt) (hq : PosOf flt id q) (h : Nat) (hh : h < flt.length) : flt[h].1 < id ↔ h < q := by
  constructor
  · intro hl
    rcases Nat.lt_or_ge h q with e | e
    · exact e
    · have hq' : q < flt.length := by omega
      have h1 := hq.2.2 hq'
      rcases Nat.lt_or_ge q h with e2 | e2
      · have := hS q h hq' hh e2; omega
      · obtain rfl : h = q := by omega
        exact absurd hl h1
  · intro hl; exact hq.2.1 h hh hl

set_option maxHeartbeats 400000 in
theorem bsf_any (fa : Option Addr) (cap : Nat) (es : List Ent) (id : Int) (q : Nat) (r : Bool) (w : World) (hO : OSl w 130 2 fa es.length cap (es.flatMap Ent.cells)) (hf : es.length ≤ 100) (hqn : q ≤ es.length) (hQ : ∀ h (hh : h < es.length), es[h].id < id ↔ h < q) (hr : ∀ hq : q < es.length, (es[q].id == id) = r) (hr' : ¬ q < es.length → r = false) :
    Calls Tryz.prog 88 #[.slice fa es.length cap, .int .i64 id, .func (Fn.func 89) #[] #[]] w fun e w' => e = .returned (.tuple #[.int .i64 q, .bool r]) ∧ Ext w w' := by
  have HQ : Hid (∀ h (hh : h < es.length), es[h].id < id ↔ h < q) := hQ
  have HR : Hid (∀ hq : q < es.length, (es[q].id == id) = r) := hr
  have HR' : Hid (¬ q < es.length → r = false) := hr'
  clear hQ hr hr'
  go_enter Tryz.func88, Tryz.ntmps88
  go_wp2_with fail
  go_loopw [9, 10] (fun i j wr => ∃ a b : Nat, i = .int .i64 a ∧ j = .int .i64 b ∧ a ≤ q ∧ q ≤ b ∧ b ≤ es.length ∧ Ext w wr) (fun i j _ => (intOf j).toNat - (intOf i).toNat)
  case atStart => exact ⟨0, es.length, rfl, rfl, Nat.zero_le _, hqn, Nat.le_refl _, Ext.refl _⟩
  case round =>
    obtain ⟨a, b, rfl, rfl, ha, hb, hbn, hE⟩ := hrel
    by_cases hab : a < b
    · have hh : (a + b) / 2 < es.length := by omega
      have hq2 := HQ.out ((a + b) / 2) hh
      obtain ⟨g, rfl, e0⟩ := hO.at (ent_at es ((a + b) / 2) hh).1
      obtain ⟨_, efb, e1⟩ := hO.at (ent_at es ((a + b) / 2) hh).2
      cases efb
      have d0 := hE.cell e0
      have d1 := hE.cell e1
      clear e0 e1 hO
      generalize hm : (a + b) / 2 = m at *
      go_wp2_with fail
      refine (cmpf_any es[m].id es[m].ao es[m].l.length es[m].cap id wr).mono ?_
      rintro e w2 ⟨rfl, hE2⟩
      by_cases hlt : es[m].id < id
      · have hmq := hq2.1 hlt
        have hc : Lib.compareInt es[m].id id = -1 := by simp [Lib.compareInt, hlt]
        rw [hc]
        have hEE := hE.trans hE2
        clear d0 d1 hc hlt hq2 HR HR' HQ hE hE2
        go_wp2
        go_roundw
        case rel => exact ⟨m + 1, b, by rw [← hm]; simp, rfl, by omega, hb, hbn, hEE⟩
        case measure => simp [intOf]; omega
      · have hmq : q ≤ m := by
          rcases Nat.lt_or_ge m q with h | h
          · exact absurd (hq2.2 h) hlt
          · exact h
        have hEE := hE.trans hE2
        by_cases hgt : es[m].id > id
        · have hc : Lib.compareInt es[m].id id = 1 := by simp [Lib.compareInt, hlt, hgt]
          rw [hc]
          clear d0 d1 hc hlt hq2 HR HR' HQ hE hE2 hgt
          go_wp2
          go_roundw
          case rel => exact ⟨a, m, rfl, by rw [← hm]; simp, by omega, by omega, by omega, hEE⟩
          case measure => simp [intOf]; omega
        · have hc : Lib.compareInt es[m].id id = 0 := by simp [Lib.compareInt, hlt, hgt]
          rw [hc]
          clear d0 d1 hc hlt hq2 HR HR' HQ hE hE2 hgt
          go_wp2
          go_roundw
          case rel => exact ⟨a, m, rfl, by rw [← hm]; simp, by omega, by omega, by omega, hEE⟩
          case measure => simp [intOf]; omega
    · obtain rfl : a = q := by omega
      obtain rfl : b = a := by omega
      by_cases hqn' : b < es.length
      · have hrr := HR.out hqn'
        obtain ⟨g, rfl, e0⟩ := hO.at (ent_at es b hqn').1
        obtain ⟨_, efb, e1⟩ := hO.at (ent_at es b hqn').2
        cases efb
        have d0 := hE.cell e0
        have d1 := hE.cell e1
        clear e0 e1 hO HQ HR HR'
        go_wp2_with fail
        refine (cmpf_any es[b].id es[b].ao es[b].l.length es[b].cap id wr).mono ?_
        rintro e w2 ⟨rfl, hE2⟩
        have hc : (Lib.compareInt es[b].id id == 0) = r := by
          rw [← hrr]
          unfold Lib.compareInt
          split
          · rename_i h; simp; omega
          · split
            · rename_i h1 h2; simp; omega
            · rename_i h1 h2; simp; omega
        have hEE := hE.trans hE2
        generalize Lib.compareInt es[b].id id = ci at *
        clear d0 d1 hE hE2 hrr
        go_wp2
        go_ret2
        exact ⟨by simp, hEE⟩
      · have hrr := HR'.out hqn'
        subst hrr
        clear HQ HR HR' hO
        go_wp2
        go_ret2
        exact ⟨rfl, hE⟩
theorem find_any (eb : Nat) (fa : Option Addr) (cap : Nat) (es : List Ent) (flt : List (Int × List Cd)) (id : Int) (w : World) (hf : flt.length ≤ 100) (hS : SortedF flt) (he : es.map (·.id) = flt.map (·.1)) (h1 : w.cell? ⟨eb, 1, none⟩ = some (.slice fa es.length cap)) (hO : OSl w 130 2 fa es.length cap (es.flatMap Ent.cells)) (q : Nat) (hq : PosOf flt id q) :
    Calls Tryz.prog 47 #[.pointer (some ⟨eb, 0, none⟩), .int .i64 id] w fun e w' => e = .returned (.tuple #[.int .i64 q, .bool (thereB flt id q)]) ∧ Ext w w' := by
  have hl : es.length = flt.length := by simpa using congrArg List.length he
  have hky : ∀ h (hh : h < es.length) (hh' : h < flt.length), flt[h].1 = es[h].id := fun h hh hh' => by
    have h1 : (es.map (·.id))[h]? = (flt.map (·.1))[h]? := by rw [he]
    simp [hh, hh'] at h1
    exact h1.symm
  have H : Hid _ := bsf_any fa cap es id q (thereB flt id q) w hO (by omega) (by have := hq.1; omega) (fun h hh => by have := pos_iff hS hq h (by omega); rw [hky h hh (by omega)] at this; exact this) (fun hqe => by
      have hqf : q < flt.length := by omega
      have hk := hky q hqe hqf
      unfold thereB
      rw [List.getElem?_eq_getElem hqf]
      show _ = (flt[q].1 == id)
      rw [hk]) (fun hqe => by
      unfold thereB
      rw [List.getElem?_eq_none (by omega)])
  generalize thereB flt id q = r at *
  clear hO hl hky he
  go_enter Tryz.func47, Tryz.ntmps47
  go_wp2_with fail
  refine Calls.mono H.out ?_
  rintro e w2 ⟨rfl, hE2⟩
  go_wp2
  go_ret2
  exact ⟨rfl, hE2⟩
end Go.Proofs.YtpbblaeamddbgaaGreat
namespace Go.Proofs.YtpbblaeamddbgaaGreat
open Go.RowKit

/-- Has an order each of n attributes once? -/
def orderB (n : Nat) (l : List Int) : Bool := (l.length == n) && (l.all (fun x => inR x n) && decide l.Nodup)
def seenC (t : List Int) : List Value := (List.range 6).map (fun i : Nat => Value.bool (decide ((i : Int) ∈ t)))
theorem seenC_at (t : List Int) (i : Nat) (hi : i < 6) : (seenC t)[i]? = some (.bool (decide ((i : Int) ∈ t))) := by simp [seenC, hi]
theorem seenC_set (t : List Int) (i : Nat) (hi : i < 6) : (seenC t).set i (.bool true) = seenC (t ++ [(i : Int)]) := by
  apply List.ext_getElem?
  intro k
  rw [List.getElem?_set]
  rcases Nat.lt_or_ge k 6 with h | h
  · rw [seenC_at _ k h, seenC_at _ k h]
    by_cases hk : i = k
    · subst hk; simp [seenC, hi]
    · rw [if_neg hk]
      have : ((k : Int) ∈ t ++ [(i : Int)]) ↔ (k : Int) ∈ t := by
        rw [List.mem_append, List.mem_singleton]
        constructor
        · rintro (h | h)
          · exact h
          · omega
        · exact Or.inl
      simp [this]
  · have : i ≠ k := by omega
    simp [seenC, this, h]
set_option maxHeartbeats 1600000 in
set_option maxRecDepth 100000 in
theorem orderMayBe_any (sa : Option Addr) (n scap : Nat) (ao : Option Addr) (cap : Nat) (l : List Int) (w : World) (hn : n ≤ 6) (hs : Ixs w ao l) :
    Calls Tryz.prog 46 #[.slice sa n scap, .slice ao l.length cap] w fun e w' => e = .returned (.bool (orderB n l)) ∧ Ext w w' := by
  by_cases hln : l.length = n
  · have hl : l.length ≤ 1000000000 := by omega
    have hne2 : ((l.length : Int) != (n : Int)) = false := by simp [hln]
    have hne : (!((l.length : Int) == (n : Int))) = false := by simp [hln]
    have HB0 : Hid (∀ x j (hj : j < l.length), l[j] = x → inR x n = false → orderB n l = false) := fun x j hj hx hf => by
      unfold orderB
      have : l.all (fun x => inR x n) = false := by
        rw [List.all_eq_false]
        exact ⟨l[j], List.getElem_mem hj, by rw [hx, hf]; simp⟩
      simp [this]
    have HB1 : Hid (∀ x j (hj : j < l.length), l[j] = x → x ∈ l.take j → orderB n l = false) := fun x j hj hx hm => by
      unfold orderB
      have : ¬ l.Nodup := fun h => by
        obtain ⟨i, hi, e⟩ := List.getElem_of_mem hm
        rw [List.getElem_take] at e
        simp only [List.length_take] at hi
        exact (List.pairwise_iff_getElem.1 h) i j (by omega) hj (by omega) (by rw [e, hx])
      simp [this]
    have HB2 : Hid ((∀ x ∈ l, inR x n = true) → l.Nodup → orderB n l = true) := fun h1 h2 => by
      unfold orderB
      simp [hln, h2]
      exact h1
    generalize orderB n l = ob at *
    clear hln
    obtain ⟨wa, hwa⟩ : ∃ wa, wa = w.alloc (.cells #[.bool false, .bool false, .bool false, .bool false, .bool false, .bool false] 163) := ⟨_, rfl⟩
    have hEa : Ext w wa := by rw [hwa]; exact (Ext.refl _).alloc _
    have hRa : Row wa w.heap.size 163 (seenC []) := by rw [hwa]; exact row_alloc _ _ _ _ _ rfl rfl
    go_enter Tryz.func46, Tryz.ntmps46
    go_wp2_with fail
    rw [← hwa]
    clear hwa
    go_loopw [15] (fun vi wr => ∃ j : Nat, j ≤ l.length ∧ vi = .int .i64 j ∧ Row wr w.heap.size 163 (seenC (l.take j)) ∧ Ext w wr ∧ (∀ x ∈ l.take j, inR x n = true) ∧ (l.take j).Nodup) (fun vi _ => l.length - (intOf vi).toNat)
    case atStart => exact ⟨0, Nat.zero_le _, rfl, by simpa using hRa, hEa, by simp, by simp⟩
    case round =>
      obtain ⟨j, hj, rfl, hR, hE, hI, hN⟩ := hrel
      by_cases hlt : j < l.length
      · obtain ⟨b, o, rfl, hIs⟩ := hs (by omega)
        have d0 := hE.cell (hIs j hlt)
        rw [List.getD_eq_getElem?_getD, List.getElem?_eq_getElem hlt, Option.getD_some] at d0
        have hji : (j : Int) < (l.length : Int) := by omega
        have HT : Hid (l.take (j + 1) = l.take j ++ [l[j]]) := List.take_succ_eq_append_getElem hlt
        by_cases hin : inR l[j] n = true
        · obtain ⟨i, hi⟩ : ∃ i : Nat, l[j] = (i : Int) := ⟨l[j].toNat, by unfold inR at hin; simp at hin; omega⟩
          have hi6 : i < 6 := by rw [hi] at hin; unfold inR at hin; simp at hin; omega
          have HA : Hid (∀ W, Calls Tryz.prog 87 #[.slice sa n scap, .int .i64 (i : Int)] W fun e w' => e = .returned (.bool true) ∧ w' = W) := fun W => by
            have := hasAttr_any sa n scap (i : Int) W (by omega)
            rw [← hi, hin, hi] at this
            exact this
          have r0 := hR.at (seenC_at (l.take j) i hi6)
          have rf := hR.frozen i
          have hii : (i : Int) < 6 := by omega
          rw [hi] at d0
          by_cases hm : (i : Int) ∈ l.take j
          · have h2 := HB1.out (i : Int) j hlt hi hm
            subst h2
            rw [decide_eq_true hm] at r0
            clear HB0 HB1 HB2 HT hI hN hi hin hm hR
            go_wp2_with (go_at_call 87; refine Calls.mono (HA.out _) ?_; rintro e w2 ⟨rfl, rfl⟩)
            go_ret
            exact ⟨rfl, hE⟩
          · rw [decide_eq_false hm] at r0
            have HX : Hid ((∀ x ∈ l.take (j + 1), inR x n = true) ∧ (l.take (j + 1)).Nodup ∧ seenC (l.take (j + 1)) = (seenC (l.take j)).set i (.bool true)) := by
              show _ ∧ _
              rw [HT.out, hi]
              refine ⟨fun x hx => ?_, ?_, (seenC_set _ i hi6).symm⟩
              · rcases List.mem_append.1 hx with h | h
                · exact hI x h
                · rw [List.mem_singleton.1 h, ← hi]; exact hin
              · rw [List.nodup_append]
                exact ⟨hN, by simp, fun a ha b hb e => by rw [List.mem_singleton.1 hb] at e; exact hm (e ▸ ha)⟩
            have HR : Hid (Row wr w.heap.size 163 (seenC (l.take j))) := hR
            clear HB0 HB1 HB2 HT hI hN hi hin hm hR
            go_wp2_with (go_at_call 87; refine Calls.mono (HA.out _) ?_; rintro e w2 ⟨rfl, rfl⟩)
            go_roundw
            case rel =>
              refine ⟨j + 1, by omega, by go_num, ?_, hE.setCell (Nat.le_refl _) _, HX.out.1, HX.out.2.1⟩
              rw [HX.out.2.2]
              exact HR.out.set i _
            case measure => simp [intOf]; omega
        · have hin' : inR l[j] n = false := by simpa using hin
          have h2 := HB0.out l[j] j hlt rfl hin'
          subst h2
          have HA : Hid (∀ W, Calls Tryz.prog 87 #[.slice sa n scap, .int .i64 l[j]] W fun e w' => e = .returned (.bool false) ∧ w' = W) := fun W => by
            have := hasAttr_any sa n scap l[j] W (by omega)
            rw [hin'] at this
            exact this
          clear HB0 HB1 HB2 HT hI hN hin hin' hR
          generalize l[j] = x at *
          go_wp2_with (go_at_call 87; refine Calls.mono (HA.out _) ?_; rintro e w2 ⟨rfl, rfl⟩)
          go_ret
          exact ⟨rfl, hE⟩
      · have hje : j = l.length := by omega
        rw [hje, List.take_length] at hI hN
        have h2 := HB2.out hI hN
        subst h2
        clear HB0 HB1 HB2
        go_wp2
        go_ret
        exact ⟨rfl, hE⟩
  · have hne : ((l.length : Int) == (n : Int)) = false := by simp; omega
    have hf : orderB n l = false := by unfold orderB; simp [hln]
    rw [hf]
    go_enter Tryz.func46, Tryz.ntmps46
    go_wp2
    go_ret
    exact ⟨rfl, Ext.refl _⟩
end Go.Proofs.YtpbblaeamddbgaaGreat
namespace Go.Proofs.YtpbblaeamddbgaaGreat
open Go.RowKit

/-- Two lists, element by element. -/
def All2 {α β : Type} (R : α → β → Prop) : List α → List β → Prop
  | [], [] => True
  | a :: l, b :: m => R a b ∧ All2 R l m
  | _, _ => False
section
variable {α β : Type} {R : α → β → Prop}
theorem All2.nil : All2 R [] [] := trivial
theorem All2.cons {a : α} {b : β} {l1 : List α} {l2 : List β} (h : R a b) (t : All2 R l1 l2) : All2 R (a :: l1) (b :: l2) := ⟨h, t⟩
theorem All2.ind {K : List α → List β → Prop} (h0 : K [] []) (h1 : ∀ a b l m, R a b → All2 R l m → K l m → K (a :: l) (b :: m)) : ∀ l m, All2 R l m → K l m
  | [], [], _ => h0
  | a :: l, b :: m, ⟨h, t⟩ => h1 a b l m h t (All2.ind h0 h1 l m t)
  | [], _ :: _, h => h.elim
  | _ :: _, [], h => h.elim
theorem All2.len {l1 : List α} {l2 : List β} (h : All2 R l1 l2) : l1.length = l2.length :=
  All2.ind (R := R) (K := fun (l1 : List α) (l2 : List β) => l1.length = l2.length) rfl (fun _ _ _ _ _ _ ih => by simp [ih]) l1 l2 h
theorem All2.take {l1 : List α} {l2 : List β} (h : All2 R l1 l2) : ∀ q, All2 R (l1.take q) (l2.take q) :=
  All2.ind (R := R) (K := fun (l1 : List α) (l2 : List β) => ∀ q, All2 R (l1.take q) (l2.take q)) (fun q => by simp; exact All2.nil) (fun _ _ _ _ h1 _ ih q => by
    cases q with
    | zero => exact All2.nil
    | succ q => exact All2.cons h1 (ih q)) l1 l2 h
theorem All2.drop {l1 : List α} {l2 : List β} (h : All2 R l1 l2) : ∀ q, All2 R (l1.drop q) (l2.drop q) :=
  All2.ind (R := R) (K := fun (l1 : List α) (l2 : List β) => ∀ q, All2 R (l1.drop q) (l2.drop q)) (fun q => by simp; exact All2.nil) (fun _ _ _ _ h1 h2 ih q => by
    cases q with
    | zero => exact All2.cons h1 h2
    | succ q => exact ih q) l1 l2 h
theorem All2.app {l1 l1' : List α} {l2 l2' : List β} (h : All2 R l1 l2) (h' : All2 R l1' l2') : All2 R (l1 ++ l1') (l2 ++ l2') :=
  All2.ind (R := R) (K := fun (l1 : List α) (l2 : List β) => All2 R (l1 ++ l1') (l2 ++ l2')) h' (fun _ _ _ _ h1 _ ih => All2.cons h1 ih) l1 l2 h
end
/-- How the program keeps a filter: its number, and the conditions that were given, in an order of its own and each once. -/
def KeptR (e : Ent) (k : Int × List Cd) : Prop := e.id = k.1 ∧ ∀ c, c ∈ e.l ↔ c ∈ k.2
theorem All2.ids {es : List Ent} {flt : List (Int × List Cd)} (h : All2 KeptR es flt) : es.map (·.id) = flt.map (·.1) :=
  All2.ind (R := KeptR) (K := fun (es : List Ent) (flt : List (Int × List Cd)) => es.map (·.id) = flt.map (·.1)) rfl (fun _ _ _ _ h1 _ ih => by simp only [List.map_cons, ih, h1.1]) es flt h
theorem meets_kept {l l' : List Cd} (h : ∀ c, c ∈ l ↔ c ∈ l') (f : Int → Option Vl) : meetsB l f = meetsB l' f := by
  unfold meetsB
  rw [Bool.eq_iff_iff, List.all_eq_true, List.all_eq_true]
  exact ⟨fun h1 c hc => h1 c ((h c).2 hc), fun h1 c hc => h1 c ((h c).1 hc)⟩
theorem All2.met {es : List Ent} {flt : List (Int × List Cd)} (h : All2 KeptR es flt) (f : Int → Option Vl) : metIds (es.map Ent.key) f = metIds flt f := by
  refine All2.ind (R := KeptR) (K := fun (es : List Ent) (flt : List (Int × List Cd)) => metIds (es.map Ent.key) f = metIds flt f) rfl ?_ es flt h
  · intro e k _ _ h1 _ ih
    have hm : meetsB e.key.2 f = meetsB k.2 f := meets_kept h1.2 f
    unfold metIds at ih ⊢
    simp only [List.map_cons, List.filter_cons, hm]
    split
    · simp only [List.map_cons, ih]
      rw [show e.key.1 = k.1 from h1.1]
    · exact ih
theorem ids_sorted {es : List Ent} {flt : List (Int × List Cd)} (h : es.map (·.id) = flt.map (·.1)) (hS : SortedF flt) : SortedF (es.map Ent.key) := by
  have hl : es.length = flt.length := by simpa using congrArg List.length h
  have hky : ∀ i (hi : i < es.length) (hi' : i < flt.length), es[i].id = flt[i].1 := fun i hi hi' => by
    have h1 : (es.map (·.id))[i]? = (flt.map (·.1))[i]? := by rw [h]
    simpa [hi, hi'] using h1
  intro i j hi hj hij
  simp only [List.length_map] at hi hj
  simp only [List.getElem_map, Ent.key]
  rw [hky i hi (by omega), hky j hj (by omega)]
  exact hS i j (by omega) (by omega) hij

theorem IdxG.congr {K K' : List (Int × Int × List Cd)} {Sh : Nat → ShR} (h : IdxG K Sh) (hm : ∀ x, x ∈ K ↔ x ∈ K') : IdxG K' Sh :=
  ⟨h.rise, h.spot, h.ndup, h.one, fun i hi e he o => (h.om i hi e he o).trans ⟨fun ⟨l, h1, h2⟩ => ⟨l, (hm _).1 h1, h2⟩, fun ⟨l, h1, h2⟩ => ⟨l, (hm _).2 h1, h2⟩⟩, fun k hk => h.al k ((hm k).2 hk)⟩
theorem IxSt.congr {w : World} {own : Nat → ITag} {eb : Nat} {pre : List Value} {ev : Value} {fl : List Int} {fa : Option Addr} {fcap : Nat} {Sh : Nat → ShR} {K K' : List (Int × Int × List Cd)} (h : IxSt w own eb pre ev fl fa fcap Sh K) (hm : ∀ x, x ∈ K ↔ x ∈ K') : IxSt w own eb pre ev fl fa fcap Sh K' :=
  ⟨h.at_, h.g.congr hm, h.row, h.eb⟩
theorem eng_setP (pre : List Value) (fa : Option Addr) (n fcap : Nat) (Sh : Nat → ShR) (ev : Value) (j : Nat) (hj : j < pre.length) (v : Value) : (engCells pre fa n fcap Sh ev).set j v = engCells (pre.set j v) fa n fcap Sh ev := by
  unfold engCells
  rw [List.set_append, if_pos hj]
theorem eng_setE (pre : List Value) (hp : pre.length = 4) (fa : Option Addr) (n fcap : Nat) (Sh : Nat → ShR) (ev v : Value) : (engCells pre fa n fcap Sh ev).set 65 v = engCells pre fa n fcap Sh v := by
  unfold engCells
  rw [List.set_append, if_neg (by omega), hp, List.set_cons_succ, List.set_append, if_neg (by simp)]
  simp
theorem eng_ev (pre : List Value) (hp : pre.length = 4) (fa : Option Addr) (n fcap : Nat) (Sh : Nat → ShR) (ev : Value) : (engCells pre fa n fcap Sh ev)[65]? = some ev := by
  unfold engCells
  rw [List.getElem?_append_right (by omega), hp, List.getElem?_cons_succ, List.getElem?_append_right (by simp)]
  simp
theorem eng_pre (pre : List Value) (fa : Option Addr) (n fcap : Nat) (Sh : Nat → ShR) (ev : Value) (j : Nat) (hj : j < pre.length) : (engCells pre fa n fcap Sh ev)[j]? = pre[j]? := by
  unfold engCells
  rw [List.getElem?_append_left hj]
section
variable {w w' : World} {own : Nat → ITag} {eb : Nat} {pre : List Value} {ev : Value} {fl : List Int} {fa : Option Addr} {fcap : Nat} {Sh : Nat → ShR} {K : List (Int × Int × List Cd)}
theorem IxSt.setPre (h : IxSt w own eb pre ev fl fa fcap Sh K) (j : Nat) (hj : j < pre.length) (v : Value) : IxSt (w.setCell ⟨eb, j, none⟩ v) own eb (pre.set j v) ev fl fa fcap Sh K := by
  have hk : Kp (fun b => b = eb) w (w.setCell ⟨eb, j, none⟩ v) := (Kp.refl (fun b => b = eb) w).setCell (fun _ => rfl) _
  refine ⟨h.at_.kp hk (fun b hb e => hb (by rw [e]; exact h.eb)), h.g, ?_, h.eb⟩
  rw [← eng_setP pre fa fl.length fcap Sh ev j hj v]
  exact h.row.set j v
theorem IxSt.setEv (h : IxSt w own eb pre ev fl fa fcap Sh K) (hp : pre.length = 4) (v : Value) : IxSt (w.setCell ⟨eb, 65, none⟩ v) own eb pre v fl fa fcap Sh K := by
  have hk : Kp (fun b => b = eb) w (w.setCell ⟨eb, 65, none⟩ v) := (Kp.refl (fun b => b = eb) w).setCell (fun _ => rfl) _
  refine ⟨h.at_.kp hk (fun b hb e => hb (by rw [e]; exact h.eb)), h.g, ?_, h.eb⟩
  rw [← eng_setE pre hp fa fl.length fcap Sh ev v]
  exact h.row.set 65 v
end

/-- The tree that was built. -/
def TreeIn (w : World) (tg : Nat → Nat) (order : List Int) (ks : List (Int × List Cd)) (tp : Option Addr) : Prop :=
  ∃ (tb : Nat) (N : List (Nd Cd)) (R : List NdR) (oa : Option Addr) (oc : Nat), tp = some ⟨tb, 0, none⟩ ∧ TreeAt w tb (fun b => tg b = 4) order N R oa oc ∧ TreeOK Cd.attr ceE order ks N (1 + ks.length * order.length)
/-- What an engine holds. -/
structure EngR where
  sb : Nat
  sc : Nat
  fa : Option Addr
  fcap : Nat
  es : List Ent
  ob : Nat
  oc : Nat
  order : List Int
  lb : Nat
  d : Int
  tp : Option Addr
  fl : List Int
  xa : Option Addr
  xcap : Nat
  Sh : Nat → ShR
  n : Int
def EngR.pre (r : EngR) (k : Nat) : List Value := [.slice (some ⟨r.sb, 0, none⟩) k r.sc, .slice r.fa r.es.length r.fcap, .slice (some ⟨r.ob, 0, none⟩) r.order.length r.oc, .pointer (some ⟨r.lb, 0, none⟩)]
def EngR.ks (r : EngR) : List (Int × List Cd) := r.es.map Ent.key
def lateCells (d : Int) (tp : Option Addr) : List Value := [.int .u32 d, .int .i32 0, .int .u32 0, .pointer tp]
/-- The program's engine, l1 it lies in memory. Tags: 1 the engine's block, 2 the filters', 3 the late tree's, 4 what is never written into, 5 the index's, 0 what is not the engine's. -/
structure EngS (w : World) (eb : Nat) (tg : Nat → Nat) (own : Nat → ITag) (sch : List Int) (r : EngR) : Prop where
  lt : ∀ b, tg b ≠ 0 → b < w.heap.size
  te : tg eb = 1
  ix : IxSt w own eb (r.pre sch.length) (.int .i64 r.n) r.fl r.xa r.xcap r.Sh (ksK r.ks)
  tx : ∀ b, own b ≠ .no → tg b = 5
  s : Ints w r.sb 0 sch
  ts : tg r.sb = 4
  f : OSl w 130 2 r.fa r.es.length r.fcap (r.es.flatMap Ent.cells)
  tf : ∀ g, blkOf r.fa = some g → tg g = 2
  o : Ints w r.ob 0 r.order
  to : tg r.ob = 4
  ord : orderB sch.length r.order = true
  l : Row w r.lb 125 (lateCells r.d r.tp)
  tl : tg r.lb = 3
  tr : r.d = 0 ∨ (r.d = 1 ∧ TreeIn w tg r.order r.ks r.tp)
  en : ∀ e ∈ r.es, ∃ b, e.ao = some ⟨b, 0, none⟩ ∧ Cds w b 0 e.l ∧ tg b = 4
  fn : r.fl.Nodup
  fm : ∀ x, x ∈ r.fl ↔ (x, []) ∈ r.ks
  ok : ∀ e ∈ r.es, wfI e.id ∧ Rise cmpCd e.l ∧ e.l.length ≤ 8 ∧ ∀ c ∈ e.l, mayB sch c = true
  srt : SortedF r.ks
  hun : r.es.length ≤ 100
  s1 : 1 ≤ sch.length
  s6 : sch.length ≤ 6
theorem TreeIn.kp {w w' : World} {tg : Nat → Nat} {order : List Int} {ks : List (Int × List Cd)} {tp : Option Addr} {M : Nat → Prop} (h : TreeIn w tg order ks tp) (k : Kp M w w') (hm : ∀ b, tg b = 4 → ¬ M b) : TreeIn w' tg order ks tp := by
  obtain ⟨tb, N, R, oa, oc, h1, h2, h3⟩ := h
  exact ⟨tb, N, R, oa, oc, h1, h2.kp k hm, h3⟩
theorem TreeIn.tag {w : World} {tg tg' : Nat → Nat} {order : List Int} {ks : List (Int × List Cd)} {tp : Option Addr} (h : TreeIn w tg order ks tp) (hm : ∀ b, b < w.heap.size → tg b = 4 → tg' b = 4) : TreeIn w tg' order ks tp := by
  obtain ⟨tb, N, R, oa, oc, h1, h2, h3⟩ := h
  exact ⟨tb, N, R, oa, oc, h1, h2.mono (fun b h1 h2 => hm b h2 h1), h3⟩
theorem EngS.kp {w w' : World} {eb : Nat} {tg : Nat → Nat} {own : Nat → ITag} {sch : List Int} {r : EngR} {M : Nat → Prop} (h : EngS w eb tg own sch r) (k : Kp M w w') (hm : ∀ b, tg b ≠ 0 → ¬ M b) : EngS w' eb tg own sch r where
  lt := fun b hb => Nat.lt_of_lt_of_le (h.lt b hb) k.size
  te := h.te
  ix := h.ix.kp k (fun b hb => hm b (by rw [h.tx b hb]; decide)) (hm _ (by rw [h.te]; decide))
  tx := h.tx
  s := h.s.kp k (hm _ (by rw [h.ts]; decide))
  ts := h.ts
  f := h.f.kp k (fun g hg => hm g (by rw [h.tf g hg]; decide))
  tf := h.tf
  o := h.o.kp k (hm _ (by rw [h.to]; decide))
  to := h.to
  ord := h.ord
  l := k.row h.l (hm _ (by rw [h.tl]; decide))
  tl := h.tl
  tr := h.tr.imp id (fun h1 => ⟨h1.1, h1.2.kp k (fun b hb => hm b (by rw [hb]; decide))⟩)
  en := fun e he => by
    obtain ⟨b, h1, h2, h3⟩ := h.en e he
    exact ⟨b, h1, h2.kp k (hm b (by rw [h3]; decide)), h3⟩
  fn := h.fn
  fm := h.fm
  ok := h.ok
  srt := h.srt
  hun := h.hun
  s1 := h.s1
  s6 := h.s6
theorem EngS.ext {w w' : World} {eb : Nat} {tg : Nat → Nat} {own : Nat → ITag} {sch : List Int} {r : EngR} (h : EngS w eb tg own sch r) (k : Ext w w') : EngS w' eb tg own sch r := h.kp (k.kp (fun _ => False)) (fun _ _ h => h)
theorem EngS.cxs {w : World} {eb : Nat} {tg : Nat → Nat} {own : Nat → ITag} {sch : List Int} {r : EngR} (h : EngS w eb tg own sch r) {e : Ent} (he : e ∈ r.es) : Cxs w e.ao e.l := fun _ => by
  obtain ⟨b, h1, h2, _⟩ := h.en e he
  exact ⟨b, 0, h1, h2⟩
theorem may_of {sch : List Int} {c : Cd} (h : mayB sch c = true) : 0 ≤ c.attr ∧ c.attr < sch.length ∧ 1 ≤ c.kind ∧ c.kind ≤ 9 := by
  simp only [mayB, Bool.and_eq_true, decide_eq_true_eq] at h
  omega
/-- The program's engine: its blocks, its schema, its filters l1 they were given, how many events it matched. -/
def EngAt (w : World) (eb : Nat) (F : Nat → Prop) (sch : List Int) (flt : List (Int × List Cd)) (n : Int) : Prop :=
  ∃ tg own r, EngS w eb tg own sch r ∧ (∀ b, tg b ≠ 0 → F b) ∧ All2 KeptR r.es flt ∧ r.n = n
theorem EngAt.kp {w w' : World} {eb : Nat} {F M : Nat → Prop} {sch : List Int} {flt : List (Int × List Cd)} {n : Int} (h : EngAt w eb F sch flt n) (k : Kp M w w') (hm : ∀ b, F b → ¬ M b) : EngAt w' eb F sch flt n := by
  obtain ⟨tg, own, r, h1, h2, h3, h4⟩ := h
  exact ⟨tg, own, r, h1.kp k (fun b hb => hm b (h2 b hb)), h2, h3, h4⟩
theorem EngAt.mono {w : World} {eb : Nat} {F G : Nat → Prop} {sch : List Int} {flt : List (Int × List Cd)} {n : Int} (h : EngAt w eb F sch flt n) (hm : ∀ b, F b → G b) : EngAt w eb G sch flt n := by
  obtain ⟨tg, own, r, h1, h2, h3, h4⟩ := h
  exact ⟨tg, own, r, h1, fun b hb => hm b (h2 b hb), h3, h4⟩
end Go.Proofs.YtpbblaeamddbgaaGreat
namespace Go.Proofs.YtpbblaeamddbgaaGreat
open Go.RowKit

/-- Whose a block is, behind a step. -/
theorem tgN_ex (n : Nat) (tg : Nat → Nat) (own' : Nat → ITag) (fa' : Option Addr) (lb' : Nat) (P4 : Nat → Prop) : ∃ t : Nat → Nat, (∀ b, b < n → t b = tg b) ∧ (∀ b, n ≤ b → own' b ≠ .no → t b = 5) ∧ (∀ b, n ≤ b → own' b = .no → blkOf fa' = some b → t b = 2) ∧ (n ≤ lb' → own' lb' = .no → blkOf fa' ≠ some lb' → t lb' = 3) ∧ (∀ b, n ≤ b → own' b = .no → blkOf fa' ≠ some b → b ≠ lb' → P4 b → t b = 4) ∧ (∀ b, t b ≠ 0 → (b < n ∧ tg b ≠ 0) ∨ (n ≤ b ∧ (own' b ≠ .no ∨ blkOf fa' = some b ∨ b = lb' ∨ P4 b))) := by
  refine ⟨fun b => if b < n then tg b else @ite _ (own' b ≠ .no) (Classical.propDecidable _) 5 (@ite _ (blkOf fa' = some b) (Classical.propDecidable _) 2 (if b = lb' then 3 else @ite _ (P4 b) (Classical.propDecidable _) 4 0)), fun b h => if_pos h, fun b h ho => ?_, fun b h ho hf => ?_, fun h ho hf => ?_, fun b h ho hf hl hp => ?_, fun b h => ?_⟩
  · show (if b < n then _ else _) = 5
    rw [if_neg (by omega), if_pos ho]
  · show (if b < n then _ else _) = 2
    rw [if_neg (by omega), if_neg (fun h => h ho), if_pos hf]
  · show (if lb' < n then _ else _) = 3
    rw [if_neg (by omega), if_neg (fun h => h ho), if_neg hf, if_pos rfl]
  · show (if b < n then _ else _) = 4
    rw [if_neg (by omega), if_neg (fun h => h ho), if_neg hf, if_neg hl, if_pos hp]
  · rcases Nat.lt_or_ge b n with h1 | h1
    · have e : (if b < n then tg b else @ite _ (own' b ≠ .no) (Classical.propDecidable _) 5 (@ite _ (blkOf fa' = some b) (Classical.propDecidable _) 2 (if b = lb' then 3 else @ite _ (P4 b) (Classical.propDecidable _) 4 0))) = tg b := if_pos h1
      exact Or.inl ⟨h1, fun h0 => h (e.trans h0)⟩
    · refine Or.inr ⟨h1, ?_⟩
      apply Classical.byContradiction
      intro hn
      simp only [not_or] at hn
      apply h
      show (if b < n then _ else _) = 0
      rw [if_neg (by omega), if_neg hn.1, if_neg hn.2.1, if_neg hn.2.2.1, if_neg hn.2.2.2]

theorem EngS.carry {w W : World} {eb : Nat} {tg tg' : Nat → Nat} {own : Nat → ITag} {sch : List Int} {r : EngR} (S : EngS w eb tg own sch r) (hK : Kp (fun b => tg b = 1 ∨ tg b = 2 ∨ tg b = 3 ∨ tg b = 5) w W) (ht : ∀ b, b < w.heap.size → tg' b = tg b) :
    tg' eb = 1 ∧ (Ints W r.sb 0 sch ∧ tg' r.sb = 4) ∧ (Ints W r.ob 0 r.order ∧ tg' r.ob = 4) ∧ (∀ e ∈ r.es, ∃ b, e.ao = some ⟨b, 0, none⟩ ∧ Cds W b 0 e.l ∧ tg' b = 4) ∧ (TreeIn w tg r.order r.ks r.tp → TreeIn W tg' r.order r.ks r.tp) := by
  have h4 : ∀ b, tg b = 4 → tg' b = 4 := fun b hb => by rw [ht b (S.lt b (by omega))]; exact hb
  have hn : ∀ b, tg b = 4 → ¬ (tg b = 1 ∨ tg b = 2 ∨ tg b = 3 ∨ tg b = 5) := fun b hb => by omega
  refine ⟨by rw [ht eb (S.lt eb (by rw [S.te]; decide))]; exact S.te, ⟨S.s.kp hK (hn _ S.ts), h4 _ S.ts⟩, ⟨S.o.kp hK (hn _ S.to), h4 _ S.to⟩, fun e he => ?_, fun h => ?_⟩
  · obtain ⟨b, h1, h2, h3⟩ := S.en e he
    exact ⟨b, h1, h2.kp hK (hn b h3), h4 b h3⟩
  · exact (h.kp hK hn).tag (fun b _ hb => h4 b hb)

/-- A step that lays the tree aside. -/
theorem EngS.made {w W : World} {eb : Nat} {tg : Nat → Nat} {own own' : Nat → ITag} {sch : List Int} {r : EngR} (S : EngS w eb tg own sch r) (r' : EngR) (P4 : Nat → Prop)
    (hsb : r'.sb = r.sb) (hK : Kp (fun b => tg b = 1 ∨ tg b = 2 ∨ tg b = 3 ∨ tg b = 5) w W) (ho : ∀ b, b < w.heap.size → own' b = own b)
    (hI : IxSt W own' eb (r'.pre sch.length) (.int .i64 r'.n) r'.fl r'.xa r'.xcap r'.Sh (ksK r'.ks))
    (hf : OSl W 130 2 r'.fa r'.es.length r'.fcap (r'.es.flatMap Ent.cells)) (hfa : ∀ g, blkOf r'.fa = some g → tg g = 2 ∨ (w.heap.size ≤ g ∧ own' g = .no))
    (hob : (r'.ob = r.ob ∧ r'.order = r.order) ∨ (w.heap.size ≤ r'.ob ∧ own' r'.ob = .no ∧ blkOf r'.fa ≠ some r'.ob ∧ r'.ob ≠ r'.lb ∧ P4 r'.ob ∧ Ints W r'.ob 0 r'.order)) (hord : orderB sch.length r'.order = true)
    (hl : Row W r'.lb 125 (lateCells r'.d r'.tp)) (hd : r'.d = 0) (hlb : w.heap.size ≤ r'.lb) (hlo : own' r'.lb = .no) (hlf : blkOf r'.fa ≠ some r'.lb)
    (hen : ∀ e ∈ r'.es, e ∈ r.es ∨ (∃ b, e.ao = some ⟨b, 0, none⟩ ∧ Cds W b 0 e.l ∧ w.heap.size ≤ b ∧ own' b = .no ∧ blkOf r'.fa ≠ some b ∧ b ≠ r'.lb ∧ P4 b))
    (hfn : r'.fl.Nodup) (hfm : ∀ x, x ∈ r'.fl ↔ (x, []) ∈ r'.ks) (hok : ∀ e ∈ r'.es, wfI e.id ∧ Rise cmpCd e.l ∧ e.l.length ≤ 8 ∧ ∀ c ∈ e.l, mayB sch c = true) (hsrt : SortedF r'.ks) (hun : r'.es.length ≤ 100)
    (hP : ∀ b, P4 b → b < W.heap.size) :
    ∃ tg', EngS W eb tg' own' sch r' ∧ (∀ b, tg' b ≠ 0 → tg b ≠ 0 ∨ (w.heap.size ≤ b ∧ b < W.heap.size)) := by
  obtain ⟨t, tgN_old, tgN_ix, tgN_fa, tgN_lb, tgN_p, tgN_lt⟩ := tgN_ex w.heap.size tg own' r'.fa r'.lb P4
  have hlt : ∀ b, t b ≠ 0 → tg b ≠ 0 ∨ (w.heap.size ≤ b ∧ b < W.heap.size) := fun b hb => by
    rcases tgN_lt b hb with ⟨_, h⟩ | ⟨h1, h2⟩
    · exact Or.inl h
    · refine Or.inr ⟨h1, ?_⟩
      rcases h2 with h | h | h | h
      · exact hI.at_.lt h
      · exact hf.lt h
      · rw [h]; exact hl.lt
      · exact hP b h
  obtain ⟨c1, c2, c3, c4, _⟩ := S.carry (tg' := t) hK (fun b hb => tgN_old b hb)
  refine ⟨t, ?_, hlt⟩
  exact {
    lt := fun b hb => by
      rcases hlt b hb with h | h
      · exact Nat.lt_of_lt_of_le (S.lt b h) hK.size
      · exact h.2
    te := c1
    ix := hI
    tx := fun b hb => by
      rcases Nat.lt_or_ge b w.heap.size with h | h
      · rw [tgN_old b h]; exact S.tx b (by rw [← ho b h]; exact hb)
      · exact tgN_ix b h hb
    s := by rw [hsb]; exact c2.1
    ts := by rw [hsb]; exact c2.2
    f := hf
    tf := fun g hg => by
      rcases hfa g hg with h | ⟨h1, h2⟩
      · rw [tgN_old g (S.lt g (by omega))]; exact h
      · exact tgN_fa g h1 h2 hg
    o := by
      rcases hob with ⟨h1, h2⟩ | h
      · rw [h1, h2]; exact c3.1
      · exact h.2.2.2.2.2
    to := by
      rcases hob with ⟨h1, h2⟩ | ⟨h1, h2, h3, h4, h5, _⟩
      · rw [h1]; exact c3.2
      · exact tgN_p _ h1 h2 h3 h4 h5
    ord := hord
    l := hl
    tl := tgN_lb hlb hlo hlf
    tr := Or.inl hd
    en := fun e he => by
      rcases hen e he with h | ⟨b, h1, h2, h3, h4, h5, h6, h7⟩
      · exact c4 e h
      · exact ⟨b, h1, h2, tgN_p b h3 h4 h5 h6 h7⟩
    fn := hfn
    fm := hfm
    ok := hok
    srt := hsrt
    hun := hun
    s1 := S.s1
    s6 := S.s6 }

/-- The tree was asked, and built. -/
theorem EngS.asked {w W : World} {eb : Nat} {tg : Nat → Nat} {own : Nat → ITag} {sch : List Int} {r : EngR} (S : EngS w eb tg own sch r) (hK : Kp (fun b => b = r.lb) w W) {tb : Nat} {N : List (Nd Cd)} {R : List NdR} {oa : Option Addr} {oc : Nat} (hl : Row W r.lb 125 (lateCells 1 (some ⟨tb, 0, none⟩)))
    (T : TreeAt W tb (fun b => w.heap.size ≤ b) r.order N R oa oc) (O : TreeOK Cd.attr ceE r.order r.ks N (1 + r.ks.length * r.order.length)) :
    ∃ tg', EngS W eb tg' own sch { r with d := 1, tp := some ⟨tb, 0, none⟩ } ∧ (∀ b, b < w.heap.size → tg' b = tg b) ∧ (∀ b, tg' b ≠ 0 → tg b ≠ 0 ∨ (w.heap.size ≤ b ∧ b < W.heap.size)) := by
  have z := hK.size
  have hK' : Kp (fun b => tg b = 1 ∨ tg b = 2 ∨ tg b = 3 ∨ tg b = 5) w W := hK.mono (fun b _ e => by rw [e]; exact Or.inr (Or.inr (Or.inl S.tl)))
  obtain ⟨tg', ht⟩ : ∃ tg' : Nat → Nat, tg' = fun b => if b < w.heap.size then tg b else if b < W.heap.size then 4 else 0 := ⟨_, rfl⟩
  have t1 : ∀ b, b < w.heap.size → tg' b = tg b := fun b hb => by rw [ht]; exact if_pos hb
  have t2 : ∀ b, w.heap.size ≤ b → b < W.heap.size → tg' b = 4 := fun b hb hb' => by rw [ht]; simp only [if_neg (show ¬ b < w.heap.size by omega), if_pos hb']
  have t3 : ∀ b, W.heap.size ≤ b → tg' b = 0 := fun b hb => by rw [ht]; simp only [if_neg (show ¬ b < w.heap.size by omega), if_neg (show ¬ b < W.heap.size by omega)]
  have hlt : ∀ b, tg' b ≠ 0 → tg b ≠ 0 ∨ (w.heap.size ≤ b ∧ b < W.heap.size) := fun b hb => by
    rcases Nat.lt_or_ge b w.heap.size with h | h
    · rw [t1 b h] at hb; exact Or.inl hb
    · rcases Nat.lt_or_ge b W.heap.size with h' | h'
      · exact Or.inr ⟨h, h'⟩
      · exact absurd (t3 b h') hb
  have tk : ∀ b, tg b ≠ 0 → tg' b = tg b := fun b hb => t1 b (S.lt b hb)
  obtain ⟨c1, c2, c3, c4, _⟩ := S.carry hK' t1
  refine ⟨tg', ?_, t1, hlt⟩
  exact {
    lt := fun b hb => by
      rcases hlt b hb with h | h
      · exact Nat.lt_of_lt_of_le (S.lt b h) hK.size
      · exact h.2
    te := c1
    ix := S.ix.kp hK (fun b hb e => by have h1 := S.tx b hb; rw [e, S.tl] at h1; omega) (fun e => by have h1 := S.te; rw [e, S.tl] at h1; omega)
    tx := fun b hb => by rw [tk b (by rw [S.tx b hb]; decide)]; exact S.tx b hb
    s := c2.1
    ts := c2.2
    f := S.f.kp hK (fun g hg e => by have h1 := S.tf g hg; rw [e, S.tl] at h1; omega)
    tf := fun g hg => by rw [tk g (by rw [S.tf g hg]; decide)]; exact S.tf g hg
    o := c3.1
    to := c3.2
    ord := S.ord
    l := hl
    tl := by rw [tk r.lb (by rw [S.tl]; decide)]; exact S.tl
    tr := Or.inr ⟨rfl, tb, N, R, oa, oc, rfl, T.mono (fun b h1 h2 => t2 b h1 h2), O⟩
    en := c4
    fn := S.fn
    fm := S.fm
    ok := S.ok
    srt := S.srt
    hun := S.hun
    s1 := S.s1
    s6 := S.s6 }
/-- An event was counted. -/
theorem EngS.countd {w : World} {eb : Nat} {tg : Nat → Nat} {own : Nat → ITag} {sch : List Int} {r : EngR} (S : EngS w eb tg own sch r) (v : Int) : EngS (w.setCell ⟨eb, 65, none⟩ (.int .i64 v)) eb tg own sch { r with n := v } := by
  have hk : Kp (fun b => b = eb) w (w.setCell ⟨eb, 65, none⟩ (.int .i64 v)) := (Kp.refl (fun b => b = eb) w).setCell (fun _ => rfl) _
  have hK' : Kp (fun b => tg b = 1 ∨ tg b = 2 ∨ tg b = 3 ∨ tg b = 5) w (w.setCell ⟨eb, 65, none⟩ (.int .i64 v)) := hk.mono (fun b _ e => by rw [e]; exact Or.inl S.te)
  obtain ⟨c1, c2, c3, c4, c5⟩ := S.carry hK' (fun b _ => rfl)
  exact {
    lt := fun b hb => Nat.lt_of_lt_of_le (S.lt b hb) hk.size
    te := c1
    ix := S.ix.setEv rfl _
    tx := S.tx
    s := c2.1
    ts := c2.2
    f := S.f.kp hk (fun g hg e => by have h1 := S.tf g hg; rw [e, S.te] at h1; omega)
    tf := S.tf
    o := c3.1
    to := c3.2
    ord := S.ord
    l := hk.row S.l (fun e => by have h1 := S.tl; rw [e, S.te] at h1; omega)
    tl := S.tl
    tr := S.tr.imp id (fun h1 => ⟨h1.1, c5 h1.2⟩)
    en := c4
    fn := S.fn
    fm := S.fm
    ok := S.ok
    srt := S.srt
    hun := S.hun
    s1 := S.s1
    s6 := S.s6 }
end Go.Proofs.YtpbblaeamddbgaaGreat
namespace Go.Proofs.YtpbblaeamddbgaaGreat
open Go.RowKit

theorem pigeon : ∀ (n : Nat) (l : List Int), l.Nodup → (∀ x ∈ l, 0 ≤ x ∧ x < n) → l.length ≤ n
  | 0, l, _, h => by
    cases l with
    | nil => simp
    | cons a l => have := h a (by simp); omega
  | n + 1, l, hn, h => by
    by_cases hm : (n : Int) ∈ l
    · have h1 := pigeon n (l.erase (n : Int)) (hn.erase _) (fun x hx => by
        have h2 := (hn.mem_erase_iff).1 hx
        have h3 := h x h2.2
        have h4 := h2.1
        omega)
      have h2 := List.length_erase_of_mem hm
      omega
    · have h1 := pigeon n l hn (fun x hx => by
        have h3 := h x hx
        have h4 : x ≠ (n : Int) := fun e => hm (by rw [← e]; exact hx)
        omega)
      omega
theorem order_of {n : Nat} {l : List Int} (h : orderB n l = true) : l.length = n ∧ (∀ x ∈ l, 0 ≤ x ∧ x < n) ∧ l.Nodup ∧ ∀ a : Int, 0 ≤ a → a < n → a ∈ l := by
  simp only [orderB, inR, Bool.and_eq_true, beq_iff_eq, List.all_eq_true, decide_eq_true_eq] at h
  obtain ⟨h1, h2, h3⟩ := h
  refine ⟨h1, h2, h3, fun a h0 hn => ?_⟩
  apply Classical.byContradiction
  intro hm
  have := pigeon n (a :: l) (List.nodup_cons.2 ⟨hm, h3⟩) (fun x hx => by
    rcases List.mem_cons.1 hx with rfl | hx
    · exact ⟨h0, hn⟩
    · exact h2 x hx)
  simp at this
  omega
section
variable {w : World} {eb : Nat} {tg : Nat → Nat} {own : Nat → ITag} {sch : List Int} {r : EngR}
theorem EngS.ord_len (S : EngS w eb tg own sch r) : r.order.length = sch.length := (order_of S.ord).1
theorem EngS.kslen (_S : EngS w eb tg own sch r) : r.ks.length = r.es.length := by simp [EngR.ks]
theorem EngS.cd (S : EngS w eb tg own sch r) : ∀ k ∈ r.ks, ∀ c ∈ k.2, mayB sch c = true := fun k hk c hc => by
  obtain ⟨e, he, rfl⟩ := List.mem_map.1 hk
  exact (S.ok e he).2.2.2 c hc
theorem EngS.attr (S : EngS w eb tg own sch r) : ∀ k ∈ r.ks, ∀ c ∈ k.2, c.attr ∈ r.order := fun k hk c hc => by
  have h := may_of (S.cd k hk c hc)
  exact (order_of S.ord).2.2.2 c.attr h.1 h.2.1
/-- The tree, asked of an event. -/
theorem EngS.met (S : EngS w eb tg own sch r) (hd : r.d = 1) (tb : Nat) (htp : r.tp = some ⟨tb, 0, none⟩) (vb : Nat) (f : Int → Option Vl) (hev : Row w vb 166 (evCells f)) :
    Calls Tryz.prog 81 #[.pointer (some ⟨tb, 0, none⟩), .pointer (some ⟨vb, 0, none⟩)] w fun e w' => ∃ ro rcap, e = .returned (.slice ro (metIds r.ks f).length rcap) ∧ OSl w' 3 1 ro (metIds r.ks f).length rcap ((metIds r.ks f).map (Value.int .i64)) ∧ (∀ g, blkOf ro = some g → w.heap.size ≤ g) ∧ Ext w w' := by
  rcases S.tr with h | ⟨_, tb', N, R, oa, oc, h1, T, O⟩
  · rw [hd] at h; exact absurd h (by decide)
  · rw [htp] at h1
    cases h1
    have hl := S.ord_len
    have h6 := S.s6
    have hks : r.ks.length ≤ 100 := by rw [S.kslen]; exact S.hun
    have hN : N.length ≤ 900 := by
      have h1 := O.cnt
      have h2 : r.ks.length * r.order.length ≤ 100 * 6 := Nat.mul_le_mul hks (by omega)
      omega
    obtain ⟨_, g2, g3, _⟩ := order_of S.ord
    exact tmet_any O T vb f hev hN hks S.srt (by omega) (fun x hx => by have := g2 x hx; omega) g3 S.attr
theorem EngS.flen (S : EngS w eb tg own sch r) : r.fl.length ≤ 1000 := by
  have hsub : ∀ x ∈ r.fl, x ∈ r.es.map (·.id) := fun x hx => by
    have h := (S.fm x).1 hx
    obtain ⟨e, he, h2⟩ := List.mem_map.1 h
    exact List.mem_map.2 ⟨e, he, congrArg Prod.fst h2⟩
  have h1 : r.fl.length ≤ (r.es.map (·.id)).length := sub_len r.fl (r.es.map (·.id)) S.fn hsub
  have h2 := S.hun
  simp at h1
  omega
/-- The index, asked of an event. -/
theorem EngS.imet (S : EngS w eb tg own sch r) (vb : Nat) (f : Int → Option Vl) (hev : Row w vb 166 (evCells f)) (hf : ∀ a v, f a = some v → 0 ≤ a → fitsB (sch.getD a.toNat 0) v = true) :
    Calls Tryz.prog 43 #[.pointer (some ⟨eb, 4, none⟩), .pointer (some ⟨vb, 0, none⟩)] w fun e w' => ∃ ro rcap, e = .returned (.slice ro (metIds r.ks f).length rcap) ∧ OSl w' 3 1 ro (metIds r.ks f).length rcap ((metIds r.ks f).map (Value.int .i64)) ∧ (∀ g, blkOf ro = some g → w.heap.size ≤ g) ∧ Ext w w' := by
  have hks : r.ks.length ≤ 100 := by rw [S.kslen]; exact S.hun
  have h6 := S.s6
  have hfl := S.flen
  refine imet_any S.ix rfl hks S.srt (fun k hk => ?_) (fun k hk => ?_) (fun k hk c hc => ?_) (fun k hk => ?_) S.fn S.fm hfl vb f hev (fun k hk c hc h8 v hv => ?_)
  · obtain ⟨e, he, rfl⟩ := List.mem_map.1 hk; exact (S.ok e he).2.2.1
  · obtain ⟨e, he, rfl⟩ := List.mem_map.1 hk; exact (S.ok e he).2.1.nodup cmpCd_ord
  · have h := may_of (S.cd k hk c hc); omega
  · obtain ⟨e, he, rfl⟩ := List.mem_map.1 hk; exact (S.ok e he).1
  · have hm := S.cd k hk c hc
    have h := may_of hm
    have hfv := hf c.attr v hv h.1
    simp only [mayB, Bool.and_eq_true] at hm
    have h1 := hm.2
    generalize sch.getD c.attr.toNat 0 = k at h1 hfv
    by_cases hk : k = 2
    · subst hk
      simp [mayK, firstB, fitsB, h8] at h1
      simp [fitsB] at hfv
      omega
    · simp [mayK, h8, hk] at h1
theorem fo_fits {sch : List Int} {ev : List Fd} (h : FirstBad sch ev ev.length) (a : Int) (v : Vl) (hv : fo ev a = some v) : fitsB (sch.getD a.toNat 0) v = true := by
  unfold fo at hv
  obtain ⟨x, hx, rfl⟩ := Option.map_eq_some_iff.1 hv
  have h1 := List.mem_of_find?_eq_some hx
  have h2 := List.find?_some hx
  obtain ⟨j, hj, rfl⟩ := List.getElem_of_mem h1
  have h3 := h.2.1 j hj hj
  simp only [beq_iff_eq] at h2
  simp only [fieldOK, Bool.and_eq_true] at h3
  rw [← h2]
  exact h3.2.1
end
end Go.Proofs.YtpbblaeamddbgaaGreat
