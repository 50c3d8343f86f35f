import Derived.WalkMore
import Derived.Test.YtpbblaeamddbgaaGreatGI
import Derived.Test.YtpbblaeamddbgaaGreatGG
namespace Go.Proofs.YtpbblaeamddbgaaGreat

theorem ask_zero {cs : List Cd} : askI cs = 0 ↔ cs = [] := by
  match cs with
  | [] => simp [askI]
  | [c] =>
    simp only [askI]
    split <;> simp
  | _ :: _ :: _ => simp [askI]
theorem ask_two {cs : List Cd} (h : askI cs = 2) : ∃ c, cs = [c] ∧ c.kind = 1 := by
  match cs, h with
  | [], h => simp [askI] at h
  | [c], h =>
    simp only [askI] at h
    split at h
    · rename_i hk; exact ⟨c, rfl, by simpa using hk⟩
    · simp at h
  | _ :: _ :: _, h => simp [askI] at h
theorem ask_range (cs : List Cd) : askI cs = 0 ∨ askI cs = 1 ∨ askI cs = 2 := by
  match cs with
  | [] => simp [askI]
  | [c] =>
    simp only [askI]
    split <;> simp
  | _ :: _ :: _ => simp [askI]
theorem ask_mono {x y : List Cd} (h : ceE x y < 0) : askI x ≤ askI y := by
  unfold ceE at h
  rw [orI_neg] at h
  rcases h with h | ⟨h, _⟩
  · rw [cmpI_neg] at h; omega
  · rw [cmpI_zero] at h; omega
theorem exact_mono {c d : Cd} (hk : c.kind = d.kind) (ha : c.attr = d.attr) (hc : askI [c] = askI [d]) (h : ceE [c] [d] < 0) : cmpV c.a d.a ≤ 0 := by
  unfold ceE at h
  rw [orI_neg] at h
  rcases h with h | ⟨_, h⟩
  · rw [cmpI_neg] at h; omega
  · simp only [cmpL, orI_neg] at h
    rcases h with h | ⟨_, h⟩
    · unfold cmpCd at h
      rw [orI_neg] at h
      rcases h with h | ⟨_, h⟩
      · rw [cmpI_neg] at h; omega
      · rw [orI_neg] at h
        rcases h with h | ⟨_, h⟩
        · rw [cmpI_neg] at h; omega
        · rw [orI_neg] at h
          omega
    · simp at h
theorem filter_stop {α : Type} (p : α → Bool) (l : List α) (t : Nat) (h : ∀ s (hs : s < l.length), t ≤ s → p l[s] = false) : l.filter p = (l.take t).filter p := by
  conv => lhs; rw [← List.take_append_drop t l, List.filter_append]
  have h0 : (l.drop t).filter p = [] := List.filter_eq_nil_iff.2 (fun x hx => by
    obtain ⟨k, hk, rfl⟩ := List.getElem_of_mem hx
    rw [List.getElem_drop, h _ (by simp at hk; omega) (by omega)]
    simp)
  rw [h0, List.append_nil]
theorem nodup_len : ∀ (n : Nat) (l : List Nat), l.Nodup → (∀ x ∈ l, x < n) → l.length ≤ n
  | 0, l, _, h => by
    cases l with
    | nil => simp
    | cons a l => exact absurd (h a List.mem_cons_self) (Nat.not_lt_zero _)
  | n + 1, l, hn, h => by
    have h1 := nodup_len n (l.filter (fun x => x != n)) (List.Pairwise.filter _ hn) (fun x hx => by
      obtain ⟨h2, h3⟩ := List.mem_filter.1 hx
      have := h x h2
      have : x ≠ n := by simpa using h3
      omega)
    have h2 : ∀ l : List Nat, l.Nodup → l.length ≤ (l.filter (fun x => x != n)).length + 1 := fun l => by
      induction l with
      | nil => simp
      | cons a l ih =>
        intro hn
        obtain ⟨h3, h4⟩ := List.nodup_cons.1 hn
        by_cases ha : a = n
        · subst ha
          have : l.filter (fun x => x != a) = l := List.filter_eq_self.2 (fun x hx => by
            have : x ≠ a := fun e => h3 (e ▸ hx)
            simpa using this)
          simp [this]
        · have := ih h4
          have hb : (a != n) = true := by simpa using ha
          rw [List.filter_cons, if_pos hb]
          simp; omega
    have := h2 l hn
    omega

/-- Is a condition met, by what an event has? -/
def hB (f : Int → Option Vl) (c : Cd) : Bool := condB (f c.attr) c
theorem none_rest {f : Int → Option Vl} {a : Int} (hf : f a = none) {cs : List Cd} (ha : ∀ c ∈ cs, c.attr = a) (hne : cs ≠ []) : cs.all (hB f) = false := by
  obtain ⟨c, r, rfl⟩ := List.exists_cons_of_ne_nil hne
  rw [List.all_cons]
  have : hB f c = false := by unfold hB; rw [ha c List.mem_cons_self, hf]; rfl
  rw [this]; rfl
theorem rise_le {es : List (List Cd)} (h : Rise ceE es) {t s : Nat} (ht : t < es.length) (hs : s < es.length) (hts : t ≤ s) : askI es[t] ≤ askI es[s] := by
  rcases Nat.lt_or_ge t s with h' | h'
  · exact ask_mono (List.pairwise_iff_getElem.1 h t s ht hs h')
  · obtain rfl : t = s := by omega
    exact Int.le_refl _
theorem stop_none {es : List (List Cd)} (h : Rise ceE es) {f : Int → Option Vl} {a : Int} (hf : f a = none) (ha : ∀ cs ∈ es, ∀ c ∈ cs, c.attr = a) {t : Nat} (ht : t < es.length) (hne : askI es[t] ≠ 0) : ∀ s (hs : s < es.length), t ≤ s → es[s].all (hB f) = false := fun s hs hts => by
  refine none_rest hf (ha _ (List.getElem_mem hs)) (fun e => ?_)
  have h1 := rise_le h ht hs hts
  have h2 := ask_zero.2 e
  rcases ask_range es[t] with h3 | h3 | h3 <;> omega
theorem stop_gt {es : List (List Cd)} (h : Rise ceE es) {f : Int → Option Vl} {a : Int} {v : Vl} (hf : f a = some v) (ha : ∀ cs ∈ es, ∀ c ∈ cs, c.attr = a) {t : Nat} (ht : t < es.length) {c : Cd} (hc : es[t] = [c]) (hk : c.kind = 1) (hgt : 0 < cmpV c.a v) : ∀ s (hs : s < es.length), t ≤ s → es[s].all (hB f) = false := fun s hs hts => by
  have h2 : askI es[t] = 2 := by rw [hc]; simp [askI, hk]
  have h1 := rise_le h ht hs hts
  have h3 : askI es[s] = 2 := by rcases ask_range es[s] with h3 | h3 | h3 <;> omega
  obtain ⟨d, hd, hdk⟩ := ask_two h3
  have hda : d.attr = a := ha _ (List.getElem_mem hs) d (by rw [hd]; simp)
  have hca : c.attr = a := ha _ (List.getElem_mem ht) c (by rw [hc]; simp)
  have hle : cmpV c.a d.a ≤ 0 := by
    rcases Nat.lt_or_ge t s with h' | h'
    · have := List.pairwise_iff_getElem.1 h t s ht hs h'
      rw [hc, hd] at this
      exact exact_mono (by rw [hk, hdk]) (by rw [hca, hda]) (by rw [← hc, ← hd, h2, h3]) this
    · obtain rfl : t = s := by omega
      rw [hc] at hd
      cases hd
      rw [cmpV_ord.refl]; omega
  have hvd : cmpV v d.a < 0 := by
    have h5 : cmpV v c.a < 0 := (cmpV_ord.gt c.a v).1 hgt
    rcases Int.lt_or_eq_of_le hle with h6 | h6
    · exact cmpV_ord.trans _ _ _ h5 h6
    · rw [← (cmpV_ord.eq c.a d.a).1 h6]; exact h5
  rw [hd]
  simp only [List.all_cons, List.all_nil, Bool.and_true]
  unfold hB
  rw [hda, hf]
  simp [condB, metB, hdk]
  omega
theorem one_met {f : Int → Option Vl} {a : Int} {v : Vl} (hf : f a = some v) {c : Cd} (hca : c.attr = a) (hk : c.kind = 1) : [c].all (hB f) = (cmpV v c.a == 0) := by
  simp only [List.all_cons, List.all_nil, Bool.and_true]
  unfold hB
  rw [hca, hf]
  simp [condB, metB, hk]
theorem meets_hB (l : List Cd) (f : Int → Option Vl) : meetsB l f = l.all (hB f) := rfl
end Go.Proofs.YtpbblaeamddbgaaGreat
namespace Go.Proofs.YtpbblaeamddbgaaGreat
open Go.RowKit

def ptrB (b : Nat) : Value := .pointer (some ⟨b, 0, none⟩)
def ptrOf (R : List NdR) (i : Nat) : Value := ptrB (((R[i]?).map NdR.blk).getD 0)
theorem Tryz.infoPn : (Tryz.prog.info? 201).map (fun i => (i.zero, i.size, i.bytes)) = some (some (.pointer none), 1, 8) := by kernel_rfl
theorem ptr_one (l : List Nat) (R : List NdR) : ∀ v ∈ l.map (ptrOf R), v.oneCell' = true := by
  intro v hv
  obtain ⟨x, _, rfl⟩ := List.mem_map.1 hv
  rfl
theorem key_met (R : List NdR) (h : List Cd → Bool) : ∀ (es : List EdR) (kids : List (List Cd × Nat)), es.map (fun e => (e.conds, some e.to)) = kids.map (fun k => (k.1, (R[k.2]?).map (·.blk))) → (es.filter (fun e => h e.conds)).map (fun e => ptrB e.to) = ((kids.filter (fun k => h k.1)).map (·.2)).map (ptrOf R)
  | [], [], _ => rfl
  | [], _ :: _, h' => by simp at h'
  | _ :: _, [], h' => by simp at h'
  | e :: es, k :: kids, h' => by
    simp only [List.map_cons, List.cons.injEq, Prod.mk.injEq] at h'
    obtain ⟨⟨h1, h2⟩, h3⟩ := h'
    have ih := key_met R h es kids h3
    simp only [List.filter_cons, h1]
    cases h k.1
    · simpa using ih
    · simp only [if_true, List.map_cons, ih, List.cons.injEq, and_true]
      unfold ptrOf
      rw [← h2]; rfl
theorem take_filter_succ {α : Type} (p : α → Bool) (l : List α) (t : Nat) (ht : t < l.length) : (l.take (t + 1)).filter p = (l.take t).filter p ++ if p l[t] then [l[t]] else [] := by
  rw [List.take_succ_eq_append_getElem ht, List.filter_append]
  cases h : p l[t] <;> simp [h]

theorem app_out {w0 W0 b w3 : World} {ro ro3 : Option Addr} (hl : w0.heap.size ≤ W0.heap.size) (hE : Ext W0 b) (hk : Kp (fun k => blkOf ro = some k) b w3) (hat : Hid (blkOf ro3 = blkOf ro ∨ blkOf ro3 = some b.heap.size)) (hn : ∀ g, blkOf ro = some g → w0.heap.size ≤ g ∧ W0.heap.size ≤ g) : (∀ g, blkOf ro3 = some g → w0.heap.size ≤ g ∧ W0.heap.size ≤ g) ∧ Ext W0 w3 :=
  ⟨fun g hg => ⟨fresh2 (Nat.le_trans hl hE.le) (fun g hg => (hn g hg).1) hat g hg, fresh2 hE.le (fun g hg => (hn g hg).2) hat g hg⟩, hE.kpNew hk (fun g hg => (hn g hg).2)⟩
theorem one_newB (W : World) (T : TypeId) (x : Value) (b : Nat) (hb : b = W.heap.size) : ∀ j u, [x][j]? = some u → (W.alloc (.cells #[x] T)).cell? ((⟨b, 0, none⟩ : Addr).add j) = some u := by
  intro j u hj
  rw [add_lt]
  exact cell_new W _ T _ j hb (by simpa using hj)
/-- Where a node's edges lead that are met. -/
def upto (f : Int → Option Vl) (es : List EdR) (t : Nat) : List Value := ((es.take t).filter (fun e => e.conds.all (hB f))).map (fun e => ptrB e.to)
theorem upto_yes (f : Int → Option Vl) (es : List EdR) (t : Nat) (ht : t < es.length) (h : es[t].conds.all (hB f) = true) : upto f es (t + 1) = upto f es t ++ [ptrB es[t].to] := by
  unfold upto; rw [take_filter_succ _ _ _ ht, h]; simp
theorem upto_no (f : Int → Option Vl) (es : List EdR) (t : Nat) (ht : t < es.length) (h : es[t].conds.all (hB f) = false) : upto f es (t + 1) = upto f es t := by
  unfold upto; rw [take_filter_succ _ _ _ ht, h]; simp
theorem upto_stop (f : Int → Option Vl) (es : List EdR) (t : Nat) (h : ∀ s (hs : s < es.length), t ≤ s → es[s].conds.all (hB f) = false) : upto f es es.length = upto f es t := by
  unfold upto
  rw [List.take_length, filter_stop (fun e : EdR => e.conds.all (hB f)) es t h]
theorem upto_le (f : Int → Option Vl) (es : List EdR) (t : Nat) : (upto f es t).length ≤ t := by
  unfold upto
  rw [List.length_map]
  exact Nat.le_trans (List.length_filter_le _ _) (List.length_take_le _ _)
theorem upto_all (f : Int → Option Vl) (es : List EdR) (t : Nat) : (upto f es t).length ≤ (upto f es es.length).length := by
  unfold upto
  rw [List.length_map, List.length_map, List.take_length]
  exact ((List.take_sublist t es).filter _).length_le
/-- What has come together, of some nodes. -/
def comes (f : Int → Option Vl) (R : List NdR) (l : List Nat) : List Value := l.flatMap (fun i => upto f ((R[i]?.map (·.es)).getD []) ((R[i]?.map (·.es)).getD []).length)

section
variable {tb : Nat} {F : Nat → Prop} {order : List Int} {N : List (Nd Cd)} {R : List NdR} {oa : Option Addr} {oc : Nat}
set_option maxHeartbeats 3200000 in
set_option maxRecDepth 100000 in
theorem reached_any (fo : Option Addr) (fcap : Nat) (fr : List Nat) (eb a : Nat) (f : Int → Option Vl) (w : World) (T : TreeAt w tb F order N R oa oc) (hev : Row w eb 166 (evCells f)) (ha : a < 6) (hfo : OSl w 201 1 fo fr.length fcap (fr.map (ptrOf R))) (hfr : ∀ i ∈ fr, i < R.length)
    (hat : ∀ i (hi : i < R.length), i ∈ fr → (∀ e ∈ R[i].es, (∀ c ∈ e.conds, c.attr = a ∧ 1 ≤ c.kind ∧ c.kind ≤ 9)) ∧ Rise ceE (R[i].es.map (·.conds)) ∧ R[i].es.length ≤ 1000) (hnx : (comes f R fr).length ≤ 1000) (hfl : fr.length ≤ 1000) :
    Calls Tryz.prog 127 #[.slice fo fr.length fcap, .pointer (some ⟨eb, 0, none⟩), .int .i64 a] w fun e w' => ∃ ro rcap, e = .returned (.slice ro (comes f R fr).length rcap) ∧ OSl w' 201 1 ro (comes f R fr).length rcap (comes f R fr) ∧ (∀ g, blkOf ro = some g → w.heap.size ≤ g) ∧ Ext w w' := by
  have hval := value_any eb f a ha w hev
  have HV : Hid _ := hval
  have HAT : Hid (∀ i (hi : i < R.length), i ∈ fr → (∀ e ∈ R[i].es, (∀ c ∈ e.conds, c.attr = a ∧ 1 ≤ c.kind ∧ c.kind ≤ 9)) ∧ Rise ceE (R[i].es.map (·.conds)) ∧ R[i].es.length ≤ 1000) := hat
  have HT : Hid (TreeAt w tb F order N R oa oc) := T
  have HFR : Hid (∀ i ∈ fr, i < R.length) := hfr
  clear hval hat T hfr
  go_enter Tryz.func127, Tryz.ntmps127
  go_wp2_with fail
  refine Calls.mono HV.out ?_
  rintro e w1 ⟨rfl, hE1⟩
  clear HV hev
  generalize hvd : (f a).getD vz = v at *
  generalize hhs : (f a).isSome = has at *
  have HVD : Hid ((f a).getD vz = v) := hvd
  have HHS : Hid ((f a).isSome = has) := hhs
  clear hvd hhs
  go_wp2_with fail
  obtain ⟨W, hW⟩ : ∃ W, W = w1.alloc (.cells #[.int .i64 v.n, .string v.s] 69) := ⟨_, rfl⟩
  rw [← hW]
  have hEW : Ext w W := by rw [hW]; exact hE1.alloc _
  have hX : Row W w1.heap.size 69 [.int .i64 v.n, .string v.s] := by rw [hW]; exact row_alloc _ _ _ _ _ rfl rfl
  have hl1 := hE1.le
  clear hW hE1
  have hfoW := hfo.ext hEW
  clear hfo
  go_loopw [9, 25] (fun v9 vi wr => ∃ (ro : Option Addr) (rcap k : Nat), k ≤ fr.length ∧ vi = .int .i64 k ∧ v9 = .slice ro (comes f R (fr.take k)).length rcap ∧ OSl wr 201 1 ro (comes f R (fr.take k)).length rcap (comes f R (fr.take k)) ∧ (∀ g, blkOf ro = some g → w.heap.size ≤ g ∧ W.heap.size ≤ g) ∧ Ext W wr) (fun _ vi _ => fr.length - (intOf vi).toNat)
  case atStart => exact ⟨none, 0, 0, Nat.zero_le _, rfl, rfl, OSl.nil _ _ _, (fun g hg => by cases hg), Ext.refl _⟩
  case round =>
    obtain ⟨ro, rcap, k, hk, rfl, rfl, hown, hnew, hEr⟩ := hrel
    by_cases hlt : k < fr.length
    · obtain ⟨i, hie⟩ : ∃ i, i = fr[k] := ⟨_, rfl⟩
      have himem : i ∈ fr := by rw [hie]; exact List.getElem_mem hlt
      have hiR := HFR.out i himem
      have hn0 := HT.out.nd i (by have := HT.out.len; omega) hiR
      obtain ⟨hat1, hat2, hat3⟩ := HAT.out i hiR himem
      have hcs : Hid (comes f R (fr.take (k + 1)) = comes f R (fr.take k) ++ upto f R[i].es R[i].es.length) := by
        show _ = _
        unfold comes
        rw [List.take_succ_eq_append_getElem hlt, List.flatMap_append, ← hie]
        simp [List.getElem?_eq_getElem hiR]
      have hcl : (comes f R (fr.take (k + 1))).length ≤ 1000 := by
        refine Nat.le_trans ?_ hnx
        unfold comes
        conv => rhs; rw [← List.take_append_drop (k + 1) fr, List.flatMap_append, List.length_append]
        omega
      rw [hcs.out, List.length_append] at hcl
      have hpt : (fr.map (ptrOf R))[k]? = some (ptrB R[i].blk) := by
        rw [List.getElem?_map, List.getElem?_eq_getElem hlt, ← hie]
        simp [ptrOf, List.getElem?_eq_getElem hiR]
      obtain ⟨fg, rfl, fc⟩ := hfoW.at hpt
      have fc1 : wr.cell? ⟨fg, k, none⟩ = some (.pointer (some ⟨R[i].blk, 0, none⟩)) := hEr.cell fc
      have hrow := (hn0.row.ext hEW).ext hEr
      have rc1 := hrow.at (j := 1) rfl
      have hed := (hn0.eds.ext hEW)
      have hcx : Hid (∀ t (ht : t < R[i].es.length), Cxs W R[i].es[t].ao R[i].es[t].conds ∧ R[i].es[t].conds.length ≤ 8) := fun t ht => ⟨((hn0.cds _ (List.getElem_mem ht)).cxs).ext hEW, (hn0.cds _ (List.getElem_mem ht)).1.1⟩
      have HA1 : Hid (∀ e ∈ R[i].es, (∀ c ∈ e.conds, c.attr = a ∧ 1 ≤ c.kind ∧ c.kind ≤ 9)) := hat1
      have HA2 : Hid (Rise ceE (R[i].es.map (·.conds))) := hat2
      clear hn0 hpt hie himem hrow hat1 hat2 fc
      generalize R[i].blk = ib at *
      generalize R[i].ea = iea at *
      generalize R[i].ecap = iec at *
      generalize R[i].es = es at *
      generalize comes f R (fr.take k) = base at *
      have HN : Hid (∀ g, blkOf ro = some g → w.heap.size ≤ g ∧ W.heap.size ≤ g) := hnew
      clear hnew
      obtain ⟨w0, hw0⟩ : ∃ w0 : World, w0 = wr := ⟨_, rfl⟩
      subst hw0
      go_wp2_with fail
      go_step3
      go_wp2_with fail
      go_step3
      go_wp2_with fail
      go_loopw [9, 34] (fun v9 vi wr => ∃ (ro : Option Addr) (rcap t : Nat), t ≤ es.length ∧ vi = .int .i64 t ∧ v9 = .slice ro (base ++ upto f es t).length rcap ∧ OSl wr 201 1 ro (base ++ upto f es t).length rcap (base ++ upto f es t) ∧ (∀ g, blkOf ro = some g → w.heap.size ≤ g ∧ W.heap.size ≤ g) ∧ Ext W wr) (fun _ vi _ => es.length - (intOf vi).toNat)
      case atStart => exact ⟨ro, rcap, 0, Nat.zero_le _, rfl, by simp [upto], by simpa [upto] using hown, HN.out, hEr⟩
      case round =>
        obtain ⟨ro, rcap, t, ht, rfl, rfl, hown, hnew, hEr2⟩ := hrel
        have HN2 : Hid (∀ g, blkOf ro = some g → w.heap.size ≤ g ∧ W.heap.size ≤ g) := hnew
        clear hnew
        by_cases htl : t < es.length
        · have hul := upto_all f es t
          have HB1 : Hid ((base ++ upto f es t).length + 1 ≤ maxLen) := by show _ ≤ _; unfold maxLen; simp; omega
          have HB2 : Hid (((base ++ upto f es t).length + 1) * 8 ≤ 140737488355328) := by show _ ≤ _; simp; omega
          obtain ⟨eg, rfl, e0⟩ := hed.at (edr_at es t htl).1
          obtain ⟨_, q1, e1⟩ := hed.at (edr_at es t htl).2.1
          cases q1
          obtain ⟨_, q1, e2⟩ := hed.at (edr_at es t htl).2.2
          cases q1
          have d0 := hEr2.cell e0
          have d1 := hEr2.cell e1
          have d2 := hEr2.cell e2
          clear e0 e1 e2
          have hti : (t : Int) < (es.length : Int) := by omega
          obtain ⟨hcxt, hc8⟩ := hcx.out t htl
          have hatt := HA1.out es[t] (List.getElem_mem htl)
          have HUYY : Hid (es[t].conds.all (hB f) = true → base ++ upto f es (t + 1) = base ++ upto f es t ++ [ptrB es[t].to]) := fun h => by rw [upto_yes f es t htl h, List.append_assoc]
          have HUNN : Hid (es[t].conds.all (hB f) = false → base ++ upto f es (t + 1) = base ++ upto f es t) := fun h => by rw [upto_no f es t htl h]
          have hmapat : ∀ s (hs : s < es.length), (es.map (·.conds))[s]'(by simpa using hs) = es[s].conds := fun s hs => by simp
          have HSN : Hid (f a = none → askI es[t].conds ≠ 0 → base ++ upto f es es.length = base ++ upto f es t) := fun hf hne => by
            rw [upto_stop f es t (fun s hs hts => ?_)]
            have := stop_none HA2.out hf (fun cs hcs c hc => by
              obtain ⟨e, he, rfl⟩ := List.mem_map.1 hcs
              exact (HA1.out e he c hc).1) (t := t) (by simpa using htl) (by rw [hmapat t htl]; exact hne) s (by simpa using hs) hts
            rwa [hmapat s hs] at this
          have HSG : Hid (∀ (vv : Vl) (c : Cd), f a = some vv → es[t].conds = [c] → c.kind = 1 → 0 < cmpV c.a vv → base ++ upto f es es.length = base ++ upto f es t) := fun vv c hf hc hk hgt => by
            rw [upto_stop f es t (fun s hs hts => ?_)]
            have := stop_gt HA2.out hf (fun cs hcs c hc => by
              obtain ⟨e, he, rfl⟩ := List.mem_map.1 hcs
              exact (HA1.out e he c hc).1) (t := t) (by simpa using htl) (by rw [hmapat t htl]; exact hc) hk hgt s (by simpa using hs) hts
            rwa [hmapat s hs] at this
          clear hmapat
          generalize base ++ upto f es t = cur at *
          generalize es[t].to = eto at *
          generalize es[t].cap = ecap at *
          generalize es[t].ao = eao at *
          generalize es[t].conds = cs at *
          have hHa : Hid (∀ c ∈ cs, c.attr = a ∧ 1 ≤ c.kind ∧ c.kind ≤ 9) := hatt
          clear hatt
          rcases ask_range cs with hask | hask | hask
          · have hcs0 : cs = [] := ask_zero.1 hask
            have HUY : Hid (base ++ upto f es (t + 1) = cur ++ [ptrB eto]) := HUYY.out (by rw [hcs0]; rfl)
            rw [hask] at d0
            clear hcs0 HSN HSG hask HUYY HUNN
            go_wp2_with (at_builtin; go_must (refine wpList_app rfl (.tmp 74) (.tmp 77) 233 rfl 201 (.pointer none) 1 8 Tryz.underlying233 Tryz.infoPn rfl (by decide) ro cur.length rcap _ rfl (OSl.ext hown (((Ext.refl wr).alloc _).alloc _)) (some ⟨wr.heap.size + 1, 0, none⟩) 1 1 [ptrB eto] rfl (by intro h; cases h) rfl (fun _ => ⟨_, rfl, one_newB _ _ _ _ (by simp)⟩) (by intro u hu; simp at hu; subst hu; rfl) HB1.out HB2.out ?_; intro ro3 rcap3 w3 hown3 hk3 hat3))
            go_roundw
            case rel =>
              have hao := app_out hEW.le (hEr2.trans (((Ext.refl wr).alloc _).alloc _)) hk3 hat3 HN2.out
              refine ⟨ro3, rcap3, t + 1, by omega, by go_num, by rw [HUY.out]; simp, ?_, hao.1, hao.2⟩
              rw [HUY.out]
              simpa using hown3
            case measure => simp [intOf]; omega
          · have hcne : 0 < cs.length := by
              rcases Nat.eq_zero_or_pos cs.length with h | h
              · rw [ask_zero.2 (List.eq_nil_of_length_eq_zero h)] at hask; omega
              · exact h
            cases hfa : f a with
            | none =>
              have hh : has = false := by rw [← HHS.out, hfa]; rfl
              subst hh
              have HUS : Hid (base ++ upto f es es.length = cur) := HSN.out hfa (by omega)
              rw [hask] at d0
              clear HSN HSG hask HUYY HUNN hcxt hcx hed
              go_wp2
              dsimp only [Exit.noGoto, Exit.inBlock, Exit.then]
              go_at_K
              go_wp2
              go_roundw
              case rel => exact ⟨ro, rcap, k + 1, by omega, by go_num, by rw [hcs.out, HUS.out], by rw [hcs.out, HUS.out]; exact hown.ext ((Ext.refl _).alloc _), HN2.out, hEr2.trans ((Ext.refl _).alloc _)⟩
              case measure => simp [intOf]; omega
            | some v0 =>
              have hh : has = true := by rw [← HHS.out, hfa]; rfl
              subst hh
              have hv0 : v = v0 := by rw [← HVD.out, hfa]; rfl
              subst hv0
              have x0 := (hX.ext hEr2).at (j := 0) rfl
              have x1 := (hX.ext hEr2).at (j := 1) rfl
              have hx0a : ∀ o, (wr.alloc o).cell? ⟨w1.heap.size, 0, none⟩ = _ := fun o => ((Ext.refl wr).alloc o).cell x0
              have hx1a : ∀ o, (wr.alloc o).cell? ⟨w1.heap.size, 1, none⟩ = _ := fun o => ((Ext.refl wr).alloc o).cell x1
              have HALL : Hid ((∀ j (hj : j < cs.length), metB cs[j] v = true) → cs.all (hB f) = true) := fun h => by
                rw [List.all_eq_true]
                intro c hc
                obtain ⟨j, hj, rfl⟩ := List.getElem_of_mem hc
                unfold hB
                rw [(hHa.out _ hc).1, hfa]
                exact h j hj
              have HNOT : Hid (∀ j (hj : j < cs.length), metB cs[j] v = false → cs.all (hB f) = false) := fun j hj h => by
                rw [List.all_eq_false]
                refine ⟨cs[j], List.getElem_mem hj, ?_⟩
                unfold hB
                rw [(hHa.out _ (List.getElem_mem hj)).1, hfa]
                simp [condB, h]
              rw [hask] at d0
              obtain ⟨cb, co, rfl, hCd⟩ := hcxt hcne
              have hCr := hCd.ext hEr2
              obtain ⟨WE, hWE⟩ : ∃ WE, WE = wr.alloc (.cells #[.int .i64 1, .slice (some ⟨cb, co, none⟩) cs.length ecap, .pointer (some ⟨eto, 0, none⟩)] 268) := ⟨_, rfl⟩
              have hEE : Ext wr WE := by rw [hWE]; exact (Ext.refl _).alloc _
              have hRE : Row WE wr.heap.size 268 [.int .i64 1, .slice (some ⟨cb, co, none⟩) cs.length ecap, .pointer (some ⟨eto, 0, none⟩)] := by rw [hWE]; exact row_alloc _ _ _ _ _ rfl rfl
              clear HSN HSG hask hcxt hcx hed hfa
              go_wp2_with fail
              rw [← hWE]
              clear hWE d0 d1 d2
              obtain ⟨w5, hw5⟩ : ∃ w5 : World, w5 = wr := ⟨_, rfl⟩
              subst hw5
              go_loopw [52] (fun vi wr => ∃ j : Nat, j ≤ cs.length ∧ vi = .int .i64 j ∧ (∀ i (hi : i < cs.length), i < j → metB cs[i] v = true) ∧ Ext WE wr) (fun vi _ => cs.length - (intOf vi).toNat)
              case atStart => exact ⟨0, Nat.zero_le _, rfl, fun i _ h => absurd h (Nat.not_lt_zero _), Ext.refl _⟩
              case round =>
                obtain ⟨j, hj, rfl, hall, hE6⟩ := hrel
                have HAL : Hid (∀ i (hi : i < cs.length), i < j → metB cs[i] v = true) := hall
                clear hall
                have hE56 := hEE.trans hE6
                by_cases hjl : j < cs.length
                · obtain ⟨c0, c1, c2, c3, c4, c5⟩ := hCr.ext hE56 j hjl
                  have hkk := (hHa.out cs[j] (List.getElem_mem hjl)).2
                  have y0 := hE56.cell x0
                  have y1 := hE56.cell x1
                  have hy0a : ∀ o, (wr.alloc o).cell? ⟨w1.heap.size, 0, none⟩ = _ := fun o => ((Ext.refl wr).alloc o).cell y0
                  have hy1a : ∀ o, (wr.alloc o).cell? ⟨w1.heap.size, 1, none⟩ = _ := fun o => ((Ext.refl wr).alloc o).cell y1
                  have HN1 : Hid (metB cs[j] v = false → base ++ upto f es (t + 1) = cur) := fun h => HUNN.out (HNOT.out j hjl h)
                  have HY1 : Hid (metB cs[j] v = true → ∀ i (hi : i < cs.length), i < j + 1 → metB cs[i] v = true) := fun h i hi hij => by
                    rcases Nat.lt_or_ge i j with h' | h'
                    · exact HAL.out i hi h'
                    · obtain rfl : i = j := by omega
                      exact h
                  clear hCr x0 x1 y0 y1 hx0a hx1a HAL HALL HNOT
                  generalize cs[j] = c at *
                  generalize hBm : metB c v = Bm at *
                  have HBm : Hid (metB c v = Bm) := hBm
                  clear hBm
                  go_wp2_with fail
                  refine (holds_is c v _ Bm hkk.1 hkk.2 HBm.out).mono ?_
                  rintro e w7 ⟨rfl, hE7⟩
                  have hE8 : Ext wr w7 := ((Ext.refl _).alloc _).trans hE7
                  clear c0 c1 c2 c3 c4 c5 hy0a hy1a hE7
                  cases Bm with
                  | false =>
                    have HUN : Hid (base ++ upto f es (t + 1) = cur) := HN1.out rfl
                    have hE59 := hE56.trans hE8
                    go_wp2
                    go_roundw
                    case rel => exact ⟨ro, rcap, t + 1, by omega, by go_num, by rw [HUN.out], by rw [HUN.out]; exact hown.ext hE59, HN2.out, hEr2.trans hE59⟩
                    case measure => simp [intOf]; omega
                  | true =>
                    go_wp2
                    go_roundw
                    case rel => exact ⟨j + 1, by omega, by go_num, HY1.out (by simp), hE6.trans hE8⟩
                    case measure => simp [intOf]; omega
                · have HUY : Hid (base ++ upto f es (t + 1) = cur ++ [ptrB eto]) := HUYY.out (HALL.out (fun i hi => HAL.out i hi (by omega)))
                  have r2 := (hRE.ext hE6).at (j := 2) rfl
                  clear hCr x0 x1 hx0a hx1a HAL HALL HNOT hRE
                  go_wp2_with (at_builtin; go_must (refine wpList_app rfl (.tmp 74) (.tmp 77) 233 rfl 201 (.pointer none) 1 8 Tryz.underlying233 Tryz.infoPn rfl (by decide) ro cur.length rcap _ rfl (OSl.ext hown (hE56.alloc _)) (some ⟨wr.heap.size, 0, none⟩) 1 1 [ptrB eto] rfl (by intro h; cases h) rfl (fun _ => ⟨_, rfl, one_newB _ _ _ _ (by simp)⟩) (by intro u hu; simp at hu; subst hu; rfl) HB1.out HB2.out ?_; intro ro3 rcap3 w3 hown3 hk3 hat3))
                  go_roundw
                  case rel =>
                    have hao := app_out hEW.le (hEr2.trans (hE56.alloc _)) hk3 hat3 HN2.out
                    refine ⟨ro3, rcap3, t + 1, by omega, by go_num, by rw [HUY.out]; simp, ?_, hao.1, hao.2⟩
                    rw [HUY.out]
                    simpa using hown3
                  case measure => simp [intOf]; omega
          · obtain ⟨c, hcs1, hck⟩ := ask_two hask
            cases hfa : f a with
            | none =>
              have hh : has = false := by rw [← HHS.out, hfa]; rfl
              subst hh
              have HUS : Hid (base ++ upto f es es.length = cur) := HSN.out hfa (by omega)
              rw [hask] at d0
              clear HSN HSG hask HUYY HUNN hcxt hcx hed
              go_wp2
              dsimp only [Exit.noGoto, Exit.inBlock, Exit.then]
              go_at_K
              go_wp2
              go_roundw
              case rel => exact ⟨ro, rcap, k + 1, by omega, by go_num, by rw [hcs.out, HUS.out], by rw [hcs.out, HUS.out]; exact hown.ext ((Ext.refl _).alloc _), HN2.out, hEr2.trans ((Ext.refl _).alloc _)⟩
              case measure => simp [intOf]; omega
            | some v0 =>
              have hh : has = true := by rw [← HHS.out, hfa]; rfl
              subst hh
              have hv0 : v = v0 := by rw [← HVD.out, hfa]; rfl
              subst hv0
              have x0 := (hX.ext hEr2).at (j := 0) rfl
              have x1 := (hX.ext hEr2).at (j := 1) rfl
              have hx0a : ∀ o, (wr.alloc o).cell? ⟨w1.heap.size, 0, none⟩ = _ := fun o => ((Ext.refl wr).alloc o).cell x0
              have hx1a : ∀ o, (wr.alloc o).cell? ⟨w1.heap.size, 1, none⟩ = _ := fun o => ((Ext.refl wr).alloc o).cell x1
              have hca := (hHa.out c (by rw [hcs1]; simp)).1
              have HOM : Hid (cs.all (hB f) = (cmpV v c.a == 0)) := by show _ = _; rw [hcs1]; exact one_met hfa hca hck
              have HGT : Hid (0 < cmpV c.a v → base ++ upto f es es.length = cur) := fun h => HSG.out v c hfa hcs1 hck h
              have hlen : cs.length = 1 := by rw [hcs1]; rfl
              rw [hask] at d0
              obtain ⟨cb, co, rfl, hCd⟩ := hcxt (by omega)
              obtain ⟨_, _, c2, c3, _, _⟩ := hCd.ext hEr2 0 (by omega)
              have hce : cs[0]'(by omega) = c := by simp [hcs1]
              rw [hce] at c2 c3
              simp only [Nat.zero_mul, Nat.add_zero] at c2 c3
              have hc2a : ∀ o, (wr.alloc o).cell? ⟨cb, co + 2, none⟩ = _ := fun o => ((Ext.refl wr).alloc o).cell c2
              have hc3a : ∀ o, (wr.alloc o).cell? ⟨cb, co + 3, none⟩ = _ := fun o => ((Ext.refl wr).alloc o).cell c3
              rw [hlen] at d1
              have HSm : Hid ((cmpV c.a v = 0 → cs.all (hB f) = true) ∧ (cmpV c.a v ≠ 0 → cs.all (hB f) = false)) := by
                rw [HOM.out]
                refine ⟨fun h => ?_, fun h => ?_⟩
                · have := (cmpV_ord.sym0 c.a v).1 h; simpa using this
                · have : cmpV v c.a ≠ 0 := fun e => h ((cmpV_ord.sym0 v c.a).1 e)
                  simpa using this
              clear HSN HSG hask hcxt hcx hed hfa HOM hCd hce hcs1
              go_wp2_with fail
              go_region_held3 (fun w' => w'.cell? ⟨wr.heap.size, 1, none⟩ = some (.slice (some ⟨cb, co, none⟩) 1 ecap) ∧ w'.cell? ⟨wr.heap.size, 2, none⟩ = some (.pointer (some ⟨eto, 0, none⟩)) ∧ w'.cell? ⟨cb, co + 2, none⟩ = some (.int .i64 c.a.n) ∧ w'.cell? ⟨cb, co + 3, none⟩ = some (.string c.a.s) ∧ w'.cell? ⟨w1.heap.size, 0, none⟩ = some (.int .i64 v.n) ∧ w'.cell? ⟨w1.heap.size, 1, none⟩ = some (.string v.s))
                (first | go_keep | (refine ⟨?_, ?_, ?_, ?_, ?_, ?_⟩ <;> exact hbb.cell (by first | assumption | simp [*])))
                (first | (go_at_call 129; refine (compare_any c.a v _).mono ?_; rintro e w' ⟨rfl, hbb⟩))
              have hE9 : Ext wr w' := (((Ext.refl wr).alloc _).drew).trans hbb
              have z2 : w'.cell? ⟨wr.heap.size, 2, none⟩ = some (.pointer (some ⟨eto, 0, none⟩)) := hbb.cell (by simp)
              rename_i hheld
              clear hheld hbb d0 d1 d2 c2 c3 hc2a hc3a x0 x1 hx0a hx1a
              rcases Int.lt_trichotomy (cmpV c.a v) 0 with hlt | heq | hgt
              · have HUN : Hid (base ++ upto f es (t + 1) = cur) := HUNN.out (HSm.out.2 (by omega))
                clear HSm HGT HUYY HUNN
                generalize cmpV c.a v = cv at *
                go_wp2
                go_roundw
                case rel => exact ⟨ro, rcap, t + 1, by omega, by go_num, by rw [HUN.out], by rw [HUN.out]; exact hown.ext hE9, HN2.out, hEr2.trans hE9⟩
                case measure => simp [intOf]; omega
              · have HUY : Hid (base ++ upto f es (t + 1) = cur ++ [ptrB eto]) := HUYY.out (HSm.out.1 heq)
                clear HSm HGT HUYY HUNN
                rw [heq]
                go_wp2_with (at_builtin; go_must (refine wpList_app rfl (.tmp 74) (.tmp 77) 233 rfl 201 (.pointer none) 1 8 Tryz.underlying233 Tryz.infoPn rfl (by decide) ro cur.length rcap _ rfl (OSl.ext hown (hE9.alloc _)) (some ⟨w'.heap.size, 0, none⟩) 1 1 [ptrB eto] rfl (by intro h; cases h) rfl (fun _ => ⟨_, rfl, one_newB _ _ _ _ (by simp)⟩) (by intro u hu; simp at hu; subst hu; rfl) HB1.out HB2.out ?_; intro ro3 rcap3 w3 hown3 hk3 hat3))
                go_roundw
                case rel =>
                  have hao := app_out hEW.le (hEr2.trans (hE9.alloc _)) hk3 hat3 HN2.out
                  refine ⟨ro3, rcap3, t + 1, by omega, by go_num, by rw [HUY.out]; simp, ?_, hao.1, hao.2⟩
                  rw [HUY.out]
                  simpa using hown3
                case measure => simp [intOf]; omega
              · have HUS : Hid (base ++ upto f es es.length = cur) := HGT.out hgt
                have hnl : ¬ cmpV c.a v < 0 := by omega
                clear HSm HGT HUYY HUNN
                generalize cmpV c.a v = cv at *
                go_wp2
                go_roundw
                case rel => exact ⟨ro, rcap, k + 1, by omega, by go_num, by rw [hcs.out, HUS.out], by rw [hcs.out, HUS.out]; exact hown.ext hE9, HN2.out, hEr2.trans hE9⟩
                case measure => simp [intOf]; omega
        · have hte : t = es.length := by omega
          have HUS : Hid (base ++ upto f es es.length = base ++ upto f es t) := by show _ = _; rw [← hte]
          clear hed
          go_wp2
          dsimp only [Exit.noGoto, Exit.inBlock, Exit.then]
          go_at_K
          go_wp2
          go_roundw
          case rel => exact ⟨ro, rcap, k + 1, by omega, by go_num, by rw [hcs.out, HUS.out], by rw [hcs.out, HUS.out]; exact hown.ext (Ext.refl _), HN2.out, hEr2.trans (Ext.refl _)⟩
          case measure => simp [intOf]; omega
    · have hfin : Hid (fr.take k = fr) := List.take_of_length_le (by omega)
      rw [hfin.out] at hown ⊢
      clear hfoW
      go_wp2
      go_ret
      exact ⟨ro, rcap, rfl, hown, fun g hg => (hnew g hg).1, hEW.trans hEr⟩
end
end Go.Proofs.YtpbblaeamddbgaaGreat
namespace Go.Proofs.YtpbblaeamddbgaaGreat
open Go.RowKit

theorem clone_any (ao : Option Addr) (cap : Nat) (zs : List Int) (w : World) (hO : OSl w 3 1 ao zs.length cap (zs.map (Value.int .i64))) (hl : zs.length ≤ 1000000) :
    Calls Tryz.prog 45 #[.slice ao zs.length cap] w fun e w' => ∃ ro rcap, e = .returned (.slice ro zs.length rcap) ∧ OSl w' 3 1 ro zs.length rcap (zs.map (Value.int .i64)) ∧ (∀ g, blkOf ro = some g → w.heap.size ≤ g) ∧ Ext w w' := by
  rcases hO.form with ⟨rfl, h0, rfl, h1⟩ | ⟨g, cur, rfl, hh, h1, h2, h3, h4⟩
  · have e : zs = [] := List.eq_nil_of_length_eq_zero h0
    subst e
    refine (Tryz.slices_Clone_int_nil _ _ w).mono ?_
    rintro e w' ⟨rfl, rfl⟩
    exact ⟨none, 0, rfl, OSl.nil _ _ _, (fun g hg => by cases hg), Ext.refl _⟩
  · rcases Nat.eq_zero_or_pos zs.length with h0 | hp
    · have e : zs = [] := List.eq_nil_of_length_eq_zero h0
      subst e
      refine (Tryz.slices_Clone_int_zero ⟨g, 0, none⟩ cap w).mono ?_
      rintro e w' ⟨v, rfl, hown, hne, hB⟩
      obtain ⟨g', c, rfl, hg, hOo⟩ := osl_of_own' hown hne
      exact ⟨_, c, rfl, by simpa using hOo, fun k hk => by cases hk; exact hg, hB⟩
    · obtain ⟨b, o, h5, hI⟩ := osl_ixs hO hp
      cases h5
      refine (Tryz.slices_Clone_int g 0 zs.length cap zs w (Nat.le_refl _) (by omega) (fun j hj => hI j hj)).mono ?_
      rintro e w' ⟨v, rfl, hown, hne, hB⟩
      obtain ⟨g', c, rfl, hg, hOo⟩ := osl_of_own' hown hne
      rw [List.take_of_length_le (Nat.le_refl _)] at hOo
      exact ⟨_, c, rfl, hOo, fun k hk => by cases hk; exact hg, hB⟩

section
variable {w : World} {tb : Nat} {F : Nat → Prop} {order : List Int} {N : List (Nd Cd)} {R : List NdR} {oa : Option Addr} {oc : Nat} {ks : List (Int × List Cd)} {m : Nat}
theorem upto_kids (f : Int → Option Vl) (T : TreeAt w tb F order N R oa oc) (i : Nat) (hi : i < N.length) (hr : i < R.length) : upto f R[i].es R[i].es.length = (kidsMet (hB f) N[i].kids).map (ptrOf R) := by
  unfold upto kidsMet
  rw [List.take_length]
  exact key_met R (fun cs => cs.all (hB f)) R[i].es N[i].kids (T.nd i hi hr).key
theorem comes_front (f : Int → Option Vl) (T : TreeAt w tb F order N R oa oc) (d : Nat) (hfr : ∀ i ∈ front (hB f) N d, i < N.length) : comes f R (front (hB f) N d) = (front (hB f) N (d + 1)).map (ptrOf R) := by
  unfold comes
  rw [front, List.map_flatMap]
  unfold List.flatMap
  congr 1
  refine List.map_congr_left (fun i hi => ?_)
  have h1 := hfr i hi
  have h2 : i < R.length := by rw [T.len]; exact h1
  rw [List.getElem?_eq_getElem h1, List.getElem?_eq_getElem h2]
  exact upto_kids f T i h1 h2
theorem flat_bound {α β : Type} (g : α → List β) (B : Nat) : ∀ l : List α, (∀ x ∈ l, (g x).length ≤ B) → (l.flatMap g).length ≤ l.length * B
  | [], _ => by simp
  | a :: l, h => by
    have ih := flat_bound g B l (fun x hx => h x (List.mem_cons_of_mem _ hx))
    have h1 := h a List.mem_cons_self
    rw [List.flatMap_cons, List.length_append, List.length_cons, Nat.add_mul]
    omega
/-- The numbers at a node. -/
def idsAt (N : List (Nd Cd)) (i : Nat) : List Int := (N[i]?.map (·.ids)).getD []
theorem idsAt_le (O : TreeOK Cd.attr ceE order ks N m) (hks : ks.length ≤ 100) (i : Nat) : (idsAt N i).length ≤ 100 := by
  unfold idsAt
  rcases Nat.lt_or_ge i N.length with h | h
  · rw [List.getElem?_eq_getElem h]
    have := O.il i h
    simp; omega
  · rw [List.getElem?_eq_none h]; simp
theorem front_len (O : TreeOK Cd.attr ceE order ks N m) (h : Cd → Bool) (d : Nat) : (front h N d).length ≤ N.length := by
  obtain ⟨n1, n2⟩ := front_ok ceE_ord h O d
  exact nodup_len _ _ n1 (fun x hx => ((n2 x).1 hx).1)
theorem treeMet_len (O : TreeOK Cd.attr ceE order ks N m) (hks : ks.length ≤ 100) (hN : N.length ≤ 900) (h : Cd → Bool) : ∀ d, (treeMet h N d).length ≤ (d + 1) * 90000
  | 0 => by
    have h1 := flat_bound (fun i => idsAt N i) 100 (front h N 0) (fun i _ => idsAt_le O hks i)
    have h2 := front_len O h 0
    unfold treeMet
    simp only [List.range_succ, List.range_zero, List.nil_append, List.flatMap_cons, List.flatMap_nil, List.append_nil]
    unfold idsAt at h1
    omega
  | d + 1 => by
    have ih := treeMet_len O hks hN h d
    have h1 := flat_bound (fun i => idsAt N i) 100 (front h N (d + 1)) (fun i _ => idsAt_le O hks i)
    have h2 := front_len O h (d + 1)
    rw [treeMet_succ, List.length_append]
    unfold idsAt at h1
    omega
theorem metIds_mem (ks : List (Int × List Cd)) (f : Int → Option Vl) (x : Int) : x ∈ metIds ks f ↔ ∃ l, (x, l) ∈ ks ∧ l.all (hB f) = true := by
  unfold metIds
  simp only [List.mem_map, List.mem_filter, meets_hB]
  constructor
  · rintro ⟨⟨a, l⟩, ⟨h1, h2⟩, rfl⟩
    exact ⟨l, h1, h2⟩
  · rintro ⟨l, h1, h2⟩
    exact ⟨(x, l), ⟨h1, h2⟩, rfl⟩
theorem metIds_rise {ks : List (Int × List Cd)} (h : SortedF ks) (f : Int → Option Vl) : (metIds ks f).Pairwise (fun x y => x < y) := by
  unfold metIds
  rw [List.pairwise_map]
  refine List.Pairwise.filter _ ?_
  rw [List.pairwise_iff_getElem]
  exact fun i j hi hj hij => h i j hi hj hij
theorem sorted_uniq {ks : List (Int × List Cd)} (h : SortedF ks) (x : Int) (l l' : List Cd) (h1 : (x, l) ∈ ks) (h2 : (x, l') ∈ ks) : l = l' := by
  obtain ⟨i, hi, e1⟩ := List.getElem_of_mem h1
  obtain ⟨j, hj, e2⟩ := List.getElem_of_mem h2
  rcases Nat.lt_trichotomy i j with hij | hij | hij
  · have := h i j hi hj hij; rw [e1, e2] at this; simp at this
  · subst hij; rw [e1] at e2; cases e2; rfl
  · have := h j i hj hi hij; rw [e1, e2] at this; simp at this

set_option maxHeartbeats 3200000 in
set_option maxRecDepth 100000 in
theorem tmet_any (O : TreeOK Cd.attr ceE order ks N m) (T : TreeAt w tb F order N R oa oc) (eb : Nat) (f : Int → Option Vl) (hev : Row w eb 166 (evCells f)) (hN : N.length ≤ 900) (hks : ks.length ≤ 100) (hS : SortedF ks) (hord : order.length ≤ 6) (hor : ∀ x ∈ order, 0 ≤ x ∧ x < 6) (hnd : order.Nodup) (hat : ∀ k ∈ ks, ∀ c ∈ k.2, c.attr ∈ order) :
    Calls Tryz.prog 81 #[.pointer (some ⟨tb, 0, none⟩), .pointer (some ⟨eb, 0, none⟩)] w fun e w' => ∃ ro rcap, e = .returned (.slice ro (metIds ks f).length rcap) ∧ OSl w' 3 1 ro (metIds ks f).length rcap ((metIds ks f).map (Value.int .i64)) ∧ (∀ g, blkOf ro = some g → w.heap.size ≤ g) ∧ Ext w w' := by
  obtain ⟨rb0, hrb0, htr⟩ := T.row
  have hN0 : 0 < N.length := O.pos
  have hr0 : 0 < R.length := by rw [T.len]; exact O.pos
  have hrb1 : R[0].blk = rb0 := by
    rw [List.getElem?_eq_getElem hr0] at hrb0
    simpa using hrb0
  have n0 := T.nd 0 O.pos hr0
  have hm0 : treeMet (hB f) N 0 = N[0].ids := by
    unfold treeMet
    simp [List.range_succ, front, List.getElem?_eq_getElem O.pos]
  have HM := treeMet_ok ceE_ord (hB f) O (fun x l l' => sorted_uniq hS x l l') hnd hat
  have HSo : Hid ((treeMet (hB f) N order.length).mergeSort (fun x y => decide (x ≤ y)) = metIds ks f) := sorted_is _ _ HM.1 (metIds_rise hS f) (fun x => (HM.2 x).trans (metIds_mem ks f x).symm)
  have hil0 := O.il 0 O.pos
  have HC : Hid _ := clone_any R[0].ia R[0].icap N[0].ids w n0.ids (by omega)
  have t0 := htr.at (j := 0) rfl
  have t1 := htr.at (j := 1) rfl
  have z0 := n0.row.at (j := 0) rfl
  rw [hrb1] at z0
  have hfr : Hid (∀ d, ∀ i ∈ front (hB f) N d, i < N.length) := fun d i hi => (((front_ok ceE_ord (hB f) O d).2 i).1 hi).1
  have HF0 : Hid (front (hB f) N 0 = [0]) := rfl
  have HO : Hid (TreeOK Cd.attr ceE order ks N m) := O
  have HT : Hid (TreeAt w tb F order N R oa oc) := T
  clear HM n0 htr hrb0
  go_enter Tryz.func81, Tryz.ntmps81
  go_wp2_with fail
  refine Calls.mono HC.out ?_
  rintro e w1 ⟨ro0, rcap0, rfl, hown0, hnew0, hE1⟩
  rw [← hm0] at hown0
  have hm0l : N[0].ids.length = (treeMet (hB f) N 0).length := by rw [hm0]
  have u0 := hE1.cell t0
  have u1 := hE1.cell t1
  clear HC t0 t1 z0
  rw [hm0l]
  have htl := World.block_lt_of_cell? w1 _ u0
  have u0a : ∀ o, (w1.alloc o).cell? ⟨tb, 0, none⟩ = _ := fun o => ((Ext.refl w1).alloc o).cell u0
  go_wp2_with fail
  obtain ⟨W, hW⟩ : ∃ W, W = w1.alloc (.cells #[.pointer (some ⟨rb0, 0, none⟩)] 201) := ⟨_, rfl⟩
  have hEW : Ext w W := by rw [hW]; exact hE1.alloc _
  have hE1W : Ext w1 W := by rw [hW]; exact (Ext.refl _).alloc _
  have hfr0 : OSl W 201 1 (some ⟨w1.heap.size, 0, none⟩) 1 1 ((front (hB f) N 0).map (ptrOf R)) := by
    have hr : Row W w1.heap.size 201 [.pointer (some ⟨rb0, 0, none⟩)] := by rw [hW]; exact row_alloc _ _ _ _ _ rfl rfl
    refine osl_of_row hr 1 1 1 (Nat.le_refl _) (by decide) rfl ?_
    rw [HF0.out]
    simp [ptrOf, List.getElem?_eq_getElem hr0, hrb1, ptrB]
  rw [← hW]
  have hl1 := hE1.le
  have hdis0 : ∀ g, blkOf ro0 = some g → g ≠ w1.heap.size := fun g hg => by have := hown0.lt hg; omega
  have hown0W := hown0.ext hE1W
  clear hW hE1W hown0 u0 u1 u0a hm0 hm0l hE1
  have hl00 : (front (hB f) N 0).length = 1 := rfl
  go_loopw [5, 6, 29] (fun v5 v6 vi wr => ∃ (ro : Option Addr) (rcap : Nat) (fo : Option Addr) (fcap d : Nat), d ≤ order.length ∧ vi = .int .i64 d ∧ v5 = .slice ro (treeMet (hB f) N d).length rcap ∧ OSl wr 3 1 ro (treeMet (hB f) N d).length rcap ((treeMet (hB f) N d).map (Value.int .i64)) ∧ (∀ g, blkOf ro = some g → w.heap.size ≤ g) ∧ v6 = .slice fo (front (hB f) N d).length fcap ∧ OSl wr 201 1 fo (front (hB f) N d).length fcap ((front (hB f) N d).map (ptrOf R)) ∧ Ext w wr) (fun _ _ vi _ => order.length - (intOf vi).toNat)
  case atStart => exact ⟨ro0, rcap0, _, 1, 0, Nat.zero_le _, rfl, rfl, hown0W, hnew0, rfl, hfr0, hEW⟩
  case round =>
    obtain ⟨ro, rcap, fo, fcap, d, hd, rfl, rfl, hown, hnew, rfl, hfo, hEr⟩ := hrel
    clear hown0W hfr0 hdis0 hnew0 hl00
    have HN : Hid (∀ g, blkOf ro = some g → w.heap.size ≤ g) := hnew
    clear hnew
    have htl0 := treeMet_len HO.out hks hN (hB f) d
    by_cases hdl : d < order.length
    · obtain ⟨ob, oo, rfl, hI⟩ := HT.out.ord (by omega)
      have hcd := hEr.cell (hI d hdl)
      rw [List.getD_eq_getElem?_getD, List.getElem?_eq_getElem hdl, Option.getD_some] at hcd
      obtain ⟨hoa, hob⟩ := hor order[d] (List.getElem_mem hdl)
      obtain ⟨a, haa⟩ := Int.eq_ofNat_of_zero_le hoa
      have HAa : Hid (order[d] = (a : Int)) := haa
      rw [haa] at hcd hob
      have ha6 : a < 6 := by omega
      have HTr := HT.out.kp (hEr.kp (fun _ => False)) (fun _ _ h => h)
      have hcf := comes_front f HT.out d (hfr.out d)
      have hflen := front_len HO.out (hB f) d
      have hflen1 := front_len HO.out (hB f) (d + 1)
      have HRE : Hid _ := reached_any fo fcap (front (hB f) N d) eb a f wr HTr (hev.ext hEr) ha6 hfo (fun i hi => by rw [HT.out.len]; exact hfr.out d i hi) (fun i hi him => by
        have hiN : i < N.length := hfr.out d i him
        obtain ⟨_, hpl, _⟩ := ((front_ok ceE_ord (hB f) HO.out d).2 i).1 him
        have nn := HT.out.nd i hiN hi
        obtain ⟨k1, k2⟩ := keys_of nn
        refine ⟨fun e he c hc => ?_, by rw [k1]; exact HO.out.srt i hiN, by have := HO.out.kl i hiN; omega⟩
        have hmem : e.conds ∈ N[i].kids.map (·.1) := by rw [← k1]; exact List.mem_map.2 ⟨e, he, rfl⟩
        obtain ⟨⟨c', j⟩, hkj, e1⟩ := List.mem_map.1 hmem
        simp only at e1
        rw [e1] at hkj
        obtain ⟨hj, hpj⟩ := (HO.out.kid i hiN e.conds j).1 hkj
        have hlv := HO.out.lv j hj
        rw [hpj] at hlv
        have := hlv.2 d (by simp; omega) hdl c (by
          rw [List.getElem_append_right (by omega)]
          simpa [hpl] using hc)
        refine ⟨by rw [this, HAa.out], ?_⟩
        exact ((nn.cds e he).1.2 c hc)) (by rw [hcf]; simp; omega) (by omega)
      rw [hcf] at HRE
      simp only [List.length_map] at HRE
      have hro : ∀ g, blkOf ro = some g → g < wr.heap.size := fun g hg => hown.lt hg
      have hdi : (d : Int) < (order.length : Int) := by omega
      have hts := treeMet_succ (hB f) N d
      have HTS : Hid _ := hts
      clear hfo hI HTr hcf hts
      go_wp2_with fail
      refine Calls.mono HRE.out ?_
      rintro e w2 ⟨fo2, fcap2, rfl, hfo2, hnew2, hE2⟩
      clear HRE
      have hown2 := hown.ext hE2
      have hEr2 := hEr.trans hE2
      have hdis : ∀ g, blkOf ro = some g → blkOf fo2 ≠ some g := fun g hg e => by have := hro g hg; have := hnew2 g e; omega
      clear hown hnew2 hro hcd
      generalize hL : front (hB f) N (d + 1) = L at *
      have HL : Hid (∀ i ∈ L, i < N.length) := by show ∀ i ∈ L, _; rw [← hL]; exact hfr.out (d + 1)
      generalize treeMet (hB f) N d = tm at *
      have HLe : Hid (front (hB f) N (d + 1) = L) := hL
      clear hL hEr hE2
      go_wp2_with fail
      go_loopw [5, 39] (fun v5 vi wr2 => ∃ (ro : Option Addr) (rcap k : Nat), k ≤ L.length ∧ vi = .int .i64 k ∧ v5 = .slice ro (tm ++ (L.take k).flatMap (idsAt N)).length rcap ∧ OSl wr2 3 1 ro (tm ++ (L.take k).flatMap (idsAt N)).length rcap ((tm ++ (L.take k).flatMap (idsAt N)).map (Value.int .i64)) ∧ (∀ g, blkOf ro = some g → w.heap.size ≤ g) ∧ OSl wr2 201 1 fo2 L.length fcap2 (L.map (ptrOf R)) ∧ (∀ g, blkOf ro = some g → blkOf fo2 ≠ some g) ∧ Ext w wr2) (fun _ vi _ => L.length - (intOf vi).toNat)
      case atStart => exact ⟨ro, rcap, 0, Nat.zero_le _, rfl, by simp, by simpa using hown2, HN.out, hfo2, hdis, hEr2⟩
      case round =>
        obtain ⟨ro, rcap, k, hk, rfl, rfl, hown, hnew, hfo3, hdis3, hEr3⟩ := hrel
        clear hown2 hfo2 hdis hEr2 HN
        by_cases hkl : k < L.length
        · obtain ⟨i, hie⟩ : ∃ i, i = L[k] := ⟨_, rfl⟩
          have hiN : i < N.length := HL.out i (by rw [hie]; exact List.getElem_mem hkl)
          have hiR : i < R.length := by rw [HT.out.len]; exact hiN
          have nn := HT.out.nd i hiN hiR
          have hpt : (L.map (ptrOf R))[k]? = some (ptrB R[i].blk) := by
            rw [List.getElem?_map, List.getElem?_eq_getElem hkl, ← hie]
            simp [ptrOf, List.getElem?_eq_getElem hiR]
          obtain ⟨fg, rfl, fc⟩ := hfo3.at hpt
          have fc1 : wr.cell? ⟨fg, k, none⟩ = some (.pointer (some ⟨R[i].blk, 0, none⟩)) := fc
          have z0 := (nn.row.ext hEr3).at (j := 0) rfl
          have hids := nn.ids.ext hEr3
          have hil := HO.out.il i hiN
          have hst : Hid (tm ++ (L.take (k + 1)).flatMap (idsAt N) = tm ++ (L.take k).flatMap (idsAt N) ++ N[i].ids) := by
            show _ = _
            rw [List.take_succ_eq_append_getElem hkl, List.flatMap_append, ← hie, ← List.append_assoc]
            simp [idsAt, List.getElem?_eq_getElem hiN]
          have hfb := flat_bound (idsAt N) 100 (L.take k) (fun x _ => idsAt_le HO.out hks x)
          have hlk : (L.take k).length ≤ 900 := by simp; omega
          have hcl : (tm ++ (L.take k).flatMap (idsAt N)).length ≤ 720000 := by
            rw [List.length_append]
            have : (d + 1) * 90000 ≤ 6 * 90000 := Nat.mul_le_mul_right _ (by omega)
            omega
          generalize tm ++ (L.take k).flatMap (idsAt N) = cur at *
          have hno : R[i].ia = none → N[i].ids.length = 0 ∧ R[i].icap = 0 := fun h => by
            rcases nn.ids.form with ⟨_, h1, h2, _⟩ | ⟨g, _, h1, _⟩
            · exact ⟨h1, h2⟩
            · rw [h] at h1; cases h1
          have hsrc : 0 < N[i].ids.length → ∃ ad, R[i].ia = some ad ∧ ∀ j u, (N[i].ids.map (Value.int .i64))[j]? = some u → wr.cell? (ad.add j) = some u := fun hp => by
            obtain ⟨g, Lr, h1, h2, _, _, h3, h4⟩ := row_of_osl hids hp
            refine ⟨_, h1, fun j u hj => ?_⟩
            rw [add_lt]
            refine h2.at ?_
            rw [← h4, List.getElem?_take] at hj
            split at hj
            · exact hj
            · cases hj
          have HNO : Hid _ := hno
          have HSR : Hid _ := hsrc
          have HB1 : Hid (cur.length + N[i].ids.length ≤ maxLen) := by show _ ≤ _; unfold maxLen; omega
          have HB2 : Hid ((cur.length + N[i].ids.length) * 8 ≤ 140737488355328) := by show _ ≤ _; omega
          have HN3 : Hid (∀ g, blkOf ro = some g → w.heap.size ≤ g) := hnew
          have HD3 : Hid (∀ g, blkOf ro = some g → blkOf (some (⟨fg, 0, none⟩ : Addr)) ≠ some g) := hdis3
          have hfl := hfo3.lt (g := fg) rfl
          clear nn hpt hids hno hsrc hnew hdis3 fc
          generalize R[i].ia = ia at *
          generalize R[i].icap = icap at *
          generalize R[i].blk = ib at *
          generalize N[i].ids = ni at *
          go_wp2_with (at_builtin; go_must (refine wpList_app rfl (.tmp 43) (.tmp 47) 25 rfl 3 (.int .i64 0) 1 8 Tryz.underlying25 Tryz.infoInt rfl (by decide) ro cur.length rcap _ rfl hown ia ni.length icap (ni.map (Value.int .i64)) rfl HNO.out (by simp) HSR.out (by intro u hu; obtain ⟨x, _, rfl⟩ := List.mem_map.1 hu; rfl) HB1.out HB2.out ?_; intro ro3 rcap3 w3 hown3 hk3 hat3))
          go_roundw
          case rel =>
            refine ⟨ro3, rcap3, k + 1, by omega, by go_num, by rw [hst.out]; simp, ?_, fresh2 hEr3.le HN3.out hat3, hfo3.kp hk3 (fun g hg h => HD3.out g h hg), fun g hg h => ?_, hEr3.kpNew hk3 HN3.out⟩
            · rw [hst.out]
              simpa using hown3
            · cases h
              rcases hat3.out with e | e
              · rw [e] at hg; exact HD3.out _ hg rfl
              · rw [e] at hg; cases hg; exact absurd hfl (Nat.lt_irrefl _)
          case measure => simp [intOf]; omega
        · have hte : L.take k = L := List.take_of_length_le (by omega)
          rw [hte] at hown ⊢
          have HT2 : Hid (treeMet (hB f) N (d + 1) = tm ++ L.flatMap (idsAt N)) := HTS.out
          clear hte
          generalize tm ++ L.flatMap (idsAt N) = cur at *
          go_wp2
          go_roundw
          case rel => exact ⟨ro, rcap, fo2, fcap2, d + 1, by omega, by go_num, by rw [HT2.out], by rw [HT2.out]; exact hown, hnew, by rw [HLe.out], by rw [HLe.out]; exact hfo3, hEr3⟩
          case measure => simp [intOf]; omega
    · have hde : d = order.length := by omega
      subst hde
      clear hfo
      generalize treeMet (hB f) N order.length = tm at *
      have hlt2 : tm.length < 4611686018427387904 := by omega
      have HSrt : Hid _ := sort_any ro rcap tm wr hown hlt2
      have hml : tm.length = (metIds ks f).length := by rw [← HSo.out]; simp
      rw [HSo.out, hml] at HSrt
      rw [hml]
      clear hown hlt2
      go_wp2_with fail
      refine Calls.mono HSrt.out ?_
      rintro e w2 ⟨rfl, hown2, hk2⟩
      have HO2 : Hid _ := hown2
      clear hown2 HSrt
      go_wp2
      go_ret
      exact ⟨ro, rcap, rfl, HO2.out, HN.out, hEr.kpNew hk2 HN.out⟩
end
end Go.Proofs.YtpbblaeamddbgaaGreat
