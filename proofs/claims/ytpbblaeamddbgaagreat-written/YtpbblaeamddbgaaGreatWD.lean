import Derived.Test.YtpbblaeamddbgaaGreatKD
import Derived.Test.YtpbblaeamddbgaaGreatWA
import Derived.Test.YtpbblaeamddbgaaGreatWC
import Derived.Test.YtpbblaeamddbgaaGreatKB
namespace Go.Proofs.YtpbblaeamddbgaaGreat
open Go.RowKit Go.ChangeShapes Go.WideShapes

/-- The numbers of a raw condition are such. -/
def WtN (x : Wt) : Prop := (-9223372036854775808 ≤ x.n ∧ x.n ≤ 9223372036854775807) ∧ -9223372036854775808 ≤ x.m ∧ x.m ≤ 9223372036854775807
theorem val_n (a : Nat) (n : Int) (s : ByteArray) (h : -9223372036854775808 ≤ n ∧ n ≤ 9223372036854775807) : -9223372036854775808 ≤ (valOf a n s).n ∧ (valOf a n s).n ≤ 9223372036854775807 := by
  unfold valOf
  split
  · exact h
  · split <;> exact ⟨(by decide : (-9223372036854775808 : Int) ≤ 0), (by decide : (0 : Int) ≤ 9223372036854775807)⟩
theorem may_tell (c : Cd) (h : mayB sch4 c = true) : tellB c = true := by
  simp only [mayB, mayK, Bool.and_eq_true, decide_eq_true_eq] at h
  obtain ⟨⟨⟨⟨h0, h4⟩, h1⟩, h9⟩, _, hf, hs⟩ := h
  have h4' : c.attr < 4 := h4
  have em : ∀ s : ByteArray, s.toList.isEmpty = true → s.size ≤ 20 := fun s hs => by
    have : s.toList = [] := by simpa using hs
    rw [ByteArray.toList_eq] at this
    have h0 : s.data.toList.length = s.size := rfl
    rw [this] at h0
    simp at h0
    omega
  have hn : ∀ v : Vl, noneB v = true → v.s.size ≤ 20 := fun v hv => by
    simp only [noneB, Bool.and_eq_true] at hv
    exact em _ hv.2
  have hft : ∀ (k : Int) (v : Vl), fitsB k v = true → v.s.size ≤ 20 := fun k v hv => by
    unfold fitsB at hv
    split at hv
    · exact em _ hv
    · simp only [Bool.and_eq_true, decide_eq_true_eq] at hv
      omega
  have ha : c.a.s.size ≤ 20 := by
    unfold firstB at hf
    split at hf
    · exact hn _ hf
    · exact hft _ _ hf
  have hb : c.b.s.size ≤ 20 := by
    unfold secondB at hs
    split at hs
    · exact hft _ _ hs
    · exact hn _ hs
  simp only [tellB, Bool.and_eq_true, decide_eq_true_eq]
  exact ⟨⟨⟨⟨h0, by omega⟩, h1, h9⟩, ha⟩, hb⟩
theorem filter_tells (l : List Wt) (h : ∀ x ∈ l, WtN x) : Tells (filterOf l) := by
  have hx : ∀ c ∈ filterOf l, ∃ x ∈ l, c = condOf x := fun c hc => by
    obtain ⟨x, hx, rfl⟩ := List.mem_map.1 hc
    exact ⟨x, List.mem_of_mem_take hx, rfl⟩
  refine ⟨filter_len l, fun c hc => ?_, fun c hc => ?_, fun c hc => ?_⟩
  · obtain ⟨x, _, rfl⟩ := hx c hc
    exact may_tell _ (cond_may x)
  · obtain ⟨x, hm, rfl⟩ := hx c hc
    show _ ≤ (if kindOf x = 9 then vz else valOf (pickI x.attr 4) x.n x.s).n ∧ (if kindOf x = 9 then vz else valOf (pickI x.attr 4) x.n x.s).n ≤ _
    split
    · exact ⟨by decide, by decide⟩
    · exact val_n _ _ _ (h x hm).1
  · obtain ⟨x, hm, rfl⟩ := hx c hc
    show _ ≤ (if kindOf x = 7 then valOf (pickI x.attr 4) x.m x.t else vz).n ∧ (if kindOf x = 7 then valOf (pickI x.attr 4) x.m x.t else vz).n ≤ _
    split
    · exact val_n _ _ _ (h x hm).2
    · exact ⟨by decide, by decide⟩
section
variable {H : Type} {enc : TypeId × Value → H} {w : World} {base : Nat} {spare : Nat → Bool} {held : Bool}
set_option maxRecDepth 100000 in
theorem wtn_of {fuel : Nat} {cs : List Value} {x : DataW H × List MemPlace} (h : DataW.trod enc Tryz.prog w base spare held fuel 136 cs = some x) : ∃ c : Wt, cs = c.cells ∧ WtOK c ∧ WtN c := by
  obtain ⟨xs, n, rfl, hx, hl, hxl, hf⟩ := DataW.trod_struct Tryz.underlying136 h
  rw [Tryz.cellsWt] at hl
  match cs, hl with
  | [c0, c1, c2, c3, c4, c5], _ =>
    have f0 : DataW.trod enc Tryz.prog w base spare held n 3 (List.take (Tryz.prog.cellsOf 3) (List.drop 0 [c0, c1, c2, c3, c4, c5])) = xs[0]? := hf 0 _ rfl
    have f1 : DataW.trod enc Tryz.prog w base spare held n 3 (List.take (Tryz.prog.cellsOf 3) (List.drop 1 [c0, c1, c2, c3, c4, c5])) = xs[1]? := hf 1 _ rfl
    have f2 : DataW.trod enc Tryz.prog w base spare held n 2 (List.take (Tryz.prog.cellsOf 2) (List.drop 2 [c0, c1, c2, c3, c4, c5])) = xs[2]? := hf 2 _ rfl
    have f3 : DataW.trod enc Tryz.prog w base spare held n 2 (List.take (Tryz.prog.cellsOf 2) (List.drop 3 [c0, c1, c2, c3, c4, c5])) = xs[3]? := hf 3 _ rfl
    have f4 : DataW.trod enc Tryz.prog w base spare held n 9 (List.take (Tryz.prog.cellsOf 9) (List.drop 4 [c0, c1, c2, c3, c4, c5])) = xs[4]? := hf 4 _ rfl
    have f5 : DataW.trod enc Tryz.prog w base spare held n 9 (List.take (Tryz.prog.cellsOf 9) (List.drop 5 [c0, c1, c2, c3, c4, c5])) = xs[5]? := hf 5 _ rfl
    rw [Tryz.cellsInt, List.getElem?_eq_getElem (by rw [hxl]; decide)] at f0
    rw [Tryz.cellsInt, List.getElem?_eq_getElem (by rw [hxl]; decide)] at f1
    rw [Tryz.cellsI64, List.getElem?_eq_getElem (by rw [hxl]; decide)] at f2
    rw [Tryz.cellsI64, List.getElem?_eq_getElem (by rw [hxl]; decide)] at f3
    rw [Tryz.cellsStr, List.getElem?_eq_getElem (by rw [hxl]; decide)] at f4
    rw [Tryz.cellsStr, List.getElem?_eq_getElem (by rw [hxl]; decide)] at f5
    obtain ⟨a, e0, _, w0⟩ := DataW.trod_int Tryz.underlying3 f0
    obtain ⟨b, e1, _, w1⟩ := DataW.trod_int Tryz.underlying3 f1
    obtain ⟨c, e2, _, w2⟩ := DataW.trod_int Tryz.underlying2 f2
    obtain ⟨d, e3, _, w3⟩ := DataW.trod_int Tryz.underlying2 f3
    obtain ⟨s, e4, _, _⟩ := DataW.trod_string Tryz.underlying9 f4
    obtain ⟨t, e5, _, _⟩ := DataW.trod_string Tryz.underlying9 f5
    simp at e0 e1 e2 e3 e4 e5
    subst e0 e1 e2 e3 e4 e5
    exact ⟨⟨a, b, c, d, s, t⟩, rfl, ⟨bounds_i64 w0, bounds_i64 w1⟩, bounds_i64 w2, bounds_i64 w3⟩
theorem wxn_of {fuel : Nat} {v : Value} {x : DataW H × List MemPlace} (h : DataW.trod enc Tryz.prog w base spare held fuel 37 [v] = some x) (hz : Sz 37 x.1) : ∃ y : WL, v = .slice y.ao y.l.length y.cap ∧ Wxs w y.ao y.l ∧ y.l.length ≤ 140737488355328 ∧ ∀ c ∈ y.l, WtOK c ∧ WtN c := by
  rcases Go.Deep.open_slice Tryz.underlying37 h with ⟨hcs, hx⟩ | ⟨a, len, cap, m, n, D, Pl, hcs, _, hl, hm, hmm, hx, hel⟩
  · simp at hcs
    exact ⟨⟨[], none, 0⟩, hcs, fun h => absurd h (by simp), by simp, fun c hc => absurd hc (by simp)⟩
  · simp at hcs
    have hle : len ≤ m := by rw [hmm]; split <;> omega
    subst hx
    have hb := hz.len Tryz.underlying37
    rw [Tryz.bytesWt] at hb
    simp only [List.length_map, List.length_range, reachBytes] at hb
    obtain ⟨l, hll, hp⟩ := list_of (α := Wt) (p := fun i c => (∀ j, j < 6 → w.cell? (a.add (i * 6 + j)) = c.cells[j]?) ∧ WtOK c ∧ WtN c) len (fun i hi => by
      obtain ⟨cs', h1, h2⟩ := hel i (by omega)
      rw [Tryz.cellsWt] at h1
      obtain ⟨c, rfl, hs⟩ := wtn_of h2
      exact ⟨c, (cells_at h1).2, hs⟩)
    refine ⟨⟨l, some a, cap⟩, by show v = .slice (some a) l.length cap; rw [hll]; exact hcs, fun h0 => ?_, by show l.length ≤ _; omega, fun c hc => ?_⟩
    · have c0 : w.cell? (a.add (0 * 6 + 0)) = some (.int .i64 l[0].attr) := (hp 0 h0).1 0 (by decide)
      obtain ⟨b, o, rfl⟩ := spot_of rfl c0
      refine ⟨b, o, rfl, fun k hk => fun j u hj => ?_⟩
      have hj6 : j < 6 := by have := (List.getElem?_eq_some_iff.1 hj).1; simpa [Wt.cells] using this
      have hh := (hp k hk).1 j hj6
      rw [add_at] at hh
      rw [Nat.add_assoc, hh, hj]
    · obtain ⟨i, hi, rfl⟩ := List.mem_iff_getElem.1 hc
      exact (hp i hi).2
end
end Go.Proofs.YtpbblaeamddbgaaGreat
namespace Go.Proofs.YtpbblaeamddbgaaGreat
open Go.RowKit

set_option maxRecDepth 100000 in
theorem tenc_ok (ao : Option Addr) (cap : Nat) (l : List Cd) (w : World) (hT : Tells l) (hc : Cxs w ao l) :
    Calls Tryz.prog 32 #[.slice ao l.length cap] w fun e w' => e = .returned (.tuple #[.string (strB (enc l)), .int .i64 0]) ∧ Ext w w' := by
  have HE : Hid _ := encode_any ao cap l w hT.len hc
  have HT : Hid (∀ c ∈ l, tellB c = true) := hT.tell
  clear hT hc
  go_enter Tryz.func32, Tryz.ntmps32
  go_wp2_with fail
  refine Calls.mono HE.out ?_
  rintro e w1 ⟨hc, hE⟩
  rcases hc with ⟨_, rfl⟩ | ⟨h, _⟩
  · go_wp2
    go_ret2
    exact ⟨rfl, hE⟩
  · exact absurd HT.out h
/-- What Decode answers, whatever the bytes. -/
def DecPost (L : List UInt8) (w : World) (e : Ending) (w' : World) : Prop := ∃ (eo : Option Addr) (en ec : Nat) (eh : Int), e = .returned (.tuple #[.slice eo en ec, .int .i64 eh]) ∧ (goodT L → eh = 0 ∧ en = (dec L).length ∧ ∃ g, eo = some ⟨g, 0, none⟩ ∧ Row w' g 80 ((dec L).flatMap Cd.cells)) ∧ Ext w w'
set_option maxRecDepth 100000 in
theorem tdec_any (L : List UInt8) (w : World) (hL : L.length ≤ 9223372036854775807) :
    Calls Tryz.prog 30 #[.string (strB L)] w fun e w' => DecPost L w e w' := by
  have HE : Hid _ := decode_any L w hL
  go_enter Tryz.func30, Tryz.ntmps30
  go_wp2_with fail
  refine Calls.mono HE.out ?_
  rintro e w1 ⟨hc, hE⟩
  rcases hc with ⟨hg, g, rfl, hr, _⟩ | ⟨h, rfl⟩
  · go_wp2
    go_ret2
    exact ⟨_, _, _, _, rfl, fun _ => ⟨rfl, rfl, g, rfl, hr⟩, hE⟩
  · go_wp2
    go_ret2
    exact ⟨_, _, _, _, rfl, fun h' => absurd h' h, hE⟩
end Go.Proofs.YtpbblaeamddbgaaGreat
namespace Go.Proofs.YtpbblaeamddbgaaGreat
open Go.RowKit

/-- The same conditions? -/
def sameB (c d : Cd) : Bool := c.attr == d.attr && (c.kind == d.kind && ((c.a.n == d.a.n && c.a.s.toList == d.a.s.toList) && (c.b.n == d.b.n && c.b.s.toList == d.b.s.toList)))
def sameL : List Cd → List Cd → Bool
  | [], [] => true
  | c :: l, d :: m => sameB c d && sameL l m
  | _, _ => false
theorem sameB_iff (c d : Cd) : sameB c d = true ↔ c = d := by
  constructor
  · intro hb
    unfold sameB at hb
    obtain ⟨ca, ck, ⟨an, ⟨⟨la⟩⟩⟩, ⟨bn, ⟨⟨lb⟩⟩⟩⟩ := c
    obtain ⟨da, dk, ⟨cn, ⟨⟨lc⟩⟩⟩, ⟨dn, ⟨⟨ld⟩⟩⟩⟩ := d
    simp only [Bool.and_eq_true, beq_iff_eq, ByteArray.toList_eq] at hb
    obtain ⟨rfl, rfl, ⟨rfl, rfl⟩, rfl, rfl⟩ := hb
    rfl
  · rintro rfl
    simp [sameB]
theorem sameL_iff : ∀ l m : List Cd, sameL l m = true ↔ l = m
  | [], [] => by simp [sameL]
  | [], _ :: _ => by simp [sameL]
  | _ :: _, [] => by simp [sameL]
  | c :: l, d :: m => by simp [sameL, sameB_iff, sameL_iff l m]
/-- Are two filters alike up to there? -/
def alikeB (x y : List Cd) (k : Nat) : Bool := decide (x.length = y.length) && sameL (x.take k) (y.take k)
theorem alikeB_iff (x y : List Cd) (k : Nat) : alikeB x y k = true ↔ (x.length = y.length ∧ x.take k = y.take k) := by
  unfold alikeB; simp only [Bool.and_eq_true, decide_eq_true_eq, sameL_iff]
theorem alikeB_not (x y : List Cd) (k : Nat) : alikeB x y k = false ↔ ¬ (x.length = y.length ∧ x.take k = y.take k) := by
  rw [← alikeB_iff]; cases alikeB x y k <;> simp
theorem alike_end (x y : List Cd) : alikeB x y x.length = true ↔ x = y := by
  rw [alikeB_iff]
  constructor
  · rintro ⟨h1, h2⟩
    rw [List.take_of_length_le (Nat.le_refl _), List.take_of_length_le (by omega)] at h2
    exact h2
  · rintro rfl
    exact ⟨rfl, rfl⟩
theorem alike_zero (x y : List Cd) : alikeB x y 0 = ((x.length : Int) == (y.length : Int)) := by
  by_cases h : x.length = y.length
  · rw [(alikeB_iff x y 0).2 ⟨h, by simp⟩]; simp [h]
  · rw [(alikeB_not x y 0).2 (fun h' => h h'.1)]
    symm
    simp only [beq_eq_false_iff_ne, ne_eq]
    omega
theorem alike_yes (x y : List Cd) (k : Nat) (hx : k < x.length) (hy : k < y.length) (h : alikeB x y k = true) (he : x[k] = y[k]) : alikeB x y (k + 1) = true := by
  obtain ⟨h1, h2⟩ := (alikeB_iff x y k).1 h
  refine (alikeB_iff x y (k + 1)).2 ⟨h1, ?_⟩
  rw [List.take_succ_eq_append_getElem hx, List.take_succ_eq_append_getElem hy, h2, he]
theorem alike_ne (x y : List Cd) (k : Nat) (hx : k < x.length) (hy : k < y.length) (he : ¬ x[k] = y[k]) : alikeB x y (k + 1) = false := by
  refine (alikeB_not x y (k + 1)).2 fun ⟨h1, h2⟩ => he ?_
  rw [List.take_succ_eq_append_getElem hx, List.take_succ_eq_append_getElem hy] at h2
  have := (List.append_inj h2 (by simp; omega)).2
  simpa using this
theorem alike_no (x y : List Cd) (k : Nat) (h : alikeB x y k = false) : alikeB x y (k + 1) = false := by
  refine (alikeB_not x y (k + 1)).2 fun ⟨h1, h2⟩ => (alikeB_not x y k).1 h ⟨h1, ?_⟩
  have := congrArg (List.take k) h2
  rwa [List.take_take, List.take_take, Nat.min_eq_left (by omega)] at this
theorem str_full {X : List UInt8} (h : ¬ X = []) : (strB X).toList.isEmpty = false := by
  rw [ByteArray.toList_eq]
  simpa [strB] using h
theorem cd_ne {c d : Cd} (h : ¬ c = d) : (c.attr == d.attr && (c.kind == d.kind && ((c.a.n == d.a.n && c.a.s.toList == d.a.s.toList) && (c.b.n == d.b.n && c.b.s.toList == d.b.s.toList)))) = false := by
  cases hb : sameB c d with
  | false => exact hb
  | true => exact absurd ((sameB_iff c d).1 hb) h
theorem eqCd_no {x y : Cd} (h : ¬ x = y) : ∀ w, (binOp .eql 80 (.agg #[.int .i64 x.attr, .int .i64 x.kind, .int .i64 x.a.n, .string x.a.s, .int .i64 x.b.n, .string x.b.s]) (.agg #[.int .i64 y.attr, .int .i64 y.kind, .int .i64 y.a.n, .string y.a.s, .int .i64 y.b.n, .string y.b.s])).run Tryz.prog w = .ok (.bool false) w := fun w => by
  rw [eqCd_run, ← cd_eq_iff, cd_ne h]
section
variable {E : World → Nat → (Nat → Prop) → List Int → List (Int × List Cd) → Int → Prop}
set_option maxHeartbeats 3200000 in
set_option maxRecDepth 100000 in
theorem written_walk (C : EngC E) (raw : ByteArray) (ao bo : Option Addr) (acap bcap : Nat) (la lb : List Wt) (w : World) (hraw : raw.size ≤ 9223372036854775807)
    (ha : Wxs w ao la) (hal : la.length ≤ 140737488355328) (hax : ∀ c ∈ la, WtOK c ∧ WtN c) (hb : Wxs w bo lb) (hbl : lb.length ≤ 140737488355328) (hbx : ∀ c ∈ lb, WtOK c ∧ WtN c) :
    Calls Tryz.prog 10 #[.string raw, .slice ao la.length acap, .slice bo lb.length bcap] w fun e w' => e = .returned (.bool true) ∧ Ext w w' := by
  obtain ⟨R, rfl⟩ : ∃ R, raw = strB R := ⟨bl raw, (str_bl raw).symm⟩
  rw [str_size] at hraw
  have HD1 : Hid (Calls Tryz.prog 30 #[.string (strB R)] w fun e w' => DecPost R w e w') := tdec_any R w hraw
  have HKn : Hid (∀ W, Calls Tryz.prog 31 #[] W fun e w' => e = .returned (.bool true) ∧ Ext W w') := fun W => known_any C W
  have HFa : Hid (∀ W, Ext w W → Calls Tryz.prog 25 #[.slice ao la.length acap] W fun e w' => ∃ ro rcap, e = .returned (.slice ro (filterOf la).length rcap) ∧ OSl w' 80 6 ro (filterOf la).length rcap ((filterOf la).flatMap Cd.cells) ∧ (∀ g, blkOf ro = some g → W.heap.size ≤ g) ∧ Ext W w') := fun W h => filter_any ao acap la W hal (ha.ext h) (fun x hx => (hax x hx).1)
  have HFb : Hid (∀ W, Ext w W → Calls Tryz.prog 25 #[.slice bo lb.length bcap] W fun e w' => ∃ ro rcap, e = .returned (.slice ro (filterOf lb).length rcap) ∧ OSl w' 80 6 ro (filterOf lb).length rcap ((filterOf lb).flatMap Cd.cells) ∧ (∀ g, blkOf ro = some g → W.heap.size ≤ g) ∧ Ext W w') := fun W h => filter_any bo bcap lb W hbl (hb.ext h) (fun x hx => (hbx x hx).1)
  have HTx : Hid (Tells (filterOf la)) := filter_tells la (fun x hx => (hax x hx).2)
  have HTy : Hid (Tells (filterOf lb)) := filter_tells lb (fun x hx => (hbx x hx).2)
  clear ha hax hb hbx
  generalize filterOf la = x at *
  generalize filterOf lb = y at *
  have HEx : Hid (∀ W ro cap, Cxs W ro x → Calls Tryz.prog 32 #[.slice ro x.length cap] W fun e w' => e = .returned (.tuple #[.string (strB (enc x)), .int .i64 0]) ∧ Ext W w') := fun W ro cap h => tenc_ok ro cap x W HTx.out h
  have HEy : Hid (∀ W ro cap, Cxs W ro y → Calls Tryz.prog 32 #[.slice ro y.length cap] W fun e w' => e = .returned (.tuple #[.string (strB (enc y)), .int .i64 0]) ∧ Ext W w') := fun W ro cap h => tenc_ok ro cap y W HTy.out h
  have hx8 := HTx.out.len
  have hy8 := HTy.out.len
  have hxe : (enc x).length ≤ 481 := by
    have := encL_len x HTx.out.tell
    simp only [enc, List.length_cons]; omega
  have HDx : Hid (∀ W, Calls Tryz.prog 30 #[.string (strB (enc x))] W fun e w' => ∃ g ec, e = .returned (.tuple #[.slice (some ⟨g, 0, none⟩) x.length ec, .int .i64 0]) ∧ Row w' g 80 (x.flatMap Cd.cells) ∧ Ext W w') := fun W => by
    refine (tdec_any (enc x) W (by omega)).mono ?_
    rintro e w' ⟨eo, en, ec, eh, rfl, hg, hE⟩
    obtain ⟨rfl, rfl, g, rfl, hr⟩ := hg (goodT_enc HTx.out)
    rw [dec_enc HTx.out] at hr ⊢
    exact ⟨g, ec, rfl, hr, hE⟩
  have HGd : Hid (enc x = R → goodT R ∧ dec R = x) := fun h => by subst h; exact ⟨goodT_enc HTx.out, dec_enc HTx.out⟩
  have HIn : Hid (enc x = enc y ↔ x = y) := ⟨fun h => enc_inj HTx.out HTy.out h, fun h => by rw [h]⟩
  have HX0 : Hid (¬ enc x = []) := fun h => by simp [enc] at h
  generalize enc x = X at *
  generalize enc y = Y at *
  clear HTx HTy hxe
  go_enter Tryz.func10, Tryz.ntmps10
  go_wp2_with fail
  refine Calls.mono HD1.out ?_
  rintro e w1 ⟨eo, en, ec, eh, rfl, hg, hE1⟩
  have HEa1 : Hid (X = R → eh = 0 ∧ en = x.length ∧ ∃ g, eo = some ⟨g, 0, none⟩ ∧ Row w1 g 80 (x.flatMap Cd.cells)) := fun h => by
    obtain ⟨h1, h2⟩ := HGd.out h
    have := hg h1
    rwa [h2] at this
  have HE1 : Hid (Ext w w1) := hE1
  clear hg hE1 HD1 HGd
  go_wp2_with fail
  refine Calls.mono (HKn.out _) ?_
  rintro e w2 ⟨rfl, hE2⟩
  have HE2 : Hid (Ext w1 w2) := hE2
  clear hE2 HKn
  go_wp2_with fail
  refine Calls.mono (HFa.out _ (HE1.out.trans HE2.out)) ?_
  rintro e w3 ⟨xo, xc, rfl, hO3, _, hE3⟩
  have HO3 : Hid (OSl w3 80 6 xo x.length xc (x.flatMap Cd.cells)) := hO3
  have HE3 : Hid (Ext w1 w3) := HE2.out.trans hE3
  clear hO3 hE3 HFa HE2
  go_wp2_with fail
  refine Calls.mono (HFb.out _ (HE1.out.trans HE3.out)) ?_
  rintro e w4 ⟨yo, yc, rfl, hO4, _, hE4⟩
  have HOy4 : Hid (OSl w4 80 6 yo y.length yc (y.flatMap Cd.cells)) := hO4
  have HOx4 : Hid (OSl w4 80 6 xo x.length xc (x.flatMap Cd.cells)) := OSl.ext HO3.out hE4
  have HE4 : Hid (Ext w1 w4) := HE3.out.trans hE4
  clear hO4 hE4 HFb HE3 HO3
  go_wp2_with fail
  refine Calls.mono (HEx.out _ xo xc (cxs_osl HOx4.out)) ?_
  rintro e w5 ⟨rfl, hE5⟩
  have HE45 : Hid (Ext w4 w5) := hE5
  clear hE5 HEx
  go_wp2_with fail
  refine Calls.mono (HEy.out _ yo yc (cxs_osl (OSl.ext HOy4.out HE45.out))) ?_
  rintro e w6 ⟨rfl, hE6⟩
  have HE46 : Hid (Ext w4 w6) := HE45.out.trans hE6
  clear hE6 HEy HE45
  go_wp2_with fail
  refine Calls.mono (HDx.out _) ?_
  rintro e w7 ⟨bg, bc, rfl, hR7, hE7⟩
  have HB7 : Hid (Row w7 bg 80 (x.flatMap Cd.cells)) := hR7
  have HX7 : Hid (Cxs w7 xo x) := (cxs_osl HOx4.out).ext (HE46.out.trans hE7)
  have HY7 : Hid (Cxs w7 yo y) := (cxs_osl HOy4.out).ext (HE46.out.trans hE7)
  have HE7 : Hid (Ext w w7) := HE1.out.trans (HE4.out.trans (HE46.out.trans hE7))
  have HEa7 : Hid (X = R → eh = 0 ∧ en = x.length ∧ ∃ g, eo = some ⟨g, 0, none⟩ ∧ Row w7 g 80 (x.flatMap Cd.cells)) := fun h => by
    obtain ⟨h1, h2, g, h3, h4⟩ := HEa1.out h
    exact ⟨h1, h2, g, h3, Row.ext h4 (HE4.out.trans (HE46.out.trans hE7))⟩
  clear hR7 hE7 HDx HEa1 HE1 HE4 HE46 HOx4 HOy4
  have hX0 : (strB X).toList.isEmpty = false := str_full HX0.out
  by_cases hXR : X = R
  · subst hXR
    obtain ⟨rfl, rfl, g, rfl, hR⟩ := HEa7.out rfl
    have HRe : Hid (Row w7 g 80 (x.flatMap Cd.cells)) := hR
    clear hR HEa7
    go_wp2_with fail
    go_loopw [18, 19] (fun v18 v19 wr => ∃ (k : Nat), k ≤ x.length ∧ v19 = .int .i64 k ∧ v18 = .bool (alikeB x y k) ∧ Ext w7 wr) (fun _ v19 _ => x.length - (intOf v19).toNat)
    case atStart => exact ⟨0, Nat.zero_le _, rfl, by rw [alike_zero], Ext.refl _⟩
    case round =>
      obtain ⟨k, hk, rfl, rfl, hE⟩ := hrel
      have HE : Hid (Ext w7 wr) := hE
      clear hE
      by_cases hlt : k < x.length
      · have hli : (k : Int) < (x.length : Int) := by omega
        obtain ⟨xb, xp, rfl, hxc⟩ := HX7.out (by omega)
        obtain ⟨p0, p1, p2, p3, p4, p5⟩ := hxc.ext HE.out k hlt
        obtain ⟨q0, q1, q2, q3, q4, q5⟩ := (cds_row HB7.out).ext HE.out k hlt
        obtain ⟨r0, r1, r2, r3, r4, r5⟩ := (cds_row HRe.out).ext HE.out k hlt
        rw [Nat.zero_add] at q0 q1 q2 q3 q4 q5 r0 r1 r2 r3 r4 r5
        clear hxc
        cases hA : alikeB x y k with
        | false =>
          have HN : Hid (alikeB x y (k + 1) = false) := alike_no x y k hA
          go_wp2
          go_quiet (fail)
          clear p0 p1 p2 p3 p4 p5 q0 q1 q2 q3 q4 q5 r0 r1 r2 r3 r4 r5
          go_wp2
          go_quiet (fail)
          go_wp2
          go_roundw
          case rel => exact ⟨k + 1, by omega, by go_num, by rw [HN.out], HE.out.trans (drewN_ext _ _)⟩
          case measure => simp [intOf]; omega
        | true =>
          have hlen := ((alikeB_iff x y k).1 hA).1
          have hky : k < y.length := by omega
          have hkyi : (k : Int) < (y.length : Int) := by omega
          obtain ⟨yb, yp, rfl, hyc⟩ := HY7.out (by omega)
          obtain ⟨s0, s1, s2, s3, s4, s5⟩ := hyc.ext HE.out k hky
          clear hyc
          by_cases he : x[k] = y[k]
          · have HN : Hid (alikeB x y (k + 1) = true) := alike_yes x y k hlt hky hA he
            clear hlen
            go_wp2
            go_quiet (fail)
            rw [← he] at s0 s1 s2 s3 s4 s5
            clear q0 q1 q2 q3 q4 q5 r0 r1 r2 r3 r4 r5 he
            generalize x[k] = c at *
            go_wp2
            go_quiet (fail)
            go_wp2
            go_roundw
            case rel => exact ⟨k + 1, by omega, by go_num, by rw [HN.out], HE.out.trans (drewN_ext _ _)⟩
            case measure => simp [intOf]; omega
          · have HN : Hid (alikeB x y (k + 1) = false) := alike_ne x y k hlt hky he
            clear hlen
            go_wp2
            go_quiet (fail)
            have hq := eqCd_no he
            clear q0 q1 q2 q3 q4 q5 r0 r1 r2 r3 r4 r5 he
            generalize x[k] = c at *
            generalize y[k] = d at *
            go_wp2
            go_quiet (fail)
            go_wp2
            go_roundw
            case rel => exact ⟨k + 1, by omega, by go_num, by rw [HN.out], HE.out.trans (drewN_ext _ _)⟩
            case measure => simp [intOf]; omega
      · have hli : ¬ (k : Int) < (x.length : Int) := by omega
        obtain rfl : k = x.length := by omega
        have HF : Hid (((strB X).toList == (strB Y).toList) = alikeB x y x.length) := by
          show _ = _
          by_cases hXY : X = Y
          · rw [(alike_end x y).2 (HIn.out.1 hXY), hXY]; simp
          · rw [str_ne hXY]
            cases hA : alikeB x y x.length with
            | false => rfl
            | true => exact absurd (HIn.out.2 ((alike_end x y).1 hA)) hXY
        have hF := HF.out
        generalize alikeB x y x.length = B at *
        go_wp2
        go_ret
        exact ⟨ret_bool (by simp), HE7.out.trans HE.out⟩
  · have hns := str_ne hXR
    clear HEa7
    go_wp2_with fail
    go_loopw [18, 19] (fun v18 v19 wr => ∃ (k : Nat), k ≤ x.length ∧ v19 = .int .i64 k ∧ v18 = .bool (alikeB x y k) ∧ Ext w7 wr) (fun _ v19 _ => x.length - (intOf v19).toNat)
    case atStart => exact ⟨0, Nat.zero_le _, rfl, by rw [alike_zero], Ext.refl _⟩
    case round =>
      obtain ⟨k, hk, rfl, rfl, hE⟩ := hrel
      have HE : Hid (Ext w7 wr) := hE
      clear hE
      by_cases hlt : k < x.length
      · have hli : (k : Int) < (x.length : Int) := by omega
        obtain ⟨xb, xp, rfl, hxc⟩ := HX7.out (by omega)
        obtain ⟨p0, p1, p2, p3, p4, p5⟩ := hxc.ext HE.out k hlt
        obtain ⟨q0, q1, q2, q3, q4, q5⟩ := (cds_row HB7.out).ext HE.out k hlt
        rw [Nat.zero_add] at q0 q1 q2 q3 q4 q5
        clear hxc
        cases hA : alikeB x y k with
        | false =>
          have HN : Hid (alikeB x y (k + 1) = false) := alike_no x y k hA
          go_wp2
          go_quiet (fail)
          clear p0 p1 p2 p3 p4 p5 q0 q1 q2 q3 q4 q5
          go_wp2
          go_quiet (fail)
          go_wp2
          go_roundw
          case rel => exact ⟨k + 1, by omega, by go_num, by rw [HN.out], HE.out.trans (drewN_ext _ _)⟩
          case measure => simp [intOf]; omega
        | true =>
          have hlen := ((alikeB_iff x y k).1 hA).1
          have hky : k < y.length := by omega
          have hkyi : (k : Int) < (y.length : Int) := by omega
          obtain ⟨yb, yp, rfl, hyc⟩ := HY7.out (by omega)
          obtain ⟨s0, s1, s2, s3, s4, s5⟩ := hyc.ext HE.out k hky
          clear hyc
          by_cases he : x[k] = y[k]
          · have HN : Hid (alikeB x y (k + 1) = true) := alike_yes x y k hlt hky hA he
            clear hlen
            go_wp2
            go_quiet (fail)
            rw [← he] at s0 s1 s2 s3 s4 s5
            clear q0 q1 q2 q3 q4 q5 he
            generalize x[k] = c at *
            go_wp2
            go_quiet (fail)
            go_wp2
            go_roundw
            case rel => exact ⟨k + 1, by omega, by go_num, by rw [HN.out], HE.out.trans (drewN_ext _ _)⟩
            case measure => simp [intOf]; omega
          · have HN : Hid (alikeB x y (k + 1) = false) := alike_ne x y k hlt hky he
            clear hlen
            go_wp2
            go_quiet (fail)
            have hq := eqCd_no he
            clear q0 q1 q2 q3 q4 q5 he
            generalize x[k] = c at *
            generalize y[k] = d at *
            go_wp2
            go_quiet (fail)
            go_wp2
            go_roundw
            case rel => exact ⟨k + 1, by omega, by go_num, by rw [HN.out], HE.out.trans (drewN_ext _ _)⟩
            case measure => simp [intOf]; omega
      · have hli : ¬ (k : Int) < (x.length : Int) := by omega
        obtain rfl : k = x.length := by omega
        have HF : Hid (((strB X).toList == (strB Y).toList) = alikeB x y x.length) := by
          show _ = _
          by_cases hXY : X = Y
          · rw [(alike_end x y).2 (HIn.out.1 hXY), hXY]; simp
          · rw [str_ne hXY]
            cases hA : alikeB x y x.length with
            | false => rfl
            | true => exact absurd (HIn.out.2 ((alike_end x y).1 hA)) hXY
        have hF := HF.out
        generalize alikeB x y x.length = B at *
        go_wp2
        go_ret
        exact ⟨ret_bool (by simp), HE7.out.trans HE.out⟩
end
end Go.Proofs.YtpbblaeamddbgaaGreat
