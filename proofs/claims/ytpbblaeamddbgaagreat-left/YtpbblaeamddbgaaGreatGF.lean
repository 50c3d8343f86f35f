import Derived.Deep.RegionHeld3
import Derived.Deep.AppendLies
import Derived.Shelf.Spec.SlicesInsertGrow
import Derived.Deep.RegionLaw
import Derived.Test.YtpbblaeamddbgaaGreatGE
namespace Go.Proofs.YtpbblaeamddbgaaGreat
open Go.RowKit

theorem Tryz.infoVl : (Tryz.prog.info? 69).map (·.size) = some 2 := by kernel_rfl
set_option maxHeartbeats 400000 in
theorem value_any (eb : Nat) (f : Int → Option Vl) (a : Nat) (ha : a < 6) (w : World) (hr : Row w eb 166 (evCells f)) :
    Calls Tryz.prog 82 #[.pointer (some ⟨eb, 0, none⟩), .int .i64 a] w fun e w' => e = .returned (.tuple #[.agg #[.int .i64 ((f a).getD vz).n, .string ((f a).getD vz).s], .bool (f a).isSome]) ∧ Ext w w' := by
  have g0 := hr.at (ev_has f a ha)
  have g1 := hr.at (ev_n f a ha)
  have g2 := hr.at (ev_s f a ha)
  have ebl := hr.lt
  have g0a : ∀ ob, (w.alloc ob).cell? ⟨eb, a, none⟩ = _ := fun ob => ((Ext.refl w).alloc ob).cell g0
  have g1a : ∀ ob, (w.alloc ob).cell? ⟨eb, 6 + a * 2, none⟩ = _ := fun ob => ((Ext.refl w).alloc ob).cell g1
  have g2a : ∀ ob, (w.alloc ob).cell? ⟨eb, 6 + a * 2 + 1, none⟩ = _ := fun ob => ((Ext.refl w).alloc ob).cell g2
  clear hr g0 g1 g2
  generalize (f a).isSome = B at *
  generalize ((f a).getD vz).n = n at *
  generalize ((f a).getD vz).s = s at *
  have ha' : (a : Int) < 6 := by omega
  go_enter Tryz.func82, Tryz.ntmps82
  go_wp2
  go_region
  go_wp2
  refine bodyPost_ret (results_cell1 (u := 5) Tryz.results82 _ _ w.heap.size [.int .i64 n, .string s] _ 69 (row_alloc _ _ _ _ _ rfl rfl) Tryz.underlying69 rfl Tryz.infoVl rfl) rfl ⟨rfl, ((Ext.refl _).alloc _).drew⟩
end Go.Proofs.YtpbblaeamddbgaaGreat
namespace Go.Proofs.YtpbblaeamddbgaaGreat
open Go.RowKit

/-- The first that is not 0. -/
def orL : List Int → Int
  | [] => 0
  | x :: xs => orI x (orL xs)
theorem orL_drop : ∀ (zs : List Int) (k : Nat), (∀ j (hj : j < zs.length), j < k → zs[j] = 0) → orL zs = orL (zs.drop k)
  | [], k, _ => by simp
  | x :: xs, 0, _ => rfl
  | x :: xs, k + 1, h => by
    have h0 : x = 0 := h 0 (by simp) (by omega)
    subst h0
    rw [List.drop_succ_cons, ← orL_drop xs k (fun j hj hk => h (j + 1) (by simpa using hj) (by omega))]
    rfl
theorem orL_at (zs : List Int) (k : Nat) (hk : k < zs.length) (h : ∀ j (hj : j < zs.length), j < k → zs[j] = 0) (hn : zs[k] ≠ 0) : orL zs = zs[k] := by
  rw [orL_drop zs k h, List.drop_eq_getElem_cons hk]
  simp [orL, orI, hn]

set_option maxHeartbeats 400000 in
theorem orl_any (g c : Nat) (zs : List Int) (w : World) (hz : ∀ j (hj : j < zs.length), w.cell? ⟨g, j, none⟩ = some (.int .i64 zs[j])) (_hl : zs.length ≤ 100) :
    Calls Tryz.prog 139 #[.slice (some ⟨g, 0, none⟩) zs.length c] w fun e w' => e = .returned (.int .i64 (orL zs)) ∧ w' = w := by
  have HA : Hid (∀ k (hk : k < zs.length), (∀ j (hj : j < zs.length), j < k → zs[j] = 0) → zs[k] ≠ 0 → orL zs = zs[k]) := fun k hk h hn => orL_at zs k hk h hn
  have HZ : Hid ((∀ j (hj : j < zs.length), j < zs.length → zs[j] = 0) → orL zs = 0) := fun h => by
    rw [orL_drop zs zs.length h, List.drop_length]; rfl
  generalize orL zs = r at *
  go_enter Tryz.func139, Tryz.ntmps139
  go_wp2
  go_loop [8] (fun i => ∃ k : Nat, k ≤ zs.length ∧ i = .int .i64 k ∧ ∀ j (hj : j < zs.length), j < k → zs[j] = 0) (fun i => zs.length - (intOf i).toNat)
  case atStart => exact ⟨0, by omega, rfl, fun j _ h => absurd h (Nat.not_lt_zero _)⟩
  case round =>
    obtain ⟨k, hk, rfl, hall⟩ := hrel
    have HL : Hid (∀ j (hj : j < zs.length), j < k → zs[j] = 0) := hall
    clear hall
    by_cases hlt : k < zs.length
    · have c0 := hz k hlt
      have ha := fun h : zs[k] ≠ 0 => HA.out k hlt HL.out h
      have HB : Hid (zs[k] = 0 → ∀ j (hj : j < zs.length), j < k + 1 → zs[j] = 0) := fun h j hj hjk => by
        rcases Nat.lt_or_ge j k with h' | h'
        · exact HL.out j hj h'
        · obtain rfl : j = k := by omega
          exact h
      have HC : Hid (zs[k] ≠ 0 → r = zs[k]) := ha
      clear ha hz
      generalize zs[k] = z at *
      by_cases h0 : z = 0
      · subst h0
        go_wp2
        go_round
        case rel => exact ⟨k + 1, by omega, by go_num, HB.out rfl⟩
        case measure => simp [intOf]; omega
      · have hne : (z != 0) = true := by simp [h0]
        have HR : Hid (r = z) := HC.out h0
        clear h0
        go_wp2
        go_ret
        exact ⟨ret_int HR.out.symm, rfl⟩
    · have HR : Hid (r = 0) := HZ.out (fun j hj _ => HL.out j hj (by omega))
      clear hz
      go_wp2
      go_ret
      exact ⟨ret_int HR.out.symm, rfl⟩

/-- What was there is as it was, and what was drawn was drawn. -/
def ExtD (w w' : World) : Prop := Ext w w' ∧ w.drawn ≤ w'.drawn
theorem ExtD.refl (w : World) : ExtD w w := ⟨Ext.refl _, Nat.le_refl _⟩
theorem ExtD.trans {a b c : World} (h : ExtD a b) (k : ExtD b c) : ExtD a c := ⟨h.1.trans k.1, Nat.le_trans h.2 k.2⟩
theorem ExtD.alloc {a b : World} (h : ExtD a b) (o : Obj) : ExtD a (b.alloc o) := ⟨h.1.alloc o, h.2⟩
theorem ExtD.drewN {a b : World} (h : ExtD a b) (n : Nat) : ExtD a (b.drewN n) := ⟨h.1.trans (drewN_ext _ _), Nat.le_trans h.2 (Nat.le_add_right _ _)⟩
theorem ExtD.drew {a b : World} (h : ExtD a b) : ExtD a b.drew := ⟨h.1.drew, Nat.le_trans h.2 (Nat.le_succ _)⟩

set_option maxHeartbeats 400000 in
theorem compareD_any (x y : Vl) (w : World) :
    Calls Tryz.prog 129 #[.agg #[.int .i64 x.n, .string x.s], .agg #[.int .i64 y.n, .string y.s]] w fun e w' => e = .returned (.int .i64 (cmpV x y)) ∧ ExtD w w' := by
  have hneg : Hid (cmpV x y = orI (cmpI x.n y.n) (Lib.compareBytes x.s.data.toList y.s.data.toList)) := rfl
  generalize cmpV x y = cv at *
  go_enter Tryz.func129, Tryz.ntmps129
  go_wp2_with fail
  go_region_held3 (fun w' => w'.cell? ⟨w.heap.size, 0, none⟩ = some (.int .i64 x.n) ∧ w'.cell? ⟨w.heap.size + 1, 0, none⟩ = some (.int .i64 y.n) ∧ w'.cell? ⟨w.heap.size, 1, none⟩ = some (.string x.s) ∧ w'.cell? ⟨w.heap.size + 1, 1, none⟩ = some (.string y.s)) (go_keep)
    (first | (go_at_call 173; refine (cmp64_any _ _ _).mono ?_; rintro e w' ⟨rfl, rfl⟩) | (go_at_call 174; refine (Tryz.strings_Compare _ _ _).mono ?_; rintro e w' ⟨rfl, rfl⟩) | (go_at_call 139; refine (or_any _ _ (cmpI x.n y.n) (Lib.compareBytes x.s.data.toList y.s.data.toList) _ (by exact cell_new _ _ _ _ _ (by simp) rfl) (by exact cell_new _ _ _ _ _ (by simp) rfl)).mono ?_; rintro e w' ⟨rfl, rfl⟩))
  go_wp2
  go_ret
  exact ⟨ret_int hneg.out.symm, (((((ExtD.refl _).alloc _).alloc _).alloc _).drew)⟩

theorem four_new (W : World) (T : TypeId) (a b c d : Int) : ∀ j (hj : j < [a, b, c, d].length), (W.alloc (.cells #[.int .i64 a, .int .i64 b, .int .i64 c, .int .i64 d] T)).cell? ⟨W.heap.size, j, none⟩ = some (.int .i64 [a, b, c, d][j]) := by
  intro j hj
  simp only [List.length_cons, List.length_nil] at hj
  rcases (show j = 0 ∨ j = 1 ∨ j = 2 ∨ j = 3 by omega) with rfl | rfl | rfl | rfl <;> exact cell_new _ _ _ _ _ rfl rfl

set_option maxHeartbeats 1600000 in
set_option maxRecDepth 100000 in
theorem compareConds_any (x y : Cd) (w : World) :
    Calls Tryz.prog 94 #[.agg #[.int .i64 x.attr, .int .i64 x.kind, .int .i64 x.a.n, .string x.a.s, .int .i64 x.b.n, .string x.b.s], .agg #[.int .i64 y.attr, .int .i64 y.kind, .int .i64 y.a.n, .string y.a.s, .int .i64 y.b.n, .string y.b.s]] w fun e w' => e = .returned (.int .i64 (cmpCd x y)) ∧ ExtD w w' := by
  have hneg : Hid (cmpCd x y = orL [cmpI x.attr y.attr, cmpI x.kind y.kind, cmpV x.a y.a, cmpV x.b y.b]) := by
    have h0 : ∀ z : Int, orI z 0 = z := fun z => by unfold orI; split <;> simp_all
    show _ = _; simp only [cmpCd, orL, h0]
  generalize cmpCd x y = cv at *
  obtain ⟨xt, xk, xa, xb⟩ := x
  obtain ⟨yt, yk, ya, yb⟩ := y
  simp only at hneg ⊢
  have hco : ∀ a b W, Calls Tryz.prog 90 #[.int .i64 a, .int .i64 b] W fun e w' => e = .returned (.int .i64 (cmpI a b)) ∧ w' = W := fun a b W => Tryz.cmp_Compare_int a b W
  have HCO : Hid _ := hco
  clear hco
  go_enter Tryz.func94, Tryz.ntmps94
  go_wp2_with fail
  go_region_held3 (fun w' => w'.cell? ⟨w.heap.size, 0, none⟩ = some (.int .i64 xt) ∧ w'.cell? ⟨w.heap.size, 1, none⟩ = some (.int .i64 xk) ∧ w'.cell? ⟨w.heap.size, 2, none⟩ = some (.int .i64 xa.n) ∧ w'.cell? ⟨w.heap.size, 3, none⟩ = some (.string xa.s) ∧ w'.cell? ⟨w.heap.size, 4, none⟩ = some (.int .i64 xb.n) ∧ w'.cell? ⟨w.heap.size, 5, none⟩ = some (.string xb.s)
      ∧ w'.cell? ⟨w.heap.size + 1, 0, none⟩ = some (.int .i64 yt) ∧ w'.cell? ⟨w.heap.size + 1, 1, none⟩ = some (.int .i64 yk) ∧ w'.cell? ⟨w.heap.size + 1, 2, none⟩ = some (.int .i64 ya.n) ∧ w'.cell? ⟨w.heap.size + 1, 3, none⟩ = some (.string ya.s) ∧ w'.cell? ⟨w.heap.size + 1, 4, none⟩ = some (.int .i64 yb.n) ∧ w'.cell? ⟨w.heap.size + 1, 5, none⟩ = some (.string yb.s))
    (first | go_keep | (refine ⟨?_, ?_, ?_, ?_, ?_, ?_, ?_, ?_, ?_, ?_, ?_, ?_⟩ <;> exact hbb.1.cell (by first | assumption | simp [*])))
    (first | (go_at_call 90; refine Calls.mono (HCO.out _ _ _) ?_; rintro e w' ⟨rfl, rfl⟩) | (go_at_call 129; refine (compareD_any _ _ _).mono ?_; rintro e w' ⟨rfl, hbb⟩) | (go_at_call 139; refine (orl_any _ _ [cmpI xt yt, cmpI xk yk, cmpV xa ya, cmpV xb yb] _ (four_new _ _ _ _ _ _) (by simp)).mono ?_; rintro e w' ⟨rfl, rfl⟩))
  rename_i w1 hb1 hh
  clear hh
  go_wp2
  go_ret
  exact ⟨ret_int hneg.out.symm, (((((ExtD.refl w).alloc _).alloc _).drew).trans (hb1.trans hbb)).alloc _⟩
end Go.Proofs.YtpbblaeamddbgaaGreat
namespace Go.Proofs.YtpbblaeamddbgaaGreat
open Go.RowKit

theorem step_app {P : Program} {w : World} {ops : Array Oper} {o : Oper} {a : Act} {K : Act → World → Prop} {Q : Exit → Act → World → Prop} {E : Prop} (hgd : o.guard = none) (s x : Operand) (t : TypeId)
    (ho : o.op = .call { callee := .builtin .append, args := #[s, x], argTypes := #[t, t] })
    (e : TypeId) (z : Value) (size bytes : Nat) (ht : P.underlying t = some (.slice e)) (hi : (P.info? e).map (fun i => (i.zero, i.size, i.bytes)) = some (some z, size, bytes)) (hzs : z.cells.size = size) (hsz : 0 < size)
    (ao : Option Addr) (n cap : Nat) (xs : List Value) (hs : a.eval s = .slice ao n cap) (hown : OSl w e size ao n cap xs)
    (ad : Addr) (m c : Nat) (news : List Value) (hx : a.eval x = .slice (some ad) m c) (hl : news.length = m * size) (hnews : ∀ j u, news[j]? = some u → w.cell? (ad.add j) = some u) (h1 : ∀ u ∈ news, u.oneCell' = true)
    (hm : 0 < m) (h63 : n + m ≤ maxLen) (hbytes : (n + m) * bytes ≤ 140737488355328)
    (h : ∀ ao' cap' w', OSl w' e size ao' (n + m) cap' (xs ++ news) → Kp (fun k => blkOf ao = some k) w w' → Hid (blkOf ao' = blkOf ao ∨ blkOf ao' = some w.heap.size) → K (a.put o.dst (.slice ao' (n + m) cap')) w') :
    if Region.wanted o (yielded ops a.tmps) = true then Oper.wp P o a w K Q else E := by
  obtain ⟨i, hi, hz0, hz1, hz2⟩ := info_parts hi
  refine step_append_lies w hgd s x t ho 0 e i z size bytes ht hi hz0 hz1 hz2 hzs hsz _ n xs hs hown ad m c news hx hl hnews h1 hm h63 hbytes (Nat.zero_le _) w.heap.size rfl ?_
  intro g cap' w' hown' hgrow hat _
  have eb : ∀ (q : Option Addr) (n c : Nat), (Value.slice q n c).ownBlock = blkOf q := by intro q n c; cases q <;> rfl
  rw [eb] at hat
  rw [eb] at hgrow
  refine h (some ⟨g, 0, none⟩) cap' w' hown' ⟨hgrow.os, hgrow.tape, hgrow.output, hgrow.size, fun k hk hne => hgrow.block k hk (fun e => hne e.symm)⟩ ?_
  rcases hat with h | h
  · exact Or.inl h.symm
  · exact Or.inr (by rw [h]; rfl)

end Go.Proofs.YtpbblaeamddbgaaGreat
namespace Go.Proofs.YtpbblaeamddbgaaGreat
open Go.RowKit

/-- A copy of elements of some cells into the midst of a row of one's own; all is read before anything is written. -/
theorem run_copy_wk {P : Program} (w : World) (dT sT ty elem : TypeId) (g o dLen dCap : Nat) (a : Addr) (sLen sCap : Nat) (cur : List Value) (t : TypeId) (cs : List Value)
    (hu : P.underlying dT = some (.slice elem)) (K : Nat) (hs : (P.info? elem).map (·.size) = some K) (hg : Row w g t cur) (hn : cs.length = Nat.min sLen dLen * K)
    (hsrc : ∀ j v, cs[j]? = some v → w.cell? (a.add j) = some v) (hfit : o + cs.length ≤ cur.length) (h1 : ∀ v ∈ cs, v.oneCell' = true) :
    (Builtin.copy_ #[dT, sT] ty #[.slice (some ⟨g, o, none⟩) dLen dCap, .slice (some a) sLen sCap]).run P w = .ok (goInt (Nat.min sLen dLen)) (w.setRow g (cur.take o ++ cs ++ cur.drop (o + cs.length)).toArray) := by
  have hl := run_loadCells_list (P := P) w a cs hsrc
  have hst := run_storeCells_at P g o t cs 0 cur.toArray w hg (by simpa using hfit) h1
  cases hq : P.info? elem with
  | none => simp [hq] at hs
  | some i =>
    have hi : i.size = K := by simpa [hq] using hs
    simp [Builtin.copy_, run_underlying hu, Builtin.lenOf, Builtin.firstCells, sizeOf, typeInfo, hq, hi, ← hn, hl, hst]
theorem Row.setRow {w : World} {g : Nat} {T : TypeId} {l : List Value} (h : Row w g T l) (m : List Value) : Row (w.setRow g m.toArray) g T m := setRow_heap w g _ _ T _ h
theorem Kp.setRow {M : Nat → Prop} {a b : World} (h : Kp M a b) {g : Nat} (hg : M g) (m : Array Value) : Kp M a (b.setRow g m) :=
  ⟨h.os, h.tape, h.output, by have := h.size; simpa [World.setRow] using this, fun k hk hne => (setRow_other b g k _ (by intro e; exact hne (e ▸ hg))).trans (h.block k hk hne)⟩
theorem osl_of_row {w : World} {g : Nat} {T : TypeId} {l xs : List Value} (h : Row w g T l) (K n cap : Nat) (hc : n ≤ cap) (hm : cap ≤ maxLen) (hl : l.length = cap * K) (hx : l.take (n * K) = xs) : OSl w T K (some ⟨g, 0, none⟩) n cap xs :=
  ⟨by rw [← hx, List.length_take, hl]; exact Nat.min_eq_left (Nat.mul_le_mul_right K hc), Or.inr ⟨g, cap, l.toArray, rfl, Nat.zero_le _, h, hc, hm, by simpa using hl, by simpa using hx⟩⟩
theorem row_of_osl {w : World} {T K n cap : Nat} {ao : Option Addr} {xs : List Value} (h : OSl w T K ao n cap xs) (hn : 0 < n) : ∃ g l, ao = some ⟨g, 0, none⟩ ∧ Row w g T l ∧ n ≤ cap ∧ cap ≤ maxLen ∧ l.length = cap * K ∧ l.take (n * K) = xs := by
  rcases h.form with ⟨_, h0, _⟩ | ⟨g, cur, rfl, hh, h1, h2, h3, h4⟩
  · omega
  · exact ⟨g, cur.toList, rfl, by unfold Row; simpa using hh, h1, h2, by simpa using h3, by simpa using h4⟩
theorem src_row {w : World} {vb : Nat} {T : TypeId} {cs : List Value} (h : Row w vb T cs) : ∀ j v, cs[j]? = some v → w.cell? ((⟨vb, 0, none⟩ : Addr).add j) = some v := by
  intro j v hj
  rw [add_lt]
  exact h.at hj
/-- What Insert leaves. -/
def InsPost (T K : Nat) (w w' : World) (fa : Option Addr) (n : Nat) (ys : List Value) (e : Ending) : Prop := ∃ fa' cap', e = .returned (.slice fa' (n + 1) cap') ∧ OSl w' T K fa' (n + 1) cap' ys ∧ Kp (fun k => blkOf fa = some k) w w' ∧ ∀ g, blkOf fa' = some g → blkOf fa = some g ∨ w.heap.size ≤ g
theorem ins_of {T K : Nat} {w w' : World} {fa fa' : Option Addr} {n cap' : Nat} {ys : List Value} {e : Ending} (he : e = .returned (.slice fa' (n + 1) cap')) (hO : OSl w' T K fa' (n + 1) cap' ys) (hk : Kp (fun k => blkOf fa = some k) w w') (hat : Hid (blkOf fa' = blkOf fa ∨ blkOf fa' = some w.heap.size)) : InsPost T K w w' fa n ys e :=
  ⟨fa', cap', he, hO, hk, fun g hg => by
    rcases hat.out with e | e
    · rw [e] at hg; exact Or.inl hg
    · rw [e] at hg; cases hg; exact Or.inr (Nat.le_refl _)⟩
theorem zc_one (zs : Array Value) (h : ∀ v ∈ zs, v.oneCell' = true) (n : Nat) : ∀ v ∈ (Builtin.zeroCells zs n).toList, v.oneCell' = true := by
  intro v hv
  simp only [Builtin.zeroCells, Array.mem_toList_iff, Array.mem_map, Array.mem_range] at hv
  obtain ⟨i, hi, rfl⟩ := hv
  have h0 : 0 < zs.size := by
    rcases Nat.eq_zero_or_pos zs.size with e | e
    · rw [e] at hi; omega
    · exact e
  have hlt := Nat.mod_lt i h0
  rw [getElem!_pos zs _ hlt]
  exact h _ (Array.getElem_mem hlt)
/-- 'clear(s)', s a piece of a row of one's own. -/
theorem run_clear_row {P : Program} (w : World) (t elem T ty : TypeId) (hu : P.underlying t = some (.slice elem)) (zv : Value) (hzv : (zeroValue elem).run P w = .ok zv w) (h1 : ∀ v ∈ zv.cells, v.oneCell' = true) (g o n cap : Nat) (Z : List Value) (hR : Row w g T Z) (hn : 0 < n) (hfit : o + n * zv.cells.size ≤ Z.length) :
    (Builtin.clear_ #[t] ty #[.slice (some ⟨g, o, none⟩) n cap]).run P w = .ok (.tuple #[]) (w.setRow g (Z.take o ++ (Builtin.zeroCells zv.cells n).toList ++ Z.drop (o + (Builtin.zeroCells zv.cells n).toList.length)).toArray) := by
  have hzl : (Builtin.zeroCells zv.cells n).toList.length = n * zv.cells.size := by simp [Builtin.zeroCells]
  have hst := run_storeCells_at P g o T (Builtin.zeroCells zv.cells n).toList 0 Z.toArray w hR (by simpa [hzl] using hfit) (zc_one _ h1 n)
  obtain ⟨d, rfl⟩ : ∃ d, n = d + 1 := ⟨n - 1, by omega⟩
  simp only [Nat.add_zero] at hst
  simp [Builtin.clear_, run_underlying hu, hzv, hst]
end Go.Proofs.YtpbblaeamddbgaaGreat
namespace Go.Proofs.YtpbblaeamddbgaaGreat
open Go.RowKit

theorem Tryz.infoF : (Tryz.prog.info? 130).map (fun i => (i.zero, i.size, i.bytes)) = some (some (.agg #[.int .i64 0, .slice none 0 0]), 2, 32) := by kernel_rfl
theorem Tryz.sizeF : (Tryz.prog.info? 130).map (·.size) = some 2 := by kernel_rfl
set_option maxHeartbeats 800000 in
theorem insert_endF (fa : Option Addr) (n cap : Nat) (xs : List Value) (vb : Nat) (cs : List Value) (w : World) (hO : OSl w 130 2 fa n cap xs) (hn : n ≤ 999) (hv : Row w vb 130 cs) (h2 : ∀ u ∈ cs, u.oneCell' = true) (hcs : cs.length = 2) (_hcap : (n : Int) ≤ cap) :
    Calls Tryz.prog 50 #[.slice fa n cap, .int .i64 n, .slice (some ⟨vb, 0, none⟩) 1 1] w fun e w' => InsPost 130 2 w w' fa n (xs ++ cs) e := by
  have h1 : Hid (∀ u ∈ cs, u.oneCell' = true) := h2
  have hc1 : Hid (cs.length = 1 * 2) := by show _ = _; omega
  go_enter Tryz.func50, Tryz.ntmps50
  go_wp2_with (first
    | (at_builtin; refine wpList_app2 rfl (.tmp 23) (.tmp 24) 98 98 rfl 130 (.agg #[.int .i64 0, .slice none 0 0]) 2 32 Tryz.underlying98 Tryz.underlying98 Tryz.infoF rfl (by decide) fa n cap xs rfl hO ⟨vb, 0, none⟩ 1 1 cs rfl hc1.out (src_row hv) h1.out (by unfold maxLen; omega) (by omega) ?_; intro fa' cap' w1 hO1 hk1 at1))
  all_goals go_ret
  all_goals exact ins_of rfl hO1 hk1 at1

theorem ins_shiftF (L xs ab : List Value) (n i : Nat) (hi : i < n) (hL : n * 2 + 2 ≤ L.length) (hx : L.take (n * 2) = xs) (hab : ab.length = 2) :
    let M := L.take ((i + 1) * 2) ++ xs.drop (i * 2) ++ L.drop ((i + 1) * 2 + (xs.drop (i * 2)).length)
    (M.take (i * 2) ++ ab ++ M.drop (i * 2 + 2)).take ((n + 1) * 2) = xs.take (i * 2) ++ ab ++ xs.drop (i * 2) := by
  intro M
  have hxl : xs.length = n * 2 := by rw [← hx]; simp; omega
  have hML : M.length = L.length := by simp [M, hxl]; omega
  have e1 : M.take (i * 2) = xs.take (i * 2) := by
    simp only [M]
    rw [List.append_assoc, List.take_append_of_le_length (by simp; omega), List.take_take, ← hx, List.take_take]
    congr 1; omega
  have e2 : M.drop (i * 2 + 2) = xs.drop (i * 2) ++ L.drop ((i + 1) * 2 + (xs.drop (i * 2)).length) := by
    simp only [M]
    rw [List.append_assoc, List.drop_left' (by simp; omega)]
  rw [e1, e2, ← List.append_assoc]
  rw [List.take_left' (by simp [hab, hxl]; omega)]

set_option maxHeartbeats 1600000 in
set_option maxRecDepth 100000 in
theorem insert_roomF (g n cap i : Nat) (L xs : List Value) (vb : Nat) (cs : List Value) (w : World) (hR : Row w g 130 L) (hL : L.length = cap * 2) (hm : cap ≤ maxLen) (hx : L.take (n * 2) = xs) (hi : i < n) (hroom : n + 1 ≤ cap) (hn : n ≤ 999) (hv : Row w vb 130 cs) (hne : vb ≠ g) (h2 : ∀ u ∈ cs, u.oneCell' = true) (hcs : cs.length = 2) (h1 : ∀ v ∈ xs, v.oneCell' = true) :
    Calls Tryz.prog 50 #[.slice (some ⟨g, 0, none⟩) n cap, .int .i64 i, .slice (some ⟨vb, 0, none⟩) 1 1] w fun e w' => InsPost 130 2 w w' (some ⟨g, 0, none⟩) n (xs.take (i * 2) ++ cs ++ xs.drop (i * 2)) e := by
  have hxl : xs.length = n * 2 := by rw [← hx]; simp; omega
  have hov : ∀ lb cb, (callFunc 96 #[.slice (some ⟨vb, 0, none⟩) 1 1, .slice (some ⟨g, (i + 1) * 2, none⟩) lb cb]).run Tryz.prog w = .ok (.value (.bool false)) w := fun lb cb => by
    rw [run_callFunc_extern Tryz.func96 (by kernel_rfl) (by kernel_rfl) (by kernel_rfl) (e := Extern.SlicesOverlaps.overlaps #[98, 98] #[4]) (by kernel_rfl),
      Lib.run_overlaps_apart w 98 4 130 Tryz.underlying98 2 Tryz.sizeOf130 ⟨vb, 0, none⟩ ⟨g, (i + 1) * 2, none⟩ 1 1 lb cb hne 130 130 2 (cap * 2) (by unfold Row at hv; simp [World.shape?, hv, hcs]) (by unfold Row at hR; simp [World.shape?, hR, hL]) (by omega) (hv.frozen _) (hv.frozen _)]
    rfl
  obtain ⟨M, hM⟩ : ∃ M, M = L.take ((i + 1) * 2) ++ xs.drop (i * 2) ++ L.drop ((i + 1) * 2 + (xs.drop (i * 2)).length) := ⟨_, rfl⟩
  have hML : M.length = cap * 2 := by rw [hM]; simp [hxl, hL]; omega
  have hRd : Row w.drew g 130 L := hR
  have hcp1 : ∀ ty dc sc, (Builtin.copy_ #[98, 98] ty #[.slice (some ⟨g, (i + 1) * 2, none⟩) (n + 1 - (i + 1)) dc, .slice (some ⟨g, i * 2, none⟩) (n + 1 - i) sc]).run Tryz.prog w.drew = .ok (goInt ((n - i : Nat) : Int)) (w.drew.setRow g M.toArray) := fun ty dc sc => by
    have hmin : Nat.min (n + 1 - i) (n + 1 - (i + 1)) = n - i := by simp only [Nat.min_def]; split <;> omega
    have := run_copy_wk (P := Tryz.prog) w.drew 98 98 ty 130 g ((i + 1) * 2) (n + 1 - (i + 1)) dc ⟨g, i * 2, none⟩ (n + 1 - i) sc L 130 (xs.drop (i * 2)) Tryz.underlying98 2 Tryz.sizeF hRd (by rw [hmin]; simp [hxl]; omega)
      (fun j v hj => by
        rw [add_at]
        refine hRd.at ?_
        rw [List.getElem?_drop, ← hx, List.getElem?_take] at hj
        split at hj
        · exact hj
        · cases hj) (by simp [hxl, hL]; omega) (fun v hv => h1 v (List.mem_of_mem_drop hv))
    rw [hmin, ← hM] at this
    exact this
  have hR1 : Row (w.drew.setRow g M.toArray) g 130 M := hRd.setRow M
  have hv1 : Row (w.drew.setRow g M.toArray) vb 130 cs := (((Kp.refl (fun k => k = g) w.drew).setRow rfl _)).row (show Row w.drew vb 130 cs from hv) hne
  obtain ⟨N, hN⟩ : ∃ N, N = M.take (i * 2) ++ cs ++ M.drop (i * 2 + 2) := ⟨_, rfl⟩
  have hNL : N.length = cap * 2 := by rw [hN]; simp [hML]; omega
  have hNt : N.take ((n + 1) * 2) = xs.take (i * 2) ++ cs ++ xs.drop (i * 2) := by
    rw [hN, hM]; exact ins_shiftF L xs cs n i hi (by omega) hx hcs
  have hcp2 : ∀ ty dc, (Builtin.copy_ #[98, 98] ty #[.slice (some ⟨g, i * 2, none⟩) (n + 1 - i) dc, .slice (some ⟨vb, 0, none⟩) 1 1]).run Tryz.prog (w.drew.setRow g M.toArray) = .ok (goInt 1) ((w.drew.setRow g M.toArray).setRow g N.toArray) := fun ty dc => by
    have hmin : Nat.min 1 (n + 1 - i) = 1 := by simp only [Nat.min_def]; split <;> omega
    have := run_copy_wk (P := Tryz.prog) (w.drew.setRow g M.toArray) 98 98 ty 130 g (i * 2) (n + 1 - i) dc ⟨vb, 0, none⟩ 1 1 M 130 cs Tryz.underlying98 2 Tryz.sizeF hR1 (by rw [hmin]; omega) (src_row hv1) (by simp [hML]; omega) h2
    rw [hmin, hcs] at this
    rw [hN]
    exact this
  have hfin : InsPost 130 2 w ((w.drew.setRow g M.toArray).setRow g N.toArray) (some ⟨g, 0, none⟩) n (xs.take (i * 2) ++ cs ++ xs.drop (i * 2)) (.returned (.slice (some ⟨g, 0, none⟩) (n + 1) cap)) :=
    ⟨_, cap, rfl, osl_of_row (hR1.setRow N) 2 (n + 1) cap hroom hm hNL hNt, (((((Ext.refl w).drew).kp (fun k => blkOf (some ⟨g, 0, none⟩) = some k)).setRow rfl _).setRow rfl _), fun g hg => Or.inl hg⟩
  have HF : Hid _ := hfin
  have hb1 : (i : Int) ≤ (n : Int) := by omega
  have hb2 : ¬ ((i : Int) = (n : Int)) := by omega
  have hb3 : ¬ cap = i := by omega
  have hb4 : ¬ cap = i + 1 := by omega
  have hb5 : (n : Int) + 1 ≤ (cap : Int) := by omega
  have hb6 : (i : Int) + 1 ≤ (n : Int) + 1 := by omega
  have hb7 : ((i : Int) + 1).toNat = i + 1 := by omega
  have hin : i ≤ n := by omega
  have hb0 : (0 : Int) ≤ (i : Int) + 1 := by omega
  have hb8 : (i : Int) ≤ (n : Int) + 1 := by omega
  have hb9 : i ≤ n + 1 := by omega
  have hw1 : IntKind.i64.wrap ((i : Int) + 1) = (i : Int) + 1 := by rw [IntKind.wrap_i64]; omega
  have hc63 : cap ≤ 9223372036854775807 := by unfold maxLen at hm; omega
  clear hfin hNt hNL hN hR1 hv1 hML hM hx hxl hRd hR hv hm hL h1
  go_enter Tryz.func50, Tryz.ntmps50
  go_wp2_with (simp only [hov])
  go_region_law (refine step_copy_runI rfl _ _ 98 98 rfl (.slice (some ⟨g, (i + 1) * 2, none⟩) (n + 1 - (i + 1)) (cap - (i + 1))) (.slice (some ⟨g, i * 2, none⟩) (n + 1 - i) (cap - i)) (by simp [Act.eval, Act.put]) (by simp [Act.eval, Act.put]) (hcp1 3 (cap - (i + 1)) (cap - i)) ?_)
  go_wp2_with (at_builtin; refine wpList_copy_runI _ rfl _ _ 98 98 rfl _ _ rfl rfl (hcp2 _ _) ?_)
  go_ret
  exact HF.out

theorem ins_growF (R xs ab : List Value) (n i : Nat) (hi : i < n) (hR : n * 2 + 2 ≤ R.length) (hx : R.take (i * 2) = xs.take (i * 2)) (hxl : xs.length = n * 2) (hab : ab.length = 2) :
    let M := R.take (i * 2) ++ ab ++ R.drop (i * 2 + 2)
    (M.take ((i + 1) * 2) ++ xs.drop (i * 2) ++ M.drop ((i + 1) * 2 + (xs.drop (i * 2)).length)).take ((n + 1) * 2) = xs.take (i * 2) ++ ab ++ xs.drop (i * 2) := by
  intro M
  have e1 : M.take ((i + 1) * 2) = xs.take (i * 2) ++ ab := by
    simp only [M]
    rw [List.take_left' (by simp [hab]; omega), hx]
  rw [e1, List.take_left' (by simp [hab, hxl]; omega)]

set_option maxHeartbeats 1600000 in
set_option maxRecDepth 100000 in
theorem insert_growF (g n cap i : Nat) (L xs : List Value) (vb : Nat) (cs : List Value) (w : World) (hR : Row w g 130 L) (hx : L.take (n * 2) = xs) (hLl : n * 2 ≤ L.length) (hi : i < n) (hnc : n ≤ cap) (hroom : cap < n + 1) (hn : n ≤ 999) (hv : Row w vb 130 cs) (h2 : ∀ u ∈ cs, u.oneCell' = true) (hcs : cs.length = 2) (h1 : ∀ v ∈ xs, v.oneCell' = true) :
    Calls Tryz.prog 50 #[.slice (some ⟨g, 0, none⟩) n cap, .int .i64 i, .slice (some ⟨vb, 0, none⟩) 1 1] w fun e w' => InsPost 130 2 w w' (some ⟨g, 0, none⟩) n (xs.take (i * 2) ++ cs ++ xs.drop (i * 2)) e := by
  have hxl : xs.length = n * 2 := by rw [← hx]; simp; omega
  obtain ⟨i0, hi0, hz0, hzs, hzb⟩ := info_parts Tryz.infoF
  have hgl := hR.lt
  have hvl := hv.lt
  have hsrcx : ∀ j v, xs[j]? = some v → L[j]? = some v := fun j v hj => by
    rw [← hx, List.getElem?_take] at hj
    split at hj
    · exact hj
    · cases hj
  have hold : (Builtin.firstCells i0.size i (.slice (some ⟨g, 0, none⟩) i cap)).run Tryz.prog w.drew = .ok (xs.take (i * 2)).toArray w.drew := by
    rw [hzs]
    exact run_firstCells_some w.drew 2 i ⟨g, 0, none⟩ i cap (xs.take (i * 2)) (by rw [List.length_take]; omega) (fun j v hj => by
      rw [add_lt]
      rw [List.getElem?_take] at hj
      split at hj
      · exact (show Row w.drew g 130 L from hR).at (hsrcx j v hj)
      · cases hj)
  have hkk : (n : Int) + 1 - (i : Int) = ((n + 1 - i : Nat) : Int) := by omega
  have hik : i + (n + 1 - i) = n + 1 := by omega
  obtain ⟨G, hG⟩ : ∃ G, G = grownCap w (n + 1) cap 130 := ⟨_, rfl⟩
  obtain ⟨R, hRR⟩ : ∃ R : List Value, R.toArray = (xs.take (i * 2)).toArray ++ Builtin.zeroCells (Value.agg #[.int .i64 0, .slice none 0 0]).cells (n + 1 - i) ++ Builtin.zeroCells (Value.agg #[.int .i64 0, .slice none 0 0]).cells (G - (n + 1)) := ⟨_, Array.toArray_toList⟩
  have hrz : ∀ ty, (Builtin.append_ #[98, 3] ty #[.slice (some ⟨g, 0, none⟩) i cap, .int .i64 ((n : Int) + 1 - (i : Int))]).run Tryz.prog w = .ok (.slice (some ⟨w.heap.size, 0, none⟩) (n + 1) G) (w.drew.alloc (.cells R.toArray 130)) := fun ty => by
    have h := Lib.run_append_grow_zeros (P := Tryz.prog) w 98 3 ty 130 i0 _ .i64 .i64 Tryz.underlying98 Tryz.underlying3 hi0 hz0 (some ⟨g, 0, none⟩) i cap (xs.take (i * 2)) hold (n + 1 - i) (by omega) (by omega) (by omega) (by omega) (by rw [hzb]; omega) (by rw [hzb, hik]; exact growslice_fits hroom (by omega))
    rw [hik, ← hG, ← hRR] at h
    rw [hkk]
    exact h
  have hGn : n + 1 ≤ G := by rw [hG]; exact grownCap_ge w _ _ _
  have hG63 : G ≤ maxLen := by
    rw [hG]; exact grownCap_le_maxLen w (n + 1) cap 130 (by unfold maxLen; omega)
  have hG63' : G ≤ 9223372036854775807 := by unfold maxLen at hG63; omega
  have hRl : R.length = G * 2 := by
    have := congrArg Array.size hRR
    simp [Builtin.zeroCells, Value.cells, hxl] at this
    omega
  have hRt : R.take (i * 2) = xs.take (i * 2) := by
    have := congrArg (fun x => x.toList.take (i * 2)) hRR
    simp only [Array.toList_append] at this
    rw [this, List.append_assoc, List.take_left' (by simp; omega)]
  obtain ⟨M, hM⟩ : ∃ M, M = R.take (i * 2) ++ cs ++ R.drop (i * 2 + 2) := ⟨_, rfl⟩
  have hML : M.length = G * 2 := by rw [hM]; simp [hRl]; omega
  obtain ⟨N, hN⟩ : ∃ N, N = M.take ((i + 1) * 2) ++ xs.drop (i * 2) ++ M.drop ((i + 1) * 2 + (xs.drop (i * 2)).length) := ⟨_, rfl⟩
  have hNL : N.length = G * 2 := by rw [hN]; simp [hML, hxl]; omega
  have hNt : N.take ((n + 1) * 2) = xs.take (i * 2) ++ cs ++ xs.drop (i * 2) := by
    rw [hN, hM]; exact ins_growF R xs cs n i hi (by omega) hRt hxl hcs
  have hcpA : ∀ W, Row W w.heap.size 130 R → Row W vb 130 cs → ∀ ty dc, (Builtin.copy_ #[98, 98] ty #[.slice (some ⟨w.heap.size, i * 2, none⟩) (n + 1 - i) dc, .slice (some ⟨vb, 0, none⟩) 1 1]).run Tryz.prog W = .ok (goInt 1) (W.setRow w.heap.size M.toArray) := fun W r1 r2 ty dc => by
    have hmin : Nat.min 1 (n + 1 - i) = 1 := by simp only [Nat.min_def]; split <;> omega
    have := run_copy_wk (P := Tryz.prog) W 98 98 ty 130 w.heap.size (i * 2) (n + 1 - i) dc ⟨vb, 0, none⟩ 1 1 R 130 cs Tryz.underlying98 2 Tryz.sizeF r1 (by rw [hmin]; omega) (src_row r2) (by simp [hRl]; omega) h2
    rw [hmin, hcs] at this
    rw [hM]
    exact this
  have hcpB : ∀ W, Row W w.heap.size 130 M → Row W g 130 L → ∀ ty dc sc, (Builtin.copy_ #[98, 98] ty #[.slice (some ⟨w.heap.size, (i + 1) * 2, none⟩) (n + 1 - (i + 1)) dc, .slice (some ⟨g, i * 2, none⟩) (n - i) sc]).run Tryz.prog W = .ok (goInt ((n - i : Nat) : Int)) (W.setRow w.heap.size N.toArray) := fun W r1 r2 ty dc sc => by
    have hmin : Nat.min (n - i) (n + 1 - (i + 1)) = n - i := by simp only [Nat.min_def]; split <;> omega
    have := run_copy_wk (P := Tryz.prog) W 98 98 ty 130 w.heap.size ((i + 1) * 2) (n + 1 - (i + 1)) dc ⟨g, i * 2, none⟩ (n - i) sc M 130 (xs.drop (i * 2)) Tryz.underlying98 2 Tryz.sizeF r1 (by rw [hmin]; simp [hxl]; omega)
      (fun j v hj => by
        rw [add_at]
        rw [List.getElem?_drop] at hj
        exact r2.at (hsrcx _ v hj)) (by simp [hxl, hML]; omega) (fun v hv => h1 v (List.mem_of_mem_drop hv))
    rw [hmin, ← hN] at this
    exact this
  obtain ⟨W1, hW1⟩ : ∃ W1 : World, W1 = (w.alloc (.cells R.toArray 130)).drew := ⟨_, rfl⟩
  have hE1 : Ext w W1 := by rw [hW1]; exact ((Ext.refl w).alloc _).drew
  have r1 : Row W1 w.heap.size 130 R := by
    rw [hW1]; exact (show Row (w.alloc (.cells R.toArray 130)) w.heap.size 130 R from row_alloc _ _ _ _ _ rfl rfl)
  have rA := hcpA W1 r1 (hv.ext hE1)
  have r2 : Row (W1.setRow w.heap.size M.toArray).drew w.heap.size 130 M := r1.setRow M
  have r3 : Row (W1.setRow w.heap.size M.toArray).drew g 130 L := (show Row (W1.setRow w.heap.size M.toArray) g 130 L from ((Kp.refl (fun k => k = w.heap.size) W1).setRow rfl _).row (hR.ext hE1) (by omega))
  have rB := hcpB _ r2 r3
  have hfin : InsPost 130 2 w (((W1.setRow w.heap.size M.toArray).drew).setRow w.heap.size N.toArray) (some ⟨g, 0, none⟩) n (xs.take (i * 2) ++ cs ++ xs.drop (i * 2)) (.returned (.slice (some ⟨w.heap.size, 0, none⟩) (n + 1) G)) := by
    refine ⟨_, G, rfl, osl_of_row (r2.setRow N) 2 (n + 1) G hGn hG63 hNL hNt, ?_, fun g' hg' => by cases hg'; exact Or.inr (Nat.le_refl _)⟩
    have k1 : Ext w (W1.setRow w.heap.size M.toArray) := hE1.kpFresh ((Kp.refl (fun k => k = w.heap.size) W1).setRow rfl _) (Nat.le_refl _)
    exact (Ext.kpFresh k1.drew ((Kp.refl (fun k => k = w.heap.size) _).setRow rfl _) (Nat.le_refl _)).kp _
  subst hW1
  have HF : Hid _ := hfin
  have hb1 : (i : Int) ≤ (n : Int) := by omega
  have hb2 : ¬ ((i : Int) = (n : Int)) := by omega
  have hb3 : ¬ cap = i := by omega
  have hb4 : ¬ G = i + 1 := by omega
  have hb10 : ¬ G = i := by omega
  have hb5 : (cap : Int) < (n : Int) + 1 := by omega
  have hb6 : (i : Int) + 1 ≤ (n : Int) + 1 := by omega
  have hb7 : ((i : Int) + 1).toNat = i + 1 := by omega
  have hin : i ≤ n := by omega
  have hb0 : (0 : Int) ≤ (i : Int) + 1 := by omega
  have hb8 : (i : Int) ≤ (n : Int) + 1 := by omega
  have hb9 : i ≤ n + 1 := by omega
  have hw1 : IntKind.i64.wrap ((i : Int) + 1) = (i : Int) + 1 := by rw [IntKind.wrap_i64]; omega
  clear hfin hcpA hcpB r1 r2 r3 hE1 hNt hNL hN hML hM hx hxl hR hv h1 hRt hRl hRR hG hold hkk hik hsrcx hi0 hz0 hzs hzb
  go_enter Tryz.func50, Tryz.ntmps50
  go_wp2_with (first
    | (at_builtin; refine Lib.wpList_append_run _ rfl _ _ _ _ rfl _ _ rfl rfl _ _ (hrz _) ?_)
    | (refine wpList_copy_runI _ rfl _ _ 98 98 rfl _ _ rfl rfl (rA _ _) ?_))
  go_region_law (refine step_copy_runI rfl _ _ 98 98 rfl (.slice (some ⟨w.heap.size, (i + 1) * 2, none⟩) (n + 1 - (i + 1)) (G - (i + 1))) (.slice (some ⟨g, i * 2, none⟩) (n - i) (cap - i)) (by simp [Act.eval, Act.put]) (by simp [Act.eval, Act.put]) (rB 3 (G - (i + 1)) (cap - i)) ?_)
  go_wp2
  go_ret
  exact HF.out
theorem insert_anyF (fa : Option Addr) (n cap i : Nat) (xs : List Value) (vb : Nat) (cs : List Value) (w : World) (hO : OSl w 130 2 fa n cap xs) (hi : i ≤ n) (hn : n ≤ 999) (hv : Row w vb 130 cs) (hne : ¬ blkOf fa = some vb) (h2 : ∀ u ∈ cs, u.oneCell' = true) (hcs : cs.length = 2) (h1 : ∀ v ∈ xs, v.oneCell' = true) :
    Calls Tryz.prog 50 #[.slice fa n cap, .int .i64 i, .slice (some ⟨vb, 0, none⟩) 1 1] w fun e w' => InsPost 130 2 w w' fa n (xs.take (i * 2) ++ cs ++ xs.drop (i * 2)) e := by
  have hxl := hO.len
  rcases Nat.lt_or_ge i n with h | h
  · obtain ⟨g, L, rfl, hR, hnc, hm, hL, hx⟩ := row_of_osl hO (by omega)
    rcases Nat.lt_or_ge cap (n + 1) with h' | h'
    · exact insert_growF g n cap i L xs vb cs w hR hx (by omega) h hnc h' hn hv h2 hcs h1
    · exact insert_roomF g n cap i L xs vb cs w hR hL hm hx h h' hn hv (fun e => hne (by rw [e]; rfl)) h2 hcs h1
  · obtain rfl : i = n := by omega
    have hcap : (i : Int) ≤ cap := by
      rcases hO.form with ⟨_, h0, h1, _⟩ | ⟨_, _, _, _, h1, _⟩ <;> omega
    rw [List.take_of_length_le (by omega), List.drop_of_length_le (by omega), List.append_nil]
    exact insert_endF fa i cap xs vb cs w hO hn hv h2 hcs hcap
end Go.Proofs.YtpbblaeamddbgaaGreat
namespace Go.Proofs.YtpbblaeamddbgaaGreat
open Go.RowKit

theorem del_listF (L xs : List Value) (k i : Nat) (z : List Value) (hi : i ≤ k) (hL : k * 2 + 2 ≤ L.length) (hx : L.take ((k + 1) * 2) = xs) (hz : z.length = 2) :
    let M := L.take (i * 2) ++ xs.drop ((i + 1) * 2) ++ L.drop (i * 2 + (xs.drop ((i + 1) * 2)).length)
    (M.take (k * 2) ++ z ++ M.drop (k * 2 + z.length)).take (k * 2) = xs.take (i * 2) ++ xs.drop ((i + 1) * 2) ∧ (M.take (k * 2) ++ z ++ M.drop (k * 2 + z.length)).length = L.length ∧ M.length = L.length := by
  intro M
  have hxl : xs.length = (k + 1) * 2 := by rw [← hx]; simp; omega
  have hML : M.length = L.length := by simp [M, hxl]; omega
  refine ⟨?_, by simp [hML, hz]; omega, hML⟩
  rw [List.append_assoc, List.take_left' (by simp [hML]; omega)]
  simp only [M]
  rw [List.take_left' (by simp [hxl]; omega)]
  congr 1
  rw [← hx, List.take_take]
  congr 1; omega

set_option maxHeartbeats 1600000 in
set_option maxRecDepth 100000 in
theorem delete_anyF (g k cap i : Nat) (L xs : List Value) (w : World) (hR : Row w g 130 L) (hL : L.length = cap * 2) (hm : cap ≤ maxLen) (hnc : k + 1 ≤ cap) (hx : L.take ((k + 1) * 2) = xs) (hi : i ≤ k) (hn : k ≤ 999) (h1 : ∀ v ∈ xs, v.oneCell' = true) :
    Calls Tryz.prog 54 #[.slice (some ⟨g, 0, none⟩) (k + 1) cap, .int .i64 i, .int .i64 ((i : Int) + 1)] w fun e w' => e = .returned (.slice (some ⟨g, 0, none⟩) k cap) ∧ OSl w' 130 2 (some ⟨g, 0, none⟩) k cap (xs.take (i * 2) ++ xs.drop ((i + 1) * 2)) ∧ Kp (fun k => k = g) w w' := by
  have hxl : xs.length = (k + 1) * 2 := by rw [← hx]; simp; omega
  obtain ⟨i0, hi0, hz0, hzs, hzb⟩ := info_parts Tryz.infoF
  obtain ⟨news, hnews⟩ : ∃ news, news = xs.drop ((i + 1) * 2) := ⟨_, rfl⟩
  have hnl : news.length = (k - i) * 2 := by rw [hnews]; simp [hxl]; omega
  have hsrcx : ∀ j v, xs[j]? = some v → L[j]? = some v := fun j v hj => by
    rw [← hx, List.getElem?_take] at hj
    split at hj
    · exact hj
    · cases hj
  have hRd : Row w.drew g 130 L := hR
  obtain ⟨A, hA, hsrc⟩ : ∃ A : Addr, (if cap = i + 1 then some (⟨g, 0, none⟩ : Addr) else some ⟨g, (i + 1) * 2, none⟩) = some A ∧ Hid (∀ t u, news[t]? = some u → w.drew.cell? (A.add t) = some u) := by
    by_cases h : cap = i + 1
    · refine ⟨⟨g, 0, none⟩, by simp [h], fun t u hu => ?_⟩
      have h0 : news.length = 0 := by rw [hnl]; omega
      rw [List.length_eq_zero_iff.1 h0] at hu
      simp at hu
    · refine ⟨⟨g, (i + 1) * 2, none⟩, by simp [h], fun t u hu => ?_⟩
      rw [add_at]
      rw [hnews, List.getElem?_drop] at hu
      exact hRd.at (hsrcx _ u hu)
  have s2 : Hid (∀ u ∈ news, u.oneCell' = true) := fun u hu => by rw [hnews] at hu; exact h1 u (List.mem_of_mem_drop hu)
  have s3 : Hid (∀ t, t < news.length → (w.drew.cell? ⟨g, 0 + i * 2 + t, none⟩).isSome = true ∧ w.drew.frozen? ⟨g, 0 + i * 2 + t, none⟩ = false) := by
    intro t ht
    rw [Nat.zero_add, hRd.cell (j := i * 2 + t) (by omega)]
    exact ⟨rfl, hRd.frozen _⟩
  have s1 : Hid (news.length = (k - i) * 2) := hnl
  obtain ⟨z, hz⟩ : ∃ z : List Value, z = [.int .i64 0, .slice none 0 0] := ⟨_, rfl⟩
  have hzl : z.length = 2 := by rw [hz]; rfl
  obtain ⟨d1, d2, d3⟩ := del_listF L xs k i z hi (by omega) hx hzl
  obtain ⟨W1, hW1⟩ : ∃ W1, W1 = w.drew.setCells g (0 + i * 2) news := ⟨_, rfl⟩
  obtain ⟨M, hM⟩ : ∃ M, M = L.take (i * 2) ++ xs.drop ((i + 1) * 2) ++ L.drop (i * 2 + (xs.drop ((i + 1) * 2)).length) := ⟨_, rfl⟩
  simp only [← hM] at d1 d2 d3
  have r1 : Row W1 g 130 M := by
    rw [hW1, Nat.zero_add, hM, hnews]
    refine row_setCells _ (i * 2) _ L hRd ?_
    rw [← hnews]; omega
  have k1 : Kp (fun b => b = g) w W1 := by
    rw [hW1]
    exact kp_setCells (M := fun b => b = g) rfl _ _ _ _ (((Ext.refl w).drew).kp _)
  have hz1 : ∀ v ∈ z, v.oneCell' = true := by
    rw [hz]; decide
  obtain ⟨N, hN⟩ : ∃ N, N = M.take (k * 2) ++ z ++ M.drop (k * 2 + z.length) := ⟨_, rfl⟩
  rw [← hN] at d1 d2
  have hcl : ∀ ty, (Builtin.clear_ #[98] ty #[.slice (some ⟨g, k * 2, none⟩) 1 (cap - k)]).run Tryz.prog W1 = .ok (.tuple #[]) (W1.setRow g N.toArray) := fun ty => by
    have hst := run_storeCells_at Tryz.prog g (k * 2) 130 z 0 M.toArray W1 r1 (by simp; omega) hz1
    have hzc : (Builtin.zeroCells (Value.agg #[.int .i64 0, .slice none 0 0]).cells 1).toList = z := by rw [hz]; kernel_rfl
    have hzv := Tryz.zeroValue130 W1
    simp only [Nat.add_zero] at hst
    simp only [← hN] at hst
    simp [Builtin.clear_, run_underlying Tryz.underlying98, hzv, hzc, hst]
  have hfin : OSl (W1.setRow g N.toArray) 130 2 (some ⟨g, 0, none⟩) k cap (xs.take (i * 2) ++ xs.drop ((i + 1) * 2)) ∧ Kp (fun k => k = g) w (W1.setRow g N.toArray) :=
    ⟨osl_of_row (r1.setRow N) 2 k cap (by omega) hm (by omega) d1, k1.setRow rfl _⟩
  have HF : Hid _ := hfin
  have hW : Hid (W1 = w.drew.setCells g (0 + i * 2) news) := hW1
  have hik : i + (k - i) = k := by omega
  have hin : i ≤ k + 1 := by omega
  have hc63 : cap ≤ 9223372036854775807 := by unfold maxLen at hm; omega
  have hb0 : (0 : Int) ≤ (i : Int) + 1 := by omega
  have hb1 : (i : Int) + 1 ≤ (k : Int) + 1 := by omega
  have hb2 : i + 1 ≤ cap := by omega
  have hb3 : i ≤ cap := by omega
  have hb4 : ¬ cap = i := by omega
  have hb5 : ¬ cap = k := by omega
  have hb6 : k ≤ cap := by omega
  have hb7 : ((i : Int) + 1).toNat = i + 1 := by omega
  have hb8 : (i : Int) ≤ (k : Int) := by omega
  have hb9 : ¬ (i : Int) = (i : Int) + 1 := by omega
  clear hfin d1 d2 d3 r1 k1 hW1 hM hN hz hzl hz1 hx hxl hR hRd hL hm h1 hnews hnl hsrcx
  go_enter Tryz.func54, Tryz.ntmps54
  go_wp2_with fail
  go_region_law (refine step_append_room rfl (.tmp 22) (.tmp 25) 98 rfl 130 i0 2 Tryz.underlying98 hi0 hzs g 0 i cap (by simp [Act.eval, Act.put]) A (k - i) (cap - (i + 1)) news (by simp [Act.eval, Act.put]) s1.out hsrc.out s2.out (by omega) s3.out ?_; rw [← hW.out, hik])
  go_wp2
  go_ret
  exact ⟨rfl, HF.out⟩
end Go.Proofs.YtpbblaeamddbgaaGreat
