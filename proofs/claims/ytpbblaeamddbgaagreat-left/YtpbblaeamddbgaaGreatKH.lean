import Derived.Laws.OwnMore
import Derived.Test.YtpbblaeamddbgaaGreatKG
namespace Go.Proofs.YtpbblaeamddbgaaGreat
open Go.RowKit

/-- The filters that are left: those of the numbers that are not gone. -/
def fltL (ls : List WL) (gn : Nat → Bool) (L : List Nat) : List (Int × List Cd) := (L.filter (fun i => !gn i)).map (fun i : Nat => ((i : Int), filterOf (lAt ls i)))
def fltG (ls : List WL) (gn : Nat → Bool) (n : Nat) : List (Int × List Cd) := fltL ls gn (List.range n)
def away (gn : Nat → Bool) (k : Nat) : Nat → Bool := fun i => if i = k then true else gn i
theorem range_cut : ∀ n k, k < n → ∃ R : List Nat, List.range n = List.range k ++ k :: R ∧ ∀ x ∈ R, k < x
  | 0, _, h => absurd h (Nat.not_lt_zero _)
  | n + 1, k, h => by
    rw [List.range_succ]
    rcases Nat.lt_or_ge k n with h' | h'
    · obtain ⟨R, e, hR⟩ := range_cut n k h'
      refine ⟨R ++ [n], by rw [e]; simp, fun x hx => ?_⟩
      rcases List.mem_append.1 hx with h | h
      · exact hR x h
      · simp at h; omega
    · obtain rfl : k = n := by omega
      exact ⟨[], rfl, fun x hx => by cases hx⟩
theorem fltL_app (ls : List WL) (gn : Nat → Bool) (A B : List Nat) : fltL ls gn (A ++ B) = fltL ls gn A ++ fltL ls gn B := by
  unfold fltL; rw [List.filter_append, List.map_append]
theorem fltL_congr (ls : List WL) (gn gm : Nat → Bool) (L : List Nat) (h : ∀ x ∈ L, gn x = gm x) : fltL ls gn L = fltL ls gm L := by
  unfold fltL
  rw [List.filter_congr (fun x hx => by rw [h x hx])]
theorem fltL_mem {ls : List WL} {gn : Nat → Bool} {L : List Nat} {x : Int × List Cd} (h : x ∈ fltL ls gn L) : ∃ i ∈ L, x.1 = (i : Int) := by
  unfold fltL at h
  obtain ⟨i, hi, rfl⟩ := List.mem_map.1 h
  exact ⟨i, (List.mem_filter.1 hi).1, rfl⟩
theorem fltG_none (ls : List WL) (n : Nat) : fltG ls (fun _ => false) n = fltOf ls n := by
  unfold fltG fltL fltOf
  congr 1
  exact List.filter_eq_self.2 (fun _ _ => rfl)
theorem un_gone (ls : List WL) (gn : Nat → Bool) (n k : Nat) (hk : k < n) : ∃ q, PosOf (fltG ls gn n) k q ∧ unErr (fltG ls gn n) k q = (if gn k then 7 else 0) ∧ unFlt (fltG ls gn n) k q = fltG ls (away gn k) n ∧ (fltG ls gn n).length = (fltG ls (away gn k) n).length + if gn k then 0 else 1 := by
  obtain ⟨R, e, hR⟩ := range_cut n k hk
  have hA : ∀ x ∈ fltL ls gn (List.range k), x.1 < (k : Int) := fun x hx => by
    obtain ⟨i, hi, e⟩ := fltL_mem hx
    have := List.mem_range.1 hi
    omega
  have hRm : ∀ x ∈ fltL ls gn R, (k : Int) < x.1 := fun x hx => by
    obtain ⟨i, hi, e⟩ := fltL_mem hx
    have := hR i hi
    omega
  have e1 : fltL ls (away gn k) (List.range k) = fltL ls gn (List.range k) := fltL_congr _ _ _ _ (fun x hx => by
    have := List.mem_range.1 hx
    simp [away]; omega)
  have e2 : fltL ls (away gn k) R = fltL ls gn R := fltL_congr _ _ _ _ (fun x hx => by
    have := hR x hx
    simp [away]; omega)
  have e3 : fltL ls (away gn k) (k :: R) = fltL ls gn R := by
    rw [← e2]; unfold fltL
    rw [List.filter_cons_of_neg (by simp [away])]
  have ea : fltG ls (away gn k) n = fltL ls gn (List.range k) ++ fltL ls gn R := by
    unfold fltG; rw [e, fltL_app, e1, e3]
  have eb : fltG ls gn n = fltL ls gn (List.range k) ++ fltL ls gn (k :: R) := by
    unfold fltG; rw [e, fltL_app]
  rw [ea, eb]
  generalize fltL ls gn (List.range k) = A at *
  have ec : fltL ls gn (k :: R) = if gn k then fltL ls gn R else ((k : Int), filterOf (lAt ls k)) :: fltL ls gn R := by
    unfold fltL
    cases h : gn k <;> simp [h]
  rw [ec]
  generalize fltL ls gn R = B at *
  generalize filterOf (lAt ls k) = fk
  cases gn k with
  | true =>
    have hB : ∀ h : A.length < (A ++ B).length, (A ++ B)[A.length] ∈ B := fun h => by
      rw [List.getElem_append_right (Nat.le_refl _)]
      exact List.getElem_mem _
    have hth : thereB (A ++ B) k A.length = false := thereB_no (fun h e => by have := hRm _ (hB h); omega)
    simp only [if_true]
    refine ⟨A.length, ⟨by simp, fun j hj hjA => ?_, fun h => ?_⟩, ?_, ?_, rfl⟩
    · rw [List.getElem_append_left hjA]; exact hA _ (List.getElem_mem _)
    · have := hRm _ (hB h); omega
    · unfold unErr; rw [hth]; rfl
    · unfold unFlt; rw [hth]; rfl
  | false =>
    have hth : thereB (A ++ ((k : Int), fk) :: B) k A.length = true := by
      unfold thereB
      simp
    simp only [Bool.false_eq_true, if_false]
    refine ⟨A.length, ⟨by simp, fun j hj hjA => ?_, fun h => ?_⟩, ?_, ?_, by simp; omega⟩
    · rw [List.getElem_append_left hjA]; exact hA _ (List.getElem_mem _)
    · simp
    · unfold unErr; rw [hth]; rfl
    · unfold unFlt; rw [hth]
      simp
end Go.Proofs.YtpbblaeamddbgaaGreat
namespace Go.Proofs.YtpbblaeamddbgaaGreat
open Go.RowKit

/-- Who is gone, as it lies in memory. -/
def goneC (gn : Nat → Bool) (n : Nat) : List Value := (List.range n).map (fun i => Value.bool (gn i))
theorem gone_at (gn : Nat → Bool) (n k : Nat) (hk : k < n) : (goneC gn n)[k]? = some (.bool (gn k)) := by simp [goneC, hk]
theorem gone_set (gn : Nat → Bool) (n k : Nat) : (goneC gn n).set k (.bool true) = goneC (away gn k) n := by
  apply List.ext_getElem (by simp [goneC])
  intro j h1 h2
  rw [List.getElem_set]
  by_cases h : k = j
  · subst h; simp [goneC, away]
  · have h' : ¬ j = k := fun e => h e.symm
    simp [goneC, away, h, h']
theorem Tryz.infoBl : (Tryz.prog.info? 4).map (fun i => (i.zero, i.size, i.bytes)) = some (some (.bool false), 1, 1) := by kernel_rfl
/-- 'make([]bool, n)': nobody is gone. -/
theorem wpList_make_gone {P : Program} (w : World) {ops : Array Oper} {rest : List Oper} {o : Oper} {a : Act} {Q : Exit → Act → World → Prop}
    (hg : o.guard = none) (l c : Operand) (t : TypeId) (hop : o.op = Op.makeSlice t l c)
    (e : TypeId) (bytes : Nat) (h1 : P.underlying t = some (.slice e)) (h2 : (P.info? e).map (fun i => (i.zero, i.size, i.bytes)) = some (some (.bool false), 1, bytes))
    (kl kc : IntKind) (L C : Int) (n : Nat) (hl : a.eval l = .int kl L) (hc : a.eval c = .int kc C) (hL : L = (n : Int)) (hC : C = (n : Int)) (b2 : bytes * n ≤ 281474976710656) (b3 : n ≤ maxLen)
    (hK : ∀ w', Hid (Row w' w.heap.size e (goneC (fun _ => false) n)) → Ext w w' → wpList P ops Q rest (a.put o.dst (.slice (some ⟨w.heap.size, 0, none⟩) n n)) w') :
    wpList P ops Q (o :: rest) a w := by
  obtain ⟨i, hi, hz0, hz1, hz2⟩ := info_parts h2
  subst hz2
  refine wpList_make_full w hg l c t hop w.heap.size e i (.bool false) 1 h1 hi hz0 hz1 kl kc L C n hl hc hL hC b2 b3 (Nat.le_refl _) ?_
  intro w' hown hgrow
  have hr := Row.own hown
  have e1 : (madeCells (Value.bool false).cells (n * 1)).toList = goneC (fun _ => false) n := by
    rw [show (Value.bool false).cells = #[Value.bool false] from rfl, toList_madeCells_one, Nat.mul_one]
    unfold goneC
    rw [List.map_const', List.length_range]
  rw [e1] at hr
  exact hK w' hr ((Ext.refl _).grown hgrow (by simp))
/-- Who is gone, in a block that is no engine's. -/
structure GRow (w : World) (own : Nat → Nat) (g : Nat) (gn : Nat → Bool) (n : Nat) : Prop where
  row : Row w g 4 (goneC gn n)
  free : own g = 0
theorem GRow.lt {w : World} {own : Nat → Nat} {g n : Nat} {gn : Nat → Bool} (h : GRow w own g gn n) : g < w.heap.size := h.row.lt
theorem GRow.ext {w w' : World} {own : Nat → Nat} {g n : Nat} {gn : Nat → Bool} (h : GRow w own g gn n) (e : Ext w w') : GRow w' own g gn n := ⟨h.row.ext e, h.free⟩
theorem GRow.tel {w w' : World} {own own' : Nat → Nat} {g n i : Nat} {gn : Nat → Bool} (h : GRow w own g gn n) (k : Kp (fun b => own b = i + 1) w w') (ho : ∀ b, b < w.heap.size → own' b = own b) : GRow w' own' g gn n :=
  ⟨k.row h.row (fun e => by have := h.free; omega), by rw [ho g h.lt]; exact h.free⟩
theorem GRow.at {w : World} {own : Nat → Nat} {g n : Nat} {gn : Nat → Bool} (h : GRow w own g gn n) (k : Nat) (hk : k < n) : w.cell? ⟨g, k, none⟩ = some (.bool (gn k)) := h.row.at (gone_at gn n k hk)
theorem GRow.set {w : World} {own : Nat → Nat} {g n : Nat} {gn : Nat → Bool} (h : GRow w own g gn n) (k : Nat) : GRow (w.setCell ⟨g, k, none⟩ (.bool true)) own g (away gn k) n :=
  ⟨by rw [← gone_set]; exact h.row.set k _, h.free⟩
end Go.Proofs.YtpbblaeamddbgaaGreat
namespace Go.Proofs.YtpbblaeamddbgaaGreat
open Go.RowKit

section
variable {E : World → Nat → (Nat → Prop) → List Int → List (Int × List Cd) → Int → Prop}
/-- A block that is no engine's is written. -/
theorem KS.aside (C : EngC E) {w0 w w1 : World} {own : Nat → Nat} {es : List KE} (S : KS E w0 w own es) {g : Nat} (hK : Kp (fun b => b = g) w w1) (hg : own g = 0) (hw : w0.heap.size ≤ g) : KS E w0 w1 own es :=
  ⟨fun i hi => ⟨C.kp (S.eng i hi).1 hK (fun b hb e => by subst e; omega), (S.eng i hi).2⟩, S.old, fun b hb => S.fresh b (Nat.le_trans hK.size hb), S.ext.kpFresh hK hw, S.top⟩
/-- What Unsubscribe answers of one that is gone, or is not. -/
theorem KS.goes (C : EngC E) {w0 w : World} {own : Nat → Nat} {eb n : Nat} {ls : List WL} {gn : Nat → Bool} {m : Int} (S : KS E w0 w own [⟨eb, sch4, fltG ls gn n, m⟩]) (k : Nat) (hk : k < n) :
    Calls Tryz.prog 27 #[.pointer (some ⟨eb, 0, none⟩), .int .i64 k] w fun e w' => e = .returned (.int .i64 (if gn k then 7 else 0)) ∧ ∃ own', KS E w0 w' own' [⟨eb, sch4, fltG ls (away gn k) n, m⟩] ∧ Kp (fun b => own b = 0 + 1) w w' ∧ ∀ b, b < w.heap.size → own' b = own b := by
  obtain ⟨q, hq, h1, h2, _⟩ := un_gone ls gn n k hk
  refine (KS.uns C S (i := 0) (x := ⟨eb, sch4, fltG ls gn n, m⟩) rfl k q hq).mono ?_
  rintro e w' ⟨rfl, own', S', hK, ho, _⟩
  simp only [h1, h2] at S' ⊢
  exact ⟨trivial, own', S', hK, ho⟩
theorem fltG_len (ls : List WL) (gn : Nat → Bool) (n : Nat) : (fltG ls gn n).length ≤ n := by
  unfold fltG fltL
  rw [List.length_map]
  have := List.length_filter_le (fun i => !gn i) (List.range n)
  simpa using this
theorem want_succG (ls : List WL) (gn : Nat → Bool) (f : Int → Option Vl) (k : Nat) : metIds (fltG ls gn (k + 1)) f = if meetsB (filterOf (lAt ls k)) f && !gn k then metIds (fltG ls gn k) f ++ [(k : Int)] else metIds (fltG ls gn k) f := by
  have e : fltG ls gn (k + 1) = fltG ls gn k ++ (if gn k then [] else [((k : Int), filterOf (lAt ls k))]) := by
    unfold fltG
    rw [List.range_succ, fltL_app]
    congr 1
    unfold fltL
    cases h : gn k <;> simp [h]
  unfold metIds
  rw [e, List.filter_append, List.map_append]
  cases gn k <;> by_cases h : meetsB (filterOf (lAt ls k)) f = true <;> simp [h]
theorem want_lenG (ls : List WL) (gn : Nat → Bool) (f : Int → Option Vl) (k : Nat) : (metIds (fltG ls gn k) f).length ≤ k := by
  have h := met_le (fltG ls gn k) f (fltG ls gn k).length
  rw [List.take_of_length_le (Nat.le_refl _)] at h
  exact Nat.le_trans h (fltG_len ls gn k)
def upTo (gn : Nat → Bool) (k : Nat) : Nat → Bool := fun i => decide (i < k) || gn i
theorem upTo_zero (gn : Nat → Bool) : upTo gn 0 = gn := by funext i; simp [upTo]
theorem upTo_at (gn : Nat → Bool) (k : Nat) : upTo gn k k = gn k := by simp [upTo]
theorem upTo_away (gn : Nat → Bool) (k : Nat) : away (upTo gn k) k = upTo gn (k + 1) := by
  funext i
  unfold away upTo
  by_cases h : i = k
  · simp [h]
  · have : decide (i < k + 1) = decide (i < k) := by apply decide_eq_decide.2; omega
    simp [h, this]
theorem upTo_gone (gn : Nat → Bool) (k : Nat) (h : gn k = true) : upTo gn (k + 1) = upTo gn k := by
  rw [← upTo_away]
  funext i
  unfold away
  by_cases e : i = k
  · subst e; simp [upTo, h]
  · simp [e]
theorem fltG_upTo (ls : List WL) (gn : Nat → Bool) (n : Nat) : fltG ls (upTo gn n) n = [] := by
  unfold fltG fltL
  rw [List.filter_eq_nil_iff.2 (fun x hx => by have := List.mem_range.1 hx; simp [upTo, this])]
  rfl
theorem nxt_nat (k : Nat) (h : k < 4611686018427387904) : nxt (k : Int) = ((k + 1 : Nat) : Int) := by
  unfold nxt
  rw [IntKind.wrap_i64]
  omega
/-- What Stats tells of the one engine. -/
theorem KS.stas (C : EngC E) {w0 w : World} {own : Nat → Nat} {eb : Nat} {g : List (Int × List Cd)} {m : Int} (S : KS E w0 w own [⟨eb, sch4, g, m⟩]) :
    Calls Tryz.prog 28 #[.pointer (some ⟨eb, 0, none⟩)] w fun e w' => ∃ (k : Nat) (own' : Nat → Nat), e = .returned (.agg #[.int .i64 g.length, .int .i64 k, .int .i64 m]) ∧ 1 ≤ k ∧ k ≤ 1 + g.length * 4 ∧ KS E w0 w' own' [⟨eb, sch4, g, m⟩] ∧ Kp (fun b => own b = 0 + 1) w w' ∧ ∀ b, b < w.heap.size → own' b = own b := by
  refine (KS.sta C S (i := 0) (x := ⟨eb, sch4, g, m⟩) rfl).mono ?_
  rintro e w' ⟨k, rfl, k1, k2, own', S', hK, ho, _⟩
  exact ⟨k, own', rfl, k1, k2, S', hK, ho⟩
set_option maxHeartbeats 3200000 in
set_option maxRecDepth 100000 in
theorem left_walk (C : EngC E) (lo oo ho : Option Addr) (lcap ocap hcap : Nat) (ls : List WL) (os : List Int) (hs : List Hv) (w : World) (hL : WLs w lo ls) (hO : Ixs w oo os) (hOl : os.length * 8 ≤ 140737488351232) (hOz : ∀ j, -9223372036854775808 ≤ os.getD j 0 ∧ os.getD j 0 ≤ 9223372036854775807) (hH : HVs w ho hs) :
    Calls Tryz.prog 7 #[.slice lo ls.length lcap, .slice oo os.length ocap, .slice ho hs.length hcap] w fun e w' => e = .returned (.bool true) ∧ Ext w w' := by
  have HE : Hid _ := engine_any C (KS.start (E := E) w) lo lcap ls hL
  have HMt : Hid (∀ W n (hlt : n < ls.length), Ext w W → ∀ hv : Hv, _) := fun W n hlt h hv => meets_at hL n hlt h hv
  have HT : Hid (∀ fn w1 w2 own eb f a h (ro : Option Addr) (rcap : Nat), (fn = 16 ∨ fn = 17 ∨ fn = 18) → KS E w w1 own [⟨eb, sch4, f, a⟩] → Ext w1 w2 → Fxs w2 ro (eventOf h) → Calls Tryz.prog fn #[.pointer (some ⟨eb, 0, none⟩), .slice ro (eventOf h).length rcap] w2 fun e w' => TelPost E w w2 own [⟨eb, sch4, f, a⟩] 0 ⟨eb, sch4, f, a⟩ h e w') := fun fn w1 w2 own eb f a h ro rcap hfn S hE hc => KS.tel C (S.ahead C hE) (i := 0) rfl rfl h _ hfn ro rcap hc
  have HL : Hid (WLs w lo ls) := hL
  have HHv : Hid (HVs w ho hs) := hH
  have HO : Hid (Ixs w oo os) := hO
  have HOz : Hid (∀ j, -9223372036854775808 ≤ os.getD j 0 ∧ os.getD j 0 ≤ 9223372036854775807) := hOz
  have hll := hL.1
  have hhl := hH.1
  clear hL hH hO hOz
  go_enter Tryz.func7, Tryz.ntmps7
  go_wp2_with fail
  refine Calls.mono HE.out ?_
  rintro e w1 ⟨eb, n, own1, rfl, hn1, hn2, S1, _, _, hmin⟩
  clear HE hmin
  go_wp2_with (first
    | (at_make; refine wpList_make_gone _ rfl _ _ 58 rfl 4 1 Tryz.underlying58 Tryz.infoBl _ _ _ _ n rfl rfl (by omega) (by omega) (by omega) (by unfold maxLen; omega) ?_; intro w2 hrow hE2))
  have S2 : KS E w w2 own1 [⟨eb, sch4, fltG ls (fun _ => false) n, 0⟩] := by rw [fltG_none]; exact S1.ahead C hE2
  have G2 : GRow w2 own1 w1.heap.size (fun _ => false) n := ⟨hrow.out, S1.fresh _ (Nat.le_refl _)⟩
  have hgw : Hid (w.heap.size ≤ w1.heap.size) := S1.ext.le
  have HL2 : Hid ((n : Int) = ((fltG ls (fun _ => false) n).length : Int)) := by
    show _ = _
    rw [fltG_none, fltOf_len]
  clear hrow S1 hE2
  generalize w1.heap.size = gb at *
  go_loopw [11, 12] (fun v11 v12 wr => ∃ (i : Nat) (own : Nat → Nat) (gn : Nat → Bool), i ≤ os.length ∧ v12 = .int .i64 i ∧ v11 = .int .i64 (fltG ls gn n).length ∧ KS E w wr own [⟨eb, sch4, fltG ls gn n, 0⟩] ∧ GRow wr own gb gn n) (fun _ v12 _ => os.length - (intOf v12).toNat)
  case atStart => exact ⟨0, own1, fun _ => false, Nat.zero_le _, rfl, by rw [← HL2.out], S2, G2⟩
  case round =>
    obtain ⟨i, ownX, gn, hil, rfl, rfl, SX, GX⟩ := hrel
    clear S2 G2 HL2
    have hfl := fltG_len ls gn n
    by_cases hgo : i < os.length ∧ 0 < n
    · obtain ⟨hlt, hn0⟩ := hgo
      have hn0i : (0 : Int) < (n : Int) := by omega
      have hli : (i : Int) < (os.length : Int) := by omega
      have HSx : Hid (KS E w wr ownX [⟨eb, sch4, fltG ls gn n, 0⟩]) := SX
      have HGx : Hid (GRow wr ownX gb gn n) := GX
      obtain ⟨ob, oof, rfl, hcell⟩ := HO.out (by omega)
      have c0 := SX.ext.cell (hcell i hlt)
      have hz := HOz.out i
      obtain ⟨c, hc⟩ : ∃ c : Int, c = os.getD i 0 := ⟨_, rfl⟩
      rw [← hc] at hz c0
      clear hcell SX GX hc
      have HPk : Hid (∀ W, Calls Tryz.prog 26 #[.int .i64 c, .int .i64 n] W fun e w' => e = .returned (.int .i64 (pickI c n)) ∧ w' = W) := fun W => kpick_any c n W hz.1 hz.2 (by omega) (by omega)
      have hpl := pickI_lt c n (by omega)
      generalize pickI c n = k at *
      have hki : (k : Int) < (n : Int) := by omega
      go_wp2_with fail
      refine Calls.mono (HPk.out wr) ?_
      rintro e z1 ⟨rfl, rfl⟩
      clear HPk c0 hz
      go_wp2_with fail
      refine Calls.mono (HSx.out.goes C k hpl) ?_
      rintro e z2 ⟨rfl, own2, S2, hK2, ho2⟩
      have HG2 : Hid (GRow z2 own2 gb gn n) := HGx.out.tel hK2 ho2
      have HS2 : Hid (KS E w z2 own2 [⟨eb, sch4, fltG ls (away gn k) n, 0⟩]) := S2
      have d0 := HG2.out.at k hpl
      have HSt : Hid (∀ v, KS E w (z2.setCell ⟨gb, k, none⟩ v) own2 [⟨eb, sch4, fltG ls (away gn k) n, 0⟩]) := fun v => HS2.out.aside C ((Kp.refl (fun b => b = gb) z2).setCell (fun _ => rfl) _) HG2.out.free hgw.out
      obtain ⟨q, _, _, _, hlen⟩ := un_gone ls gn n k hpl
      have HLn : Hid ((fltG ls gn n).length = (fltG ls (away gn k) n).length + if gn k then 0 else 1) := hlen
      clear S2 hK2 ho2 HSx HGx hlen
      have HGs : Hid (GRow (z2.setCell ⟨gb, k, none⟩ (.bool true)) own2 gb (away gn k) n) := HG2.out.set k
      have hfz := HG2.out.row.frozen k
      cases hgk : gn k with
      | true =>
        rw [hgk] at d0
        have HLn2 : Hid ((fltG ls gn n).length = (fltG ls (away gn k) n).length) := by show _ = _; rw [HLn.out, hgk]; rfl
        clear HLn HG2 HS2
        generalize (fltG ls gn n).length = fl at *
        simp only [if_true]
        go_wp2
        go_roundw
        case rel => exact ⟨i + 1, own2, away gn k, by omega, by go_num, by rw [HLn2.out], HSt.out _, HGs.out⟩
        case measure => simp [intOf]; omega
      | false =>
        rw [hgk] at d0
        have HLn2 : Hid ((fltG ls gn n).length = (fltG ls (away gn k) n).length + 1) := by show _ = _; rw [HLn.out, hgk]; rfl
        clear HLn HG2 HS2
        generalize (fltG ls gn n).length = fl at *
        simp only [Bool.false_eq_true, if_false]
        go_wp2
        go_roundw
        case rel => exact ⟨i + 1, own2, away gn k, by omega, by go_num, by have := HLn2.out; go_num, HSt.out _, HGs.out⟩
        case measure => simp [intOf]; omega
    · have hz : ¬ (i : Int) < (os.length : Int) ∨ ((i : Int) < (os.length : Int) ∧ ¬ (0 : Int) < (n : Int)) := by
        by_cases h : (i : Int) < (os.length : Int)
        · exact Or.inr ⟨h, fun h' => hgo ⟨by omega, by omega⟩⟩
        · exact Or.inl h
      have HSx : Hid (KS E w wr ownX [⟨eb, sch4, fltG ls gn n, 0⟩]) := SX
      have HGx : Hid (GRow wr ownX gb gn n) := GX
      clear hgo HO HOz SX GX
      rcases hz with hz | ⟨hz, hz2⟩
      all_goals
        go_wp2_with fail
        go_loopw [15] (fun v15 wr => ∃ (j : Nat) (own : Nat → Nat), j ≤ hs.length ∧ v15 = .int .i64 j ∧ KS E w wr own [⟨eb, sch4, fltG ls gn n, ((2 * j : Nat) : Int)⟩] ∧ GRow wr own gb gn n) (fun v15 _ => hs.length - (intOf v15).toNat)
        case atStart => exact ⟨0, ownX, Nat.zero_le _, rfl, HSx.out, HGx.out⟩
        case round =>
          clear HSx HGx
          obtain ⟨j, ownY, hjl, rfl, SY, GY⟩ := hrel
          have HSy : Hid (KS E w wr ownY [⟨eb, sch4, fltG ls gn n, ((2 * j : Nat) : Int)⟩]) := SY
          have HGy : Hid (GRow wr ownY gb gn n) := GY
          clear SY GY
          by_cases hlt : j < hs.length
          · have hli : (j : Int) < (hs.length : Int) := by omega
            have HNx : Hid (nxt (nxt ((2 * j : Nat) : Int)) = ((2 * (j + 1) : Nat) : Int)) := by show _ = _; rw [nxt_nat _ (by omega), nxt_nat _ (by omega)]; omega
            obtain ⟨hb, ho2, rfl, hrg⟩ := HHv.out.2 (by omega)
            have HRg : Hid (∀ W, Ext w W → W.rangeAt hb (ho2 + j * 12) hs[j].cells) := fun W h x v hv => h.cell (hrg j hlt x v hv)
            have HEv : Hid (∀ W, Calls Tryz.prog 15 #[.agg hs[j].cells.toArray] W fun e w' => ∃ ro rcap, e = .returned (.slice ro (eventOf hs[j]).length rcap) ∧ OSl w' 71 3 ro (eventOf hs[j]).length rcap ((eventOf hs[j]).flatMap Fd.cells) ∧ (∀ g, blkOf ro = some g → W.heap.size ≤ g) ∧ Ext W w') := fun W => event_any hs[j] W
            clear hrg
            generalize hs[j] = hv at *
            generalize ((2 * j : Nat) : Int) = m at *
            obtain ⟨wo, hwo⟩ : ∃ wo : World, wo = wr := ⟨_, rfl⟩
            subst hwo
            go_wp2_with fail
            go_loopw [16, 17] (fun v16 v17 wr => ∃ (ro : Option Addr) (rcap k : Nat), k ≤ n ∧ v17 = .int .i64 k ∧ v16 = .slice ro (metIds (fltG ls gn k) (fo (eventOf hv))).length rcap ∧ OSl wr 3 1 ro (metIds (fltG ls gn k) (fo (eventOf hv))).length rcap ((metIds (fltG ls gn k) (fo (eventOf hv))).map (Value.int .i64)) ∧ (∀ g, blkOf ro = some g → wo.heap.size ≤ g) ∧ Ext wo wr) (fun _ v17 _ => n - (intOf v17).toNat)
            case atStart => exact ⟨none, 0, 0, Nat.zero_le _, rfl, rfl, OSl.nil _ _ _, (fun g hg => by cases hg), Ext.refl _⟩
            case round =>
              obtain ⟨ro, rcap, k, hkn, rfl, rfl, hown, hnew, hEr⟩ := hrel
              have HNw : Hid (∀ g, blkOf ro = some g → wo.heap.size ≤ g) := hnew
              have hwl := want_lenG ls gn (fo (eventOf hv)) k
              clear hnew
              have HEw : Hid (Ext w wr) := HSy.out.ext.trans hEr
              by_cases hk : k < n
              · have hkl : k < ls.length := by omega
                have hki : (k : Int) < (ls.length : Int) := by omega
                have hkn' : (k : Int) < (n : Int) := by omega
                obtain ⟨lb, lp, rfl, hcell⟩ := HL.out.2.1 (by omega)
                have c0 := HEw.out.cell (hcell k hkl)
                have HMk : Hid (∀ W, Ext w W → _) := fun W h => HMt.out W k hkl h hv
                have HSu : Hid _ := want_succG ls gn (fo (eventOf hv)) k
                have g0 := (HGy.out.ext hEr).at k hk
                have hr12 := HRg.out wr HEw.out
                have d0 : wr.cell? ⟨hb, ho2 + j * 12, none⟩ = some (.bool (hv.th 0)) := hr12 0 _ rfl
                have d1 : wr.cell? ⟨hb, ho2 + j * 12 + 1, none⟩ = some (.bool (hv.th 1)) := hr12 1 _ rfl
                have d2 : wr.cell? ⟨hb, ho2 + j * 12 + 2, none⟩ = some (.bool (hv.th 2)) := hr12 2 _ rfl
                have d3 : wr.cell? ⟨hb, ho2 + j * 12 + 3, none⟩ = some (.bool (hv.th 3)) := hr12 3 _ rfl
                have d4 : wr.cell? ⟨hb, ho2 + j * 12 + 4, none⟩ = some (.int .i64 (hv.n 0)) := hr12 4 _ rfl
                have d5 : wr.cell? ⟨hb, ho2 + j * 12 + 5, none⟩ = some (.int .i64 (hv.n 1)) := hr12 5 _ rfl
                have d6 : wr.cell? ⟨hb, ho2 + j * 12 + 6, none⟩ = some (.int .i64 (hv.n 2)) := hr12 6 _ rfl
                have d7 : wr.cell? ⟨hb, ho2 + j * 12 + 7, none⟩ = some (.int .i64 (hv.n 3)) := hr12 7 _ rfl
                have d8 : wr.cell? ⟨hb, ho2 + j * 12 + 8, none⟩ = some (.string (hv.s 0)) := hr12 8 _ rfl
                have d9 : wr.cell? ⟨hb, ho2 + j * 12 + 9, none⟩ = some (.string (hv.s 1)) := hr12 9 _ rfl
                have d10 : wr.cell? ⟨hb, ho2 + j * 12 + 10, none⟩ = some (.string (hv.s 2)) := hr12 10 _ rfl
                have d11 : wr.cell? ⟨hb, ho2 + j * 12 + 11, none⟩ = some (.string (hv.s 3)) := hr12 11 _ rfl
                clear hr12
                clear hcell
                generalize ls[k].ao = xa at *
                generalize ls[k].l.length = xl at *
                generalize ls[k].cap = xc at *
                generalize hB : meetsB (filterOf (lAt ls k)) (fo (eventOf hv)) = B at *
                clear hB
                generalize hM : metIds (fltG ls gn k) (fo (eventOf hv)) = M at *
                clear hM
                generalize hgk : gn k = gk at *
                clear hgk
                rcases (show B = false ∨ B = true ∧ gk = true ∨ B = true ∧ gk = false by cases B <;> cases gk <;> simp) with rfl | ⟨rfl, rfl⟩ | ⟨rfl, rfl⟩
                · go_wp2_with fail
                  go_region_held3 (fun w' => w'.cell? ⟨lb, lp + k, none⟩ = some (.slice xa xl xc) ∧ w'.cell? ⟨hb, ho2 + j * 12, none⟩ = some (.bool (hv.th 0)) ∧ w'.cell? ⟨hb, ho2 + j * 12 + 1, none⟩ = some (.bool (hv.th 1)) ∧ w'.cell? ⟨hb, ho2 + j * 12 + 2, none⟩ = some (.bool (hv.th 2)) ∧ w'.cell? ⟨hb, ho2 + j * 12 + 3, none⟩ = some (.bool (hv.th 3)) ∧ w'.cell? ⟨hb, ho2 + j * 12 + 4, none⟩ = some (.int .i64 (hv.n 0)) ∧ w'.cell? ⟨hb, ho2 + j * 12 + 5, none⟩ = some (.int .i64 (hv.n 1)) ∧ w'.cell? ⟨hb, ho2 + j * 12 + 6, none⟩ = some (.int .i64 (hv.n 2)) ∧ w'.cell? ⟨hb, ho2 + j * 12 + 7, none⟩ = some (.int .i64 (hv.n 3)) ∧ w'.cell? ⟨hb, ho2 + j * 12 + 8, none⟩ = some (.string (hv.s 0)) ∧ w'.cell? ⟨hb, ho2 + j * 12 + 9, none⟩ = some (.string (hv.s 1)) ∧ w'.cell? ⟨hb, ho2 + j * 12 + 10, none⟩ = some (.string (hv.s 2)) ∧ w'.cell? ⟨hb, ho2 + j * 12 + 11, none⟩ = some (.string (hv.s 3)))
                    (first | go_keep | exact ⟨hE2.cell (by exact c0), hE2.cell (by exact d0), hE2.cell (by exact d1), hE2.cell (by exact d2), hE2.cell (by exact d3), hE2.cell (by exact d4), hE2.cell (by exact d5), hE2.cell (by exact d6), hE2.cell (by exact d7), hE2.cell (by exact d8), hE2.cell (by exact d9), hE2.cell (by exact d10), hE2.cell (by exact d11)⟩)
                    (first | (go_at_call 14; refine Calls.mono (HMk.out _ (HEw.out.drew)) ?_; rintro e w2 ⟨rfl, hE2⟩))
                  have hown2 := OSl.ext hown ((Ext.refl _).drew.trans hE2)
                  have hEr2 := hEr.drew.trans hE2
                  clear hown
                  go_wp2
                  go_roundw
                  case rel => exact ⟨ro, rcap, k + 1, by omega, by go_num, by rw [HSu.out]; rfl, by rw [HSu.out]; exact hown2, HNw.out, hEr2⟩
                  case measure => simp [intOf]; omega
                · go_wp2_with fail
                  go_region_held3 (fun w' => w'.cell? ⟨lb, lp + k, none⟩ = some (.slice xa xl xc) ∧ w'.cell? ⟨hb, ho2 + j * 12, none⟩ = some (.bool (hv.th 0)) ∧ w'.cell? ⟨hb, ho2 + j * 12 + 1, none⟩ = some (.bool (hv.th 1)) ∧ w'.cell? ⟨hb, ho2 + j * 12 + 2, none⟩ = some (.bool (hv.th 2)) ∧ w'.cell? ⟨hb, ho2 + j * 12 + 3, none⟩ = some (.bool (hv.th 3)) ∧ w'.cell? ⟨hb, ho2 + j * 12 + 4, none⟩ = some (.int .i64 (hv.n 0)) ∧ w'.cell? ⟨hb, ho2 + j * 12 + 5, none⟩ = some (.int .i64 (hv.n 1)) ∧ w'.cell? ⟨hb, ho2 + j * 12 + 6, none⟩ = some (.int .i64 (hv.n 2)) ∧ w'.cell? ⟨hb, ho2 + j * 12 + 7, none⟩ = some (.int .i64 (hv.n 3)) ∧ w'.cell? ⟨hb, ho2 + j * 12 + 8, none⟩ = some (.string (hv.s 0)) ∧ w'.cell? ⟨hb, ho2 + j * 12 + 9, none⟩ = some (.string (hv.s 1)) ∧ w'.cell? ⟨hb, ho2 + j * 12 + 10, none⟩ = some (.string (hv.s 2)) ∧ w'.cell? ⟨hb, ho2 + j * 12 + 11, none⟩ = some (.string (hv.s 3)))
                    (first | go_keep | exact ⟨hE2.cell (by exact c0), hE2.cell (by exact d0), hE2.cell (by exact d1), hE2.cell (by exact d2), hE2.cell (by exact d3), hE2.cell (by exact d4), hE2.cell (by exact d5), hE2.cell (by exact d6), hE2.cell (by exact d7), hE2.cell (by exact d8), hE2.cell (by exact d9), hE2.cell (by exact d10), hE2.cell (by exact d11)⟩)
                    (first | (go_at_call 14; refine Calls.mono (HMk.out _ (HEw.out.drew)) ?_; rintro e w2 ⟨rfl, hE2⟩))
                  have hown2 := OSl.ext hown ((Ext.refl _).drew.trans hE2)
                  have hEr2 := hEr.drew.trans hE2
                  have g2 := ((Ext.refl _).drew.trans hE2).cell g0
                  clear hown g0
                  go_wp2
                  go_roundw
                  case rel => exact ⟨ro, rcap, k + 1, by omega, by go_num, by rw [HSu.out]; rfl, by rw [HSu.out]; exact hown2, HNw.out, hEr2⟩
                  case measure => simp [intOf]; omega
                · first
                  | (exfalso; omega)
                  | (skip
                     go_wp2_with fail
                     go_region_held3 (fun w' => w'.cell? ⟨lb, lp + k, none⟩ = some (.slice xa xl xc) ∧ w'.cell? ⟨hb, ho2 + j * 12, none⟩ = some (.bool (hv.th 0)) ∧ w'.cell? ⟨hb, ho2 + j * 12 + 1, none⟩ = some (.bool (hv.th 1)) ∧ w'.cell? ⟨hb, ho2 + j * 12 + 2, none⟩ = some (.bool (hv.th 2)) ∧ w'.cell? ⟨hb, ho2 + j * 12 + 3, none⟩ = some (.bool (hv.th 3)) ∧ w'.cell? ⟨hb, ho2 + j * 12 + 4, none⟩ = some (.int .i64 (hv.n 0)) ∧ w'.cell? ⟨hb, ho2 + j * 12 + 5, none⟩ = some (.int .i64 (hv.n 1)) ∧ w'.cell? ⟨hb, ho2 + j * 12 + 6, none⟩ = some (.int .i64 (hv.n 2)) ∧ w'.cell? ⟨hb, ho2 + j * 12 + 7, none⟩ = some (.int .i64 (hv.n 3)) ∧ w'.cell? ⟨hb, ho2 + j * 12 + 8, none⟩ = some (.string (hv.s 0)) ∧ w'.cell? ⟨hb, ho2 + j * 12 + 9, none⟩ = some (.string (hv.s 1)) ∧ w'.cell? ⟨hb, ho2 + j * 12 + 10, none⟩ = some (.string (hv.s 2)) ∧ w'.cell? ⟨hb, ho2 + j * 12 + 11, none⟩ = some (.string (hv.s 3)))
                       (first | go_keep | exact ⟨hE2.cell (by exact c0), hE2.cell (by exact d0), hE2.cell (by exact d1), hE2.cell (by exact d2), hE2.cell (by exact d3), hE2.cell (by exact d4), hE2.cell (by exact d5), hE2.cell (by exact d6), hE2.cell (by exact d7), hE2.cell (by exact d8), hE2.cell (by exact d9), hE2.cell (by exact d10), hE2.cell (by exact d11)⟩)
                       (first | (go_at_call 14; refine Calls.mono (HMk.out _ (HEw.out.drew)) ?_; rintro e w2 ⟨rfl, hE2⟩))
                     have hown2 := OSl.ext hown ((Ext.refl _).drew.trans hE2)
                     have hEr2 := hEr.drew.trans hE2
                     have g2 := ((Ext.refl _).drew.trans hE2).cell g0
                     clear hown hEr g0 c0 d0 d1 d2 d3 d4 d5 d6 d7 d8 d9 d10 d11
                     go_wp2_with (at_builtin; go_must (refine wpList_app rfl (.tmp 114) (.tmp 116) 25 rfl 3 (.int .i64 0) 1 8 Tryz.underlying25 Tryz.infoInt rfl (by decide) ro M.length rcap _ rfl (OSl.ext hown2 ((Ext.refl _).alloc _)) (some ⟨w2.heap.size, 0, none⟩) 1 1 [.int .i64 k] rfl (by intro h; cases h) rfl (fun _ => ⟨_, rfl, one_newI _ _ _⟩) (by intro u hu; simp at hu; subst hu; rfl) (by unfold maxLen; omega) (by omega) ?_; intro ro3 rcap3 w3 hown3 hk3 hat3))
                     go_roundw
                     case rel =>
                       refine ⟨ro3, rcap3, k + 1, by omega, by go_num, by rw [HSu.out]; simp, ?_, fresh2 ((hEr2.alloc _).le) HNw.out hat3, (hEr2.alloc _).kpNew hk3 HNw.out⟩
                       rw [HSu.out]
                       simpa using hown3
                     case measure => simp [intOf]; omega)
              · obtain rfl : k = n := by omega
                have HRo : Hid (KList wr ownY 3 1 ro (metIds (fltG ls gn k) (fo (eventOf hv))).length rcap ((metIds (fltG ls gn k) (fo (eventOf hv))).map (Value.int .i64))) := ⟨hown, fun g hg => HSy.out.fresh g (HNw.out g hg)⟩
                have HSr : Hid (KS E w wr ownY [⟨eb, sch4, fltG ls gn k, m⟩]) := HSy.out.ahead C hEr
                have HGr : Hid (GRow wr ownY gb gn k) := HGy.out.ext hEr
                have hml : (metIds (fltG ls gn k) (fo (eventOf hv))).length ≤ 90 := by omega
                clear hown hEr HSy HGy HMt hwl
                have hr1 := HRg.out wr HSr.out.ext
                go_wp2_with (first
                  | (refine wpList_load_mid rfl 42 _ rfl hb (ho2 + j * 12) rfl hv.cells _ hr1 Tryz.underlying42 rfl Tryz.sizeHv ?_; clear hr1))
                refine Calls.mono (HEv.out wr) ?_
                rintro e y1 ⟨ro1, rc1, rfl, hf1, hfr1, hE1⟩
                have HK1 : Hid (KList y1 ownY 71 3 ro1 (eventOf hv).length rc1 ((eventOf hv).flatMap Fd.cells)) := ⟨hf1, fun g hg => HSr.out.fresh g (hfr1 g hg)⟩
                have HW1 : Hid (KList y1 ownY 3 1 ro (metIds (fltG ls gn k) (fo (eventOf hv))).length rcap ((metIds (fltG ls gn k) (fo (eventOf hv))).map (Value.int .i64))) := HRo.out.ext hE1
                have HS1 : Hid (KS E w y1 ownY [⟨eb, sch4, fltG ls gn k, m⟩]) := HSr.out.ahead C hE1
                have HG1 : Hid (GRow y1 ownY gb gn k) := HGr.out.ext hE1
                clear hf1 hfr1 hE1 HRo HSr HGr
                go_wp2_with fail
                refine Calls.mono (HT.out 17 y1 y1 ownY eb _ m hv ro1 rc1 (Or.inr (Or.inl rfl)) HS1.out (Ext.refl _) (fxs_osl HK1.out.1)) ?_
                rintro e y2 ⟨ao2, ac2, own2, rfl, hO2, S2, hR2, hK2, hb2⟩
                have HA2 : Hid (KList y2 own2 3 1 ao2 (metIds (fltG ls gn k) (fo (eventOf hv))).length ac2 ((metIds (fltG ls gn k) (fo (eventOf hv))).map (Value.int .i64))) := ⟨hO2, fun g hg => (hR2 g hg).2⟩
                have HW2 : Hid _ := HW1.out.tel hK2 hb2
                have HG2 : Hid (GRow y2 own2 gb gn k) := HG1.out.tel hK2 hb2
                have HS2 : Hid (KS E w y2 own2 [⟨eb, sch4, fltG ls gn k, nxt m⟩]) := S2
                clear hO2 S2 hR2 hK2 hb2 HK1 HW1 HS1 HG1
                have hr2 := HRg.out y2 HS2.out.ext
                go_wp2_with (first
                  | (refine wpList_load_mid rfl 42 _ rfl hb (ho2 + j * 12) rfl hv.cells _ hr2 Tryz.underlying42 rfl Tryz.sizeHv ?_; clear hr2))
                refine Calls.mono (HEv.out y2) ?_
                rintro e y3 ⟨ro3, rc3, rfl, hf3, hfr3, hE3⟩
                have HK3 : Hid (KList y3 own2 71 3 ro3 (eventOf hv).length rc3 ((eventOf hv).flatMap Fd.cells)) := ⟨hf3, fun g hg => HS2.out.fresh g (hfr3 g hg)⟩
                have HW3 : Hid _ := HW2.out.ext hE3
                have HA3 : Hid _ := HA2.out.ext hE3
                have HG3 : Hid (GRow y3 own2 gb gn k) := HG2.out.ext hE3
                have HS3 : Hid (KS E w y3 own2 [⟨eb, sch4, fltG ls gn k, nxt m⟩]) := HS2.out.ahead C hE3
                clear hf3 hfr3 hE3 HW2 HA2 HG2 HS2 HEv HRg
                go_wp2_with fail
                refine Calls.mono (HT.out 18 y3 y3 own2 eb _ _ hv ro3 rc3 (Or.inr (Or.inr rfl)) HS3.out (Ext.refl _) (fxs_osl HK3.out.1)) ?_
                rintro e y4 ⟨ao4, ac4, own4, rfl, hO4, S4, hR4, hK4, hb4⟩
                have HB4 : Hid (KList y4 own4 3 1 ao4 (metIds (fltG ls gn k) (fo (eventOf hv))).length ac4 ((metIds (fltG ls gn k) (fo (eventOf hv))).map (Value.int .i64))) := ⟨hO4, fun g hg => (hR4 g hg).2⟩
                have HW4 : Hid _ := HW3.out.tel hK4 hb4
                have HA4 : Hid _ := HA3.out.tel hK4 hb4
                have HG4 : Hid (GRow y4 own4 gb gn k) := HG3.out.tel hK4 hb4
                have HS4 : Hid (KS E w y4 own4 [⟨eb, sch4, fltG ls gn k, nxt (nxt m)⟩]) := S4
                clear hO4 S4 hR4 hK4 hb4 HK3 HW3 HA3 HS3 HG3 HT
                have HSm : Hid (∀ W bo bc, Ext y4 W → KList y4 own4 3 1 bo (metIds (fltG ls gn k) (fo (eventOf hv))).length bc ((metIds (fltG ls gn k) (fo (eventOf hv))).map (Value.int .i64)) → Calls Tryz.prog 19 #[.slice bo (metIds (fltG ls gn k) (fo (eventOf hv))).length bc, .slice ro (metIds (fltG ls gn k) (fo (eventOf hv))).length rcap] W fun e w' => e = .returned (.bool true) ∧ Ext W w') := fun W bo bc h hb => by
                  have := ksame_any bo ro bc rcap _ _ W (by omega) (by omega) (ixs_of_osl (OSl.ext hb.1 h)) (ixs_of_osl (OSl.ext HW4.out.1 h))
                  rw [eqB_refl] at this
                  exact this
                go_wp2_with fail
                refine Calls.mono (HSm.out y4 ao2 ac2 (Ext.refl _) HA4.out) ?_
                rintro e y5 ⟨rfl, hE5⟩
                go_wp2_with fail
                refine Calls.mono (HSm.out y5 ao4 ac4 hE5 HB4.out) ?_
                rintro e y6 ⟨rfl, hE6⟩
                have S6 := HS4.out.ahead C (hE5.trans hE6)
                have G6 := HG4.out.ext (hE5.trans hE6)
                rw [HNx.out] at S6
                clear HSm HS4 HG4 hE5 hE6 HA4 HB4 HW4 HNx
                generalize (metIds (fltG ls gn k) (fo (eventOf hv))).length = ml at *
                go_wp2
                go_roundw
                case rel => exact ⟨j + 1, own4, by omega, by go_num, S6, G6⟩
                case measure => simp [intOf]; omega
          · have hli : ¬ (j : Int) < (hs.length : Int) := by omega
            have hje : j = hs.length := by omega
            have hfl2 := fltG_len ls gn n
            clear HMt HT
            go_wp2_with fail
            refine Calls.mono (HSy.out.stas C) ?_
            rintro e y1 ⟨k1, own1', rfl, hk1, hk2, S1, hK1, ho1⟩
            have HG1 : Hid (GRow y1 own1' gb gn n) := HGy.out.tel hK1 ho1
            have HS1 : Hid (KS E w y1 own1' [⟨eb, sch4, fltG ls (upTo gn 0) n, ((2 * j : Nat) : Int)⟩]) := by rw [upTo_zero]; exact S1
            clear S1 hK1 ho1 HGy HSy
            generalize (fltG ls gn n).length = fl at *
            go_wp2_with fail
            have hgk0 : GRow (y1.alloc (.cells #[.int .i64 fl, .int .i64 k1, .int .i64 (2 * (hs.length : Int))] 62)) own1' gb gn n := HG1.out.ext ((Ext.refl _).alloc _)
            have hsk0 : KS E w (y1.alloc (.cells #[.int .i64 fl, .int .i64 k1, .int .i64 (2 * (hs.length : Int))] 62)) own1' [⟨eb, sch4, fltG ls (upTo gn 0) n, ((2 * j : Nat) : Int)⟩] := HS1.out.ahead C ((Ext.refl _).alloc _)
            clear HG1 HS1 hk1 hk2 hfl2
            generalize ((2 * j : Nat) : Int) = m at *
            go_loopw [28] (fun v28 wr => ∃ (k : Nat) (own : Nat → Nat), k ≤ n ∧ v28 = .int .i64 k ∧ KS E w wr own [⟨eb, sch4, fltG ls (upTo gn k) n, m⟩] ∧ GRow wr own gb gn n) (fun v28 _ => n - (intOf v28).toNat)
            case atStart => exact ⟨0, own1', Nat.zero_le _, rfl, hsk0, hgk0⟩
            case round =>
              clear hgk0 hsk0
              obtain ⟨k, ownZ, hkn, rfl, SZ, GZ⟩ := hrel
              have HSz : Hid (KS E w wr ownZ [⟨eb, sch4, fltG ls (upTo gn k) n, m⟩]) := SZ
              have HGz : Hid (GRow wr ownZ gb gn n) := GZ
              clear SZ GZ
              by_cases hk : k < n
              · have hki : (k : Int) < (n : Int) := by omega
                have g0 := HGz.out.at k hk
                cases hgk : gn k with
                | true =>
                  rw [hgk] at g0
                  have HU : Hid (upTo gn (k + 1) = upTo gn k) := upTo_gone gn k hgk
                  go_wp2
                  go_roundw
                  case rel => exact ⟨k + 1, ownZ, by omega, by go_num, by rw [HU.out]; exact HSz.out, HGz.out⟩
                  case measure => simp [intOf]; omega
                | false =>
                  rw [hgk] at g0
                  have HGo := HSz.out.goes C k hk
                  rw [upTo_at, hgk, upTo_away] at HGo
                  simp only [Bool.false_eq_true, if_false] at HGo
                  have HGo' : Hid _ := HGo
                  clear HGo
                  go_wp2_with fail
                  refine Calls.mono HGo'.out ?_
                  rintro e z2 ⟨rfl, own2, S2, hK2, ho2⟩
                  have HG2 : Hid (GRow z2 own2 gb gn n) := HGz.out.tel hK2 ho2
                  have HS2 : Hid (KS E w z2 own2 [⟨eb, sch4, fltG ls (upTo gn (k + 1)) n, m⟩]) := S2
                  clear S2 hK2 ho2 HGz HSz HGo' g0
                  go_wp2
                  go_roundw
                  case rel => exact ⟨k + 1, own2, by omega, by go_num, HS2.out, HG2.out⟩
                  case measure => simp [intOf]; omega
              · have hki : ¬ (k : Int) < (n : Int) := by omega
                obtain rfl : k = n := by omega
                have HSe := HSz.out
                rw [fltG_upTo] at HSe
                have HSf : Hid (KS E w wr ownZ [⟨eb, sch4, [], m⟩]) := HSe
                clear HSe HSz HGz
                go_wp2_with fail
                refine Calls.mono (HSf.out.stas C) ?_
                rintro e y2 ⟨k2, own2', rfl, hk3, hk4, S2, _, _⟩
                have HEx : Hid (Ext w y2) := S2.ext
                obtain rfl : k2 = 1 := by simp at hk4; omega
                clear S2 HSf
                go_wp2
                go_ret
                exact ⟨rfl, Ext.alloc HEx.out _⟩
end
end Go.Proofs.YtpbblaeamddbgaaGreat
