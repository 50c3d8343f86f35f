import Derived.Deep.RegionWith
import Derived.Test.YtpbblaeamddbgaaGreatGG
namespace Go.Proofs.YtpbblaeamddbgaaGreat
open Go.RowKit

/-- A node as it lies in memory. -/
structure NdR where
  blk : Nat
  ia : Option Addr
  icap : Nat
  ea : Option Addr
  ecap : Nat
  es : List EdR
/-- An edge's conditions lie in F. -/
def EdOK (w : World) (F : Nat → Prop) (e : EdR) : Prop := (e.conds.length ≤ 8 ∧ ∀ c ∈ e.conds, 1 ≤ c.kind ∧ c.kind ≤ 9) ∧ (0 < e.conds.length → ∃ b, e.ao = some ⟨b, 0, none⟩ ∧ Cds w b 0 e.conds) ∧ ∀ g, blkOf e.ao = some g → F g ∧ g < w.heap.size
theorem EdOK.cxs {w : World} {F : Nat → Prop} {e : EdR} (h : EdOK w F e) : Cxs w e.ao e.conds := fun hp => by
  obtain ⟨b, h1, h2⟩ := h.2.1 hp
  exact ⟨b, 0, h1, h2⟩
theorem EdOK.kp {w w' : World} {F M : Nat → Prop} {e : EdR} (h : EdOK w F e) (k : Kp M w w') (hm : ∀ g, blkOf e.ao = some g → ¬ M g) : EdOK w' F e := by
  refine ⟨h.1, fun hp => ?_, fun g hg => ⟨(h.2.2 g hg).1, Nat.lt_of_lt_of_le (h.2.2 g hg).2 k.size⟩⟩
  obtain ⟨b, h1, h2⟩ := h.2.1 hp
  exact ⟨b, h1, h2.kp k (hm b (by rw [h1]; rfl))⟩
structure NodeAt (w : World) (F : Nat → Prop) (R : List NdR) (n : Nd Cd) (r : NdR) : Prop where
  row : Row w r.blk 232 [.slice r.ia n.ids.length r.icap, .slice r.ea r.es.length r.ecap]
  ids : OSl w 3 1 r.ia n.ids.length r.icap (n.ids.map (Value.int .i64))
  eds : OSl w 268 3 r.ea r.es.length r.ecap (r.es.flatMap EdR.cells)
  key : r.es.map (fun e => (e.conds, some e.to)) = n.kids.map (fun k => (k.1, (R[k.2]?).map (·.blk)))
  cds : ∀ e ∈ r.es, EdOK w F e
  fb : F r.blk
  fi : ∀ g, blkOf r.ia = some g → F g
  fe : ∀ g, blkOf r.ea = some g → F g
theorem NodeAt.kp {w w' : World} {F M : Nat → Prop} {R : List NdR} {n : Nd Cd} {r : NdR} (h : NodeAt w F R n r) (k : Kp M w w') (h1 : ¬ M r.blk) (h2 : ∀ g, blkOf r.ia = some g → ¬ M g) (h3 : ∀ g, blkOf r.ea = some g → ¬ M g) (h4 : ∀ e ∈ r.es, ∀ g, blkOf e.ao = some g → ¬ M g) : NodeAt w' F R n r :=
  ⟨k.row h.row h1, h.ids.kp k h2, h.eds.kp k h3, h.key, fun e he => (h.cds e he).kp k (h4 e he), h.fb, h.fi, h.fe⟩
theorem NodeAt.mono {w : World} {F G : Nat → Prop} {R : List NdR} {n : Nd Cd} {r : NdR} (h : NodeAt w F R n r) (hm : ∀ b, F b → b < w.heap.size → G b) : NodeAt w G R n r :=
  ⟨h.row, h.ids, h.eds, h.key, fun e he => ⟨(h.cds e he).1, (h.cds e he).2.1, fun g hg => ⟨hm g ((h.cds e he).2.2 g hg).1 ((h.cds e he).2.2 g hg).2, ((h.cds e he).2.2 g hg).2⟩⟩, hm _ h.fb h.row.lt, fun g hg => hm g (h.fi g hg) (h.ids.lt hg), fun g hg => hm g (h.fe g hg) (h.eds.lt hg)⟩
theorem NodeAt.reR {w : World} {F : Nat → Prop} {R R' : List NdR} {n : Nd Cd} {r : NdR} (h : NodeAt w F R n r) (hR : ∀ k ∈ n.kids, (R'[k.2]?).map NdR.blk = (R[k.2]?).map NdR.blk) : NodeAt w F R' n r :=
  ⟨h.row, h.ids, h.eds, by rw [h.key]; exact List.map_congr_left (fun k hk => by rw [hR k hk]), h.cds, h.fb, h.fi, h.fe⟩

/-- A tree as it lies in memory. -/
structure TreeAt (w : World) (tb : Nat) (F : Nat → Prop) (order : List Int) (N : List (Nd Cd)) (R : List NdR) (oa : Option Addr) (oc : Nat) : Prop where
  len : R.length = N.length
  row : ∃ rb, (R[0]?).map NdR.blk = some rb ∧ Row w tb 203 [.slice oa order.length oc, .pointer (some ⟨rb, 0, none⟩), .int .i64 N.length]
  ord : Ixs w oa order
  fo : ∀ g, blkOf oa = some g → F g ∧ g < w.heap.size
  ft : F tb
  nd : ∀ i (hi : i < N.length) (hr : i < R.length), NodeAt w F R N[i] R[i]
theorem Ixs.kp {w w' : World} {M : Nat → Prop} {ao : Option Addr} {xs : List Int} (h : Ixs w ao xs) (k : Kp M w w') (hm : ∀ g, blkOf ao = some g → ¬ M g) : Ixs w' ao xs := fun hp => by
  obtain ⟨b, o, h1, h2⟩ := h hp
  exact ⟨b, o, h1, h2.kp k (hm b (by rw [h1]; rfl))⟩
theorem TreeAt.kp {w w' : World} {tb : Nat} {F M : Nat → Prop} {order : List Int} {N : List (Nd Cd)} {R : List NdR} {oa : Option Addr} {oc : Nat} (h : TreeAt w tb F order N R oa oc) (k : Kp M w w') (hm : ∀ b, F b → ¬ M b) : TreeAt w' tb F order N R oa oc := by
  obtain ⟨rb, h1, h2⟩ := h.row
  exact ⟨h.len, ⟨rb, h1, k.row h2 (hm _ h.ft)⟩, h.ord.kp k (fun g hg => hm g (h.fo g hg).1), fun g hg => ⟨(h.fo g hg).1, Nat.lt_of_lt_of_le (h.fo g hg).2 k.size⟩, h.ft, fun i hi hr => (h.nd i hi hr).kp k (hm _ (h.nd i hi hr).fb) (fun g hg => hm g ((h.nd i hi hr).fi g hg)) (fun g hg => hm g ((h.nd i hi hr).fe g hg)) (fun e he g hg => hm g (((h.nd i hi hr).cds e he).2.2 g hg).1)⟩
theorem TreeAt.mono {w : World} {tb : Nat} {F G : Nat → Prop} {order : List Int} {N : List (Nd Cd)} {R : List NdR} {oa : Option Addr} {oc : Nat} (h : TreeAt w tb F order N R oa oc) (hm : ∀ b, F b → b < w.heap.size → G b) : TreeAt w tb G order N R oa oc := by
  obtain ⟨rb, h1, h2⟩ := h.row
  exact ⟨h.len, ⟨rb, h1, h2⟩, h.ord, fun g hg => ⟨hm g (h.fo g hg).1 (h.fo g hg).2, (h.fo g hg).2⟩, hm _ h.ft h2.lt, fun i hi hr => (h.nd i hi hr).mono hm⟩

/-- Whose each block of a tree is, while it is built: 1 the tree's own, i + 2 node i's, 0 what is not written any more, and others'. -/
structure TreeSep (own : Nat → Nat) (w : World) (tb : Nat) (R : List NdR) (oa : Option Addr) : Prop where
  t : own tb = 1
  b : ∀ i (hr : i < R.length), own R[i].blk = i + 2
  i : ∀ i (hr : i < R.length), ∀ g, blkOf R[i].ia = some g → own g = i + 2 ∧ g ≠ R[i].blk
  e : ∀ i (hr : i < R.length), ∀ g, blkOf R[i].ea = some g → own g = i + 2 ∧ g ≠ R[i].blk ∧ blkOf R[i].ia ≠ some g
  c : ∀ i (hr : i < R.length), ∀ x ∈ R[i].es, ∀ g, blkOf x.ao = some g → own g = 0
  o : ∀ g, blkOf oa = some g → own g = 0
  n : ∀ g, w.heap.size ≤ g → own g = 0
theorem TreeSep.ahead {own : Nat → Nat} {w w' : World} {tb : Nat} {R : List NdR} {oa : Option Addr} (h : TreeSep own w tb R oa) (hle : w.heap.size ≤ w'.heap.size) : TreeSep own w' tb R oa :=
  { h with n := fun g hg => h.n g (Nat.le_trans hle hg) }
end Go.Proofs.YtpbblaeamddbgaaGreat
namespace Go.Proofs.YtpbblaeamddbgaaGreat
open Go.RowKit

section
variable {w w' : World} {tb : Nat} {F : Nat → Prop} {order : List Int} {N : List (Nd Cd)} {R : List NdR} {oa : Option Addr} {oc : Nat} {own : Nat → Nat}
theorem TreeSep.lt (S : TreeSep own w tb R oa) {b : Nat} (h : own b ≠ 0) : b < w.heap.size := by
  rcases Nat.lt_or_ge b w.heap.size with h' | h'
  · exact h'
  · exact absurd (S.n b h') h
/-- The nodes in memory, one more. -/
def addR (R : List NdR) (i : Nat) (hr : i < R.length) (q : Nat) (e : EdR) (ea' : Option Addr) (ecap' : Nat) (nb : Nat) : List NdR :=
  R.set i { R[i] with ea := ea', ecap := ecap', es := R[i].es.take q ++ e :: R[i].es.drop q } ++ [⟨nb, none, 0, none, 0, []⟩]
theorem addR_len (i : Nat) (hr : i < R.length) (q : Nat) (e : EdR) (ea' : Option Addr) (ecap' nb : Nat) : (addR R i hr q e ea' ecap' nb).length = R.length + 1 := by simp [addR]
theorem addR_ne (i : Nat) (hr : i < R.length) (q : Nat) (e : EdR) (ea' : Option Addr) (ecap' nb : Nat) (k : Nat) (hk : k < R.length) (hki : k ≠ i) (h : k < (addR R i hr q e ea' ecap' nb).length) : (addR R i hr q e ea' ecap' nb)[k] = R[k] := by
  simp only [addR]
  rw [List.getElem_append_left (by simpa using hk), List.getElem_set_ne (fun e => hki e.symm)]
theorem addR_eq (i : Nat) (hr : i < R.length) (q : Nat) (e : EdR) (ea' : Option Addr) (ecap' nb : Nat) (h : i < (addR R i hr q e ea' ecap' nb).length) : (addR R i hr q e ea' ecap' nb)[i] = { R[i] with ea := ea', ecap := ecap', es := R[i].es.take q ++ e :: R[i].es.drop q } := by
  simp only [addR]
  rw [List.getElem_append_left (by simpa using hr), List.getElem_set_self]
theorem addR_new (i : Nat) (hr : i < R.length) (q : Nat) (e : EdR) (ea' : Option Addr) (ecap' nb : Nat) (h : R.length < (addR R i hr q e ea' ecap' nb).length) : (addR R i hr q e ea' ecap' nb)[R.length] = ⟨nb, none, 0, none, 0, []⟩ := by
  simp only [addR]
  rw [List.getElem_append_right (by simp)]; simp
theorem addR_blk (i : Nat) (hr : i < R.length) (q : Nat) (e : EdR) (ea' : Option Addr) (ecap' nb : Nat) (k : Nat) (hk : k < R.length) : ((addR R i hr q e ea' ecap' nb)[k]?).map NdR.blk = (R[k]?).map NdR.blk := by
  have h : k < (addR R i hr q e ea' ecap' nb).length := by rw [addR_len]; omega
  rw [List.getElem?_eq_getElem h, List.getElem?_eq_getElem hk]
  by_cases hki : k = i
  · subst hki; rw [addR_eq]; rfl
  · rw [addR_ne _ _ _ _ _ _ _ _ hk hki]

theorem step_done {ce : List Cd → List Cd → Int} {ks : List (Int × List Cd)} {m : Nat} (O : TreeOK Cd.attr ce order ks N m) (T : TreeAt w tb F order N R oa oc) (S : TreeSep own w tb R oa) (i : Nat) (hi : i < N.length) (hr : i < R.length) (q : Nat) (c : List Cd) (bo : Option Addr) (bcap nb : Nat) (hc8 : c.length ≤ 8 ∧ ∀ x ∈ c, 1 ≤ x.kind ∧ x.kind ≤ 9) (hcd : 0 < c.length → ∃ b, bo = some ⟨b, 0, none⟩ ∧ Cds w' b 0 c) (hbo : ∀ g, blkOf bo = some g → F g ∧ g < w.heap.size ∧ own g = 0)
    (hK : Kp (fun b => b = tb ∨ b = R[i].blk ∨ blkOf R[i].ea = some b) w w')
    (hT : ∃ rb, (R[0]?).map NdR.blk = some rb ∧ Row w' tb 203 [.slice oa order.length oc, .pointer (some ⟨rb, 0, none⟩), .int .i64 ((N.length + 1 : Nat) : Int)])
    (hnb : w.heap.size ≤ nb) (hnode : Row w' nb 232 [.slice none 0 0, .slice none 0 0])
    (ea' : Option Addr) (ecap' : Nat) (hrow : Row w' R[i].blk 232 [.slice R[i].ia N[i].ids.length R[i].icap, .slice ea' (R[i].es.length + 1) ecap'])
    (hO : OSl w' 268 3 ea' (R[i].es.length + 1) ecap' ((R[i].es.take q ++ ⟨c, bo, bcap, nb⟩ :: R[i].es.drop q).flatMap EdR.cells))
    (hea : ∀ g, blkOf ea' = some g → blkOf R[i].ea = some g ∨ (w.heap.size ≤ g ∧ g ≠ nb)) (hF : ∀ b, w.heap.size ≤ b → F b) (hq : q ≤ R[i].es.length) :
    ∃ own', TreeAt w' tb F order (addKid N i hi q c) (addR R i hr q ⟨c, bo, bcap, nb⟩ ea' ecap' nb) oa oc ∧ TreeSep own' w' tb (addR R i hr q ⟨c, bo, bcap, nb⟩ ea' ecap' nb) oa ∧ ∀ b, b < w.heap.size → own' b = own b := by
  have hle := hK.size
  have hlen := T.len
  have hnbl := hnode.lt
  have hold : ∀ b, own b ≠ 0 → b < w.heap.size := fun b hb => S.lt hb
  obtain ⟨rb0, hrb0, htr0⟩ := T.row
  have htb := htr0.lt
  have hkidlt : ∀ k (hk : k < N.length), ∀ x ∈ N[k].kids, x.2 < N.length := fun k hk x hx => by
    obtain ⟨hj, _⟩ := (O.kid k hk x.1 x.2).1 hx
    exact hj
  have nodeOther : ∀ k (hk : k < N.length) (hk' : k < R.length), k ≠ i → NodeAt w' F R N[k] R[k] := fun k hk hk' hki => by
    have hb := S.b k hk'
    have hbi := S.b i hr
    refine (T.nd k hk hk').kp hK ?_ ?_ ?_ ?_
    · rintro (h | h | h)
      · rw [h, S.t] at hb; omega
      · rw [h, hbi] at hb; omega
      · have := (S.e i hr _ h).1; omega
    · intro g hg
      have h0 := (S.i k hk' g hg).1
      rintro (h | h | h)
      · rw [h, S.t] at h0; omega
      · rw [h, hbi] at h0; omega
      · have := (S.e i hr _ h).1; omega
    · intro g hg
      have h0 := (S.e k hk' g hg).1
      rintro (h | h | h)
      · rw [h, S.t] at h0; omega
      · rw [h, hbi] at h0; omega
      · have := (S.e i hr _ h).1; omega
    · intro e he g hg
      have h0 := S.c k hk' e he g hg
      rintro (h | h | h)
      · rw [h, S.t] at h0; omega
      · rw [h, hbi] at h0; omega
      · have := (S.e i hr _ h).1; omega
  have edOther : ∀ e ∈ R[i].es, EdOK w' F e := fun e he => by
    refine ((T.nd i hi hr).cds e he).kp hK (fun g hg => ?_)
    have h0 := S.c i hr e he g hg
    have hbi := S.b i hr
    rintro (h | h | h)
    · rw [h, S.t] at h0; omega
    · rw [h, hbi] at h0; omega
    · have := (S.e i hr _ h).1; omega
  refine ⟨fun b => if b < w.heap.size then own b else if b = nb then N.length + 2 else @ite _ (blkOf ea' = some b) (Classical.propDecidable _) (i + 2) 0, ?_, ?_, fun b hb => if_pos hb⟩
  · refine ⟨by rw [addR_len, addKid_len, hlen], ?_, ?_, ?_, T.ft, ?_⟩
    · obtain ⟨rb, h1, h2⟩ := hT
      refine ⟨rb, ?_, ?_⟩
      · rw [addR_blk _ _ _ _ _ _ _ _ (by have := O.pos; omega)]; exact h1
      · rw [addKid_len]; exact h2
    · refine T.ord.kp hK (fun g hg => ?_)
      have h0 := S.o g hg
      rintro (h | h | h)
      · rw [h, S.t] at h0; omega
      · rw [h, S.b i hr] at h0; omega
      · have := (S.e i hr _ h).1; omega
    · exact fun g hg => ⟨(T.fo g hg).1, Nat.lt_of_lt_of_le (T.fo g hg).2 hle⟩
    · intro k hk hk'
      rcases Nat.lt_or_ge k N.length with h | h
      · by_cases hki : k = i
        · subst hki
          obtain ⟨_, p1, p2, p3⟩ := addKid_old k hi q c k h
          rw [if_pos rfl] at p3
          rw [addR_eq]
          have n0 := T.nd k hi hr
          refine ⟨by simp only [p2]; rw [show (R[k].es.take q ++ (⟨c, bo, bcap, nb⟩ : EdR) :: R[k].es.drop q).length = R[k].es.length + 1 by simp; omega]; exact hrow, ?_, ?_, ?_, ?_, n0.fb, n0.fi, ?_⟩
          · simp only [p2]
            refine n0.ids.kp hK (fun g hg => ?_)
            have h0 := S.i k hr g hg
            rintro (h | h | h)
            · have := h0.1; rw [h, S.t] at this; omega
            · exact h0.2 h
            · exact (S.e k hr g h).2.2 hg
          · simp only
            rw [show (R[k].es.take q ++ (⟨c, bo, bcap, nb⟩ : EdR) :: R[k].es.drop q).length = R[k].es.length + 1 by simp; omega]
            exact hO
          · simp only [p3, List.map_append, List.map_cons, List.map_take, List.map_drop]
            have hkey : R[k].es.map (fun e => (e.conds, some e.to)) = N[k].kids.map (fun x => (x.1, ((addR R k hr q ⟨c, bo, bcap, nb⟩ ea' ecap' nb)[x.2]?).map NdR.blk)) := by
              rw [n0.key]
              exact List.map_congr_left (fun x hx => by rw [addR_blk _ _ _ _ _ _ _ _ (by have := hkidlt k hi x hx; omega)])
            rw [hkey]
            congr 1
            congr 1
            rw [← hlen, List.getElem?_eq_getElem (by rw [addR_len]; omega), addR_new]; rfl
          · simp only
            intro e he
            rw [mem_ins] at he
            rcases he with rfl | he
            · exact ⟨hc8, hcd, fun g hg => ⟨(hbo g hg).1, by have := (hbo g hg).2.1; omega⟩⟩
            · exact edOther e he
          · simp only
            intro g hg
            rcases hea g hg with h | h
            · exact n0.fe g h
            · exact hF g h.1
        · obtain ⟨_, p1, p2, p3⟩ := addKid_old i hi q c k h
          rw [if_neg hki] at p3
          rw [addR_ne _ _ _ _ _ _ _ _ (by omega) hki]
          have n0 := (nodeOther k h (by omega) hki).reR (R' := addR R i hr q ⟨c, bo, bcap, nb⟩ ea' ecap' nb) (fun x hx => addR_blk _ _ _ _ _ _ _ _ (by have := hkidlt k h x hx; omega))
          exact ⟨by rw [p2]; exact n0.row, by rw [p2]; exact n0.ids, n0.eds, by rw [p3]; exact n0.key, n0.cds, n0.fb, n0.fi, n0.fe⟩
      · have ek : k = N.length := by rw [addKid_len] at hk; omega
        subst ek
        obtain ⟨_, e'⟩ := addKid_new i hi q c
        have e2 : (addR R i hr q ⟨c, bo, bcap, nb⟩ ea' ecap' nb)[N.length]'hk' = ⟨nb, none, 0, none, 0, []⟩ := by
          have := addR_new (R := R) i hr q ⟨c, bo, bcap, nb⟩ ea' ecap' nb (by rw [addR_len]; omega)
          simpa only [hlen] using this
        rw [e', e2]
        exact ⟨hnode, OSl.nil _ _ _, OSl.nil _ _ _, rfl, fun e he => by simp at he, hF nb hnb, fun g hg => by simp [blkOf] at hg, fun g hg => by simp [blkOf] at hg⟩
  · have hown0 : ∀ b, b < w.heap.size → (if b < w.heap.size then own b else if b = nb then N.length + 2 else @ite _ (blkOf ea' = some b) (Classical.propDecidable _) (i + 2) 0) = own b := fun b hb => if_pos hb
    have other : ∀ k (hk : k < R.length), k ≠ i → ∀ h : k < (addR R i hr q ⟨c, bo, bcap, nb⟩ ea' ecap' nb).length, (addR R i hr q ⟨c, bo, bcap, nb⟩ ea' ecap' nb)[k] = R[k] := fun k hk hki h => addR_ne i hr q ⟨c, bo, bcap, nb⟩ ea' ecap' nb k hk hki h
    have cases3 : ∀ k (hk : k < (addR R i hr q ⟨c, bo, bcap, nb⟩ ea' ecap' nb).length), (∃ h : k < R.length, k ≠ i) ∨ k = i ∨ k = R.length := fun k hk => by
      rw [addR_len] at hk
      rcases Nat.lt_or_ge k R.length with h | h
      · by_cases hki : k = i
        · exact Or.inr (Or.inl hki)
        · exact Or.inl ⟨h, hki⟩
      · exact Or.inr (Or.inr (by omega))
    have hblt : ∀ k (hk : k < R.length), R[k].blk < w.heap.size := fun k hk => hold _ (by rw [S.b k hk]; omega)
    refine ⟨?_, ?_, ?_, ?_, ?_, ?_, ?_⟩
    · rw [hown0 tb htb]; exact S.t
    · intro k hk
      rcases cases3 k hk with ⟨h, hki⟩ | h | h
      · rw [other k h hki hk, hown0 _ (hblt k h)]; exact S.b k h
      · subst h; rw [addR_eq]; simp only; rw [hown0 _ (hblt k hr)]; exact S.b k hr
      · subst h; rw [addR_new]; simp only
        rw [if_neg (by omega), hlen]; simp
    · intro k hk g hg
      rcases cases3 k hk with ⟨h, hki⟩ | h | h
      · rw [other k h hki hk] at hg ⊢
        have h0 := S.i k h g hg
        rw [hown0 _ (hold g (by omega))]; exact h0
      · subst h; rw [addR_eq] at hg ⊢; simp only at hg ⊢
        have h0 := S.i k hr g hg
        rw [hown0 _ (hold g (by omega))]; exact h0
      · subst h; rw [addR_new] at hg; simp [blkOf] at hg
    · intro k hk g hg
      rcases cases3 k hk with ⟨h, hki⟩ | h | h
      · rw [other k h hki hk] at hg ⊢
        have h0 := S.e k h g hg
        rw [hown0 _ (hold g (by omega))]; exact h0
      · subst h; rw [addR_eq] at hg ⊢; simp only at hg ⊢
        rcases hea g hg with h1 | h1
        · have h0 := S.e k hr g h1
          rw [hown0 _ (hold g (by omega))]; exact h0
        · rw [if_neg (by omega), if_neg h1.2, if_pos hg]
          refine ⟨rfl, fun e => ?_, fun e => ?_⟩
          · have := hblt k hr; omega
          · have := (T.nd k hi hr).ids.lt e; omega
      · subst h; rw [addR_new] at hg; simp [blkOf] at hg
    · intro k hk x hx g hg
      rcases cases3 k hk with ⟨h, hki⟩ | h | h
      · rw [other k h hki hk] at hx
        rw [hown0 _ (((T.nd k (by omega) h).cds x hx).2.2 g hg).2]; exact S.c k h x hx g hg
      · subst h; rw [addR_eq] at hx; simp only at hx
        rw [mem_ins] at hx
        rcases hx with rfl | hx
        · rw [hown0 _ (hbo g hg).2.1]; exact (hbo g hg).2.2
        · rw [hown0 _ (((T.nd k hi hr).cds x hx).2.2 g hg).2]; exact S.c k hr x hx g hg
      · subst h; rw [addR_new] at hx; simp at hx
    · intro g hg
      rw [hown0 _ (T.fo g hg).2]; exact S.o g hg
    · intro g hg
      rw [if_neg (by omega), if_neg (by omega), if_neg]
      intro e
      have := hO.lt e
      omega
end
end Go.Proofs.YtpbblaeamddbgaaGreat
namespace Go.Proofs.YtpbblaeamddbgaaGreat
open Go.RowKit

section
variable {w w' : World} {tb : Nat} {F : Nat → Prop} {order : List Int} {N : List (Nd Cd)} {R : List NdR} {oa : Option Addr} {oc : Nat} {own : Nat → Nat}
/-- The nodes in memory, one with a number more. -/
def idR (R : List NdR) (i : Nat) (hr : i < R.length) (ia' : Option Addr) (icap' : Nat) : List NdR := R.set i { R[i] with ia := ia', icap := icap' }
theorem idR_len (i : Nat) (hr : i < R.length) (ia' : Option Addr) (icap' : Nat) : (idR R i hr ia' icap').length = R.length := by simp [idR]
theorem idR_ne (i : Nat) (hr : i < R.length) (ia' : Option Addr) (icap' : Nat) (k : Nat) (hk : k < R.length) (hki : k ≠ i) (h : k < (idR R i hr ia' icap').length) : (idR R i hr ia' icap')[k] = R[k] := by
  simp only [idR]
  rw [List.getElem_set_ne (fun e => hki e.symm)]
theorem idR_eq (i : Nat) (hr : i < R.length) (ia' : Option Addr) (icap' : Nat) (h : i < (idR R i hr ia' icap').length) : (idR R i hr ia' icap')[i] = { R[i] with ia := ia', icap := icap' } := by
  simp only [idR]
  rw [List.getElem_set_self]
theorem idR_blk (i : Nat) (hr : i < R.length) (ia' : Option Addr) (icap' : Nat) (k : Nat) : ((idR R i hr ia' icap')[k]?).map NdR.blk = (R[k]?).map NdR.blk := by
  rcases Nat.lt_or_ge k R.length with hk | hk
  · have h : k < (idR R i hr ia' icap').length := by rw [idR_len]; omega
    rw [List.getElem?_eq_getElem h, List.getElem?_eq_getElem hk]
    by_cases hki : k = i
    · subst hki; rw [idR_eq]; rfl
    · rw [idR_ne _ _ _ _ _ hk hki]
  · rw [List.getElem?_eq_none hk, List.getElem?_eq_none (by rw [idR_len]; exact hk)]

theorem put_done (T : TreeAt w tb F order N R oa oc) (S : TreeSep own w tb R oa) (i : Nat) (hi : i < N.length) (hr : i < R.length) (x : Int)
    (hK : Kp (fun b => b = R[i].blk ∨ blkOf R[i].ia = some b) w w') (ia' : Option Addr) (icap' : Nat)
    (hrow : Row w' R[i].blk 232 [.slice ia' (N[i].ids.length + 1) icap', .slice R[i].ea R[i].es.length R[i].ecap])
    (hO : OSl w' 3 1 ia' (N[i].ids.length + 1) icap' ((N[i].ids ++ [x]).map (Value.int .i64)))
    (hia : ∀ g, blkOf ia' = some g → blkOf R[i].ia = some g ∨ w.heap.size ≤ g) (hF : ∀ b, w.heap.size ≤ b → F b) :
    ∃ own', TreeAt w' tb F order (addId N i hi x) (idR R i hr ia' icap') oa oc ∧ TreeSep own' w' tb (idR R i hr ia' icap') oa := by
  have hle := hK.size
  have hlen := T.len
  have hold : ∀ b, own b ≠ 0 → b < w.heap.size := fun b hb => S.lt hb
  obtain ⟨rb0, hrb0, htr0⟩ := T.row
  have htb := htr0.lt
  have hbi := S.b i hr
  have nodeOther : ∀ k (hk : k < N.length) (hk' : k < R.length), k ≠ i → NodeAt w' F R N[k] R[k] := fun k hk hk' hki => by
    have hb := S.b k hk'
    refine (T.nd k hk hk').kp hK ?_ ?_ ?_ ?_
    · rintro (h | h)
      · rw [h, hbi] at hb; omega
      · have := (S.i i hr _ h).1; omega
    · intro g hg
      have h0 := (S.i k hk' g hg).1
      rintro (h | h)
      · rw [h, hbi] at h0; omega
      · have := (S.i i hr _ h).1; omega
    · intro g hg
      have h0 := (S.e k hk' g hg).1
      rintro (h | h)
      · rw [h, hbi] at h0; omega
      · have := (S.i i hr _ h).1; omega
    · intro e he g hg
      have h0 := S.c k hk' e he g hg
      rintro (h | h)
      · rw [h, hbi] at h0; omega
      · have := (S.i i hr _ h).1; omega
  have edOther : ∀ e ∈ R[i].es, EdOK w' F e := fun e he => by
    refine ((T.nd i hi hr).cds e he).kp hK (fun g hg => ?_)
    have h0 := S.c i hr e he g hg
    rintro (h | h)
    · rw [h, hbi] at h0; omega
    · have := (S.i i hr _ h).1; omega
  refine ⟨fun b => if b < w.heap.size then own b else @ite _ (blkOf ia' = some b) (Classical.propDecidable _) (i + 2) 0, ?_, ?_⟩
  · refine ⟨by rw [idR_len, addId_len, hlen], ?_, ?_, ?_, T.ft, ?_⟩
    · refine ⟨rb0, ?_, ?_⟩
      · rw [idR_blk]; exact hrb0
      · rw [addId_len]
        refine hK.row htr0 ?_
        rintro (h | h)
        · have := S.t; rw [h, hbi] at this; omega
        · have h1 := (S.i i hr _ h).1; have := S.t; omega
    · refine T.ord.kp hK (fun g hg => ?_)
      have h0 := S.o g hg
      rintro (h | h)
      · rw [h, hbi] at h0; omega
      · have := (S.i i hr _ h).1; omega
    · exact fun g hg => ⟨(T.fo g hg).1, Nat.lt_of_lt_of_le (T.fo g hg).2 hle⟩
    · intro k hk hk'
      have hkN : k < N.length := by rw [addId_len] at hk; exact hk
      obtain ⟨_, p1, p2, p3⟩ := addId_at i hi x k hkN
      by_cases hki : k = i
      · subst hki
        rw [if_pos rfl] at p3
        rw [idR_eq]
        have n0 := T.nd k hi hr
        refine ⟨by simp only [p3, List.length_append, List.length_cons, List.length_nil]; exact hrow, by simp only [p3, List.length_append, List.length_cons, List.length_nil]; exact hO, ?_, ?_, edOther, n0.fb, ?_, n0.fe⟩
        · simp only
          refine n0.eds.kp hK (fun g hg => ?_)
          have h0 := S.e k hr g hg
          rintro (h | h)
          · exact h0.2.1 h
          · exact h0.2.2 h
        · simp only [p2]
          rw [n0.key]
          exact List.map_congr_left (fun y _ => by rw [idR_blk])
        · simp only
          intro g hg
          rcases hia g hg with h | h
          · exact n0.fi g h
          · exact hF g h
      · rw [if_neg hki] at p3
        rw [idR_ne _ _ _ _ _ (by omega) hki]
        have n0 := (nodeOther k hkN (by omega) hki).reR (R' := idR R i hr ia' icap') (fun y _ => idR_blk _ _ _ _ _)
        exact ⟨by rw [p3]; exact n0.row, by rw [p3]; exact n0.ids, n0.eds, by rw [p2]; exact n0.key, n0.cds, n0.fb, n0.fi, n0.fe⟩
  · have hown0 : ∀ b, b < w.heap.size → (if b < w.heap.size then own b else @ite _ (blkOf ia' = some b) (Classical.propDecidable _) (i + 2) 0) = own b := fun b hb => if_pos hb
    have hblt : ∀ k (hk : k < R.length), R[k].blk < w.heap.size := fun k hk => hold _ (by rw [S.b k hk]; omega)
    refine ⟨?_, ?_, ?_, ?_, ?_, ?_, ?_⟩
    · rw [hown0 tb htb]; exact S.t
    · intro k hk
      have hkR : k < R.length := by rw [idR_len] at hk; exact hk
      by_cases hki : k = i
      · subst hki; rw [idR_eq]; simp only; rw [hown0 _ (hblt k hr)]; exact S.b k hr
      · rw [idR_ne _ _ _ _ _ hkR hki, hown0 _ (hblt k hkR)]; exact S.b k hkR
    · intro k hk g hg
      have hkR : k < R.length := by rw [idR_len] at hk; exact hk
      by_cases hki : k = i
      · subst hki; rw [idR_eq] at hg ⊢; simp only at hg ⊢
        rcases hia g hg with h1 | h1
        · have h0 := S.i k hr g h1
          rw [hown0 _ (hold g (by omega))]; exact h0
        · rw [if_neg (by omega), if_pos hg]
          exact ⟨rfl, fun e => by have := hblt k hr; omega⟩
      · rw [idR_ne _ _ _ _ _ hkR hki] at hg ⊢
        have h0 := S.i k hkR g hg
        rw [hown0 _ (hold g (by omega))]; exact h0
    · intro k hk g hg
      have hkR : k < R.length := by rw [idR_len] at hk; exact hk
      by_cases hki : k = i
      · subst hki; rw [idR_eq] at hg ⊢; simp only at hg ⊢
        have h0 := S.e k hr g hg
        rw [hown0 _ (hold g (by omega))]
        refine ⟨h0.1, h0.2.1, fun e => ?_⟩
        rcases hia g e with h1 | h1
        · exact h0.2.2 h1
        · have := hold g (by omega); omega
      · rw [idR_ne _ _ _ _ _ hkR hki] at hg ⊢
        have h0 := S.e k hkR g hg
        rw [hown0 _ (hold g (by omega))]; exact h0
    · intro k hk e he g hg
      have hkR : k < R.length := by rw [idR_len] at hk; exact hk
      by_cases hki : k = i
      · subst hki; rw [idR_eq] at he; simp only at he
        rw [hown0 _ (((T.nd k hi hr).cds e he).2.2 g hg).2]; exact S.c k hr e he g hg
      · rw [idR_ne _ _ _ _ _ hkR hki] at he
        rw [hown0 _ (((T.nd k (by omega) hkR).cds e he).2.2 g hg).2]; exact S.c k hkR e he g hg
    · intro g hg
      rw [hown0 _ (T.fo g hg).2]; exact S.o g hg
    · intro g hg
      rw [if_neg (by omega), if_neg]
      intro e
      have := hO.lt e
      omega
end
end Go.Proofs.YtpbblaeamddbgaaGreat
namespace Go.Proofs.YtpbblaeamddbgaaGreat
open Go.RowKit

theorem keys_of {w : World} {F : Nat → Prop} {R : List NdR} {n : Nd Cd} {r : NdR} (h : NodeAt w F R n r) : r.es.map (·.conds) = n.kids.map (·.1) ∧ r.es.length = n.kids.length := by
  have h1 := congrArg (List.map Prod.fst) h.key
  simp only [List.map_map] at h1
  refine ⟨h1, ?_⟩
  have := congrArg List.length h.key
  simpa using this
theorem to_of {w : World} {F : Nat → Prop} {R : List NdR} {n : Nd Cd} {r : NdR} (h : NodeAt w F R n r) (q : Nat) (hq : q < r.es.length) (hq' : q < n.kids.length) : (R[n.kids[q].2]?).map NdR.blk = some r.es[q].to := by
  have h1 : (r.es.map (fun e => (e.conds, some e.to)))[q]? = (n.kids.map (fun k => (k.1, (R[k.2]?).map (·.blk))))[q]? := by rw [h.key]
  rw [List.getElem?_map, List.getElem?_map, List.getElem?_eq_getElem hq, List.getElem?_eq_getElem hq'] at h1
  simp only [Option.map_some, Option.some.injEq, Prod.mk.injEq] at h1
  exact h1.2.symm

/-- What a step down the tree leaves. -/
def StepPost (own : Nat → Nat) (w : World) (tb : Nat) (F : Nat → Prop) (order : List Int) (ks : List (Int × List Cd)) (p : List (List Cd)) (oa : Option Addr) (oc : Nat) (m : Nat) (e : Ending) (w' : World) : Prop :=
  ∃ (N' : List (Nd Cd)) (R' : List NdR) (own' : Nat → Nat) (j : Nat) (hj : j < N'.length) (hr : j < R'.length), e = .returned (.pointer (some ⟨R'[j].blk, 0, none⟩)) ∧ TreeOK Cd.attr ceE order ks N' m ∧ TreeAt w' tb F order N' R' oa oc ∧ TreeSep own' w' tb R' oa ∧ N'[j].path = p ∧ Kp F w w' ∧ Kp (fun b => own b ≠ 0) w w' ∧ ∀ b, b < w.heap.size → own' b = own b

section
variable {w : World} {tb : Nat} {F : Nat → Prop} {order : List Int} {N : List (Nd Cd)} {R : List NdR} {oa : Option Addr} {oc : Nat} {own : Nat → Nat} {ks : List (Int × List Cd)} {m : Nat}
set_option maxHeartbeats 1600000 in
set_option maxRecDepth 100000 in
theorem step_found (O : TreeOK Cd.attr ceE order ks N m) (T : TreeAt w tb F order N R oa oc) (S : TreeSep own w tb R oa) (i : Nat) (hi : i < N.length) (hr : i < R.length) (q : Nat) (c : List Cd) (bo : Option Addr) (bcap : Nat) (hc8 : c.length ≤ 8) (hcd : Cxs w bo c) (hN : N.length ≤ 900) (hq : SpotOf ceE (N[i].kids.map (·.1)) c q) (hf : c ∈ N[i].kids.map (·.1)) :
    Calls Tryz.prog 202 #[.pointer (some ⟨tb, 0, none⟩), .pointer (some ⟨R[i].blk, 0, none⟩), .slice bo c.length bcap] w fun e w' => StepPost own w tb F order ks (N[i].path ++ [c]) oa oc m e w' := by
  have n0 := T.nd i hi hr
  obtain ⟨k1, k2⟩ := keys_of n0
  obtain ⟨hqk, hqe⟩ := (spot_found ceE_ord (O.srt i hi) hq).2 hf
  have hkl := O.kl i hi
  have hqk' : q < N[i].kids.length := by simpa using hqk
  have hqs : q < R[i].es.length := by omega
  have hqc : N[i].kids[q].1 = c := by simpa using hqe
  obtain ⟨hj, hpath⟩ := (O.kid i hi N[i].kids[q].1 N[i].kids[q].2).1 (List.getElem_mem hqk')
  rw [hqc] at hpath
  have hto := to_of n0 q hqs hqk'
  have hjr : N[i].kids[q].2 < R.length := by rw [T.len]; exact hj
  rw [List.getElem?_eq_getElem hjr] at hto
  simp only [Option.map_some, Option.some.injEq] at hto
  have hfin : Hid (∀ w', Ext w w' → StepPost own w tb F order ks (N[i].path ++ [c]) oa oc m (.returned (.pointer (some ⟨R[i].es[q].to, 0, none⟩))) w') := fun w' hE => by
    refine ⟨N, R, own, N[i].kids[q].2, hj, hjr, by rw [hto], O, T.kp (hE.kp (fun _ => False)) (fun _ _ h => h), S.ahead hE.le, hpath, hE.kp _, hE.kp _, fun _ _ => rfl⟩
  have hes : ∀ h (hh : h < R[i].es.length), R[i].es[h].conds = (N[i].kids.map (·.1))[h]'(by simp; omega) := fun h hh => by
    have h1 : (R[i].es.map (·.conds))[h]? = (N[i].kids.map (·.1))[h]? := by rw [k1]
    rw [List.getElem?_eq_getElem (by simpa using hh), List.getElem?_eq_getElem (by simp; omega)] at h1
    simpa using h1
  have HB : Hid (∀ W, Ext w W → Calls Tryz.prog 230 #[.slice R[i].ea R[i].es.length R[i].ecap, .agg #[.int .i64 (askI c), .slice bo c.length bcap, .pointer none], .func (Fn.func 231) #[] #[]] W fun e w' => e = .returned (.tuple #[.int .i64 q, .bool true]) ∧ Ext W w') := fun W hE => by
    refine bse_any R[i].ea R[i].ecap R[i].es c bo bcap q true W (n0.eds.ext hE) (fun e he => ⟨(n0.cds e he).cxs.ext hE, (n0.cds e he).1.1⟩) (hcd.ext hE) hc8 (by omega) (by omega) (fun h hh => ?_) (fun hq' => ?_) (fun h => absurd hqs h)
    · rw [hes h hh]; exact hq.2 h (by simp; omega)
    · rw [hes q hqs, hqe, ceE_ord.refl]; rfl
  have HA : Hid _ := askOf_any bo bcap c w hc8 hcd
  have r1 := n0.row.at (j := 1) rfl
  have r1w : ∀ o, (w.alloc o).cell? ⟨R[i].blk, 1, none⟩ = _ := fun o => ((Ext.refl w).alloc o).cell r1
  have hbl := n0.row.lt
  obtain ⟨eg, he0, he2⟩ := n0.eds.at (edr_at R[i].es q hqs).2.2
  have HR2 : Hid (w.cell? ⟨eg, q * 3 + 2, none⟩ = some (.pointer (some ⟨R[i].es[q].to, 0, none⟩))) := he2
  have HR1 : Hid (w.cell? ⟨R[i].blk, 1, none⟩ = some (.slice R[i].ea R[i].es.length R[i].ecap)) := r1
  have hqi : (q : Int) < (R[i].es.length : Int) := by omega
  rw [he0] at HB r1w HR1
  clear n0 hes hto hpath hqc hqe k1 k2 hq hf O T S r1 he2 hcd he0
  generalize askI c = ac at *
  generalize R[i].blk = rb at *
  generalize R[i].es[q].to = eto at *
  generalize R[i].es.length = en at *
  generalize R[i].ecap = ecap at *
  go_enter Tryz.func202, Tryz.ntmps202
  go_wp2_with fail
  refine Calls.mono HA.out ?_
  rintro e w1 ⟨rfl, rfl⟩
  go_wp2_with fail
  go_region_held3 (fun w' => w'.cell? ⟨rb, 1, none⟩ = some (.slice (some ⟨eg, 0, none⟩) en ecap) ∧ w'.cell? ⟨w1.heap.size, 0, none⟩ = some (.int .i64 ac) ∧ w'.cell? ⟨w1.heap.size, 1, none⟩ = some (.slice bo c.length bcap) ∧ w'.cell? ⟨w1.heap.size, 2, none⟩ = some (.pointer none))
    (first | go_keep | (refine ⟨?_, ?_, ?_, ?_⟩ <;> exact hbb.cell (by first | assumption | simp [*])))
    (first | (go_at_call 230; refine Calls.mono (HB.out _ (by exact ((Ext.refl w1).alloc _).drew)) ?_; rintro e w' ⟨rfl, hbb⟩))
  have hE2 : Ext w1 w' := (((Ext.refl w1).alloc _).drew).trans hbb
  have s1 := hE2.cell HR1.out
  have s2 := hE2.cell HR2.out
  clear HB HR1 HR2 hbb
  go_wp2
  go_ret
  exact hfin.out _ hE2

theorem edr_ins (es : List EdR) (x : EdR) (q : Nat) : (es.flatMap EdR.cells).take (q * 3) ++ x.cells ++ (es.flatMap EdR.cells).drop (q * 3) = (es.take q ++ x :: es.drop q).flatMap EdR.cells := by
  have e : es.flatMap EdR.cells = (es.take q).flatMap EdR.cells ++ (es.drop q).flatMap EdR.cells := by rw [← List.flatMap_append, List.take_append_drop]
  rcases Nat.lt_or_ge q es.length with h | h
  · have hl : ((es.take q).flatMap EdR.cells).length = q * 3 := by rw [edr_len]; simp; omega
    rw [e, List.take_left' hl, List.drop_left' hl]; simp
  · rw [List.take_of_length_le (by rw [edr_len]; omega), List.drop_of_length_le (by rw [edr_len]; omega), List.take_of_length_le h, List.drop_of_length_le h]; simp
set_option maxHeartbeats 3200000 in
set_option maxRecDepth 100000 in
theorem step_new (O : TreeOK Cd.attr ceE order ks N m) (T : TreeAt w tb F order N R oa oc) (S : TreeSep own w tb R oa) (i : Nat) (hi : i < N.length) (hr : i < R.length) (q : Nat) (c : List Cd) (bo : Option Addr) (bcap : Nat) (hc8 : c.length ≤ 8) (hkd : ∀ x ∈ c, 1 ≤ x.kind ∧ x.kind ≤ 9) (hcd : 0 < c.length → ∃ b, bo = some ⟨b, 0, none⟩ ∧ Cds w b 0 c) (hbo : ∀ g, blkOf bo = some g → F g ∧ g < w.heap.size ∧ own g = 0) (hN : N.length ≤ 900) (hq : SpotOf ceE (N[i].kids.map (·.1)) c q) (hf : c ∉ N[i].kids.map (·.1)) (hlv : LvOK Cd.attr order (N[i].path ++ [c])) (hF : ∀ b, w.heap.size ≤ b → F b) :
    Calls Tryz.prog 202 #[.pointer (some ⟨tb, 0, none⟩), .pointer (some ⟨R[i].blk, 0, none⟩), .slice bo c.length bcap] w fun e w' => StepPost own w tb F order ks (N[i].path ++ [c]) oa oc (m + 1) e w' := by
  have n0 := T.nd i hi hr
  obtain ⟨k1, k2⟩ := keys_of n0
  have hkl := O.kl i hi
  have hqs : q ≤ R[i].es.length := by have := hq.1; simp at this; omega
  have hcx : Cxs w bo c := fun hp => by
    obtain ⟨b, h1, h2⟩ := hcd hp
    exact ⟨b, 0, h1, h2⟩
  obtain ⟨rb0, hrb0, htr⟩ := T.row
  have htb := htr.lt
  have hbl := n0.row.lt
  have hownb := S.b i hr
  have hne1 : R[i].blk ≠ tb := fun e => by have := S.t; rw [← e, hownb] at this; omega
  have hne2 : ∀ g, blkOf R[i].ea = some g → g ≠ tb ∧ g ≠ R[i].blk ∧ g < w.heap.size := fun g hg => ⟨fun e => by have h1 := (S.e i hr g hg).1; have := S.t; rw [e] at h1; omega, (S.e i hr g hg).2.1, n0.eds.lt hg⟩
  have hne3 : ∀ g, blkOf bo = some g → g ≠ tb ∧ g ≠ R[i].blk ∧ blkOf R[i].ea ≠ some g := fun g hg => by
    have h0 := (hbo g hg).2.2
    refine ⟨fun e => by rw [e, S.t] at h0; omega, fun e => by rw [e, hownb] at h0; omega, fun e => by have := (S.e i hr g e).1; omega⟩
  have hes : ∀ h (hh : h < R[i].es.length), R[i].es[h].conds = (N[i].kids.map (·.1))[h]'(by simp; omega) := fun h hh => by
    have h1 : (R[i].es.map (·.conds))[h]? = (N[i].kids.map (·.1))[h]? := by rw [k1]
    rw [List.getElem?_eq_getElem (by simpa using hh), List.getElem?_eq_getElem (by simp; omega)] at h1
    simpa using h1
  have HB : Hid (∀ W, Ext w W → Calls Tryz.prog 230 #[.slice R[i].ea R[i].es.length R[i].ecap, .agg #[.int .i64 (askI c), .slice bo c.length bcap, .pointer none], .func (Fn.func 231) #[] #[]] W fun e w' => e = .returned (.tuple #[.int .i64 q, .bool false]) ∧ Ext W w') := fun W hE => by
    refine bse_any R[i].ea R[i].ecap R[i].es c bo bcap q false W (n0.eds.ext hE) (fun e he => ⟨(n0.cds e he).cxs.ext hE, (n0.cds e he).1.1⟩) (hcx.ext hE) hc8 (by omega) (by omega) (fun h hh => ?_) (fun hq' => ?_) (fun _ => rfl)
    · rw [hes h hh]; exact hq.2 h (by simp; omega)
    · rw [hes q hq']
      have hne : (N[i].kids.map (·.1))[q]'(by simp; omega) ≠ c := fun e => hf (by rw [← e]; exact List.getElem_mem _)
      have : ceE ((N[i].kids.map (·.1))[q]'(by simp; omega)) c ≠ 0 := fun e => hne ((ceE_ord.eq _ _).1 e)
      simpa using this
  have HA : Hid _ := askOf_any bo bcap c w hc8 hcx
  have HIn : Hid (∀ (W : World) (o : Obj) (nb : Nat), Kp (fun b => b = tb) w W → o = .cells #[.int .i64 (askI c), .slice bo c.length bcap, .pointer (some ⟨nb, 0, none⟩)] 268 → Calls Tryz.prog 232 #[.slice R[i].ea R[i].es.length R[i].ecap, .int .i64 q, .slice (some ⟨W.heap.size, 0, none⟩) 1 1] (W.alloc o) fun e w' => InsPost 268 3 (W.alloc o) w' R[i].ea R[i].es.length ((R[i].es.flatMap EdR.cells).take (q * 3) ++ [.int .i64 (askI c), .slice bo c.length bcap, .pointer (some ⟨nb, 0, none⟩)] ++ (R[i].es.flatMap EdR.cells).drop (q * 3)) e) := fun W o nb hK ho => by
    subst ho
    exact insert_anyE R[i].ea R[i].es.length R[i].ecap q _ W.heap.size _ _ ((n0.eds.kp hK (fun g hg => (hne2 g hg).1)).ext ((Ext.refl _).alloc _)) hqs (by omega) (row_alloc _ _ _ _ _ rfl rfl) (fun h => by have := (hne2 _ h).2.2; have := hK.size; omega) (by intro u hu; simp at hu; rcases hu with rfl | rfl | rfl <;> rfl) rfl (edr_one _)
  have HD : Hid (∀ (W wI : World) (o : Obj) (nb : Nat) (ea' : Option Addr) (ecap' : Nat), Kp (fun b => b = tb) w W → w.heap.size ≤ nb → nb < W.heap.size → Row W nb 232 [.slice none 0 0, .slice none 0 0] → Row W tb 203 [.slice oa order.length oc, .pointer (some ⟨rb0, 0, none⟩), .int .i64 ((N.length + 1 : Nat) : Int)] →
      OSl wI 268 3 ea' (R[i].es.length + 1) ecap' ((R[i].es.flatMap EdR.cells).take (q * 3) ++ [.int .i64 (askI c), .slice bo c.length bcap, .pointer (some ⟨nb, 0, none⟩)] ++ (R[i].es.flatMap EdR.cells).drop (q * 3)) → Kp (fun k => blkOf R[i].ea = some k) (W.alloc o) wI → (∀ g, blkOf ea' = some g → blkOf R[i].ea = some g ∨ (W.alloc o).heap.size ≤ g) →
      StepPost own w tb F order ks (N[i].path ++ [c]) oa oc (m + 1) (.returned (.pointer (some ⟨nb, 0, none⟩))) (wI.setCell ⟨R[i].blk, 1, none⟩ (.slice ea' (R[i].es.length + 1) ecap')) ∧ ∃ g, ea' = some ⟨g, 0, none⟩ ∧ g ≠ R[i].blk ∧ wI.cell? ⟨g, q * 3 + 2, none⟩ = some (.pointer (some ⟨nb, 0, none⟩))) := fun W wI o nb ea' ecap' hK hnb hnbW hRn hRt hO hKI hat => by
    have hW := hK.size
    have hz : (W.alloc o).heap.size = W.heap.size + 1 := by simp
    have hWI := hKI.size
    obtain ⟨w', hw'⟩ : ∃ w', w' = wI.setCell ⟨R[i].blk, 1, none⟩ (.slice ea' (R[i].es.length + 1) ecap') := ⟨_, rfl⟩
    have hks : Kp (fun b => b = R[i].blk) wI w' := by rw [hw']; exact (Kp.refl (fun b => b = R[i].blk) wI).setCell (fun _ => rfl) _
    have hEo : Ext W (W.alloc o) := (Ext.refl W).alloc o
    have hKall : Kp (fun b => b = tb ∨ b = R[i].blk ∨ blkOf R[i].ea = some b) w w' := (((hK.mono (fun _ _ h => Or.inl h)).trans (hEo.kp _)).trans (hKI.mono (fun _ _ h => Or.inr (Or.inr h)))).trans (hks.mono (fun _ _ h => Or.inr (Or.inl h)))
    have hea : ∀ g, blkOf ea' = some g → blkOf R[i].ea = some g ∨ (w.heap.size ≤ g ∧ g ≠ nb) := fun g hg => by
      rcases hat g hg with h | h
      · exact Or.inl h
      · exact Or.inr ⟨by omega, by omega⟩
    have hgne : ∀ g, blkOf ea' = some g → g ≠ R[i].blk := fun g hg => by
      rcases hat g hg with h | h
      · exact (hne2 g h).2.1
      · omega
    have hrowI : Row wI R[i].blk 232 [.slice R[i].ia N[i].ids.length R[i].icap, .slice R[i].ea R[i].es.length R[i].ecap] := hKI.row ((hK.row n0.row hne1).ext hEo) (fun h => (hne2 _ h).2.1 rfl)
    have hrow' : Row w' R[i].blk 232 [.slice R[i].ia N[i].ids.length R[i].icap, .slice ea' (R[i].es.length + 1) ecap'] := by rw [hw']; exact hrowI.set 1 _
    have hRn' : Row w' nb 232 [.slice none 0 0, .slice none 0 0] := hks.row (hKI.row (hRn.ext hEo) (fun h => by have := (hne2 _ h).2.2; omega)) (by omega)
    have hRt' : Row w' tb 203 [.slice oa order.length oc, .pointer (some ⟨rb0, 0, none⟩), .int .i64 ((N.length + 1 : Nat) : Int)] := hks.row (hKI.row (hRt.ext hEo) (fun h => (hne2 _ h).1 rfl)) (fun e => hne1 e.symm)
    have hO' : OSl w' 268 3 ea' (R[i].es.length + 1) ecap' ((R[i].es.take q ++ ⟨c, bo, bcap, nb⟩ :: R[i].es.drop q).flatMap EdR.cells) := by
      rw [← edr_ins]
      exact OSl.kp hO hks (fun g hg => hgne g hg)
    have hcd' : 0 < c.length → ∃ b, bo = some ⟨b, 0, none⟩ ∧ Cds w' b 0 c := fun hp => by
      obtain ⟨b, h1, h2⟩ := hcd hp
      refine ⟨b, h1, h2.kp hKall ?_⟩
      have h3 := hne3 b (by rw [h1]; rfl)
      rintro (h | h | h)
      · exact h3.1 h
      · exact h3.2.1 h
      · exact h3.2.2 h
    obtain ⟨own', t1, t2, t3⟩ := step_done O T S i hi hr q c bo bcap nb ⟨hc8, hkd⟩ hcd' hbo hKall ⟨rb0, hrb0, hRt'⟩ hnb hRn' ea' ecap' hrow' hO' hea hF hqs
    have hKF : Kp F w w' := hKall.mono (fun b _ h => by
      rcases h with h | h | h
      · rw [h]; exact T.ft
      · rw [h]; exact n0.fb
      · exact n0.fe b h)
    have hKO : Kp (fun b => own b ≠ 0) w w' := hKall.mono (fun b _ h => by
      rcases h with h | h | h
      · rw [h, S.t]; omega
      · rw [h, hownb]; omega
      · rw [(S.e i hr b h).1]; omega)
    rw [← hw']
    have hlen := T.len
    refine ⟨⟨_, _, own', N.length, by rw [addKid_len]; omega, by rw [addR_len]; omega, ?_, O.add ceE_ord i hi q c hq hf hlv, t1, t2, ?_, hKF, hKO, t3⟩, ?_⟩
    · have := addR_new (R := R) i hr q ⟨c, bo, bcap, nb⟩ ea' ecap' nb (by rw [addR_len]; omega)
      simp only [hlen] at this
      rw [this]
    · obtain ⟨_, e'⟩ := addKid_new i hi q c
      rw [e']
    · have hx : ((R[i].es.take q ++ (⟨c, bo, bcap, nb⟩ : EdR) :: R[i].es.drop q).flatMap EdR.cells)[q * 3 + 2]? = some (.pointer (some ⟨nb, 0, none⟩)) := by
        have hl : q < (R[i].es.take q ++ (⟨c, bo, bcap, nb⟩ : EdR) :: R[i].es.drop q).length := by simp; omega
        have h1 := (edr_at _ q hl).2.2
        rw [h1]
        rw [List.getElem_append_right (by simp; omega)]
        simp [show min q R[i].es.length = q by omega]
      have hO2 := hO
      rw [show ([.int .i64 (askI c), .slice bo c.length bcap, .pointer (some ⟨nb, 0, none⟩)] : List Value) = EdR.cells ⟨c, bo, bcap, nb⟩ from rfl, edr_ins] at hO2
      obtain ⟨g, h1, h2⟩ := hO2.at hx
      exact ⟨g, h1, hgne g (by rw [h1]; rfl), h2⟩
  have HT : Hid (Row w tb 203 [.slice oa order.length oc, .pointer (some ⟨rb0, 0, none⟩), .int .i64 N.length]) := htr
  have HN : Hid (Row w R[i].blk 232 [.slice R[i].ia N[i].ids.length R[i].icap, .slice R[i].ea R[i].es.length R[i].ecap]) := n0.row
  have HE : Hid (∀ g, blkOf R[i].ea = some g → g ≠ tb ∧ g ≠ R[i].blk ∧ g < w.heap.size) := hne2
  have r1 := n0.row.at (j := 1) rfl
  have r1w : ∀ o, (w.alloc o).cell? ⟨R[i].blk, 1, none⟩ = _ := fun o => ((Ext.refl w).alloc o).cell r1
  have hqi : (q : Int) < ((R[i].es.length : Int) + 1) := by omega
  clear n0 hes k1 k2 hq hf O T S hcd hbo htr hownb hne3 hne2 hcx hlv hF hrb0 r1
  generalize askI c = ac at *
  generalize R[i].blk = rb at *
  generalize R[i].es.length = en at *
  generalize R[i].ecap = ecap at *
  generalize R[i].ea = ea at *
  go_enter Tryz.func202, Tryz.ntmps202
  go_wp2_with fail
  refine Calls.mono HA.out ?_
  rintro e w1 ⟨rfl, rfl⟩
  go_wp2_with fail
  go_region_held3 (fun w' => w'.cell? ⟨rb, 1, none⟩ = some (.slice ea en ecap) ∧ w'.cell? ⟨w1.heap.size, 0, none⟩ = some (.int .i64 ac) ∧ w'.cell? ⟨w1.heap.size, 1, none⟩ = some (.slice bo c.length bcap) ∧ w'.cell? ⟨w1.heap.size, 2, none⟩ = some (.pointer none))
    (first | go_keep | (refine ⟨?_, ?_, ?_, ?_⟩ <;> exact hbb.cell (by first | assumption | simp [*])))
    (first | (go_at_call 230; refine Calls.mono (HB.out _ (by exact ((Ext.refl w1).alloc _).drew)) ?_; rintro e w' ⟨rfl, hbb⟩))
  have hE2 : Ext w1 w' := (((Ext.refl w1).alloc _).drew).trans hbb
  have hWay : Row w' w1.heap.size 268 [.int .i64 ac, .slice bo c.length bcap, .pointer none] := (show Row (w1.alloc (.cells #[.int .i64 ac, .slice bo c.length bcap, .pointer none] 268)).drew w1.heap.size 268 [.int .i64 ac, .slice bo c.length bcap, .pointer none] from row_alloc _ _ _ _ _ rfl rfl).ext hbb
  have hTr := HT.out.ext hE2
  have t2 := hTr.at (j := 2) rfl
  have tf := hTr.frozen 2
  have y2 := hWay.at (j := 2) rfl
  have yf := hWay.frozen 2
  have htb2 := hTr.lt
  have hwl := hWay.lt
  have hnt : tb ≠ w1.heap.size := by omega
  have hw63 : IntKind.i64.wrap ((N.length : Int) + 1) = (N.length : Int) + 1 := by rw [IntKind.wrap_i64]; omega
  rename_i hheld
  clear HB hbb hheld
  go_wp2_with fail
  obtain ⟨nb, hnb⟩ : ∃ nb, nb = w'.heap.size := ⟨_, rfl⟩
  obtain ⟨W5, hW5⟩ : ∃ W5, W5 = (((w'.setCell ⟨w1.heap.size, 2, none⟩ (.pointer (some ⟨w'.heap.size, 0, none⟩))).setCell ⟨tb, 2, none⟩ (.int .i64 ((N.length : Int) + 1))).alloc (.cells #[.slice none 0 0, .slice none 0 0] 232)) := ⟨_, rfl⟩
  have hle2 := hE2.le
  have k5 : Kp (fun b => b = tb) w1 W5 := by
    rw [hW5]
    exact (((hE2.kp (fun b => b = tb)).setCell (fun h => absurd h (Nat.lt_irrefl _)) _).setCell (fun _ => rfl) _).trans (((Ext.refl _).alloc _).kp _)
  have q1 : Row W5 nb 232 [.slice none 0 0, .slice none 0 0] := by
    rw [hW5]; exact row_alloc _ _ _ _ _ (by rw [hnb]; simp [World.setCell]) rfl
  have q2 : Row W5 tb 203 [.slice oa order.length oc, .pointer (some ⟨rb0, 0, none⟩), .int .i64 ((N.length : Int) + 1)] := by
    rw [hW5]
    exact ((hTr.setOther (by simpa using fun e => hnt e.symm) _).set 2 _).ext ((Ext.refl _).alloc _)
  have q3 : Row W5 w1.heap.size 268 [.int .i64 ac, .slice bo c.length bcap, .pointer (some ⟨nb, 0, none⟩)] := by
    rw [hW5, hnb]
    exact ((hWay.set 2 _).setOther (by simpa using hnt) _).ext ((Ext.refl _).alloc _)
  have hz5 : nb < W5.heap.size := q1.lt
  have hnbw : w1.heap.size ≤ nb := by omega
  rw [← hW5]
  have hN5 := k5.row HN.out (fun e => hne1 e)
  have b1 := hN5.at (j := 1) rfl
  have c0 := q3.at (j := 0) rfl
  have c1 := q3.at (j := 1) rfl
  have c2 := q3.at (j := 2) rfl
  clear hW5 hTr hWay t2 tf y2 yf hE2 HT hnb hN5 q3
  have k5d : Kp (fun b => b = tb) w1 W5.drew := k5.trans (((Ext.refl _).drew).kp _)
  have HQ1 : Hid (Row W5.drew nb 232 [.slice none 0 0, .slice none 0 0]) := q1
  have HQ2 : Hid (Row W5.drew tb 203 [.slice oa order.length oc, .pointer (some ⟨rb0, 0, none⟩), .int .i64 ((N.length : Int) + 1)]) := q2
  have HK5 : Hid (Kp (fun b => b = tb) w1 W5.drew) := k5d
  have hblt : rb < W5.heap.size := by have := k5.size; omega
  clear q1 q2 k5 k5d
  have bA : ∀ o : Obj, (W5.drew.alloc o).cell? ⟨rb, 1, none⟩ = some (.slice ea en ecap) := fun o => ((Ext.refl _).alloc o).cell b1
  go_region_with (first
    | (go_at_call 232; refine Calls.mono (HIn.out W5.drew _ nb HK5.out rfl) ?_; rintro e wI ⟨ea', ecap', rfl, hO', hkI, hat⟩; have rI := hkI.row ((HK5.out.row HN.out (fun e => hne1 e)).ext ((Ext.refl _).alloc _)) (fun h => (HE.out _ h).2.1 rfl); have cI := rI.at (j := 1) rfl; have fI := rI.frozen))
  all_goals
    obtain ⟨hpost, eg, heg, hegn, hec⟩ := HD.out W5.drew wI _ nb ea' ecap' HK5.out hnbw (by exact hz5) HQ1.out HQ2.out hO' hkI hat
    have HP : Hid _ := hpost
    have d2 := ((Kp.refl (fun b => b = rb) wI).setCell (p := ⟨rb, 1, none⟩) (fun _ => rfl) (.slice ea' (en + 1) ecap')).cell hec hegn
    clear hpost hec hO' HD HIn HQ1 HQ2 HK5 hkI rI HE HN bA
    subst heg
    go_wp2
    go_ret
    exact HP.out
end
end Go.Proofs.YtpbblaeamddbgaaGreat
