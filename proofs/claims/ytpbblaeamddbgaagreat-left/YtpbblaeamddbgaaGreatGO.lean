import Derived.Test.YtpbblaeamddbgaaGreatGL
import Derived.Test.YtpbblaeamddbgaaGreatGM
namespace Go.Proofs.YtpbblaeamddbgaaGreat
open Go.RowKit

theorem IdxG.same {K K' : List (Int × Int × List Cd)} {Sh : Nat → ShR} (G : IdxG K Sh) (h : ∀ x, x ∈ K' ↔ x ∈ K) : IdxG K' Sh :=
  ⟨G.rise, G.spot, G.ndup, G.one, fun i hi e he o => by simp only [h]; exact G.om i hi e he o, fun k hk => G.al k ((h k).1 hk)⟩
theorem rem_zero {K0 : List (Int × Int × List Cd)} {Sh : Nat → ShR} {id n : Int} (G : IdxG ((id, n, []) :: K0) Sh) : IdxG K0 Sh := by
  refine ⟨G.rise, G.spot, G.ndup, G.one, fun i hi e he o => ?_, fun k hk => G.al k (List.mem_cons_of_mem _ hk)⟩
  rw [G.om i hi e he o]
  constructor
  · rintro ⟨l, h1, h2⟩
    rcases List.mem_cons.1 h1 with h | h
    · simp only [Prod.mk.injEq] at h
      obtain ⟨_, _, rfl⟩ := h
      cases h2
    · exact ⟨l, h, h2⟩
  · rintro ⟨l, h1, h2⟩; exact ⟨l, List.mem_cons_of_mem _ h1, h2⟩

theorem rem_one {K0 : List (Int × Int × List Cd)} {id n : Int} {l : List Cd} {c : Cd} {Sh : Nat → ShR} (G : IdxG ((id, n, c :: l) :: K0) Sh) (hid : ∀ k ∈ K0, k.1 ≠ id) (hcl : c ∉ l) (i : Nat) (hi : i < 60) (hci : spotOf c = i) (q : Nat) (hq : q < (Sh i).es.length) (hq1 : (Sh i).es[q].c = c)
    (s' : ShR) (hrise : Rise cmpCd (s'.es.map (·.c))) (x : EnR) (hx : x.c = c) (hxo : x.os = dropId (Sh i).es[q].os id) (hs : ∀ e, e ∈ s'.es ↔ ((e ∈ (Sh i).es ∧ e.c ≠ c) ∨ (e = x ∧ x.os ≠ []))) :
    IdxG ((id, n, l) :: K0) (upd Sh i s') := by
  have hxos : ∀ o, o ∈ x.os ↔ ∃ l', (o.1, o.2, l') ∈ K0 ∧ c ∈ l' := fun o => by
    rw [hxo]
    unfold dropId
    rw [List.mem_filter, G.om i hi _ (List.getElem_mem hq) o, hq1]
    constructor
    · rintro ⟨⟨l', h1, h2⟩, h3⟩
      rcases List.mem_cons.1 h1 with h | h
      · simp only [Prod.mk.injEq] at h
        simp [h.1] at h3
      · exact ⟨l', h, h2⟩
    · rintro ⟨l', h1, h2⟩
      refine ⟨⟨l', List.mem_cons_of_mem _ h1, h2⟩, ?_⟩
      simpa using hid _ h1
  have hKe : ∀ o : Int × Int, ∀ d : Cd, d ≠ c → ((∃ l', (o.1, o.2, l') ∈ (id, n, l) :: K0 ∧ d ∈ l') ↔ ∃ l', (o.1, o.2, l') ∈ (id, n, c :: l) :: K0 ∧ d ∈ l') := fun o d hd => by
    constructor
    · rintro ⟨l', h4, h5⟩
      rcases List.mem_cons.1 h4 with h6 | h6
      · simp only [Prod.mk.injEq] at h6
        obtain ⟨e1, e2, rfl⟩ := h6
        exact ⟨c :: l', by simp [e1, e2], List.mem_cons_of_mem _ h5⟩
      · exact ⟨l', List.mem_cons_of_mem _ h6, h5⟩
    · rintro ⟨l', h4, h5⟩
      rcases List.mem_cons.1 h4 with h6 | h6
      · simp only [Prod.mk.injEq] at h6
        obtain ⟨e1, e2, rfl⟩ := h6
        refine ⟨l, by simp [e1, e2], ?_⟩
        rcases List.mem_cons.1 h5 with h7 | h7
        · exact absurd h7 hd
        · exact h7
      · exact ⟨l', List.mem_cons_of_mem _ h6, h5⟩
  have hent : ∀ j, j < 60 → ∀ e ∈ (upd Sh i s' j).es, (j = i ∧ e = x ∧ x.os ≠ []) ∨ (e ∈ (Sh j).es ∧ e.c ≠ c) := fun j hj e he => by
    by_cases hji : j = i
    · subst hji
      rw [upd_same, hs] at he
      rcases he with h | h
      · exact Or.inr h
      · exact Or.inl ⟨rfl, h⟩
    · rw [upd_ne Sh hji] at he
      refine Or.inr ⟨he, fun h => hji ?_⟩
      rw [← G.spot j hj e he, h, hci]
  refine ⟨?_, ?_, ?_, ?_, ?_, ?_⟩
  · intro j hj
    by_cases hji : j = i
    · subst hji; rw [upd_same]; exact hrise
    · rw [upd_ne Sh hji]; exact G.rise j hj
  · intro j hj e he
    rcases hent j hj e he with ⟨rfl, rfl, _⟩ | ⟨h, _⟩
    · rw [hx]; exact hci
    · exact G.spot j hj e h
  · intro j hj e he
    rcases hent j hj e he with ⟨rfl, rfl, _⟩ | ⟨h, _⟩
    · rw [hxo]
      exact List.Nodup.sublist (List.Sublist.map _ List.filter_sublist) (G.ndup j hj _ (List.getElem_mem hq))
    · exact G.ndup j hj e h
  · intro j hj e he
    rcases hent j hj e he with ⟨_, rfl, h⟩ | ⟨h, _⟩
    · exact h
    · exact G.one j hj e h
  · intro j hj e he o
    rcases hent j hj e he with ⟨_, rfl, _⟩ | ⟨h, hne⟩
    · rw [hxos o, hx]
      constructor
      · rintro ⟨l', h1, h2⟩; exact ⟨l', List.mem_cons_of_mem _ h1, h2⟩
      · rintro ⟨l', h1, h2⟩
        rcases List.mem_cons.1 h1 with h | h
        · simp only [Prod.mk.injEq] at h
          obtain ⟨_, _, rfl⟩ := h
          exact absurd h2 hcl
        · exact ⟨l', h, h2⟩
    · rw [G.om j hj e h o, hKe o e.c hne]
  · intro k hk d hd
    have hold : spotOf d < 60 ∧ ∃ e ∈ (Sh (spotOf d)).es, e.c = d := by
      rcases List.mem_cons.1 hk with h | h
      · subst h
        exact G.al (id, n, c :: l) (by simp) d (List.mem_cons_of_mem _ hd)
      · exact G.al k (List.mem_cons_of_mem _ h) d hd
    obtain ⟨h60, e, he, hed⟩ := hold
    refine ⟨h60, ?_⟩
    by_cases hdi : spotOf d = i
    · rw [hdi] at he ⊢
      rw [upd_same]
      by_cases hdc : d = c
      · have hkK : k ∈ K0 := by
          rcases List.mem_cons.1 hk with h | h
          · subst h; rw [hdc] at hd; exact absurd hd hcl
          · exact h
        refine ⟨x, (hs x).2 (Or.inr ⟨rfl, fun h0 => ?_⟩), by rw [hx, hdc]⟩
        have := (hxos (k.1, k.2.1)).2 ⟨k.2.2, hkK, by rw [← hdc]; exact hd⟩
        rw [h0] at this
        cases this
      · exact ⟨e, (hs e).2 (Or.inl ⟨he, by rw [hed]; exact hdc⟩), hed⟩
    · rw [upd_ne Sh hdi]; exact ⟨e, he, hed⟩

theorem mem_del {es : List EnR} (h : Rise cmpCd (es.map (·.c))) (q : Nat) (hq : q < es.length) (e : EnR) : e ∈ es.take q ++ es.drop (q + 1) ↔ e ∈ es ∧ e.c ≠ es[q].c := by
  have hn := h.nodup cmpCd_ord
  rw [List.nodup_iff_pairwise_ne, List.pairwise_iff_getElem] at hn
  constructor
  · intro he
    rcases List.mem_append.1 he with h1 | h1
    · obtain ⟨k, hk, rfl⟩ := List.getElem_of_mem h1
      simp only [List.length_take] at hk
      rw [List.getElem_take]
      refine ⟨List.getElem_mem _, fun e => ?_⟩
      exact hn k q (by simp; omega) (by simpa using hq) (by omega) (by simpa using e)
    · obtain ⟨k, hk, rfl⟩ := List.getElem_of_mem h1
      simp only [List.length_drop] at hk
      rw [List.getElem_drop]
      refine ⟨List.getElem_mem _, fun e => ?_⟩
      exact hn q (q + 1 + k) (by simpa using hq) (by simp; omega) (by omega) (by simpa using e.symm)
  · rintro ⟨h1, h2⟩
    obtain ⟨k, hk, rfl⟩ := List.getElem_of_mem h1
    have hkq : k ≠ q := fun e => h2 (by subst e; rfl)
    rcases Nat.lt_or_ge k q with h3 | h3
    · exact List.mem_append_left _ (List.mem_iff_getElem.2 ⟨k, by simp; omega, by rw [List.getElem_take]⟩)
    · exact List.mem_append_right _ (List.mem_iff_getElem.2 ⟨k - (q + 1), by simp; omega, by rw [List.getElem_drop]; congr 1; omega⟩)
theorem mem_put {es : List EnR} (h : Rise cmpCd (es.map (·.c))) (q : Nat) (hq : q < es.length) (x e : EnR) : e ∈ es.set q x ↔ (e ∈ es ∧ e.c ≠ es[q].c) ∨ e = x := by
  constructor
  · intro he
    rcases mem_set_cases he with h1 | ⟨k, hk, hkq, rfl⟩
    · exact Or.inr h1
    · exact Or.inl ⟨List.getElem_mem hk, rise_at_ne h hk hq hkq⟩
  · rintro (⟨h1, h2⟩ | rfl)
    · obtain ⟨k, hk, rfl⟩ := List.getElem_of_mem h1
      have hkq : k ≠ q := fun e => h2 (by subst e; rfl)
      exact List.mem_iff_getElem.2 ⟨k, by simpa using hk, by rw [List.getElem_set_ne (fun e => hkq e.symm)]⟩
    · exact List.mem_iff_getElem.2 ⟨q, by simpa using hq, by simp⟩
theorem flat_takeX (l : List EnR) (k : Nat) : (l.flatMap EnR.cells).take (k * 7) = (l.take k).flatMap EnR.cells := by
  rcases Nat.lt_or_ge k l.length with h | h
  · have hl : ((l.take k).flatMap EnR.cells).length = k * 7 := by rw [enr_len]; simp; omega
    conv => lhs; rw [← List.take_append_drop k l, List.flatMap_append]
    rw [List.take_left' hl]
  · rw [List.take_of_length_le (by rw [enr_len]; omega), List.take_of_length_le h]
theorem flat_dropX (l : List EnR) (k : Nat) : (l.flatMap EnR.cells).drop (k * 7) = (l.drop k).flatMap EnR.cells := by
  rcases Nat.lt_or_ge k l.length with h | h
  · have hl : ((l.take k).flatMap EnR.cells).length = k * 7 := by rw [enr_len]; simp; omega
    conv => lhs; rw [← List.take_append_drop k l, List.flatMap_append]
    rw [List.drop_left' hl]
  · rw [List.drop_of_length_le (by rw [enr_len]; omega), List.drop_of_length_le h]; rfl
end Go.Proofs.YtpbblaeamddbgaaGreat
namespace Go.Proofs.YtpbblaeamddbgaaGreat
open Go.RowKit

/-- The index between two conditions of a filter that is taken out. -/
def RemSt (w : World) (own : Nat → ITag) (eb : Nat) (pre : List Value) (ev : Value) (fl : List Int) (fa : Option Addr) (fcap : Nat) (K0 : List (Int × Int × List Cd)) (id n : Int) (l : List Cd) (bx : List Value) (j : Nat) (wr : World) : Prop :=
  ∃ own' Sh', IxSt wr own' eb pre ev fl fa fcap Sh' ((id, n, l.drop j) :: K0) ∧ (∀ b, b < w.heap.size + 1 → own' b = own b) ∧ Kp (fun b => b = eb ∨ own b ≠ .no) w wr ∧ Row wr w.heap.size 130 bx
/-- The entry is found. -/
structure RemMid (w : World) (own : Nat → ITag) (eb : Nat) (pre : List Value) (ev : Value) (fl : List Int) (fa : Option Addr) (fcap : Nat) (K0 : List (Int × Int × List Cd)) (id n : Int) (l : List Cd) (bx : List Value) (j i : Nat) (q g1 n1 cap1 : Nat) (oa : Option Addr) (ocap : Nat) (os : List (Int × Int)) (W1 : World) : Prop where
  c6 : W1.cell? ⟨g1, q * 7 + 6, none⟩ = some (.slice oa os.length ocap)
  qn : (q : Int) < (n1 : Int)
  bxr : Row W1 w.heap.size 130 bx
  o : OSl W1 193 2 oa os.length ocap (os.flatMap owCells)
  ob : blkOf oa ≠ some w.heap.size
  lo : os.length ≤ 1000
  fz : ∀ W2, Kp (fun b => blkOf oa = some b) W1 W2 → W2.cell? ⟨g1, q * 7 + 6, none⟩ = some (.slice oa os.length ocap) ∧ W2.frozen? ⟨g1, q * 7 + 6, none⟩ = false
  on : ∀ W2, Kp (fun b => blkOf oa = some b) W1 W2 → (W2.setCell ⟨g1, q * 7 + 6, none⟩ (.slice oa (dropId os id).length ocap)).cell? ⟨g1, q * 7 + 6, none⟩ = some (.slice oa (dropId os id).length ocap)
  st : ∀ W2, Kp (fun b => blkOf oa = some b) W1 W2 → OSl W2 193 2 oa (dropId os id).length ocap ((dropId os id).flatMap owCells) → dropId os id ≠ [] → RemSt w own eb pre ev fl fa fcap K0 id n l bx (j + 1) (W2.setCell ⟨g1, q * 7 + 6, none⟩ (.slice oa (dropId os id).length ocap))
  de : ∀ W2, Kp (fun b => blkOf oa = some b) W1 W2 → dropId os id = [] → ∃ k, n1 = k + 1 ∧ (W2.setCell ⟨g1, q * 7 + 6, none⟩ (.slice oa 0 ocap)).cell? ⟨eb, 5 + i, none⟩ = some (.slice (some ⟨g1, 0, none⟩) n1 cap1) ∧
    Calls Tryz.prog 104 #[.slice (some ⟨g1, 0, none⟩) n1 cap1, .int .i64 q, .int .i64 ((q : Int) + 1)] (W2.setCell ⟨g1, q * 7 + 6, none⟩ (.slice oa 0 ocap)) fun e w' => e = .returned (.slice (some ⟨g1, 0, none⟩) k cap1) ∧ (w'.cell? ⟨eb, 5 + i, none⟩ = some (.slice (some ⟨g1, 0, none⟩) n1 cap1) ∧ w'.frozen? ⟨eb, 5 + i, none⟩ = false) ∧ RemSt w own eb pre ev fl fa fcap K0 id n l bx (j + 1) (w'.setCell ⟨eb, 5 + i, none⟩ (.slice (some ⟨g1, 0, none⟩) k cap1))

theorem rem_done {w wr W2 w' : World} {own own' : Nat → ITag} {eb : Nat} {pre : List Value} {ev : Value} {fl : List Int} {fa : Option Addr} {fcap : Nat} {Sh : Nat → ShR} {K0 : List (Int × Int × List Cd)} {id n : Int} {l : List Cd} {bx : List Value} {j : Nat} (hlt : j < l.length) (S : IxSt wr own' eb pre ev fl fa fcap Sh ((id, n, l.drop j) :: K0)) (ho : ∀ b, b < w.heap.size + 1 → own' b = own b) (hK : Kp (fun b => b = eb ∨ own b ≠ .no) w wr) (hbox : Row wr w.heap.size 130 bx) (hno : own w.heap.size = .no) (hebl : eb < w.heap.size) (hid : ∀ k ∈ K0, k.1 ≠ id) (hn : l.Nodup) (i : Nat) (hi : i < 60) (hci : spotOf l[j] = i)
    (q : Nat) (hq : q < (Sh i).es.length) (hq1 : (Sh i).es[q].c = l[j]) (s' : ShR) (hKall : Kp (fun b => b = eb ∨ own' b = .shelf i ∨ own' b = .owners l[j]) wr w') (hO : OSl w' 178 7 s'.ao s'.es.length s'.cap (s'.es.flatMap EnR.cells)) (hao : s'.ao = (Sh i).ao) (hrise : Rise cmpCd (s'.es.map (·.c))) (hrow : Row w' eb 112 (engCells pre fa fl.length fcap (upd Sh i s') ev))
    (hs : ∀ e, e ∈ s'.es ↔ ((e ∈ (Sh i).es ∧ e.c ≠ l[j]) ∨ (e = ⟨l[j], dropId (Sh i).es[q].os id, (Sh i).es[q].ao, (Sh i).es[q].cap⟩ ∧ dropId (Sh i).es[q].os id ≠ []))) (hKs : Kp (fun b => blkOf (Sh i).ao = some b ∨ b = eb) W2 w') (hO2 : dropId (Sh i).es[q].os id ≠ [] → OSl W2 193 2 (Sh i).es[q].ao (dropId (Sh i).es[q].os id).length (Sh i).es[q].cap ((dropId (Sh i).es[q].os id).flatMap owCells)) :
    RemSt w own eb pre ev fl fa fcap K0 id n l bx (j + 1) w' := by
  have hdr : l.drop j = l[j] :: l.drop (j + 1) := List.drop_eq_getElem_cons hlt
  have hcl : l[j] ∉ l.drop (j + 1) := fun hm => by
    have := List.Nodup.sublist (List.drop_sublist j l) hn
    rw [hdr] at this
    exact (List.nodup_cons.1 this).1 hm
  have hown : ∀ g, blkOf (Sh i).es[q].ao = some g → own' g = .owners l[j] := fun g hg => by
    have h2 := S.at_.to i hi _ (List.getElem_mem hq) g hg
    rwa [hq1] at h2
  have hsh : ∀ g, blkOf (Sh i).ao = some g → own' g = .shelf i := fun g hg => S.at_.ts i hi g hg
  have hG := S.g
  rw [hdr] at hG
  obtain ⟨own2, I2, ho2⟩ := idx_turn S.at_ S.g.spot i hi l[j] hci eb S.eb hKall s' hO (fun g hg => Or.inl (hsh g (by rw [← hao]; exact hg))) (fun e he => by
    rcases (hs e).1 he with h | ⟨rfl, h⟩
    · exact Or.inl h
    · refine Or.inr ⟨rfl, (hO2 h).kp hKs (fun g hg h5 => ?_), fun g hg => ⟨Or.inl (hown g hg), fun h5 => ?_⟩⟩
      · have h6 := hown g hg
        rcases h5 with h5 | h5
        · rw [hsh g h5] at h6; cases h6
        · rw [h5, S.eb] at h6; cases h6
      · rw [hao] at h5
        have h6 := hown g hg
        rw [hsh g h5] at h6; cases h6)
  have hbno : own' w.heap.size = .no := by rw [ho _ (by omega)]; exact hno
  have hbe : w.heap.size ≠ eb := by omega
  have hwz := hK.size
  have hbl := hbox.lt
  refine ⟨own2, _, ⟨I2, rem_one hG hid hcl i hi hci q hq hq1 s' hrise ⟨l[j], dropId (Sh i).es[q].os id, (Sh i).es[q].ao, (Sh i).es[q].cap⟩ rfl rfl hs, hrow, by rw [ho2 eb S.row.lt]; exact S.eb⟩, fun b hb => ?_, hK.andThen hKall (fun b hb h => ?_), hKall.row hbox (fun h => ?_)⟩
  · rw [ho2 b (by omega)]; exact ho b hb
  · rcases h with h | h | h
    · exact Or.inl h
    · exact Or.inr (by rw [← ho b (by omega), h]; simp)
    · exact Or.inr (by rw [← ho b (by omega), h]; simp)
  · rcases h with h | h | h
    · exact hbe h
    · rw [hbno] at h; cases h
    · rw [hbno] at h; cases h

theorem rem_mid {w wr W1 : World} {own own' : Nat → ITag} {eb : Nat} {pre : List Value} {ev : Value} {fl : List Int} {fa : Option Addr} {fcap : Nat} {Sh : Nat → ShR} {K0 : List (Int × Int × List Cd)} {id n : Int} {l : List Cd} {bx : List Value} {j : Nat} (hlt : j < l.length) (S : IxSt wr own' eb pre ev fl fa fcap Sh ((id, n, l.drop j) :: K0)) (hp : pre.length = 4) (h8 : ∀ k ∈ K0, k.2.2.length ≤ 8) (hl8 : l.length ≤ 8) (ho : ∀ b, b < w.heap.size + 1 → own' b = own b) (hK : Kp (fun b => b = eb ∨ own b ≠ .no) w wr) (hbox : Row wr w.heap.size 130 bx) (hno : own w.heap.size = .no) (hebl : eb < w.heap.size) (hid : ∀ k ∈ K0, k.1 ≠ id) (hn : l.Nodup) (hK0 : K0.length < 100) (i : Nat) (hi : i < 60) (hci : spotOf l[j] = i)
    (q : Nat) (hq : q < (Sh i).es.length) (hq1 : (Sh i).es[q].c = l[j]) (hE : Ext wr W1) :
    ∃ g1, (Sh i).ao = some ⟨g1, 0, none⟩ ∧ RemMid w own eb pre ev fl fa fcap K0 id n l bx j i q g1 (Sh i).es.length (Sh i).cap (Sh i).es[q].ao (Sh i).es[q].cap (Sh i).es[q].os W1 := by
  have hO1 := (S.at_.sh i hi).ext hE
  obtain ⟨g1, hg1, hc6⟩ := hO1.at (enr_at (Sh i).es q hq).2.2.2.2.2.2
  have hown : ∀ g, blkOf (Sh i).es[q].ao = some g → own' g = .owners l[j] := fun g hg => by
    have h2 := S.at_.to i hi _ (List.getElem_mem hq) g hg
    rwa [hq1] at h2
  have hsg : own' g1 = .shelf i := S.at_.ts i hi g1 (by rw [hg1]; rfl)
  have hg1q : blkOf (Sh i).es[q].ao ≠ some g1 := fun h => by
    have h2 := hown g1 h
    rw [hsg] at h2; cases h2
  have hg1e : g1 ≠ eb := fun h => by
    rw [h, S.eb] at hsg; cases hsg
  have hebq : blkOf (Sh i).es[q].ao ≠ some eb := fun h => by
    have h2 := hown eb h
    rw [S.eb] at h2; cases h2
  have hbno : own' w.heap.size = .no := by rw [ho _ (by omega)]; exact hno
  have hes := es_len S.g (fun k hk => by
    rcases List.mem_cons.1 hk with h | h
    · subst h; simp; omega
    · exact h8 k h) i hi
  have hos := os_len S.g i hi _ (List.getElem_mem hq)
  simp only [List.length_cons] at hes hos
  have hbe : w.heap.size ≠ eb := by omega
  have hO2 : ∀ W2, Kp (fun b => blkOf (Sh i).es[q].ao = some b) W1 W2 → OSl W2 178 7 (Sh i).ao (Sh i).es.length (Sh i).cap ((Sh i).es.flatMap EnR.cells) := fun W2 hK2 => hO1.kp hK2 (fun g hg h => by rw [hg1] at hg; cases hg; exact hg1q h)
  have hO3 : ∀ W2, Kp (fun b => blkOf (Sh i).es[q].ao = some b) W1 W2 → OSl (W2.setCell ⟨g1, q * 7 + 6, none⟩ (.slice (Sh i).es[q].ao (dropId (Sh i).es[q].os id).length (Sh i).es[q].cap)) 178 7 (Sh i).ao (Sh i).es.length (Sh i).cap (((Sh i).es.set q ⟨(Sh i).es[q].c, dropId (Sh i).es[q].os id, (Sh i).es[q].ao, (Sh i).es[q].cap⟩).flatMap EnR.cells) := fun W2 hK2 => by
    rw [enr_set _ q hq]
    exact (hO2 W2 hK2).set g1 hg1 (by omega) _ _
  have hks : ∀ (W2 : World) v, Kp (fun b => b = g1) W2 (W2.setCell ⟨g1, q * 7 + 6, none⟩ v) := fun W2 v => (Kp.refl (fun b => b = g1) W2).setCell (fun _ => rfl) _
  have hK3 : ∀ W2 v, Kp (fun b => blkOf (Sh i).es[q].ao = some b) W1 W2 → Kp (fun b => b = eb ∨ own' b = .shelf i ∨ own' b = .owners l[j]) wr (W2.setCell ⟨g1, q * 7 + 6, none⟩ v) := fun W2 v hK2 =>
    (((hE.kp _).trans (hK2.mono (fun b _ h => Or.inr (Or.inr (hown b h))))).trans ((hks W2 v).mono (fun b _ h => Or.inr (Or.inl (by rw [h]; exact hsg)))))
  have hR3 : ∀ W2 v, Kp (fun b => blkOf (Sh i).es[q].ao = some b) W1 W2 → Row (W2.setCell ⟨g1, q * 7 + 6, none⟩ v) eb 112 (engCells pre fa fl.length fcap Sh ev) := fun W2 v hK2 => (hks W2 v).row (hK2.row (S.row.ext hE) hebq) (fun h => hg1e h.symm)
  refine ⟨g1, hg1, ⟨hc6, by omega, hbox.ext hE, (S.at_.ow i hi _ (List.getElem_mem hq)).ext hE, fun h => ?_, by omega, fun W2 hK2 => ?_, fun W2 hK2 => ?_, fun W2 hK2 hOw hne => ?_, fun W2 hK2 hnil => ?_⟩⟩
  · rw [hown _ h] at hbno; cases hbno
  · obtain ⟨g', h2, h3⟩ := (hO2 W2 hK2).at (enr_at (Sh i).es q hq).2.2.2.2.2.2
    rw [hg1] at h2
    cases h2
    refine ⟨h3, ?_⟩
    obtain ⟨g', L, h2, h4, _⟩ := row_of_osl (hO2 W2 hK2) (by omega)
    rw [hg1] at h2
    cases h2
    exact h4.frozen _
  · have hx := (enr_at ((Sh i).es.set q ⟨(Sh i).es[q].c, dropId (Sh i).es[q].os id, (Sh i).es[q].ao, (Sh i).es[q].cap⟩) q (by simpa using hq)).2.2.2.2.2.2
    rw [List.getElem_set_self] at hx
    obtain ⟨g', h2, h3⟩ := (hO3 W2 hK2).at hx
    rw [hg1] at h2
    cases h2
    exact h3
  · refine rem_done hlt S ho hK hbox hno hebl hid hn i hi hci q hq hq1 ⟨(Sh i).es.set q ⟨(Sh i).es[q].c, dropId (Sh i).es[q].os id, (Sh i).es[q].ao, (Sh i).es[q].cap⟩, (Sh i).ao, (Sh i).cap⟩ (hK3 W2 _ hK2) (by simpa using hO3 W2 hK2) rfl ?_ ?_ (fun e => ?_) ((hks W2 _).mono (fun b _ h => Or.inl (by rw [h, hg1]; rfl))) (fun _ => hOw)
    · show Rise cmpCd (((Sh i).es.set q ⟨(Sh i).es[q].c, dropId (Sh i).es[q].os id, (Sh i).es[q].ao, (Sh i).es[q].cap⟩).map (·.c))
      rw [map_set_c hq (x := ⟨(Sh i).es[q].c, dropId (Sh i).es[q].os id, (Sh i).es[q].ao, (Sh i).es[q].cap⟩) rfl]; exact S.g.rise i hi
    · have he : engCells pre fa fl.length fcap (upd Sh i ⟨(Sh i).es.set q ⟨(Sh i).es[q].c, dropId (Sh i).es[q].os id, (Sh i).es[q].ao, (Sh i).es[q].cap⟩, (Sh i).ao, (Sh i).cap⟩) ev = engCells pre fa fl.length fcap Sh ev := by
        unfold engCells
        congr 3
        apply List.map_congr_left
        intro k _
        unfold upd
        split
        · rename_i h; rw [h]; simp [shV]
        · rfl
      rw [he]; exact hR3 W2 _ hK2
    · rw [mem_put (S.g.rise i hi) q hq, hq1]
      simp [hne]
  · obtain ⟨k, hk⟩ : ∃ k, (Sh i).es.length = k + 1 := ⟨(Sh i).es.length - 1, by omega⟩
    have hz : (dropId (Sh i).es[q].os id).length = 0 := by rw [hnil]; rfl
    have hO3' := hO3 W2 hK2
    rw [hz] at hO3'
    obtain ⟨w3, hw3⟩ : ∃ w3, w3 = W2.setCell ⟨g1, q * 7 + 6, none⟩ (.slice (Sh i).es[q].ao 0 (Sh i).es[q].cap) := ⟨_, rfl⟩
    have hKw := hK3 W2 (.slice (Sh i).es[q].ao 0 (Sh i).es[q].cap) hK2
    have hRw := hR3 W2 (.slice (Sh i).es[q].ao 0 (Sh i).es[q].cap) hK2
    have hks3 := hks W2 (.slice (Sh i).es[q].ao 0 (Sh i).es[q].cap)
    rw [← hw3] at hO3' hKw hRw hks3 ⊢
    have hec := hRw.at (eng_sh pre hp fa fl.length fcap Sh ev i hi)
    rw [shV, hg1] at hec
    obtain ⟨g', L, h2, h4, h5, h6, h7, h9⟩ := row_of_osl hO3' (by omega)
    rw [hg1] at h2
    cases h2
    refine ⟨k, hk, hec, ?_⟩
    rw [hk] at h9 h5
    have hdel := delete_anyX g1 k (Sh i).cap q L _ w3 h4 h7 h6 h5 h9 (by omega) (by omega) (enr_one _)
    rw [← hk] at hdel
    refine hdel.mono ?_
    rintro e w4 ⟨rfl, hO4, hK4⟩
    have hR4 := hK4.row hRw (fun h => hg1e h.symm)
    have hec4 := hR4.at (eng_sh pre hp fa fl.length fcap Sh ev i hi)
    rw [shV, hg1] at hec4
    refine ⟨rfl, ⟨hec4, hR4.frozen _⟩, ?_⟩
    have hks4 : Kp (fun b => b = eb) w4 (w4.setCell ⟨eb, 5 + i, none⟩ (.slice (some ⟨g1, 0, none⟩) k (Sh i).cap)) := (Kp.refl (fun b => b = eb) w4).setCell (fun _ => rfl) _
    have hsl : ((Sh i).es.take q ++ (Sh i).es.drop (q + 1)).length = k := by simp; omega
    have hxs : (((Sh i).es.set q ⟨(Sh i).es[q].c, dropId (Sh i).es[q].os id, (Sh i).es[q].ao, (Sh i).es[q].cap⟩).flatMap EnR.cells).take (q * 7) ++ (((Sh i).es.set q ⟨(Sh i).es[q].c, dropId (Sh i).es[q].os id, (Sh i).es[q].ao, (Sh i).es[q].cap⟩).flatMap EnR.cells).drop ((q + 1) * 7) = ((Sh i).es.take q ++ (Sh i).es.drop (q + 1)).flatMap EnR.cells := by
      rw [flat_takeX, flat_dropX, ← List.flatMap_append]
      congr 1
      rw [List.take_set_of_le (Nat.le_refl q), List.drop_set_of_lt (by omega)]
    rw [hxs] at hO4
    have hsv := eng_setS pre hp fa fl.length fcap Sh ev i hi ⟨(Sh i).es.take q ++ (Sh i).es.drop (q + 1), some ⟨g1, 0, none⟩, (Sh i).cap⟩
    rw [shV, hsl] at hsv
    refine rem_done (W2 := W2) hlt S ho hK hbox hno hebl hid hn i hi hci q hq hq1 ⟨(Sh i).es.take q ++ (Sh i).es.drop (q + 1), some ⟨g1, 0, none⟩, (Sh i).cap⟩ ((hKw.trans (hK4.mono (fun b _ h => Or.inr (Or.inl (by rw [h]; exact hsg))))).trans (hks4.mono (fun b _ h => Or.inl h))) (by rw [hsl]; exact hO4.kp hks4 (fun g hg e => by cases hg; exact hg1e e)) hg1.symm ?_ ?_ (fun e => ?_) (((hks3.mono (fun b _ h => Or.inl (by rw [h, hg1]; rfl))).trans (hK4.mono (fun b _ h => Or.inl (by rw [h, hg1]; rfl)))).trans (hks4.mono (fun b _ h => Or.inr h))) (fun h => absurd hnil h)
    · rw [List.map_append, List.map_take, List.map_drop]
      refine List.Pairwise.sublist ?_ (S.g.rise i hi)
      conv => rhs; rw [← List.take_append_drop q ((Sh i).es.map (·.c))]
      exact List.Sublist.append (List.Sublist.refl _) (by rw [← List.drop_drop]; exact List.drop_sublist _ _)
    · rw [← hsv]; exact hR4.set _ _
    · rw [mem_del (S.g.rise i hi) q hq, hq1]
      simp [hnil]
end Go.Proofs.YtpbblaeamddbgaaGreat
namespace Go.Proofs.YtpbblaeamddbgaaGreat
open Go.RowKit

section
variable {w : World} {own : Nat → ITag} {eb : Nat} {pre : List Value} {ev : Value} {fl : List Int} {fa : Option Addr} {fcap : Nat} {Sh : Nat → ShR} {K0 : List (Int × Int × List Cd)}
set_option maxHeartbeats 3200000 in
set_option maxRecDepth 100000 in
theorem remove_any (id n : Int) (l : List Cd) (S : IxSt w own eb pre ev fl fa fcap Sh ((id, n, l) :: K0)) (hp : pre.length = 4) (h8 : ∀ k ∈ K0, k.2.2.length ≤ 8) (hK0 : K0.length < 100) (hfl : fl.length ≤ 1000) (hid : ∀ k ∈ K0, k.1 ≠ id) (ao : Option Addr) (cap : Nat) (hl : l.length ≤ 8) (hn : l.Nodup) (hc : Cxs w ao l) (hao : ∀ g, blkOf ao = some g → own g = .no ∧ g ≠ eb) (hk : ∀ c ∈ l, 0 ≤ c.attr ∧ c.attr < 6 ∧ 0 ≤ c.kind ∧ c.kind < 10) :
    Calls Tryz.prog 53 #[.pointer (some ⟨eb, 4, none⟩), .agg #[.int .i64 id, .slice ao l.length cap]] w fun e w' => e = .returned (.tuple #[]) ∧ ∃ own' fa' fcap' Sh', IxSt w' own' eb pre ev (dropI fl id) fa' fcap' Sh' K0 ∧ (∀ b, b < w.heap.size → own' b = own b) ∧ Kp (fun b => b = eb ∨ own b ≠ .no) w w' := by
  generalize hdl : dropI fl id = dl
  obtain ⟨wa, hwa⟩ : ∃ wa, wa = w.alloc (.cells #[.int .i64 id, .slice ao l.length cap] 130) := ⟨_, rfl⟩
  have hEa : Ext w wa := by rw [hwa]; exact (Ext.refl _).alloc _
  have hBx : Row wa w.heap.size 130 [.int .i64 id, .slice ao l.length cap] := by rw [hwa]; exact row_alloc _ _ _ _ _ rfl rfl
  have hsz : wa.heap.size = w.heap.size + 1 := by rw [hwa]; simp
  have x0 := hBx.at (j := 0) rfl
  have hno : own w.heap.size = .no := S.at_.tn _ (Nat.le_refl _)
  have hebl := S.row.lt
  have hSa := S.ext hEa
  have e4 := hSa.row.at (eng_free pre hp fa fl.length fcap Sh ev)
  have hne : blkOf fa ≠ some eb := fun h => by
    have h1 := S.at_.tf eb h
    rw [S.eb] at h1; cases h1
  have hnb : blkOf fa ≠ some w.heap.size := fun h => by
    have h1 := S.at_.tf _ h
    rw [hno] at h1; cases h1
  have HDF : Hid _ := delfI_any fa fcap fl w.heap.size id wa hSa.at_.free x0 hnb hfl
  rw [hdl] at HDF
  have HR1 : Hid (∀ W, Kp (fun b => blkOf fa = some b) wa W → W.cell? ⟨eb, 4, none⟩ = some (.slice fa fl.length fcap) ∧ W.frozen? ⟨eb, 4, none⟩ = false) := fun W k => by
    have := k.row hSa.row hne
    exact ⟨this.at (eng_free pre hp fa fl.length fcap Sh ev), this.frozen 4⟩
  have HS1 : Hid (∀ W, Kp (fun b => blkOf fa = some b) wa W → OSl W 3 1 fa dl.length fcap (dl.map (Value.int .i64)) → RemSt w own eb pre ev dl fa fcap K0 id n l [.int .i64 id, .slice ao l.length cap] 0 (W.setCell ⟨eb, 4, none⟩ (.slice fa dl.length fcap))) := fun W hK hO => by
    obtain ⟨own1, h1, h2, h3⟩ := free_turn hSa hp dl fa fcap hK hO (fun g hg => Or.inl hg)
    refine ⟨own1, Sh, h1, fun b hb => h2 b (by omega), (hEa.kp _).trans h3, ?_⟩
    exact (hK.row hBx (fun h => hnb h)).setOther (fun e => by have : eb = w.heap.size := e; omega) _
  have e4' : (w.alloc (.cells #[.int .i64 id, .slice ao l.length cap] 130)).cell? ⟨eb, 4, none⟩ = some (.slice fa fl.length fcap) := by rw [← hwa]; exact e4
  clear hSa S hne hnb x0
  go_enter Tryz.func53, Tryz.ntmps53
  go_wp2_with fail
  rw [← hwa]
  refine Calls.mono HDF.out ?_
  rintro e w1 ⟨rfl, hO1, hK1⟩
  have cI := (HR1.out w1 hK1).1
  have fI := (HR1.out w1 hK1).2
  have HSt : Hid _ := HS1.out w1 hK1 hO1
  have hbx0 : Row (w1.setCell ⟨eb, 4, none⟩ (.slice fa dl.length fcap)) w.heap.size 130 [.int .i64 id, .slice ao l.length cap] := by
    obtain ⟨_, _, _, _, _, h⟩ := HSt.out
    exact h
  have x1 := hbx0.at (j := 1) rfl
  clear HDF HR1 HS1 hO1 hK1 e4 e4' hBx hbx0
  go_wp2_with fail
  generalize w1.setCell ⟨eb, 4, none⟩ (.slice fa dl.length fcap) = wb at *
  go_loopw [22] (fun vi wr => ∃ (j : Nat), j ≤ l.length ∧ vi = .int .i64 j ∧ RemSt w own eb pre ev dl fa fcap K0 id n l [.int .i64 id, .slice ao l.length cap] j wr) (fun vi _ => l.length - (intOf vi).toNat)
  case atStart => exact ⟨0, Nat.zero_le _, rfl, HSt.out⟩
  case round =>
      obtain ⟨j, hj, rfl, own', Sh', S', ho', hK, hbox⟩ := hrel
      by_cases hlt : j < l.length
      · obtain ⟨b, o, rfl, hcb⟩ := hc (by omega)
        obtain ⟨d0, d1, d2, d3, d4, d5⟩ := (Cds.kp hcb hK (fun h => by
          have := hao b rfl
          rcases h with h | h
          · exact this.2 h
          · exact h this.1)) j hlt
        obtain ⟨k1, k2, k3, k4⟩ := hk _ (List.getElem_mem hlt)
        have hji : (j : Int) < (l.length : Int) := by omega
        have hsp : spotOf l[j] < 60 := by unfold spotOf; omega
        have hpp : 5 + l[j].attr.toNat * 10 + l[j].kind.toNat = 5 + spotOf l[j] := by unfold spotOf; omega
        have hes := es_len S'.g (fun k hk => by
          rcases List.mem_cons.1 hk with h | h
          · subst h; simp; omega
          · exact h8 k h) _ hsp
        simp only [List.length_cons] at hes
        obtain ⟨q, hq⟩ := ex_spot cmpCd_ord (S'.g.rise _ hsp) l[j]
        have hqs : q ≤ (Sh' (spotOf l[j])).es.length := by simpa using hq.1
        have hqQ : ∀ h (hh : h < (Sh' (spotOf l[j])).es.length), cmpCd (Sh' (spotOf l[j])).es[h].c l[j] < 0 ↔ h < q := fun h hh => by
          have := hq.2 h (by simpa using hh)
          simpa using this
        have hEng := (S'.row.at (eng_sh pre hp fa dl.length fcap Sh' ev _ hsp))
        rw [← hpp] at hEng
        have hEngF := S'.row.frozen (5 + l[j].attr.toNat * 10 + l[j].kind.toNat)
        rw [shV] at hEng
        have hfd : l[j] ∈ (Sh' (spotOf l[j])).es.map (·.c) := by
          obtain ⟨_, e, he, hec⟩ := S'.g.al _ List.mem_cons_self l[j] (by rw [List.drop_eq_getElem_cons hlt]; exact List.mem_cons_self)
          exact List.mem_map.2 ⟨e, he, hec⟩
        have HSF := (spot_found cmpCd_ord (S'.g.rise _ hsp) hq).2 hfd
        simp only [List.length_map, List.getElem_map] at HSF
        obtain ⟨hqq, hqe⟩ := HSF
        have HMf : Hid (∀ W1, Ext wr W1 → ∃ g1, (Sh' (spotOf l[j])).ao = some ⟨g1, 0, none⟩ ∧ ∃ oa ocap os, RemMid w own eb pre ev dl fa fcap K0 id n l [.int .i64 id, .slice (some ⟨b, o, none⟩) l.length cap] j (spotOf l[j]) q g1 (Sh' (spotOf l[j])).es.length (Sh' (spotOf l[j])).cap oa ocap os W1) := fun W1 hE => by
          obtain ⟨g1, h1, h2⟩ := rem_mid hlt S' hp h8 hl ho' hK hbox hno hebl hid hn hK0 _ hsp rfl q hqq hqe hE
          exact ⟨g1, h1, _, _, _, h2⟩
        have HOS : Hid (OSl wr 178 7 (Sh' (spotOf l[j])).ao (Sh' (spotOf l[j])).es.length (Sh' (spotOf l[j])).cap ((Sh' (spotOf l[j])).es.flatMap EnR.cells)) := S'.at_.sh _ hsp
        have HPP : Hid (5 + l[j].attr.toNat * 10 + l[j].kind.toNat = 5 + spotOf l[j]) := hpp
        clear S' ho' hK hbox HSt x1 cI fI hcb hc hwa hEa hsz hfd hpp
        generalize Sh' (spotOf l[j]) = sh at *
        obtain ⟨es, aoS, capS⟩ := sh
        dsimp only at *
        generalize hcl : l[j] = c at *
        go_wp2_with fail
        go_quiet (fail)
        have hE0 : Ext wr ((wr.alloc (.cells #[.int .i64 c.attr, .int .i64 c.kind, .int .i64 c.a.n, .string c.a.s, .int .i64 c.b.n, .string c.b.s] 80)).drewN nq) := ((Ext.refl wr).alloc _).trans (drewN_ext _ _)
        have hBc : Row ((wr.alloc (.cells #[.int .i64 c.attr, .int .i64 c.kind, .int .i64 c.a.n, .string c.a.s, .int .i64 c.b.n, .string c.b.s] 80)).drewN nq) wr.heap.size 80 c.cells := (show Row (wr.alloc (.cells #[.int .i64 c.attr, .int .i64 c.kind, .int .i64 c.a.n, .string c.a.s, .int .i64 c.b.n, .string c.b.s] 80)) wr.heap.size 80 c.cells from row_alloc _ _ _ _ _ rfl rfl)
        generalize hw0 : (wr.alloc (.cells #[.int .i64 c.attr, .int .i64 c.kind, .int .i64 c.a.n, .string c.a.s, .int .i64 c.b.n, .string c.b.s] 80)).drewN nq = w0 at *
        generalize 5 + c.attr.toNat * 10 + c.kind.toNat = p at *
        clear hw0 d0 d1 d2 d3 d4 d5
        have hEng0 := hE0.cell hEng
        have f0 := hBc.at (j := 0) rfl
        have f1 := hBc.at (j := 1) rfl
        have f2 := hBc.at (j := 2) rfl
        have f3 := hBc.at (j := 3) rfl
        have f4 := hBc.at (j := 4) rfl
        have f5 := hBc.at (j := 5) rfl
        clear hEng hEngF hcl
        have HB : Hid (∀ W, Ext w0 W → Calls Tryz.prog 98 #[.slice aoS es.length capS, .agg #[.int .i64 c.attr, .int .i64 c.kind, .int .i64 c.a.n, .string c.a.s, .int .i64 c.b.n, .string c.b.s]] W fun e w' => e = .returned (.tuple #[.int .i64 q, .bool true]) ∧ Ext W w') := fun W hE => xfind_any aoS capS es c q true W (HOS.out.ext (hE0.trans hE)) (by omega) hqs hqQ (fun _ => by rw [hqe, cmpCd_ord.refl]; rfl) (fun h => absurd hqq h)
        have hnl : es.length ≤ 1000 := by omega
        clear HOS hqQ hq hqe hes
        generalize es.length = en at *
        go_wp2_with fail
        go_region_held3 (fun w' => w'.cell? ⟨eb, p, none⟩ = some (.slice aoS en capS) ∧ w'.cell? ⟨wr.heap.size, 0, none⟩ = some (.int .i64 c.attr) ∧ w'.cell? ⟨wr.heap.size, 1, none⟩ = some (.int .i64 c.kind) ∧ w'.cell? ⟨wr.heap.size, 2, none⟩ = some (.int .i64 c.a.n) ∧ w'.cell? ⟨wr.heap.size, 3, none⟩ = some (.string c.a.s) ∧ w'.cell? ⟨wr.heap.size, 4, none⟩ = some (.int .i64 c.b.n) ∧ w'.cell? ⟨wr.heap.size, 5, none⟩ = some (.string c.b.s))
          (first | go_keep | (refine ⟨?_, ?_, ?_, ?_, ?_, ?_, ?_⟩ <;> exact hbb.cell (by first | assumption | simp [*])))
          (first | (go_at_call 98; refine Calls.mono (HB.out _ (by exact (Ext.refl w0).drew)) ?_; rintro e w' ⟨rfl, hbb⟩))
        rename_i hheld
        have hE1 : Ext wr w' := hE0.trans (((Ext.refl w0).drew).trans hbb)
        have eW := (((Ext.refl w0).drew).trans hbb).cell hEng0
        obtain ⟨g1, rfl, oa, ocap, os, M⟩ := HMf.out w' hE1
        clear hheld HB hbb HMf hEng0 f0 f1 f2 f3 f4 f5 hBc hE0 hE1
        generalize en = n1 at *
        generalize capS = cap1 at *
        generalize w' = W1 at *
        have c6 := M.c6
        have hqn := M.qn
        have b0 := M.bxr.at (j := 0) rfl
        have HD : Hid _ := delf_any oa ocap os w.heap.size id W1 M.o b0 M.ob M.lo
        have HM : Hid (RemMid w own eb pre ev dl fa fcap K0 id n l [.int .i64 id, .slice (some ⟨b, o, none⟩) l.length cap] j (spotOf c) q g1 n1 cap1 oa ocap os W1) := M
        have hol := M.lo
        clear M
        go_wp2_with fail
        refine Calls.mono HD.out ?_
        rintro e W2 ⟨rfl, hO2, hK2⟩
        have z1 := (HM.out.fz W2 hK2).1
        have z2 := (HM.out.fz W2 hK2).2
        have z3 := HM.out.on W2 hK2
        by_cases hnil : dropId os id = []
        · obtain ⟨k, hnk, hec, hcall⟩ := HM.out.de W2 hK2 hnil
          have hdz : (dropId os id).length = 0 := by rw [hnil]; rfl
          have hqw : IntKind.i64.wrap ((q : Int) + 1) = (q : Int) + 1 := by rw [IntKind.wrap_i64]; omega
          rw [← HPP.out] at hec hcall
          rw [hdz] at z3 ⊢
          have HC : Hid _ := hcall
          have HK : Hid (n1 = k + 1) := hnk
          clear hcall hnk HD hO2 hnil hdz HM hK2
          go_wp2_with fail
          refine Calls.mono HC.out ?_
          rintro e w4 ⟨rfl, ⟨y1, y2⟩, hst⟩
          have HP : Hid _ := hst
          clear HC hst
          go_wp2
          go_roundw
          case rel => exact ⟨j + 1, by omega, by go_num, HP.out⟩
          case measure => simp [intOf]; omega
        · have hdz : (((dropId os id).length : Int) == 0) = false := by simpa using hnil
          have HP : Hid _ := HM.out.st W2 hK2 hO2 hnil
          clear HD hO2 hnil HM hK2
          go_wp2
          go_roundw
          case rel => exact ⟨j + 1, by omega, by go_num, HP.out⟩
          case measure => simp [intOf]; omega
      · have hje : j = l.length := by omega
        rw [hje, List.drop_length] at S'
        go_wp2
        go_end0
        exact ⟨rfl, own', fa, fcap, Sh', ⟨S'.at_, rem_zero S'.g, S'.row, S'.eb⟩, fun b hb => ho' b (by omega), hK⟩
end
end Go.Proofs.YtpbblaeamddbgaaGreat
