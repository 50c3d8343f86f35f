import Derived.Deep.RegionWith
import Derived.Test.YtpbblaeamddbgaaGreatGT
import Derived.Test.YtpbblaeamddbgaaGreatGN
import Derived.Test.YtpbblaeamddbgaaGreatGF
import Derived.Test.YtpbblaeamddbgaaGreatGE
namespace Go.Proofs.YtpbblaeamddbgaaGreat
open Go.RowKit

theorem may_small {sch : List Int} {c : Cd} (h : mayB sch c = true) : c.a.s.size ≤ 281474976710656 ∧ c.b.s.size ≤ 281474976710656 := by
  have em : ∀ s : ByteArray, s.toList.isEmpty = true → s.size ≤ 20 := fun s hs => by
    have : s.toList = [] := by simpa using hs
    rw [ByteArray.toList_eq] at this
    have h0 : s.data.toList.length = s.size := rfl
    rw [this] at h0
    simp at h0
    omega
  have hf : ∀ k v, fitsB k v = true → v.s.size ≤ 20 := fun k v hv => by
    unfold fitsB at hv
    split at hv
    · exact em _ hv
    · simp only [Bool.and_eq_true, decide_eq_true_eq] at hv; omega
  have hn : ∀ v, noneB v = true → v.s.size ≤ 20 := fun v hv => by
    unfold noneB at hv
    simp only [Bool.and_eq_true] at hv
    exact em _ hv.2
  simp only [mayB, mayK, Bool.and_eq_true] at h
  obtain ⟨_, _, h1, h2⟩ := h
  have e1 : c.a.s.size ≤ 20 := by
    unfold firstB at h1
    split at h1
    · exact hn _ h1
    · exact hf _ _ h1
  have e2 : c.b.s.size ≤ 20 := by
    unfold secondB at h2
    split at h2
    · exact hf _ _ h2
    · exact hn _ h2
  omega
section
variable {w : World} {own : Nat → ITag} {eb : Nat} {pre : List Value} {ev : Value} {fl : List Int} {fa : Option Addr} {fcap : Nat} {Sh : Nat → ShR} {K0 : List (Int × Int × List Cd)}
theorem add_both (S : IxSt w own eb pre ev fl fa fcap Sh K0) (hp : pre.length = 4) (h8 : ∀ k ∈ K0, k.2.2.length ≤ 8) (hK0 : K0.length < 100) (hfl : fl.length ≤ 1000) (id : Int) (hid : ∀ k ∈ K0, k.1 ≠ id) (l : List Cd) (ao : Option Addr) (cap : Nat) (hl : l.length ≤ 8) (hn : l.Nodup) (hc : Cxs w ao l) (hao : ∀ g, blkOf ao = some g → own g = .no ∧ g ≠ eb) (hk : ∀ c ∈ l, 0 ≤ c.attr ∧ c.attr < 6 ∧ 0 ≤ c.kind ∧ c.kind < 10) :
    Calls Tryz.prog 51 #[.pointer (some ⟨eb, 4, none⟩), .agg #[.int .i64 id, .slice ao l.length cap]] w fun e w' => e = .returned (.tuple #[]) ∧ ∃ own' fl' fa' fcap' Sh', IxSt w' own' eb pre ev fl' fa' fcap' Sh' (K0 ++ [(id, (l.length : Int), l)]) ∧ ((l ≠ [] ∧ fl' = fl) ∨ (l = [] ∧ fl' = fl ++ [id])) ∧ (∀ b, b < w.heap.size → own' b = own b) ∧ Kp (fun b => b = eb ∨ own b ≠ .no) w w' := by
  by_cases h0 : l = []
  · subst h0
    refine (add_none S hp hfl id ao cap).mono ?_
    rintro e w' ⟨rfl, own', fa', fcap', Sh', h1, h2, h3⟩
    exact ⟨rfl, own', _, fa', fcap', Sh', h1, Or.inr ⟨rfl, rfl⟩, h2, h3⟩
  · refine (add_some S hp h8 hK0 id hid l ao cap hl hn hc hao hk (fun e => h0 (List.eq_nil_of_length_eq_zero e))).mono ?_
    rintro e w' ⟨rfl, own', fa', fcap', Sh', h1, h2, h3⟩
    exact ⟨rfl, own', _, fa', fcap', Sh', h1, Or.inl ⟨h0, rfl⟩, h2, h3⟩
end
section
variable {w : World} {eb : Nat} {tg : Nat → Nat} {own : Nat → ITag} {sch : List Int} {r : EngR}
theorem EngS.no_new (S : EngS w eb tg own sch r) {b : Nat} (hb : w.heap.size ≤ b) : own b = .no := by
  apply Classical.byContradiction
  intro h
  have := S.lt b (by rw [S.tx b h]; decide)
  omega
theorem EngS.no_fa (S : EngS w eb tg own sch r) {b : Nat} (hb : blkOf r.fa = some b) : own b = .no ∧ b ≠ eb := by
  have h2 := S.tf b hb
  refine ⟨?_, fun e => ?_⟩
  · apply Classical.byContradiction
    intro h
    have := S.tx b h
    omega
  · have := S.te; rw [← e] at this; omega
/-- What a filter that comes in leaves. -/
theorem EngS.subbed (S : EngS w eb tg own sch r) (id : Int) (m : List Cd) (q : Nat) (hq : q ≤ r.es.length) (hlt : ∀ j (hj : j < r.es.length), j < q → r.es[j].id < id) (hgt : ∀ j (hj : j < r.es.length), q ≤ j → id < r.es[j].id) (hwf : wfI id) (hm : Rise cmpCd m ∧ m.length ≤ 8 ∧ ∀ c ∈ m, mayB sch c = true) (h100 : r.es.length < 100)
    {w4 wA W : World} {own' : Nat → ITag} {fa : Option Addr} {fcap cb ccap : Nat} {fl : List Int} {xa : Option Addr} {xcap : Nat} {Sh : Nat → ShR} {lb : Nat}
    (hK4 : Kp (fun b => b = eb ∨ blkOf r.fa = some b) w w4) (hcd : Cds w4 cb 0 m) (hcb : w.heap.size ≤ cb) (hcl : cb < w4.heap.size) (hcf : blkOf fa ≠ some cb)
    (hO4 : OSl w4 130 2 fa (r.es.length + 1) fcap ((r.es.flatMap Ent.cells).take (q * 2) ++ [.int .i64 id, .slice (some ⟨cb, 0, none⟩) m.length ccap] ++ (r.es.flatMap Ent.cells).drop (q * 2)))
    (hat : ∀ g, blkOf fa = some g → blkOf r.fa = some g ∨ w.heap.size ≤ g) (hKA : Kp (fun b => b = eb ∨ own b ≠ .no) w4 wA) (ho : ∀ b, b < w4.heap.size → own' b = own b) (hKW : Kp (fun b => b = eb) wA W)
    (hI : IxSt W own' eb [.slice (some ⟨r.sb, 0, none⟩) sch.length r.sc, .slice fa (r.es.length + 1) fcap, .slice (some ⟨r.ob, 0, none⟩) r.order.length r.oc, .pointer (some ⟨lb, 0, none⟩)] (.int .i64 r.n) fl xa xcap Sh (ksK r.ks ++ [(id, (m.length : Int), m)]))
    (hfl : (m ≠ [] ∧ fl = r.fl) ∨ (m = [] ∧ fl = r.fl ++ [id])) (hl : Row W lb 125 (lateCells 0 none)) (hlb : wA.heap.size ≤ lb) (hlo : own' lb = .no) :
    ∃ tg' r', EngS W eb tg' own' sch r' ∧ r'.es = r.es.take q ++ ⟨id, m, some ⟨cb, 0, none⟩, ccap⟩ :: r.es.drop q ∧ r'.n = r.n ∧ (∀ b, tg' b ≠ 0 → tg b ≠ 0 ∨ (w.heap.size ≤ b ∧ b < W.heap.size)) ∧ Kp (fun b => tg b ≠ 0) w W := by
  have hel := S.lt eb (by rw [S.te]; decide)
  have z4 := hK4.size
  have zA := hKA.size
  have zW := hKW.size
  obtain ⟨x, hx⟩ : ∃ x : Ent, x = ⟨id, m, some ⟨cb, 0, none⟩, ccap⟩ := ⟨_, rfl⟩
  rw [← hx]
  have hfno : ∀ g, blkOf fa = some g → own g = .no ∧ g ≠ eb := fun g hg => by
    rcases hat g hg with h | h
    · exact S.no_fa h
    · exact ⟨S.no_new h, by omega⟩
  have hK : Kp (fun b => tg b = 1 ∨ tg b = 2 ∨ tg b = 3 ∨ tg b = 5) w W := by
    have k1 : Kp (fun b => tg b = 1 ∨ tg b = 2 ∨ tg b = 3 ∨ tg b = 5) w w4 := hK4.mono (fun b _ h => by
      rcases h with h | h
      · rw [h]; exact Or.inl S.te
      · exact Or.inr (Or.inl (S.tf b h)))
    refine (k1.trans (hKA.mono (fun b _ h => ?_))).trans (hKW.mono (fun b _ h => ?_))
    · rcases h with h | h
      · rw [h]; exact Or.inl S.te
      · exact Or.inr (Or.inr (Or.inr (S.tx b h)))
    · rw [h]; exact Or.inl S.te
  have hMW : Kp (fun b => b = eb ∨ own b ≠ .no) w4 W := hKA.trans (hKW.mono (fun _ _ h => Or.inl h))
  have el : (r.es.take q ++ x :: r.es.drop q).length = r.es.length + 1 := by simp; omega
  have hmem : ∀ e, e ∈ r.es.take q ++ x :: r.es.drop q ↔ e = x ∨ e ∈ r.es := fun e => by
    have hs : e ∈ r.es ↔ e ∈ r.es.take q ∨ e ∈ r.es.drop q := by rw [← List.mem_append, List.take_append_drop]
    rw [List.mem_append, List.mem_cons, hs]
    constructor
    · rintro (h | h | h)
      · exact Or.inr (Or.inl h)
      · exact Or.inl h
      · exact Or.inr (Or.inr h)
    · rintro (h | h | h)
      · exact Or.inr (Or.inl h)
      · exact Or.inl h
      · exact Or.inr (Or.inr h)
  have hne : ∀ e ∈ r.es, e.id ≠ id := fun e he h => by
    obtain ⟨j, hj, rfl⟩ := List.getElem_of_mem he
    rcases Nat.lt_or_ge j q with h1 | h1
    · have := hlt j hj h1; omega
    · have := hgt j hj h1; omega
  have hxk : x.key = (id, m) := by rw [hx]; rfl
  have hkm : ∀ k, k ∈ (r.es.take q ++ x :: r.es.drop q).map Ent.key ↔ k = (id, m) ∨ k ∈ r.ks := fun k => by
    unfold EngR.ks
    simp only [List.mem_map]
    constructor
    · rintro ⟨e, he, rfl⟩
      rcases (hmem e).1 he with rfl | h
      · exact Or.inl hxk
      · exact Or.inr ⟨e, h, rfl⟩
    · rintro (rfl | ⟨e, he, rfl⟩)
      · exact ⟨x, (hmem x).2 (Or.inl rfl), hxk⟩
      · exact ⟨e, (hmem e).2 (Or.inr he), rfl⟩
  have hidfl : id ∉ r.fl := fun h => by
    have h1 := (S.fm id).1 h
    obtain ⟨e, he, h2⟩ := List.mem_map.1 h1
    exact hne e he (congrArg Prod.fst h2)
  obtain ⟨tg', h1, h2⟩ := S.made (own' := own') (W := W) { r with fa := fa, fcap := fcap, es := r.es.take q ++ x :: r.es.drop q, lb := lb, d := 0, tp := none, fl := fl, xa := xa, xcap := xcap, Sh := Sh } (fun b => b = cb) rfl hK (fun b hb => ho b (by omega))
    (by
      simp only [EngR.pre, el, EngR.ks]
      refine hI.congr (fun k => ?_)
      rw [List.mem_append]
      unfold ksK
      simp only [List.mem_map, List.mem_singleton]
      constructor
      · rintro (⟨k', hk', rfl⟩ | rfl)
        · obtain ⟨e, he, rfl⟩ := List.mem_map.1 (show k' ∈ r.es.map Ent.key from hk')
          exact ⟨e.key, ⟨e, (hmem e).2 (Or.inr he), rfl⟩, rfl⟩
        · exact ⟨(id, m), ⟨x, (hmem x).2 (Or.inl rfl), hxk⟩, rfl⟩
      · rintro ⟨k', ⟨e, he, rfl⟩, rfl⟩
        rcases (hmem e).1 he with rfl | h
        · rw [hxk]; exact Or.inr rfl
        · exact Or.inl ⟨e.key, List.mem_map.2 ⟨e, h, rfl⟩, rfl⟩)
    (by
      simp only [el]
      rw [← ent_ins r.es x q, hx]
      refine OSl.kp hO4 hMW (fun g hg e => ?_)
      have := hfno g hg
      rcases e with e | e
      · exact this.2 e
      · exact e this.1)
    (fun g hg => by
      rcases hat g hg with h | h
      · exact Or.inl (S.tf g h)
      · exact Or.inr ⟨h, by rw [ho g (hO4.lt hg)]; exact S.no_new h⟩)
    (Or.inl ⟨rfl, rfl⟩) S.ord hl rfl (by show w.heap.size ≤ lb; omega) hlo (fun e => by have := hO4.lt e; have h5 : lb < w4.heap.size := this; omega)
    (fun e he => by
      rcases (hmem e).1 he with rfl | h
      · refine Or.inr ⟨cb, by rw [hx], ?_, hcb, by rw [ho cb hcl]; exact S.no_new hcb, hcf, (by show cb ≠ lb; omega), rfl⟩
        rw [hx]
        refine hcd.kp hMW (fun e => ?_)
        rcases e with e | e
        · omega
        · exact e (S.no_new hcb)
      · exact Or.inl h)
    (by
      show fl.Nodup
      rcases hfl with ⟨_, h⟩ | ⟨_, h⟩
      · rw [h]; exact S.fn
      · rw [h, List.nodup_append]
        exact ⟨S.fn, by simp, fun a ha b hb e => by rw [List.mem_singleton.1 hb] at e; exact hidfl (e ▸ ha)⟩)
    (fun y => by
      show y ∈ fl ↔ (y, []) ∈ (r.es.take q ++ x :: r.es.drop q).map Ent.key
      rw [hkm]
      rcases hfl with ⟨hm0, h⟩ | ⟨hm0, h⟩
      · rw [h, S.fm y]
        constructor
        · exact Or.inr
        · rintro (h | h)
          · exact absurd (congrArg Prod.snd h).symm hm0
          · exact h
      · rw [h, List.mem_append, S.fm y, hm0]
        constructor
        · rintro (h | h)
          · exact Or.inr h
          · rw [List.mem_singleton.1 h]; exact Or.inl rfl
        · rintro (h | h)
          · exact Or.inr (List.mem_singleton.2 (congrArg Prod.fst h))
          · exact Or.inl h)
    (fun e he => by
      rcases (hmem e).1 he with rfl | h
      · rw [hx]; exact ⟨hwf, hm⟩
      · exact S.ok e h)
    (by
      show SortedF ((r.es.take q ++ x :: r.es.drop q).map Ent.key)
      rw [sortedF_iff, List.pairwise_map]
      have h := S.pw
      rw [← List.take_append_drop q r.es, List.pairwise_append] at h
      obtain ⟨p1, p2, p3⟩ := h
      have hxi : x.key.1 = id := by rw [hxk]
      have t1 : ∀ a ∈ r.es.take q, a.id < id := fun a ha => by
        obtain ⟨j, hj, rfl⟩ := List.getElem_of_mem ha
        rw [List.getElem_take]
        have hj' : j < q ∧ j < r.es.length := by simp at hj; omega
        exact hlt j hj'.2 hj'.1
      have t2 : ∀ a ∈ r.es.drop q, id < a.id := fun a ha => by
        obtain ⟨j, hj, rfl⟩ := List.getElem_of_mem ha
        rw [List.getElem_drop]
        have hj' : q + j < r.es.length := by simp at hj; omega
        exact hgt (q + j) hj' (by omega)
      rw [List.pairwise_append, List.pairwise_cons]
      refine ⟨p1, ⟨fun a ha => by rw [hxi]; exact t2 a ha, p2⟩, fun a ha b hb => ?_⟩
      rcases List.mem_cons.1 hb with rfl | hb
      · rw [hxi]; exact t1 a ha
      · exact p3 a ha b hb)
    (by show (r.es.take q ++ x :: r.es.drop q).length ≤ 100; omega) (fun b hb => by rw [hb]; omega)
  exact ⟨tg', _, h1, rfl, rfl, h2, hK.mono (fun b _ h => by omega)⟩
/-- The filter is in the list, not yet in the index. -/
structure SubMid (w W : World) (eb : Nat) (own : Nat → ITag) (sch : List Int) (r : EngR) (id : Int) (m : List Cd) (q kb cb ccap : Nat) (fa : Option Addr) (fcap : Nat) : Prop where
  ix : IxSt W own eb [.slice (some ⟨r.sb, 0, none⟩) sch.length r.sc, .slice fa (r.es.length + 1) fcap, .slice (some ⟨r.ob, 0, none⟩) r.order.length r.oc, .pointer (some ⟨r.lb, 0, none⟩)] (.int .i64 r.n) r.fl r.xa r.xcap r.Sh (ksK r.ks)
  k0 : W.cell? ⟨kb, 0, none⟩ = some (.int .i64 id)
  k1 : W.cell? ⟨kb, 1, none⟩ = some (.slice (some ⟨cb, 0, none⟩) m.length ccap)
  kp : Kp (fun b => b = eb ∨ blkOf r.fa = some b) w W
  cd : Cds W cb 0 m
  cn : w.heap.size ≤ cb
  cl : cb < W.heap.size
  cf : blkOf fa ≠ some cb
  o : OSl W 130 2 fa (r.es.length + 1) fcap ((r.es.flatMap Ent.cells).take (q * 2) ++ [.int .i64 id, .slice (some ⟨cb, 0, none⟩) m.length ccap] ++ (r.es.flatMap Ent.cells).drop (q * 2))
  at_ : ∀ g, blkOf fa = some g → blkOf r.fa = some g ∨ w.heap.size ≤ g
theorem EngS.mid (S : EngS w eb tg own sch r) {W wI : World} {o : Obj} {id : Int} {m : List Cd} {q kb cb ccap : Nat} {fa : Option Addr} {fcap : Nat} (hE : Ext w W) (hkI : Kp (fun k => blkOf r.fa = some k) (W.alloc o) wI)
    (hO : OSl wI 130 2 fa (r.es.length + 1) fcap ((r.es.flatMap Ent.cells).take (q * 2) ++ [.int .i64 id, .slice (some ⟨cb, 0, none⟩) m.length ccap] ++ (r.es.flatMap Ent.cells).drop (q * 2))) (hat : ∀ g, blkOf fa = some g → blkOf r.fa = some g ∨ (W.alloc o).heap.size ≤ g)
    (hcd : Cds W cb 0 m) (hcb : w.heap.size ≤ cb) (hcl : cb < W.heap.size) (k0 : W.cell? ⟨kb, 0, none⟩ = some (.int .i64 id)) (k1 : W.cell? ⟨kb, 1, none⟩ = some (.slice (some ⟨cb, 0, none⟩) m.length ccap)) (hkb : w.heap.size ≤ kb) :
    SubMid w (wI.setCell ⟨eb, 1, none⟩ (.slice fa (r.es.length + 1) fcap)) eb own sch r id m q kb cb ccap fa fcap := by
  have hel := S.lt eb (by rw [S.te]; decide)
  have hfl : ∀ g, blkOf r.fa = some g → g < w.heap.size := fun g hg => S.f.lt hg
  have zW := hE.le
  have hz : (W.alloc o).heap.size = W.heap.size + 1 := by simp
  have hEo : Ext w (W.alloc o) := hE.trans ((Ext.refl _).alloc _)
  have zI := hkI.size
  have hks : Kp (fun b => b = eb) wI (wI.setCell ⟨eb, 1, none⟩ (.slice fa (r.es.length + 1) fcap)) := (Kp.refl (fun b => b = eb) wI).setCell (fun _ => rfl) _
  have hkI' : Kp (fun k => blkOf r.fa = some k) W wI := (((Ext.refl W).alloc o).kp _).trans hkI
  have hcn : ¬ blkOf r.fa = some cb := fun h => by have := hfl _ h; omega
  have hkn : ¬ blkOf r.fa = some kb := fun h => by have := hfl _ h; omega
  have zs := hks.size
  refine ⟨?_, hks.cell (hkI'.cell k0 hkn) (by show ¬ kb = eb; omega), hks.cell (hkI'.cell k1 hkn) (by show ¬ kb = eb; omega), ?_, (hcd.kp hkI' hcn).kp hks (by omega), hcb, by omega, fun h => ?_, OSl.kp hO hks (fun g hg e => ?_), fun g hg => ?_⟩
  · exact ((S.ix.ext hEo).kp hkI (fun b hb e => hb (S.no_fa e).1) (fun e => (S.no_fa e).2 rfl)).setPre 1 (show 1 < 4 by decide) _
  · exact ((hEo.kp _).trans (hkI.mono (fun _ _ h => Or.inr h))).trans (hks.mono (fun _ _ h => Or.inl h))
  · rcases hat cb h with h | h
    · exact hcn h
    · omega
  · rcases hat g hg with h | h
    · exact (S.no_fa h).2 e
    · omega
  · rcases hat g hg with h | h
    · exact Or.inl h
    · exact Or.inr (by omega)
theorem SubMid.add (S : EngS w eb tg own sch r) {W : World} {id : Int} {m : List Cd} {q kb cb ccap : Nat} {fa : Option Addr} {fcap : Nat} (M : SubMid w W eb own sch r id m q kb cb ccap fa fcap) (hm : Rise cmpCd m ∧ m.length ≤ 8 ∧ ∀ c ∈ m, mayB sch c = true) (hne : ∀ e ∈ r.es, e.id ≠ id) (h100 : r.es.length < 100) {W' : World} (hE : Ext W W') :
    Calls Tryz.prog 51 #[.pointer (some ⟨eb, 4, none⟩), .agg #[.int .i64 id, .slice (some ⟨cb, 0, none⟩) m.length ccap]] W' fun e w' => e = .returned (.tuple #[]) ∧ ∃ own' fl' fa' fcap' Sh', IxSt w' own' eb [.slice (some ⟨r.sb, 0, none⟩) sch.length r.sc, .slice fa (r.es.length + 1) fcap, .slice (some ⟨r.ob, 0, none⟩) r.order.length r.oc, .pointer (some ⟨r.lb, 0, none⟩)] (.int .i64 r.n) fl' fa' fcap' Sh' (ksK r.ks ++ [(id, (m.length : Int), m)]) ∧ ((m ≠ [] ∧ fl' = r.fl) ∨ (m = [] ∧ fl' = r.fl ++ [id])) ∧ (∀ b, b < W'.heap.size → own' b = own b) ∧ Kp (fun b => b = eb ∨ own b ≠ .no) W' w' := by
  have h6 := S.s6
  have hel := S.lt eb (by rw [S.te]; decide)
  have hin : ∀ k ∈ ksK r.ks, ∃ e ∈ r.es, k = (e.id, (e.l.length : Int), e.l) := fun k hk => by
    unfold ksK at hk
    obtain ⟨k', hk', rfl⟩ := List.mem_map.1 hk
    obtain ⟨e, he, rfl⟩ := List.mem_map.1 (show k' ∈ r.es.map Ent.key from hk')
    exact ⟨e, he, rfl⟩
  refine add_both (M.ix.ext hE) rfl (fun k hk => ?_) ?_ S.flen id (fun k hk => ?_) m (some ⟨cb, 0, none⟩) ccap hm.2.1 (hm.1.nodup cmpCd_ord) (fun _ => ⟨cb, 0, rfl, M.cd.kp (hE.kp (fun _ => False)) (fun h => h)⟩) (fun g hg => ?_) (fun c hc => ?_)
  · obtain ⟨e, he, rfl⟩ := hin k hk; exact (S.ok e he).2.2.1
  · unfold ksK; rw [List.length_map, S.kslen]; exact h100
  · obtain ⟨e, he, rfl⟩ := hin k hk; exact hne e he
  · have hgb : g = cb := by cases hg; rfl
    subst hgb
    exact ⟨S.no_new M.cn, by have := M.cn; omega⟩
  · have := may_of (hm.2.2 c hc); omega
end
end Go.Proofs.YtpbblaeamddbgaaGreat
namespace Go.Proofs.YtpbblaeamddbgaaGreat
open Go.RowKit

theorem cds_take {w : World} {b : Nat} {T : TypeId} {Z : List Value} {m : List Cd} (h : Row w b T Z) (ht : Z.take (m.length * 6) = m.flatMap Cd.cells) : Cds w b 0 m := fun j hj => by
  have hz : ∀ i v, i < 6 → (m.flatMap Cd.cells)[j * 6 + i]? = some v → w.cell? ⟨b, j * 6 + i, none⟩ = some v := fun i v hi hv => by
    rw [← ht, List.getElem?_take, if_pos (by omega)] at hv
    exact h.at hv
  have f : ∀ i (hi : i < 6), (m.flatMap Cd.cells)[j * 6 + i]? = m[j].cells[i]? := fun i hi => by
    have := flat_at Cd.cells 6 (fun _ => rfl) m j i hj hi
    rw [this]
  simp only [Nat.zero_add]
  exact ⟨hz 0 _ (by omega) (f 0 (by omega)), hz 1 _ (by omega) (f 1 (by omega)), hz 2 _ (by omega) (f 2 (by omega)), hz 3 _ (by omega) (f 3 (by omega)), hz 4 _ (by omega) (f 4 (by omega)), hz 5 _ (by omega) (f 5 (by omega))⟩
/-- What a filter that is let in leaves. -/
def SubDn (eb : Nat) (F : Nat → Prop) (sch : List Int) (flt : List (Int × List Cd)) (id : Int) (l : List Cd) (q : Nat) (n : Int) (w w' : World) : Prop := Kp F w w' ∧ EngAt w' eb (Grow F w w') sch (flt.take q ++ (id, l) :: flt.drop q) n

set_option maxHeartbeats 3200000 in
set_option maxRecDepth 100000 in
theorem psub_in (eb : Nat) (F : Nat → Prop) (sch : List Int) (flt : List (Int × List Cd)) (n : Int) (id : Int) (ao : Option Addr) (cap : Nat) (l : List Cd) (w : World) (hf : flt.length < 100) (hS : SortedF flt) (hwf : wfI id) (hE : EngAt w eb F sch flt n) (hc : Cxs w ao l) (q : Nat) (hq : PosOf flt id q) (hid : ¬ id < 0) (hth : thereB flt id q = false) (h8 : l.length ≤ 8) (hall : ∀ j (hj : j < l.length), mayB sch l[j] = true) :
    Calls Tryz.prog 24 #[.pointer (some ⟨eb, 0, none⟩), .int .i64 id, .slice ao l.length cap] w fun e w' => e = .returned (.tuple #[.int .i64 0, .int .i64 0]) ∧ SubDn eb F sch flt id l q n w w' := by
  obtain ⟨tg, own, r, S, hF, hA, hn⟩ := hE
  have hlen : r.es.length = flt.length := hA.len
  have hfind := find_any eb r.fa r.fcap r.es flt id w (by omega) hS hA.ids (S.ix.row.at (j := 1) rfl) S.f q hq
  rw [hth] at hfind
  have HFi : Hid _ := hfind
  have hI := S.s
  have hs6 := S.s6
  have HB : Hid (∀ w', Ext w w' → Calls Tryz.prog 48 #[.slice (some ⟨r.sb, 0, none⟩) sch.length r.sc, .slice ao l.length cap] w' fun e w'' => e = .returned (.tuple #[.int .i64 0, .bool false]) ∧ Ext w' w'') := fun w' h => badCond_ok r.sb 0 r.sc sch ao cap l w' hs6 (hI.kp (h.kp (fun _ => False)) (fun h => h)) h8 (hc.ext h) hall
  have HN : Hid (∀ w', Ext w w' → _) := fun w' h => newFilter_any id ao cap l w' h8 (hc.ext h) (fun j hj => may_small (hall j hj))
  have hmay : ∀ c ∈ l, mayB sch c = true := fun c hc => by
    obtain ⟨j, hj, rfl⟩ := List.getElem_of_mem hc
    exact hall j hj
  have hqe : q ≤ r.es.length := by have := hq.1; omega
  have hky : ∀ j (hj : j < r.es.length), r.es[j].id = flt[j].1 := fun j hj => by
    have h1 : (r.es.map (·.id))[j]? = (flt.map (·.1))[j]? := by rw [hA.ids]
    have hj' : j < flt.length := by omega
    simpa [hj, hj'] using h1
  have hlt : ∀ j (hj : j < r.es.length), j < q → r.es[j].id < id := fun j hj h => by
    rw [hky j hj]; exact hq.2.1 j (by omega) h
  have hgt : ∀ j (hj : j < r.es.length), q ≤ j → id < r.es[j].id := fun j hj h => by
    rw [hky j hj]
    have h1 := hq.2.2 (by omega)
    have h2 : ¬ flt[q].1 = id := fun e => by rw [there_iff.2 ⟨by omega, e⟩] at hth; cases hth
    rcases Nat.lt_or_ge q j with h' | h'
    · have := hS q j (by omega) (by omega) h'; omega
    · obtain rfl : q = j := by omega
      omega
  have hne : ∀ e ∈ r.es, e.id ≠ id := fun e he h => by
    obtain ⟨j, hj, rfl⟩ := List.getElem_of_mem he
    rcases Nat.lt_or_ge j q with h1 | h1
    · have := hlt j hj h1; omega
    · have := hgt j hj h1; omega
  have h100 : r.es.length < 100 := by omega
  have hfl : ∀ g, blkOf r.fa = some g → g < w.heap.size := fun g hg => S.f.lt hg
  have HIn : Hid (∀ (W : World) (o : Obj) (cb : Nat) (ml lc : Nat), Ext w W → o = .cells #[.int .i64 id, .slice (some ⟨cb, 0, none⟩) ml lc] 130 → Calls Tryz.prog 50 #[.slice r.fa r.es.length r.fcap, .int .i64 q, .slice (some ⟨W.heap.size, 0, none⟩) 1 1] (W.alloc o) fun e w' => InsPost 130 2 (W.alloc o) w' r.fa r.es.length ((r.es.flatMap Ent.cells).take (q * 2) ++ [.int .i64 id, .slice (some ⟨cb, 0, none⟩) ml lc] ++ (r.es.flatMap Ent.cells).drop (q * 2)) e) := fun W o cb ml lc h2 ho => by
    subst ho
    exact insert_anyF r.fa r.es.length r.fcap q _ W.heap.size _ _ (S.f.ext (h2.trans ((Ext.refl _).alloc _))) hqe (by omega) (row_alloc _ _ _ _ _ rfl rfl) (fun h => by have h1 := hfl _ h; have h3 := h2.le; omega) (by intro u hu; simp at hu; rcases hu with rfl | rfl <;> rfl) rfl (ent_one r.es)
  have HMid : Hid (∀ {W wI : World} {o : Obj} {m : List Cd} {kb cb ccap : Nat} {fa : Option Addr} {fcap : Nat}, Ext w W → Kp (fun k => blkOf r.fa = some k) (W.alloc o) wI → _ → _ → _ → _ → _ → _ → _ → _ → SubMid w (wI.setCell ⟨eb, 1, none⟩ (.slice fa (r.es.length + 1) fcap)) eb own sch r id m q kb cb ccap fa fcap) := fun {W wI o m kb cb ccap fa fcap} a1 a2 a3 a4 a5 a6 a7 a8 a9 a10 => S.mid a1 a2 a3 a4 a5 a6 a7 a8 a9 a10
  have HAd : Hid (∀ {W : World} {m : List Cd} {kb cb ccap : Nat} {fa : Option Addr} {fcap : Nat}, SubMid w W eb own sch r id m q kb cb ccap fa fcap → (∀ c, c ∈ m ↔ c ∈ l) → Rise cmpCd m → m.length ≤ l.length → ∀ {W' : World}, Ext W W' → _) := fun {W m kb cb ccap fa fcap} M h1 h2 h3 {W'} hE => SubMid.add S M ⟨h2, by omega, fun c hc => hmay c ((h1 c).1 hc)⟩ hne h100 hE
  have HU : Hid (∀ {w4 wA W : World} {own' : Nat → ITag} {m : List Cd} {fa : Option Addr} {fcap kb cb ccap : Nat} {fl : List Int} {xa : Option Addr} {xcap : Nat} {Sh : Nat → ShR} {lb : Nat}, SubMid w w4 eb own sch r id m q kb cb ccap fa fcap → (∀ c, c ∈ m ↔ c ∈ l) → Rise cmpCd m → m.length ≤ l.length → Kp (fun b => b = eb ∨ own b ≠ .no) w4 wA → (∀ b, b < w4.heap.size → own' b = own b) → Kp (fun b => b = eb) wA W →
      IxSt W own' eb [.slice (some ⟨r.sb, 0, none⟩) sch.length r.sc, .slice fa (r.es.length + 1) fcap, .slice (some ⟨r.ob, 0, none⟩) r.order.length r.oc, .pointer (some ⟨lb, 0, none⟩)] (.int .i64 r.n) fl xa xcap Sh (ksK r.ks ++ [(id, (m.length : Int), m)]) → ((m ≠ [] ∧ fl = r.fl) ∨ (m = [] ∧ fl = r.fl ++ [id])) → Row W lb 125 (lateCells 0 none) → wA.heap.size ≤ lb → own' lb = .no → SubDn eb F sch flt id l q n w W) := fun {w4 wA W own' m fa fcap kb cb ccap fl xa xcap Sh lb} M m1 m2 m3 a4 a5 a6 a7 a8 a9 a10 a11 => by
    obtain ⟨tg', r', s1, s2, s3, s4, s5⟩ := S.subbed id m q hqe hlt hgt hwf ⟨m2, by omega, fun c hc => hmay c ((m1 c).1 hc)⟩ h100 M.kp M.cd M.cn M.cl M.cf M.o M.at_ a4 a5 a6 a7 a8 a9 a10 a11
    refine ⟨s5.mono (fun b _ hb => hF b hb), tg', own', r', s1, fun b hb => ?_, ?_, s3.trans hn⟩
    · rcases s4 b hb with h | h
      · exact Or.inl (hF b h)
      · exact Or.inr h
    · rw [s2]; exact (hA.take q).app (.cons ⟨rfl, m1⟩ (hA.drop q))
  have a0 := S.ix.row.at (j := 0) (v := .slice (some ⟨r.sb, 0, none⟩) sch.length r.sc) rfl
  have a1 := S.ix.row.at (j := 1) (v := .slice r.fa r.es.length r.fcap) rfl
  have HRow : Hid (Row w eb 112 (engCells (r.pre sch.length) r.xa r.fl.length r.xcap r.Sh (.int .i64 r.n))) := S.ix.row
  have hnf : ∀ g, blkOf r.fa = some g → g ≠ eb := fun g hg => (S.no_fa hg).2
  have HNF : Hid (∀ g, blkOf r.fa = some g → g ≠ eb ∧ g < w.heap.size) := fun g hg => ⟨hnf g hg, hfl g hg⟩
  clear hfind hI hc hall hmay hky hlt hgt hne hA hF hS hq S hn hth hfl hnf hlen hf
  go_enter Tryz.func24, Tryz.ntmps24
  go_wp2_with fail
  refine Calls.mono HFi.out ?_
  rintro e w1 ⟨rfl, hE1⟩
  have b0 := hE1.cell a0
  go_wp2_with fail
  refine Calls.mono (HB.out w1 hE1) ?_
  rintro e w2 ⟨rfl, hE2⟩
  have hE12 := hE1.trans hE2
  have b1 := hE12.cell a1
  clear HB HFi b0 a0 hE1 hE2
  go_wp2_with fail
  refine Calls.mono (HN.out w2 hE12) ?_
  rintro e wC ⟨m, rfl, hm1, hm2, hm3, ⟨Z, hZ, hZl, hZt⟩, hEC⟩
  obtain ⟨cb, hcb⟩ : ∃ cb, cb = w2.heap.size + 1 := ⟨_, rfl⟩
  obtain ⟨wK, hwK⟩ : ∃ wK, wK = wC.alloc (.cells #[.int .i64 id, .slice (some ⟨cb, 0, none⟩) m.length l.length] 130) := ⟨_, rfl⟩
  obtain ⟨kb, hkb⟩ : ∃ kb, kb = wC.heap.size := ⟨_, rfl⟩
  have hEK : Ext wC wK := by rw [hwK]; exact (Ext.refl _).alloc _
  have hEwC : Ext w wC := hE12.trans hEC
  have hEwK : Ext w wK := hEwC.trans hEK
  have k0 : wK.cell? ⟨kb, 0, none⟩ = some (.int .i64 id) := by rw [hwK]; exact cell_new _ _ _ _ _ hkb rfl
  have k1 : wK.cell? ⟨kb, 1, none⟩ = some (.slice (some ⟨cb, 0, none⟩) m.length l.length) := by rw [hwK]; exact cell_new _ _ _ _ _ hkb rfl
  have HCd : Hid (Cds wK cb 0 m ∧ w.heap.size ≤ cb ∧ cb < wK.heap.size ∧ w.heap.size ≤ kb) := by
    have hc1 : Cds wC cb 0 m := by rw [hcb]; exact cds_take hZ hZt
    have hl1 := hZ.lt
    have z1 := hE12.le
    have z2 := hEC.le
    have z3 := hEK.le
    exact ⟨hc1.kp (hEK.kp (fun _ => False)) (fun h => h), by omega, by omega, by omega⟩
  have c1 := hEwK.cell a1
  have c1A : ∀ ob : Obj, (wK.alloc ob).cell? ⟨eb, 1, none⟩ = some (.slice r.fa r.es.length r.fcap) := fun ob => ((Ext.refl _).alloc ob).cell c1
  have k0A : ∀ ob : Obj, (wK.alloc ob).cell? ⟨kb, 0, none⟩ = some (.int .i64 id) := fun ob => ((Ext.refl _).alloc ob).cell k0
  have k1A : ∀ ob : Obj, (wK.alloc ob).cell? ⟨kb, 1, none⟩ = some (.slice (some ⟨cb, 0, none⟩) m.length l.length) := fun ob => ((Ext.refl _).alloc ob).cell k1
  have HRK : Hid (Row wK eb 112 (engCells (r.pre sch.length) r.xa r.fl.length r.xcap r.Sh (.int .i64 r.n))) := HRow.out.ext hEwK
  have HEd : Hid (Ext w wK.drew) := hEwK.trans (Ext.refl _).drew
  have HM1 : Hid (∀ c, c ∈ m ↔ c ∈ l) := hm1
  have HM2 : Hid (Rise cmpCd m) := hm2
  have HM3 : Hid (m.length ≤ l.length) := hm3
  rw [← hcb]
  clear hZ hZl hZt hEC hE12 b1 HN HRow hm1 hm2 hm3 hcb hEwC a1
  go_wp2_with fail
  rw [← hwK, ← hkb]
  clear hwK hkb hEK hEwK
  go_region_with (first
    | (go_at_call 50; refine Calls.mono (HIn.out wK.drew _ cb m.length l.length HEd.out rfl) ?_; rintro e wI ⟨fa', cap', rfl, hO', hkI, hat⟩; have rI := hkI.row ((HRK.out.ext (Ext.refl _).drew).ext ((Ext.refl _).alloc _)) (fun h => (HNF.out _ h).1 rfl); have cI : wI.cell? ⟨eb, 1, none⟩ = some (.slice r.fa r.es.length r.fcap) := rI.at (j := 1) rfl; have fI := rI.frozen 1))
  all_goals
    have M := HMid.out HEd.out hkI hO' hat (HCd.out.1.kp (((Ext.refl wK).drew).kp (fun _ => False)) (fun h => h)) HCd.out.2.1 HCd.out.2.2.1 (((Ext.refl wK).drew).cell k0) (((Ext.refl wK).drew).cell k1) HCd.out.2.2.2
    clear rI cI fI hO' hkI hat HMid HIn c1 c1A k0 k1 k0A k1A HRK HEd HCd HNF
    generalize wI.setCell ⟨eb, 1, none⟩ (.slice fa' (r.es.length + 1) cap') = W4 at *
    have d0 := M.k0
    have d1 := M.k1
    have HMM : Hid _ := M
    clear M
    go_wp2_with fail
    go_region_with (first
      | (go_at_call 51; refine Calls.mono (HAd.out HMM.out HM1.out HM2.out HM3.out (by exact (Ext.refl W4).drew)) ?_; rintro e wA ⟨rfl, own', fl, xa, xcap, Sh, hI, hfl, ho, hKA⟩))
    all_goals
      have HI : Hid _ := hI
      have HFL : Hid _ := hfl
      have rA := hI.row
      have hel : eb < wA.heap.size := rA.lt
      have yA : wA.cell? ⟨eb, 3, none⟩ = some (.pointer (some ⟨r.lb, 0, none⟩)) := rA.at (j := 3) rfl
      have yB : ∀ ob : Obj, (wA.alloc ob).cell? ⟨eb, 3, none⟩ = some (.pointer (some ⟨r.lb, 0, none⟩)) := fun ob => ((Ext.refl _).alloc ob).cell yA
      have zA : wA.frozen? ⟨eb, 3, none⟩ = false := rA.frozen 3
      have zB : ∀ ob : Obj, (wA.alloc ob).frozen? ⟨eb, 3, none⟩ = false := fun ob => (rA.ext ((Ext.refl _).alloc ob)).frozen 3
      have hno3 : own' wA.heap.size = .no := hI.at_.tn _ (Nat.le_refl _)
      clear rA hI hfl d0 d1 HAd
      go_wp2
      go_ret2
      exact ⟨rfl, HU.out HMM.out HM1.out HM2.out HM3.out ((((Ext.refl W4).drew).kp _).trans hKA) ho (((Kp.refl (fun b => b = eb) wA).setCell (fun _ => rfl) _).trans (((Ext.refl _).alloc _).kp _)) ((HI.out.setPre 3 (show 3 < 4 by decide) (.pointer (some ⟨wA.heap.size, 0, none⟩))).ext ((Ext.refl _).alloc _)) HFL.out (row_alloc _ _ _ _ _ (by simp) rfl) (Nat.le_refl _) hno3⟩
end Go.Proofs.YtpbblaeamddbgaaGreat
