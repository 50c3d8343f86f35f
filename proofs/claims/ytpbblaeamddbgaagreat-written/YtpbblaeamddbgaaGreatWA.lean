import Derived.Laws.BytesArg
import Derived.Lib.AppendStr
import Derived.Maps.AppendAt
import Derived.Laws.IdiomStrings
import Derived.Test.YtpbblaeamddbgaaGreatG0
import Derived.Test.YtpbblaeamddbgaaGreatGE
namespace Go.Proofs.YtpbblaeamddbgaaGreat
open Go.RowKit

/-- The bytes of a word. -/
def bl (s : ByteArray) : List UInt8 := s.data.toList
theorem bl_size (s : ByteArray) : (bl s).length = s.size := by
  show s.data.toList.length = s.size
  rw [Array.length_toList]
  rfl
def strB (l : List UInt8) : ByteArray := ⟨l.toArray⟩
theorem bl_str (l : List UInt8) : bl (strB l) = l := by simp [bl, strB]
theorem str_bl (s : ByteArray) : strB (bl s) = s := by cases s; simp [bl, strB]
theorem str_inj {l m : List UInt8} (h : strB l = strB m) : l = m := by rw [← bl_str l, h, bl_str]
theorem str_size (l : List UInt8) : (strB l).size = l.length := by simp [strB, ByteArray.size]

/-- A number in 8 bytes, the highest first. -/
def byN (n : Int) (sh : Nat) : UInt8 := UInt8.ofNat (n / 2 ^ sh % 256).toNat
def encN (n : Int) : List UInt8 := [byN n 56, byN n 48, byN n 40, byN n 32, byN n 24, byN n 16, byN n 8, byN n 0]
def encV (v : Vl) : List UInt8 := encN v.n ++ UInt8.ofNat v.s.size :: bl v.s
def encC (c : Cd) : List UInt8 := UInt8.ofNat c.attr.toNat :: UInt8.ofNat c.kind.toNat :: (encV c.a ++ encV c.b)
def encL (l : List Cd) : List UInt8 := l.flatMap encC
def enc (l : List Cd) : List UInt8 := UInt8.ofNat l.length :: encL l
/-- Can a condition be told? -/
def tellB (c : Cd) : Bool := decide (0 ≤ c.attr) && decide (c.attr < 6) && (decide (1 ≤ c.kind ∧ c.kind ≤ 9)) && (decide (c.a.s.size ≤ 20)) && decide (c.b.s.size ≤ 20)

/-- What is read. -/
def numOf (l : List UInt8) : Nat := l.foldl (fun n b => n * 256 + b.toNat) 0
def rdV (L : List UInt8) : Vl × List UInt8 :=
  (⟨IntKind.i64.wrap (numOf (L.take 8) : Int), strB (((L.drop 8).drop 1).take (numOf ((L.drop 8).take 1)))⟩, ((L.drop 8).drop 1).drop (numOf ((L.drop 8).take 1)))
def rdC (L : List UInt8) : Cd × List UInt8 :=
  (⟨(numOf (L.take 1) : Int), (numOf ((L.drop 1).take 1) : Int), (rdV ((L.drop 1).drop 1)).1, (rdV (rdV ((L.drop 1).drop 1)).2).1⟩, (rdV (rdV ((L.drop 1).drop 1)).2).2)
def rdL : Nat → List UInt8 → List Cd
  | 0, _ => []
  | m + 1, L => (rdC L).1 :: rdL m (rdC L).2
def dec (L : List UInt8) : List Cd := rdL (min (numOf (L.take 1)) 8) (L.drop 1)
/-- Is that what Encode answers of what was read? -/
def goodT (L : List UInt8) : Prop := (∀ c ∈ dec L, tellB c = true) ∧ enc (dec L) = L

theorem u8_back (k : Nat) (h : k < 256) : (UInt8.ofNat k).toNat = k := by simp [UInt8.toNat_ofNat']; omega
theorem numOf_one (b : UInt8) : numOf [b] = b.toNat := by simp [numOf]
theorem byN_nat (n : Int) (sh : Nat) : ((byN n sh).toNat : Int) = n / 2 ^ sh % 256 := by
  unfold byN
  have h0 : 0 ≤ n / 2 ^ sh % 256 := Int.emod_nonneg _ (by decide)
  have h1 : n / 2 ^ sh % 256 < 256 := Int.emod_lt_of_pos _ (by decide)
  rw [u8_back _ (by omega)]
  omega
theorem numOf_enc (n : Int) (h : -9223372036854775808 ≤ n ∧ n ≤ 9223372036854775807) : IntKind.i64.wrap (numOf (encN n) : Int) = n := by
  have e : (numOf (encN n) : Int) = (((((((n / 2 ^ 56 % 256 * 256 + n / 2 ^ 48 % 256) * 256 + n / 2 ^ 40 % 256) * 256 + n / 2 ^ 32 % 256) * 256 + n / 2 ^ 24 % 256) * 256 + n / 2 ^ 16 % 256) * 256 + n / 2 ^ 8 % 256) * 256 + n / 2 ^ 0 % 256) := by
    simp only [← byN_nat]
    simp [numOf, encN]
  rw [e, IntKind.wrap_i64]
  omega
theorem take_len_app {α : Type} (A B : List α) (k : Nat) (h : A.length = k) : (A ++ B).take k = A := by subst h; simp
theorem drop_len_app {α : Type} (A B : List α) (k : Nat) (h : A.length = k) : (A ++ B).drop k = B := by subst h; simp
theorem rdV_enc (v : Vl) (R : List UInt8) (h : -9223372036854775808 ≤ v.n ∧ v.n ≤ 9223372036854775807) (hs : v.s.size ≤ 20) : rdV (encV v ++ R) = (v, R) := by
  unfold rdV
  have e : encV v ++ R = encN v.n ++ (UInt8.ofNat v.s.size :: (bl v.s ++ R)) := by simp [encV]
  rw [e, take_len_app _ _ 8 rfl, drop_len_app _ _ 8 rfl, numOf_enc _ h]
  have e1 : numOf ((UInt8.ofNat v.s.size :: (bl v.s ++ R)).take 1) = v.s.size := by
    rw [show (UInt8.ofNat v.s.size :: (bl v.s ++ R)).take 1 = [UInt8.ofNat v.s.size] from rfl, numOf_one, u8_back _ (by omega)]
  rw [e1, show (UInt8.ofNat v.s.size :: (bl v.s ++ R)).drop 1 = bl v.s ++ R from rfl, take_len_app _ _ _ (bl_size _), drop_len_app _ _ _ (bl_size _), str_bl]
theorem rdC_enc (c : Cd) (R : List UInt8) (hc : tellB c = true) (ha : -9223372036854775808 ≤ c.a.n ∧ c.a.n ≤ 9223372036854775807) (hb : -9223372036854775808 ≤ c.b.n ∧ c.b.n ≤ 9223372036854775807) : rdC (encC c ++ R) = (c, R) := by
  simp only [tellB, Bool.and_eq_true, decide_eq_true_eq] at hc
  obtain ⟨⟨⟨⟨h0, h6⟩, hk⟩, hsa⟩, hsb⟩ := hc
  unfold rdC
  have e : encC c ++ R = UInt8.ofNat c.attr.toNat :: UInt8.ofNat c.kind.toNat :: (encV c.a ++ (encV c.b ++ R)) := by simp [encC]
  have e0 : numOf ((encC c ++ R).take 1) = c.attr.toNat := by
    rw [e, show (UInt8.ofNat c.attr.toNat :: UInt8.ofNat c.kind.toNat :: (encV c.a ++ (encV c.b ++ R))).take 1 = [UInt8.ofNat c.attr.toNat] from rfl, numOf_one, u8_back _ (by omega)]
  have e1 : numOf (((encC c ++ R).drop 1).take 1) = c.kind.toNat := by
    rw [e, show ((UInt8.ofNat c.attr.toNat :: UInt8.ofNat c.kind.toNat :: (encV c.a ++ (encV c.b ++ R))).drop 1).take 1 = [UInt8.ofNat c.kind.toNat] from rfl, numOf_one, u8_back _ (by omega)]
  have e2 : ((encC c ++ R).drop 1).drop 1 = encV c.a ++ (encV c.b ++ R) := by rw [e]; rfl
  rw [e0, e1, e2, rdV_enc c.a _ ha hsa]
  simp only [rdV_enc c.b _ hb hsb]
  obtain ⟨a, k, x, y⟩ := c
  simp only [Prod.mk.injEq, and_true]
  have z1 : ((a.toNat : Nat) : Int) = a := by simp only at h0; omega
  have z2 : ((k.toNat : Nat) : Int) = k := by simp only at hk; omega
  rw [z1, z2]
/-- A filter that can be told. -/
structure Tells (l : List Cd) : Prop where
  len : l.length ≤ 8
  tell : ∀ c ∈ l, tellB c = true
  numA : ∀ c ∈ l, -9223372036854775808 ≤ c.a.n ∧ c.a.n ≤ 9223372036854775807
  numB : ∀ c ∈ l, -9223372036854775808 ≤ c.b.n ∧ c.b.n ≤ 9223372036854775807
theorem rdL_enc : ∀ (l : List Cd) (_ : ∀ c ∈ l, tellB c = true) (_ : ∀ c ∈ l, -9223372036854775808 ≤ c.a.n ∧ c.a.n ≤ 9223372036854775807) (_ : ∀ c ∈ l, -9223372036854775808 ≤ c.b.n ∧ c.b.n ≤ 9223372036854775807), rdL l.length (encL l) = l
  | [], _, _, _ => rfl
  | c :: l, h1, h2, h3 => by
    have e : encL (c :: l) = encC c ++ encL l := by simp [encL]
    rw [e, List.length_cons]
    unfold rdL
    rw [rdC_enc c _ (h1 c (List.mem_cons_self ..)) (h2 c (List.mem_cons_self ..)) (h3 c (List.mem_cons_self ..))]
    simp only [rdL_enc l (fun x hx => h1 x (List.mem_cons_of_mem _ hx)) (fun x hx => h2 x (List.mem_cons_of_mem _ hx)) (fun x hx => h3 x (List.mem_cons_of_mem _ hx))]
theorem dec_enc {l : List Cd} (h : Tells l) : dec (enc l) = l := by
  unfold dec enc
  rw [show (UInt8.ofNat l.length :: encL l).take 1 = [UInt8.ofNat l.length] from rfl, numOf_one, show (UInt8.ofNat l.length :: encL l).drop 1 = encL l from rfl, u8_back _ (by have := h.len; omega), Nat.min_eq_left h.len]
  exact rdL_enc l h.tell h.numA h.numB
theorem goodT_enc {l : List Cd} (h : Tells l) : goodT (enc l) := by
  unfold goodT
  rw [dec_enc h]
  exact ⟨h.tell, rfl⟩
theorem enc_inj {l m : List Cd} (hl : Tells l) (hm : Tells m) (h : enc l = enc m) : l = m := by rw [← dec_enc hl, h, dec_enc hm]
theorem rdL_len : ∀ m L, (rdL m L).length = m
  | 0, _ => rfl
  | m + 1, L => by unfold rdL; rw [List.length_cons, rdL_len m]
theorem dec_len (L : List UInt8) : (dec L).length = min (numOf (L.take 1)) 8 := rdL_len _ _
end Go.Proofs.YtpbblaeamddbgaaGreat
namespace Go.Proofs.YtpbblaeamddbgaaGreat
open Go.RowKit

/-- Bytes as they lie in memory. -/
def byC (l : List UInt8) : List Value := l.map (fun b => Value.int .u8 (b.toNat : Int))
theorem byC_app (l m : List UInt8) : byC (l ++ m) = byC l ++ byC m := by simp [byC]
theorem byC_len (l : List UInt8) : (byC l).length = l.length := by simp [byC]
/-- Bytes that have been made since w0. -/
def BSl (w0 w : World) (ao : Option Addr) (cap : Nat) (l : List UInt8) : Prop := w.ownsRow w0.heap.size 5 1 (.slice ao l.length cap) l.length (byC l) ∧ Ext w0 w
theorem Tryz.infoBy : (Tryz.prog.info? 5).map (fun i => (i.zero, i.size, i.bytes)) = some (some (.int .u8 0), 1, 1) := by kernel_rfl
theorem BSl.ext {w0 w w' : World} {ao : Option Addr} {cap : Nat} {l : List UInt8} (h : BSl w0 w ao cap l) (e : Ext w w') : BSl w0 w' ao cap l := by
  obtain ⟨⟨h1, h2⟩, hE⟩ := h
  refine ⟨⟨h1, ?_⟩, hE.trans e⟩
  rcases h2 with h2 | ⟨g, cap', cur, hv, hb, hh, r⟩
  · exact Or.inl h2
  · exact Or.inr ⟨g, cap', cur, hv, hb, e.blk hh, r⟩
theorem BSl.grown {w0 w w' : World} {ao : Option Addr} {cap n : Nat} {l : List UInt8} (h : BSl w0 w ao cap l) (hg : w.grownBy w' (Value.slice ao n cap).ownBlock) : Ext w0 w' := by
  refine h.2.grown hg (fun k hk => ?_)
  obtain ⟨_, h2 | ⟨g, cap', cur, hv, hb, _⟩⟩ := h.1
  · obtain ⟨hv, _⟩ := h2
    simp only [Value.slice.injEq] at hv
    rw [hv.1] at hk
    simp [Value.ownBlock] at hk
  · simp only [Value.slice.injEq] at hv
    rw [hv.1] at hk
    simp [Value.ownBlock] at hk
    omega
theorem BSl.slice {w0 w : World} {v : Value} {l : List UInt8} (h : w.ownsRow w0.heap.size 5 1 v l.length (byC l)) : ∃ ao cap, v = .slice ao l.length cap := by
  rcases h.2 with ⟨hv, hn⟩ | ⟨g, cap', cur, hv, _⟩
  · exact ⟨none, 0, by rw [hv, hn]⟩
  · exact ⟨_, _, hv⟩
theorem own_blk (q : Option Addr) (n c : Nat) : (Value.slice q n c).ownBlock = blkOf q := by cases q <;> rfl
theorem BSl.kp {w w' : World} {ao : Option Addr} {cap n : Nat} (hg : w.grownBy w' (Value.slice ao n cap).ownBlock) : Kp (fun k => blkOf ao = some k) w w' := by
  rw [own_blk] at hg
  exact ⟨hg.os, hg.tape, hg.output, hg.size, fun k hk hne => hg.block k hk (fun e => hne e.symm)⟩
/-- 'append(b, x, y)'. -/
theorem wpList_appB {w0 w : World} {ops : Array Oper} {rest : List Oper} {o : Oper} {a : Act} {Q : Exit → Act → World → Prop} (hgd : o.guard = none) (s x : Operand)
    (ho : o.op = .call { callee := .builtin .append, args := #[s, x], argTypes := #[216, 216] })
    (ao : Option Addr) (cap : Nat) (l : List UInt8) (hs : a.eval s = .slice ao l.length cap) (hown : BSl w0 w ao cap l)
    (ad : Addr) (c : Nat) (news : List UInt8) (hx : a.eval x = .slice (some ad) news.length c) (hnews : ∀ j u, (byC news)[j]? = some u → w.cell? (ad.add j) = some u)
    (h63 : l.length + news.length ≤ 100000)
    (h : ∀ ao' cap' w', BSl w0 w' ao' cap' (l ++ news) → Kp (fun k => blkOf ao = some k) w w' → Hid (blkOf ao' = blkOf ao ∨ blkOf ao' = some w.heap.size) → wpList Tryz.prog ops Q rest (a.put o.dst (.slice ao' (l ++ news).length cap')) w') : wpList Tryz.prog ops Q (o :: rest) a w := by
  obtain ⟨i, hi, hz0, hz1, hz2⟩ := info_parts Tryz.infoBy
  refine wpList_append_own_at w hgd s x _ ho w0.heap.size 5 i (.int .u8 0) 1 1 Tryz.underlying216 hi hz0 hz1 hz2 rfl (by decide) _ l.length (byC l) hs hown.1 ad news.length c (byC news) hx (by rw [byC_len]; omega) hnews (by intro u hu; simp [byC] at hu; obtain ⟨_, _, rfl⟩ := hu; rfl) (by unfold maxLen; omega) (by omega) hown.2.le ?_
  intro v' w' hown' hgrow _ hat
  rw [← byC_app, ← List.length_append] at hown'
  obtain ⟨ao', cap', rfl⟩ := BSl.slice hown'
  rw [own_blk, own_blk] at hat
  exact h ao' cap' w' ⟨hown', hown.grown hgrow⟩ (BSl.kp hgrow) hat
/-- 'append(b, s...)', s a word. -/
theorem wpList_appS {w0 w : World} {ops : Array Oper} {rest : List Oper} {o : Oper} {a : Act} {Q : Exit → Act → World → Prop} (hgd : o.guard = none) (s x : Operand)
    (ho : o.op = .call { callee := .builtin .append, args := #[s, x], argTypes := #[216, 9] })
    (ao : Option Addr) (cap : Nat) (l : List UInt8) (hs : a.eval s = .slice ao l.length cap) (hown : BSl w0 w ao cap l)
    (t : ByteArray) (hx : a.eval x = .string t)
    (h63 : l.length + t.size ≤ 100000)
    (h : ∀ ao' cap' w', BSl w0 w' ao' cap' (l ++ bl t) → Kp (fun k => blkOf ao = some k) w w' → wpList Tryz.prog ops Q rest (a.put o.dst (.slice ao' (l ++ bl t).length cap')) w') : wpList Tryz.prog ops Q (o :: rest) a w := by
  obtain ⟨i, hi, hz0, hz1, hz2⟩ := info_parts Tryz.infoBy
  refine Lib.wpList_append_own_string w hgd s x _ _ ho w0.heap.size 5 i Tryz.underlying216 Tryz.underlying9 hi hz0 hz1 hz2 _ l.length (byC l) hs hown.1 t hx (by unfold maxLen; omega) (by omega) hown.2.le ?_
  intro v' w' hown' hgrow _
  have e : Lib.strCells t = byC (bl t) := by simp [Lib.strCells, byC, bl]
  rw [e, ← byC_app, ← bl_size, ← List.length_append] at hown'
  obtain ⟨ao', cap', rfl⟩ := BSl.slice hown'
  exact h ao' cap' w' ⟨hown', hown.grown hgrow⟩ (BSl.kp hgrow)
/-- '[]byte(s)'. -/
theorem wpList_toBytes {w : World} {ops : Array Oper} {rest : List Oper} {o : Oper} {a : Act} {Q : Exit → Act → World → Prop} (hgd : o.guard = none) (x : Operand)
    (ho : o.op = .convert 9 216 x) (l : List UInt8) (hx : a.eval x = .string (strB l))
    (h : ∀ cap' w', (∀ j (hj : j < l.length), w'.cell? ⟨w.heap.size, j, none⟩ = some (.int .u8 (l[j].toNat : Int))) → Ext w w' → wpList Tryz.prog ops Q rest (a.put o.dst (.slice (some ⟨w.heap.size, 0, none⟩) l.length cap')) w') : wpList Tryz.prog ops Q (o :: rest) a w := by
  refine wpList_plain hgd fun K hK => ?_
  have hr := run_bytes_of_string (P := Tryz.prog) w 9 216 5 (strB l) Tryz.underlying9 Tryz.underlying216 Tryz.underlying5
  unfold Oper.wp execOp
  rw [str_size] at hr
  simp only [ho, hx, Sem.run_bind, Sem.run_pure, hr, Result.andThen_ok]
  refine hK _ _ (h _ _ (fun j hj => ?_) ((Ext.refl _).drew.alloc _))
  have h2 := World.cell?_alloc_mark w.drew (bytesRow (strB l) (grownCap w l.length 0 5)) 5 ((bytesRow (strB l) (grownCap w l.length 0 5)).size, (bytesRow (strB l) (grownCap w l.length 0 5)).size + 1) j
  refine h2.trans ?_
  rw [bytesRow_at _ _ _ (by simpa [strB] using hj)]
  simp [strB]
/-- 'string(b)'. -/
theorem BSl.cell {w0 w : World} {ao : Option Addr} {cap : Nat} {l : List UInt8} (h : BSl w0 w ao cap l) (hl : 0 < l.length) : ∃ g, ao = some ⟨g, 0, none⟩ ∧ ∀ j (hj : j < l.length), w.cell? ((⟨g, 0, none⟩ : Addr).add j) = some (.int .u8 (l[j].toNat : Int)) := by
  obtain ⟨h1, h2 | ⟨g, cap', cur, hv, hb, hh, hc, hm, hs, ht⟩⟩ := h.1
  · omega
  · simp only [Value.slice.injEq] at hv
    refine ⟨g, hv.1, fun j hj => ?_⟩
    rw [add_lt]
    have hj2 : (byC l)[j]? = some (.int .u8 (l[j].toNat : Int)) := by simp [byC, hj]
    rw [← ht, List.getElem?_take, if_pos (by omega)] at hj2
    unfold World.cell?
    rw [hh]
    simpa using hj2
theorem wpList_ofBytes {w0 w : World} {ops : Array Oper} {rest : List Oper} {o : Oper} {a : Act} {Q : Exit → Act → World → Prop} (hgd : o.guard = none) (x : Operand)
    (ho : o.op = .convert 216 9 x) (ao : Option Addr) (cap : Nat) (l : List UInt8) (hx : a.eval x = .slice ao l.length cap) (hown : BSl w0 w ao cap l) (hl : 0 < l.length)
    (h : wpList Tryz.prog ops Q rest (a.put o.dst (.string (strB l))) w) : wpList Tryz.prog ops Q (o :: rest) a w := by
  refine wpList_plain hgd fun K hK => ?_
  obtain ⟨g, rfl, hc⟩ := hown.cell hl
  have hr := run_convert_bytes_back (P := Tryz.prog) w 216 9 5 ⟨g, 0, none⟩ cap l Tryz.underlying216 Tryz.underlying5 Tryz.underlying9 hc
  unfold Oper.wp execOp
  simp only [ho, hx, Sem.run_bind, Sem.run_pure, hr, Result.andThen_ok]
  exact hK _ _ h
end Go.Proofs.YtpbblaeamddbgaaGreat
namespace Go.Proofs.YtpbblaeamddbgaaGreat
open Go.RowKit

theorem ext_take (L : List UInt8) (k : Nat) : (strB L).extract 0 (min k L.length) = strB (L.take k) := by
  apply ByteArray.ext
  rw [ByteArray.data_extract]
  simp only [strB]
  apply Array.toList_inj.1
  simp
theorem ext_drop (L : List UInt8) (k : Nat) : (strB L).extract (min k L.length) L.length = strB (L.drop k) := by
  apply ByteArray.ext
  rw [ByteArray.data_extract]
  simp only [strB]
  apply Array.toList_inj.1
  simp
  rcases Nat.le_total k L.length with h | h
  · rw [Nat.min_eq_left h]
    rw [List.take_of_length_le (by simp)]
  · rw [Nat.min_eq_right h]
    simp [List.drop_eq_nil_of_le h]
/-- The reader, and what is left to be read. -/
def RdAt (w : World) (rb : Nat) (L : List UInt8) : Prop := Row w rb 213 [.string (strB L)]

set_option maxRecDepth 100000 in
theorem take_any (rb k : Nat) (L : List UInt8) (w : World) (hr : RdAt w rb L) (hk : k ≤ 1000) (hL : L.length ≤ 9223372036854775807) :
    Calls Tryz.prog 164 #[.pointer (some ⟨rb, 0, none⟩), .int .i64 k] w fun e w' => e = .returned (.string (strB (L.take k))) ∧ RdAt w' rb (L.drop k) ∧ Kp (fun b => b = rb) w w' := by
  have h0 : w.cell? ⟨rb, 0, none⟩ = some (.string (strB L)) := Row.at hr rfl
  have hz : w.frozen? ⟨rb, 0, none⟩ = false := Row.frozen hr 0
  have HR : Hid (RdAt w rb L) := hr
  have hsz := str_size L
  have e1 := ext_take L k
  have e2 := ext_drop L k
  clear hr
  go_enter Tryz.func164, Tryz.ntmps164
  go_wp2
  have hm : (min (k : Int) (L.length : Int)).toNat = min k L.length := by omega
  rw [hm, e1, e2]
  go_ret
  exact ⟨rfl, Row.set HR.out 0 _, (Kp.refl (fun b => b = rb) w).setCell (fun _ => rfl) _⟩

theorem numOf_app (l : List UInt8) (b : UInt8) : numOf (l ++ [b]) = numOf l * 256 + b.toNat := by simp [numOf]
theorem numOf_fold : ∀ (l : List UInt8) (acc : Nat), l.foldl (fun n b => n * 256 + b.toNat) acc < (acc + 1) * 256 ^ l.length
  | [], acc => by simp
  | b :: l, acc => by
    rw [List.foldl_cons, List.length_cons, Nat.pow_succ]
    have h := numOf_fold l (acc * 256 + b.toNat)
    have hb := b.toNat_lt
    have h2 : (acc * 256 + b.toNat + 1) * 256 ^ l.length ≤ ((acc + 1) * 256) * 256 ^ l.length := Nat.mul_le_mul_right _ (by omega)
    have h3 : (acc + 1) * (256 ^ l.length * 256) = ((acc + 1) * 256) * 256 ^ l.length := by rw [Nat.mul_comm (256 ^ l.length), Nat.mul_assoc]
    omega
theorem numOf_lt (l : List UInt8) (k : Nat) (h : l.length ≤ k) : numOf l < 256 ^ k := by
  have h1 := numOf_fold l 0
  rw [Nat.zero_add, Nat.one_mul] at h1
  exact Nat.lt_of_lt_of_le h1 (Nat.pow_le_pow_right (by decide) h)
theorem take_snoc (B : List UInt8) (j : Nat) (hj : j < B.length) : numOf (B.take (j + 1)) = numOf (B.take j) * 256 + B[j].toNat := by
  rw [List.take_succ_eq_append_getElem hj, numOf_app]
theorem bits_or8 (n b : Nat) (hn : n < 72057594037927936) (hb : b < 256) : bits BinOp.or IntKind.u64 ((n : Int) * 256) (b : Int) = ((n * 256 + b : Nat) : Int) := by
  have e1 : BitVec.ofInt 64 ((n : Int) * 256) = BitVec.ofNat 64 (n * 256) := by
    rw [show ((n : Int) * 256) = ((n * 256 : Nat) : Int) by omega, BitVec.ofInt_natCast]
  have e2 : BitVec.ofInt 64 (b : Int) = BitVec.ofNat 64 b := BitVec.ofInt_natCast ..
  have e3 : (BitVec.ofNat 64 (n * 256) ||| BitVec.ofNat 64 b).toNat = n * 256 + b := by
    rw [BitVec.toNat_or, BitVec.toNat_ofNat, BitVec.toNat_ofNat, Nat.mod_eq_of_lt (by omega), Nat.mod_eq_of_lt (by omega)]
    have h := Nat.shiftLeft_add_eq_or_of_lt (show b < 2 ^ 8 by omega) n
    rw [Nat.shiftLeft_eq] at h
    exact h.symm
  show IntKind.u64.wrap (((BitVec.ofInt 64 ((n : Int) * 256) ||| BitVec.ofInt 64 (b : Int)).toNat : Nat) : Int) = _
  rw [e1, e2, e3, IntKind.wrap_u64]
  omega
set_option maxRecDepth 100000 in
theorem number_any (rb k : Nat) (L : List UInt8) (w : World) (hr : RdAt w rb L) (hk : k ≤ 8) (hL : L.length ≤ 9223372036854775807) :
    Calls Tryz.prog 112 #[.pointer (some ⟨rb, 0, none⟩), .int .i64 k] w fun e w' => e = .returned (.int .u64 (numOf (L.take k))) ∧ RdAt w' rb (L.drop k) ∧ Kp (fun b => b = rb) w w' := by
  have HT : Hid _ := take_any rb k L w hr (by omega) hL
  have hl8 : (L.take k).length ≤ 8 := by simp; omega
  clear hr
  generalize L.take k = B at *
  generalize L.drop k = R at *
  go_enter Tryz.func112, Tryz.ntmps112
  go_wp2_with fail
  refine Calls.mono HT.out ?_
  rintro e w1 ⟨rfl, hr1, hK1⟩
  have HR1 : Hid (RdAt w1 rb R) := hr1
  have HK1 : Hid (Kp (fun b => b = rb) w w1) := hK1
  clear HT hr1 hK1
  go_wp2_with (first
    | (refine wpList_toBytes rfl _ rfl B rfl ?_; intro cap2 w2 hc2 hE2))
  have HC2 : Hid (∀ (j : Nat) (hj : j < B.length), w2.cell? ⟨w1.heap.size, j, none⟩ = some (.int .u8 (B[j].toNat : Int))) := hc2
  clear hc2
  go_loopw [5, 13] (fun v5 v13 wr => ∃ (j : Nat), j ≤ B.length ∧ v13 = .int .i64 j ∧ v5 = .int .u64 (numOf (B.take j) : Int) ∧ wr = w2) (fun _ v13 _ => B.length - (intOf v13).toNat)
  case atStart => exact ⟨0, Nat.zero_le _, rfl, rfl, rfl⟩
  case round =>
    obtain ⟨j, hj, rfl, rfl, rfl⟩ := hrel
    by_cases hlt : j < B.length
    · have hli : (j : Int) < (B.length : Int) := by omega
      have c0 := HC2.out j hlt
      have hn := numOf_lt (B.take j) 7 (by simp; omega)
      have hb := B[j].toNat_lt
      have HS := take_snoc B j hlt
      generalize B[j].toNat = b at *
      generalize numOf (B.take j) = n at *
      go_wp2
      go_roundw
      case rel => exact ⟨j + 1, by omega, by go_num, by rw [HS, bits_or8 n b (by omega) (by omega)], trivial⟩
      case measure => simp [intOf]; omega
    · have hli : ¬ (j : Int) < (B.length : Int) := by omega
      have HB : Hid (B.take j = B) := List.take_of_length_le (by omega)
      rw [HB.out]
      go_wp2
      go_ret
      exact ⟨rfl, Row.ext HR1.out hE2, HK1.out.trans (hE2.kp _)⟩
end Go.Proofs.YtpbblaeamddbgaaGreat
