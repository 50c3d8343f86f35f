import Derived.Test.YtepioeaomlmocaaMadeE
namespace Go.Proofs.Ytepioeaomlmocaa
open Go.RowKit

set_option maxHeartbeats 800000 in
set_option maxRecDepth 100000 in
theorem made_yes {E : World → Nat → (Nat → Prop) → List Int → List (Int × List Cd) → Prop} (C : EngC E) (wb : Nat) (ea ra : Option Addr) (n ecap rcap : Nat) (es rs : List Value) (v5 : Value) (own : Nat → Nat) (ia : Option Addr) (ic icap : Nat) (vs : List Value) (te tr : Nat) (a : Addr) (cap : Nat) (xs : List Int) (w : World) (hl : xs.length * 8 ≤ 140737488351232) (hx : Ixs w (some a) xs) (hs : schB xs = true) (hnb : (n + 1) * 8 ≤ 140737488355328)
    (S : St w own wb (.slice ea n ecap) (.slice ra n rcap) v5 ia ic icap vs) (hea : OSl w 28 1 ea n ecap es) (hra : OSl w 64 1 ra n rcap rs) (hoe : ∀ g, blkOf ea = some g → own g = 3) (hor : ∀ g, blkOf ra = some g → own g = 3) (hte : 10 ≤ te) (htr : 10 ≤ tr) (htt : te ≠ tr) (s3 : ∀ g, blkOf ea = some g → ¬ blkOf ra = some g) :
    Calls Try.prog 16 #[.pointer (some ⟨wb, 0, none⟩), .slice (some a) xs.length cap] w fun e w' => e = .returned (.bool true) ∧ MadePost E w w' own wb v5 ia ic icap vs n es rs te tr xs := by
  have hW := S.row
  have s1 : ∀ g, blkOf ea = some g → g ≠ wb := fun g hg e => by have h1 := hoe g hg; rw [e, S.ow] at h1; omega
  have s2 : ∀ g, blkOf ra = some g → g ≠ wb := fun g hg e => by have h1 := hor g hg; rw [e, S.ow] at h1; omega
  have qT : ∀ (w : World) (a : Option Addr) (n c n' c' : Nat), (binOp .eql 27 (.slice a n c) (.slice none n' c')).run Try.prog w = .ok (.bool a.isNone) w := fun w a n c n' c' => Lib.run_eql_slice_nil w _ _ a n c n' c' Try.underlying27
  have HS : Hid (∀ w, Ixs w (some a) xs → Calls Try.prog 33 #[.slice (some a) xs.length cap] w fun e w' => e = .returned (.bool true) ∧ w' = w) := fun w h => by
    have := rSchema_any (some a) cap xs w hl h
    rw [hs] at this; exact this
  have hsH : Hid (schB xs = true) := hs
  have hlen : 1 ≤ xs.length ∧ xs.length ≤ 6 := by
    simp only [schB, Bool.and_eq_true, decide_eq_true_eq] at hs
    exact hs.2
  obtain ⟨hl1, hl6⟩ := hlen
  have Hb1 : Hid (n + 1 ≤ maxLen) := hid_of (by unfold maxLen; omega)
  have Hc1 : Hid ((n + 1) * 8 ≤ 140737488355328) := hid_of hnb
  have Hb0 : Hid (0 + xs.length ≤ maxLen) := hid_of (by unfold maxLen; omega)
  have Hc0 : Hid ((0 + xs.length) * 8 ≤ 140737488355328) := hid_of (by omega)
  clear hs
  go_enter Try.func16, Try.ntmps16
  go_wp2_with fail
  refine (numbers_any _ cap xs w hl hx).mono ?_
  rintro e w1 ⟨rfl, hr1, hE1⟩
  go_wp2_with fail
  refine (C.new_ok (some ⟨w.heap.size, 0, none⟩) (xs.length + 3) xs w1 hl (pad_ints hr1) (fun h => by cases h) hsH.out).mono ?_
  rintro e w2 ⟨eb, rfl, hE2, he2⟩
  go_wp2_with fail
  refine (HS.out w2 ((hx.ext hE1).ext hE2)).mono ?_
  rintro e w3 ⟨rfl, rfl⟩
  go_wp2_with fail
  refine (wholeNumbers_any w.heap.size _ cap xs w3 hl (hr1.ext hE2) ((hx.ext hE1).ext hE2)).mono ?_
  rintro e w4 ⟨rfl, hk4⟩
  have hE4 : Ext w w4 := (hE1.trans hE2).kpFresh hk4 (Nat.le_refl _)
  have r0 := (hW.ext hE4).at (j := 0) rfl
  have ta : True := trivial
  have tb : True := trivial
  have tc : True := trivial
  go_wp2_with (first
    | (at_builtin; have _t := ta; go_must (refine wpList_app rfl (.tmp 41) (.tmp 42) 27 rfl 3 (.int .i64 0) 1 8 Try.underlying27 Try.infoInt rfl (by decide) none 0 0 [] rfl (OSl.nil _ _ _) (some a) xs.length cap (xs.map (Value.int .i64)) rfl (by intro h; cases h) (by simp) (ixs_src (hx.ext hE4)) (ints_oneCell' _) Hb0.out Hc0.out ?_; intro oo ocap w5 hoo hk5 at5; simp only [Nat.zero_add, List.nil_append] at hoo; have hE5 : Ext w4 w5 := hk5.ext (fun _ _ h => by cases h); have hEw5 : Ext w w5 := hE4.trans hE5; have p0 := hEw5.cell (hW.at (j := 0) rfl); have hf5 : Hid (∀ g, blkOf oo = some g → w4.heap.size ≤ g) := fresh1 (Nat.le_refl _) at5; clear ta))
    | (at_builtin; have _t := tb; go_must (refine wpList_app rfl (.tmp 48) (.tmp 50) 54 rfl 28 (.pointer none) 1 8 Try.underlying54 Try.infoPe rfl (by decide) ea n ecap _ rfl (OSl.ext (OSl.ext hea hEw5) ((Ext.refl _).alloc _)) (some ⟨w5.heap.size, 0, none⟩) 1 1 [.pointer (some ⟨eb, 0, none⟩)] rfl (by intro h; cases h) rfl (fun _ => ⟨_, rfl, one_new _ _ _⟩) (by intro u hu; simp at hu; subst hu; rfl) Hb1.out Hc1.out ?_; intro ea6 ecap6 w6 hes6 hk6 at6; have hR6 := hk6.row ((hW.ext hEw5).ext ((Ext.refl _).alloc _)) (fun h => s1 wb h rfl); have p60 := hR6.at (j := 0) rfl; have p61 := hR6.at (j := 1) rfl; have z6 := hR6.frozen; have hra6 := ((hra.ext hEw5).ext ((Ext.refl _).alloc _)).kp hk6 (fun g hg he => s3 g he hg); have hraS : OSl (w6.setCell ⟨wb, 0, none⟩ (.slice ea6 (n + 1) ecap6)) 64 1 ra n rcap rs := hra6.kp ((Kp.refl (fun b => b = wb) _).setCell (fun _ => rfl) _) (fun g hg => s2 g hg); clear tb))
    | (at_builtin; have _t := tc; go_must (refine wpList_app rfl (.tmp 58) (.tmp 62) 55 rfl 64 (.pointer none) 1 8 Try.underlying55 Try.infoPr rfl (by decide) ra n rcap _ rfl (OSl.ext (OSl.ext hraS ((Ext.refl _).alloc _)) ((Ext.refl _).alloc _)) (some ⟨w6.heap.size + 1, 0, none⟩) 1 1 [.pointer (some ⟨w6.heap.size, 0, none⟩)] rfl (by intro h; cases h) rfl (fun _ => ⟨_, rfl, one_new' _ _ _ _ (by simp [World.setCell])⟩) (by intro u hu; simp at hu; subst hu; rfl) Hb1.out Hc1.out ?_; intro ra7 rcap7 w7 hrs7 hk7 at7; have hR7 := hk7.row (((hR6.set 0 (.slice ea6 (n + 1) ecap6)).ext ((Ext.refl _).alloc _)).ext ((Ext.refl _).alloc _)) (fun h => s2 wb h rfl); have p71 := hR7.at (j := 1) rfl; have z7 := hR7.frozen; clear tc)))
  go_ret
  refine ⟨rfl, made_end C S hoe hor s3 hte htr htt hl1 hE1 hr1.lt hE2 he2 hk4 hE5 hoo hf5.out ((((Ext.refl _).alloc _).kp _).trans hk6) hes6 ?_ ((((Kp.refl (fun b => b = wb) w6).setCell (fun _ => rfl) _).trans (((Ext.refl _).alloc _).kp _)).trans (((Ext.refl _).alloc _).kp _)) rfl ?_ hk7 hrs7 ?_ ((Kp.refl (fun b => b = wb) w7).setCell (fun _ => rfl) _) ?_⟩
  · intro g hg
    rcases at6.out with e | e
    · rw [e] at hg; exact Or.inl hg
    · rw [e] at hg; cases hg; exact Or.inr (by simp)
  · exact Row.ext (row_alloc _ _ _ _ _ (by simp [World.setCell]) rfl) ((Ext.refl _).alloc _)
  · intro g hg
    rcases at7.out with e | e
    · rw [e] at hg; exact Or.inl hg
    · rw [e] at hg; cases hg; exact Or.inr (Nat.le_refl _)
  · intro v2 v3 v4 hr
    have e1 := ((hk6.row ((hr.ext hEw5).ext ((Ext.refl _).alloc _)) (fun h => s1 wb h rfl)).set 0 (.slice ea6 (n + 1) ecap6)).ext ((Ext.refl _).alloc (.cells #[.slice oo xs.length ocap, .slice none 0 0, .int .i64 0] 94))
    exact (hk7.row (e1.ext ((Ext.refl _).alloc _)) (fun h => s2 wb h rfl)).set 1 _
end Go.Proofs.Ytepioeaomlmocaa
