import Derived.Test.YtpbblaeamddbgaaGreatGL
import Derived.Test.YtpbblaeamddbgaaGreatGI
namespace Go.Proofs.YtpbblaeamddbgaaGreat
open Go.RowKit

section
variable {w : World} {own : Nat → ITag} {eb : Nat} {pre : List Value} {ev : Value} {fl : List Int} {fa : Option Addr} {fcap : Nat} {Sh : Nat → ShR} {K0 : List (Int × Int × List Cd)}
theorem free_turn {w W : World} (S : IxSt w own eb pre ev fl fa fcap Sh K0) (hp : pre.length = 4) (fl' : List Int) (fa' : Option Addr) (fcap' : Nat) (hK : Kp (fun b => blkOf fa = some b) w W) (hO : OSl W 3 1 fa' fl'.length fcap' (fl'.map (Value.int .i64))) (hat : ∀ g, blkOf fa' = some g → blkOf fa = some g ∨ w.heap.size ≤ g) :
    ∃ own', IxSt (W.setCell ⟨eb, 4, none⟩ (.slice fa' fl'.length fcap')) own' eb pre ev fl' fa' fcap' Sh K0 ∧ (∀ b, b < w.heap.size → own' b = own b) ∧ Kp (fun b => b = eb ∨ own b ≠ .no) w (W.setCell ⟨eb, 4, none⟩ (.slice fa' fl'.length fcap')) := by
  have hks : Kp (fun b => b = eb) W (W.setCell ⟨eb, 4, none⟩ (.slice fa' fl'.length fcap')) := (Kp.refl (fun b => b = eb) W).setCell (fun _ => rfl) _
  have hz := hK.size
  have hfe : ∀ g, blkOf fa = some g → own g = .free := fun g hg => S.at_.tf g hg
  have hne : blkOf fa ≠ some eb := fun h => by
    have := hfe eb h
    rw [S.eb] at this; cases this
  have hne' : ∀ g, blkOf fa' = some g → g ≠ eb := fun g hg e => by
    rcases hat g hg with h | h
    · exact hne (e ▸ h)
    · have := S.row.lt; omega
  have hall : Kp (fun b => b = eb ∨ blkOf fa = some b) w (W.setCell ⟨eb, 4, none⟩ (.slice fa' fl'.length fcap')) := (hK.mono (fun b _ h => Or.inr h)).trans (hks.mono (fun b _ h => Or.inl h))
  let own' : Nat → ITag := fun b => if b < w.heap.size then own b else @ite _ (blkOf fa' = some b) (Classical.propDecidable _) .free .no
  have o1 : ∀ b, b < w.heap.size → own' b = own b := fun b hb => if_pos hb
  have o2 : ∀ b, own b ≠ .no → own' b = own b := fun b hb => o1 b (S.at_.lt hb)
  have hm : ∀ b, own b ≠ .no → own b ≠ .free → ¬ (b = eb ∨ blkOf fa = some b) := fun b h1 h2 h => by
    rcases h with h | h
    · rw [h, S.eb] at h1; exact h1 rfl
    · exact h2 (hfe b h)
  refine ⟨own', ⟨⟨?_, ?_, ?_, ?_, ?_, ?_, ?_⟩, S.g, ?_, ?_⟩, o1, hall.mono (fun b _ h => ?_)⟩
  · exact hO.kp hks (fun g hg => hne' g hg)
  · intro i hi
    exact (S.at_.sh i hi).kp hall (fun g hg => hm g (by rw [S.at_.ts i hi g hg]; simp) (by rw [S.at_.ts i hi g hg]; simp))
  · intro i hi e he
    exact (S.at_.ow i hi e he).kp hall (fun g hg => hm g (by rw [S.at_.to i hi e he g hg]; simp) (by rw [S.at_.to i hi e he g hg]; simp))
  · intro g hg
    rcases hat g hg with h | h
    · rw [o2 g (by rw [hfe g h]; simp)]; exact hfe g h
    · show (if g < w.heap.size then own g else _) = _
      rw [if_neg (by omega), if_pos hg]
  · intro i hi g hg
    rw [o2 g (by rw [S.at_.ts i hi g hg]; simp)]; exact S.at_.ts i hi g hg
  · intro i hi e he g hg
    rw [o2 g (by rw [S.at_.to i hi e he g hg]; simp)]; exact S.at_.to i hi e he g hg
  · intro g hg
    show (if g < w.heap.size then own g else _) = _
    have hg' : W.heap.size ≤ g := Nat.le_trans hks.size hg
    rw [if_neg (by omega), if_neg (fun h => by have := hO.lt h; omega)]
  · have := (hK.row S.row hne).set 4 (.slice fa' fl'.length fcap')
    rw [eng_setF pre hp] at this
    exact this
  · rw [o1 eb S.row.lt]; exact S.eb
  · rcases h with h | h
    · exact Or.inl h
    · exact Or.inr (by rw [hfe b h]; simp)

set_option maxHeartbeats 3200000 in
set_option maxRecDepth 100000 in
theorem add_none (S : IxSt w own eb pre ev fl fa fcap Sh K0) (hp : pre.length = 4) (hfl : fl.length ≤ 1000) (id : Int) (ao : Option Addr) (cap : Nat) :
    Calls Tryz.prog 51 #[.pointer (some ⟨eb, 4, none⟩), .agg #[.int .i64 id, .slice ao 0 cap]] w fun e w' => e = .returned (.tuple #[]) ∧ ∃ own' fa' fcap' Sh', IxSt w' own' eb pre ev (fl ++ [id]) fa' fcap' Sh' (K0 ++ [(id, 0, [])]) ∧ (∀ b, b < w.heap.size → own' b = own b) ∧ Kp (fun b => b = eb ∨ own b ≠ .no) w w' := by
  obtain ⟨wa, hwa⟩ : ∃ wa, wa = w.alloc (.cells #[.int .i64 id, .slice ao 0 cap] 130) := ⟨_, rfl⟩
  have hEa : Ext w wa := by rw [hwa]; exact (Ext.refl _).alloc _
  have hBx : Row wa w.heap.size 130 [.int .i64 id, .slice ao 0 cap] := by rw [hwa]; exact row_alloc _ _ _ _ _ rfl rfl
  have x0 := hBx.at (j := 0) rfl
  have x1 := hBx.at (j := 1) rfl
  have hSa := S.ext hEa
  have e4 := hSa.row.at (eng_free pre hp fa fl.length fcap Sh ev)
  have e4A : ∀ ob : Obj, (wa.alloc ob).cell? ⟨eb, 4, none⟩ = some (.slice fa fl.length fcap) := fun ob => ((Ext.refl _).alloc ob).cell e4
  have hne : blkOf fa ≠ some eb := fun h => by
    have h1 := S.at_.tf eb h
    rw [S.eb] at h1; cases h1
  have hBl := hBx.lt
  have hebl := S.row.lt
  have hb0 : w.heap.size < wa.heap.size := hBl
  have hbe : w.heap.size ≠ eb := by omega
  have HBox : Hid (∀ W, Kp (fun b => blkOf fa = some b) wa W → Row W w.heap.size 130 [.int .i64 id, .slice ao 0 cap]) := fun W k => k.row hBx (fun h => by
    have h1 := S.at_.lt (b := w.heap.size) (by rw [S.at_.tf _ h]; simp)
    omega)
  have HER : Hid (∀ W, Kp (fun b => blkOf fa = some b) wa W → W.cell? ⟨eb, 4, none⟩ = some (.slice fa fl.length fcap) ∧ W.frozen? ⟨eb, 4, none⟩ = false) := fun W k => by
    have := k.row hSa.row hne
    exact ⟨this.at (eng_free pre hp fa fl.length fcap Sh ev), this.frozen 4⟩
  have HFin : Hid (∀ W fa' fcap', Kp (fun b => blkOf fa = some b) wa W → OSl W 3 1 fa' (fl.length + 1) fcap' (fl.map (Value.int .i64) ++ [.int .i64 id]) → (∀ g, blkOf fa' = some g → blkOf fa = some g ∨ wa.heap.size ≤ g) → ∃ own' fa'' fcap'' Sh', IxSt (W.setCell ⟨eb, 4, none⟩ (.slice fa' (fl.length + 1) fcap')) own' eb pre ev (fl ++ [id]) fa'' fcap'' Sh' (K0 ++ [(id, 0, [])]) ∧ (∀ b, b < w.heap.size → own' b = own b) ∧ Kp (fun b => b = eb ∨ own b ≠ .no) w (W.setCell ⟨eb, 4, none⟩ (.slice fa' (fl.length + 1) fcap'))) := fun W fa' fcap' hK hO hat => by
    obtain ⟨own', h1, h2, h3⟩ := free_turn hSa hp (fl ++ [id]) fa' fcap' hK (by simpa using hO) hat
    simp only [List.length_append, List.length_singleton] at h1 h3
    refine ⟨own', fa', fcap', Sh, ⟨h1.at_, add_zero h1.g id 0, h1.row, h1.eb⟩, fun b hb => h2 b (by omega), (hEa.kp _).trans h3⟩
  have HO : Hid (OSl wa 3 1 fa fl.length fcap (fl.map (Value.int .i64))) := hSa.at_.free
  have HB1 : Hid (fl.length + 1 ≤ maxLen) := by show _ ≤ _; unfold maxLen; omega
  have HB2 : Hid ((fl.length + 1) * 8 ≤ 140737488355328) := by show _ ≤ _; omega
  clear hSa S hEa hBx hne
  go_enter Tryz.func51, Tryz.ntmps51
  go_wp2_with fail
  rw [← hwa]
  clear hwa
  go_region_law (refine step_app (by rfl) _ _ 25 (by rfl) 3 (.int .i64 0) 1 8 Tryz.underlying25 Tryz.infoInt rfl (by decide) fa fl.length fcap _ (by rfl) (OSl.ext (OSl.ext HO.out (Ext.refl _).drew) ((Ext.refl _).alloc _)) ⟨wa.heap.size, 0, none⟩ 1 1 [.int .i64 id] (by rfl) rfl (one_new wa.drew 3 (.int .i64 id)) (by intro u hu; simp at hu; subst hu; rfl) (by decide) HB1.out HB2.out ?_; intro ro3 rcap3 w3 hown3 hk3 hat3; have hk4 := ((((Ext.refl wa).drew).alloc _).kp _).trans hk3; have cI := (HER.out w3 hk4).1; have fI := (HER.out w3 hk4).2)
  all_goals
    have hb3 := (HBox.out w3 hk4).setOther (p := ⟨eb, 4, none⟩) (fun e => hbe e.symm) (.slice ro3 (fl.length + 1) rcap3)
    have y1 := hb3.at (j := 1) rfl
    have HP : Hid _ := HFin.out w3 ro3 rcap3 hk4 hown3 (fun g hg => by
      rcases hat3.out with h | h
      · exact Or.inl (h ▸ hg)
      · rw [h] at hg; cases hg; exact Or.inr (Ext.le (((Ext.refl wa).alloc _).drew)))
    clear hk4 hown3 hk3 hat3 HFin hb3 HBox HER
    generalize w3.setCell ⟨eb, 4, none⟩ (.slice ro3 (fl.length + 1) rcap3) = W4 at *
    go_wp2_with fail
    go_loopw [28] (fun vi wr => vi = .int .i64 0 ∧ wr = W4) (fun _ _ => 0)
    case atStart => exact ⟨rfl, rfl⟩
    case round =>
      obtain ⟨rfl, rfl⟩ := hrel
      go_wp2
      go_end0
      exact ⟨rfl, HP.out⟩
end
end Go.Proofs.YtpbblaeamddbgaaGreat
