/-
  The contracts of the document's own comparisons of cards, at cards that are the same.
-/
import Derived.Test.YtdbbhdngohnemaaKBase8
import Derived.Test.YtdbbhdngohnemaaTexts7
import Derived.BigQuiet
namespace Go.Proofs.Ytdbbhdngohnemaa
open Go.RowKit

theorem samec_any (I : ByteArray) (K : Int) (va vb : Value) (m : List ByteArray) (w : World) (ha : Gl .string w va m) (hb : Gl .string w vb m) :
    Calls Try.prog 17 #[.agg #[.string I, .int .i64 K, va], .agg #[.string I, .int .i64 K, vb]] w fun e w' => e = .returned (.bool true) ∧ Below w.heap.size w w' := by
  obtain ⟨aa, ca, rfl, -⟩ := id ha
  obtain ⟨ab, cb, rfl, -⟩ := id hb
  obtain ⟨W, hW⟩ : ∃ W, W = (w.alloc (.cells #[.string I, .int .i64 K, .slice aa m.length ca] 25)).alloc (.cells #[.string I, .int .i64 K, .slice ab m.length cb] 25) := ⟨_, rfl⟩
  have B0 : Below w.heap.size w W := by rw [hW]; exact (below_alloc _ _).alloc (by simp) _
  have HA := ha.below B0
  have HB := hb.below B0
  have c0 : W.cell? ⟨w.heap.size, 0, none⟩ = some (.string I) := by rw [hW]; simp [go_sem]
  have c1 : W.cell? ⟨w.heap.size, 1, none⟩ = some (.int .i64 K) := by rw [hW]; simp [go_sem]
  have d0 : W.cell? ⟨w.heap.size + 1, 0, none⟩ = some (.string I) := by rw [hW]; simp [go_sem]
  have d1 : W.cell? ⟨w.heap.size + 1, 1, none⟩ = some (.int .i64 K) := by rw [hW]; simp [go_sem]
  have HW := hide hW
  clear hW ha hb
  go_enter Try.func17, Try.ntmps17
  go_wp2_with fail
  rw [← unhide HW]
  refine (texts_any _ _ m m _ HA HB true (by simp)).mono ?_
  rintro e w1 ⟨rfl, B1⟩
  have xc0 := cell_keep c0 B1
  have xc1 := cell_keep c1 B1
  have xd0 := cell_keep d0 B1
  have xd1 := cell_keep d1 B1
  have hii : (I.toList == I.toList) = true := by simp
  have BB := below_trans' B0 B1
  clear HA HB B0 B1 c0 c1 d0 d1 HW
  go_wp2
  go_ret
  exact ⟨rfl, BB⟩


set_option maxRecDepth 100000 in
set_option maxHeartbeats 4000000 in
theorem allSame_any (va vb : Value) (L : List Cd) (w : World) (h : Cs w va L) (k : Cs w vb L) :
    Calls Try.prog 15 #[va, vb] w fun e w' => e = .returned (.bool true) ∧ Below w.heap.size w w' := by
  have HA := h
  have HB := k
  obtain ⟨a, cap, rfl, hl, hm, hna, -⟩ := h.open
  obtain ⟨a2, cap2, rfl, hl2, hm2, hna2, -⟩ := k.open
  clear h k
  go_enter Try.func15, Try.ntmps15
  go_wp2
  go_loopw [5] (fun iv wr => ∃ k : Nat, k ≤ L.length ∧ iv = .int .i64 k ∧ Below w.heap.size w wr) (fun iv _ => L.length - (intOf iv).toNat)
  case atStart => exact ⟨0, Nat.zero_le _, rfl, Below.refl _ _⟩
  case round =>
    obtain ⟨k, hk, rfl, hbel⟩ := hrel
    by_cases hlt : k < L.length
    · obtain ⟨a', c', hv', -, -, -, ho⟩ := (HA.below hbel).open
      simp only [Value.slice.injEq, true_and] at hv'
      obtain ⟨rfl, rfl⟩ := hv'
      obtain ⟨b1, o1, rfl, hb1, hc1⟩ := ho (by omega)
      clear ho
      obtain ⟨a', c', hv', -, -, -, ho⟩ := (HB.below hbel).open
      simp only [Value.slice.injEq, true_and] at hv'
      obtain ⟨rfl, rfl⟩ := hv'
      obtain ⟨b2, o2, rfl, hb2, hc2⟩ := ho (by omega)
      obtain ⟨c, hx⟩ : ∃ c, L[k]? = some c := ⟨L[k], List.getElem?_eq_getElem hlt⟩
      obtain ⟨wa, wc, c0, c1, c2, G1⟩ := hc1 k c hx
      obtain ⟨wb, wd, d0, d1, d2, G2⟩ := hc2 k c hx
      have g0 : ∀ w', Below wr.heap.size wr w' → w'.cell? ⟨b1, o1 + k * 3, none⟩ = some (.string c.id) := fun w' hw' => cell_keep c0 hw'
      have g1 : ∀ w', Below wr.heap.size wr w' → w'.cell? ⟨b1, o1 + k * 3 + 1, none⟩ = some (.int .i64 c.key) := fun w' hw' => cell_keep c1 hw'
      have g2 : ∀ w', Below wr.heap.size wr w' → w'.cell? ⟨b1, o1 + k * 3 + 2, none⟩ = some (.slice wa c.w.length wc) := fun w' hw' => cell_keep c2 hw'
      have h0 : ∀ w', Below wr.heap.size wr w' → w'.cell? ⟨b2, o2 + k * 3, none⟩ = some (.string c.id) := fun w' hw' => cell_keep d0 hw'
      have h1 : ∀ w', Below wr.heap.size wr w' → w'.cell? ⟨b2, o2 + k * 3 + 1, none⟩ = some (.int .i64 c.key) := fun w' hw' => cell_keep d1 hw'
      have h2 : ∀ w', Below wr.heap.size wr w' → w'.cell? ⟨b2, o2 + k * 3 + 2, none⟩ = some (.slice wb c.w.length wd) := fun w' hw' => cell_keep d2 hw'
      have p1 : (k : Int) < (L.length : Int) := by omega
      clear ho hc1 hc2 hx c0 c1 c2 d0 d1 d2
      go_wp2
      refine region_below (by kernel_rfl) (by kernel_rfl) ?_
      repeat
        (first
          | go_big_quiet_skip
          | (go_big_quiet_want; go_big_quiet_op
             first
               | go_big_quiet_on
               | (apply Exists.intro
                  refine ⟨fun w' hw' => ?_, ?_⟩
                  · first
                   | exact rfl
                   | (rw [g0 w' hw']; dsimp only [Result.andThen]; rw [g1 w' hw']; dsimp only [Result.andThen]; rw [g2 w' hw']; exact ⟨rfl, rfl⟩)
                   | (rw [h0 w' hw']; dsimp only [Result.andThen]; rw [h1 w' hw']; dsimp only [Result.andThen]; rw [h2 w' hw']; exact ⟨rfl, rfl⟩)
                   | (go_at_call 17; exact (samec_any c.id c.key _ _ c.w _ (G1.below hw') (G2.below hw')).mono fun e w'' ⟨h1, h2⟩ => ⟨h1, below_trans' hw' h2⟩)
                  go_big_quiet_on)))
      refine wpQuiet_nil ?_
      intro w9 hb9
      have B9 := below_trans' hbel hb9
      clear g0 g1 g2 h0 h1 h2 G1 G2
      go_wp2
      go_roundw
      case rel => exact ⟨k + 1, by omega, by go_num, B9⟩
      case measure => simp [intOf]; omega
    · go_wp2
      go_ret
      exact ⟨rfl, hbel⟩
end Go.Proofs.Ytdbbhdngohnemaa
