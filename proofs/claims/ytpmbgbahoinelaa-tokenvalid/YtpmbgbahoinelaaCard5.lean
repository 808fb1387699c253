/-
  The contracts of the document's own Term, of Card, the program's and the document's, and of the function that holds two cards against each other (at cards that are the same).
-/
import Derived.Test.YtpmbgbahoinelaaRWords5
namespace Go.Proofs.Ytpmbgbahoinelaa
open Go.RowKit

set_option maxRecDepth 1000000 in
set_option maxHeartbeats 2000000 in
theorem rterm_any (s : ByteArray) (w : World) (r : Bool) (hr : T.termR s (T.wordsR s) = r) :
    Calls Try.prog 17 #[.string s] w fun e w' => e = .returned (.bool r) ∧ Below w.heap.size w w' := by
  obtain ⟨m, n, hw⟩ : ∃ m n, T.wordsR s = (m, n) := ⟨_, _, rfl⟩
  rw [hw] at hr
  have HW := hide hw
  have HR := hide hr
  clear hw hr
  go_enter Try.func17, Try.ntmps17
  go_wp2_with fail
  refine (rwords_any s _ m n (unhide HW)).mono ?_
  rintro e w1 ⟨v, rfl, G1, B1⟩
  obtain ⟨a, cap, rfl, hl, hm, hna, ho⟩ := G1.open
  clear G1 HW
  by_cases h0 : n = 0
  · subst h0
    by_cases h1 : m.length = 1
    · obtain ⟨x, rfl⟩ := List.length_eq_one_iff.1 h1
      obtain ⟨b, off, rfl, hb, hc⟩ := ho (by simp)
      have c1 : w1.cell? ⟨b, off, none⟩ = some (.string x) := by simpa using hc 0 x rfl
      clear hc ho h1
      simp only [List.length_cons, List.length_nil] at hl ⊢
      go_wp2
      go_ret
      exact ⟨by rw [← unhide HR]; rfl, B1⟩
    · have HT : Hid (T.termR s (m, 0) = false) := by
        show _ = _
        match m, h1 with
        | [], _ => rfl
        | x :: y :: l, _ => rfl
      obtain ⟨q, hq⟩ : ∃ q, m.length = q := ⟨_, rfl⟩
      rw [hq] at hl h1 ⊢
      clear ho hq
      have g : ((q : Int) == 1) = false := by simp; omega
      go_wp2
      go_ret
      exact ⟨by rw [← unhide HR, unhide HT]; rfl, B1⟩
  · have g : (n == 0) = false := by simpa using h0
    clear ho
    go_wp2
    go_ret
    refine ⟨?_, B1⟩
    rw [← unhide HR]
    simp [T.termR, h0]

theorem cell_keep {W w' : World} {a : Addr} {v : Value} (h : W.cell? a = some v) (hb : Below W.heap.size W w') : w'.cell? a = some v := by
  rw [hb.cell (World.block_lt_of_cell? W _ h)]
  exact h
theorem frozen_keep {W w' : World} {a : Addr} {f : Bool} (h : W.frozen? a = f) (hb : Below W.heap.size W w') (hl : a.block < W.heap.size) : w'.frozen? a = f := by
  rw [hb.frozen hl]
  exact h

/-- What a card tells. -/
def CardEnd (w : World) (c : (ByteArray × Int × List ByteArray) × Int) (e : Ending) (w' : World) : Prop :=
  ∃ v, e = .returned (.tuple #[.agg #[.string c.1.1, .int .i64 c.1.2.1, v], .int .i64 c.2]) ∧ Gl .string w' v c.1.2.2 ∧ Below w.heap.size w w'

theorem card_end {w w' : World} {c : (ByteArray × Int × List ByteArray) × Int} {I : ByteArray} {K n : Int} {m : List ByteArray} {v : Value} (h : ((I, K, m), n) = c) (hg : Gl .string w' v m) (hb : Below w.heap.size w w') : CardEnd w c (.returned (.tuple #[.agg #[.string I, .int .i64 K, v], .int .i64 n])) w' := by
  subst h
  exact ⟨v, rfl, hg, hb⟩

set_option maxRecDepth 1000000 in
set_option maxHeartbeats 2000000 in
theorem card_any (id : ByteArray) (key : Int) (s : ByteArray) (w : World) (c : (ByteArray × Int × List ByteArray) × Int) (hc : T.cardR id key s = c) :
    Calls Try.prog 18 #[.string id, .int .i64 key, .string s] w (CardEnd w c) := by
  unfold T.cardR at hc
  obtain ⟨W, hW⟩ : ∃ W, W = w.alloc (.cells #[.string ⟨#[]⟩, .int .i64 0, .slice none 0 0] 30) := ⟨_, rfl⟩
  have B0 : Below w.heap.size w W := by rw [hW]; exact below_alloc _ _
  have r0 : W.cell? ⟨w.heap.size, 0, none⟩ = some (.string ⟨#[]⟩) := by rw [hW]; simp [go_sem]
  have r1 : W.cell? ⟨w.heap.size, 1, none⟩ = some (.int .i64 0) := by rw [hW]; simp [go_sem]
  have r2 : W.cell? ⟨w.heap.size, 2, none⟩ = some (.slice none 0 0) := by rw [hW]; simp [go_sem]
  have n0 : W.frozen? ⟨w.heap.size, 0, none⟩ = false := by rw [hW]; simp [go_sem]
  have n1 : W.frozen? ⟨w.heap.size, 1, none⟩ = false := by rw [hW]; simp [go_sem]
  have n2 : W.frozen? ⟨w.heap.size, 2, none⟩ = false := by rw [hW]; simp [go_sem]
  have hZ : w.heap.size < W.heap.size := by rw [hW]; simp
  have HW := hide hW
  clear hW
  have hS : ∀ (w9 : World) (x y z : Value), Below w.heap.size w w9 → Below w.heap.size w (((w9.setCell ⟨w.heap.size, 0, none⟩ x).setCell ⟨w.heap.size, 1, none⟩ y).setCell ⟨w.heap.size, 2, none⟩ z) := fun w9 x y z hb => ((hb.setCell (Nat.le_refl _) _).setCell (Nat.le_refl _) _).setCell (Nat.le_refl _) _
  by_cases h1 : id.size < 1 ∨ 16 < id.size ∨ key < 0 ∨ 1073741824 < key
  · rw [if_pos h1] at hc
    have HC := hide hc
    clear hc
    have h2 : (id.size : Int) < 1 ∨ (¬ (id.size : Int) < 1 ∧ 16 < (id.size : Int)) ∨ (¬ (id.size : Int) < 1 ∧ ¬ 16 < (id.size : Int) ∧ key < 0) ∨ (¬ (id.size : Int) < 1 ∧ ¬ 16 < (id.size : Int) ∧ ¬ key < 0 ∧ 1073741824 < key) := by omega
    clear h1
    rcases h2 with h2 | ⟨h2, h3⟩ | ⟨h2, h3, h4⟩ | ⟨h2, h3, h4, h5⟩
    all_goals
      go_enter Try.func18, Try.ntmps18
      go_wp2
      exact bodyPost_ret (v := .tuple #[.agg #[.string ⟨#[]⟩, .int .i64 0, .slice none 0 0], .int .i64 1]) (by simp [results, Try.results18, go_sem]) rfl (card_end (unhide HC) (Gl.nil _ _) (below_alloc _ _))
  · rw [if_neg h1] at hc
    have h2 : ¬ (id.size : Int) < 1 ∧ ¬ 16 < (id.size : Int) ∧ ¬ key < 0 ∧ ¬ 1073741824 < key := by omega
    obtain ⟨h2, h3, h4, h5⟩ := h2
    have hid : id.size ≤ 16 := by omega
    clear h1
    by_cases h6 : T.valid (T.bs id) = false
    · rw [if_pos h6] at hc
      have HC := hide hc
      have H6 := hide h6
      clear hc h6
      go_enter Try.func18, Try.ntmps18
      go_wp2_with fail
      rw [← unhide HW]
      refine (valid_any id _ false (unhide H6)).mono ?_
      rintro e w1 ⟨rfl, B1⟩
      have xr0 := cell_keep r0 B1
      have xr1 := cell_keep r1 B1
      have xr2 := cell_keep r2 B1
      have xn0 := frozen_keep n0 B1 hZ
      have xn1 := frozen_keep n1 B1 hZ
      have xn2 := frozen_keep n2 B1 hZ
      have BB := below_trans' B0 B1
      clear r0 r1 r2 n0 n1 n2 B1 B0
      go_wp2
      exact bodyPost_ret (v := .tuple #[.agg #[.string ⟨#[]⟩, .int .i64 0, .slice none 0 0], .int .i64 7]) (by simp [results, Try.results18, go_sem, xr0, xr1, xr2]) rfl (card_end (unhide HC) (Gl.nil _ _) (hS _ _ _ _ BB))
    · rw [if_neg h6] at hc
      have h6 : T.valid (T.bs id) = true := by simpa using h6
      obtain ⟨m, n, hw⟩ : ∃ m n, T.wordsR s = (m, n) := ⟨_, _, rfl⟩
      rw [hw] at hc
      have HC := hide hc
      have H6 := hide h6
      have HM := hide hw
      clear hc h6 hw
      go_enter Try.func18, Try.ntmps18
      go_wp2_with fail
      rw [← unhide HW]
      refine (valid_any id _ true (unhide H6)).mono ?_
      rintro e w1 ⟨rfl, B1⟩
      have xr0 := cell_keep r0 B1
      have xr1 := cell_keep r1 B1
      have xr2 := cell_keep r2 B1
      have xn0 := frozen_keep n0 B1 hZ
      have xn1 := frozen_keep n1 B1 hZ
      have xn2 := frozen_keep n2 B1 hZ
      have BB := below_trans' B0 B1
      have hZ1 : w.heap.size < w1.heap.size := by have := B1.size; omega
      clear r0 r1 r2 n0 n1 n2 B1 B0
      go_wp2_with fail
      refine (words_own s _ m n (unhide HM)).mono ?_
      rintro e w2 ⟨v, rfl, O2, B2⟩
      have yr0 := cell_keep xr0 B2
      have yr1 := cell_keep xr1 B2
      have yr2 := cell_keep xr2 B2
      have yn0 := frozen_keep xn0 B2 hZ1
      have yn1 := frozen_keep xn1 B2 hZ1
      have yn2 := frozen_keep xn2 B2 hZ1
      have BC := below_trans' BB B2
      have OS : ∀ (x y z : Value), Gl .string (((w2.setCell ⟨w.heap.size, 0, none⟩ x).setCell ⟨w.heap.size, 1, none⟩ y).setCell ⟨w.heap.size, 2, none⟩ z) v m := fun x y z => Gl.owned (ownsRow_setCell_below (ownsRow_setCell_below (ownsRow_setCell_below O2 hZ1 x) hZ1 y) hZ1 z)
      obtain ⟨va, vc, rfl, -⟩ := Gl.owned O2
      clear xr0 xr1 xr2 xn0 xn1 xn2 B2 BB O2 HM H6
      by_cases h7 : n = 0
      · subst h7
        have hc := unhide HC
        rw [if_neg (by simp)] at hc
        have HC := hide hc
        clear hc
        go_wp2
        exact bodyPost_ret (v := .tuple #[.agg #[.string id, .int .i64 key, .slice va m.length vc], .int .i64 0]) (by simp [results, Try.results18, go_sem, yr0, yr1, yr2]) rfl (card_end (unhide HC) (OS _ _ _) (hS _ _ _ _ BC))
      · have hc := unhide HC
        rw [if_pos h7] at hc
        have HC := hide hc
        have g7 : (n != 0) = true := by simpa using h7
        clear hc
        go_wp2
        exact bodyPost_ret (v := .tuple #[.agg #[.string ⟨#[]⟩, .int .i64 0, .slice none 0 0], .int .i64 n]) (by simp [results, Try.results18, go_sem, yr0, yr1, yr2]) rfl (card_end (unhide HC) (Gl.nil _ _) (hS _ _ _ _ BC))

set_option maxRecDepth 1000000 in
set_option maxHeartbeats 2000000 in
theorem rcard_any (id : ByteArray) (key : Int) (s : ByteArray) (w : World) (c : (ByteArray × Int × List ByteArray) × Int) (hc : T.cardR id key s = c) :
    Calls Try.prog 19 #[.string id, .int .i64 key, .string s] w (CardEnd w c) := by
  unfold T.cardR at hc
  obtain ⟨W, hW⟩ : ∃ W, W = w.alloc (.cells #[.string ⟨#[]⟩, .int .i64 0, .slice none 0 0] 30) := ⟨_, rfl⟩
  have B0 : Below w.heap.size w W := by rw [hW]; exact below_alloc _ _
  have r0 : W.cell? ⟨w.heap.size, 0, none⟩ = some (.string ⟨#[]⟩) := by rw [hW]; simp [go_sem]
  have r1 : W.cell? ⟨w.heap.size, 1, none⟩ = some (.int .i64 0) := by rw [hW]; simp [go_sem]
  have r2 : W.cell? ⟨w.heap.size, 2, none⟩ = some (.slice none 0 0) := by rw [hW]; simp [go_sem]
  have n0 : W.frozen? ⟨w.heap.size, 0, none⟩ = false := by rw [hW]; simp [go_sem]
  have n1 : W.frozen? ⟨w.heap.size, 1, none⟩ = false := by rw [hW]; simp [go_sem]
  have n2 : W.frozen? ⟨w.heap.size, 2, none⟩ = false := by rw [hW]; simp [go_sem]
  have hZ : w.heap.size < W.heap.size := by rw [hW]; simp
  have HW := hide hW
  clear hW
  have hS : ∀ (w9 : World) (x y z : Value), Below w.heap.size w w9 → Below w.heap.size w (((w9.setCell ⟨w.heap.size, 0, none⟩ x).setCell ⟨w.heap.size, 1, none⟩ y).setCell ⟨w.heap.size, 2, none⟩ z) := fun w9 x y z hb => ((hb.setCell (Nat.le_refl _) _).setCell (Nat.le_refl _) _).setCell (Nat.le_refl _) _
  by_cases h1 : id.size < 1 ∨ 16 < id.size ∨ key < 0 ∨ 1073741824 < key
  · rw [if_pos h1] at hc
    have HC := hide hc
    clear hc
    have h2 : (id.size : Int) < 1 ∨ (¬ (id.size : Int) < 1 ∧ 16 < (id.size : Int)) ∨ (¬ (id.size : Int) < 1 ∧ ¬ 16 < (id.size : Int) ∧ key < 0) ∨ (¬ (id.size : Int) < 1 ∧ ¬ 16 < (id.size : Int) ∧ ¬ key < 0 ∧ 1073741824 < key) := by omega
    clear h1
    rcases h2 with h2 | ⟨h2, h3⟩ | ⟨h2, h3, h4⟩ | ⟨h2, h3, h4, h5⟩
    all_goals
      go_enter Try.func19, Try.ntmps19
      go_wp2
      exact bodyPost_ret (v := .tuple #[.agg #[.string ⟨#[]⟩, .int .i64 0, .slice none 0 0], .int .i64 1]) (by simp [results, Try.results19, go_sem]) rfl (card_end (unhide HC) (Gl.nil _ _) (below_alloc _ _))
  · rw [if_neg h1] at hc
    have h2 : ¬ (id.size : Int) < 1 ∧ ¬ 16 < (id.size : Int) ∧ ¬ key < 0 ∧ ¬ 1073741824 < key := by omega
    obtain ⟨h2, h3, h4, h5⟩ := h2
    have hid : id.size ≤ 16 := by omega
    clear h1
    by_cases h6 : T.valid (T.bs id) = false
    · rw [if_pos h6] at hc
      have HC := hide hc
      have H6 := hide h6
      clear hc h6
      go_enter Try.func19, Try.ntmps19
      go_wp2_with fail
      rw [← unhide HW]
      refine (rvalid_any id _ (by omega) false (unhide H6)).mono ?_
      rintro e w1 ⟨rfl, B1⟩
      have xr0 := cell_keep r0 B1
      have xr1 := cell_keep r1 B1
      have xr2 := cell_keep r2 B1
      have xn0 := frozen_keep n0 B1 hZ
      have xn1 := frozen_keep n1 B1 hZ
      have xn2 := frozen_keep n2 B1 hZ
      have BB := below_trans' B0 B1
      clear r0 r1 r2 n0 n1 n2 B1 B0
      go_wp2
      exact bodyPost_ret (v := .tuple #[.agg #[.string ⟨#[]⟩, .int .i64 0, .slice none 0 0], .int .i64 7]) (by simp [results, Try.results19, go_sem, xr0, xr1, xr2]) rfl (card_end (unhide HC) (Gl.nil _ _) (hS _ _ _ _ BB))
    · rw [if_neg h6] at hc
      have h6 : T.valid (T.bs id) = true := by simpa using h6
      obtain ⟨m, n, hw⟩ : ∃ m n, T.wordsR s = (m, n) := ⟨_, _, rfl⟩
      rw [hw] at hc
      have HC := hide hc
      have H6 := hide h6
      have HM := hide hw
      clear hc h6 hw
      go_enter Try.func19, Try.ntmps19
      go_wp2_with fail
      rw [← unhide HW]
      refine (rvalid_any id _ (by omega) true (unhide H6)).mono ?_
      rintro e w1 ⟨rfl, B1⟩
      have xr0 := cell_keep r0 B1
      have xr1 := cell_keep r1 B1
      have xr2 := cell_keep r2 B1
      have xn0 := frozen_keep n0 B1 hZ
      have xn1 := frozen_keep n1 B1 hZ
      have xn2 := frozen_keep n2 B1 hZ
      have BB := below_trans' B0 B1
      have hZ1 : w.heap.size < w1.heap.size := by have := B1.size; omega
      clear r0 r1 r2 n0 n1 n2 B1 B0
      go_wp2_with fail
      refine (rwords_own s _ m n (unhide HM)).mono ?_
      rintro e w2 ⟨v, rfl, O2, B2⟩
      have yr0 := cell_keep xr0 B2
      have yr1 := cell_keep xr1 B2
      have yr2 := cell_keep xr2 B2
      have yn0 := frozen_keep xn0 B2 hZ1
      have yn1 := frozen_keep xn1 B2 hZ1
      have yn2 := frozen_keep xn2 B2 hZ1
      have BC := below_trans' BB B2
      have OS : ∀ (x y z : Value), Gl .string (((w2.setCell ⟨w.heap.size, 0, none⟩ x).setCell ⟨w.heap.size, 1, none⟩ y).setCell ⟨w.heap.size, 2, none⟩ z) v m := fun x y z => Gl.owned (ownsRow_setCell_below (ownsRow_setCell_below (ownsRow_setCell_below O2 hZ1 x) hZ1 y) hZ1 z)
      obtain ⟨va, vc, rfl, -⟩ := Gl.owned O2
      clear xr0 xr1 xr2 xn0 xn1 xn2 B2 BB O2 HM H6
      by_cases h7 : n = 0
      · subst h7
        have hc := unhide HC
        rw [if_neg (by simp)] at hc
        have HC := hide hc
        clear hc
        go_wp2
        exact bodyPost_ret (v := .tuple #[.agg #[.string id, .int .i64 key, .slice va m.length vc], .int .i64 0]) (by simp [results, Try.results19, go_sem, yr0, yr1, yr2]) rfl (card_end (unhide HC) (OS _ _ _) (hS _ _ _ _ BC))
      · have hc := unhide HC
        rw [if_pos h7] at hc
        have HC := hide hc
        have g7 : (n != 0) = true := by simpa using h7
        clear hc
        go_wp2
        exact bodyPost_ret (v := .tuple #[.agg #[.string ⟨#[]⟩, .int .i64 0, .slice none 0 0], .int .i64 n]) (by simp [results, Try.results19, go_sem, yr0, yr1, yr2]) rfl (card_end (unhide HC) (Gl.nil _ _) (hS _ _ _ _ BC))

set_option maxRecDepth 1000000 in
set_option maxHeartbeats 2000000 in
theorem samec_any (I : ByteArray) (K : Int) (va vb : Value) (m : List ByteArray) (w : World) (ha : Gl .string w va m) (hb : Gl .string w vb m) :
    Calls Try.prog 20 #[.agg #[.string I, .int .i64 K, va], .agg #[.string I, .int .i64 K, vb]] w fun e w' => e = .returned (.bool true) ∧ Below w.heap.size w w' := by
  obtain ⟨aa, ca, rfl, -⟩ := id ha
  obtain ⟨ab, cb, rfl, -⟩ := id hb
  obtain ⟨W, hW⟩ : ∃ W, W = (w.alloc (.cells #[.string I, .int .i64 K, .slice aa m.length ca] 30)).alloc (.cells #[.string I, .int .i64 K, .slice ab m.length cb] 30) := ⟨_, rfl⟩
  have B0 : Below w.heap.size w W := by rw [hW]; exact (below_alloc _ _).alloc (by simp) _
  have HA := ha.below B0
  have HB := hb.below B0
  have c0 : W.cell? ⟨w.heap.size, 0, none⟩ = some (.string I) := by rw [hW]; simp [go_sem]
  have c1 : W.cell? ⟨w.heap.size, 1, none⟩ = some (.int .i64 K) := by rw [hW]; simp [go_sem]
  have d0 : W.cell? ⟨w.heap.size + 1, 0, none⟩ = some (.string I) := by rw [hW]; simp [go_sem]
  have d1 : W.cell? ⟨w.heap.size + 1, 1, none⟩ = some (.int .i64 K) := by rw [hW]; simp [go_sem]
  have HW := hide hW
  clear hW ha hb
  go_enter Try.func20, Try.ntmps20
  go_wp2_with fail
  rw [← unhide HW]
  refine (texts_any _ _ m _ HA HB).mono ?_
  rintro e w1 ⟨rfl, B1⟩
  have xc0 := cell_keep c0 B1
  have xc1 := cell_keep c1 B1
  have xd0 := cell_keep d0 B1
  have xd1 := cell_keep d1 B1
  have hii : (I.toList == I.toList) = true := by simp
  have BB := below_trans' B0 B1
  clear HA HB B0 B1 c0 c1 d0 d1 HW
  go_wp2
  go_ret
  exact ⟨rfl, BB⟩
end Go.Proofs.Ytpmbgbahoinelaa
