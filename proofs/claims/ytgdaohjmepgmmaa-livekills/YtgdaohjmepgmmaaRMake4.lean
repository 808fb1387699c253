/-
  The contracts of the document's New and And.
-/
import Derived.Test.YtgdaohjmepgmmaaMake4
namespace Go.Proofs.Ytgdaohjmepgmmaa
open Go.RowKit

theorem fill_snoc {α : Type} (F : Nat → α) (j : Nat) : (List.range (j + 1)).map F = (List.range j).map F ++ [F j] := by
  rw [List.range_succ, List.map_append]
  rfl

set_option maxHeartbeats 1000000 in
theorem rnew_any (n : Int) (w : World) : Calls Try.prog 18 #[.int .i64 n] w (Made w (L.new n)) := by
  obtain ⟨i0, hi, hz0, hz1, hz2⟩ := info_parts Try.info4'
  by_cases h0 : n < 0
  · rw [new_out (.inl h0)]
    go_enter Try.func18, Try.ntmps18
    go_wp2
    go_loop [3, 4] (fun v iv => v = .slice none 0 0 ∧ iv = .int .i64 0) (fun _ _ => 0)
    case atStart => exact ⟨rfl, rfl⟩
    case round =>
      obtain ⟨rfl, rfl⟩ := hrel
      go_wp2
      go_ret
      exact ⟨_, rfl, World.ownsRow_nil _ _ _ _, Below.refl _ _⟩
  · by_cases h1 : 64 < n
    · rw [new_out (.inr h1)]
      go_enter Try.func18, Try.ntmps18
      go_wp2
      go_loop [3, 4] (fun v iv => v = .slice none 0 0 ∧ iv = .int .i64 0) (fun _ _ => 0)
      case atStart => exact ⟨rfl, rfl⟩
      case round =>
        obtain ⟨rfl, rfl⟩ := hrel
        go_wp2
        go_ret
        exact ⟨_, rfl, World.ownsRow_nil _ _ _ _, Below.refl _ _⟩
    · obtain ⟨k, rfl⟩ := Int.eq_ofNat_of_zero_le (show 0 ≤ n by omega)
      have hk : k ≤ 64 := by omega
      rw [new_fill k hk]
      clear h0 h1
      go_enter Try.func18, Try.ntmps18
      go_wp2
      go_loopw [3, 4] (fun v iv wr => ∃ (j : Nat) (X : List Bool), j ≤ k ∧ iv = .int .i64 j ∧ X.length = j ∧ X = (List.range j).map (fun _ => true) ∧
          wr.ownsRow w.heap.size 4 1 v X.length (X.map Value.bool) ∧ Below w.heap.size w wr) (fun _ iv _ => k - (intOf iv).toNat)
      case atStart => exact ⟨0, [], Nat.zero_le _, rfl, rfl, rfl, World.ownsRow_nil _ _ _ _, Below.refl _ _⟩
      case round =>
        obtain ⟨j, X, hj, rfl, hX, hF, hown, hbel⟩ := hrel
        have hl : X.length ≤ 64 := by omega
        have HX := hide hX
        have HF := hide hF
        have hBs := hbel.size
        clear hX hF
        by_cases hlt : j < k
        · go_wp2_with (at_builtin; refine append_oneG (f := Value.bool) (y := true) rfl _ _ 22 rfl Try.underlying22 hi hz0 hz1 hz2 rfl (fun _ => rfl) rfl rfl hown hbel hBs (by omega) (by decide) ?_; intro v1 w1 hown1 hbel1)
          go_roundw
          case rel => exact ⟨j + 1, X ++ [true], by omega, by go_num, by simp [unhide HX], by rw [fill_snoc, ← unhide HF], hown1, hbel1⟩
          case measure => simp [intOf]; omega
        · go_wp2
          go_ret
          have ej : j = k := by omega
          subst ej
          exact ⟨_, rfl, by rw [← unhide HF]; exact hown, hbel⟩

set_option maxHeartbeats 1000000 in
theorem rand_any (va vb : Value) (a b : List Bool) (w : World) (ha : Gl .bool w va a) (hb : Gl .bool w vb b) (hll : a.length ≤ 4294967296) : Calls Try.prog 16 #[va, vb] w (Made w (L.both a b)) := by
  obtain ⟨i0, hi, hz0, hz1, hz2⟩ := info_parts Try.info4'
  obtain ⟨aa, ca, rfl, la, ma, na, oa⟩ := ha.open
  obtain ⟨ab, cb, rfl, lb, mb, nb, ob⟩ := hb.open
  clear ha hb
  by_cases hl : a.length = b.length
  · rw [both_fill hl]
    have HL := hide hl
    have h0 : ((a.length : Int) == (b.length : Int)) = true := by simp [hl]
    clear hl
    go_enter Try.func16, Try.ntmps16
    go_wp2
    go_loopw [5, 6] (fun v iv wr => ∃ (j : Nat) (X : List Bool), j ≤ a.length ∧ iv = .int .i64 j ∧ X.length = j ∧ X = (List.range j).map (fun i => a.getD i false && b.getD i false) ∧
        wr.ownsRow w.heap.size 4 1 v X.length (X.map Value.bool) ∧ Below w.heap.size w wr) (fun _ iv _ => a.length - (intOf iv).toNat)
    case atStart => exact ⟨0, [], Nat.zero_le _, rfl, rfl, rfl, World.ownsRow_nil _ _ _ _, Below.refl _ _⟩
    case round =>
      obtain ⟨j, X, hj, rfl, hX, hF, hown, hbel⟩ := hrel
      have hxl : X.length ≤ 4294967296 := by omega
      have HX := hide hX
      have HF := hide hF
      have hBs := hbel.size
      clear hX hF
      by_cases hlt : j < a.length
      · have hltb : j < b.length := by have := HL.out; omega
        obtain ⟨ba, fa, rfl, la2, ka⟩ := oa (by omega)
        obtain ⟨bb, fb, rfl, lb2, kb⟩ := ob (by omega)
        obtain ⟨x, hx⟩ : ∃ x, a[j]? = some x := ⟨a[j], List.getElem?_eq_getElem hlt⟩
        obtain ⟨y, hy⟩ : ∃ y, b[j]? = some y := ⟨b[j], List.getElem?_eq_getElem hltb⟩
        have c1 : wr.cell? ⟨ba, fa + j, none⟩ = some (.bool x) := (hbel.cell (p := ⟨ba, fa + j, none⟩) la2).trans (ka j x hx)
        have c2 : wr.cell? ⟨bb, fb + j, none⟩ = some (.bool y) := (hbel.cell (p := ⟨bb, fb + j, none⟩) lb2).trans (kb j y hy)
        have hG : (a.getD j false && b.getD j false) = (x && y) := by simp [List.getD, hx, hy]
        have HG := hide hG
        clear hx hy ka kb oa ob hG
        cases x <;> cases y
        · go_wp2_with (at_builtin; refine append_oneG (f := Value.bool) (y := false) rfl _ _ 22 rfl Try.underlying22 hi hz0 hz1 hz2 rfl (fun _ => rfl) rfl rfl hown hbel hBs (by omega) (by decide) ?_; intro v1 w1 hown1 hbel1)
          go_roundw
          case rel => exact ⟨j + 1, X ++ [false], by omega, by go_num, by simp [unhide HX], by rw [fill_snoc, ← unhide HF, unhide HG]; rfl, hown1, hbel1⟩
          case measure => simp [intOf]; omega
        · go_wp2_with (at_builtin; refine append_oneG (f := Value.bool) (y := false) rfl _ _ 22 rfl Try.underlying22 hi hz0 hz1 hz2 rfl (fun _ => rfl) rfl rfl hown hbel hBs (by omega) (by decide) ?_; intro v1 w1 hown1 hbel1)
          go_roundw
          case rel => exact ⟨j + 1, X ++ [false], by omega, by go_num, by simp [unhide HX], by rw [fill_snoc, ← unhide HF, unhide HG]; rfl, hown1, hbel1⟩
          case measure => simp [intOf]; omega
        · go_wp2_with (at_builtin; refine append_oneG (f := Value.bool) (y := false) rfl _ _ 22 rfl Try.underlying22 hi hz0 hz1 hz2 rfl (fun _ => rfl) rfl rfl hown hbel hBs (by omega) (by decide) ?_; intro v1 w1 hown1 hbel1)
          go_roundw
          case rel => exact ⟨j + 1, X ++ [false], by omega, by go_num, by simp [unhide HX], by rw [fill_snoc, ← unhide HF, unhide HG]; rfl, hown1, hbel1⟩
          case measure => simp [intOf]; omega
        · go_wp2_with (at_builtin; refine append_oneG (f := Value.bool) (y := true) rfl _ _ 22 rfl Try.underlying22 hi hz0 hz1 hz2 rfl (fun _ => rfl) rfl rfl hown hbel hBs (by omega) (by decide) ?_; intro v1 w1 hown1 hbel1)
          go_roundw
          case rel => exact ⟨j + 1, X ++ [true], by omega, by go_num, by simp [unhide HX], by rw [fill_snoc, ← unhide HF, unhide HG]; rfl, hown1, hbel1⟩
          case measure => simp [intOf]; omega
      · go_wp2
        go_ret
        have ej : j = a.length := by omega
        have hF := unhide HF
        rw [ej] at hF
        exact ⟨_, rfl, by rw [← hF]; exact hown, hbel⟩
  · have h0 : ((a.length : Int) == (b.length : Int)) = false := by simp; omega
    rw [both_out hl]
    go_enter Try.func16, Try.ntmps16
    go_wp2
    go_loop [5, 6] (fun v iv => v = .slice none 0 0 ∧ iv = .int .i64 0) (fun _ _ => 0)
    case atStart => exact ⟨rfl, rfl⟩
    case round =>
      obtain ⟨rfl, rfl⟩ := hrel
      go_wp2
      all_goals
        go_ret
        exact ⟨_, rfl, World.ownsRow_nil _ _ _ _, Below.refl _ _⟩
end Go.Proofs.Ytgdaohjmepgmmaa
