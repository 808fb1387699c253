/-
  The contract of Pack, the document's.
-/
import Derived.Test.YtgdaohjmepgmmaaPack4
namespace Go.Proofs.Ytgdaohjmepgmmaa
open Go.RowKit

theorem val_take {l : List Bool} {i j : Nat} {x : Bool} (h : l[i + j]? = some x) : L.val ((l.drop i).take (j + 1)) = L.val ((l.drop i).take j) + (if x = true then 2 ^ j else 0) := by
  obtain ⟨hk, rfl⟩ := List.getElem?_eq_some_iff.1 h
  have hj : j < (l.drop i).length := by simp; omega
  rw [List.take_succ_eq_append_getElem hj, L.val_snoc]
  have : ((l.drop i).take j).length = j := by simp; omega
  rw [this]
  simp

theorem val_full {l : List Bool} {i j : Nat} (h : j = 8 ∨ (j ≤ 8 ∧ l.length ≤ i + j)) : L.val ((l.drop i).take j) = L.val ((l.drop i).take 8) := by
  rcases h with rfl | ⟨h1, h2⟩
  · rfl
  · rw [List.take_of_length_le (by simp; omega), List.take_of_length_le (by simp; omega)]

theorem pow_bd {j : Nat} (h : j ≤ 8) : 1 ≤ (2 : Int) ^ j ∧ (2 : Int) ^ j ≤ 256 := by
  by_cases e : j = 8
  · subst e; decide
  · have := pow_small j (by omega)
    omega

theorem bytes_snoc {l : List Bool} {q : Nat} (h : q < L.width l.length) : (L.bytes l).take (q + 1) = (L.bytes l).take q ++ [L.byteAt l q] := by
  have hq : q < (L.bytes l).length := by rw [L.bytes_len]; exact h
  rw [List.take_succ_eq_append_getElem hq]
  simp [L.bytes]

theorem val_take_bd (l : List Bool) (i : Nat) {j : Nat} (h : j ≤ 8) : 0 ≤ L.val ((l.drop i).take j) ∧ L.val ((l.drop i).take j) ≤ 255 := by
  have hb := L.val_bd ((l.drop i).take j)
  have hl : ((l.drop i).take j).length ≤ 8 := by simp; omega
  have := pow_bd hl
  omega

set_option maxHeartbeats 1000000 in
theorem rpack_any (v : Value) (l : List Bool) (w : World) (h : Gl .bool w v l) :
    Calls Try.prog 29 #[v] w fun e w' => ∃ v', e = .returned v' ∧ w'.ownsRow w.heap.size 5 1 v' (L.pack l).length ((L.pack l).map (Value.int .u8)) ∧ Below w.heap.size w w' := by
  obtain ⟨i0, hi, hz0, hz1, hz2⟩ := info_parts Try.info5
  obtain ⟨a, cap, rfl, hl, hm, hna, ho⟩ := h.open
  clear h
  by_cases h64 : l.length ≤ 64
  · have hp : L.pack l = (l.length : Int) :: L.bytes l := by unfold L.pack; rw [if_pos h64]
    rw [hp]
    clear hp
    go_enter Try.func29, Try.ntmps29
    go_wp2_with fail
    refine (refPut_any (l.length : Int) _).mono ?_
    rw [L.putA_small (by omega) (by omega)]
    rintro e w3 ⟨v3, rfl, hown3, hb3⟩
    go_wp2
    go_loopw [3, 4] (fun v iv wr => ∃ (i q : Nat) (X : List Int), q ≤ L.width l.length ∧ iv = .int .i64 i ∧ i = 8 * q ∧ X.length = q + 1 ∧ X = (l.length : Int) :: (L.bytes l).take q ∧
        wr.ownsRow w.heap.size 5 1 v X.length (X.map (Value.int .u8)) ∧ Below w.heap.size w wr) (fun _ iv _ => l.length - (intOf iv).toNat)
    case atStart => exact ⟨0, 0, [(l.length : Int)], Nat.zero_le _, rfl, rfl, rfl, rfl, hown3, hb3⟩
    case round =>
      obtain ⟨i, q, X, hq, rfl, hiq, hX, hF, hown, hbel⟩ := hrel
      have hq8 : q ≤ 8 := by unfold L.width at hq; omega
      have hxl : X.length ≤ 9 := by omega
      have hil : i ≤ 64 := by omega
      have HX := hide hX
      have HF := hide hF
      have HI := hide hiq
      have HQ := hide hq
      have hBs := hbel.size
      clear hX hF hown3 hb3 hiq hq
      by_cases hlt : i < l.length
      · have hqw : q < L.width l.length := by have := unhide HI; unfold L.width; omega
        have HQW := hide hqw
        clear hqw
        go_wp2
        go_loop [5, 6, 7] (fun nv yv kv => ∃ (j k : Nat) (n y : Int), j ≤ 8 ∧ k ≤ l.length ∧ kv = .int .i64 k ∧ nv = .int .i64 n ∧ yv = .int .i64 y ∧ k = i + j ∧ n = L.val ((l.drop i).take j) ∧ y = 2 ^ j) (fun _ _ kv => l.length + 8 - (intOf kv).toNat)
        case atStart => exact ⟨0, i, 0, 1, by omega, by omega, rfl, rfl, rfl, by omega, by simp [L.val], by simp⟩
        case round =>
          obtain ⟨j, k, n, y, hj8, hkl, rfl, rfl, rfl, hk, hn, hy⟩ := hrel
          have hyb := pow_bd hj8
          have hnb := val_take_bd l i hj8
          rw [← hn] at hnb
          rw [← hy] at hyb
          have HN := hide hn
          have HY := hide hy
          clear hn hy
          by_cases hin : j < 8 ∧ k < l.length
          · obtain ⟨hj, hlk⟩ := hin
            have hk8 : k < i + 8 := by omega
            obtain ⟨ba, fa, rfl, la2, ka⟩ := ho (by omega)
            obtain ⟨x, hx⟩ : ∃ x, l[k]? = some x := ⟨l[k], List.getElem?_eq_getElem hlk⟩
            have c1 : wr.cell? ⟨ba, fa + k, none⟩ = some (.bool x) := (hbel.cell (p := ⟨ba, fa + k, none⟩) la2).trans (ka k x hx)
            rw [hk] at hx
            have hvt := val_take hx
            have hyn : 2 * y = 2 ^ (j + 1) := by rw [unhide HY, Int.mul_comm]; exact (Int.pow_succ ..).symm
            have HVT := hide hvt
            have HYN := hide hyn
            have HK := hide hk
            clear hx ka ho hvt hyn hk
            cases x with
            | true =>
              go_wp2
              go_round
              case rel => exact ⟨j + 1, k + 1, n + y, 2 * y, by omega, by omega, by go_num, rfl, rfl, by rw [unhide HK]; rfl, by rw [unhide HVT, ← unhide HN, unhide HY]; rfl, unhide HYN⟩
              case measure => simp [intOf]; omega
            | false =>
              go_wp2
              go_round
              case rel => exact ⟨j + 1, k + 1, n, 2 * y, by omega, by omega, by go_num, rfl, rfl, by rw [unhide HK]; rfl, by rw [unhide HVT, ← unhide HN]; simp, unhide HYN⟩
              case measure => simp [intOf]; omega
          · have hfull : L.val ((l.drop i).take j) = L.byteAt l q := by
              unfold L.byteAt
              rw [← unhide HI]
              exact val_full (by omega)
            have hn2 : n = L.byteAt l q := by rw [unhide HN, hfull]
            have HN2 := hide hn2
            have hne : X ++ [n] = (l.length : Int) :: (L.bytes l).take (q + 1) := by
              rw [bytes_snoc (unhide HQW), unhide HF, hn2]
              rfl
            have HNE := hide hne
            have hng : ¬ (k < i + 8 ∧ k < l.length) := by omega
            clear hfull hn2 hne ho
            by_cases hk8 : k < i + 8
            · have hkl2 : l.length ≤ k := by omega
              clear hng hin
              go_wp2_with (at_builtin; refine append_one rfl _ _ 32 rfl Try.underlying32 hi hz0 hz1 hz2 rfl rfl rfl hown hbel hBs (by omega) (by decide) ?_; intro v1 w1 hown2 hbel2)
              go_roundw
              case rel => exact ⟨i + 8, q + 1, X ++ [n], unhide HQW, by go_num, by rw [unhide HI]; omega, by simp [unhide HX], unhide HNE, hown2, hbel2⟩
              case measure => simp [intOf]; omega
            · clear hng hin
              go_wp2_with (at_builtin; refine append_one rfl _ _ 32 rfl Try.underlying32 hi hz0 hz1 hz2 rfl rfl rfl hown hbel hBs (by omega) (by decide) ?_; intro v1 w1 hown2 hbel2)
              go_roundw
              case rel => exact ⟨i + 8, q + 1, X ++ [n], unhide HQW, by go_num, by rw [unhide HI]; omega, by simp [unhide HX], unhide HNE, hown2, hbel2⟩
              case measure => simp [intOf]; omega
      · clear ho
        go_wp2
        go_ret
        have e : (L.bytes l).take q = L.bytes l := List.take_of_length_le (by rw [L.bytes_len]; unfold L.width; have := unhide HI; omega)
        have hF := unhide HF
        rw [e] at hF
        rw [hF] at hown
        exact ⟨_, rfl, hown, hbel⟩
  · have hp : L.pack l = [] := by unfold L.pack; rw [if_neg h64]
    rw [hp]
    clear ho
    go_enter Try.func29, Try.ntmps29
    go_wp2
    go_ret
    exact ⟨_, rfl, World.ownsRow_nil _ _ _ _, Below.refl _ _⟩
end Go.Proofs.Ytgdaohjmepgmmaa
