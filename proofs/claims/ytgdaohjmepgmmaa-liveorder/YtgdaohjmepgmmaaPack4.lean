/-
  The contract of Pack, the program's.
-/
import Derived.Test.YtgdaohjmepgmmaaMake4
namespace Go.Proofs.Ytgdaohjmepgmmaa
open Go.RowKit Go.Deep

namespace L
theorem byte_take_other {l : List Bool} {k : Nat} {x : Bool} (h : l[k]? = some x) {j : Nat} (hj : j ≠ k / 8) : byteAt (l.take (k + 1)) j = byteAt (l.take k) j := by
  obtain ⟨hk, rfl⟩ := List.getElem?_eq_some_iff.1 h
  unfold byteAt
  congr 1
  apply List.ext_getElem?
  intro i
  simp only [List.getElem?_take, List.getElem?_drop]
  by_cases e : i < 8
  · rw [if_pos e, if_pos e]
    by_cases e2 : 8 * j + i < k
    · rw [if_pos (by omega), if_pos e2]
    · rw [if_neg (by omega), if_neg e2]
  · rw [if_neg e, if_neg e]
theorem byte_take_here {l : List Bool} {k : Nat} {x : Bool} (h : l[k]? = some x) : byteAt (l.take (k + 1)) (k / 8) = byteAt (l.take k) (k / 8) + (if x = true then 2 ^ (k % 8) else 0) ∧ byteAt (l.take k) (k / 8) < 2 ^ (k % 8) := by
  obtain ⟨hk, rfl⟩ := List.getElem?_eq_some_iff.1 h
  have e1 : ((l.take k).drop (8 * (k / 8))).length = k % 8 := by simp; omega
  have e2 : ((l.take k).drop (8 * (k / 8))).take 8 = (l.take k).drop (8 * (k / 8)) := List.take_of_length_le (by omega)
  have e3 : (l.take (k + 1)).drop (8 * (k / 8)) = (l.take k).drop (8 * (k / 8)) ++ [l[k]] := by
    rw [List.take_succ_eq_append_getElem hk, List.drop_append_of_le_length (by simp; omega)]
  have e4 : ((l.take (k + 1)).drop (8 * (k / 8))).take 8 = (l.take (k + 1)).drop (8 * (k / 8)) := List.take_of_length_le (by rw [e3, List.length_append, e1]; simp; omega)
  have hb := val_bd ((l.take k).drop (8 * (k / 8)))
  unfold byteAt
  rw [e4, e2, e3, val_snoc, e1]
  rw [e1] at hb
  exact ⟨rfl, hb.2⟩

/-- The bytes, as far as the first k documents tell. -/
def part (l : List Bool) (k : Nat) : List Int := (List.range (width l.length)).map (byteAt (l.take k))
theorem part_len (l : List Bool) (k : Nat) : (part l k).length = width l.length := by simp [part]
theorem part_zero (l : List Bool) : part l 0 = List.replicate (width l.length) 0 := by
  apply List.ext_getElem?
  intro i
  by_cases e : i < width l.length
  · simp [part, e, byteAt, val]
  · rw [List.getElem?_eq_none (by simp [part]; omega), List.getElem?_eq_none (by simp; omega)]
theorem part_end (l : List Bool) {k : Nat} (h : l.length ≤ k) : part l k = bytes l := by
  unfold part bytes
  rw [List.take_of_length_le h]
theorem part_at {l : List Bool} {k : Nat} (hk : k < l.length) : (part l k)[k / 8]? = some (byteAt (l.take k) (k / 8)) := by
  have : k / 8 < width l.length := by unfold width; omega
  simp [part, this]
theorem part_false {l : List Bool} {k : Nat} (h : l[k]? = some false) : part l (k + 1) = part l k := by
  unfold part
  apply List.map_congr_left
  intro j _
  by_cases e : j = k / 8
  · subst e; rw [(byte_take_here h).1]; simp
  · exact byte_take_other h e
theorem part_true {l : List Bool} {k : Nat} (h : l[k]? = some true) : part l (k + 1) = (part l k).set (k / 8) (byteAt (l.take k) (k / 8) + 2 ^ (k % 8)) := by
  apply List.ext_getElem?
  intro j
  by_cases e : j = k / 8
  · subst e
    have hk := (List.getElem?_eq_some_iff.1 h).1
    have hw : k / 8 < width l.length := by unfold width; omega
    rw [List.getElem?_set_self (by rw [part_len]; exact hw)]
    simp [part, hw, (byte_take_here h).1]
  · rw [List.getElem?_set_ne (by omega)]
    unfold part
    by_cases e2 : j < width l.length
    · simp [e2, byte_take_other h e]
    · rw [List.getElem?_eq_none (by simp; omega), List.getElem?_eq_none (by simp; omega)]
end L

theorem pow_small : ∀ m : Nat, m < 8 → (2 : Int) ^ m = 1 ∨ (2 : Int) ^ m = 2 ∨ (2 : Int) ^ m = 4 ∨ (2 : Int) ^ m = 8 ∨ (2 : Int) ^ m = 16 ∨ (2 : Int) ^ m = 32 ∨ (2 : Int) ^ m = 64 ∨ (2 : Int) ^ m = 128
  | 0, _ => by decide
  | 1, _ => by decide
  | 2, _ => by decide
  | 3, _ => by decide
  | 4, _ => by decide
  | 5, _ => by decide
  | 6, _ => by decide
  | 7, _ => by decide
  | n + 8, h => by omega

theorem wraps_u8 (n : Int) (h₀ : 0 ≤ n) (h₁ : n < 2 ^ 8) : IntKind.u8.wrap n = n := by rw [IntKind.wrap_u8]; omega
theorem or_bit {c : Int} {m : Nat} (h0 : 0 ≤ c) (h1 : c < 2 ^ m) (hm : m < 8) : bits .or .u8 c (2 ^ m % 256) = c + 2 ^ m := by
  have hp := pow_small m hm
  have hmod : (2 : Int) ^ m % 256 = 2 ^ m := by omega
  have h8 : (2 : Int) ^ m < 2 ^ 8 := by omega
  have hc8 : c < 2 ^ 8 := by omega
  rw [hmod]
  obtain ⟨a, rfl⟩ := Int.eq_ofNat_of_zero_le h0
  have ha : a < 2 ^ 8 := by exact_mod_cast hc8
  have ha' : a < 2 ^ m := by exact_mod_cast h1
  have hb : 2 ^ m < 2 ^ 8 := by exact_mod_cast h8
  have e : ((2 : Int) ^ m) = ((2 ^ m : Nat) : Int) := by simp
  have := Nat.two_pow_add_eq_or_of_lt ha' 1
  rw [Nat.mul_one] at this
  rw [e, (bits_nat .u8 8 (by decide) wraps_u8 a _ ha hb).2, Nat.or_comm, ← this]
  simp
  omega

set_option maxHeartbeats 1000000 in
theorem pack_any (v : Value) (l : List Bool) (w : World) (h : Gl .bool w v l) :
    Calls Try.prog 28 #[v] w fun e w' => ∃ v', e = .returned v' ∧ w'.ownsRow w.heap.size 5 1 v' (L.pack l).length ((L.pack l).map (Value.int .u8)) ∧ Below w.heap.size w w' := by
  have hs := h
  obtain ⟨i0, hi, hz0, hz1, hz2⟩ := info_parts Try.info5
  obtain ⟨a, cap, rfl, hl, hm, hna, ho⟩ := h.open
  clear h
  by_cases h64 : l.length ≤ 64
  · have hp : L.pack l = (l.length : Int) :: L.bytes l := by unfold L.pack; rw [if_pos h64]
    rw [hp]
    clear hp
    obtain ⟨W, hW⟩ : ∃ W, W = L.width l.length := ⟨_, rfl⟩
    have hW8 : W ≤ 8 := by rw [hW]; unfold L.width; omega
    have hmk := run_make_row' (P := Try.prog) 32 5 (.int .u8 0) 1 Try.underlying32 Try.info5 rfl .i64 .i64 W (by omega) (by omega)
    have HW := hide hW
    clear hW
    go_enter Try.func28, Try.ntmps28
    go_wp2_with fail
    refine (may_any _ l _ hs true (by simpa using h64)).mono ?_
    rintro e w1 ⟨rfl, hw1⟩
    subst hw1
    go_wp2_with fail
    refine (width_any l.length (by omega) _).mono ?_
    rw [← unhide HW]
    rintro e w2 ⟨rfl, hw2⟩
    subst hw2
    go_wp2
    go_loopw [14] (fun iv wr => ∃ (k : Nat) (X : List Int), k ≤ l.length ∧ iv = .int .i64 k ∧ X.length = W ∧ X = L.part l k ∧
        wr.ownsRow w2.heap.size 5 1 (.slice (some ⟨w2.heap.size, 0, none⟩) W W) X.length (X.map (Value.int .u8)) ∧ Below w2.heap.size w2 wr) (fun iv _ => l.length - (intOf iv).toNat)
    case atStart => exact ⟨0, List.replicate W 0, Nat.zero_le _, rfl, by simp, by rw [L.part_zero, ← unhide HW], made_own w2 _ 0 W (by unfold maxLen; omega), below_alloc _ _⟩
    case round =>
      obtain ⟨k, X, hk, rfl, hX, hF, hown, hbel⟩ := hrel
      have HX := hide hX
      have HF := hide hF
      clear hX hF hmk
      by_cases hlt : k < l.length
      · obtain ⟨ba, fa, rfl, la2, ka⟩ := ho (by omega)
        obtain ⟨x, hx⟩ : ∃ x, l[k]? = some x := ⟨l[k], List.getElem?_eq_getElem hlt⟩
        have c1 : wr.cell? ⟨ba, fa + k, none⟩ = some (.bool x) := (hbel.cell (p := ⟨ba, fa + k, none⟩) la2).trans (ka k x hx)
        have HK := hide hx
        clear ka ho hx
        cases x with
        | false =>
          go_wp2
          go_roundw
          case rel => exact ⟨k + 1, X, by omega, by go_num, unhide HX, by rw [L.part_false (unhide HK)]; exact unhide HF, hown, hbel⟩
          case measure => simp [intOf]; omega
        | true =>
          have hw8 : k / 8 < W := by rw [unhide HW]; unfold L.width; omega
          have hz := own_froz hown (unhide HX).symm (k / 8)
          have hq := L.part_at hlt
          rw [← unhide HF] at hq
          have hb := L.byte_bd (l.take k) (k / 8)
          have hb2 := (L.byte_take_here (unhide HK)).2
          have hst := L.part_true (unhide HK)
          obtain ⟨c, hc⟩ : ∃ c, c = L.byteAt (l.take k) (k / 8) := ⟨_, rfl⟩
          rw [← hc] at hq hb hb2 hst
          have c2 := own_at hown (unhide HX).symm hq
          have HST := hide hst
          have HB2 := hide hb2
          have hm8 : k % 8 < 8 := Nat.mod_lt _ (by omega)
          clear hq hst hb2 hc
          go_wp2
          go_region
          go_wp2
          go_roundw
          case rel =>
            refine ⟨k + 1, (L.part l k).set (k / 8) (c + 2 ^ (k % 8)), by omega, by go_num, by rw [List.length_set, ← unhide HF]; exact unhide HX, (unhide HST).symm, ?_, (hbel.setCell (Nat.le_refl _) _).drew⟩
            rw [or_bit hb.1 (unhide HB2) hm8, ← unhide HF]
            exact own_put hown (unhide HX).symm (k / 8) (c + 2 ^ (k % 8))
          case measure => simp [intOf]; omega
      · have hF := unhide HF
        rw [L.part_end l (by omega)] at hF
        have HF2 := hide hF
        have hxl : X.length ≤ 8 := by rw [unhide HX]; exact hW8
        have SX := Sl.owned hown
        clear ho hF hown HF
        go_wp2_with fail
        refine (put_any (l.length : Int) _).mono ?_
        rw [L.putA_small (by omega) (by omega)]
        rintro e w3 ⟨v3, rfl, hown3, hb3⟩
        have S3 := SX.below hb3
        have O3 := own_mono hown3 hbel.size
        have B3 := hbel.trans (hb3.mono hbel.size)
        have hBs := B3.size
        have hv3 : ([(l.length : Int)] ++ X) = (l.length : Int) :: L.bytes l := by rw [← unhide HF2]; rfl
        have HV3 := hide hv3
        clear hv3 SX hown3 hb3 hbel
        go_wp2_with (at_builtin; refine append_all (k := .u8) rfl _ _ 32 rfl Try.underlying32 hi hz0 hz1 hz2 rfl (pre := [(l.length : Int)]) (zs := X) rfl rfl S3 O3 B3 hBs (by simp; omega) (by decide) ?_; intro v4 w4 O4 B4)
        go_ret
        rw [unhide HV3] at O4
        exact ⟨_, rfl, O4, B4⟩
  · have hp : L.pack l = [] := by unfold L.pack; rw [if_neg h64]
    rw [hp]
    clear ho
    go_enter Try.func28, Try.ntmps28
    go_wp2_with fail
    refine (may_any _ l _ hs false (by simpa using h64)).mono ?_
    rintro e w1 ⟨rfl, hw1⟩
    subst hw1
    go_wp2
    go_ret
    exact ⟨_, rfl, World.ownsRow_nil _ _ _ _, Below.refl _ _⟩
end Go.Proofs.Ytgdaohjmepgmmaa
