/-
  The contracts of the method that takes a byte to the sum, and of Sum, the program's and the document's.
-/
import Derived.Test.YtfffjolodilhoaaHelp
import Derived.Test.YtfffjolodilhoaaCrc
namespace Go.Proofs.Ytfffjolodilhoaa
open Go.RowKit

theorem wraps_u32 (n : Int) (h₀ : 0 ≤ n) (h₁ : n < 2 ^ 32) : IntKind.u32.wrap n = n := by rw [IntKind.wrap_u32]; omega
theorem xor_u32 (a b : Nat) (ha : a < 4294967296) (hb : b < 4294967296) : bits .xor .u32 (a : Int) (b : Int) = ((a ^^^ b : Nat) : Int) := by
  have ha' : a % 2 ^ IntKind.u32.bits = a := Nat.mod_eq_of_lt ha
  have hb' : b % 2 ^ IntKind.u32.bits = b := Nat.mod_eq_of_lt hb
  have h := C.xor_lt ha hb
  simp only [bits, BitVec.ofInt_natCast, BitVec.toNat_xor, BitVec.toNat_ofNat, ha', hb']
  exact wraps_u32 _ (by omega) (by omega)
theorem and1_u32 (a : Nat) (ha : a < 4294967296) : bits .and .u32 (a : Int) 1 = ((a % 2 : Nat) : Int) := by
  have := bits_mask .u32 32 (by decide) wraps_u32 1 (by decide) (a : Int) (by omega) (by omega)
  simpa using this

theorem ret_int {k : IntKind} {a b : Int} (h : a = b) : Ending.returned (.int k a) = .returned (.int k b) := by rw [h]
theorem not_u32 (a : Nat) (ha : a < 4294967296) : bits .xor .u32 IntKind.u32.max (a : Int) = ((4294967295 - a : Nat) : Int) := by
  have e : IntKind.u32.max = ((4294967295 : Nat) : Int) := by decide
  have h : 4294967295 ^^^ a = 4294967295 - a := by
    have h1 : (BitVec.allOnes 32 ^^^ BitVec.ofNat 32 a).toNat = (~~~ BitVec.ofNat 32 a).toNat := by rw [BitVec.allOnes_xor]
    rw [BitVec.toNat_xor, BitVec.toNat_not, BitVec.toNat_allOnes, BitVec.toNat_ofNat, Nat.mod_eq_of_lt (by omega)] at h1
    simpa using h1
  rw [e, xor_u32 _ _ (by omega) ha, h]

set_option maxHeartbeats 400000 in
theorem take_any (a : Addr) (s : Nat) (c : Int) (w : World) (hs : s < 4294967296) (hc : 0 ≤ c ∧ c ≤ 255) (hcell : w.cell? a = some (.int .u32 s)) (hfr : w.frozen? a = false) :
    Calls Try.prog 23 #[.pointer (some a), .int .u8 c] w fun e w' => e = .returned (.tuple #[]) ∧ w' = w.setCell a (.int .u32 (C.byte s c)) := by
  obtain ⟨hc0, hc1⟩ := hc
  have hx : bits .xor .u32 (s : Int) c = ((s ^^^ c.toNat : Nat) : Int) := by
    have := xor_u32 s c.toNat hs (by omega)
    rwa [Int.toNat_of_nonneg hc0] at this
  have HX : Hid (bits .xor .u32 (s : Int) c = ((s ^^^ c.toNat : Nat) : Int)) := hx
  clear hx
  go_enter Try.func23, Try.ntmps23
  go_wp2
  rw [HX.out]
  go_loop [4, 12] (fun n i => ∃ k t : Nat, k ≤ 8 ∧ i = .int .i64 k ∧ n = .int .u32 t ∧ t < 4294967296 ∧ C.step (8 - k) t = C.byte s c) (fun _ i => 8 - (intOf i).toNat)
  case atStart => exact ⟨0, _, by omega, rfl, rfl, C.xor_lt hs (by omega), rfl⟩
  case round =>
    obtain ⟨k, t, hk, rfl, rfl, ht, heq⟩ := hrel
    have HE : Hid (C.step (8 - k) t = C.byte s c) := heq
    clear heq
    by_cases hlt : k < 8
    · have ha := and1_u32 t ht
      by_cases hp : t % 2 = 1
      · rw [hp] at ha
        have hxx := xor_u32 (t / 2) 2197175160 (by omega) (by omega)
        have HXX : Hid (bits .xor .u32 ((t / 2 : Nat) : Int) ((2197175160 : Nat) : Int) = ((t / 2 ^^^ 2197175160 : Nat) : Int)) := hxx
        have hb : C.bit t = t / 2 ^^^ 2197175160 := if_pos hp
        have HB : Hid (C.bit t = t / 2 ^^^ 2197175160) := hb
        clear hxx hp hb
        go_wp2
        go_round
        case rel => exact ⟨k + 1, C.bit t, by omega, by go_num, by rw [HB.out, ← HXX.out]; rfl, C.bit_lt ht, by rw [← C.step_more k t hlt, HE.out]⟩
        case measure => simp [intOf]; omega
      · rw [show t % 2 = 0 by omega] at ha
        have hb : C.bit t = t / 2 := if_neg hp
        have HB : Hid (C.bit t = t / 2) := hb
        clear hp hb
        go_wp2
        go_round
        case rel => exact ⟨k + 1, C.bit t, by omega, by go_num, by rw [HB.out]; rfl, C.bit_lt ht, by rw [← C.step_more k t hlt, HE.out]⟩
        case measure => simp [intOf]; omega
    · have hk8 : k = 8 := by omega
      subst hk8
      go_wp2
      go_end0
      exact ⟨rfl, by rw [← HE.out]; rfl⟩

/-- The one cell that the sum is kept in: what it holds, and that all that was ahead stays. -/
def Acc (w wr : World) (s : Nat) : Prop :=
  wr.cell? ⟨w.heap.size, 0, none⟩ = some (.int .u32 s) ∧ wr.frozen? ⟨w.heap.size, 0, none⟩ = false ∧ Below w.heap.size w wr

theorem Acc.put {w wr : World} {s : Nat} (h : Acc w wr s) (t : Nat) : Acc w (wr.setCell ⟨w.heap.size, 0, none⟩ (.int .u32 t)) t := by
  obtain ⟨h1, h2, h3⟩ := h
  refine ⟨?_, ?_, h3.setCell (Nat.le_refl _) _⟩
  · exact World.cell?_setCell_same _ _ _ h1
  · simpa using h2

set_option maxHeartbeats 400000 in
theorem sum_any (v : Value) (l : List Int) (w : World) (h : Sl .u8 w v l) (hb : V.Byt l) :
    Calls Try.prog 15 #[v] w fun e w' => e = .returned (.int .u32 (C.sum l)) ∧ Below w.heap.size w w' := by
  obtain ⟨a, cap, rfl, hl, hm, hna, ho⟩ := h.open
  clear h
  go_enter Try.func15, Try.ntmps15
  go_wp2
  go_loopw [10] (fun i wr => ∃ k : Nat, k ≤ l.length ∧ i = .int .i64 k ∧ Acc w wr (C.fold 4294967295 (l.take k))) (fun i _ => l.length - (intOf i).toNat)
  case atStart => exact ⟨0, Nat.zero_le _, rfl, by simp [C.fold], by simp, below_alloc _ _⟩
  case round =>
    obtain ⟨k, hk, rfl, hacc⟩ := hrel
    have hf := C.fold_lt (l.take k) 4294967295 (hb.take k) (by omega)
    by_cases hlt : k < l.length
    · obtain ⟨b, off, rfl, hbl, hc⟩ := ho (by omega)
      have hA := hide hacc
      obtain ⟨hA1, hA2, hA3⟩ := hacc
      have c1 : wr.cell? ⟨b, off + k, none⟩ = some (.int .u8 (l.getD k 0)) := (hA3.cell hbl).trans (hc k hlt)
      have hx := hb l[k] (List.getElem_mem _)
      clear hc ho hna
      go_wp2_with fail
      refine (take_any _ _ _ _ hf hx hA1 hA2).mono ?_
      rintro e w1 ⟨rfl, rfl⟩
      clear c1
      go_wp2
      go_roundw
      case rel => exact ⟨k + 1, by omega, by go_num, by rw [C.fold_take _ hlt]; exact (unhide hA).put _⟩
      case measure => simp [intOf]; omega
    · obtain ⟨hA1, hA2, hA3⟩ := hacc
      go_wp2
      go_ret
      exact ⟨ret_int (by rw [not_u32 _ hf, List.take_of_length_le (by omega)]; rfl), hA3⟩

set_option maxHeartbeats 400000 in
theorem refSum_any (v : Value) (l : List Int) (w : World) (h : Sl .u8 w v l) (hb : V.Byt l) :
    Calls Try.prog 16 #[v] w fun e w' => e = .returned (.int .u32 (C.sum l)) ∧ w' = w := by
  obtain ⟨a, cap, rfl, hl, hm, hna, ho⟩ := h.open
  clear h
  go_enter Try.func16, Try.ntmps16
  go_wp2
  go_loop [3, 4] (fun r i => ∃ k s : Nat, k ≤ l.length ∧ i = .int .i64 k ∧ r = .int .u32 s ∧ s < 4294967296 ∧ s = C.fold 4294967295 (l.take k)) (fun _ i => l.length - (intOf i).toNat)
  case atStart => exact ⟨0, 4294967295, Nat.zero_le _, rfl, rfl, by decide, rfl⟩
  case round =>
    obtain ⟨k, s, hk, rfl, rfl, hs, heq⟩ := hrel
    have HE := hide heq
    clear heq
    by_cases hlt : k < l.length
    · obtain ⟨b, off, rfl, hbl, hc⟩ := ho (by omega)
      have c1 := hc k hlt
      obtain ⟨c, hce⟩ : ∃ c, c = l[k] := ⟨_, rfl⟩
      have c2 : w.cell? ⟨b, off + k, none⟩ = some (.int .u8 c) := by rw [c1, hce]; simp [hlt]
      have hcb := hb c (by rw [hce]; exact List.getElem_mem _)
      have HC := hide hce
      have hx : bits .xor .u32 (s : Int) c = ((s ^^^ c.toNat : Nat) : Int) := by
        have := xor_u32 s c.toNat hs (by omega)
        rwa [Int.toNat_of_nonneg hcb.1] at this
      have HX := hide hx
      clear hce c1 hc ho hna hx
      go_wp2
      rw [unhide HX]
      go_loop [3, 5] (fun n i => ∃ j t : Nat, j ≤ 8 ∧ i = .int .i64 j ∧ n = .int .u32 t ∧ t < 4294967296 ∧ C.step (8 - j) t = C.byte s c) (fun _ i => 8 - (intOf i).toNat)
      case atStart => exact ⟨0, _, by omega, rfl, rfl, C.xor_lt hs (by omega), rfl⟩
      case round =>
        obtain ⟨j, t, hj, rfl, rfl, ht, heq⟩ := hrel
        have HT := hide heq
        clear heq
        by_cases hj8 : j < 8
        · by_cases hp : t % 2 = 1
          · have hp2 : (t : Int) % 2 = 1 := by omega
            have HXX := hide (xor_u32 (t / 2) 2197175160 (by omega) (by omega))
            have HB : Hid (C.bit t = t / 2 ^^^ 2197175160) := if_pos hp
            clear hp
            go_wp2
            go_round
            case rel => exact ⟨j + 1, C.bit t, by omega, by go_num, by rw [HB.out, ← unhide HXX]; rfl, C.bit_lt ht, by rw [← C.step_more j t hj8, unhide HT]⟩
            case measure => simp [intOf]; omega
          · have hp2 : (t : Int) % 2 = 0 := by omega
            have HB : Hid (C.bit t = t / 2) := if_neg hp
            clear hp
            go_wp2
            go_round
            case rel => exact ⟨j + 1, C.bit t, by omega, by go_num, by rw [HB.out]; rfl, C.bit_lt ht, by rw [← C.step_more j t hj8, unhide HT]⟩
            case measure => simp [intOf]; omega
        · have hk8 : j = 8 := by omega
          subst hk8
          go_wp2
          go_round
          case rel => exact ⟨k + 1, t, by omega, by go_num, rfl, ht, by rw [C.fold_take _ hlt, ← unhide HC, ← unhide HE, ← unhide HT]; rfl⟩
          case measure => simp [intOf]; omega
    · go_wp2
      go_ret
      exact ⟨ret_int (by rw [unhide HE, List.take_of_length_le (by omega)]; unfold C.sum; have := C.fold_lt l 4294967295 hb (by omega); omega), rfl⟩
end Go.Proofs.Ytfffjolodilhoaa
