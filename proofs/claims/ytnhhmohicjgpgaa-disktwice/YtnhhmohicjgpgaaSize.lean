/-
  The contracts of size and used: how many bytes files have together; of clone: the same bytes in new memory.
-/
import Derived.Test.YtnhhmohicjgpgaaPlainDisk
import Derived.Deep.QuietTactic
import Derived.BigQuiet
namespace Go.Proofs.Ytnhhmohicjgpgaa
open Go.RowKit

set_option maxHeartbeats 1000000 in
theorem used_any (v : Value) (L : List Pf) (w : World) (h : Fl w v L) (hs : K.sum L ≤ 4294967296) :
    Calls Try.prog 32 #[v] w fun e w' => e = .returned (.int .i64 (K.sum L)) ∧ w' = w := by
  obtain ⟨a, cap, rfl, hl, hm, hna, ho⟩ := h.open
  clear h
  go_enter Try.func32, Try.ntmps32
  go_wp2
  go_loop [3, 4] (fun n i => ∃ k : Nat, k ≤ L.length ∧ i = .int .i64 k ∧ n = .int .i64 (K.sum (L.take k))) (fun _ i => L.length - (intOf i).toNat)
  case atStart => exact ⟨0, Nat.zero_le _, rfl, by simp [K.sum]⟩
  case round =>
    obtain ⟨k, hk, rfl, rfl⟩ := hrel
    have hsl := K.sum_take_le L k
    by_cases hlt : k < L.length
    · obtain ⟨f, hf⟩ : ∃ f, L[k]? = some f := ⟨L[k], List.getElem?_eq_getElem hlt⟩
      obtain ⟨b, off, rfl, hb, hc⟩ := ho (by omega)
      obtain ⟨da, dc, c0, c1, c2, c3⟩ := hc k f hf
      have hst := hide (K.sum_take L k f hf)
      have hst2 := K.sum_take_le L (k + 1)
      have hdl : (f.da.length : Int) ≤ 4294967296 := by have := unhide hst; omega
      clear hc hf ho hst2 c3
      go_wp2
      go_round
      case rel => exact ⟨k + 1, by omega, by go_num, by rw [unhide hst]; go_num⟩
      case measure => simp [intOf]; omega
    · go_wp2
      go_ret
      exact ⟨by rw [List.take_of_length_le (by omega)]; rfl, rfl⟩

set_option maxHeartbeats 1000000 in
theorem size_any (v : Value) (L : List Pf) (w : World) (h : Fl w v L) (hs : K.sum L ≤ 4294967296) :
    Calls Try.prog 34 #[v] w fun e w' => e = .returned (.int .i64 (K.sum L)) ∧ Below w.heap.size w w' := by
  obtain ⟨a, cap, rfl, hl, hm, hna, ho⟩ := h.open
  clear h
  go_enter Try.func34, Try.ntmps34
  go_wp2
  go_loopw [3, 8] (fun n i wr => ∃ k : Nat, k ≤ L.length ∧ i = .int .i64 k ∧ n = .int .i64 (K.sum (L.take k)) ∧ Below w.heap.size w wr) (fun _ i _ => L.length - (intOf i).toNat)
  case atStart => exact ⟨0, Nat.zero_le _, rfl, by simp [K.sum], Below.refl _ _⟩
  case round =>
    obtain ⟨k, hk, rfl, rfl, hbel⟩ := hrel
    have hsl := K.sum_take_le L k
    by_cases hlt : k < L.length
    · obtain ⟨f, hf⟩ : ∃ f, L[k]? = some f := ⟨L[k], List.getElem?_eq_getElem hlt⟩
      obtain ⟨b, off, rfl, hb, hc⟩ := ho (by omega)
      obtain ⟨da, dc, c0, c1, c2, c3⟩ := hc k f hf
      have hst := hide (K.sum_take L k f hf)
      have hst2 := K.sum_take_le L (k + 1)
      have hdl : (f.da.length : Int) ≤ 4294967296 := by have := unhide hst; omega
      have d0 := (hbel.cell (p := ⟨b, off + k * 3, none⟩) hb).trans c0
      have d1 := (hbel.cell (p := ⟨b, off + k * 3 + 1, none⟩) hb).trans c1
      have d2 := (hbel.cell (p := ⟨b, off + k * 3 + 2, none⟩) hb).trans c2
      clear hc hf ho hst2 c3 c0 c1 c2
      have hbs := hbel.size
      go_wp2
      go_roundw
      case rel => exact ⟨k + 1, by omega, by go_num, by rw [unhide hst]; go_num, hbel.alloc hbs _⟩
      case measure => simp [intOf]; omega
    · go_wp2
      go_ret
      exact ⟨by rw [List.take_of_length_le (by omega)]; rfl, hbel⟩

set_option maxHeartbeats 1000000 in
theorem clone_any (v : Value) (z : List Int) (w : World) (h : Sl .u8 w v z) (hs : z.length ≤ 4294967296) :
    Calls Try.prog 29 #[v] w fun e w' => ∃ v', e = .returned v' ∧ w'.ownsRow w.heap.size 5 1 v' z.length (z.map (Value.int .u8)) ∧ Below w.heap.size w w' := by
  have hh := h
  obtain ⟨a, cap, rfl, hl, hm, hna, ho⟩ := h.open
  clear h
  have hi5 : (Try.prog.info? 5).map (fun i => (i.zero, i.size, i.bytes)) = some (some (.int .u8 0), 1, 1) := by kernel_rfl
  obtain ⟨i0, hi, hz0, hz1, hz2⟩ := info_parts hi5
  clear hi5
  go_enter Try.func29, Try.ntmps29
  go_wp2_with (at_builtin; refine append_all (pre := []) rfl _ _ 27 rfl Try.underlying27 hi hz0 hz1 hz2 rfl rfl rfl hh (World.ownsRow_nil _ _ _ _) (Below.refl _ _) (Nat.le_refl _) (by simpa using hs) (by decide) ?_; intro v' w' ho' hb')
  go_ret
  exact ⟨v', rfl, by simpa using ho', hb'⟩
end Go.Proofs.Ytnhhmohicjgpgaa
