/-
  The contracts of a sum's four bytes, and of the library's Equal.
-/
import Derived.Test.YtfffjolodilhoaaSum
import Derived.Test.YtfffjolodilhoaaPlainFrame
import Derived.Lib.Bytes
namespace Go.Proofs.Ytfffjolodilhoaa
open Go.RowKit

theorem old_cells {W w1 : World} (hb : Below W.heap.size W w1) : (∀ b o, b < W.heap.size → w1.cell? ⟨b, o, none⟩ = W.cell? ⟨b, o, none⟩) ∧ (∀ b o, b < W.heap.size → w1.frozen? ⟨b, o, none⟩ = W.frozen? ⟨b, o, none⟩) :=
  ⟨fun b o h => hb.cell (p := ⟨b, o, none⟩) h, fun b o h => hb.frozen (p := ⟨b, o, none⟩) h⟩

set_option maxHeartbeats 400000 in
theorem tail_any (v : Value) (l : List Int) (w : World) (h : Sl .u8 w v l) (hb : V.Byt l) :
    Calls Try.prog 18 #[v] w fun e w' => e = .returned (.agg ((C.four (C.sum l)).map (Value.int .u8)).toArray) ∧ Below w.heap.size w w' := by
  go_enter Try.func18, Try.ntmps18
  go_wp2_with fail
  refine (sum_any _ l _ (h.below (below_alloc _ _)) hb).mono ?_
  rintro e w1 ⟨rfl, hb1⟩
  have hs := C.sum_lt l
  obtain ⟨s, hse⟩ : ∃ s, s = C.sum l := ⟨_, rfl⟩
  rw [← hse] at hs ⊢
  have HS := hide hse
  clear hse
  obtain ⟨hc, hf⟩ := old_cells hb1
  clear h
  go_wp2
  have hz : w.heap.size + 1 ≤ w1.heap.size := by have := hb1.size; simp at this; omega
  refine bodyPost_ret (v := .agg #[.int .u8 ((s : Int) % 256), .int .u8 ((s : Int) / 256 % 256), .int .u8 ((s : Int) / 65536 % 256), .int .u8 ((s : Int) / 16777216)]) ?_ rfl ⟨?_, ?_⟩
  · simp [results, Try.results18, go_sem, hc]
  · have e3 : (s : Int) / 16777216 = ((s / 16777216 % 256 : Nat) : Int) := by omega
    rw [e3, ← unhide HS]
    rfl
  · exact ((((below_trans' (below_alloc _ _) hb1).setCell (Nat.le_refl _) _).setCell (Nat.le_refl _) _).setCell (Nat.le_refl _) _).setCell (Nat.le_refl _) _

theorem tail_b (v : Value) (l : List Int) (w : World) (h : Sl .u8 w v l) (hb : V.Byt l) :
    Calls Try.prog 18 #[v] w fun e w' => ∃ t0 t1 t2 t3 : Int, Hid (C.four (C.sum l) = [t0, t1, t2, t3]) ∧ e = .returned (.agg #[.int .u8 t0, .int .u8 t1, .int .u8 t2, .int .u8 t3]) ∧ Below w.heap.size w w' :=
  (tail_any v l w h hb).mono fun _ _ ⟨h1, h2⟩ => ⟨_, _, _, _, rfl, h1, h2⟩

theorem Try.conv_str (w : World) (v : Value) (l : List Int) (h : Sl .u8 w v l) : (convert 22 9 v).run Try.prog w = .ok (.string (strOfNums l)) w := by
  obtain ⟨a, cap, rfl, hl, hm, hna, ho⟩ := h.open
  by_cases h0 : 0 < l.length
  · obtain ⟨b, off, rfl, -, hc⟩ := ho h0
    exact run_convert_bytes_arg w 22 5 Try.underlying22 Try.underlying5 b off _ cap l rfl hc 9 Try.underlying9
  · obtain rfl : l = [] := List.eq_nil_of_length_eq_zero (by omega)
    show (convert 22 9 (.slice a 0 cap)).run Try.prog w = _
    rw [run_convert_bytes_string w 22 9 5 a 0 cap Try.underlying22 Try.underlying5 Try.underlying9]
    cases a with
    | none => rfl
    | some x => simp [Conv.bytesToString, loadCells]; rfl

theorem nums_inj {xs ys : List Int} (bx : V.Byt xs) (hy : V.Byt ys) : ((strOfNums xs).toList == (strOfNums ys).toList) = decide (xs = ys) := by
  rw [Lib.strOfNums_toList, Lib.strOfNums_toList]
  by_cases h : xs = ys
  · subst h; simp
  · rw [decide_eq_false h, beq_eq_false_iff_ne]
    intro e
    apply h
    have h2 := congrArg (List.map fun u : UInt8 => (u.toNat : Int)) e
    have back : ∀ zs : List Int, V.Byt zs → (Lib.bytesOf zs).map (fun u : UInt8 => (u.toNat : Int)) = zs := by
      intro zs hz
      simp only [Lib.bytesOf, List.map_map]
      conv => rhs; rw [← List.map_id zs]
      apply List.map_congr_left
      intro n hn
      have := hz n hn
      simp
      omega
    rwa [back xs bx, back ys hy] at h2

set_option maxHeartbeats 400000 in
theorem equal_any (va vb : Value) (xs ys : List Int) (w : World) (ha : Sl .u8 w va xs) (hb : Sl .u8 w vb ys) (bx : V.Byt xs) (hy : V.Byt ys) :
    Calls Try.prog 19 #[va, vb] w fun e w' => e = .returned (.bool (decide (xs = ys))) ∧ w' = w := by
  have c1 := Try.conv_str w va xs ha
  have c2 := Try.conv_str w vb ys hb
  go_enter Try.func19, Try.ntmps19
  go_wp2
  go_ret
  exact ⟨by rw [← nums_inj bx hy]; rfl, rfl⟩
end Go.Proofs.Ytfffjolodilhoaa
