/-
  The contract of each: the list of what is told of each of so many, whoever tells it; what the teller keeps, and changes, is a letter here.
-/
import Derived.Test.YtggojmnalmjapaaMake4
import Derived.Test.YtggojmnalmjapaaSameInts
import Derived.Test.YtggojmnalmjapaaPlainR10
namespace Go.Proofs.Ytggojmnalmjapaa
set_option maxRecDepth 100000
open Go.RowKit Go.Deep

theorem Try.infoI10 : (Try.prog.info? 3).map (fun i => (i.zero, i.size, i.bytes)) = some (some (.int .i64 0), 1, 8) := by kernel_rfl

theorem grown10_refl (w : World) (row : Option Nat) : w.grownBy w row := ⟨rfl, rfl, rfl, Nat.le_refl _, fun _ _ _ => rfl⟩
theorem grown10_bel {w w1 w2 : World} {row : Option Nat} (h : w.grownBy w1 row) (hb : Below w.heap.size w1 w2) : w.grownBy w2 row :=
  ⟨hb.os.trans h.os, hb.tape.trans h.tape, hb.output.trans h.output, Nat.le_trans h.size hb.size, fun k hk hne => (hb.block k hk).trans (h.block k hk hne)⟩
theorem grown10_none {w w1 : World} (h : w.grownBy w1 none) : Below w.heap.size w w1 := ⟨h.os, h.tape, h.output, h.size, fun k hk => h.block k hk (by simp)⟩
theorem own10_far {w w' : World} {B K n : Nat} {e : TypeId} {v : Value} {xs : List Value} {row : Option Nat} (h : w.ownsRow B e K v n xs) (hg : w.grownBy w' row) (hr : ∀ g, row = some g → g < B) : w'.ownsRow B e K v n xs := by
  refine ⟨h.1, ?_⟩
  rcases h.2 with h0 | ⟨g, cap, cur, rfl, hb, hgg, rest⟩
  · exact .inl h0
  · refine .inr ⟨g, cap, cur, rfl, hb, ?_, rest⟩
    rw [hg.block g (Array.getElem?_eq_some_iff.1 hgg).1 (fun e => by have := hr g e.symm; omega)]
    exact hgg

/-- What each hands back. -/
def Eached (w : World) (n : Nat) (F : Nat → Int) (row : Option Nat) (Inv : Nat → World → Prop) (e : Ending) (w' : World) : Prop :=
  e = .returned (.slice (some ⟨w.heap.size, 0, none⟩) n n) ∧ w'.ownsRow w.heap.size 3 1 (.slice (some ⟨w.heap.size, 0, none⟩) n n) n (((List.range n).map F).map (Value.int .i64)) ∧ Inv n w' ∧ w.grownBy w' row

set_option maxHeartbeats 1000000 in
theorem eachT_any (a b : Addr) (n : Nat) (hn : n ≤ 9223372036854775807) (hn2 : n ≤ 17592186044416) (F : Nat → Int) (row : Option Nat) (Inv : Nat → World → Prop) (w : World) (hrow : ∀ g, row = some g → g < w.heap.size) (h0 : Inv 0 w) (hkeep : ∀ i w1 w2, Inv i w1 → Below w.heap.size w1 w2 → Inv i w2)
    (hcall : ∀ i, i < n → ∀ w1, Inv i w1 → w.grownBy w1 row → Calls Try.prog 27 #[.int .i64 (i : Int), .pointer (some a), .pointer (some b)] w1 fun e w2 => e = .returned (.int .i64 (F i)) ∧ Inv (i + 1) w2 ∧ w1.grownBy w2 row) :
    Calls Try.prog 26 #[.int .i64 (n : Int), .func (.func 27) #[] #[.pointer (some a), .pointer (some b)]] w (Eached w n F row Inv) := by
  have hmk := run_make_row' (P := Try.prog) 23 3 (.int .i64 0) 8 Try.underlying23 Try.infoI10 rfl .i64 .i64 n (by omega) (by omega)
  have HC := hide hcall
  have HK := hide hkeep
  have HI := hide h0
  clear hcall hkeep h0
  go_enter Try.func26, Try.ntmps26
  go_wp2
  go_loopw [11] (fun iv wr => ∃ (j : Nat) (X : List Int), j ≤ n ∧ iv = .int .i64 j ∧ X.length = n ∧ Fill F X j ∧
      wr.ownsRow w.heap.size 3 1 (.slice (some ⟨w.heap.size, 0, none⟩) n n) X.length (X.map (Value.int .i64)) ∧ Hid (Inv j wr) ∧ w.grownBy wr row) (fun iv _ => n - (intOf iv).toNat)
  case atStart => exact ⟨0, List.replicate n 0, Nat.zero_le _, rfl, by simp, (fun i hi => by omega), made_own w _ (0 : Int) n (by unfold maxLen; omega), hide (unhide HK 0 _ _ (unhide HI) (below_alloc _ _)), grown10_bel (grown10_refl w row) (below_alloc _ _)⟩
  case round =>
    obtain ⟨j, X, hj, rfl, hX, hF, hown, HJ, hg⟩ := hrel
    have HX := hide hX
    have HF := hide hF
    have hsz := hg.size
    have HG := hide hg
    clear hX hF hmk hg
    by_cases hlt : j < n
    · have CC := unhide HC j hlt wr (unhide HJ) (unhide HG)
      have HO := hide hown
      clear hown
      go_wp2_with fail
      refine CC.mono ?_
      rintro e w2 ⟨rfl, I2, G2⟩
      have O2 := own10_far (unhide HO) G2 hrow
      have hz := own_froz O2 (unhide HX).symm j
      obtain ⟨x, hx⟩ : ∃ x, X[j]? = some x := ⟨X[j]'(by rw [unhide HX]; exact hlt), List.getElem?_eq_getElem _⟩
      have c1 := own_at O2 (unhide HX).symm hx
      have O3 := own_put O2 (unhide HX).symm j (F j)
      have B3 : Below w.heap.size w2 (w2.setCell ⟨w.heap.size, j, none⟩ (.int .i64 (F j))) := (Below.refl w.heap.size w2).setCell (p := ⟨w.heap.size, j, none⟩) (Nat.le_refl _) _
      have J3 := hide (unhide HK _ _ _ I2 B3)
      have G3 := hide (grown10_bel ((unhide HG).trans G2) B3)
      have HO3 := hide O3
      clear hx O2 B3 I2 G2 CC O3
      go_wp2
      go_roundw
      case rel => exact ⟨j + 1, X.set j (F j), by omega, by go_num, by simp [unhide HX], Fill.set (unhide HF) (by rw [unhide HX]; exact hlt), unhide HO3, J3, unhide G3⟩
      case measure => simp [intOf]; omega
    · go_wp2
      go_ret
      have ej : j = n := by omega
      subst ej
      have e : X = (List.range j).map F := Fill.done (unhide HF) (unhide HX)
      refine ⟨rfl, ?_, unhide HJ, unhide HG⟩
      rw [← e]
      have := hown
      rw [unhide HX] at this
      exact this

set_option maxHeartbeats 1000000 in
theorem eachH_any (a b : Addr) (n : Nat) (hn : n ≤ 9223372036854775807) (hn2 : n ≤ 17592186044416) (F : Nat → Int) (row : Option Nat) (Inv : Nat → World → Prop) (w : World) (hrow : ∀ g, row = some g → g < w.heap.size) (h0 : Inv 0 w) (hkeep : ∀ i w1 w2, Inv i w1 → Below w.heap.size w1 w2 → Inv i w2)
    (hcall : ∀ i, i < n → ∀ w1, Inv i w1 → w.grownBy w1 row → Calls Try.prog 28 #[.int .i64 (i : Int), .pointer (some a), .pointer (some b)] w1 fun e w2 => e = .returned (.int .i64 (F i)) ∧ Inv (i + 1) w2 ∧ w1.grownBy w2 row) :
    Calls Try.prog 26 #[.int .i64 (n : Int), .func (.func 28) #[] #[.pointer (some a), .pointer (some b)]] w (Eached w n F row Inv) := by
  have hmk := run_make_row' (P := Try.prog) 23 3 (.int .i64 0) 8 Try.underlying23 Try.infoI10 rfl .i64 .i64 n (by omega) (by omega)
  have HC := hide hcall
  have HK := hide hkeep
  have HI := hide h0
  clear hcall hkeep h0
  go_enter Try.func26, Try.ntmps26
  go_wp2
  go_loopw [11] (fun iv wr => ∃ (j : Nat) (X : List Int), j ≤ n ∧ iv = .int .i64 j ∧ X.length = n ∧ Fill F X j ∧
      wr.ownsRow w.heap.size 3 1 (.slice (some ⟨w.heap.size, 0, none⟩) n n) X.length (X.map (Value.int .i64)) ∧ Hid (Inv j wr) ∧ w.grownBy wr row) (fun iv _ => n - (intOf iv).toNat)
  case atStart => exact ⟨0, List.replicate n 0, Nat.zero_le _, rfl, by simp, (fun i hi => by omega), made_own w _ (0 : Int) n (by unfold maxLen; omega), hide (unhide HK 0 _ _ (unhide HI) (below_alloc _ _)), grown10_bel (grown10_refl w row) (below_alloc _ _)⟩
  case round =>
    obtain ⟨j, X, hj, rfl, hX, hF, hown, HJ, hg⟩ := hrel
    have HX := hide hX
    have HF := hide hF
    have hsz := hg.size
    have HG := hide hg
    clear hX hF hmk hg
    by_cases hlt : j < n
    · have CC := unhide HC j hlt wr (unhide HJ) (unhide HG)
      have HO := hide hown
      clear hown
      go_wp2_with fail
      refine CC.mono ?_
      rintro e w2 ⟨rfl, I2, G2⟩
      have O2 := own10_far (unhide HO) G2 hrow
      have hz := own_froz O2 (unhide HX).symm j
      obtain ⟨x, hx⟩ : ∃ x, X[j]? = some x := ⟨X[j]'(by rw [unhide HX]; exact hlt), List.getElem?_eq_getElem _⟩
      have c1 := own_at O2 (unhide HX).symm hx
      have O3 := own_put O2 (unhide HX).symm j (F j)
      have B3 : Below w.heap.size w2 (w2.setCell ⟨w.heap.size, j, none⟩ (.int .i64 (F j))) := (Below.refl w.heap.size w2).setCell (p := ⟨w.heap.size, j, none⟩) (Nat.le_refl _) _
      have J3 := hide (unhide HK _ _ _ I2 B3)
      have G3 := hide (grown10_bel ((unhide HG).trans G2) B3)
      have HO3 := hide O3
      clear hx O2 B3 I2 G2 CC O3
      go_wp2
      go_roundw
      case rel => exact ⟨j + 1, X.set j (F j), by omega, by go_num, by simp [unhide HX], Fill.set (unhide HF) (by rw [unhide HX]; exact hlt), unhide HO3, J3, unhide G3⟩
      case measure => simp [intOf]; omega
    · go_wp2
      go_ret
      have ej : j = n := by omega
      subst ej
      have e : X = (List.range j).map F := Fill.done (unhide HF) (unhide HX)
      refine ⟨rfl, ?_, unhide HJ, unhide HG⟩
      rw [← e]
      have := hown
      rw [unhide HX] at this
      exact this

set_option maxHeartbeats 1000000 in
theorem eachU_any (n : Nat) (hn : n ≤ 9223372036854775807) (hn2 : n ≤ 17592186044416) (F : Nat → Int) (row : Option Nat) (Inv : Nat → World → Prop) (w : World) (hrow : ∀ g, row = some g → g < w.heap.size) (h0 : Inv 0 w) (hkeep : ∀ i w1 w2, Inv i w1 → Below w.heap.size w1 w2 → Inv i w2)
    (hcall : ∀ i, i < n → ∀ w1, Inv i w1 → w.grownBy w1 row → Calls Try.prog 36 #[.int .i64 (i : Int)] w1 fun e w2 => e = .returned (.int .i64 (F i)) ∧ Inv (i + 1) w2 ∧ w1.grownBy w2 row) :
    Calls Try.prog 26 #[.int .i64 (n : Int), .func (.func 36) #[] #[]] w (Eached w n F row Inv) := by
  have hmk := run_make_row' (P := Try.prog) 23 3 (.int .i64 0) 8 Try.underlying23 Try.infoI10 rfl .i64 .i64 n (by omega) (by omega)
  have HC := hide hcall
  have HK := hide hkeep
  have HI := hide h0
  clear hcall hkeep h0
  go_enter Try.func26, Try.ntmps26
  go_wp2
  go_loopw [11] (fun iv wr => ∃ (j : Nat) (X : List Int), j ≤ n ∧ iv = .int .i64 j ∧ X.length = n ∧ Fill F X j ∧
      wr.ownsRow w.heap.size 3 1 (.slice (some ⟨w.heap.size, 0, none⟩) n n) X.length (X.map (Value.int .i64)) ∧ Hid (Inv j wr) ∧ w.grownBy wr row) (fun iv _ => n - (intOf iv).toNat)
  case atStart => exact ⟨0, List.replicate n 0, Nat.zero_le _, rfl, by simp, (fun i hi => by omega), made_own w _ (0 : Int) n (by unfold maxLen; omega), hide (unhide HK 0 _ _ (unhide HI) (below_alloc _ _)), grown10_bel (grown10_refl w row) (below_alloc _ _)⟩
  case round =>
    obtain ⟨j, X, hj, rfl, hX, hF, hown, HJ, hg⟩ := hrel
    have HX := hide hX
    have HF := hide hF
    have hsz := hg.size
    have HG := hide hg
    clear hX hF hmk hg
    by_cases hlt : j < n
    · have CC := unhide HC j hlt wr (unhide HJ) (unhide HG)
      have HO := hide hown
      clear hown
      go_wp2_with fail
      refine CC.mono ?_
      rintro e w2 ⟨rfl, I2, G2⟩
      have O2 := own10_far (unhide HO) G2 hrow
      have hz := own_froz O2 (unhide HX).symm j
      obtain ⟨x, hx⟩ : ∃ x, X[j]? = some x := ⟨X[j]'(by rw [unhide HX]; exact hlt), List.getElem?_eq_getElem _⟩
      have c1 := own_at O2 (unhide HX).symm hx
      have O3 := own_put O2 (unhide HX).symm j (F j)
      have B3 : Below w.heap.size w2 (w2.setCell ⟨w.heap.size, j, none⟩ (.int .i64 (F j))) := (Below.refl w.heap.size w2).setCell (p := ⟨w.heap.size, j, none⟩) (Nat.le_refl _) _
      have J3 := hide (unhide HK _ _ _ I2 B3)
      have G3 := hide (grown10_bel ((unhide HG).trans G2) B3)
      have HO3 := hide O3
      clear hx O2 B3 I2 G2 CC O3
      go_wp2
      go_roundw
      case rel => exact ⟨j + 1, X.set j (F j), by omega, by go_num, by simp [unhide HX], Fill.set (unhide HF) (by rw [unhide HX]; exact hlt), unhide HO3, J3, unhide G3⟩
      case measure => simp [intOf]; omega
    · go_wp2
      go_ret
      have ej : j = n := by omega
      subst ej
      have e : X = (List.range j).map F := Fill.done (unhide HF) (unhide HX)
      refine ⟨rfl, ?_, unhide HJ, unhide HG⟩
      rw [← e]
      have := hown
      rw [unhide HX] at this
      exact this

set_option maxHeartbeats 1000000 in
theorem eachP_any (n : Nat) (hn : n ≤ 9223372036854775807) (hn2 : n ≤ 17592186044416) (F : Nat → Int) (row : Option Nat) (Inv : Nat → World → Prop) (w : World) (hrow : ∀ g, row = some g → g < w.heap.size) (h0 : Inv 0 w) (hkeep : ∀ i w1 w2, Inv i w1 → Below w.heap.size w1 w2 → Inv i w2)
    (hcall : ∀ i, i < n → ∀ w1, Inv i w1 → w.grownBy w1 row → Calls Try.prog 43 #[.int .i64 (i : Int)] w1 fun e w2 => e = .returned (.int .i64 (F i)) ∧ Inv (i + 1) w2 ∧ w1.grownBy w2 row) :
    Calls Try.prog 26 #[.int .i64 (n : Int), .func (.func 43) #[] #[]] w (Eached w n F row Inv) := by
  have hmk := run_make_row' (P := Try.prog) 23 3 (.int .i64 0) 8 Try.underlying23 Try.infoI10 rfl .i64 .i64 n (by omega) (by omega)
  have HC := hide hcall
  have HK := hide hkeep
  have HI := hide h0
  clear hcall hkeep h0
  go_enter Try.func26, Try.ntmps26
  go_wp2
  go_loopw [11] (fun iv wr => ∃ (j : Nat) (X : List Int), j ≤ n ∧ iv = .int .i64 j ∧ X.length = n ∧ Fill F X j ∧
      wr.ownsRow w.heap.size 3 1 (.slice (some ⟨w.heap.size, 0, none⟩) n n) X.length (X.map (Value.int .i64)) ∧ Hid (Inv j wr) ∧ w.grownBy wr row) (fun iv _ => n - (intOf iv).toNat)
  case atStart => exact ⟨0, List.replicate n 0, Nat.zero_le _, rfl, by simp, (fun i hi => by omega), made_own w _ (0 : Int) n (by unfold maxLen; omega), hide (unhide HK 0 _ _ (unhide HI) (below_alloc _ _)), grown10_bel (grown10_refl w row) (below_alloc _ _)⟩
  case round =>
    obtain ⟨j, X, hj, rfl, hX, hF, hown, HJ, hg⟩ := hrel
    have HX := hide hX
    have HF := hide hF
    have hsz := hg.size
    have HG := hide hg
    clear hX hF hmk hg
    by_cases hlt : j < n
    · have CC := unhide HC j hlt wr (unhide HJ) (unhide HG)
      have HO := hide hown
      clear hown
      go_wp2_with fail
      refine CC.mono ?_
      rintro e w2 ⟨rfl, I2, G2⟩
      have O2 := own10_far (unhide HO) G2 hrow
      have hz := own_froz O2 (unhide HX).symm j
      obtain ⟨x, hx⟩ : ∃ x, X[j]? = some x := ⟨X[j]'(by rw [unhide HX]; exact hlt), List.getElem?_eq_getElem _⟩
      have c1 := own_at O2 (unhide HX).symm hx
      have O3 := own_put O2 (unhide HX).symm j (F j)
      have B3 : Below w.heap.size w2 (w2.setCell ⟨w.heap.size, j, none⟩ (.int .i64 (F j))) := (Below.refl w.heap.size w2).setCell (p := ⟨w.heap.size, j, none⟩) (Nat.le_refl _) _
      have J3 := hide (unhide HK _ _ _ I2 B3)
      have G3 := hide (grown10_bel ((unhide HG).trans G2) B3)
      have HO3 := hide O3
      clear hx O2 B3 I2 G2 CC O3
      go_wp2
      go_roundw
      case rel => exact ⟨j + 1, X.set j (F j), by omega, by go_num, by simp [unhide HX], Fill.set (unhide HF) (by rw [unhide HX]; exact hlt), unhide HO3, J3, unhide G3⟩
      case measure => simp [intOf]; omega
    · go_wp2
      go_ret
      have ej : j = n := by omega
      subst ej
      have e : X = (List.range j).map F := Fill.done (unhide HF) (unhide HX)
      refine ⟨rfl, ?_, unhide HJ, unhide HG⟩
      rw [← e]
      have := hown
      rw [unhide HX] at this
      exact this
end Go.Proofs.Ytggojmnalmjapaa
