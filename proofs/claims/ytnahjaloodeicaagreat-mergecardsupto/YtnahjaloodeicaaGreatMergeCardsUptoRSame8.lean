/-
  The contracts of the document's own comparisons of cards, at cards that are the same.
-/
import Derived.Test.YtnahjaloodeicaaGreatM10
import Derived.BigQuiet
namespace Go.Proofs.YtnahjaloodeicaaGreat
set_option maxRecDepth 100000
open Go.RowKit

theorem samec_any (I : ByteArray) (K : Int) (va vb : Value) (m : List ByteArray) (w : World) (ha : Gl .string w va m) (hb : Gl .string w vb m) :
    Calls Tryz.prog 14 #[.agg #[.string I, .int .i64 K, va], .agg #[.string I, .int .i64 K, vb]] w fun e w' => e = .returned (.bool true) ∧ Below w.heap.size w w' := by
  obtain ⟨aa, ca, rfl, -⟩ := id ha
  obtain ⟨ab, cb, rfl, -⟩ := id hb
  obtain ⟨W, hW⟩ : ∃ W, W = (w.alloc (.cells #[.string I, .int .i64 K, .slice aa m.length ca] 40)).alloc (.cells #[.string I, .int .i64 K, .slice ab m.length cb] 40) := ⟨_, rfl⟩
  have B0 : Below w.heap.size w W := by rw [hW]; exact (below_alloc _ _).alloc (by simp) _
  have HA := ha.below B0
  have HB := hb.below B0
  have c0 : W.cell? ⟨w.heap.size, 0, none⟩ = some (.string I) := by rw [hW]; simp [go_sem]
  have c1 : W.cell? ⟨w.heap.size, 1, none⟩ = some (.int .i64 K) := by rw [hW]; simp [go_sem]
  have d0 : W.cell? ⟨w.heap.size + 1, 0, none⟩ = some (.string I) := by rw [hW]; simp [go_sem]
  have d1 : W.cell? ⟨w.heap.size + 1, 1, none⟩ = some (.int .i64 K) := by rw [hW]; simp [go_sem]
  have HW := hide hW
  clear hW ha hb
  go_enter Tryz.func14, Tryz.ntmps14
  go_wp2_with fail
  rw [← unhide HW]
  refine (texts_any _ _ m m _ HA HB true (by simp)).mono ?_
  rintro e w1 ⟨rfl, B1⟩
  have xc0 := cell_keep c0 B1
  have xc1 := cell_keep c1 B1
  have xd0 := cell_keep d0 B1
  have xd1 := cell_keep d1 B1
  have hii : (I.toList == I.toList) = true := by simp
  have BB := below_trans' B0 B1
  clear HA HB B0 B1 c0 c1 d0 d1 HW
  go_wp2
  go_ret
  exact ⟨rfl, BB⟩


end Go.Proofs.YtnahjaloodeicaaGreat
