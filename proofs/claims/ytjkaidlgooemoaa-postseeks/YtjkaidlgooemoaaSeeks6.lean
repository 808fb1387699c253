/-
  The walk of PostSeeks: of any bytes the first posting from any document on, and how many blocks stand ahead, are what the document says.
-/
import Derived.Test.YtjkaidlgooemoaaAwake6
namespace Go.Proofs.Ytjkaidlgooemoaa
open Go.RowKit

theorem Pl.lit' {w : World} {p : Pt} {dv : Value} {g : Nat} (hg : w.heap.size = g) (h : Sl .i64 w dv p.a) : Pl (w.alloc (.cells #[.int .i64 p.d, dv] 39)) (.slice (some ⟨g, 0, none⟩) 1 1) [p] := by
  subst hg
  exact Pl.lit h

set_option maxHeartbeats 4000000 in
theorem postSeeks_walk (u : Value) (l : List Int) (d : Int) (w : World) (S : Sl .u8 w u l) (hb : V.Byt l) :
    Calls Try.prog 5 #[u, .int .i64 d] w fun e w' => e = .returned (.bool true) ∧ Below w.heap.size w w' := by
  obtain ⟨ua, uc, hu, -⟩ := id S
  subst hu
  obtain ⟨pd, pa, hp⟩ : ∃ pd pa, Q.seekP l d = ⟨pd, pa⟩ := ⟨_, _, rfl⟩
  obtain ⟨n, hn⟩ : ∃ n, Q.seekN l d = n := ⟨_, rfl⟩
  obtain ⟨en, hen⟩ : ∃ n, Q.seekE l d = n := ⟨_, rfl⟩
  have HP := hide hp
  have HN := hide hn
  have HE := hide hen
  have e1 : (n == n) = true := by simp
  have e2 : (en == en) = true := by simp
  clear hp hn hen
  go_enter Try.func5, Try.ntmps5
  go_wp2_with fail
  refine (awake_any _).mono ?_
  rintro e w1 ⟨rfl, B1⟩
  replace S := S.below B1
  by_cases hl : 3000 < l.length
  · have hl2 : (3000 : Int) < (l.length : Int) := by omega
    go_wp2
    go_ret
    exact ⟨rfl, B1⟩
  · have hl2 : ¬ ((3000 : Int) < (l.length : Int)) := by omega
    have hl3 : l.length ≤ 1000000 := by omega
    go_wp2_with fail
    refine (seek_b _ l d _ S hb hl3 pd pa n en (unhide HP) (unhide HN) (unhide HE)).mono ?_
    rintro e w2 ⟨a2, m2, c2, rfl, S2, B2⟩
    have BB := below_trans' B1 B2
    replace S := S.below B2
    obtain ⟨W2, hW2⟩ : ∃ W2, W2 = w2.alloc (.cells #[.int .i64 pd, .slice a2 m2 c2] 39) := ⟨_, rfl⟩
    have BW2 : Below w2.heap.size w2 W2 := by rw [hW2]; exact below_alloc _ _
    have x0 : W2.cell? ⟨w2.heap.size, 0, none⟩ = some (.int .i64 pd) := by rw [hW2]; simp
    have x1 : W2.cell? ⟨w2.heap.size, 1, none⟩ = some (.slice a2 m2 c2) := by rw [hW2]; simp
    have HW2 := hide hW2
    clear hW2 B1 B2
    go_wp2_with fail
    rw [← unhide HW2]
    refine (rseek_b _ l d _ (S.below BW2) hb hl3 pd pa n en (unhide HP) (unhide HN) (unhide HE)).mono ?_
    rintro e w3 ⟨a3, m3, c3, rfl, S3, B3⟩
    replace x0 := cell_keep x0 B3
    replace x1 := cell_keep x1 B3
    have hlt3 : w2.heap.size < w3.heap.size := World.block_lt_of_cell? w3 _ x0
    replace B3 := below_trans' BW2 B3
    replace BB := below_trans' BB B3
    replace S2 := S2.below B3
    clear S B3 BW2
    obtain ⟨W3, hW3⟩ : ∃ W3, W3 = w3.alloc (.cells #[.int .i64 pd, .slice a3 m3 c3] 39) := ⟨_, rfl⟩
    have BW3 : Below w3.heap.size w3 W3 := by rw [hW3]; exact below_alloc _ _
    have L1 := Pl.lit' (p := ⟨pd, pa⟩) (g := w3.heap.size + 1) (by rw [hW3]; simp) (S2.below BW3)
    have L2 := Pl.lit' (p := ⟨pd, pa⟩) (w := W3.alloc (.cells #[.int .i64 pd, .slice a2 m2 c2] 39)) (g := w3.heap.size + 1 + 1) (by rw [hW3]; simp) ((S3.below BW3).below (below_alloc _ _))
    have L1' := L1.below (below_alloc _ (.cells #[.int .i64 pd, .slice a3 m3 c3] 39))
    have BL := (BW3.alloc BW3.size (.cells #[.int .i64 pd, .slice a2 m2 c2] 39)).alloc (by have := BW3.size; simp; omega) (.cells #[.int .i64 pd, .slice a3 m3 c3] 39)
    have HW3 := hide hW3
    clear hW3 L1
    go_wp2_with fail
    rw [← unhide HW3]
    refine (rsame_b _ _ [⟨pd, pa⟩] [⟨pd, pa⟩] _ L1' L2 true (Pt.eqs_refl _)).mono ?_
    rintro e w4 ⟨rfl, B4⟩
    replace BB := below_trans' BB (below_trans' BL B4)
    clear B4 BL L1' L2 x0 x1
    go_wp2
    go_ret
    exact ⟨rfl, BB⟩
end Go.Proofs.Ytjkaidlgooemoaa
