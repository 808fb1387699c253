/-
  Any bytes have the sum, and the frame, and what is within them is, or why it is not, what the document says: the walk of FrameTells.
-/
import Derived.Test.YtfffjolodilhoaaRefOpen
namespace Go.Proofs.Ytfffjolodilhoaa
open Go.RowKit

theorem refOpen_b (v : Value) (l : List Int) (kind : Int) (w : World) (h : Sl .u8 w v l) (hb : V.Byt l) (hll : l.length ≤ 4294967296) (hkd : 0 ≤ kind ∧ kind ≤ 255) (x : List Int) (n : Int) (hr : F.opened l kind = (x, n)) :
    Calls Try.prog 11 #[v, .int .u8 kind] w fun e w' => ∃ v', e = .returned (.tuple #[v', .int .i64 n]) ∧ Sl .u8 w' v' x ∧ Below w.heap.size w w' :=
  (refOpen_any v l kind w h hb hll hkd).mono fun _ _ h => open_to hr h

theorem refWrap_b (kind : Int) (v : Value) (l : List Int) (w : World) (h : Sl .u8 w v l) (hb : V.Byt l) (hk : 0 ≤ kind ∧ kind ≤ 255) (x : List Int) (hx : F.wrap kind l = x) :
    Calls Try.prog 14 #[.int .u8 kind, v] w fun e w' => ∃ v', e = .returned v' ∧ Sl .u8 w' v' x ∧ Below w.heap.size w w' :=
  (refWrap_any kind v l w h hb hk).mono fun _ _ ⟨v', h1, h2, h3⟩ => ⟨v', h1, by rw [← hx]; exact Sl.owned h2, h3⟩

set_option maxHeartbeats 1000000 in
theorem frameTells_walk (v : Value) (l : List Int) (kind : Int) (w : World) (s : Sl .u8 w v l) (b : V.Byt l) (hk : 0 ≤ kind ∧ kind ≤ 255) :
    Calls Try.prog 3 #[v, .int .u8 kind] w fun e w' => e = .returned (.bool true) ∧ Below w.heap.size w w' := by
  go_enter Try.func3, Try.ntmps3
  go_wp2_with fail
  refine (awake2_any _).mono ?_
  rintro e w1 ⟨rfl, B1⟩
  have S1 := s.below B1
  obtain ⟨a, cap, rfl, hl, hm, hna, ho⟩ := S1.open
  clear ho s hna
  by_cases h3 : 3000 < l.length
  · go_wp2
    go_ret
    exact ⟨rfl, B1⟩
  · obtain ⟨x, n, hxn⟩ : ∃ x n, F.opened l kind = (x, n) := ⟨_, _, rfl⟩
    have HO := hide hxn
    have hll : l.length ≤ 4294967296 := by omega
    have hnn : (n == n) = true := by simp
    clear hxn
    go_wp2_with fail
    refine (open_b _ _ kind _ S1 b x n (unhide HO)).mono ?_
    rintro e w2 ⟨v2, rfl, X2, hb2⟩
    have B2 := below_trans' B1 hb2
    have S2 := S1.below hb2
    clear B1 S1 hb2
    go_wp2_with fail
    refine (refOpen_b _ _ kind _ S2 b hll hk x n (unhide HO)).mono ?_
    rintro e w3 ⟨v3, rfl, Y3, hb3⟩
    have B3 := below_trans' B2 hb3
    have S3 := S2.below hb3
    have X3 := X2.below hb3
    clear B2 S2 X2 hb3
    go_wp2_with fail
    refine (bytes_b _ _ _ _ _ X3 Y3 true (by simp)).mono ?_
    rintro e w4 ⟨rfl, hb4⟩
    have B4 := below_trans' B3 hb4
    have S4 := S3.below hb4
    clear B3 S3 X3 Y3 hb4
    go_wp2_with fail
    refine (wrap_b kind _ l _ S4 b hk _ rfl).mono ?_
    rintro e w5 ⟨v5, rfl, X5, hb5⟩
    have B5 := below_trans' B4 hb5
    have S5 := S4.below hb5
    clear B4 S4 hb5
    go_wp2_with fail
    refine (refWrap_b kind _ l _ S5 b hk _ rfl).mono ?_
    rintro e w6 ⟨v6, rfl, Y6, hb6⟩
    have B6 := below_trans' B5 hb6
    have S6 := S5.below hb6
    have X6 := X5.below hb6
    clear B5 S5 X5 hb6
    go_wp2_with fail
    refine (bytes_b _ _ _ _ _ X6 Y6 true (by simp)).mono ?_
    rintro e w7 ⟨rfl, hb7⟩
    have B7 := below_trans' B6 hb7
    have S7 := S6.below hb7
    clear B6 S6 X6 Y6 hb7
    go_wp2_with fail
    refine (sum_any _ l _ S7 b).mono ?_
    rintro e w8 ⟨rfl, hb8⟩
    have B8 := below_trans' B7 hb8
    have S8 := S7.below hb8
    clear B7 S7 hb8
    go_wp2_with fail
    refine (refSum_any _ l _ S8 b).mono ?_
    rintro e w9 ⟨rfl, hw9⟩
    have B9 : Below w.heap.size w w9 := by rw [hw9]; exact B8
    clear B8 S8 hw9
    go_wp2
    go_ret
    exact ⟨ret_true (by simp), B9⟩
end Go.Proofs.Ytfffjolodilhoaa
