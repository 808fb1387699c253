/-
  Any number has the bytes, and any bytes have the number, from any place on, that the document says: the walk of VintTells.
-/
import Derived.Test.YtfhgcofbomcfoaaRefGet
namespace Go.Proofs.Ytfhgcofbomcfoaa
open Go.RowKit

set_option maxHeartbeats 1000000 in
theorem vintTells_walk (n : Int) (v : Value) (l : List Int) (x : Int) (w : World) (s : Sl .u8 w v l) (b : V.Byt l) :
    Calls Try.prog 3 #[.int .i64 n, v, .int .i64 x] w fun e w' => e = .returned (.bool true) ∧ Below w.heap.size w w' := by
  go_enter Try.func3, Try.ntmps3
  go_wp2_with fail
  refine (awake_any _).mono ?_
  rintro e w1 ⟨rfl, B1⟩
  have S1 := s.below B1
  obtain ⟨a, cap, rfl, hl, hm, hna, ho⟩ := S1.open
  clear ho s hna
  by_cases h3 : 3000 < l.length
  · go_wp2
    go_ret
    exact ⟨rfl, B1⟩
  · go_wp2_with fail
    refine (get_b _ l x _ S1 b _ rfl).mono ?_
    rintro e w2 ⟨rfl, hb2⟩
    have B2 := below_trans' B1 hb2
    have S2 := S1.below hb2
    clear B1 S1 hb2
    go_wp2_with fail
    refine (refGet_any _ l x _ S2 b (by omega)).mono ?_
    rintro e w3 ⟨rfl, hb3⟩
    have B3 := below_trans' B2 hb3
    clear B2 S2 hb3
    generalize V.get l x = g
    obtain ⟨g1, g2, g3⟩ := g
    go_wp2_with fail
    refine (put_any n _).mono ?_
    rintro e w4 ⟨v4, rfl, hown4, hb4⟩
    have B4 := below_trans' B3 hb4
    have P4 := Sl.owned hown4
    clear B3 hown4 hb4
    go_wp2_with fail
    refine (refPut_any n _).mono ?_
    rintro e w5 ⟨v5, rfl, hown5, hb5⟩
    have B5 := below_trans' B4 hb5
    have P5 := P4.below hb5
    have Q5 := Sl.owned hown5
    clear B4 P4 hown5 hb5
    go_wp2_with fail
    refine (bytes_b _ _ _ _ _ P5 Q5 true (by simp)).mono ?_
    rintro e w6 ⟨rfl, hb6⟩
    have B6 := below_trans' B5 hb6
    clear B5 P5 Q5 hb6
    go_wp2
    go_ret
    exact ⟨ret_true (by simp), B6⟩
end Go.Proofs.Ytfhgcofbomcfoaa
