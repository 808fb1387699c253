/-
  Any list has the bytes, and any bytes have the list, from any place on, that the document says: the walk of VintLists.
-/
import Derived.Test.YtfhgcofbomcfoaaRefRead
namespace Go.Proofs.Ytfhgcofbomcfoaa
open Go.RowKit

set_option maxHeartbeats 1000000 in
theorem vintLists_walk (vl vb : Value) (l b : List Int) (x : Int) (w : World) (sl : Sl .i64 w vl l) (sb : Sl .u8 w vb b) (bb : V.Byt b) :
    Calls Try.prog 4 #[vl, vb, .int .i64 x] w fun e w' => e = .returned (.bool true) ∧ Below w.heap.size w w' := by
  go_enter Try.func4, Try.ntmps4
  go_wp2_with fail
  refine (awake_any _).mono ?_
  rintro e w1 ⟨rfl, B1⟩
  have SL := sl.below B1
  have SB := sb.below B1
  clear sl sb
  obtain ⟨al, cl, el, ll, ml, nl, ol⟩ := SL.open
  obtain ⟨ab, cb, eb, lb, mb, nb, ob⟩ := SB.open
  subst el eb
  clear ol ob nl nb
  by_cases h1 : 2100 < l.length
  · go_wp2
    go_ret
    exact ⟨rfl, B1⟩
  by_cases h2 : 6000 < b.length
  · go_wp2
    go_ret
    exact ⟨rfl, B1⟩
  go_wp2_with fail
  refine (read_any _ b x _ SB bb).mono ?_
  intro e w2 hre
  obtain ⟨⟨r1, r2, r3⟩, hR⟩ : ∃ r, r = V.read b x := ⟨_, rfl⟩
  rw [← hR] at hre
  obtain ⟨v2, rfl, S2, hb2⟩ := own_any hre
  have HR := hide hR
  have B2 := below_trans' B1 hb2
  have SB2 := SB.below hb2
  have SL2 := SL.below hb2
  clear hR hre hb2 SB SL B1
  go_wp2_with fail
  refine (refRead_any _ b x _ SB2 bb (by omega)).mono ?_
  intro e w3 hre
  rw [← unhide HR] at hre
  obtain ⟨v3, rfl, S3, hb3⟩ := own_any hre
  have B3 := below_trans' B2 hb3
  have T3 := S2.below hb3
  have SL3 := SL2.below hb3
  clear hre hb3 B2 S2 SB2 SL2 HR
  obtain ⟨rE, hE⟩ : ∃ r, r = V.riseE l := ⟨_, rfl⟩
  have HE := hide hE
  clear hE
  go_wp2_with fail
  refine (rise_any _ l _ SL3).mono ?_
  rintro e w4 ⟨v4, rfl, hown4, hb4⟩
  rw [← unhide HE]
  have B4 := below_trans' B3 hb4
  have S4 := S3.below hb4
  have T4 := T3.below hb4
  have SL4 := SL3.below hb4
  have P4 := Sl.owned hown4
  clear hown4 hb4 B3 S3 T3 SL3
  go_wp2_with fail
  refine (refRise_any _ l _ SL4).mono ?_
  rintro e w5 ⟨v5, rfl, hown5, hb5⟩
  rw [← unhide HE]
  have B5 := below_trans' B4 hb5
  have S5 := S4.below hb5
  have T5 := T4.below hb5
  have P5 := P4.below hb5
  have Q5 := Sl.owned hown5
  clear hown5 hb5 B4 S4 T4 SL4 P4 HE
  go_wp2_with fail
  refine (ints_b _ _ _ _ _ T5 S5 true (by simp)).mono ?_
  rintro e w6 ⟨rfl, hb6⟩
  have B6 := below_trans' B5 hb6
  have P6 := P5.below hb6
  have Q6 := Q5.below hb6
  clear hb6 B5 T5 S5 P5 Q5
  go_wp2_with fail
  refine (bytes_b _ _ _ _ _ P6 Q6 true (by simp)).mono ?_
  rintro e w7 ⟨rfl, hb7⟩
  have B7 := below_trans' B6 hb7
  clear hb7 B6 P6 Q6
  go_wp2
  go_ret
  exact ⟨ret_true (by simp), B7⟩
end Go.Proofs.Ytfhgcofbomcfoaa
