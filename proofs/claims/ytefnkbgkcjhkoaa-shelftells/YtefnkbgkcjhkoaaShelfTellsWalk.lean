/-
  The walk of the law of shelves that may be, of places, and of what is the same.
-/
import Derived.Test.YtefnkbgkcjhkoaaQ19
import Derived.Test.YtefnkbgkcjhkoaaQ12
import Derived.BigQuiet
namespace Go.Proofs.Ytefnkbgkcjhkoaa
set_option maxRecDepth 100000
open Go.RowKit

set_option maxRecDepth 100000 in
set_option maxHeartbeats 8000000 in
theorem shelfTells_walk (v u : Value) (L M : List Cd) (id : ByteArray) (w : World) (h : Cs w v L) (k : Cs w u M) :
    Calls Try.prog 3 #[v, u, .string id] w fun e w' => e = .returned (.bool true) ∧ Below w.heap.size w w' := by
  have HL := h
  have HM9 := k
  obtain ⟨a, cap, rfl, -⟩ := h.open
  obtain ⟨a2, cap2, rfl, -⟩ := k.open
  clear h k
  obtain ⟨m, hm⟩ : ∃ m, H.may L = m := ⟨_, rfl⟩
  obtain ⟨n, hn⟩ : ∃ n, H.find L id = n := ⟨_, rfl⟩
  have HM := hide hm
  have HN := hide hn
  clear hm hn
  have q1 : (m == m) = true := by simp
  have q2 : (n == n) = true := by simp
  go_enter Try.func3, Try.ntmps3
  have CC1 := awake13_any w
  go_wp2_with fail
  refine CC1.mono ?_
  rintro e w1 ⟨rfl, B1⟩
  have BB1 := B1
  replace HL := HL.below B1
  replace HM9 := HM9.below B1
  clear CC1 B1
  have CC2 := few13_any (.slice a L.length cap) L w1 HL
  go_wp2_with fail
  refine CC2.mono ?_
  rintro e w2 ⟨r1, rfl, hr1, B2⟩
  have BB2 := below_trans' BB1 B2
  replace HL := HL.below B2
  replace HM9 := HM9.below B2
  clear CC2 B2
  have Hr1 := hide hr1
  clear hr1
  have CC3 := few13_any (.slice a2 M.length cap2) M w2 HM9
  go_wp2_with fail
  refine CC3.mono ?_
  rintro e w3 ⟨r2, rfl, hr2, B3⟩
  have BB3 := below_trans' BB2 B3
  replace HL := HL.below B3
  replace HM9 := HM9.below B3
  clear CC3 B3
  have Hr2 := hide hr2
  clear hr2
  cases r1 with
  | false =>
    go_wp2
    go_ret
    exact ⟨rfl, BB3⟩
  | true =>
    cases r2 with
    | false =>
      go_wp2
      go_ret
      exact ⟨rfl, BB3⟩
    | true =>
      by_cases g9 : (40 : Int) < id.size
      · go_wp2
        go_ret
        exact ⟨rfl, BB3⟩
      have CC4 := may13_any (.slice a L.length cap) L w3 HL
      rw [unhide HM] at CC4
      go_wp2_with fail
      refine CC4.mono ?_
      rintro e w4 ⟨rfl, B4⟩
      have BB4 := below_trans' BB3 B4
      replace HL := HL.below B4
      replace HM9 := HM9.below B4
      clear CC4 B4
      have CC5 := rmay13_any (.slice a L.length cap) L w4 HL
      rw [unhide HM] at CC5
      go_wp2_with fail
      refine CC5.mono ?_
      rintro e w5 ⟨rfl, B5⟩
      have BB5 := below_trans' BB4 B5
      replace HL := HL.below B5
      replace HM9 := HM9.below B5
      clear CC5 B5
      have CC6 := find13_any (.slice a L.length cap) L id w5 HL
      rw [unhide HN] at CC6
      go_wp2_with fail
      refine CC6.mono ?_
      rintro e w6 ⟨rfl, B6⟩
      have BB6 := below_trans' BB5 B6
      replace HL := HL.below B6
      replace HM9 := HM9.below B6
      clear CC6 B6
      have CC7 := rfind13_any (.slice a L.length cap) L id w6 HL
      rw [unhide HN] at CC7
      go_wp2_with fail
      refine CC7.mono ?_
      rintro e w7 ⟨rfl, B7⟩
      have BB7 := below_trans' BB6 B7
      replace HL := HL.below B7
      replace HM9 := HM9.below B7
      clear CC7 B7
      have CC8 := same13_any (.slice a L.length cap) (.slice a2 M.length cap2) L M w7 HL HM9
      go_wp2_with fail
      refine CC8.mono ?_
      rintro e w8 ⟨s1, rfl, hs1, B8⟩
      have BB8 := below_trans' BB7 B8
      replace HL := HL.below B8
      replace HM9 := HM9.below B8
      clear CC8 B8
      have HS1 := hide hs1
      clear hs1
      have CC9 := allSame13_any (.slice a L.length cap) (.slice a2 M.length cap2) L M w8 HL HM9
      go_wp2_with fail
      refine CC9.mono ?_
      rintro e w9 ⟨s2, rfl, hs2, B9⟩
      have BB9 := below_trans' BB8 B9
      replace HL := HL.below B9
      replace HM9 := HM9.below B9
      clear CC9 B9
      obtain rfl : s2 = s1 := Bool.eq_iff_iff.2 (hs2.trans (unhide HS1).symm)
      have q3 : (s2 == s2) = true := by simp
      clear hs2 HS1 HL HM9
      go_wp2
      go_ret
      exact ⟨rfl, BB9⟩
end Go.Proofs.Ytefnkbgkcjhkoaa
