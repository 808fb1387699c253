/-
  LivePacks' and LiveBack's walks.
-/
import Derived.Test.YtgdaohjmepgmmaaLawB4
namespace Go.Proofs.Ytgdaohjmepgmmaa
open Go.RowKit

set_option maxHeartbeats 2000000 in
theorem livePacks_walk (va vb : Value) (l : List Bool) (b : List Int) (w : World) (ha : Gl .bool w va l) (hb : Sl .u8 w vb b) (hby : V.Byt b) :
    Calls Try.prog 4 #[va, vb] w fun e w' => e = .returned (.bool true) ∧ Below w.heap.size w w' := by
  obtain ⟨aa, ca, rfl, -⟩ := id ha
  obtain ⟨ab, cb, rfl, -⟩ := id hb
  have hlb := hb.len
  go_enter Try.func4, Try.ntmps4
  go_wp2_with fail
  refine (awake4_any _).mono ?_
  rintro e w1 ⟨rfl, B1⟩
  have HA := ha.below B1
  have HB := hb.below B1
  clear ha hb
  obtain ⟨fa, hfa⟩ : ∃ fa, decide (l.length ≤ 100) = fa := ⟨_, rfl⟩
  have HFA := hide hfa
  clear hfa
  go_wp2_with fail
  refine (few_any _ l _ HA fa (unhide HFA)).mono ?_
  rintro e w2 ⟨rfl, hb2⟩
  have B2 := below_trans' B1 hb2
  have HA := HA.below hb2
  have HB := HB.below hb2
  clear hb2 B1
  cases fa with
  | false =>
    go_wp2
    go_ret
    exact ⟨rfl, B2⟩
  | true =>
    by_cases hb100 : 100 < b.length
    · go_wp2
      go_ret
      exact ⟨rfl, B2⟩
    · obtain ⟨u, hu⟩ : ∃ u, L.unpack b = u := ⟨_, rfl⟩
      obtain ⟨x, n⟩ := u
      obtain ⟨p, hp⟩ : ∃ p, L.pack l = p := ⟨_, rfl⟩
      have HU := hide hu
      have HP := hide hp
      clear hu hp
      go_wp2_with fail
      refine (unpack_b _ b _ HB hby x n (unhide HU)).mono ?_
      rintro e w3 ⟨v3, rfl, X3, hb3⟩
      have B3 := below_trans' B2 hb3
      have HA := HA.below hb3
      have HB := HB.below hb3
      obtain ⟨xa3, xc3, rfl, -⟩ := id X3
      clear hb3 B2
      go_wp2_with fail
      refine (runpack_b _ b _ HB hby (by omega) x n (unhide HU)).mono ?_
      rintro e w4 ⟨v4, rfl, X4, hb4⟩
      have B4 := below_trans' B3 hb4
      have HA := HA.below hb4
      have X3 := X3.below hb4
      obtain ⟨xa4, xc4, rfl, -⟩ := id X4
      clear hb4 B3 HB
      go_wp2_with fail
      refine (bools_b _ _ x x _ X3 X4 true (by simp)).mono ?_
      rintro e w5 ⟨rfl, hb5⟩
      have B5 := below_trans' B4 hb5
      have HA := HA.below hb5
      clear hb5 B4 X3 X4
      go_wp2_with fail
      refine (pack_b _ l _ HA p (unhide HP)).mono ?_
      rintro e w6 ⟨v6, rfl, P6, hb6⟩
      have B6 := below_trans' B5 hb6
      have HA := HA.below hb6
      obtain ⟨xa6, xc6, rfl, -⟩ := id P6
      clear hb6 B5
      go_wp2_with fail
      refine (rpack_b _ l _ HA p (unhide HP)).mono ?_
      rintro e w7 ⟨v7, rfl, P7, hb7⟩
      have B7 := below_trans' B6 hb7
      have P6 := P6.below hb7
      obtain ⟨xa7, xc7, rfl, -⟩ := id P7
      clear hb7 B6 HA
      go_wp2_with fail
      refine (bytes_b _ _ p p _ P6 P7 true (by simp)).mono ?_
      rintro e w8 ⟨rfl, hb8⟩
      have B8 := below_trans' B7 hb8
      clear hb8 B7 P6 P7
      go_wp2
      go_ret
      exact ⟨rfl, B8⟩

set_option maxHeartbeats 2000000 in
theorem liveBack_walk (va vb : Value) (l : List Bool) (b : List Int) (w : World) (ha : Gl .bool w va l) (hb : Sl .u8 w vb b) (hby : V.Byt b) :
    Calls Try.prog 5 #[va, vb] w fun e w' => e = .returned (.bool true) ∧ Below w.heap.size w w' := by
  obtain ⟨aa, ca, rfl, -⟩ := id ha
  obtain ⟨ab, cb, rfl, -⟩ := id hb
  have hlb := hb.len
  go_enter Try.func5, Try.ntmps5
  go_wp2_with fail
  refine (awake4_any _).mono ?_
  rintro e w1 ⟨rfl, B1⟩
  have HA := ha.below B1
  have HB := hb.below B1
  clear ha hb
  obtain ⟨fa, hfa⟩ : ∃ fa, decide (l.length ≤ 100) = fa := ⟨_, rfl⟩
  have HFA := hide hfa
  clear hfa
  go_wp2_with fail
  refine (few_any _ l _ HA fa (unhide HFA)).mono ?_
  rintro e w2 ⟨rfl, hb2⟩
  have B2 := below_trans' B1 hb2
  have HA := HA.below hb2
  have HB := HB.below hb2
  clear hb2 B1
  cases fa with
  | false =>
    go_wp2
    go_ret
    exact ⟨rfl, B2⟩
  | true =>
    by_cases hb100 : 100 < b.length
    · go_wp2
      go_ret
      exact ⟨rfl, B2⟩
    · obtain ⟨u, hu⟩ : ∃ u, L.unpack b = u := ⟨_, rfl⟩
      obtain ⟨x, n⟩ := u
      have HU := hide hu
      clear hu
      obtain ⟨y, hy⟩ : ∃ y, decide (l.length ≤ 64) = y := ⟨_, rfl⟩
      have HY := hide hy
      clear hy
      go_wp2_with fail
      refine (may_b _ l _ HA y (unhide HY)).mono ?_
      rintro e w3 ⟨rfl, hb3⟩
      have B3 := below_trans' B2 hb3
      have HA := HA.below hb3
      have HB := HB.below hb3
      clear hb3 B2
      cases y with
      | true =>
        have h64 : l.length ≤ 64 := by simpa using unhide HY
        obtain ⟨p, hp⟩ : ∃ p, L.pack l = p := ⟨_, rfl⟩
        have hpu := L.unpack_pack l h64
        have hpb := L.pack_byt l
        rw [hp] at hpu hpb
        have HP := hide hp
        have HPU := hide hpu
        clear hp hpu
        go_wp2_with fail
        refine (pack_b _ l _ HA p (unhide HP)).mono ?_
        rintro e w4 ⟨v4, rfl, P4, hb4⟩
        have B4 := below_trans' B3 hb4
        have HA := HA.below hb4
        have HB := HB.below hb4
        obtain ⟨xa4, xc4, rfl, -⟩ := id P4
        clear hb4 B3
        go_wp2_with fail
        refine (unpack_b _ p _ P4 hpb l 0 (unhide HPU)).mono ?_
        rintro e w5 ⟨v5, rfl, X5, hb5⟩
        have B5 := below_trans' B4 hb5
        have HA := HA.below hb5
        have HB := HB.below hb5
        obtain ⟨xa5, xc5, rfl, -⟩ := id X5
        clear hb5 B4 P4
        go_wp2_with fail
        refine (bools_b _ _ l l _ X5 HA true (by simp)).mono ?_
        rintro e w6 ⟨rfl, hb6⟩
        have B6 := below_trans' B5 hb6
        have HB := HB.below hb6
        clear hb6 B5 X5 HA
        go_wp2_with fail
        refine (unpack_b _ b _ HB hby x n (unhide HU)).mono ?_
        rintro e w7 ⟨v7, rfl, X7, hb7⟩
        have B7 := below_trans' B6 hb7
        have HB := HB.below hb7
        clear hb7 B6
        by_cases hn : n = 0
        · subst hn
          have hpk := L.unpack_ok (unhide HU)
          have HPK := hide hpk
          clear hpk
          obtain ⟨xa7, xc7, rfl, -⟩ := id X7
          go_wp2_with fail
          refine (pack_b _ x _ X7 b (unhide HPK)).mono ?_
          rintro e w8 ⟨v8, rfl, P8, hb8⟩
          have B8 := below_trans' B7 hb8
          have HB := HB.below hb8
          obtain ⟨xa8, xc8, rfl, -⟩ := id P8
          clear hb8 B7 X7
          go_wp2_with fail
          refine (bytes_b _ _ b b _ P8 HB true (by simp)).mono ?_
          rintro e w9 ⟨rfl, hb9⟩
          have B9 := below_trans' B8 hb9
          clear hb9 B8 P8 HB
          go_wp2
          go_ret
          exact ⟨rfl, B9⟩
        · obtain ⟨rfl, rfl⟩ := L.unpack_no (unhide HU) hn
          obtain ⟨xa7, xc7, rfl, -⟩ := id X7
          clear hn
          go_wp2
          go_ret
          exact ⟨rfl, B7⟩
      | false =>
        go_wp2_with fail
        refine (unpack_b _ b _ HB hby x n (unhide HU)).mono ?_
        rintro e w7 ⟨v7, rfl, X7, hb7⟩
        have B7 := below_trans' B3 hb7
        have HB := HB.below hb7
        clear hb7 B3 HA
        by_cases hn : n = 0
        · subst hn
          have hpk := L.unpack_ok (unhide HU)
          have HPK := hide hpk
          clear hpk
          obtain ⟨xa7, xc7, rfl, -⟩ := id X7
          go_wp2_with fail
          refine (pack_b _ x _ X7 b (unhide HPK)).mono ?_
          rintro e w8 ⟨v8, rfl, P8, hb8⟩
          have B8 := below_trans' B7 hb8
          have HB := HB.below hb8
          obtain ⟨xa8, xc8, rfl, -⟩ := id P8
          clear hb8 B7 X7
          go_wp2_with fail
          refine (bytes_b _ _ b b _ P8 HB true (by simp)).mono ?_
          rintro e w9 ⟨rfl, hb9⟩
          have B9 := below_trans' B8 hb9
          clear hb9 B8 P8 HB
          go_wp2
          go_ret
          exact ⟨rfl, B9⟩
        · obtain ⟨rfl, rfl⟩ := L.unpack_no (unhide HU) hn
          obtain ⟨xa7, xc7, rfl, -⟩ := id X7
          clear hn
          go_wp2
          go_ret
          exact ⟨rfl, B7⟩
end Go.Proofs.Ytgdaohjmepgmmaa
