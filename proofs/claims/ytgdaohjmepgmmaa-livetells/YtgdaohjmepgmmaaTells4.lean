/-
  LiveTells' walk.
-/
import Derived.Test.YtgdaohjmepgmmaaLawB4
namespace Go.Proofs.Ytgdaohjmepgmmaa
open Go.RowKit

set_option maxHeartbeats 2000000 in
theorem liveTells_walk (va vb : Value) (a b : List Bool) (i : Int) (w : World) (ha : Gl .bool w va a) (hb : Gl .bool w vb b) :
    Calls Try.prog 3 #[va, vb, .int .i64 i] w fun e w' => e = .returned (.bool true) ∧ Below w.heap.size w w' := by
  obtain ⟨aa, ca, rfl, -⟩ := id ha
  obtain ⟨ab, cb, rfl, -⟩ := id hb
  go_enter Try.func3, Try.ntmps3
  go_wp2_with fail
  refine (awake4_any _).mono ?_
  rintro e w1 ⟨rfl, B1⟩
  have HA := ha.below B1
  have HB := hb.below B1
  clear ha hb
  obtain ⟨fa, hfa⟩ : ∃ fa, decide (a.length ≤ 100) = fa := ⟨_, rfl⟩
  obtain ⟨fb, hfb⟩ : ∃ fb, decide (b.length ≤ 100) = fb := ⟨_, rfl⟩
  have HFA := hide hfa
  have HFB := hide hfb
  clear hfa hfb
  go_wp2_with fail
  refine (few_any _ a _ HA fa (unhide HFA)).mono ?_
  rintro e w2 ⟨rfl, hb2⟩
  have B2 := below_trans' B1 hb2
  have HA := HA.below hb2
  have HB := HB.below hb2
  clear hb2 B1
  go_wp2_with fail
  refine (few_any _ b _ HB fb (unhide HFB)).mono ?_
  rintro e w3 ⟨rfl, hb3⟩
  have B3 := below_trans' B2 hb3
  have HA := HA.below hb3
  have HB := HB.below hb3
  clear hb3 B2
  cases fa with
  | false =>
    go_wp2
    go_ret
    exact ⟨rfl, B3⟩
  | true =>
    cases fb with
    | false =>
      go_wp2
      go_ret
      exact ⟨rfl, B3⟩
    | true =>
      have hla : a.length ≤ 100 := by simpa using unhide HFA
      obtain ⟨r, hr⟩ : ∃ r, L.lives a i = r := ⟨_, rfl⟩
      obtain ⟨k, hk⟩ : ∃ k, L.kill a i = k := ⟨_, rfl⟩
      obtain ⟨m, hm⟩ : ∃ m, L.both a b = m := ⟨_, rfl⟩
      obtain ⟨n, hn⟩ : ∃ n, L.new i = n := ⟨_, rfl⟩
      obtain ⟨y, hy⟩ : ∃ y, decide (a.length ≤ 64) = y := ⟨_, rfl⟩
      obtain ⟨c, hc⟩ : ∃ c, (L.count a : Int) = c := ⟨_, rfl⟩
      obtain ⟨s, hs⟩ : ∃ s, L.less a b = s := ⟨_, rfl⟩
      have HR := hide hr
      have HK := hide hk
      have HM := hide hm
      have HN := hide hn
      have HY := hide hy
      have HC := hide hc
      have HS := hide hs
      clear hr hk hm hn hy hc hs
      go_wp2_with fail
      refine (kill_b _ a i _ HA (by omega) r k (unhide HR) (unhide HK)).mono ?_
      rintro e w4 ⟨v4, rfl, K4, hb4⟩
      have B4 := below_trans' B3 hb4
      have HA := HA.below hb4
      have HB := HB.below hb4
      obtain ⟨xa4, xc4, rfl, -⟩ := id K4
      clear hb4 B3
      go_wp2_with fail
      refine (rkill_b _ a i _ HA (by omega) r k (unhide HR) (unhide HK)).mono ?_
      rintro e w5 ⟨v5, rfl, K5, hb5⟩
      have B5 := below_trans' B4 hb5
      have HA := HA.below hb5
      have HB := HB.below hb5
      have K4 := K4.below hb5
      obtain ⟨xa5, xc5, rfl, -⟩ := id K5
      clear hb5 B4
      go_wp2_with fail
      refine (bools_b _ _ k k _ K4 K5 true (by simp)).mono ?_
      rintro e w6 ⟨rfl, hb6⟩
      have B6 := below_trans' B5 hb6
      have HA := HA.below hb6
      have HB := HB.below hb6
      clear hb6 B5 K4 K5
      go_wp2_with fail
      refine (and_b _ _ a b _ HA HB (fun _ => by omega) m (unhide HM)).mono ?_
      rintro e w7 ⟨v7, rfl, M7, hb7⟩
      have B7 := below_trans' B6 hb7
      have HA := HA.below hb7
      have HB := HB.below hb7
      obtain ⟨xa7, xc7, rfl, -⟩ := id M7
      clear hb7 B6
      go_wp2_with fail
      refine (rand_b _ _ a b _ HA HB (by omega) m (unhide HM)).mono ?_
      rintro e w8 ⟨v8, rfl, M8, hb8⟩
      have B8 := below_trans' B7 hb8
      have HA := HA.below hb8
      have HB := HB.below hb8
      have M7 := M7.below hb8
      obtain ⟨xa8, xc8, rfl, -⟩ := id M8
      clear hb8 B7
      go_wp2_with fail
      refine (bools_b _ _ m m _ M7 M8 true (by simp)).mono ?_
      rintro e w9 ⟨rfl, hb9⟩
      have B9 := below_trans' B8 hb9
      have HA := HA.below hb9
      have HB := HB.below hb9
      clear hb9 B8 M7 M8
      go_wp2_with fail
      refine (new_b i _ n (unhide HN)).mono ?_
      rintro e w10 ⟨v10, rfl, N10, hb10⟩
      have B10 := below_trans' B9 hb10
      have HA := HA.below hb10
      have HB := HB.below hb10
      obtain ⟨xa10, xc10, rfl, -⟩ := id N10
      clear hb10 B9
      go_wp2_with fail
      refine (rnew_b i _ n (unhide HN)).mono ?_
      rintro e w11 ⟨v11, rfl, N11, hb11⟩
      have B11 := below_trans' B10 hb11
      have HA := HA.below hb11
      have HB := HB.below hb11
      have N10 := N10.below hb11
      obtain ⟨xa11, xc11, rfl, -⟩ := id N11
      clear hb11 B10
      go_wp2_with fail
      refine (bools_b _ _ n n _ N10 N11 true (by simp)).mono ?_
      rintro e w12 ⟨rfl, hb12⟩
      have B12 := below_trans' B11 hb12
      have HA := HA.below hb12
      have HB := HB.below hb12
      clear hb12 B11 N10 N11
      have hrr : (r == r) = true := by simp
      go_wp2_with fail
      refine (may_b _ a _ HA y (unhide HY)).mono ?_
      rintro e w13 ⟨rfl, hb13⟩
      have B13 := below_trans' B12 hb13
      have HA := HA.below hb13
      have HB := HB.below hb13
      clear hb13 B12
      go_wp2_with fail
      refine (rmay_b _ a _ HA y (unhide HY)).mono ?_
      rintro e w14 ⟨rfl, hb14⟩
      have B14 := below_trans' B13 hb14
      have HA := HA.below hb14
      have HB := HB.below hb14
      have hyy : (y == y) = true := by simp
      clear hb14 B13
      go_wp2_with fail
      refine (count_b _ a _ HA c (unhide HC)).mono ?_
      rintro e w15 ⟨rfl, hb15⟩
      have B15 := below_trans' B14 hb15
      have HA := HA.below hb15
      have HB := HB.below hb15
      clear hb15 B14
      go_wp2_with fail
      refine (rcount_b _ a _ HA c (unhide HC)).mono ?_
      rintro e w16 ⟨rfl, hb16⟩
      have B16 := below_trans' B15 hb16
      have HA := HA.below hb16
      have HB := HB.below hb16
      clear hb16 B15
      go_wp2_with fail
      refine (less_b _ _ a b _ HA HB s (unhide HS)).mono ?_
      rintro e w17 ⟨rfl, hb17⟩
      have B17 := below_trans' B16 hb17
      have HA := HA.below hb17
      have HB := HB.below hb17
      clear hb17 B16
      go_wp2_with fail
      refine (rless_b _ _ a b _ HA HB s (unhide HS)).mono ?_
      rintro e w18 ⟨rfl, hb18⟩
      have B18 := below_trans' B17 hb18
      have hss : (s == s) = true := by simp
      clear hb18 B17 HA HB
      go_wp2
      go_ret
      exact ⟨rfl, B18⟩
end Go.Proofs.Ytgdaohjmepgmmaa
