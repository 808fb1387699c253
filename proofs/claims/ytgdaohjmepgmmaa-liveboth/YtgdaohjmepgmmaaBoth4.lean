/-
  LiveBoth's walk.
-/
import Derived.Test.YtgdaohjmepgmmaaLawB4
import Derived.Test.YtgdaohjmepgmmaaPlainLaw4
namespace Go.Proofs.Ytgdaohjmepgmmaa
open Go.RowKit

set_option maxHeartbeats 4000000 in
theorem liveBoth_walk (va vb vc : Value) (a b c : List Bool) (w : World) (Ha : Gl .bool w va a) (Hb : Gl .bool w vb b) (Hc : Gl .bool w vc c) :
    Calls Try.prog 8 #[va, vb, vc] w fun e w' => e = .returned (.bool true) ∧ Below w.heap.size w w' := by
  obtain ⟨aa, ca, rfl, -⟩ := id Ha
  obtain ⟨ab, cb, rfl, -⟩ := id Hb
  obtain ⟨ac, cc, rfl, -⟩ := id Hc
  go_enter Try.func8, Try.ntmps8
  by_cases hl : a.length = b.length
  · have HL := hide hl
    have e1 : ((a.length : Int) == (b.length : Int)) = true := by simp [hl]
    have e2 : ((a.length : Int) != (b.length : Int)) = false := by simp [hl]
    clear hl
    obtain ⟨fa, hfa⟩ : ∃ fa, decide (a.length ≤ 100) = fa := ⟨_, rfl⟩
    have HFa := hide hfa
    clear hfa
    obtain ⟨fb, hfb⟩ : ∃ fb, decide (b.length ≤ 100) = fb := ⟨_, rfl⟩
    have HFb := hide hfb
    clear hfb
    obtain ⟨fc, hfc⟩ : ∃ fc, decide (c.length ≤ 100) = fc := ⟨_, rfl⟩
    have HFc := hide hfc
    clear hfc
    go_wp2_with fail
    refine (awake4_any _).mono ?_
    rintro e w1 ⟨rfl, hb1⟩
    have B1 := hb1
    have Ha := Ha.below hb1
    have Hb := Hb.below hb1
    have Hc := Hc.below hb1
    clear hb1
    go_wp2_with fail
    refine (few_any _ a _ Ha fa (unhide HFa)).mono ?_
    rintro e w2 ⟨rfl, hb2⟩
    have B2 := below_trans' B1 hb2
    have Ha := Ha.below hb2
    have Hb := Hb.below hb2
    have Hc := Hc.below hb2
    clear hb2 B1
    go_wp2_with fail
    refine (few_any _ b _ Hb fb (unhide HFb)).mono ?_
    rintro e w3 ⟨rfl, hb3⟩
    have B3 := below_trans' B2 hb3
    have Ha := Ha.below hb3
    have Hb := Hb.below hb3
    have Hc := Hc.below hb3
    clear hb3 B2
    go_wp2_with fail
    refine (few_any _ c _ Hc fc (unhide HFc)).mono ?_
    rintro e w4 ⟨rfl, hb4⟩
    have B4 := below_trans' B3 hb4
    have Ha := Ha.below hb4
    have Hb := Hb.below hb4
    have Hc := Hc.below hb4
    clear hb4 B3
    cases fa with
    | false =>
      go_wp2
      go_ret
      exact ⟨rfl, B4⟩
    | true =>
      cases fb with
      | false =>
        go_wp2
        go_ret
        exact ⟨rfl, B4⟩
      | true =>
        cases fc with
        | false =>
          go_wp2
          go_ret
          exact ⟨rfl, B4⟩
        | true =>
          have hla : a.length ≤ 100 := by simpa using unhide HFa
          have hlb : b.length ≤ 100 := by simpa using unhide HFb
          obtain ⟨d, hd⟩ : ∃ d, L.both a b = d := ⟨_, rfl⟩
          have hd2 := L.both_comm (unhide HL)
          have hd3 := L.both_left (unhide HL)
          have hd4 := L.both_right (unhide HL)
          obtain ⟨s, hs⟩ : ∃ s, L.less c a = s := ⟨_, rfl⟩
          obtain ⟨t, ht⟩ : ∃ t, L.less c b = t := ⟨_, rfl⟩
          have hu := L.both_above (unhide HL) hs ht
          rw [hd] at hd2 hd3 hd4 hu
          have HD := hide hd
          have HD2 := hide hd2
          have HD3 := hide hd3
          have HD4 := hide hd4
          have HS := hide hs
          have HT := hide ht
          have HU := hide hu
          clear hd hd2 hd3 hd4 hs ht hu
          go_wp2_with fail
          refine (and_b _ _ a b _ Ha Hb (fun _ => by omega) d (unhide HD)).mono ?_
          rintro e w5 ⟨v5, rfl, Hd, hb5⟩
          have B5 := below_trans' B4 hb5
          have Ha := Ha.below hb5
          have Hb := Hb.below hb5
          have Hc := Hc.below hb5
          obtain ⟨xa5, xc5, rfl, -⟩ := id Hd
          clear hb5 B4
          go_wp2_with fail
          refine (and_b _ _ b a _ Hb Ha (fun _ => by omega) d (unhide HD2)).mono ?_
          rintro e w6 ⟨v6, rfl, Hx, hb6⟩
          have B6 := below_trans' B5 hb6
          have Ha := Ha.below hb6
          have Hb := Hb.below hb6
          have Hc := Hc.below hb6
          have Hd := Hd.below hb6
          obtain ⟨xa6, xc6, rfl, -⟩ := id Hx
          clear hb6 B5
          go_wp2_with fail
          refine (bools_b _ _ d d _ Hx Hd true (by simp)).mono ?_
          rintro e w7 ⟨rfl, hb7⟩
          have B7 := below_trans' B6 hb7
          have Ha := Ha.below hb7
          have Hb := Hb.below hb7
          have Hc := Hc.below hb7
          have Hd := Hd.below hb7
          clear hb7 B6 Hx
          go_wp2_with fail
          refine (and_b _ _ a a _ Ha Ha (fun _ => by omega) a (L.both_self a)).mono ?_
          rintro e w8 ⟨v8, rfl, Hx, hb8⟩
          have B8 := below_trans' B7 hb8
          have Ha := Ha.below hb8
          have Hb := Hb.below hb8
          have Hc := Hc.below hb8
          have Hd := Hd.below hb8
          obtain ⟨xa8, xc8, rfl, -⟩ := id Hx
          clear hb8 B7
          go_wp2_with fail
          refine (bools_b _ _ a a _ Hx Ha true (by simp)).mono ?_
          rintro e w9 ⟨rfl, hb9⟩
          have B9 := below_trans' B8 hb9
          have Ha := Ha.below hb9
          have Hb := Hb.below hb9
          have Hc := Hc.below hb9
          have Hd := Hd.below hb9
          clear hb9 B8 Hx
          go_wp2_with fail
          refine (less_b _ _ d a _ Hd Ha true (unhide HD3)).mono ?_
          rintro e w10 ⟨rfl, hb10⟩
          have B10 := below_trans' B9 hb10
          have Ha := Ha.below hb10
          have Hb := Hb.below hb10
          have Hc := Hc.below hb10
          have Hd := Hd.below hb10
          clear hb10 B9
          go_wp2_with fail
          refine (less_b _ _ d b _ Hd Hb true (unhide HD4)).mono ?_
          rintro e w11 ⟨rfl, hb11⟩
          have B11 := below_trans' B10 hb11
          have Ha := Ha.below hb11
          have Hb := Hb.below hb11
          have Hc := Hc.below hb11
          have Hd := Hd.below hb11
          clear hb11 B10
          go_wp2_with fail
          refine (less_b _ _ c a _ Hc Ha s (unhide HS)).mono ?_
          rintro e w12 ⟨rfl, hb12⟩
          have B12 := below_trans' B11 hb12
          have Ha := Ha.below hb12
          have Hb := Hb.below hb12
          have Hc := Hc.below hb12
          have Hd := Hd.below hb12
          clear hb12 B11
          cases s with
          | false =>
            go_wp2_with fail
            refine (less_b _ _ c d _ Hc Hd false (unhide HU)).mono ?_
            rintro e w13 ⟨rfl, hb13⟩
            have B13 := below_trans' B12 hb13
            have Ha := Ha.below hb13
            have Hb := Hb.below hb13
            have Hc := Hc.below hb13
            have Hd := Hd.below hb13
            clear hb13 B12
            go_wp2
            go_ret
            exact ⟨rfl, B13⟩
          | true =>
            have htr : (true && t) = t := by simp
            go_wp2_with fail
            refine (less_b _ _ c b _ Hc Hb t (unhide HT)).mono ?_
            rintro e w13 ⟨rfl, hb13⟩
            have B13 := below_trans' B12 hb13
            have Ha := Ha.below hb13
            have Hb := Hb.below hb13
            have Hc := Hc.below hb13
            have Hd := Hd.below hb13
            clear hb13 B12
            go_wp2_with fail
            refine (less_b _ _ c d _ Hc Hd t ((unhide HU).trans htr)).mono ?_
            rintro e w14 ⟨rfl, hb14⟩
            have B14 := below_trans' B13 hb14
            have Ha := Ha.below hb14
            have Hb := Hb.below hb14
            have Hc := Hc.below hb14
            have Hd := Hd.below hb14
            clear hb14 B13
            have htt : (t == t) = true := by simp
            go_wp2
            go_ret
            exact ⟨rfl, B14⟩
  · have e1 : ((a.length : Int) == (b.length : Int)) = false := by simp; omega
    have e2 : ((a.length : Int) != (b.length : Int)) = true := by rw [bne_iff_ne]; omega
    have hout : L.both a b = [] := both_out hl
    have HO := hide hout
    have HL := hide hl
    clear hout hl
    obtain ⟨fa, hfa⟩ : ∃ fa, decide (a.length ≤ 100) = fa := ⟨_, rfl⟩
    have HFa := hide hfa
    clear hfa
    obtain ⟨fb, hfb⟩ : ∃ fb, decide (b.length ≤ 100) = fb := ⟨_, rfl⟩
    have HFb := hide hfb
    clear hfb
    obtain ⟨fc, hfc⟩ : ∃ fc, decide (c.length ≤ 100) = fc := ⟨_, rfl⟩
    have HFc := hide hfc
    clear hfc
    go_wp2_with fail
    refine (awake4_any _).mono ?_
    rintro e w1 ⟨rfl, hb1⟩
    have B1 := hb1
    have Ha := Ha.below hb1
    have Hb := Hb.below hb1
    have Hc := Hc.below hb1
    clear hb1
    go_wp2_with fail
    refine (few_any _ a _ Ha fa (unhide HFa)).mono ?_
    rintro e w2 ⟨rfl, hb2⟩
    have B2 := below_trans' B1 hb2
    have Ha := Ha.below hb2
    have Hb := Hb.below hb2
    have Hc := Hc.below hb2
    clear hb2 B1
    go_wp2_with fail
    refine (few_any _ b _ Hb fb (unhide HFb)).mono ?_
    rintro e w3 ⟨rfl, hb3⟩
    have B3 := below_trans' B2 hb3
    have Ha := Ha.below hb3
    have Hb := Hb.below hb3
    have Hc := Hc.below hb3
    clear hb3 B2
    go_wp2_with fail
    refine (few_any _ c _ Hc fc (unhide HFc)).mono ?_
    rintro e w4 ⟨rfl, hb4⟩
    have B4 := below_trans' B3 hb4
    have Ha := Ha.below hb4
    have Hb := Hb.below hb4
    have Hc := Hc.below hb4
    clear hb4 B3
    cases fa with
    | false =>
      go_wp2_with fail
      refine (and_b _ _ a b _ Ha Hb (fun h => absurd h (unhide HL)) [] (unhide HO)).mono ?_
      rintro e w5 ⟨v5, rfl, Hd, hb5⟩
      have B5 := below_trans' B4 hb5
      have Ha := Ha.below hb5
      have Hb := Hb.below hb5
      have Hc := Hc.below hb5
      obtain ⟨xa5, xc5, rfl, -⟩ := id Hd
      clear hb5 B4
      go_wp2
      go_ret
      exact ⟨rfl, B5⟩
    | true =>
      cases fb with
      | false =>
        go_wp2_with fail
        refine (and_b _ _ a b _ Ha Hb (fun h => absurd h (unhide HL)) [] (unhide HO)).mono ?_
        rintro e w5 ⟨v5, rfl, Hd, hb5⟩
        have B5 := below_trans' B4 hb5
        have Ha := Ha.below hb5
        have Hb := Hb.below hb5
        have Hc := Hc.below hb5
        obtain ⟨xa5, xc5, rfl, -⟩ := id Hd
        clear hb5 B4
        go_wp2
        go_ret
        exact ⟨rfl, B5⟩
      | true =>
        cases fc with
        | false =>
          go_wp2_with fail
          refine (and_b _ _ a b _ Ha Hb (fun h => absurd h (unhide HL)) [] (unhide HO)).mono ?_
          rintro e w5 ⟨v5, rfl, Hd, hb5⟩
          have B5 := below_trans' B4 hb5
          have Ha := Ha.below hb5
          have Hb := Hb.below hb5
          have Hc := Hc.below hb5
          obtain ⟨xa5, xc5, rfl, -⟩ := id Hd
          clear hb5 B4
          go_wp2
          go_ret
          exact ⟨rfl, B5⟩
        | true =>
          go_wp2_with fail
          refine (and_b _ _ a b _ Ha Hb (fun h => absurd h (unhide HL)) [] (unhide HO)).mono ?_
          rintro e w5 ⟨v5, rfl, Hd, hb5⟩
          have B5 := below_trans' B4 hb5
          have Ha := Ha.below hb5
          have Hb := Hb.below hb5
          have Hc := Hc.below hb5
          obtain ⟨xa5, xc5, rfl, -⟩ := id Hd
          clear hb5 B4
          go_wp2
          go_ret
          exact ⟨rfl, B5⟩
end Go.Proofs.Ytgdaohjmepgmmaa
