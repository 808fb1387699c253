/-
  The walk of PostBack: what is packed is unpacked as it; what is unpacked, packed, is the same bytes.
-/
import Derived.Test.YtjkaidlgooemoaaAwake6
namespace Go.Proofs.Ytjkaidlgooemoaa
open Go.RowKit

set_option maxHeartbeats 4000000 in
theorem postBack_walk (v u : Value) (L : List Pt) (l : List Int) (w : World) (P : Pl w v L) (S : Sl .u8 w u l) (hb : V.Byt l) :
    Calls Try.prog 6 #[v, u] w fun e w' => e = .returned (.bool true) ∧ Below w.heap.size w w' := by
  have BB := Below.refl w.heap.size w
  obtain ⟨fa, hfa⟩ : ∃ fa, Q.few L = fa := ⟨_, rfl⟩
  have Hfa := hide hfa
  clear hfa
  obtain ⟨mb, hmb⟩ : ∃ mb, Q.may L = mb := ⟨_, rfl⟩
  have Hmb := hide hmb
  clear hmb
  obtain ⟨R, hR⟩ : ∃ R, Q.packA L = R := ⟨_, rfl⟩
  have HR := hide hR
  clear hR
  obtain ⟨en, hen⟩ : ∃ en, Q.packE L = en := ⟨_, rfl⟩
  have Hen := hide hen
  clear hen
  have e2 : (mb == mb) = true := by simp
  obtain ⟨va, vn, vc, hv⟩ := P.form'
  subst hv
  obtain ⟨ua, uc, hu, -⟩ := id S
  subst hu
  go_enter Try.func6, Try.ntmps6
  go_wp2_with fail
  refine (awake_any _).mono ?_
  rintro e w1 ⟨rfl, B1⟩
  replace BB := below_trans' BB B1
  replace P := P.below B1
  replace S := S.below B1
  clear B1
  go_wp2_with fail
  refine (few_b _ L _ P fa (unhide Hfa)).mono ?_
  rintro e w2 ⟨rfl, B2⟩
  replace BB := below_trans' BB B2
  replace P := P.below B2
  replace S := S.below B2
  clear B2
  cases fa with
  | false =>
    go_wp2
    go_ret
    exact ⟨rfl, BB⟩
  | true =>
    by_cases hl : 3000 < l.length
    · have hl2 : (3000 : Int) < (l.length : Int) := by omega
      go_wp2
      go_ret
      exact ⟨rfl, BB⟩
    · have hl2 : ¬ ((3000 : Int) < (l.length : Int)) := by omega
      have hl3 : l.length ≤ 1000000 := by omega
      cases mb with
      | false =>
        have hen : en = 1 := by rw [← unhide Hen, (Q.packA_out (unhide Hmb)).2]
        subst hen
        go_wp2_with fail
        refine (pack_b _ L _ P R 1 (unhide HR) (unhide Hen)).mono ?_
        rintro e w3 ⟨a3, c3, rfl, S3, B3⟩
        replace BB := below_trans' BB B3
        replace P := P.below B3
        replace S := S.below B3
        clear B3
        rcases Q.unp_ans l with ⟨-, hA, hE⟩ | ⟨X, hX, hA, hE⟩
        · have HA := hide hA
          have HE := hide hE
          clear hA hE
          go_wp2_with fail
          refine (unpack_b _ l _ S hb hl3 [] 5 (unhide HA) (unhide HE)).mono ?_
          rintro e w4 ⟨a5, c5, rfl, P5, B4⟩
          replace BB := below_trans' BB B4
          replace P := P.below B4
          replace S := S.below B4
          replace S3 := S3.below B4
          clear B4
          go_wp2_with fail
          refine (may_b _ L _ P false (unhide Hmb)).mono ?_
          rintro e w5 ⟨rfl, B5⟩
          replace BB := below_trans' BB B5
          replace P := P.below B5
          replace S := S.below B5
          replace S3 := S3.below B5
          replace P5 := P5.below B5
          clear B5
          go_wp2
          go_ret
          exact ⟨rfl, BB⟩
        · obtain ⟨hm, hbs⟩ := Q.bytes_unp hb hX
          have HA := hide hA
          have HE := hide hE
          have HMX := hide hm
          have HPX := hide (show Q.packA X = l by rw [(Q.packA_in hm).1, hbs])
          have HPE := hide (Q.packA_in hm).2
          clear hA hE hX hm hbs
          go_wp2_with fail
          refine (unpack_b _ l _ S hb hl3 X 0 (unhide HA) (unhide HE)).mono ?_
          rintro e w4 ⟨a5, c5, rfl, P5, B4⟩
          replace BB := below_trans' BB B4
          replace P := P.below B4
          replace S := S.below B4
          replace S3 := S3.below B4
          clear B4
          go_wp2_with fail
          refine (pack_b _ X _ P5 l 0 (unhide HPX) (unhide HPE)).mono ?_
          rintro e w5 ⟨a6, c6, rfl, S6, B5⟩
          replace BB := below_trans' BB B5
          replace P := P.below B5
          replace S := S.below B5
          replace S3 := S3.below B5
          replace P5 := P5.below B5
          clear B5
          go_wp2_with fail
          refine (bytes_b _ _ l l _ S6 S true (by simp)).mono ?_
          rintro e w6 ⟨rfl, B6⟩
          replace BB := below_trans' BB B6
          replace P := P.below B6
          replace S := S.below B6
          replace S3 := S3.below B6
          replace P5 := P5.below B6
          replace S6 := S6.below B6
          clear B6
          go_wp2_with fail
          refine (may_b _ X _ P5 true (unhide HMX)).mono ?_
          rintro e w7 ⟨rfl, B7⟩
          replace BB := below_trans' BB B7
          replace P := P.below B7
          replace S := S.below B7
          replace S3 := S3.below B7
          replace P5 := P5.below B7
          replace S6 := S6.below B7
          clear B7
          go_wp2_with fail
          refine (may_b _ L _ P false (unhide Hmb)).mono ?_
          rintro e w8 ⟨rfl, B8⟩
          replace BB := below_trans' BB B8
          replace P := P.below B8
          replace S := S.below B8
          replace S3 := S3.below B8
          replace P5 := P5.below B8
          replace S6 := S6.below B8
          clear B8
          go_wp2
          go_ret
          exact ⟨rfl, BB⟩
      | true =>
        have hen : en = 0 := by rw [← unhide Hen, (Q.packA_in (unhide Hmb)).2]
        subst hen
        have hRb : R = Q.bytes L := by rw [← unhide HR, (Q.packA_in (unhide Hmb)).1]
        have HUY := hide (Q.unp_yes (show Q.unp R = some L by rw [hRb]; exact Q.unp_bytes (unhide Hmb)))
        have hRt : V.Byt R := by rw [hRb]; exact Q.bytes_byt L
        have hRl : R.length ≤ 1000000 := by rw [hRb]; have := Q.bytes_len (unhide Hmb); omega
        clear hRb
        go_wp2_with fail
        refine (pack_b _ L _ P R 0 (unhide HR) (unhide Hen)).mono ?_
        rintro e w3 ⟨a3, c3, rfl, S3, B3⟩
        replace BB := below_trans' BB B3
        replace P := P.below B3
        replace S := S.below B3
        clear B3
        go_wp2_with fail
        refine (unpack_b _ R _ S3 hRt hRl L 0 (unhide HUY).1 (unhide HUY).2).mono ?_
        rintro e w4 ⟨a4, c4, rfl, P4, B4⟩
        replace BB := below_trans' BB B4
        replace P := P.below B4
        replace S := S.below B4
        replace S3 := S3.below B4
        clear B4
        go_wp2_with fail
        refine (rsame_b _ _ L L _ P4 P true (Pt.eqs_refl _)).mono ?_
        rintro e w5 ⟨rfl, B5⟩
        replace BB := below_trans' BB B5
        replace P := P.below B5
        replace S := S.below B5
        replace S3 := S3.below B5
        replace P4 := P4.below B5
        clear B5
        clear P4 S3
        rcases Q.unp_ans l with ⟨-, hA, hE⟩ | ⟨X, hX, hA, hE⟩
        · have HA := hide hA
          have HE := hide hE
          clear hA hE
          go_wp2_with fail
          refine (unpack_b _ l _ S hb hl3 [] 5 (unhide HA) (unhide HE)).mono ?_
          rintro e w6 ⟨a5, c5, rfl, P5, B6⟩
          replace BB := below_trans' BB B6
          replace P := P.below B6
          replace S := S.below B6
          clear B6
          go_wp2_with fail
          refine (may_b _ L _ P true (unhide Hmb)).mono ?_
          rintro e w7 ⟨rfl, B7⟩
          replace BB := below_trans' BB B7
          replace P := P.below B7
          replace S := S.below B7
          replace P5 := P5.below B7
          clear B7
          go_wp2
          go_ret
          exact ⟨rfl, BB⟩
        · obtain ⟨hm, hbs⟩ := Q.bytes_unp hb hX
          have HA := hide hA
          have HE := hide hE
          have HMX := hide hm
          have HPX := hide (show Q.packA X = l by rw [(Q.packA_in hm).1, hbs])
          have HPE := hide (Q.packA_in hm).2
          clear hA hE hX hm hbs
          go_wp2_with fail
          refine (unpack_b _ l _ S hb hl3 X 0 (unhide HA) (unhide HE)).mono ?_
          rintro e w6 ⟨a5, c5, rfl, P5, B6⟩
          replace BB := below_trans' BB B6
          replace P := P.below B6
          replace S := S.below B6
          clear B6
          go_wp2_with fail
          refine (pack_b _ X _ P5 l 0 (unhide HPX) (unhide HPE)).mono ?_
          rintro e w7 ⟨a6, c6, rfl, S6, B7⟩
          replace BB := below_trans' BB B7
          replace P := P.below B7
          replace S := S.below B7
          replace P5 := P5.below B7
          clear B7
          go_wp2_with fail
          refine (bytes_b _ _ l l _ S6 S true (by simp)).mono ?_
          rintro e w8 ⟨rfl, B8⟩
          replace BB := below_trans' BB B8
          replace P := P.below B8
          replace S := S.below B8
          replace P5 := P5.below B8
          replace S6 := S6.below B8
          clear B8
          go_wp2_with fail
          refine (may_b _ X _ P5 true (unhide HMX)).mono ?_
          rintro e w9 ⟨rfl, B9⟩
          replace BB := below_trans' BB B9
          replace P := P.below B9
          replace S := S.below B9
          replace P5 := P5.below B9
          replace S6 := S6.below B9
          clear B9
          go_wp2_with fail
          refine (may_b _ L _ P true (unhide Hmb)).mono ?_
          rintro e w10 ⟨rfl, B10⟩
          replace BB := below_trans' BB B10
          replace P := P.below B10
          replace S := S.below B10
          replace P5 := P5.below B10
          replace S6 := S6.below B10
          clear B10
          go_wp2
          go_ret
          exact ⟨rfl, BB⟩
end Go.Proofs.Ytjkaidlgooemoaa
