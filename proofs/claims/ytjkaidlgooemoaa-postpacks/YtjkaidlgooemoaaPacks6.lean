/-
  The walk of PostPacks: postings have the bytes, and bytes have the postings, that the document says.
-/
import Derived.Test.YtjkaidlgooemoaaAwake6
namespace Go.Proofs.Ytjkaidlgooemoaa
open Go.RowKit

set_option maxHeartbeats 4000000 in
theorem postPacks_walk (v u : Value) (L : List Pt) (l : List Int) (w : World) (P : Pl w v L) (S : Sl .u8 w u l) (hb : V.Byt l) :
    Calls Try.prog 4 #[v, u] w fun e w' => e = .returned (.bool true) ∧ Below w.heap.size w w' := by
  have BB := Below.refl w.heap.size w
  obtain ⟨fa, hfa⟩ : ∃ fa, Q.few L = fa := ⟨_, rfl⟩
  have Hfa := hide hfa
  clear hfa
  obtain ⟨R, hR⟩ : ∃ R, Q.packA L = R := ⟨_, rfl⟩
  have HR := hide hR
  clear hR
  obtain ⟨en, hen⟩ : ∃ en, Q.packE L = en := ⟨_, rfl⟩
  have Hen := hide hen
  clear hen
  obtain ⟨X, hX⟩ : ∃ X, Q.unpA l = X := ⟨_, rfl⟩
  have HX := hide hX
  clear hX
  obtain ⟨ge, hge⟩ : ∃ ge, Q.unpE l = ge := ⟨_, rfl⟩
  have Hge := hide hge
  clear hge
  have e1 : (en == en) = true := by simp
  have e2 : (ge == ge) = true := by simp
  obtain ⟨va, vn, vc, hv⟩ := P.form'
  subst hv
  obtain ⟨ua, uc, hu, -⟩ := id S
  subst hu
  go_enter Try.func4, Try.ntmps4
  go_wp2_with fail
  refine (awake_any _).mono ?_
  rintro e w1 ⟨rfl, B1⟩
  replace BB := below_trans' BB B1
  replace P := P.below B1
  replace S := S.below B1
  clear B1
  go_wp2_with fail
  refine (few_b _ L _ P fa (unhide Hfa)).mono ?_
  rintro e w2 ⟨rfl, B2⟩
  replace BB := below_trans' BB B2
  replace P := P.below B2
  replace S := S.below B2
  clear B2
  cases fa with
  | false =>
    go_wp2
    go_ret
    exact ⟨rfl, BB⟩
  | true =>
    by_cases hl : 3000 < l.length
    · have hl2 : (3000 : Int) < (l.length : Int) := by omega
      go_wp2
      go_ret
      exact ⟨rfl, BB⟩
    · have hl2 : ¬ ((3000 : Int) < (l.length : Int)) := by omega
      have hl3 : l.length ≤ 1000000 := by omega
      go_wp2_with fail
      refine (pack_b _ L _ P R en (unhide HR) (unhide Hen)).mono ?_
      rintro e w3 ⟨a1, c1, rfl, S1, B3⟩
      replace BB := below_trans' BB B3
      replace P := P.below B3
      replace S := S.below B3
      clear B3
      go_wp2_with fail
      refine (rpack_b _ L _ P R en (unhide HR) (unhide Hen)).mono ?_
      rintro e w4 ⟨a2, c2, rfl, S2, B4⟩
      replace BB := below_trans' BB B4
      replace P := P.below B4
      replace S := S.below B4
      replace S1 := S1.below B4
      clear B4
      go_wp2_with fail
      refine (unpack_b _ l _ S hb hl3 X ge (unhide HX) (unhide Hge)).mono ?_
      rintro e w5 ⟨a3, c3, rfl, P3, B5⟩
      replace BB := below_trans' BB B5
      replace P := P.below B5
      replace S := S.below B5
      replace S1 := S1.below B5
      replace S2 := S2.below B5
      clear B5
      go_wp2_with fail
      refine (runpack_b _ l _ S hb hl3 X ge (unhide HX) (unhide Hge)).mono ?_
      rintro e w6 ⟨a4, c4, rfl, P4, B6⟩
      replace BB := below_trans' BB B6
      replace P := P.below B6
      replace S := S.below B6
      replace S1 := S1.below B6
      replace S2 := S2.below B6
      replace P3 := P3.below B6
      clear B6
      go_wp2_with fail
      refine (bytes_b _ _ R R _ S1 S2 true (by simp)).mono ?_
      rintro e w7 ⟨rfl, B7⟩
      replace BB := below_trans' BB B7
      replace P := P.below B7
      replace S := S.below B7
      replace S1 := S1.below B7
      replace S2 := S2.below B7
      replace P3 := P3.below B7
      replace P4 := P4.below B7
      clear B7
      go_wp2_with fail
      refine (rsame_b _ _ X X _ P3 P4 true (Pt.eqs_refl _)).mono ?_
      rintro e w8 ⟨rfl, B8⟩
      replace BB := below_trans' BB B8
      replace P := P.below B8
      replace S := S.below B8
      replace S1 := S1.below B8
      replace S2 := S2.below B8
      replace P3 := P3.below B8
      replace P4 := P4.below B8
      clear B8
      go_wp2
      go_ret
      exact ⟨rfl, BB⟩
end Go.Proofs.Ytjkaidlgooemoaa
