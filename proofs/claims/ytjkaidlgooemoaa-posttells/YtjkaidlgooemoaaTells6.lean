/-
  The walk of PostTells: postings may be, or not, a document's is where, a place is put, as the document says.
-/
import Derived.Test.YtjkaidlgooemoaaAwake6
namespace Go.Proofs.Ytjkaidlgooemoaa
open Go.RowKit

set_option maxHeartbeats 4000000 in
theorem postTells_walk (v u : Value) (L K : List Pt) (d x : Int) (w : World) (P : Pl w v L) (M : Pl w u K) :
    Calls Try.prog 3 #[v, u, .int .i64 d, .int .i64 x] w fun e w' => e = .returned (.bool true) ∧ Below w.heap.size w w' := by
  have BB := Below.refl w.heap.size w
  obtain ⟨fa, hfa⟩ : ∃ fa, Q.few L = fa := ⟨_, rfl⟩
  have Hfa := hide hfa
  clear hfa
  obtain ⟨fb, hfb⟩ : ∃ fb, Q.few K = fb := ⟨_, rfl⟩
  have Hfb := hide hfb
  clear hfb
  obtain ⟨R, hR⟩ : ∃ R, Q.putA L d x = R := ⟨_, rfl⟩
  have HR := hide hR
  clear hR
  obtain ⟨en, hen⟩ : ∃ en, Q.putE L d x = en := ⟨_, rfl⟩
  have Hen := hide hen
  clear hen
  obtain ⟨mb, hmb⟩ : ∃ mb, Q.may L = mb := ⟨_, rfl⟩
  have Hmb := hide hmb
  clear hmb
  obtain ⟨fi, hfi⟩ : ∃ fi, Q.find L d = fi := ⟨_, rfl⟩
  have Hfi := hide hfi
  clear hfi
  obtain ⟨sb, hsb⟩ : ∃ sb, Pt.eqs L K = sb := ⟨_, rfl⟩
  have Hsb := hide hsb
  clear hsb
  have e1 : (en == en) = true := by simp
  have e2 : (mb == mb) = true := by simp
  have e3 : (fi == fi) = true := by simp
  have e4 : (sb == sb) = true := by simp
  obtain ⟨va, vn, vc, hv⟩ := P.form'
  subst hv
  obtain ⟨ua, un, uc, hu⟩ := M.form'
  subst hu
  go_enter Try.func3, Try.ntmps3
  go_wp2_with fail
  refine (awake_any _).mono ?_
  rintro e w1 ⟨rfl, B1⟩
  replace BB := below_trans' BB B1
  replace P := P.below B1
  replace M := M.below B1
  clear B1
  go_wp2_with fail
  refine (few_b _ L _ P fa (unhide Hfa)).mono ?_
  rintro e w2 ⟨rfl, B2⟩
  replace BB := below_trans' BB B2
  replace P := P.below B2
  replace M := M.below B2
  clear B2
  go_wp2_with fail
  refine (few_b _ K _ M fb (unhide Hfb)).mono ?_
  rintro e w3 ⟨rfl, B3⟩
  replace BB := below_trans' BB B3
  replace P := P.below B3
  replace M := M.below B3
  clear B3
  cases fa with
  | false =>
    go_wp2
    go_ret
    exact ⟨rfl, BB⟩
  | true =>
    cases fb with
    | false =>
      go_wp2
      go_ret
      exact ⟨rfl, BB⟩
    | true =>
      have hf := Q.few_fits (unhide Hfa)
      go_wp2_with fail
      refine (pput_b _ L d x _ P hf R en (unhide HR) (unhide Hen)).mono ?_
      rintro e w4 ⟨a1, n1, c1, rfl, P1, B4⟩
      replace BB := below_trans' BB B4
      replace P := P.below B4
      replace M := M.below B4
      clear B4
      go_wp2_with fail
      refine (rput_b _ L d x _ P hf R en (unhide HR) (unhide Hen)).mono ?_
      rintro e w5 ⟨a2, n2, c2, rfl, P2, B5⟩
      replace BB := below_trans' BB B5
      replace P := P.below B5
      replace M := M.below B5
      replace P1 := P1.below B5
      clear B5
      go_wp2_with fail
      refine (rsame_b _ _ R R _ P1 P2 true (Pt.eqs_refl _)).mono ?_
      rintro e w6 ⟨rfl, B6⟩
      replace BB := below_trans' BB B6
      replace P := P.below B6
      replace M := M.below B6
      replace P1 := P1.below B6
      replace P2 := P2.below B6
      clear B6
      clear P1 P2
      go_wp2_with fail
      refine (may_b _ L _ P mb (unhide Hmb)).mono ?_
      rintro e w7 ⟨rfl, B7⟩
      replace BB := below_trans' BB B7
      replace P := P.below B7
      replace M := M.below B7
      clear B7
      go_wp2_with fail
      refine (rmay_b _ L _ P mb (unhide Hmb)).mono ?_
      rintro e w8 ⟨rfl, B8⟩
      replace BB := below_trans' BB B8
      replace P := P.below B8
      replace M := M.below B8
      clear B8
      go_wp2_with fail
      refine (find_b _ L d _ P fi (unhide Hfi)).mono ?_
      rintro e w9 ⟨rfl, B9⟩
      replace BB := below_trans' BB B9
      replace P := P.below B9
      replace M := M.below B9
      clear B9
      go_wp2_with fail
      refine (rfind_b _ L d _ P fi (unhide Hfi)).mono ?_
      rintro e w10 ⟨rfl, B10⟩
      replace BB := below_trans' BB B10
      replace P := P.below B10
      replace M := M.below B10
      clear B10
      go_wp2_with fail
      refine (same_b _ _ L K _ P M sb (unhide Hsb)).mono ?_
      rintro e w11 ⟨rfl, B11⟩
      replace BB := below_trans' BB B11
      replace P := P.below B11
      replace M := M.below B11
      clear B11
      go_wp2_with fail
      refine (rsame_b _ _ L K _ P M sb (unhide Hsb)).mono ?_
      rintro e w12 ⟨rfl, B12⟩
      replace BB := below_trans' BB B12
      replace P := P.below B12
      replace M := M.below B12
      clear B12
      go_wp2
      go_ret
      exact ⟨rfl, BB⟩
end Go.Proofs.Ytjkaidlgooemoaa
