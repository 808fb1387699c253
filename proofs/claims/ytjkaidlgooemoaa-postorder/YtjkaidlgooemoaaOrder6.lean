/-
  The walk of PostOrder: in whatever order two places are put the postings are the same; what is put is there, and all that was.
-/
import Derived.Test.YtjkaidlgooemoaaPlainOrder6
namespace Go.Proofs.Ytjkaidlgooemoaa
open Go.RowKit

set_option maxHeartbeats 8000000 in
theorem postOrder_walk (v : Value) (L : List Pt) (d x o t : Int) (w : World) (P : Pl w v L) :
    Calls Try.prog 7 #[v, .int .i64 d, .int .i64 x, .int .i64 o, .int .i64 t] w fun e w' => e = .returned (.bool true) ∧ Below w.heap.size w w' := by
  have BB := Below.refl w.heap.size w
  obtain ⟨fa, hfa⟩ : ∃ fa, Q.few L = fa := ⟨_, rfl⟩
  have Hfa := hide hfa
  clear hfa
  obtain ⟨X, hX⟩ : ∃ X, Q.putA L d x = X := ⟨_, rfl⟩
  have HX := hide hX
  clear hX
  obtain ⟨en, hen⟩ : ∃ en, Q.putE L d x = en := ⟨_, rfl⟩
  have Hen := hide hen
  clear hen
  obtain ⟨Y, hY⟩ : ∃ Y, Q.putA L o t = Y := ⟨_, rfl⟩
  have HY := hide hY
  clear hY
  obtain ⟨fn, hfn⟩ : ∃ fn, Q.putE L o t = fn := ⟨_, rfl⟩
  have Hfn := hide hfn
  clear hfn
  obtain ⟨va, vn, vc, hv⟩ := P.form'
  subst hv
  go_enter Try.func7, Try.ntmps7
  go_wp2_with fail
  refine (awake_any _).mono ?_
  rintro e w1 ⟨rfl, B1⟩
  replace BB := below_trans' BB B1
  replace P := P.below B1
  clear B1
  go_wp2_with fail
  refine (few_b _ L _ P fa (unhide Hfa)).mono ?_
  rintro e w2 ⟨rfl, B2⟩
  replace BB := below_trans' BB B2
  replace P := P.below B2
  clear B2
  cases fa with
  | false =>
    go_wp2
    go_ret
    exact ⟨rfl, BB⟩
  | true =>
    have hfL := Q.few_fits (unhide Hfa)
    go_wp2_with fail
    refine (pput_b _ L d x _ P hfL X en (unhide HX) (unhide Hen)).mono ?_
    rintro e w3 ⟨a3, n3, c3, rfl, PX, B3⟩
    replace BB := below_trans' BB B3
    replace P := P.below B3
    clear B3
    go_wp2_with fail
    refine (pput_b _ L o t _ P hfL Y fn (unhide HY) (unhide Hfn)).mono ?_
    rintro e w4 ⟨a4, n4, c4, rfl, PY, B4⟩
    replace BB := below_trans' BB B4
    replace P := P.below B4
    replace PX := PX.below B4
    clear B4
    by_cases he : en = 0
    · subst he
      by_cases hf : fn = 0
      · subst hf
        obtain ⟨p1, p2, p3⟩ := Q.putE_zero (unhide Hen)
        obtain ⟨q1, q2, q3⟩ := Q.putE_zero (unhide Hfn)
        have hXL : X = Q.putL L d x := by rw [← unhide HX, p3]
        have hYL : Y = Q.putL L o t := by rw [← unhide HY, q3]
        have mX : Q.may X = true := by rw [hXL]; exact Q.may_put p1 p2
        have mY : Q.may Y = true := by rw [hYL]; exact Q.may_put q1 q2
        have fX := Q.may_fits mX
        have fY := Q.may_fits mY
        have HMX := hide mX
        have HAG := hide (show Q.putE X d x = 3 by rw [hXL]; exact Q.again p1 p2)
        have hfp : 0 ≤ Q.find X d := by rw [hXL]; exact Q.find_put p1 p2
        obtain ⟨fi, hfi⟩ : ∃ fi, Q.find X d = fi := ⟨_, rfl⟩
        rw [hfi] at hfp
        have HFI := hide hfi
        have hfn : ¬ (fi < 0) := by omega
        have HP1 := hide p1
        have HP2 := hide p2
        have HQ1 := hide q1
        have HQ2 := hide q2
        have HXL := hide hXL
        have HYL := hide hYL
        clear hfi p1 p2 p3 q1 q2 q3 mX mY hXL hYL
        go_wp2_with fail
        refine (pput_b _ X d x _ PX fX _ 3 rfl (unhide HAG)).mono ?_
        rintro e w5 ⟨a5, n5, c5, rfl, P5, B5⟩
        replace BB := below_trans' BB B5
        replace P := P.below B5
        replace PX := PX.below B5
        replace PY := PY.below B5
        clear B5
        clear P5
        go_wp2_with fail
        refine (may_b _ X _ PX true (unhide HMX)).mono ?_
        rintro e w6 ⟨rfl, B6⟩
        replace BB := below_trans' BB B6
        replace P := P.below B6
        replace PX := PX.below B6
        replace PY := PY.below B6
        clear B6
        go_wp2_with fail
        refine (find_b _ X d _ PX fi (unhide HFI)).mono ?_
        rintro e w7 ⟨rfl, B7⟩
        replace BB := below_trans' BB B7
        replace P := P.below B7
        replace PX := PX.below B7
        replace PY := PY.below B7
        clear B7
        by_cases hs : d = o ∧ x = t
        · have g1 : (d == o) = true := by simpa using hs.1
          have g2 : (x == t) = true := by simpa using hs.2
          have HG := hide (show Q.putE X o t = 3 by rw [← hs.1, ← hs.2]; exact unhide HAG)
          have HXY := hide (show Pt.eqs X Y = true by rw [unhide HXL, unhide HYL, hs.1, hs.2]; exact Pt.eqs_refl _)
          have HH := hide (show Q.putE Y d x = 3 by rw [unhide HYL, ← hs.1, ← hs.2, ← unhide HXL]; exact unhide HAG)
          clear hs
          go_wp2_with fail
          refine (pput_b _ X o t _ PX fX _ 3 rfl (unhide HG)).mono ?_
          rintro e w8 ⟨a6, n6, c6, rfl, P6, B8⟩
          replace BB := below_trans' BB B8
          replace P := P.below B8
          replace PX := PX.below B8
          replace PY := PY.below B8
          clear B8
          go_wp2_with fail
          refine (pput_b _ Y d x _ PY fY _ 3 rfl (unhide HH)).mono ?_
          rintro e w9 ⟨a7, n7, c7, rfl, P7, B9⟩
          replace BB := below_trans' BB B9
          replace P := P.below B9
          replace PX := PX.below B9
          replace PY := PY.below B9
          replace P6 := P6.below B9
          clear B9
          go_wp2_with fail
          refine (same_b _ _ X Y _ PX PY true (unhide HXY)).mono ?_
          rintro e w10 ⟨rfl, B10⟩
          replace BB := below_trans' BB B10
          replace P := P.below B10
          replace PX := PX.below B10
          replace PY := PY.below B10
          replace P6 := P6.below B10
          replace P7 := P7.below B10
          clear B10
          go_wp2
          go_ret
          exact ⟨rfl, BB⟩
        · obtain ⟨r1, r2, -, -⟩ := Q.other_put (unhide HP1) (unhide HP2) (unhide HQ1) (unhide HQ2) hs
          obtain ⟨s1, s2, -, -⟩ := Q.other_put (unhide HQ1) (unhide HQ2) (unhide HP1) (unhide HP2) (fun e => hs ⟨e.1.symm, e.2.symm⟩)
          rw [← unhide HXL] at r1 r2
          rw [← unhide HYL] at s1 s2
          obtain ⟨R1, hR1⟩ : ∃ R1, Q.putA X o t = R1 := ⟨_, rfl⟩
          have hR2 : Q.putA Y d x = R1 := by rw [← hR1, r2, s2, unhide HXL, unhide HYL, Q.put_swap (unhide HP1) (unhide HP2) (unhide HQ1) (unhide HQ2) hs]
          have HG := hide r1
          have HH := hide s1
          have HR1 := hide hR1
          have HR2 := hide hR2
          have HS := hide hs
          clear r1 r2 s1 s2 hR1 hR2 hs
          go_wp2_with fail
          refine (pput_b _ X o t _ PX fX R1 0 (unhide HR1) (unhide HG)).mono ?_
          rintro e w8 ⟨a6, n6, c6, rfl, P6, B8⟩
          replace BB := below_trans' BB B8
          replace P := P.below B8
          replace PX := PX.below B8
          replace PY := PY.below B8
          clear B8
          go_wp2_with fail
          refine (pput_b _ Y d x _ PY fY R1 0 (unhide HR2) (unhide HH)).mono ?_
          rintro e w9 ⟨a7, n7, c7, rfl, P7, B9⟩
          replace BB := below_trans' BB B9
          replace P := P.below B9
          replace PX := PX.below B9
          replace PY := PY.below B9
          replace P6 := P6.below B9
          clear B9
          by_cases hdo : d = o
          · have g1 : (d == o) = true := by simpa using hdo
            have g2 : (x == t) = false := by rw [beq_eq_false_iff_ne]; exact fun e => unhide HS ⟨hdo, e⟩
            clear hdo
            go_wp2_with fail
            refine (same_b _ _ R1 R1 _ P6 P7 true (Pt.eqs_refl _)).mono ?_
            rintro e w10 ⟨rfl, B10⟩
            replace BB := below_trans' BB B10
            replace P := P.below B10
            replace PX := PX.below B10
            replace PY := PY.below B10
            replace P6 := P6.below B10
            replace P7 := P7.below B10
            clear B10
            go_wp2
            go_ret
            exact ⟨rfl, BB⟩
          · have g1 : (d == o) = false := by simpa using hdo
            clear hdo
            go_wp2_with fail
            refine (same_b _ _ R1 R1 _ P6 P7 true (Pt.eqs_refl _)).mono ?_
            rintro e w10 ⟨rfl, B10⟩
            replace BB := below_trans' BB B10
            replace P := P.below B10
            replace PX := PX.below B10
            replace PY := PY.below B10
            replace P6 := P6.below B10
            replace P7 := P7.below B10
            clear B10
            go_wp2
            go_ret
            exact ⟨rfl, BB⟩
      · have f1 : (fn == 0) = false := by simpa using hf
        have f2 : (fn != 0) = true := by simpa using hf
        have HF := hide hf
        clear hf
        have hy := Q.putE_not (show ¬ Q.putE L o t = 0 by rw [unhide Hfn]; exact unhide HF)
        have HYL := hide (show Pt.eqs Y L = true by rw [← unhide HY, hy]; exact Pt.eqs_refl _)
        clear hy
        go_wp2_with fail
        refine (same_b _ _ Y L _ PY P true (unhide HYL)).mono ?_
        rintro e w5 ⟨rfl, B5⟩
        replace BB := below_trans' BB B5
        replace P := P.below B5
        replace PX := PX.below B5
        replace PY := PY.below B5
        clear B5
        go_wp2
        go_ret
        exact ⟨rfl, BB⟩
    · have t1 : (en == 0) = false := by simpa using he
      have t2 : (en != 0) = true := by simpa using he
      have HE := hide he
      clear he
      have hx := Q.putE_not (show ¬ Q.putE L d x = 0 by rw [unhide Hen]; exact unhide HE)
      have HXL := hide (show Pt.eqs X L = true by rw [← unhide HX, hx]; exact Pt.eqs_refl _)
      clear hx
      by_cases hf : fn = 0
      · have f1 : (fn == 0) = true := by simpa using hf
        have f2 : (fn != 0) = false := by simpa using hf
        clear hf
        go_wp2_with fail
        refine (same_b _ _ X L _ PX P true (unhide HXL)).mono ?_
        rintro e w5 ⟨rfl, B5⟩
        replace BB := below_trans' BB B5
        replace P := P.below B5
        replace PX := PX.below B5
        replace PY := PY.below B5
        clear B5
        go_wp2
        go_ret
        exact ⟨rfl, BB⟩
      · have f1 : (fn == 0) = false := by simpa using hf
        have f2 : (fn != 0) = true := by simpa using hf
        have HF := hide hf
        clear hf
        have hy := Q.putE_not (show ¬ Q.putE L o t = 0 by rw [unhide Hfn]; exact unhide HF)
        have HYL := hide (show Pt.eqs Y L = true by rw [← unhide HY, hy]; exact Pt.eqs_refl _)
        clear hy
        go_wp2_with fail
        refine (same_b _ _ X L _ PX P true (unhide HXL)).mono ?_
        rintro e w5 ⟨rfl, B5⟩
        replace BB := below_trans' BB B5
        replace P := P.below B5
        replace PX := PX.below B5
        replace PY := PY.below B5
        clear B5
        go_wp2_with fail
        refine (same_b _ _ Y L _ PY P true (unhide HYL)).mono ?_
        rintro e w6 ⟨rfl, B6⟩
        replace BB := below_trans' BB B6
        replace P := P.below B6
        replace PX := PX.below B6
        replace PY := PY.below B6
        clear B6
        go_wp2
        go_ret
        exact ⟨rfl, BB⟩
end Go.Proofs.Ytjkaidlgooemoaa
