/-
  A number's bytes are read as it, whatever stands ahead of them, and behind: the walk of VintBack.
-/
import Derived.Test.YtfhgcofbomcfoaaAwake
import Derived.Test.YtfhgcofbomcfoaaPlainLaw
namespace Go.Proofs.Ytfhgcofbomcfoaa
open Go.RowKit

theorem get_around {n : Int} {hd tl : List Int} (hn : 0 ≤ n ∧ n ≤ 34359738367) : V.get (hd ++ V.put n ++ tl) hd.length = (n, (hd.length : Int) + (V.put n).length, 0) := by
  have hg := V.getH_put n tl hn.1 hn.2
  exact get_some (by simp) (by rw [List.append_assoc, List.drop_left]; exact hg)

set_option maxHeartbeats 1000000 in
theorem vintBack_walk (n : Int) (vh vt : Value) (hd tl : List Int) (w : World) (sh : Sl .u8 w vh hd) (st : Sl .u8 w vt tl) (bh : V.Byt hd) (bt : V.Byt tl) :
    Calls Try.prog 5 #[.int .i64 n, vh, vt] w fun e w' => e = .returned (.bool true) ∧ Below w.heap.size w w' := by
  obtain ⟨i0, hi, hz0, hz1, hz2⟩ := info_parts Try.info5
  go_enter Try.func5, Try.ntmps5
  go_wp2_with fail
  refine (awake_any _).mono ?_
  rintro e w1 ⟨rfl, hb1⟩
  go_wp2_with fail
  refine (put_any n _).mono ?_
  rintro e w2 ⟨v2, rfl, hown2, hb2⟩
  have B2 := below_trans' hb1 hb2
  have S2 := Sl.owned hown2
  have SH := sh.below B2
  have ST := st.below B2
  clear hown2 hb1 hb2 sh st
  obtain ⟨a2, c2, e2, l2, m2, n2, o2⟩ := S2.open
  obtain ⟨ah, ch, eh, lh, mh, nh, oh⟩ := SH.open
  obtain ⟨at', ct, et, lt, mt, nt, ot⟩ := ST.open
  subst e2 eh et
  clear o2 oh ot n2 nh nt
  rcases V.putA_zero n with ⟨hz, ea, ra⟩ | ⟨hz, ea, la, ra⟩
  · have hl0 : (V.putA n).length ≤ 0 := by rw [ea]; simp
    clear ea
    by_cases hn0 : n < 0
    all_goals
      by_cases h1 : 1000 < hd.length
      all_goals
        by_cases h2 : 1000 < tl.length
        all_goals
          go_wp2
          go_ret
          exact ⟨ret_true (by simp <;> omega), B2⟩
  · have EA : Hid (V.putA n = V.put n) := ea
    clear ea
    by_cases h1 : 1000 < hd.length
    · go_wp2
      go_ret
      exact ⟨ret_true (by simp <;> omega), B2⟩
    · by_cases h2 : 1000 < tl.length
      · go_wp2
        go_ret
        exact ⟨ret_true (by simp <;> omega), B2⟩
      · have l5 := V.putA_len n
        go_wp2_with (first | (at_builtin; refine append_all rfl (.const (.slice none 0 0)) (.tmp 47) 22 rfl Try.underlying22 hi hz0 hz1 hz2 rfl (B := w2.heap.size) (w0 := w2) (pre := []) (zs := hd) rfl rfl SH (World.ownsRow_nil _ _ _ _) (Below.refl _ _) (Nat.le_refl _) (by simp; omega) (by decide) ?_; intro v3 w3 hown3 hb3) | (at_builtin; refine append_all rfl (.tmp 48) (.tmp 49) 22 rfl Try.underlying22 hi hz0 hz1 hz2 rfl (pre := [] ++ hd) (zs := V.putA n) rfl rfl (S2.below hb3) hown3 hb3 hb3.size (by simp; omega) (by decide) ?_; intro v4 w4 hown4 hb4) | (at_builtin; refine append_all rfl (.tmp 50) (.tmp 51) 22 rfl Try.underlying22 hi hz0 hz1 hz2 rfl (pre := [] ++ hd ++ V.putA n) (zs := tl) rfl rfl (ST.below hb4) hown4 hb4 hb4.size (by simp; omega) (by decide) ?_; intro v5 w5 hown5 hb5))
        have S5 := Sl.owned hown5
        simp only [List.nil_append] at S5
        rw [EA.out] at S5
        have B5 := below_trans' B2 hb5
        clear hown3 hb3 hown4 hb4 hown5 hb5 B2 S2 SH ST
        refine (get_b _ (hd ++ V.put n ++ tl) _ _ S5 ((bh.app (V.put_byt n ra.1 ra.2)).app bt) _ (get_around ra)).mono ?_
        rintro e w6 ⟨rfl, hb6⟩
        have B6 := below_trans' B5 hb6
        rw [← EA.out]
        clear S5 B5 hb6
        go_wp2
        go_ret
        exact ⟨ret_true (by simp <;> omega), B6⟩
end Go.Proofs.Ytfhgcofbomcfoaa
