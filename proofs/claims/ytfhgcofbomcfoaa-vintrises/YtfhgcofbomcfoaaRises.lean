/-
  A rising list's bytes are read as it, whatever stands ahead of them, and behind; cut off they are none: the walk of VintRises.
-/
import Derived.Test.YtfhgcofbomcfoaaTwice
namespace Go.Proofs.Ytfhgcofbomcfoaa
open Go.RowKit

theorem riseA_of {l : List Int} (h : V.rises l = true) : V.riseA l = V.enc (V.nums l) := if_pos h
theorem riseA_pos {l : List Int} (h : V.rises l = true) : 0 < (V.riseA l).length := by
  rw [riseA_of h, V.nums, V.enc_cons, List.length_append]
  have := (V.put_len (l.length : Int)).1
  omega
theorem read_around {l hd tl : List Int} (h : V.rises l = true) : V.read (hd ++ V.riseA l ++ tl) hd.length = (l, (hd.length : Int) + (V.riseA l).length, 0) := by
  have hr := V.readP_enc (l := hd ++ V.riseA l ++ tl) (t := tl) (p := hd.length) h (by rw [List.append_assoc, List.drop_left, riseA_of h])
  rw [read_some (by simp) hr, ← riseA_of h]
  simp
theorem read_cut {l hd tl : List Int} {c : Nat} (h : V.rises l = true) (hc : c < (V.riseA l).length) : V.read ((hd ++ V.riseA l ++ tl).take (hd.length + c)) hd.length = ([], 0, 5) := by
  refine read_none (by simp) (V.readP_cut (j := c) h (by rw [← riseA_of h]; exact hc) ?_)
  rw [List.drop_take, List.append_assoc, List.drop_left, Nat.add_sub_cancel_left, ← riseA_of h, List.take_append_of_le_length (by omega)]

set_option maxHeartbeats 1000000 in
theorem vintRises_walk (vl vh vt : Value) (l hd tl : List Int) (cut : Int) (w : World) (sl : Sl .i64 w vl l) (sh : Sl .u8 w vh hd) (st : Sl .u8 w vt tl) (bh : V.Byt hd) (bt : V.Byt tl) (hcut : -9223372036854775808 ≤ cut ∧ cut ≤ 9223372036854775807) :
    Calls Try.prog 6 #[vl, vh, vt, .int .i64 cut] w fun e w' => e = .returned (.bool true) ∧ Below w.heap.size w w' := by
  obtain ⟨i0, hi, hz0, hz1, hz2⟩ := info_parts Try.info5
  go_enter Try.func6, Try.ntmps6
  go_wp2_with fail
  refine (awake_any _).mono ?_
  rintro e w1 ⟨rfl, B1⟩
  have SL := sl.below B1
  have SH := sh.below B1
  have ST := st.below B1
  clear sl sh st
  obtain ⟨al, cl, el, ll, ml, nl, ol⟩ := SL.open
  obtain ⟨ah, ch, eh, lh, mh, nh, oh⟩ := SH.open
  obtain ⟨at', ct, et, lt, mt, nt, ot⟩ := ST.open
  subst el eh et
  clear ol oh ot nl nh nt
  by_cases h1 : 500 < l.length
  · go_wp2
    go_ret
    exact ⟨rfl, B1⟩
  by_cases h2 : 500 < hd.length
  · go_wp2
    go_ret
    exact ⟨rfl, B1⟩
  by_cases h3 : 500 < tl.length
  · go_wp2
    go_ret
    exact ⟨rfl, B1⟩
  cases hrs : V.rises l with
  | false =>
    have eA : V.riseA l = [] := if_neg (by simp [hrs])
    have eE : V.riseE l = 1 := if_neg (by simp [hrs])
    have EA := hide eA
    have EE := hide eE
    clear eA eE hrs
    go_wp2_with fail
    refine (rise_any _ l _ SL).mono ?_
    rintro e w2 ⟨v2, rfl, hown2, hb2⟩
    rw [unhide EA] at hown2
    rw [unhide EE]
    have B2 := below_trans' B1 hb2
    obtain ⟨a2, c2, e2, l2, m2, n2, o2⟩ := (Sl.owned hown2).open
    subst e2
    clear o2 n2 hown2 hb2 B1 SL SH ST EA EE
    go_wp2
    go_ret
    exact ⟨rfl, B2⟩
  | true =>
    have eE : V.riseE l = 0 := if_pos hrs
    have EE := hide eE
    have HRS := hide hrs
    have rpos := riseA_pos hrs
    have rlen := V.riseA_len (l := l)
    clear eE hrs
    go_wp2_with fail
    refine (rise_any _ l _ SL).mono ?_
    rintro e w2 ⟨v2, rfl, hown2, hb2⟩
    rw [unhide EE]
    have B2 := below_trans' B1 hb2
    have S2 := Sl.owned hown2
    have SL2 := SL.below hb2
    have SH2 := SH.below hb2
    have ST2 := ST.below hb2
    obtain ⟨a2, c2, e2, l2, m2, n2, o2⟩ := S2.open
    subst e2
    clear o2 n2 hown2 hb2 B1 SL SH ST EE
    go_wp2_with (first | (at_builtin; refine append_all rfl (.const (.slice none 0 0)) (.tmp 53) 22 rfl Try.underlying22 hi hz0 hz1 hz2 rfl (B := w2.heap.size) (w0 := w2) (pre := []) (zs := hd) rfl rfl SH2 (World.ownsRow_nil _ _ _ _) (Below.refl _ _) (Nat.le_refl _) (by simp; omega) (by decide) ?_; intro v3 w3 hown3 hb3) | (at_builtin; refine append_all rfl (.tmp 54) (.tmp 55) 22 rfl Try.underlying22 hi hz0 hz1 hz2 rfl (pre := [] ++ hd) (zs := V.riseA l) rfl rfl (S2.below hb3) hown3 hb3 hb3.size (by simp; omega) (by decide) ?_; intro v4 w4 hown4 hb4) | (at_builtin; refine append_all rfl (.tmp 56) (.tmp 57) 22 rfl Try.underlying22 hi hz0 hz1 hz2 rfl (pre := [] ++ hd ++ V.riseA l) (zs := tl) rfl rfl (ST2.below hb4) hown4 hb4 hb4.size (by simp; omega) (by decide) ?_; intro v5 w5 hown5 hb5))
    have S5 := Sl.owned hown5
    simp only [List.nil_append] at S5
    have B5 := below_trans' B2 hb5
    have SL5 := SL2.below hb5
    have byt5 : V.Byt (hd ++ V.riseA l ++ tl) := (bh.app (V.riseA_byt l)).app bt
    clear hown3 hb3 hown4 hb4 hown5 hb5 B2 S2 SH2 ST2 SL2
    obtain ⟨a5, c5, e5, l5, m5, n5, o5⟩ := S5.open
    obtain ⟨b5, f5, rfl, -, -⟩ := o5 (by simp; omega)
    subst e5
    clear o5 n5
    refine (read_any _ (hd ++ V.riseA l ++ tl) _ _ S5 byt5).mono ?_
    intro e w6 hre
    rw [read_around (unhide HRS)] at hre
    obtain ⟨v6, rfl, S6, hb6⟩ := own_any hre
    have B6 := below_trans' B5 hb6
    have SL6 := SL5.below hb6
    have T6 := S5.below hb6
    clear hre hb6 B5 SL5 S5
    go_wp2_with fail
    refine (ints_b _ _ _ _ _ S6 SL6 true (by simp)).mono ?_
    rintro e w7 ⟨rfl, hb7⟩
    have B7 := below_trans' B6 hb7
    have T7 := T6.below hb7
    clear hb7 B6 T6 S6 SL6
    by_cases hc0 : cut < 0
    · go_wp2
      go_ret
      exact ⟨rfl, B7⟩
    · by_cases hc1 : ((V.riseA l).length : Int) ≤ cut
      · go_wp2
        go_ret
        exact ⟨rfl, B7⟩
      · obtain ⟨c, rfl⟩ := Int.eq_ofNat_of_zero_le (show 0 ≤ cut by omega)
        have hc2 : c < (V.riseA l).length := by omega
        have T8 := T7.take (hd.length + c) (by simp; omega)
        have HC := hide (read_cut (hd := hd) (tl := tl) (unhide HRS) hc2)
        have hcap : hd.length + c ≤ c5 := by simp at l5; omega
        have hcap0 : ¬ c5 = 0 := by simp at l5; omega
        clear hc0 hc1 hcut T7
        go_wp2_with fail
        refine (read_any _ ((hd ++ V.riseA l ++ tl).take (hd.length + c)) _ _ T8 (byt5.take _)).mono ?_
        intro e w8 hre
        rw [unhide HC] at hre
        obtain ⟨v8, rfl, -, hb8⟩ := own_any hre
        have B8 := below_trans' B7 hb8
        go_wp2
        go_ret
        exact ⟨rfl, B8⟩
end Go.Proofs.Ytfhgcofbomcfoaa
