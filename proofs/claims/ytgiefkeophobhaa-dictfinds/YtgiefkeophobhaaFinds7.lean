/-
  DictFinds' walk.
-/
import Derived.Test.YtgiefkeophobhaaAwake7
namespace Go.Proofs.Ytgiefkeophobhaa
open Go.RowKit

theorem find_yes {l : List ByteArray} {t : ByteArray} {k : Nat} (hm : D.may l = true) (hk : D.bel l t = k) (h : l[k]? = some t) : D.findR l t = (k : Int) := by
  unfold D.findR
  rw [hk, if_pos ⟨hm, h⟩]
theorem find_no {l : List ByteArray} {t : ByteArray} {k : Nat} (hk : D.bel l t = k) (h : ¬ l[k]? = some t) : D.findR l t = -1 := by
  unfold D.findR
  rw [hk, if_neg (fun e => h e.2)]
theorem bel_ge {l : List ByteArray} {t y : ByteArray} {k : Nat} (hm : D.may l = true) (hk : D.bel l t = k) (h : l[k]? = some y) : K.lt y t = false :=
  (D.bel_cut (D.may_rise hm) t).2 k y (by omega) h
theorem bel_lt {l : List ByteArray} {t z : ByteArray} {j : Nat} (hm : D.may l = true) (hk : D.bel l t = j + 1) (h : l[j]? = some z) : K.lt z t = true :=
  (D.bel_cut (D.may_rise hm) t).1 j z (by omega) h

set_option maxHeartbeats 8000000 in
theorem dictFinds_walk (v : Value) (l : List ByteArray) (i : Int) (t : ByteArray) (w : World) (h : Gl .string w v l) :
    Calls Try.prog 8 #[v, .int .i64 i, .string t] w fun e w' => e = .returned (.bool true) ∧ Below w.heap.size w w' := by
  obtain ⟨a, c, hv, -, hm1, -⟩ := h.open
  subst hv
  obtain ⟨f, hf⟩ : ∃ f, D.few l = f := ⟨_, rfl⟩
  obtain ⟨m, hmy⟩ : ∃ m, D.may l = m := ⟨_, rfl⟩
  have HF := hide hf
  have HM := hide hmy
  clear hf hmy
  go_enter Try.func8, Try.ntmps8
  go_wp2_with fail
  refine (awake_any _).mono ?_
  rintro e w1 ⟨rfl, B1⟩
  have G1 := h.below B1
  clear h
  go_wp2_with fail
  refine (few_any _ l _ G1 f (unhide HF)).mono ?_
  rintro e w2 ⟨rfl, rfl⟩
  cases f with
  | false =>
    go_wp2
    go_ret
    exact ⟨rfl, B1⟩
  | true =>
  go_wp2_with fail
  refine (may_any _ l _ G1 m (unhide HM)).mono ?_
  rintro e w2 ⟨rfl, rfl⟩
  cases m with
  | false =>
    go_wp2
    go_ret
    exact ⟨rfl, B1⟩
  | true =>
  by_cases h4 : (40 : Int) < (t.size : Int)
  · go_wp2
    go_ret
    exact ⟨rfl, B1⟩
  obtain ⟨kb, hk⟩ : ∃ kb, D.bel l t = kb := ⟨_, rfl⟩
  have hkl0 := D.bel_le l t
  have hl210 := D.few_len (unhide HF)
  rw [hk] at hkl0
  have HK := hide hk
  have HB : Hid (D.belR l t = (kb : Int)) := by
    show _ = _
    unfold D.belR
    rw [if_pos (unhide HM), hk]
  have gneg : ¬ (kb : Int) < 0 := by omega
  have gbig : ¬ (l.length : Int) < (kb : Int) := by omega
  clear hk
  obtain ⟨a', c', hv', -, -, -, ho⟩ := G1.open
  simp only [Value.slice.injEq, true_and] at hv'
  obtain ⟨rfl, rfl⟩ := hv'
  by_cases hi0 : 0 ≤ i
  · by_cases hil : i < (l.length : Int)
    · obtain ⟨n, rfl⟩ := Int.eq_ofNat_of_zero_le hi0
      obtain ⟨bi, offi, rfl, hbi, hci⟩ := ho (by omega)
      obtain ⟨x, hx⟩ : ∃ x, l[n]? = some x := ⟨l[n]'(by omega), List.getElem?_eq_getElem _⟩
      have ci := hci n x hx
      have hbx := D.bel_self (D.may_rise (unhide HM)) hx
      have H1 : Hid (D.findR l x = (n : Int)) := find_yes (unhide HM) hbx hx
      have H2 : Hid (D.belR l x = (n : Int)) := by
        show _ = _
        unfold D.belR
        rw [if_pos (unhide HM), hbx]
      have gnn : ((n : Int) != (n : Int)) = false := by simp
      clear hx hbx hci
      go_wp2_with fail
      refine (find_any _ l x _ G1 _ (unhide H1)).mono ?_
      rintro e w3 ⟨rfl, rfl⟩
      go_wp2_with fail
      refine (bel_any _ l x _ G1 _ (unhide H2)).mono ?_
      rintro e w4 ⟨rfl, rfl⟩
      clear H1 H2 ci
      go_wp2_with fail
      refine (bel_any _ l t _ G1 _ (unhide HB)).mono ?_
      rintro e w5 ⟨rfl, rfl⟩
      by_cases hkl : kb < l.length
      · have g1 : (kb : Int) < (l.length : Int) := by omega
        obtain ⟨b, off, hab, hb, hc⟩ := ho (by omega)
        cases hab
        obtain ⟨y, hy⟩ : ∃ y, l[kb]? = some y := ⟨l[kb], List.getElem?_eq_getElem hkl⟩
        have c1 := hc kb y hy
        have hq := @K.eq_to y t
        by_cases hyt : y = t
        · have hb1 : (y.toList == t.toList) = true := by rw [hq]; simpa using hyt
          have HP : Hid (D.findR l t = (kb : Int)) := find_yes (unhide HM) (unhide HK) (by rw [hy, hyt])
          have gk : ((kb : Int) == (kb : Int)) = true := by simp
          clear hyt hq hy hc ho
          go_wp2_with fail
          refine (find_any _ l t _ G1 _ (unhide HP)).mono ?_
          rintro e w6 ⟨rfl, rfl⟩
          go_wp2
          go_ret
          exact ⟨rfl, B1⟩
        · have hb1 : (y.toList == t.toList) = false := by rw [hq]; simpa using hyt
          have HP : Hid (D.findR l t = -1) := find_no (unhide HK) (by rw [hy]; simpa using hyt)
          have hgt : Op.bytesLess y.toList t.toList = false := bel_ge (unhide HM) (unhide HK) hy
          have gn : ((kb : Int) == (l.length : Int)) = false := by simp; omega
          clear hyt hq
          rcases Nat.eq_zero_or_pos kb with hk0 | hk0
          · have g0 : ((kb : Int) == 0) = true := by simp; omega
            clear hk0 hy hc ho
            go_wp2_with fail
            refine (find_any _ l t _ G1 (-1) (unhide HP)).mono ?_
            rintro e w6 ⟨rfl, rfl⟩
            go_wp2
            go_ret
            exact ⟨rfl, B1⟩
          · obtain ⟨j, rfl⟩ : ∃ j, kb = j + 1 := ⟨kb - 1, by omega⟩
            have hwr : wrap64 (j : Int) = (j : Int) := by unfold wrap64; omega
            have g0 : (((j + 1 : Nat) : Int) == 0) = false := by simp; omega
            have g0' : ((j : Int) + 1 == 0) = false := by simp; omega
            obtain ⟨z, hz⟩ : ∃ z, l[j]? = some z := ⟨l[j], List.getElem?_eq_getElem (by omega)⟩
            have c2 := hc j z hz
            have hlt2 : Op.bytesLess z.toList t.toList = true := bel_lt (unhide HM) (unhide HK) hz
            clear hk0 hy hz hc ho
            go_wp2_with fail
            refine (find_any _ l t _ G1 (-1) (unhide HP)).mono ?_
            rintro e w6 ⟨rfl, rfl⟩
            go_wp2
            go_ret
            exact ⟨rfl, B1⟩
      · have g1 : ¬ (kb : Int) < (l.length : Int) := by omega
        have HP : Hid (D.findR l t = -1) := find_no (unhide HK) (by rw [List.getElem?_eq_none (by omega)]; simp)
        have gn : ((kb : Int) == (l.length : Int)) = true := by simp; omega
        rcases Nat.eq_zero_or_pos kb with hk0 | hk0
        · have g0 : ((kb : Int) == 0) = true := by simp; omega
          clear hk0 ho
          go_wp2_with fail
          refine (find_any _ l t _ G1 (-1) (unhide HP)).mono ?_
          rintro e w6 ⟨rfl, rfl⟩
          go_wp2
          go_ret
          exact ⟨rfl, B1⟩
        · obtain ⟨j, rfl⟩ : ∃ j, kb = j + 1 := ⟨kb - 1, by omega⟩
          have hwr : wrap64 (j : Int) = (j : Int) := by unfold wrap64; omega
          have g0 : (((j + 1 : Nat) : Int) == 0) = false := by simp; omega
          have g0' : ((j : Int) + 1 == 0) = false := by simp; omega
          obtain ⟨b, off, hab, hb, hc⟩ := ho (by omega)
          cases hab
          obtain ⟨z, hz⟩ : ∃ z, l[j]? = some z := ⟨l[j], List.getElem?_eq_getElem (by omega)⟩
          have c2 := hc j z hz
          have hlt2 : Op.bytesLess z.toList t.toList = true := bel_lt (unhide HM) (unhide HK) hz
          clear hk0 hz hc ho
          go_wp2_with fail
          refine (find_any _ l t _ G1 (-1) (unhide HP)).mono ?_
          rintro e w6 ⟨rfl, rfl⟩
          go_wp2
          go_ret
          exact ⟨rfl, B1⟩
    · have hil2 : ¬ i < (l.length : Int) := hil
      go_wp2_with fail
      refine (bel_any _ l t _ G1 _ (unhide HB)).mono ?_
      rintro e w5 ⟨rfl, rfl⟩
      by_cases hkl : kb < l.length
      · have g1 : (kb : Int) < (l.length : Int) := by omega
        obtain ⟨b, off, hab, hb, hc⟩ := ho (by omega)
        cases hab
        obtain ⟨y, hy⟩ : ∃ y, l[kb]? = some y := ⟨l[kb], List.getElem?_eq_getElem hkl⟩
        have c1 := hc kb y hy
        have hq := @K.eq_to y t
        by_cases hyt : y = t
        · have hb1 : (y.toList == t.toList) = true := by rw [hq]; simpa using hyt
          have HP : Hid (D.findR l t = (kb : Int)) := find_yes (unhide HM) (unhide HK) (by rw [hy, hyt])
          have gk : ((kb : Int) == (kb : Int)) = true := by simp
          clear hyt hq hy hc ho
          go_wp2_with fail
          refine (find_any _ l t _ G1 _ (unhide HP)).mono ?_
          rintro e w6 ⟨rfl, rfl⟩
          go_wp2
          go_ret
          exact ⟨rfl, B1⟩
        · have hb1 : (y.toList == t.toList) = false := by rw [hq]; simpa using hyt
          have HP : Hid (D.findR l t = -1) := find_no (unhide HK) (by rw [hy]; simpa using hyt)
          have hgt : Op.bytesLess y.toList t.toList = false := bel_ge (unhide HM) (unhide HK) hy
          have gn : ((kb : Int) == (l.length : Int)) = false := by simp; omega
          clear hyt hq
          rcases Nat.eq_zero_or_pos kb with hk0 | hk0
          · have g0 : ((kb : Int) == 0) = true := by simp; omega
            clear hk0 hy hc ho
            go_wp2_with fail
            refine (find_any _ l t _ G1 (-1) (unhide HP)).mono ?_
            rintro e w6 ⟨rfl, rfl⟩
            go_wp2
            go_ret
            exact ⟨rfl, B1⟩
          · obtain ⟨j, rfl⟩ : ∃ j, kb = j + 1 := ⟨kb - 1, by omega⟩
            have hwr : wrap64 (j : Int) = (j : Int) := by unfold wrap64; omega
            have g0 : (((j + 1 : Nat) : Int) == 0) = false := by simp; omega
            have g0' : ((j : Int) + 1 == 0) = false := by simp; omega
            obtain ⟨z, hz⟩ : ∃ z, l[j]? = some z := ⟨l[j], List.getElem?_eq_getElem (by omega)⟩
            have c2 := hc j z hz
            have hlt2 : Op.bytesLess z.toList t.toList = true := bel_lt (unhide HM) (unhide HK) hz
            clear hk0 hy hz hc ho
            go_wp2_with fail
            refine (find_any _ l t _ G1 (-1) (unhide HP)).mono ?_
            rintro e w6 ⟨rfl, rfl⟩
            go_wp2
            go_ret
            exact ⟨rfl, B1⟩
      · have g1 : ¬ (kb : Int) < (l.length : Int) := by omega
        have HP : Hid (D.findR l t = -1) := find_no (unhide HK) (by rw [List.getElem?_eq_none (by omega)]; simp)
        have gn : ((kb : Int) == (l.length : Int)) = true := by simp; omega
        rcases Nat.eq_zero_or_pos kb with hk0 | hk0
        · have g0 : ((kb : Int) == 0) = true := by simp; omega
          clear hk0 ho
          go_wp2_with fail
          refine (find_any _ l t _ G1 (-1) (unhide HP)).mono ?_
          rintro e w6 ⟨rfl, rfl⟩
          go_wp2
          go_ret
          exact ⟨rfl, B1⟩
        · obtain ⟨j, rfl⟩ : ∃ j, kb = j + 1 := ⟨kb - 1, by omega⟩
          have hwr : wrap64 (j : Int) = (j : Int) := by unfold wrap64; omega
          have g0 : (((j + 1 : Nat) : Int) == 0) = false := by simp; omega
          have g0' : ((j : Int) + 1 == 0) = false := by simp; omega
          obtain ⟨b, off, hab, hb, hc⟩ := ho (by omega)
          cases hab
          obtain ⟨z, hz⟩ : ∃ z, l[j]? = some z := ⟨l[j], List.getElem?_eq_getElem (by omega)⟩
          have c2 := hc j z hz
          have hlt2 : Op.bytesLess z.toList t.toList = true := bel_lt (unhide HM) (unhide HK) hz
          clear hk0 hz hc ho
          go_wp2_with fail
          refine (find_any _ l t _ G1 (-1) (unhide HP)).mono ?_
          rintro e w6 ⟨rfl, rfl⟩
          go_wp2
          go_ret
          exact ⟨rfl, B1⟩
  · have hi1 : ¬ 0 ≤ i := hi0
    go_wp2_with fail
    refine (bel_any _ l t _ G1 _ (unhide HB)).mono ?_
    rintro e w5 ⟨rfl, rfl⟩
    by_cases hkl : kb < l.length
    · have g1 : (kb : Int) < (l.length : Int) := by omega
      obtain ⟨b, off, hab, hb, hc⟩ := ho (by omega)
      cases hab
      obtain ⟨y, hy⟩ : ∃ y, l[kb]? = some y := ⟨l[kb], List.getElem?_eq_getElem hkl⟩
      have c1 := hc kb y hy
      have hq := @K.eq_to y t
      by_cases hyt : y = t
      · have hb1 : (y.toList == t.toList) = true := by rw [hq]; simpa using hyt
        have HP : Hid (D.findR l t = (kb : Int)) := find_yes (unhide HM) (unhide HK) (by rw [hy, hyt])
        have gk : ((kb : Int) == (kb : Int)) = true := by simp
        clear hyt hq hy hc ho
        go_wp2_with fail
        refine (find_any _ l t _ G1 _ (unhide HP)).mono ?_
        rintro e w6 ⟨rfl, rfl⟩
        go_wp2
        go_ret
        exact ⟨rfl, B1⟩
      · have hb1 : (y.toList == t.toList) = false := by rw [hq]; simpa using hyt
        have HP : Hid (D.findR l t = -1) := find_no (unhide HK) (by rw [hy]; simpa using hyt)
        have hgt : Op.bytesLess y.toList t.toList = false := bel_ge (unhide HM) (unhide HK) hy
        have gn : ((kb : Int) == (l.length : Int)) = false := by simp; omega
        clear hyt hq
        rcases Nat.eq_zero_or_pos kb with hk0 | hk0
        · have g0 : ((kb : Int) == 0) = true := by simp; omega
          clear hk0 hy hc ho
          go_wp2_with fail
          refine (find_any _ l t _ G1 (-1) (unhide HP)).mono ?_
          rintro e w6 ⟨rfl, rfl⟩
          go_wp2
          go_ret
          exact ⟨rfl, B1⟩
        · obtain ⟨j, rfl⟩ : ∃ j, kb = j + 1 := ⟨kb - 1, by omega⟩
          have hwr : wrap64 (j : Int) = (j : Int) := by unfold wrap64; omega
          have g0 : (((j + 1 : Nat) : Int) == 0) = false := by simp; omega
          have g0' : ((j : Int) + 1 == 0) = false := by simp; omega
          obtain ⟨z, hz⟩ : ∃ z, l[j]? = some z := ⟨l[j], List.getElem?_eq_getElem (by omega)⟩
          have c2 := hc j z hz
          have hlt2 : Op.bytesLess z.toList t.toList = true := bel_lt (unhide HM) (unhide HK) hz
          clear hk0 hy hz hc ho
          go_wp2_with fail
          refine (find_any _ l t _ G1 (-1) (unhide HP)).mono ?_
          rintro e w6 ⟨rfl, rfl⟩
          go_wp2
          go_ret
          exact ⟨rfl, B1⟩
    · have g1 : ¬ (kb : Int) < (l.length : Int) := by omega
      have HP : Hid (D.findR l t = -1) := find_no (unhide HK) (by rw [List.getElem?_eq_none (by omega)]; simp)
      have gn : ((kb : Int) == (l.length : Int)) = true := by simp; omega
      rcases Nat.eq_zero_or_pos kb with hk0 | hk0
      · have g0 : ((kb : Int) == 0) = true := by simp; omega
        clear hk0 ho
        go_wp2_with fail
        refine (find_any _ l t _ G1 (-1) (unhide HP)).mono ?_
        rintro e w6 ⟨rfl, rfl⟩
        go_wp2
        go_ret
        exact ⟨rfl, B1⟩
      · obtain ⟨j, rfl⟩ : ∃ j, kb = j + 1 := ⟨kb - 1, by omega⟩
        have hwr : wrap64 (j : Int) = (j : Int) := by unfold wrap64; omega
        have g0 : (((j + 1 : Nat) : Int) == 0) = false := by simp; omega
        have g0' : ((j : Int) + 1 == 0) = false := by simp; omega
        obtain ⟨b, off, hab, hb, hc⟩ := ho (by omega)
        cases hab
        obtain ⟨z, hz⟩ : ∃ z, l[j]? = some z := ⟨l[j], List.getElem?_eq_getElem (by omega)⟩
        have c2 := hc j z hz
        have hlt2 : Op.bytesLess z.toList t.toList = true := bel_lt (unhide HM) (unhide HK) hz
        clear hk0 hz hc ho
        go_wp2_with fail
        refine (find_any _ l t _ G1 (-1) (unhide HP)).mono ?_
        rintro e w6 ⟨rfl, rfl⟩
        go_wp2
        go_ret
        exact ⟨rfl, B1⟩
end Go.Proofs.Ytgiefkeophobhaa
