/-
  The contract of the document's own Add: words with one more, in its place.
-/
import Derived.Test.YtonhehhmnobciaaPlain7
import Derived.Test.YtonhehhmnobciaaBase8
namespace Go.Proofs.Ytonhehhmnobciaa
set_option maxRecDepth 100000
open Go.RowKit

/-- The row that came in, or one of the call's own. -/
def OldOwn (w w' : World) (v v' : Value) (l : List ByteArray) : Prop := v' = v ∨ w'.ownsRow w.heap.size 9 1 v' l.length (l.map Value.string)

set_option maxHeartbeats 4000000 in
theorem radd_own (v : Value) (l : List ByteArray) (t : ByteArray) (w : World) (h : Gl .string w v l) (hz : ∀ x ∈ l, x.size ≤ maxLen) (hri : D.Rise l) (hll : l.length ≤ 1000000) (zr : List ByteArray) (hr : D.add l t = zr) :
    Calls Try.prog 35 #[v, .string t] w fun e w' => ∃ v', e = .returned v' ∧ Gl .string w' v' zr ∧ Below w.heap.size w w' ∧ OldOwn w w' v v' zr := by
  obtain ⟨i9, hi9, hz90, hz91, hz92⟩ := info_parts Try.infoS
  obtain ⟨a, cap, hv, hl, hm, hna, ho⟩ := h.open
  have HRI := hide hri
  have HR := hide hr
  clear hri hr
  subst hv
  go_enter Try.func35, Try.ntmps35
  go_wp2
  go_loopw [5, 6] (fun ov iv wr => ∃ (k : Nat) (out : List ByteArray), k ≤ l.length ∧ out.length = k ∧ iv = .int .i64 k ∧ wr.ownsRow w.heap.size 9 1 ov out.length (out.map Value.string) ∧ Below w.heap.size w wr ∧ Hid (out = l.take k) ∧ Hid (∀ j g, j < k → l[j]? = some g → K.lt g t = true)) (fun _ iv _ => l.length - (intOf iv).toNat)
  case atStart => exact ⟨0, [], Nat.zero_le _, rfl, rfl, World.ownsRow_nil _ _ _ _, Below.refl _ _, rfl, fun j g hj => by omega⟩
  case round =>
    obtain ⟨k, out, hk, hok, rfl, hown, hbel, HO, HK⟩ := hrel
    have HOK := hide hok
    have hol : out.length ≤ 1000000 := by omega
    clear hok
    by_cases hlt : k < l.length
    · obtain ⟨b, off, rfl, hb, hc⟩ := ho (by omega)
      obtain ⟨x, hx⟩ : ∃ x, l[k]? = some x := ⟨l[k], List.getElem?_eq_getElem hlt⟩
      have c0 := hc k x hx
      have c1 := (hbel.cell (p := ⟨b, off + k, none⟩) hb).trans c0
      have hxz := hz x (List.mem_of_getElem? hx)
      have HX := hide hx
      clear hx hc ho
      cases hxt : K.lt x t with
      | true =>
        have HB := hide hxt
        clear hxt
        go_wp2_with fail
        refine (below_b _ _ _ hxz _ (unhide HB)).mono ?_
        rintro e w2 ⟨rfl, n2, hw2⟩
        have B2 : Below wr.heap.size wr w2 := by rw [hw2]; exact below_dr (Below.refl _ _) n2
        have BB2 := below_trans' hbel B2
        have O2 := own_below hown B2
        have c2 := (BB2.cell (p := ⟨b, off + k, none⟩) hb).trans c0
        clear hw2 B2 hown hbel c1
        go_wp2_with (at_builtin; refine append_oneG (f := Value.string) rfl _ _ 23 rfl Try.underlying23 hi9 hz90 hz91 hz92 rfl (fun _ => rfl) (pre := out) rfl rfl O2 BB2 BB2.size (by omega) (by decide) ?_; intro v5 w5 O5 B5)
        go_roundw
        case rel =>
          refine ⟨k + 1, out ++ [x], by omega, by have := unhide HOK; simp; omega, by go_num, O5, B5, ?_, fun j g hj hg => ?_⟩
          · show _ = _
            obtain ⟨hk', e⟩ := List.getElem?_eq_some_iff.1 (unhide HX)
            rw [List.take_succ_eq_append_getElem hk', unhide HO, e]
          · by_cases e : j = k
            · subst e
              rw [unhide HX] at hg
              cases hg
              exact unhide HB
            · exact unhide HK j g (by omega) hg
        case measure => simp [intOf]; omega
      | false =>
        have hbl : D.bel l t = k := D.add_at (unhide HRI) hk (unhide HK) (fun g hg => by rw [unhide HX] at hg; cases hg; exact hxt)
        have hzz := unhide HR
        unfold D.add at hzz
        rw [hbl, unhide HX] at hzz
        have HB := hide hxt
        have hq := @K.eq_to x t
        clear hxt hbl HR
        by_cases hxe : x = t
        · rw [if_pos (by rw [hxe])] at hzz
          have hb1 : (x.toList == t.toList) = true := by rw [hq]; simpa using hxe
          have HZ := hide hzz
          clear hzz hxe hq
          go_wp2_with fail
          refine (below_b _ _ _ hxz _ (unhide HB)).mono ?_
          rintro e w2 ⟨rfl, n2, hw2⟩
          have B2 : Below wr.heap.size wr w2 := by rw [hw2]; exact below_dr (Below.refl _ _) n2
          have BB2 := below_trans' hbel B2
          have c2 := (BB2.cell (p := ⟨b, off + k, none⟩) hb).trans c0
          have G2 := h.below BB2
          clear hw2 B2 c1
          go_wp2
          go_ret
          exact ⟨_, rfl, by rw [← unhide HZ]; exact G2, BB2, .inl rfl⟩
        · rw [if_neg (by simpa using hxe)] at hzz
          have hb1 : (x.toList == t.toList) = false := by rw [hq]; simpa using hxe
          have HZ := hide hzz
          have hsl := run_st_from (some ⟨b, off, none⟩) l.length cap k (by omega)
          have hcut := h.cut k l.length (by omega) (by omega)
          rw [drop_take_all7] at hcut
          obtain ⟨cv, hcv⟩ : ∃ cv, sliced (some ⟨b, off, none⟩) k l.length cap 1 = cv := ⟨_, rfl⟩
          simp only [hcv] at hsl
          rw [hcv] at hcut
          clear hzz hxe hq hcv
          go_wp2_with fail
          refine (below_b _ _ _ hxz _ (unhide HB)).mono ?_
          rintro e w2 ⟨rfl, n2, hw2⟩
          have B2 : Below wr.heap.size wr w2 := by rw [hw2]; exact below_dr (Below.refl _ _) n2
          have BB2 := below_trans' hbel B2
          have O2 := own_below hown B2
          have c2 := (BB2.cell (p := ⟨b, off + k, none⟩) hb).trans c0
          clear hw2 B2 c1 hown hbel
          go_wp2_with (first
            | (at_builtin; refine append_oneG (f := Value.string) rfl (.tmp 41) (.tmp 43) 23 rfl Try.underlying23 hi9 hz90 hz91 hz92 rfl (fun _ => rfl) (pre := out) rfl rfl O2 BB2 BB2.size (by omega) (by decide) ?_; intro v5 w5 O5 B5; have S5 := hcut.below B5)
            | (at_builtin; refine append_allG (f := Value.string) rfl (.tmp 45) (.tmp 48) 23 rfl Try.underlying23 hi9 hz90 hz91 hz92 rfl (fun _ => rfl) (pre := out ++ [t]) (zs := l.drop k) rfl rfl S5 O5 B5 B5.size (by simp; omega) (by decide) ?_; intro v6 w6 O6 B6))
          go_ret
          refine ⟨_, rfl, ?_, B6, .inr ?_⟩
          · rw [← unhide HZ, show l.take k ++ t :: l.drop k = out ++ [t] ++ l.drop k by rw [unhide HO]; simp]
            exact Gl.owned O6
          · rw [← unhide HZ, show l.take k ++ t :: l.drop k = out ++ [t] ++ l.drop k by rw [unhide HO]; simp]
            exact O6
    · have hke : l[k]? = none := List.getElem?_eq_none (by omega)
      have hbl : D.bel l t = k := D.add_at (unhide HRI) hk (unhide HK) (fun g hg => by rw [hke] at hg; cases hg)
      have hzz := unhide HR
      unfold D.add at hzz
      rw [hbl, hke, if_neg (by simp)] at hzz
      have HZ := hide hzz
      have hsl := run_st_from a l.length cap k (by omega)
      have hcut := h.cut k l.length (by omega) (by omega)
      rw [drop_take_all7] at hcut
      obtain ⟨cv, hcv⟩ : ∃ cv, sliced a k l.length cap 1 = cv := ⟨_, rfl⟩
      simp only [hcv] at hsl
      rw [hcv] at hcut
      clear hzz hke hbl HR hcv ho
      go_wp2_with (first
        | (at_builtin; refine append_oneG (f := Value.string) rfl (.tmp 41) (.tmp 43) 23 rfl Try.underlying23 hi9 hz90 hz91 hz92 rfl (fun _ => rfl) (pre := out) rfl rfl hown hbel hbel.size (by omega) (by decide) ?_; intro v5 w5 O5 B5; have S5 := hcut.below B5)
        | (at_builtin; refine append_allG (f := Value.string) rfl (.tmp 45) (.tmp 48) 23 rfl Try.underlying23 hi9 hz90 hz91 hz92 rfl (fun _ => rfl) (pre := out ++ [t]) (zs := l.drop k) rfl rfl S5 O5 B5 B5.size (by simp; omega) (by decide) ?_; intro v6 w6 O6 B6))
      go_ret
      refine ⟨_, rfl, ?_, B6, .inr ?_⟩
      · rw [← unhide HZ, show l.take k ++ t :: l.drop k = out ++ [t] ++ l.drop k by rw [unhide HO]; simp]
        exact Gl.owned O6
      · rw [← unhide HZ, show l.take k ++ t :: l.drop k = out ++ [t] ++ l.drop k by rw [unhide HO]; simp]
        exact O6

theorem radd_any (v : Value) (l : List ByteArray) (t : ByteArray) (w : World) (h : Gl .string w v l) (hz : ∀ x ∈ l, x.size ≤ maxLen) (hri : D.Rise l) (hll : l.length ≤ 1000000) (zr : List ByteArray) (hr : D.add l t = zr) :
    Calls Try.prog 35 #[v, .string t] w fun e w' => ∃ v', e = .returned v' ∧ Gl .string w' v' zr ∧ Below w.heap.size w w' :=
  (radd_own v l t w h hz hri hll zr hr).mono fun _ _ ⟨v', h1, h2, h3, _⟩ => ⟨v', h1, h2, h3⟩
end Go.Proofs.Ytonhehhmnobciaa
