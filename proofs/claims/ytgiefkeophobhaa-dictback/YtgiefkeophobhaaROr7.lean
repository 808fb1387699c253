/-
  The contract of the document's own Or.
-/
import Derived.Test.YtgiefkeophobhaaRAdd7
import Derived.Test.YtgiefkeophobhaaOr7
namespace Go.Proofs.Ytgiefkeophobhaa
open Go.RowKit

theorem adds_take {o l : List ByteArray} {k : Nat} {x : ByteArray} (h : l[k]? = some x) : D.adds o (l.take (k + 1)) = D.add (D.adds o (l.take k)) x := by
  obtain ⟨hk, rfl⟩ := List.getElem?_eq_some_iff.1 h
  unfold D.adds
  rw [List.take_succ_eq_append_getElem hk, List.foldl_append]
  rfl
theorem uns_take {ls : List (List ByteArray)} {k : Nat} {l : List ByteArray} (h : ls[k]? = some l) : D.un (ls.take (k + 1)) = D.adds (D.un (ls.take k)) l := by
  obtain ⟨hk, rfl⟩ := List.getElem?_eq_some_iff.1 h
  unfold D.un
  rw [List.take_succ_eq_append_getElem hk, List.foldl_append]
  rfl

set_option maxHeartbeats 4000000 in
theorem ror_any (v : Value) (ls : List (List ByteArray)) (w : World) (h : Ll w v ls) (hl4 : ls.length ≤ 4) (hfw : ∀ l ∈ ls, D.few l = true) (zr : List ByteArray) (hr : D.orR ls = zr) :
    Calls Try.prog 20 #[v] w fun e w' => ∃ v', e = .returned v' ∧ Gl .string w' v' zr ∧ Below w.heap.size w w' := by
  obtain ⟨a, cap, rfl, hl, hm, ho⟩ := h.at
  clear h
  unfold D.orR at hr
  have HR := hide hr
  clear hr
  go_enter Try.func20, Try.ntmps20
  go_wp2
  go_loopw [3, 4] (fun ov iv wr => ∃ (i : Nat) (o : List ByteArray), i ≤ ls.length ∧ o.length ≤ 210 * i ∧ iv = .int .i64 i ∧ Gl .string wr ov o ∧ (∀ x ∈ o, x.size ≤ maxLen) ∧ Below w.heap.size w wr ∧ Hid (o = D.un (ls.take i)) ∧ Hid ((ls.take i).all D.may = true)) (fun _ iv _ => ls.length - (intOf iv).toNat)
  case atStart => exact ⟨0, [], Nat.zero_le _, Nat.le_refl _, rfl, Gl.nil _ _, (fun x hx => by cases hx), Below.refl _ _, rfl, rfl⟩
  case round =>
    obtain ⟨i, o, hi, hol, rfl, hg, hoz, hbel, HO, HA⟩ := hrel
    by_cases hlt : i < ls.length
    · obtain ⟨b, off, rfl, hb, hc⟩ := ho (by omega)
      obtain ⟨l, hx⟩ : ∃ l, ls[i]? = some l := ⟨ls[i], List.getElem?_eq_getElem hlt⟩
      obtain ⟨x, c, c0, G0⟩ := hc i l hx
      have hfl := hfw l (List.mem_of_getElem? hx)
      have hlz : ∀ x ∈ l, x.size ≤ maxLen := fun x hx => by have := D.few_size hfl x hx; unfold maxLen; omega
      have hl210 := D.few_len hfl
      have c1 := (hbel.cell (p := ⟨b, off + i, none⟩) hb).trans c0
      have G1 := G0.below hbel
      have HX := hide hx
      clear hx hc ho hfl
      cases hmy : D.may l with
      | false =>
        have HZ : Hid (zr = []) := by
          show _ = _
          rw [← unhide HR, if_neg]
          rintro ⟨e, -⟩
          have := List.all_eq_true.1 e l (List.mem_of_getElem? (unhide HX))
          rw [hmy] at this
          cases this
        have HM := hide hmy
        clear hmy
        go_wp2_with fail
        refine (rmay_any _ l _ G1 hlz _ (unhide HM)).mono ?_
        rintro e w1 ⟨rfl, B1⟩
        have BB1 := below_trans' hbel B1
        go_wp2
        go_ret
        exact ⟨_, rfl, by rw [unhide HZ]; exact Gl.nil _ _, BB1⟩
      | true =>
        have HM := hide hmy
        have HA2 := hide (all_take (unhide HX) (unhide HA) hmy)
        clear hmy HA
        go_wp2_with fail
        refine (rmay_any _ l _ G1 hlz _ (unhide HM)).mono ?_
        rintro e w1 ⟨rfl, B1⟩
        have BB1 := below_trans' hbel B1
        have hg1 := hg.below B1
        clear hg hbel B1 c1 G1
        go_wp2
        go_loopw [3, 6] (fun ov kv w2 => ∃ (k : Nat) (q : List ByteArray), k ≤ l.length ∧ q.length ≤ 210 * i + k ∧ kv = .int .i64 k ∧ Gl .string w2 ov q ∧ (∀ x ∈ q, x.size ≤ maxLen) ∧ Below w.heap.size w w2 ∧ Hid (q = D.adds o (l.take k))) (fun _ kv _ => l.length - (intOf kv).toNat)
        case atStart => exact ⟨0, o, Nat.zero_le _, hol, rfl, hg1, hoz, BB1, rfl⟩
        case round =>
          obtain ⟨k, q, hk, hql, rfl, hgq, hqz, hbq, HQ⟩ := hrel
          have d1 := (hbq.cell (p := ⟨b, off + i, none⟩) hb).trans c0
          have Gq := G0.below hbq
          by_cases hkl : k < l.length
          · obtain ⟨x', c', hv', -, -, -, ho2⟩ := Gq.open
            simp only [Value.slice.injEq, true_and] at hv'
            obtain ⟨rfl, rfl⟩ := hv'
            obtain ⟨b2, off2, rfl, hb2, hc2⟩ := ho2 (by omega)
            obtain ⟨y, hy⟩ : ∃ y, l[k]? = some y := ⟨l[k], List.getElem?_eq_getElem hkl⟩
            have d2 := hc2 k y hy
            have hyz := hlz y (List.mem_of_getElem? hy)
            have hst := adds_take (o := o) hy
            rw [← unhide HQ] at hst
            have hri : D.Rise q := by rw [unhide HQ, unhide HO]; exact D.adds_rise (D.un_rise _)
            obtain ⟨z, hzq⟩ : ∃ z, D.add q y = z := ⟨_, rfl⟩
            have hzl := D.add_len q y
            have hzz : ∀ x ∈ z, x.size ≤ maxLen := fun x hx => by
              rw [← hzq] at hx
              rcases D.mem_add.1 hx with rfl | hx
              · exact hyz
              · exact hqz x hx
            rw [hzq] at hst hzl
            have HZ := hide hzq
            have HS := hide hst
            have HRI := hide hri
            clear hst hzq hri hy hc2 ho2 Gq
            go_wp2_with fail
            refine (radd_any _ q y _ hgq hqz (unhide HRI) (by omega) z (unhide HZ)).mono ?_
            rintro e w3 ⟨v3, rfl, G3, B3⟩
            have BB3 := below_trans' hbq B3
            clear hgq hbq B3 d1 d2
            go_wp2
            go_roundw
            case rel => exact ⟨k + 1, z, by omega, by omega, by go_num, G3, hzz, BB3, (unhide HS).symm⟩
            case measure => simp [intOf]; omega
          · have HE : Hid (q = D.un (ls.take (i + 1))) := by
              show _ = _
              rw [uns_take (unhide HX), ← unhide HO, unhide HQ, List.take_of_length_le (by omega)]
            clear Gq
            go_wp2
            go_roundw
            case rel => exact ⟨i + 1, q, by omega, by omega, by go_num, hgq, hqz, hbq, unhide HE, unhide HA2⟩
            case measure => simp [intOf]; omega
    · have hun : o = D.un ls := by
        have := unhide HO
        rwa [List.take_of_length_le (by omega)] at this
      have hal : ls.all D.may = true := by
        have := unhide HA
        rwa [List.take_of_length_le (by omega)] at this
      have hzr := unhide HR
      rw [← hun, hal] at hzr
      clear hun hal HO HA HR ho
      obtain ⟨oa, oc, hov, -⟩ := id hg
      subst hov
      by_cases h2 : o.length ≤ 200
      · rw [if_pos ⟨rfl, h2⟩] at hzr
        subst hzr
        have g2 : ¬ (200 : Int) < (o.length : Int) := by omega
        go_wp2
        go_ret
        exact ⟨_, rfl, hg, hbel⟩
      · rw [if_neg (fun h => h2 h.2)] at hzr
        subst hzr
        have g2 : (200 : Int) < (o.length : Int) := by omega
        go_wp2
        go_ret
        exact ⟨_, rfl, Gl.nil _ _, hbel⟩
end Go.Proofs.Ytgiefkeophobhaa
