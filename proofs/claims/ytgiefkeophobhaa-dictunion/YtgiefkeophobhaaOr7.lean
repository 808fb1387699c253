/-
  The contract of Or, the program's (the next word is come to by a goto).
-/
import Derived.Test.YtgiefkeophobhaaLBase7
import Derived.Test.YtgiefkeophobhaaUnpack7
namespace Go.Proofs.Ytgiefkeophobhaa
open Go.RowKit

theorem all_take {ls : List (List ByteArray)} {k : Nat} {l : List ByteArray} (h : ls[k]? = some l) (h1 : (ls.take k).all D.may = true) (h2 : D.may l = true) : (ls.take (k + 1)).all D.may = true := by
  obtain ⟨hk, rfl⟩ := List.getElem?_eq_some_iff.1 h
  rw [List.take_succ_eq_append_getElem hk, List.all_append, h1]
  simp [h2]

set_option maxRecDepth 100000 in
set_option maxHeartbeats 8000000 in
theorem or_any (v : Value) (ls : List (List ByteArray)) (w : World) (h : Ll w v ls) (hll : ls.length ≤ 1000) (zr : List ByteArray) (hr : D.orR ls = zr) :
    Calls Try.prog 19 #[v] w fun e w' => ∃ v', e = .returned v' ∧ w'.ownsRow w.heap.size 9 1 v' zr.length (zr.map Value.string) ∧ Below w.heap.size w w' := by
  obtain ⟨i9, hi9, hz90, hz91, hz92⟩ := info_parts Try.infoS
  obtain ⟨a, cap, hv, hl, hm, ho⟩ := h.at
  unfold D.orR at hr
  cases hall : ls.all D.may with
  | false =>
    have hz : zr = [] := by rw [← hr, hall, if_neg (by simp)]
    subst hz
    have HA := hide hall
    clear hr hall
    subst hv
    go_enter Try.func19, Try.ntmps19
    go_wp2
    go_step3
    go_wp2
    go_loop [11] (fun iv => ∃ k : Nat, k ≤ ls.length ∧ iv = .int .i64 k ∧ Hid ((ls.take k).all D.may = true)) (fun iv => ls.length - (intOf iv).toNat)
    case atStart => exact ⟨0, Nat.zero_le _, rfl, rfl⟩
    case round =>
      obtain ⟨k, hk, rfl, HK⟩ := hrel
      by_cases hlt : k < ls.length
      · obtain ⟨b, off, rfl, hb, hc⟩ := ho (by omega)
        obtain ⟨l, hx⟩ : ∃ l, ls[k]? = some l := ⟨ls[k], List.getElem?_eq_getElem hlt⟩
        obtain ⟨x, c, c1, G1⟩ := hc k l hx
        have HX := hide hx
        clear hx hc ho
        cases hmy : D.may l with
        | false =>
          have HM := hide hmy
          clear hmy
          go_wp2_with fail
          refine (may_any _ l _ G1 _ (unhide HM)).mono ?_
          rintro e w1 ⟨rfl, rfl⟩
          go_wp2
          try rw [Exit.noGoto_ret]
          go_ret
          exact ⟨_, rfl, World.ownsRow_nil _ _ _ _, Below.refl _ _⟩
        | true =>
          have HM := hide hmy
          clear hmy
          go_wp2_with fail
          refine (may_any _ l _ G1 _ (unhide HM)).mono ?_
          rintro e w1 ⟨rfl, rfl⟩
          go_wp2
          go_round
          case rel => exact ⟨k + 1, by omega, by go_num, all_take (unhide HX) (unhide HK) (unhide HM)⟩
          case measure => simp [intOf]; omega
      · exfalso
        have e := unhide HK
        rw [List.take_of_length_le (by omega), unhide HA] at e
        cases e
  | true =>
    rw [hall] at hr
    have hra : ∀ l ∈ ls, D.Rise l := fun l hl => D.may_rise (List.all_eq_true.1 hall l hl)
    have HR := hide hr
    have HRA := hide hra
    have HA := hide hall
    clear hr hra hall
    subst hv
    go_enter Try.func19, Try.ntmps19
    go_wp2
    refine wp_jumps 0 (fun a' w' => ∃ (m : Nat) (us : List (Option Addr × Nat × Nat)) (qs : List (List ByteArray)) (out : List ByteArray) (la : Option Addr) (lc : Nat) (lv : Value) (u1 u2 u3 u4 u7 u8 u9 u10 u11 u12 u13 u14 u15 u16 u17 u18 u19 u20 u21 u22 u23 u24 u25 u26 u27 u28 u29 u30 u31 u32 u33 u34 u35 u36 u37 u38 : Value),
        a' = { tmps := #[.slice a ls.length cap, u1, u2, u3, u4, lv, .slice la m lc, u7, u8, u9, u10, u11, u12, u13, u14, u15, u16, u17, u18, u19, u20, u21, u22, u23, u24, u25, u26, u27, u28, u29, u30, u31, u32, u33, u34, u35, u36, u37, u38], defers := [] } ∧
        m = out.length ∧ out.length ≤ 200 ∧ w'.ownsRow w.heap.size 9 1 (.slice la m lc) out.length (out.map Value.string) ∧ w'.ownsRow w.heap.size 22 1 lv us.length (us.map sv) ∧ As w us qs ∧ (∀ l ∈ qs, D.Rise l) ∧ Below w.heap.size w w' ∧ Hid (out ++ D.un qs = D.un ls))
      (fun a' _ => 200 - sliceLen (a'.tmps.getD 6 undef)) rfl ?_ ?_
    · rintro a' w' ⟨m, us, qs, out, la, lc, lv, u1, u2, u3, u4, u7, u8, u9, u10, u11, u12, u13, u14, u15, u16, u17, u18, u19, u20, u21, u22, u23, u24, u25, u26, u27, u28, u29, u30, u31, u32, u33, u34, u35, u36, u37, u38, rfl, rfl, hol, hown, hownL, has, hri, hbel, HK⟩
      have H1 : Ll w' lv qs := ⟨us, Gl.owned hownL, has.below hbel⟩
      have HRI := hide hri
      have HAS := hide has
      clear hri has
      obtain ⟨o, hlo⟩ : ∃ o, D.least qs = o := ⟨_, rfl⟩
      cases o with
      | none =>
        have HE : Hid (zr = out) := by
          show _ = _
          have e := unhide HK
          rw [D.un_end hlo, List.append_nil] at e
          rw [← unhide HR, ← e, if_pos ⟨by trivial, hol⟩]
        have HL := hide hlo
        clear hlo HK HR
        go_wp2_with fail
        refine (least_any _ qs _ H1 none (unhide HL)).mono ?_
        rintro e w2 ⟨rfl, rfl⟩
        simp only [D.lv, Option.isSome_none]
        go_wp2
        simp only [Exit.jump]
        go_ret
        exact ⟨_, rfl, by rw [unhide HE]; exact hown, hbel⟩
      | some x =>
        have hun := D.un_next (unhide HRI) hlo
        have hk2 := unhide HK
        rw [hun] at hk2
        have HL := hide hlo
        clear hlo hun HK
        by_cases h2 : out.length = 200
        · have HE : Hid (zr = []) := by
            show _ = _
            rw [← unhide HR, ← hk2, if_neg]
            rintro ⟨-, e⟩
            simp at e
            omega
          obtain ⟨m, hm2⟩ : ∃ m, out.length = m := ⟨_, rfl⟩
          have hg : ((m : Int) == 200) = true := by simp; omega
          rw [hm2] at hown ⊢
          clear hk2 HR h2 hol hm2
          go_wp2_with fail
          refine (least_any _ qs _ H1 (some x) (unhide HL)).mono ?_
          rintro e w2 ⟨rfl, rfl⟩
          simp only [D.lv, Option.isSome_some]
          go_wp2
          simp only [Exit.jump]
          go_ret
          exact ⟨_, rfl, by rw [unhide HE]; exact World.ownsRow_nil _ _ _ _, hbel⟩
        · have hg : ((out.length : Int) == 200) = false := by simp; omega
          have HK2 := hide hk2
          have hpr := D.pass_rise (w := x) (unhide HRI)
          have HPR := hide hpr
          clear hk2 hpr
          go_wp2_with fail
          refine (least_any _ qs _ H1 (some x) (unhide HL)).mono ?_
          rintro e w2 ⟨rfl, rfl⟩
          simp only [D.lv, Option.isSome_some]
          clear H1 HL
          go_wp2_with (first
            | (at_builtin; refine append_oneK (f := Value.string) rfl _ _ 22 rfl Try.underlying22 hi9 hz90 hz91 hz92 rfl (fun _ => rfl) (pre := out) rfl rfl hown hbel (Nat.le_refl _) hbel.size (by omega) (by decide) ?_; intro v5 w5 O5 B5 K5 S5; have L5 := own_other hown hownL (by decide) K5; obtain ⟨a5, c5, rfl, -⟩ := id (Gl.owned O5))
            | (go_at_call 30; refine (pass_any lv us qs x w _ L5 (unhide HAS) B5).mono ?_; rintro e w6 ⟨rfl, us6, hl6, O6, A6, B6, K6⟩; have OO6 := K6 _ _ _ _ (by decide) O5))
          go_step3
          refine ⟨rfl, ⟨out.length + 1, us6, D.pass x qs, out ++ [x], a5, c5, lv, _, _, _, _, _, _, _, _, _, _, _, _, _, _, _, _, _, _, _, _, _, _, _, _, _, _, _, _, _, _, _, _, _, _, _, _, rfl, by simp, by simp; omega, by rw [show out.length + 1 = (out ++ [x]).length by simp]; exact OO6, O6, A6, unhide HPR, B6, by show _ = _; rw [← unhide HK2]; simp⟩, ?_⟩
          simp [sliceLen]
          omega
    · intro hrest
      go_wp2
      go_loop [11] (fun iv => ∃ k : Nat, k ≤ ls.length ∧ iv = .int .i64 k) (fun iv => ls.length - (intOf iv).toNat)
      case atStart => exact ⟨0, Nat.zero_le _, rfl⟩
      case round =>
        obtain ⟨k, hk, rfl⟩ := hrel
        by_cases hlt : k < ls.length
        · obtain ⟨b, off, rfl, hb, hc⟩ := ho (by omega)
          obtain ⟨l, hx⟩ : ∃ l, ls[k]? = some l := ⟨ls[k], List.getElem?_eq_getElem hlt⟩
          obtain ⟨x, c, c1, G1⟩ := hc k l hx
          have HM : Hid (D.may l = true) := List.all_eq_true.1 (unhide HA) l (List.mem_of_getElem? hx)
          clear hx hc ho
          go_wp2_with fail
          refine (may_any _ l _ G1 _ (unhide HM)).mono ?_
          rintro e w1 ⟨rfl, rfl⟩
          go_wp2
          go_round
          case rel => exact ⟨k + 1, by omega, by go_num⟩
          case measure => simp [intOf]; omega
        · obtain ⟨us, hus, has⟩ := h
          have hul := has.1
          clear ho
          go_wp2_with fail
          refine (cloneL_any _ us _ hus (by omega)).mono ?_
          rintro e w2 ⟨v2, rfl, O2, B2⟩
          go_wp2
          go_step3
          rename_i hK
          refine hK _ _ (hrest _ _ ?_)
          exact ⟨0, us, ls, [], none, 0, v2, _, _, _, _, _, _, _, _, _, _, _, _, _, _, _, _, _, _, _, _, _, _, _, _, _, _, _, _, _, _, _, _, _, _, _, _, rfl, rfl, Nat.zero_le _, World.ownsRow_nil _ _ _ _, O2, has, unhide HRA, B2, rfl⟩
end Go.Proofs.Ytgiefkeophobhaa
