/-
  The contract of the document's own Words: byte by byte.
-/
import Derived.Test.YtpmbgbahoinelaaTWords5
import Derived.Test.YtpmbgbahoinelaaRValid5
namespace Go.Proofs.Ytpmbgbahoinelaa
open Go.RowKit

theorem drop_at {s : ByteArray} {j : Nat} (h : j < s.size) : ∃ b : UInt8, (T.bs s).drop j = b :: (T.bs s).drop (j + 1) ∧ T.byt (T.bs s) j = b.toNat := by
  have hl : j < (T.bs s).length := by rw [bs_len]; exact h
  refine ⟨(T.bs s)[j], List.drop_eq_getElem_cons hl, ?_⟩
  unfold T.byt
  simp [List.getD, hl]

theorem wgo_step {l r : List UInt8} {b : UInt8} (w : List UInt8) (h : l = b :: r) (hb : T.letter b.toNat = true) : T.wgo l w = T.wgo r (w ++ [T.low b]) := by
  rw [h]
  simp [T.wgo, hb]
theorem wgo_stop {l r : List UInt8} {b : UInt8} {w : List UInt8} (h : l = b :: r) (hb : T.letter b.toNat = false) (hw : w ≠ []) : T.wgo l w = w :: T.wgo l [] := by
  rw [h]
  simp [T.wgo, hb, hw]
theorem wgo_skip {l r : List UInt8} {b : UInt8} (h : l = b :: r) (hb : T.letter b.toNat = false) : T.wgo l [] = T.wgo r [] := by
  rw [h]
  simp [T.wgo, hb]
theorem wgo_end {l w : List UInt8} (h : l = []) (hw : w ≠ []) : T.wgo l w = w :: T.wgo l [] := by
  rw [h]
  simp [T.wgo, hw]

theorem long_snoc (ws : List ByteArray) (x : ByteArray) : T.long (ws ++ [x]) = (T.long ws || decide (32 < x.size)) := by
  unfold T.long
  rw [List.any_append]
  simp

/-- 'string([]byte{c})'. -/
theorem Try.conv_one (w : World) (c : Int) : (convert 36 9 (.slice (some ⟨w.heap.size, 0, none⟩) 1 1)).run Try.prog (w.alloc (.cells #[.int .u8 c] 5)) = .ok (.string ⟨#[UInt8.ofNat c.toNat]⟩) (w.alloc (.cells #[.int .u8 c] 5)) := by
  rw [run_convert_bytes_string _ 36 9 5 _ _ _ Try.underlying36 Try.underlying5 Try.underlying9]
  rw [run_bytesToString _ _ 1 1 [c]]
  · rfl
  · have := run_loadCells_list (P := Try.prog) (w.alloc (.cells #[.int .u8 c] 5)) ⟨w.heap.size, 0, none⟩ [.int .u8 c] (fun j v hj => by
      match j, hj with
      | 0, hj => simp at hj; subst hj; simp [Addr.add])
    simpa using this

set_option maxRecDepth 1000000 in
set_option maxHeartbeats 4000000 in
theorem rwords_own (s : ByteArray) (w : World) (m : List ByteArray) (n : Int) (hr : T.wordsR s = (m, n)) :
    Calls Try.prog 12 #[.string s] w fun e w' => ∃ v, e = .returned (.tuple #[v, .int .i64 n]) ∧ w'.ownsRow w.heap.size 9 1 v m.length (m.map Value.string) ∧ Below w.heap.size w w' := by
  unfold T.wordsR at hr
  by_cases h1 : 240 < s.size
  · rw [if_pos h1] at hr
    cases hr
    have g : (240 : Int) < (s.size : Int) := by omega
    go_enter Try.func12, Try.ntmps12
    go_wp2
    go_ret2
    exact ⟨_, rfl, World.ownsRow_nil _ _ _ _, Below.refl _ _⟩
  rw [if_neg h1] at hr
  have g : ¬ (240 : Int) < (s.size : Int) := by omega
  by_cases h2 : T.valid (T.bs s) = false
  · rw [if_pos h2] at hr
    cases hr
    have H2 := hide h2
    clear h2
    go_enter Try.func12, Try.ntmps12
    go_wp2_with fail
    refine (rvalid_any s _ (by omega) false (unhide H2)).mono ?_
    rintro e w1 ⟨rfl, B1⟩
    go_wp2
    go_ret2
    exact ⟨_, rfl, World.ownsRow_nil _ _ _ _, B1⟩
  rw [if_neg h2] at hr
  have h2 : T.valid (T.bs s) = true := by simpa using h2
  have H2 := hide h2
  have HR := hide hr
  clear h2 hr
  obtain ⟨i9, hi9, hz90, hz91, hz92⟩ := info_parts Try.info9
  go_enter Try.func12, Try.ntmps12
  go_wp2_with fail
  refine (rvalid_any s _ (by omega) true (unhide H2)).mono ?_
  rintro e w1 ⟨rfl, B1⟩
  clear H2
  go_wp2
  go_loopw [5, 6, 7] (fun vo vl vi wr => ∃ (k : Nat) (out : List ByteArray) (lg : Bool), k ≤ s.size ∧ vi = .int .i64 k ∧ vl = .bool lg ∧ wr.ownsRow w.heap.size 9 1 vo out.length (out.map Value.string) ∧ Below w.heap.size w wr ∧ out.length ≤ k ∧ Hid (T.long out = lg) ∧ Hid (out.map T.bs ++ T.wgo ((T.bs s).drop k) [] = T.wgo (T.bs s) [])) (fun _ _ vi _ => s.size - (intOf vi).toNat)
  case atStart => exact ⟨0, [], false, Nat.zero_le _, rfl, rfl, World.ownsRow_nil _ _ _ _, B1, Nat.le_refl _, rfl, rfl⟩
  case round =>
    obtain ⟨k, out, lg, hk, rfl, rfl, ho, hbw, hol, HL, HW⟩ := hrel
    clear B1
    rename World => w0
    by_cases hlt : k < s.size
    · go_wp2
      go_loopw [7, 8] (fun vi vs w2 => ∃ (j : Nat) (W : ByteArray), k ≤ j ∧ j ≤ s.size ∧ vi = .int .i64 j ∧ vs = .string W ∧ Below w0.heap.size w0 w2 ∧ W.size = j - k ∧ Hid (T.wgo ((T.bs s).drop k) [] = T.wgo ((T.bs s).drop j) (T.bs W))) (fun vi _ _ => s.size - (intOf vi).toNat)
      case atStart => exact ⟨k, ⟨#[]⟩, Nat.le_refl _, by omega, rfl, rfl, Below.refl _ _, by simp; rfl, rfl⟩
      case round =>
        obtain ⟨j, W, hkj, hjs, rfl, rfl, hb2, hWz, HJ⟩ := hrel
        have ho2 := own_below ho hb2
        have hbw2 := below_trans' hbw hb2
        by_cases hj : j < s.size
        · obtain ⟨b, hdb, hbb⟩ := drop_at hj
          have hix : ∀ w : World, (Instr.index 9 (.string s) (.int .i64 (j : Int))).run Try.prog w = .ok (.int .u8 (b.toNat : Int)) w := fun w => Try.index_string s j hj w _ rfl _ hbb
          have hb8 : b.toNat < 256 := b.toNat_lt
          cases hlt2 : T.letter b.toNat with
          | true =>
            have HT := hide hlt2
            obtain ⟨c, hc⟩ : ∃ c : Int, ((T.low b).toNat : Int) = c := ⟨_, rfl⟩
            have hcv : (convert 36 9 (.slice (some ⟨wr.heap.size, 0, none⟩) 1 1)).run Try.prog (wr.alloc (.cells #[.int .u8 c] 5)) = .ok (.string ⟨#[T.low b]⟩) (wr.alloc (.cells #[.int .u8 c] 5)) := by
              rw [Try.conv_one wr c, ← hc]
              simp
            have HJ2 : Hid (T.wgo ((T.bs s).drop k) [] = T.wgo ((T.bs s).drop (j + 1)) (T.bs (W ++ ⟨#[T.low b]⟩))) := by
              show _ = _
              rw [unhide HJ, wgo_step _ hdb hlt2, bs_append]
              rfl
            have hWz2 : (W ++ ⟨#[T.low b]⟩ : ByteArray).size = j + 1 - k := by
              rw [ByteArray.size_append, hWz]
              show j - k + 1 = _
              omega
            obtain ⟨x, hx⟩ : ∃ x, T.low b = x := ⟨_, rfl⟩
            rw [hx] at hcv HJ2 hWz2
            have hadd : ∀ w : World, (Op.stringOp .add W ⟨#[x]⟩).run Try.prog w = .ok (.string (W ++ ⟨#[x]⟩)) w := fun w => run_string_add_sum w W ⟨#[x]⟩ (by show W.size + 1 ≤ _; omega)
            obtain ⟨V, hV⟩ : ∃ V, W ++ ⟨#[x]⟩ = V := ⟨_, rfl⟩
            rw [hV] at HJ2 hWz2
            simp only [hV] at hadd
            obtain ⟨bn, hbn⟩ : ∃ bn, b.toNat = bn := ⟨_, rfl⟩
            have hlo := T.low_toNat b
            rw [hbn] at hix hb8 HT hlo
            have hlo2 : c = if 65 ≤ bn ∧ bn ≤ 90 then (bn : Int) + 32 else (bn : Int) := by
              rw [← hc, hlo]
              split <;> simp
            clear hdb hbb hlt2 hc hx hV hbn hlo HJ
            go_wp2_with fail
            refine (rletter_any bn _ true (unhide HT)).mono ?_
            rintro e w3 ⟨rfl, rfl⟩
            by_cases hcap : 65 ≤ bn ∧ bn ≤ 90
            · rw [if_pos hcap] at hlo2
              have g1 : (65 : Int) ≤ (bn : Int) := by omega
              have g2 : (bn : Int) ≤ 90 := by omega
              have hc9 : (bn : Int) - 65 + 97 = c := by omega
              rw [← hc9] at hcv
              clear hlo2 hc9 hcap
              go_wp2
              go_roundw
              case rel => exact ⟨j + 1, V, by omega, by omega, by go_num, rfl, below_all hb2 _, by omega, unhide HJ2⟩
              case measure => simp [intOf]; omega
            · rw [if_neg hcap] at hlo2
              subst hlo2
              by_cases g1 : (65 : Int) ≤ (bn : Int)
              · have g2 : ¬ (bn : Int) ≤ 90 := by omega
                go_wp2
                go_roundw
                case rel => exact ⟨j + 1, V, by omega, by omega, by go_num, rfl, below_all hb2 _, by omega, unhide HJ2⟩
                case measure => simp [intOf]; omega
              · go_wp2
                go_roundw
                case rel => exact ⟨j + 1, V, by omega, by omega, by go_num, rfl, below_all hb2 _, by omega, unhide HJ2⟩
                case measure => simp [intOf]; omega
          | false =>
            have HT := hide hlt2
            by_cases hbW : T.bs W = []
            · have HX : Hid (T.wgo ((T.bs s).drop k) [] = T.wgo ((T.bs s).drop (j + 1)) []) := by
                show _ = _
                rw [unhide HJ, hbW]
                exact wgo_skip hdb hlt2
              have hWe : W = ⟨#[]⟩ := bs_inj hbW
              subst hWe
              have hjk : j = k := by
                have : (⟨#[]⟩ : ByteArray).size = 0 := rfl
                omega
              subst hjk
              have HW2 : Hid (out.map T.bs ++ T.wgo ((T.bs s).drop (j + 1)) [] = T.wgo (T.bs s) []) := by
                show _ = _
                rw [← unhide HX]
                exact unhide HW
              clear hdb hbb hlt2 hbW HJ HX HW
              go_wp2_with fail
              refine (rletter_any b.toNat _ false (unhide HT)).mono ?_
              rintro e w4 ⟨rfl, rfl⟩
              go_wp2
              go_roundw
              case rel => exact ⟨j + 1, out, lg, by omega, by go_num, rfl, ho2, hbw2, by omega, unhide HL, unhide HW2⟩
              case measure => simp [intOf]; omega
            · have hWz0 : 0 < W.size := by
                rcases Nat.eq_zero_or_pos W.size with h | h
                · exact absurd (List.eq_nil_of_length_eq_zero (by rw [bs_len]; exact h)) hbW
                · exact h
              have HS : Hid (T.wgo ((T.bs s).drop k) [] = T.bs W :: T.wgo ((T.bs s).drop j) []) := by
                show _ = _
                rw [unhide HJ]
                exact wgo_stop hdb hlt2 hbW
              have hne : (W.toList == []) = false := by
                rw [beq_eq_false_iff_ne, ByteArray.toList_eq]
                exact hbW
              have HW2 : Hid ((out ++ [W]).map T.bs ++ T.wgo ((T.bs s).drop j) [] = T.wgo (T.bs s) []) := by
                show _ = _
                rw [← unhide HW, unhide HS]
                simp
              obtain ⟨lg2, hlg⟩ : ∃ lg2, T.long (out ++ [W]) = lg2 := ⟨_, rfl⟩
              have hlg0 := hlg
              rw [long_snoc, unhide HL] at hlg0
              have HL2 := hide hlg
              have HL0 := hide hlg0
              have hkj2 : k + 1 ≤ j := by omega
              clear hdb hbb hlt2 hbW HJ HS HW hlg hlg0
              cases lg with
              | true =>
                have hl2 : lg2 = true := by rw [← unhide HL0]; rfl
                subst hl2
                go_wp2_with fail
                refine (rletter_any b.toNat _ false (unhide HT)).mono ?_
                rintro e w4 ⟨rfl, rfl⟩
                go_wp2_with (at_builtin; refine append_oneG (f := Value.string) rfl _ _ 23 rfl Try.underlying23 hi9 hz90 hz91 hz92 rfl (fun _ => rfl) (pre := out) rfl rfl ho2 hbw2 hbw2.size (by omega) (by decide) ?_; intro v3 w3 hown3 hbw3)
                go_roundw
                case rel => exact ⟨j, out ++ [W], true, by omega, rfl, rfl, hown3, hbw3, by simp; omega, unhide HL2, unhide HW2⟩
                case measure => simp [intOf]; omega
              | false =>
                by_cases h32 : (32 : Int) < (W.size : Int)
                · have hl2 : lg2 = true := by rw [← unhide HL0]; simp; omega
                  subst hl2
                  go_wp2_with fail
                  refine (rletter_any b.toNat _ false (unhide HT)).mono ?_
                  rintro e w4 ⟨rfl, rfl⟩
                  go_wp2_with (at_builtin; refine append_oneG (f := Value.string) rfl _ _ 23 rfl Try.underlying23 hi9 hz90 hz91 hz92 rfl (fun _ => rfl) (pre := out) rfl rfl ho2 hbw2 hbw2.size (by omega) (by decide) ?_; intro v3 w3 hown3 hbw3)
                  go_roundw
                  case rel => exact ⟨j, out ++ [W], true, by omega, rfl, by simp; omega, hown3, hbw3, by simp; omega, unhide HL2, unhide HW2⟩
                  case measure => simp [intOf]; omega
                · have hl2 : lg2 = false := by rw [← unhide HL0]; simp; omega
                  subst hl2
                  go_wp2_with fail
                  refine (rletter_any b.toNat _ false (unhide HT)).mono ?_
                  rintro e w4 ⟨rfl, rfl⟩
                  go_wp2_with (at_builtin; refine append_oneG (f := Value.string) rfl _ _ 23 rfl Try.underlying23 hi9 hz90 hz91 hz92 rfl (fun _ => rfl) (pre := out) rfl rfl ho2 hbw2 hbw2.size (by omega) (by decide) ?_; intro v3 w3 hown3 hbw3)
                  go_roundw
                  case rel => exact ⟨j, out ++ [W], false, by omega, rfl, by simp; omega, hown3, hbw3, by simp; omega, unhide HL2, unhide HW2⟩
                  case measure => simp [intOf]; omega
        · have hbW : T.bs W ≠ [] := by
            intro e
            have : W.size = 0 := by rw [← bs_len, e]; rfl
            omega
          have HS : Hid (T.wgo ((T.bs s).drop k) [] = T.bs W :: T.wgo ((T.bs s).drop j) []) := by
            show _ = _
            rw [unhide HJ]
            exact wgo_end (drop_end hj) hbW
          have hne : (W.toList == []) = false := by
            rw [beq_eq_false_iff_ne, ByteArray.toList_eq]
            exact hbW
          have HW2 : Hid ((out ++ [W]).map T.bs ++ T.wgo ((T.bs s).drop j) [] = T.wgo (T.bs s) []) := by
            show _ = _
            rw [← unhide HW, unhide HS]
            simp
          obtain ⟨lg2, hlg⟩ : ∃ lg2, T.long (out ++ [W]) = lg2 := ⟨_, rfl⟩
          have hlg0 := hlg
          rw [long_snoc, unhide HL] at hlg0
          have HL2 := hide hlg
          have HL0 := hide hlg0
          have hkj2 : k + 1 ≤ j := by omega
          clear hbW HJ HS HW hlg hlg0
          cases lg with
          | true =>
            have hl2 : lg2 = true := by rw [← unhide HL0]; rfl
            subst hl2
            go_wp2_with (at_builtin; refine append_oneG (f := Value.string) rfl _ _ 23 rfl Try.underlying23 hi9 hz90 hz91 hz92 rfl (fun _ => rfl) (pre := out) rfl rfl ho2 hbw2 hbw2.size (by omega) (by decide) ?_; intro v3 w3 hown3 hbw3)
            go_roundw
            case rel => exact ⟨j, out ++ [W], true, by omega, rfl, rfl, hown3, hbw3, by simp; omega, unhide HL2, unhide HW2⟩
            case measure => simp [intOf]; omega
          | false =>
            by_cases h32 : (32 : Int) < (W.size : Int)
            · have hl2 : lg2 = true := by rw [← unhide HL0]; simp; omega
              subst hl2
              go_wp2_with (at_builtin; refine append_oneG (f := Value.string) rfl _ _ 23 rfl Try.underlying23 hi9 hz90 hz91 hz92 rfl (fun _ => rfl) (pre := out) rfl rfl ho2 hbw2 hbw2.size (by omega) (by decide) ?_; intro v3 w3 hown3 hbw3)
              go_roundw
              case rel => exact ⟨j, out ++ [W], true, by omega, rfl, by simp; omega, hown3, hbw3, by simp; omega, unhide HL2, unhide HW2⟩
              case measure => simp [intOf]; omega
            · have hl2 : lg2 = false := by rw [← unhide HL0]; simp; omega
              subst hl2
              go_wp2_with (at_builtin; refine append_oneG (f := Value.string) rfl _ _ 23 rfl Try.underlying23 hi9 hz90 hz91 hz92 rfl (fun _ => rfl) (pre := out) rfl rfl ho2 hbw2 hbw2.size (by omega) (by decide) ?_; intro v3 w3 hown3 hbw3)
              go_roundw
              case rel => exact ⟨j, out ++ [W], false, by omega, rfl, by simp; omega, hown3, hbw3, by simp; omega, unhide HL2, unhide HW2⟩
              case measure => simp [intOf]; omega
    · have hwd : out = T.words s := by
        apply words_of
        have := unhide HW
        rw [drop_end hlt] at this
        simpa [T.wgo] using this
      subst hwd
      have hr := unhide HR
      rw [unhide HL] at hr
      clear HR HW
      cases lg with
      | true =>
        cases hr
        go_wp2
        go_ret2
        exact ⟨_, rfl, World.ownsRow_nil _ _ _ _, hbw⟩
      | false =>
        cases hr
        obtain ⟨oa, oc, rfl, -⟩ := id (Gl.owned ho)
        go_wp2
        go_ret2
        exact ⟨_, rfl, ho, hbw⟩

theorem rwords_any (s : ByteArray) (w : World) (m : List ByteArray) (n : Int) (hr : T.wordsR s = (m, n)) :
    Calls Try.prog 12 #[.string s] w fun e w' => ∃ v, e = .returned (.tuple #[v, .int .i64 n]) ∧ Gl .string w' v m ∧ Below w.heap.size w w' :=
  (rwords_own s w m n hr).mono fun _ _ ⟨v, h1, h2, h3⟩ => ⟨v, h1, Gl.owned h2, h3⟩
end Go.Proofs.Ytpmbgbahoinelaa
