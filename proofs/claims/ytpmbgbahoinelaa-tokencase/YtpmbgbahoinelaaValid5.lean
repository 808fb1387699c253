/-
  The contract of Valid: is a text UTF-8? A range over a string, sign by sign.
-/
import Derived.Test.YtpmbgbahoinelaaSmall5
import Derived.Laws.RangeAny
namespace Go.Proofs.Ytpmbgbahoinelaa
open Go.RowKit

/-- The bytes of a text. -/
def T.bs (s : ByteArray) : List UInt8 := s.data.toList

theorem bs_len (s : ByteArray) : (T.bs s).length = s.size := by simp [T.bs]

theorem bs_extract (s : ByteArray) (i j : Nat) : T.bs (s.extract i j) = ((T.bs s).drop i).take (j - i) := by
  unfold T.bs
  rw [ByteArray.data_extract]
  simp

theorem bs_from (s : ByteArray) (i : Nat) : T.bs (s.extract i s.size) = (T.bs s).drop i := by
  rw [bs_extract, List.take_of_length_le (by rw [List.length_drop, bs_len]; omega)]

theorem pre_drop (s : ByteArray) (i : Nat) : T.pre (s.extract i s.size) = decide (((T.bs s).drop i).take 3 = T.fault) := by
  have h1 : (s.extract i s.size).size = ((T.bs s).drop i).length := by rw [← bs_len, bs_from]
  have h2 : ((s.extract i s.size).extract 0 3).toList = ((T.bs s).drop i).take 3 := by
    rw [ByteArray.toList_eq]
    show T.bs _ = _
    rw [bs_extract, bs_from]
    simp
  unfold T.pre
  rw [h1, h2]
  by_cases h : ((T.bs s).drop i).take 3 = T.fault
  · rw [h]
    have := (T.fault_byt h).1
    rw [show decide (3 ≤ ((T.bs s).drop i).length) = true by simp only [decide_eq_true_eq]; omega]
    rfl
  · rw [show decide (((T.bs s).drop i).take 3 = T.fault) = false by simp [h]]
    have : (((T.bs s).drop i).take 3 == [239, 191, 189]) = false := by
      rw [beq_eq_false_iff_ne]
      exact h
    rw [this, Bool.and_false]

/-- Whatever is decoded is one byte wide at the least. -/
theorem T.dec_width (l : List UInt8) : 1 ≤ (T.dec l).2 := by
  by_cases h : T.sign l = 0
  · rw [(T.dec_bad h).1]
    exact Nat.le_refl _
  · rw [(T.dec_good h).1]
    omega
theorem T.bs_decode (s : ByteArray) (i : Nat) : Utf8.decode s i = T.dec ((T.bs s).drop i) := T.decode_dec s i

theorem drop_ne {s : ByteArray} {pos : Nat} (h : pos < s.size) : (T.bs s).drop pos ≠ [] := by
  intro e
  have := congrArg List.length e
  simp [bs_len] at this
  omega

theorem drop_end {s : ByteArray} {pos : Nat} (h : ¬ pos < s.size) : (T.bs s).drop pos = [] := List.drop_of_length_le (by rw [bs_len]; omega)

set_option maxRecDepth 1000000 in
set_option maxHeartbeats 1000000 in
theorem valid_any (s : ByteArray) (w : World) (r : Bool) (hr : T.valid (T.bs s) = r) :
    Calls Try.prog 14 #[.string s] w fun e w' => e = .returned (.bool r) ∧ Below w.heap.size w w' := by
  have HR := hide hr
  clear hr
  go_enter Try.func14, Try.ntmps14
  go_wp2
  go_loopw [3] (fun _ w' => ∃ pos : Nat, w' = w.iter s pos ∧ pos ≤ s.size ∧ Hid (T.valid ((T.bs s).drop pos) = r)) (fun _ w' => s.size - w'.iterPos w.heap.size)
  case atStart => exact ⟨0, rfl, Nat.zero_le _, unhide HR⟩
  case round =>
    obtain ⟨pos, rfl, hps, HV⟩ := hrel
    by_cases hp : pos < s.size
    · obtain ⟨c, n, hd⟩ : ∃ c n, Utf8.decode s pos = (c, n) := ⟨_, _, rfl⟩
      have hnx : ∀ ty, (Instr.next (.pointer (some ⟨w.heap.size, 0, none⟩)) true ty).run Try.prog (w.iter s pos) = .ok (.tuple #[.bool true, .int .i64 pos, .int .i32 (c : Int)]) (w.iter s (pos + n)) := fun ty => by rw [run_next_any w s pos ty hp, hd]
      have hn1 : 1 ≤ n := by have := T.dec_width ((T.bs s).drop pos); rw [← T.bs_decode, hd] at this; exact this
      have hdec : T.dec ((T.bs s).drop pos) = (c, n) := by rw [← hd, T.decode_dec]; rfl
      have hpre := pre_drop s pos
      have hsg := T.valid_sign _ (drop_ne hp)
      by_cases hs : T.sign ((T.bs s).drop pos) = 0
      · obtain ⟨h1, h2⟩ := T.dec_bad hs
        rw [hdec] at h1
        simp only [Prod.mk.injEq] at h1
        obtain ⟨rfl, rfl⟩ := h1
        have hq : T.pre (s.extract pos s.size) = false := by rw [hpre]; simp [h2]
        have HQ := hide hq
        have HE : Hid (r = false) := by show _ = _; rw [← unhide HV, hsg, hs]; rfl
        clear hd hdec hpre hsg hs h2 hq
        go_wp2_with fail
        refine (prefix_any _ _ false (unhide HQ)).mono ?_
        rintro e w1 ⟨rfl, rfl⟩
        go_wp2
        go_ret
        exact ⟨by rw [unhide HE]; rfl, below_alloc w _⟩
      · obtain ⟨h1, h2⟩ := T.dec_good hs
        rw [hdec] at h1 h2
        simp only at h1 h2
        have hle := T.sign_le_len _ (drop_ne hp)
        rw [List.length_drop, bs_len] at hle
        have HV2 : Hid (T.valid ((T.bs s).drop (pos + n)) = r) := by
          show _ = _
          rw [← unhide HV, hsg, h1, List.drop_drop]
          simp [hs]
        have hpn : pos + n ≤ s.size := by omega
        by_cases hc : c = 65533
        · subst hc
          have hq : T.pre (s.extract pos s.size) = true := by rw [hpre]; simp [h2]
          have HQ := hide hq
          clear hd hdec hpre hsg hs h1 h2 hq hle
          go_wp2_with fail
          refine (prefix_any _ _ true (unhide HQ)).mono ?_
          rintro e w1 ⟨rfl, rfl⟩
          go_wp2
          go_roundw
          case rel => exact ⟨pos + n, rfl, hpn, unhide HV2⟩
          case measure =>
            simp
            omega
        · have hc2 : ((c : Int) == 65533) = false := by simp; omega
          clear hd hdec hpre hsg hs h1 h2 hle hc
          go_wp2
          go_roundw
          case rel => exact ⟨pos + n, rfl, hpn, unhide HV2⟩
          case measure =>
            simp
            omega
    · have hnx : ∀ ty, (Instr.next (.pointer (some ⟨w.heap.size, 0, none⟩)) true ty).run Try.prog (w.iter s pos) = _ := fun ty => run_next_end w s pos ty hp
      have HE : Hid (r = true) := by show _ = _; rw [← unhide HV, drop_end hp]; rfl
      go_wp2
      go_ret
      exact ⟨by rw [unhide HE]; rfl, below_alloc w _⟩
end Go.Proofs.Ytpmbgbahoinelaa
