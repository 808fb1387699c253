/-
  The words of a text, sign by sign: what the program's own loop over signs comes to. No program is named here.
-/
import Derived.Test.YtpmbgbahoinelaaDec5
import Derived.Test.YtpmbgbahoinelaaWords5
namespace Go.Proofs.Ytpmbgbahoinelaa
namespace T

/-- The small letter of a great one, of signs. -/
def lows (x : Int) : Int := if 65 ≤ x ∧ x ≤ 90 then x + 32 else x

/-- The words that have ended. -/
def wdone : List UInt8 → List UInt8 → List (List UInt8)
  | [], _ => []
  | b :: l, w => if letter b.toNat = true then wdone l (w ++ [low b]) else if w = [] then wdone l [] else w :: wdone l []

theorem wdone_blank : ∀ (a w : List UInt8), wdone (a ++ [32]) w = wgo a w
  | [], w => by
    have : letter (32 : UInt8).toNat = false := by decide
    simp only [List.nil_append, wdone, wgo, this]
    by_cases h : w = [] <;> simp [h]
  | c :: a, w => by
    simp only [List.cons_append, wdone, wgo]
    rw [wdone_blank a, wdone_blank a]

theorem wdone_run : ∀ (u r w : List UInt8), (∀ b ∈ u, 128 ≤ b.toNat) → wdone (u ++ r) w = wdone r (w ++ u)
  | [], r, w, _ => by simp
  | b :: u, r, w, h => by
    have hb := h b (by simp)
    simp only [List.cons_append, wdone, letter_high hb, low_high hb, if_true]
    rw [wdone_run u r _ (fun c hc => h c (by simp [hc]))]
    simp

/-- The bytes of a sign's small one. -/
def enc (x : Int) : List UInt8 := (Utf8.encode x).data.toList

theorem sign_ne {l : List UInt8} (hl : l ≠ []) (h : valid l = true) : sign l ≠ 0 ∧ valid (l.drop (sign l)) = true := by
  rw [valid_sign l hl] at h
  simpa using h

theorem wdone_letter {l : List UInt8} (w : List UInt8) (hl : l ≠ []) (h : valid l = true) (hc : letter (dec l).1 = true) :
    wdone l w = wdone (l.drop (sign l)) (w ++ enc (lows ((dec l).1 : Int))) := by
  by_cases ha : byt l 0 < 128
  · obtain ⟨h1, h2⟩ := dec_ascii ha
    rw [h1] at hc ⊢
    rw [h2]
    match l, hl with
    | b :: r, _ =>
      have hb : byt (b :: r) 0 = b.toNat := rfl
      rw [hb] at ha hc ⊢
      simp only at hc ⊢
      have e1 : enc (lows (b.toNat : Int)) = [low b] := by
        have e2 : lows (b.toNat : Int) = ((low b).toNat : Int) := by
          rw [low_toNat]
          unfold lows
          (repeat' split) <;> omega
        have e3 : (low b).toNat < 128 := by
          rw [low_toNat]
          split <;> omega
        unfold enc
        rw [e2, enc_ascii _ e3]
        simp
      rw [e1]
      simp [wdone, hc]
  · obtain ⟨h1, h2, h3⟩ := dec_enc (sign_ne hl h).1 ha
    have e1 : lows ((dec l).1 : Int) = ((dec l).1 : Int) := by unfold lows; rw [if_neg (by omega)]
    unfold enc
    rw [e1, h2]
    conv => lhs; rw [← List.take_append_drop (sign l) l]
    exact wdone_run _ _ _ h3

theorem wdone_non {l : List UInt8} (w : List UInt8) (hl : l ≠ []) (h : valid l = true) (hc : letter (dec l).1 = false) :
    wdone l w = if w = [] then wdone (l.drop (sign l)) [] else w :: wdone (l.drop (sign l)) [] := by
  by_cases ha : byt l 0 < 128
  · obtain ⟨h1, h2⟩ := dec_ascii ha
    rw [h1] at hc
    rw [h2]
    match l, hl with
    | b :: r, _ =>
      have hb : byt (b :: r) 0 = b.toNat := rfl
      rw [hb] at hc
      simp only at hc
      simp [wdone, hc]
  · obtain ⟨h1, _, _⟩ := dec_enc (sign_ne hl h).1 ha
    rw [letter_high h1] at hc
    cases hc

/-- The bytes of runes. -/
def rb (rs : List Int) : List UInt8 := (runesBytes rs).data.toList
theorem rb_nil : rb [] = [] := rfl
theorem rb_snoc (rs : List Int) (x : Int) : rb (rs ++ [x]) = rb rs ++ enc x := by
  unfold rb enc runesBytes
  rw [List.foldl_append]
  simp [ByteArray.data_append]
theorem enc_ne (x : Int) : enc x ≠ [] := by
  unfold enc Utf8.encode
  simp only
  (repeat' split) <;> simp
theorem rb_ne {rs : List Int} (h : rs ≠ []) : rb rs ≠ [] := by
  rw [← List.dropLast_concat_getLast h, rb_snoc]
  intro e
  exact enc_ne _ (List.append_eq_nil_iff.1 e).2
end T
end Go.Proofs.Ytpmbgbahoinelaa
