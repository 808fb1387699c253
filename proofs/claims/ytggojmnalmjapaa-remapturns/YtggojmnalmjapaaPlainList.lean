/-
  The plain mathematics of rising lists: which rise, their bytes, and the list of bytes. No program is named here.
-/
import Derived.Test.YtggojmnalmjapaaPlain
namespace Go.Proofs.Ytggojmnalmjapaa.V

theorem getH_cut5 {n : Int} {j : Nat} (h0 : 0 ≤ n) (h : j < (put n).length) : getH 5 ((put n).take j) = none := getH_cut 4 n j h0 h

def risingB : Int → List Int → Bool
  | _, [] => true
  | m, x :: r => decide (m ≤ x ∧ x ≤ 34359738367) && risingB (x + 1) r

def rises (l : List Int) : Bool := decide (l.length ≤ 2000) && risingB 0 l

def deltas : Int → List Int → List Int
  | _, [] => []
  | m, x :: r => (x - m) :: deltas (x + 1) r

def nums (l : List Int) : List Int := (l.length : Int) :: deltas 0 l
def riseA (l : List Int) : List Int := if rises l then enc (nums l) else []
def riseE (l : List Int) : Int := if rises l then 0 else 1

theorem rising_cons {m x : Int} {r : List Int} (h : m ≤ x ∧ x ≤ 34359738367) : risingB m (x :: r) = risingB (x + 1) r := by simp [risingB, h]
theorem rising_not {m x : Int} {r : List Int} (h : ¬ (m ≤ x ∧ x ≤ 34359738367)) : risingB m (x :: r) = false := by simp only [risingB, h, decide_false, Bool.false_and]
theorem rising_head {m x : Int} {r : List Int} (h : risingB m (x :: r) = true) : (m ≤ x ∧ x ≤ 34359738367) ∧ risingB (x + 1) r = true := by simpa [risingB] using h

theorem deltas_len : ∀ (m : Int) (l : List Int), (deltas m l).length = l.length
  | _, [] => rfl
  | m, x :: r => by simp [deltas, deltas_len (x + 1) r]

theorem deltas_bd : ∀ (m : Int) (l : List Int), 0 ≤ m → risingB m l = true → ∀ n ∈ deltas m l, 0 ≤ n ∧ n ≤ 34359738367
  | _, [], _, _ => by simp [deltas]
  | m, x :: r, h0, h => by
    have ⟨h1, h2⟩ := rising_head h
    have ih := deltas_bd (x + 1) r (by omega) h2
    intro n hn
    rcases List.mem_cons.1 hn with e | e
    · omega
    · exact ih n e

theorem nums_bd {l : List Int} (h : rises l = true) : ∀ n ∈ nums l, 0 ≤ n ∧ n ≤ 34359738367 := by
  simp only [rises, Bool.and_eq_true, decide_eq_true_eq] at h
  intro n hn
  rcases List.mem_cons.1 hn with e | e
  · omega
  · exact deltas_bd 0 l (by omega) h.2 n e

theorem nums_len (l : List Int) : (nums l).length = l.length + 1 := by simp [nums, deltas_len]

theorem riseA_byt (l : List Int) : Byt (riseA l) := by
  unfold riseA
  split
  · rename_i h; exact enc_byt (nums_bd h)
  · intro c hc; simp at hc
theorem riseA_len {l : List Int} : (riseA l).length ≤ 5 * (l.length + 1) := by
  unfold riseA
  split
  · have := enc_len (nums l); rw [nums_len] at this; omega
  · simp

/-! ### Read -/

def readN : Nat → Int → List Int → Nat → Option (List Int × Nat)
  | 0, _, _, p => some ([], p)
  | c + 1, m, l, p =>
    match getH 5 (l.drop p) with
    | none => none
    | some (s, k) => if 34359738367 - m < s then none else
      match readN c (m + s + 1) l (p + k) with
      | none => none
      | some (r, q) => some ((m + s) :: r, q)

def readP (l : List Int) (p : Nat) : Option (List Int × Nat) :=
  match getH 5 (l.drop p) with
  | none => none
  | some (c, k) => if 2000 < c then none else readN c.toNat 0 l (p + k)

def read (l : List Int) (x : Int) : List Int × Int × Int :=
  if x < 0 ∨ (l.length : Int) < x then ([], 0, 1) else
  match readP l x.toNat with
  | none => ([], 0, 5)
  | some (r, q) => (r, (q : Int), 0)

def onto (pre : List Int) : Option (List Int × Nat) → Option (List Int × Nat)
  | none => none
  | some (r, q) => some (pre ++ r, q)

theorem onto_nil (x : Option (List Int × Nat)) : onto [] x = x := by cases x <;> rfl
theorem onto_none (pre : List Int) : onto pre none = none := rfl

theorem onto_step {pre : List Int} {c p k : Nat} {m s : Int} {l : List Int} (hg : getH 5 (l.drop p) = some (s, k)) (hs : ¬ 34359738367 - m < s) :
    onto pre (readN (c + 1) m l p) = onto (pre ++ [m + s]) (readN c (m + s + 1) l (p + k)) := by
  rw [readN, hg]
  simp only []
  rw [if_neg hs]
  cases readN c (m + s + 1) l (p + k) with
  | none => rfl
  | some x => simp [onto]

theorem onto_bad {pre : List Int} {c p : Nat} {m : Int} {l : List Int} (hg : getH 5 (l.drop p) = none) : onto pre (readN (c + 1) m l p) = none := by rw [readN, hg]; rfl
theorem onto_high {pre : List Int} {c p k : Nat} {m s : Int} {l : List Int} (hg : getH 5 (l.drop p) = some (s, k)) (hs : 34359738367 - m < s) : onto pre (readN (c + 1) m l p) = none := by
  rw [readN, hg]
  simp only []
  rw [if_pos hs]
  rfl

/-- What rises is read back. -/
theorem readN_enc : ∀ (xs : List Int) (m : Int) (l t : List Int) (p : Nat), 0 ≤ m → risingB m xs = true → l.drop p = enc (deltas m xs) ++ t → readN xs.length m l p = some (xs, p + (enc (deltas m xs)).length)
  | [], m, l, t, p, _, _, _ => by simp [readN, deltas, enc]
  | x :: r, m, l, t, p, h0, h, hd => by
    obtain ⟨h1, h2⟩ := rising_head h
    rw [deltas, enc_cons, List.append_assoc] at hd
    have hg := getH_put (x - m) (enc (deltas (x + 1) r) ++ t) (by omega) (by unfold Top; omega)
    rw [← hd] at hg
    have hd2 : l.drop (p + (put (x - m)).length) = enc (deltas (x + 1) r) ++ t := by rw [← List.drop_drop, hd, List.drop_left]
    have ih := readN_enc r (x + 1) l t (p + (put (x - m)).length) (by omega) h2 hd2
    rw [List.length_cons, readN, hg]
    simp only []
    rw [if_neg (by omega), show m + (x - m) + 1 = x + 1 by omega, ih, show m + (x - m) = x by omega, deltas, enc_cons, List.length_append]
    simp only [Option.some.injEq, Prod.mk.injEq, true_and]
    omega

theorem readP_enc {xs : List Int} {l t : List Int} {p : Nat} (h : rises xs = true) (hd : l.drop p = enc (nums xs) ++ t) : readP l p = some (xs, p + (enc (nums xs)).length) := by
  simp only [rises, Bool.and_eq_true, decide_eq_true_eq] at h
  rw [nums, enc_cons, List.append_assoc] at hd
  have hg := getH_put (xs.length : Int) (enc (deltas 0 xs) ++ t) (by omega) (by unfold Top; omega)
  rw [← hd] at hg
  have hd2 : l.drop (p + (put (xs.length : Int)).length) = enc (deltas 0 xs) ++ t := by rw [← List.drop_drop, hd, List.drop_left]
  rw [readP, hg]
  simp only []
  rw [if_neg (by omega), show ((xs.length : Int)).toNat = xs.length by omega, readN_enc xs 0 l t _ (by omega) h.2 hd2, nums, enc_cons, List.length_append]
  simp only [Option.some.injEq, Prod.mk.injEq, true_and]
  omega

/-- Cut off it is none. -/
theorem readN_cut : ∀ (xs : List Int) (m : Int) (l : List Int) (p j : Nat), 0 ≤ m → risingB m xs = true → j < (enc (deltas m xs)).length → l.drop p = (enc (deltas m xs)).take j → readN xs.length m l p = none
  | [], m, l, p, j, _, _, hj, _ => by simp [deltas, enc] at hj
  | x :: r, m, l, p, j, h0, h, hj, hd => by
    obtain ⟨h1, h2⟩ := rising_head h
    rw [deltas, enc_cons] at hj hd
    rw [List.length_cons, readN]
    by_cases hp : j < (put (x - m)).length
    · rw [List.take_append_of_le_length (by omega)] at hd
      rw [hd, getH_cut5 (by omega) hp]
    · obtain ⟨i, rfl⟩ : ∃ i, j = (put (x - m)).length + i := ⟨j - (put (x - m)).length, by omega⟩
      rw [List.take_length_add_append] at hd
      have hg := getH_put (x - m) ((enc (deltas (x + 1) r)).take i) (by omega) (by unfold Top; omega)
      rw [← hd] at hg
      have hd2 : l.drop (p + (put (x - m)).length) = (enc (deltas (x + 1) r)).take i := by rw [← List.drop_drop, hd, List.drop_left]
      have ih := readN_cut r (x + 1) l (p + (put (x - m)).length) i (by omega) h2 (by simp at hj; omega) hd2
      rw [hg]
      simp only []
      rw [if_neg (by omega), show m + (x - m) + 1 = x + 1 by omega, ih]

theorem readP_cut {xs : List Int} {l : List Int} {p j : Nat} (h : rises xs = true) (hj : j < (enc (nums xs)).length) (hd : l.drop p = (enc (nums xs)).take j) : readP l p = none := by
  simp only [rises, Bool.and_eq_true, decide_eq_true_eq] at h
  rw [nums, enc_cons] at hj hd
  rw [readP]
  by_cases hp : j < (put (xs.length : Int)).length
  · rw [List.take_append_of_le_length (by omega)] at hd
    rw [hd, getH_cut5 (by omega) hp]
  · obtain ⟨i, rfl⟩ : ∃ i, j = (put (xs.length : Int)).length + i := ⟨j - (put (xs.length : Int)).length, by omega⟩
    rw [List.take_length_add_append] at hd
    have hg := getH_put (xs.length : Int) ((enc (deltas 0 xs)).take i) (by omega) (by unfold Top; omega)
    rw [← hd] at hg
    have hd2 : l.drop (p + (put (xs.length : Int)).length) = (enc (deltas 0 xs)).take i := by rw [← List.drop_drop, hd, List.drop_left]
    rw [hg]
    simp only []
    rw [if_neg (by omega), show ((xs.length : Int)).toNat = xs.length by omega]
    exact readN_cut xs 0 l _ i (by omega) h.2 (by simp at hj; omega) hd2

/-- What is read rises, and is written by just these bytes. -/
theorem readN_back : ∀ (c : Nat) (m : Int) (l : List Int) (p : Nat) (xs : List Int) (q : Nat), Byt l → 0 ≤ m → p ≤ l.length → readN c m l p = some (xs, q) →
    p ≤ q ∧ q ≤ l.length ∧ xs.length = c ∧ risingB m xs = true ∧ enc (deltas m xs) = (l.drop p).take (q - p)
  | 0, m, l, p, xs, q, _, _, hp, h => by
    simp [readN] at h
    obtain ⟨rfl, rfl⟩ := h
    simp [risingB, deltas, enc, hp]
  | c + 1, m, l, p, xs, q, hb, h0, hp, h => by
    rw [readN] at h
    cases hg : getH 5 (l.drop p) with
    | none => rw [hg] at h; simp at h
    | some x =>
      obtain ⟨s, k⟩ := x
      rw [hg] at h
      simp only [] at h
      obtain ⟨g1, g2, g3, g4, g5⟩ := put_getH (hb.drop p) hg
      unfold Top at g3
      simp only [List.length_drop] at g5
      split at h
      · simp at h
      · cases hr : readN c (m + s + 1) l (p + k) with
        | none => rw [hr] at h; simp at h
        | some y =>
          obtain ⟨r, q'⟩ := y
          rw [hr] at h
          simp at h
          obtain ⟨rfl, rfl⟩ := h
          obtain ⟨i1, i2, i3, i4, i5⟩ := readN_back c (m + s + 1) l (p + k) r q' hb (by omega) (by omega) hr
          refine ⟨by omega, i2, by simp [i3], ?_, ?_⟩
          · rw [rising_cons (by omega)]; exact i4
          · rw [deltas, enc_cons, show m + s - m = s by omega, g1, i5, ← List.drop_drop]
            obtain ⟨d, rfl⟩ : ∃ d, q' = p + k + d := ⟨q' - (p + k), by omega⟩
            rw [show p + k + d - (p + k) = d by omega, show p + k + d - p = k + d by omega, List.take_add]

theorem readP_back {l : List Int} {p : Nat} {xs : List Int} {q : Nat} (hb : Byt l) (hp : p ≤ l.length) (h : readP l p = some (xs, q)) :
    p < q ∧ q ≤ l.length ∧ rises xs = true ∧ enc (nums xs) = (l.drop p).take (q - p) := by
  rw [readP] at h
  cases hg : getH 5 (l.drop p) with
  | none => rw [hg] at h; simp at h
  | some x =>
    obtain ⟨s, k⟩ := x
    rw [hg] at h
    simp only [] at h
    obtain ⟨g1, g2, g3, g4, g5⟩ := put_getH (hb.drop p) hg
    simp only [List.length_drop] at g5
    split at h
    · simp at h
    · obtain ⟨i1, i2, i3, i4, i5⟩ := readN_back s.toNat 0 l (p + k) xs q hb (by omega) (by omega) h
      refine ⟨by omega, i2, ?_, ?_⟩
      · simp only [rises, Bool.and_eq_true, decide_eq_true_eq]
        exact ⟨by omega, i4⟩
      · rw [nums, enc_cons, show (xs.length : Int) = s by omega, g1, i5, ← List.drop_drop]
        obtain ⟨d, rfl⟩ : ∃ d, q = p + k + d := ⟨q - (p + k), by omega⟩
        rw [show p + k + d - (p + k) = d by omega, show p + k + d - p = k + d by omega, List.take_add]

end Go.Proofs.Ytggojmnalmjapaa.V
