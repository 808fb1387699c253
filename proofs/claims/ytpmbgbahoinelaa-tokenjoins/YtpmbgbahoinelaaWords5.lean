/-
  The words of a text, in plain mathematics, and what the document says of them. No program is named here.
-/
import Derived.Test.YtpmbgbahoinelaaPlain5
namespace Go.Proofs.Ytpmbgbahoinelaa
namespace T

/-- Is a byte, or a sign, of a word? -/
def letter (c : Nat) : Bool := decide (97 ≤ c ∧ c ≤ 122) || decide (65 ≤ c ∧ c ≤ 90) || decide (48 ≤ c ∧ c ≤ 57) || decide (128 ≤ c)
def low (b : UInt8) : UInt8 := if 65 ≤ b.toNat ∧ b.toNat ≤ 90 then UInt8.ofNat (b.toNat + 32) else b
def up (b : UInt8) : UInt8 := if 97 ≤ b.toNat ∧ b.toNat ≤ 122 then UInt8.ofNat (b.toNat - 32) else b

/-- The words of l, w being what has been read of the first one. -/
def wgo : List UInt8 → List UInt8 → List (List UInt8)
  | [], w => if w = [] then [] else [w]
  | b :: l, w => if letter b.toNat = true then wgo l (w ++ [low b]) else if w = [] then wgo l [] else w :: wgo l []

theorem letter_high {c : Nat} (h : 128 ≤ c) : letter c = true := by simp [letter]; omega
theorem letter_blank : letter 32 = false := by decide
theorem low_high {b : UInt8} (h : 128 ≤ b.toNat) : low b = b := by unfold low; rw [if_neg (by omega)]
theorem low_toNat (b : UInt8) : (low b).toNat = if 65 ≤ b.toNat ∧ b.toNat ≤ 90 then b.toNat + 32 else b.toNat := by
  unfold low
  split
  · rw [UInt8.toNat_ofNat']; omega
  · rfl
theorem up_toNat (b : UInt8) : (up b).toNat = if 97 ≤ b.toNat ∧ b.toNat ≤ 122 then b.toNat - 32 else b.toNat := by
  unfold up
  split
  · rw [UInt8.toNat_ofNat']; omega
  · rfl
theorem low_low (b : UInt8) : low (low b) = low b := by
  have h := low_toNat b
  show (if 65 ≤ (low b).toNat ∧ (low b).toNat ≤ 90 then _ else _) = _
  rw [if_neg]
  rw [h]
  split <;> omega
theorem letter_low {b : UInt8} (h : letter b.toNat = true) : letter (low b).toNat = true := by
  rw [low_toNat]
  split
  · simp [letter]; omega
  · exact h
theorem more_low (b : UInt8) : more (low b).toNat = more b.toNat ∧ lo (low b).toNat = lo b.toNat ∧ hi (low b).toNat = hi b.toNat := by
  rw [low_toNat]
  split
  · unfold more lo hi
    refine ⟨?_, ?_, ?_⟩
    all_goals (repeat' split) <;> omega
  · exact ⟨rfl, rfl, rfl⟩

/-! ### Blanks -/
theorem wgo_blank : ∀ (a : List UInt8) (w b : List UInt8), wgo (a ++ 32 :: b) w = wgo a w ++ wgo b []
  | [], w, b => by
    have : letter (32 : UInt8).toNat = false := by decide
    simp only [List.nil_append, wgo, this]
    by_cases h : w = [] <;> simp [h]
  | c :: a, w, b => by
    simp only [List.cons_append, wgo]
    rw [wgo_blank a, wgo_blank a]
    by_cases h1 : letter c.toNat = true
    · simp [h1]
    · by_cases h : w = [] <;> simp [h1, h]

theorem ok_blank : ∀ (a : List UInt8) (n x y : Nat) (b : List UInt8), (n ≠ 0 → 128 ≤ x) → ok n x y (a ++ 32 :: b) = (ok n x y a && valid b)
  | [], n, x, y, b, hx => by
    have : more (32 : UInt8).toNat = 0 := by decide
    cases n with
    | zero =>
      rw [List.nil_append, ok_zero, valid_cons, this]
      simp [ok, ok_zero]
    | succ n =>
      have := hx (by omega)
      have h32 : (32 : UInt8).toNat = 32 := by decide
      simp [ok]
      omega
  | c :: a, n, x, y, b, hx => by
    cases n with
    | zero =>
      simp only [List.cons_append, ok]
      rw [ok_blank a _ _ _ b (fun _ => lo_ge _), Bool.and_assoc]
    | succ n =>
      simp only [List.cons_append, ok]
      rw [ok_blank a _ _ _ b (fun _ => Nat.le_refl _)]
      simp only [Bool.and_assoc]

theorem valid_blank (a b : List UInt8) : valid (a ++ 32 :: b) = (valid a && valid b) := ok_blank a 0 0 0 b (fun h => absurd rfl h)

/-! ### One behind the other; cut -/
theorem ok_append : ∀ (a : List UInt8) (n x y : Nat) (b : List UInt8), ok n x y a = true → ok n x y (a ++ b) = valid b
  | [], n, x, y, b, h => by
    cases n with
    | zero => exact ok_zero x y b
    | succ n => simp [ok] at h
  | c :: a, n, x, y, b, h => by
    cases n with
    | zero =>
      simp only [ok, Bool.and_eq_true] at h
      simp only [List.cons_append, ok]
      rw [ok_append a _ _ _ b h.2, h.1, Bool.true_and]
    | succ n =>
      simp only [ok, Bool.and_eq_true] at h
      simp only [List.cons_append, ok]
      rw [ok_append a _ _ _ b h.2, h.1.1, h.1.2, Bool.true_and, Bool.true_and]

/-- Of what is UTF-8 whichever place begins a sign, or is within one. -/
theorem ok_cut : ∀ (a : List UInt8) (n x y k : Nat) (c : UInt8), (n ≠ 0 → 128 ≤ x ∧ y ≤ 191) → ok n x y a = true → a[k]? = some c →
    (128 ≤ c.toNat ∧ c.toNat ≤ 191 → ok n x y (a.take k) = false ∧ valid (a.drop k) = false) ∧ (¬ (128 ≤ c.toNat ∧ c.toNat ≤ 191) → ok n x y (a.take k) = true ∧ valid (a.drop k) = true)
  | [], n, x, y, k, c, _, _, hk => by simp at hk
  | b :: a, n, x, y, 0, c, hx, h, hk => by
    simp at hk
    subst hk
    cases n with
    | zero =>
      simp only [ok, Bool.and_eq_true, decide_eq_true_eq] at h
      rcases more_cases b.toNat with m | m | m | m | m
      · refine ⟨fun q => by omega, fun _ => ⟨rfl, ?_⟩⟩
        simp [valid_cons, h.1, h.2]
      · refine ⟨fun q => by omega, fun _ => ⟨rfl, ?_⟩⟩
        simp [valid_cons, h.1, h.2]
      · refine ⟨fun q => by omega, fun _ => ⟨rfl, ?_⟩⟩
        simp [valid_cons, h.1, h.2]
      · refine ⟨fun q => by omega, fun _ => ⟨rfl, ?_⟩⟩
        simp [valid_cons, h.1, h.2]
      · omega
    | succ n =>
      have hx := hx (by omega)
      simp only [ok, Bool.and_eq_true, decide_eq_true_eq] at h
      refine ⟨fun q => ⟨rfl, ?_⟩, fun q => absurd ⟨by omega, by omega⟩ q⟩
      rcases more_cases b.toNat with m | m | m | m | m
      · omega
      · omega
      · omega
      · omega
      · simp [valid_cons, m.1]
  | b :: a, n, x, y, k + 1, c, hx, h, hk => by
    simp only [List.getElem?_cons_succ] at hk
    cases n with
    | zero =>
      simp only [ok, Bool.and_eq_true, decide_eq_true_eq] at h
      have ih := ok_cut a _ _ _ k c (fun _ => ⟨lo_ge _, hi_le _⟩) h.2 hk
      simp only [List.take_succ_cons, List.drop_succ_cons, ok]
      refine ⟨fun q => ?_, fun q => ?_⟩
      · rw [(ih.1 q).1, (ih.1 q).2]; simp
      · rw [(ih.2 q).1, (ih.2 q).2]; simp [h.1]
    | succ n =>
      simp only [ok, Bool.and_eq_true, decide_eq_true_eq] at h
      have ih := ok_cut a _ _ _ k c (fun _ => ⟨Nat.le_refl _, Nat.le_refl _⟩) h.2 hk
      simp only [List.take_succ_cons, List.drop_succ_cons, ok]
      refine ⟨fun q => ?_, fun q => ?_⟩
      · rw [(ih.1 q).1, (ih.1 q).2]; simp
      · rw [(ih.2 q).1, (ih.2 q).2]; simp [h.1]

/-! ### Great letters -/
theorem letter_up (b : UInt8) : letter (up b).toNat = letter b.toNat := by
  rw [up_toNat]
  split
  · rw [show letter b.toNat = true by simp [letter]; omega]
    simp [letter]; omega
  · rfl
theorem low_up (b : UInt8) : low (up b) = low b := by
  apply UInt8.toNat.inj
  rw [low_toNat, low_toNat, up_toNat]
  (repeat' split) <;> omega
theorem more_up (b : UInt8) : more (up b).toNat = more b.toNat ∧ lo (up b).toNat = lo b.toNat ∧ hi (up b).toNat = hi b.toNat := by
  rw [up_toNat]
  split
  · unfold more lo hi
    refine ⟨?_, ?_, ?_⟩
    all_goals (repeat' split) <;> omega
  · exact ⟨rfl, rfl, rfl⟩
theorem wgo_up : ∀ (l w : List UInt8), wgo (l.map up) w = wgo l w
  | [], w => rfl
  | b :: l, w => by
    simp only [List.map_cons, wgo, letter_up, low_up]
    rw [wgo_up l, wgo_up l]
theorem ok_up : ∀ (l : List UInt8) (n x y : Nat), (n ≠ 0 → 128 ≤ x) → ok n x y (l.map up) = ok n x y l
  | [], n, x, y, _ => rfl
  | b :: l, n, x, y, hx => by
    cases n with
    | zero =>
      simp only [List.map_cons, ok]
      rw [(more_up b).1, (more_up b).2.1, (more_up b).2.2, ok_up l _ _ _ (fun _ => lo_ge _)]
    | succ n =>
      have hx := hx (by omega)
      simp only [List.map_cons, ok]
      rw [ok_up l _ _ _ (fun _ => Nat.le_refl _), up_toNat]
      split
      · rw [show decide (x ≤ b.toNat - 32) = false by simp; omega, show decide (x ≤ b.toNat) = false by simp; omega]; rfl
      · rfl
theorem valid_up (l : List UInt8) : valid (l.map up) = valid l := ok_up l 0 0 0 (fun h => absurd rfl h)

/-! ### How many -/
theorem wgo_few : ∀ (l w : List UInt8), 2 * (wgo l w).length ≤ l.length + (if w = [] then 1 else 2)
  | [], w => by unfold wgo; split <;> simp_all
  | b :: l, w => by
    unfold wgo
    have h0 := wgo_few l []
    have h1 := wgo_few l (w ++ [low b])
    simp at h0 h1
    split
    · split <;> (simp; omega)
    · split <;> (simp; omega)

/-! ### What words are made of -/
/-- A word as it stands. -/
def Good (u : List UInt8) : Prop := u ≠ [] ∧ ∀ b ∈ u, letter b.toNat = true ∧ low b = b
theorem wgo_good : ∀ (l w : List UInt8), (∀ b ∈ w, letter b.toNat = true ∧ low b = b) → ∀ u ∈ wgo l w, Good u
  | [], w, hw, u, hu => by
    unfold wgo at hu
    split at hu
    · simp at hu
    · simp at hu; subst hu; exact ⟨by assumption, hw⟩
  | b :: l, w, hw, u, hu => by
    unfold wgo at hu
    split at hu
    · rename_i hb
      refine wgo_good l _ (fun c hc => ?_) u hu
      rw [List.mem_append] at hc
      rcases hc with hc | hc
      · exact hw c hc
      · simp at hc; subst hc; exact ⟨letter_low hb, low_low b⟩
    · split at hu
      · exact wgo_good l [] (by simp) u hu
      · rw [List.mem_cons] at hu
        rcases hu with rfl | hu
        · exact ⟨by assumption, hw⟩
        · exact wgo_good l [] (by simp) u hu

theorem wgo_run : ∀ (u r w : List UInt8), (∀ b ∈ u, letter b.toNat = true ∧ low b = b) → wgo (u ++ r) w = wgo r (w ++ u)
  | [], r, w, _ => by simp
  | b :: u, r, w, h => by
    have hb := h b (by simp)
    simp only [List.cons_append, wgo, hb.1, hb.2, if_true]
    rw [wgo_run u r _ (fun c hc => h c (by simp [hc]))]
    simp

theorem wgo_self {u : List UInt8} (h : Good u) : wgo u [] = [u] := by
  have := wgo_run u [] [] h.2
  simp only [List.append_nil, List.nil_append] at this
  rw [this]
  simp [wgo, h.1]

/-- The words of what is UTF-8 are UTF-8. -/
theorem wgo_valid : ∀ (l w : List UInt8) (n x y : Nat), (n ≠ 0 → 128 ≤ x) → (∀ r, valid (w ++ r) = ok n x y r) → ok n x y l = true → ∀ u ∈ wgo l w, valid u = true
  | [], w, n, x, y, _, hw, h, u, hu => by
    unfold wgo at hu
    split at hu
    · simp at hu
    · simp at hu; subst hu
      have := hw []
      rw [List.append_nil, h] at this
      exact this
  | b :: l, w, n, x, y, hx, hw, h, u, hu => by
    unfold wgo at hu
    cases n with
    | zero =>
      simp only [ok, Bool.and_eq_true] at h
      split at hu
      · refine wgo_valid l _ (more b.toNat) (lo b.toNat) (hi b.toNat) (fun _ => lo_ge _) (fun r => ?_) h.2 u hu
        rw [List.append_assoc, hw]
        simp only [List.cons_append, List.nil_append, ok]
        rw [(more_low b).1, (more_low b).2.1, (more_low b).2.2, h.1, Bool.true_and]
      · rename_i hb
        have hm : more b.toNat = 0 := by
          rcases more_cases b.toNat with m | m | m | m | m
          · exact m.1
          all_goals exact absurd (letter_high (by omega)) hb
        rw [hm, ok_zero] at h
        split at hu
        · exact wgo_valid l [] 0 0 0 (fun h => absurd rfl h) (fun r => rfl) h.2 u hu
        · rw [List.mem_cons] at hu
          rcases hu with rfl | hu
          · have := hw []
            rw [List.append_nil] at this
            rw [this]
            rfl
          · exact wgo_valid l [] 0 0 0 (fun h => absurd rfl h) (fun r => rfl) h.2 u hu
    | succ n =>
      have hx := hx (by omega)
      simp only [ok, Bool.and_eq_true, decide_eq_true_eq] at h
      have hb : 128 ≤ b.toNat := by omega
      rw [if_pos (letter_high hb), low_high hb] at hu
      refine wgo_valid l _ n 128 191 (fun _ => Nat.le_refl _) (fun r => ?_) h.2 u hu
      rw [List.append_assoc, hw]
      simp only [List.cons_append, List.nil_append, ok]
      simp [h.1.1, h.1.2]

/-! ### Words with a blank between each -/
def join : List (List UInt8) → List UInt8
  | [] => []
  | [w] => w
  | w :: v :: ws => w ++ 32 :: join (v :: ws)

theorem join_snoc : ∀ (ws : List (List UInt8)) (w : List UInt8), ws ≠ [] → join (ws ++ [w]) = join ws ++ 32 :: w
  | [], w, h => absurd rfl h
  | [a], w, _ => rfl
  | a :: b :: ws, w, _ => by
    have := join_snoc (b :: ws) w (by simp)
    simp only [List.cons_append] at this ⊢
    simp only [join]
    rw [this]
    simp

theorem wgo_join : ∀ (ws : List (List UInt8)), (∀ u ∈ ws, Good u) → wgo (join ws) [] = ws
  | [], _ => rfl
  | [a], h => wgo_self (h a (by simp))
  | a :: b :: ws, h => by
    have ih := wgo_join (b :: ws) (fun u hu => h u (by simp only [List.mem_cons] at hu ⊢; exact .inr hu))
    simp only [join]
    rw [wgo_blank, ih, wgo_self (h a (by simp))]
    rfl
theorem valid_join : ∀ (ws : List (List UInt8)), (∀ u ∈ ws, valid u = true) → valid (join ws) = true
  | [], _ => rfl
  | [a], h => h a (by simp)
  | a :: b :: ws, h => by
    have ih := valid_join (b :: ws) (fun u hu => h u (by simp only [List.mem_cons] at hu ⊢; exact .inr hu))
    simp only [join]
    rw [valid_blank, ih, h a (by simp)]
    rfl
theorem join_len : ∀ (l w : List UInt8), (join (wgo l w)).length ≤ w.length + l.length
  | [], w => by
    unfold wgo
    split
    · simp [join]
    · simp [join]
  | b :: l, w => by
    unfold wgo
    split
    · have := join_len l (w ++ [low b])
      simp at this ⊢
      omega
    · have h0 := join_len l []
      split
      · simp at h0 ⊢; omega
      · cases h : wgo l [] with
        | nil => simp [join]
        | cons v vs =>
          rw [h] at h0
          simp [join] at h0 ⊢
          omega
end T
end Go.Proofs.Ytpmbgbahoinelaa
