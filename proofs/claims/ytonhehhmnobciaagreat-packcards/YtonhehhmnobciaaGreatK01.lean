/-
  Texts put together: Plain, PlainList, PlainLaw, Crc, PlainFrame, PlainOpen, CrcLin, PlainMix.
-/

/-
  The plain mathematics of layer 1: the bytes of a number, the number of bytes, rising lists. No program is named here.
-/
namespace Go.Proofs.YtonhehhmnobciaaGreat.V

/-- The greatest number that is written. -/
abbrev Top : Int := 34359738367

/-- The bytes of n, at most f + 1 of them. -/
def putF : Nat → Int → List Int
  | 0, n => [n]
  | f + 1, n => if 128 ≤ n then (n % 128 + 128) :: putF f (n / 128) else [n]

def put (n : Int) : List Int := putF 4 n

/-- The number whose bytes begin l, and how many these are, of at most f. -/
def getH : Nat → List Int → Option (Int × Nat)
  | 0, _ => none
  | _ + 1, [] => none
  | f + 1, c :: r => if c < 128 then some (c, 1) else
    match getH f r with
    | none => none
    | some (n, k) => if n = 0 then none else some (c - 128 + 128 * n, k + 1)

/-- What Get answers: number, place behind, error. -/
def get (l : List Int) (at' : Int) : Int × Int × Int :=
  if at' < 0 ∨ (l.length : Int) < at' then (0, 0, 1) else
  match getH 5 (l.drop at'.toNat) with
  | none => (0, 0, 5)
  | some (n, k) => (n, at' + k, 0)

def Byt (l : List Int) : Prop := ∀ c ∈ l, 0 ≤ c ∧ c ≤ 255

theorem Byt.drop {l : List Int} (h : Byt l) (n : Nat) : Byt (l.drop n) := fun c hc => h c (List.mem_of_mem_drop hc)
theorem Byt.take {l : List Int} (h : Byt l) (n : Nat) : Byt (l.take n) := fun c hc => h c (List.mem_of_mem_take hc)
theorem Byt.tail {c : Int} {l : List Int} (h : Byt (c :: l)) : Byt l := fun x hx => h x (List.mem_cons_of_mem _ hx)
theorem Byt.head {c : Int} {l : List Int} (h : Byt (c :: l)) : 0 ≤ c ∧ c ≤ 255 := h c (List.mem_cons_self ..)
theorem Byt.app {a b : List Int} (ha : Byt a) (hb : Byt b) : Byt (a ++ b) := fun c hc => by
  rcases List.mem_append.1 hc with h | h
  · exact ha c h
  · exact hb c h

theorem putF_byt : ∀ (f : Nat) (n : Int), 0 ≤ n → n < 128 ^ (f + 1) → Byt (putF f n)
  | 0, n, h0, h1 => by
    intro c hc
    simp [putF] at hc
    subst hc
    have : (128 : Int) ^ (0 + 1) = 128 := rfl
    omega
  | f + 1, n, h0, h1 => by
    unfold putF
    have e : (128 : Int) ^ (f + 1 + 1) = 128 ^ (f + 1) * 128 := rfl
    split
    · have ih := putF_byt f (n / 128) (by omega) (by rw [e] at h1; omega)
      intro c hc
      rcases List.mem_cons.1 hc with h | h
      · omega
      · exact ih c h
    · intro c hc
      simp at hc
      omega

theorem put_byt (n : Int) (h0 : 0 ≤ n) (h1 : n ≤ Top) : Byt (put n) := putF_byt 4 n h0 (by
  have : (128 : Int) ^ (4 + 1) = 34359738368 := by decide
  unfold Top at h1; omega)

theorem putF_len : ∀ (f : Nat) (n : Int), 1 ≤ (putF f n).length ∧ (putF f n).length ≤ f + 1
  | 0, n => by simp [putF]
  | f + 1, n => by
    unfold putF
    split
    · have := putF_len f (n / 128); simp; omega
    · simp

theorem put_len (n : Int) : 1 ≤ (put n).length ∧ (put n).length ≤ 5 := putF_len 4 n

/-- What is put is read, whatever stands behind. -/
theorem getH_putF : ∀ (f : Nat) (n : Int) (t : List Int), 0 ≤ n → n < 128 ^ (f + 1) → getH (f + 1) (putF f n ++ t) = some (n, (putF f n).length)
  | 0, n, t, h0, h1 => by
    have : (128 : Int) ^ (0 + 1) = 128 := rfl
    simp [putF, getH]
    omega
  | f + 1, n, t, h0, h1 => by
    have e : (128 : Int) ^ (f + 1 + 1) = 128 ^ (f + 1) * 128 := rfl
    unfold putF
    by_cases h : 128 ≤ n
    · have ih := getH_putF f (n / 128) t (by omega) (by rw [e] at h1; omega)
      simp only [h, if_true, List.cons_append, getH]
      rw [if_neg (by omega), ih]
      simp only
      rw [if_neg (by omega)]
      simp
      omega
    · simp only [h, if_false, List.cons_append, List.nil_append, getH]
      rw [if_pos (by omega)]
      simp

theorem getH_put (n : Int) (t : List Int) (h0 : 0 ≤ n) (h1 : n ≤ Top) : getH 5 (put n ++ t) = some (n, (put n).length) := getH_putF 4 n t h0 (by
  have : (128 : Int) ^ (4 + 1) = 34359738368 := by decide
  unfold Top at h1; omega)

/-- Cut off, they are none. -/
theorem getH_cut : ∀ (f : Nat) (n : Int) (j : Nat), 0 ≤ n → j < (putF f n).length → getH (f + 1) ((putF f n).take j) = none
  | 0, n, j, h0, h1 => by
    simp [putF] at h1
    subst h1
    simp [getH]
  | f + 1, n, j, h0, h1 => by
    unfold putF at h1 ⊢
    by_cases h : 128 ≤ n
    · simp only [h, if_true] at h1 ⊢
      cases j with
      | zero => simp [getH]
      | succ j =>
        have ih := getH_cut f (n / 128) j (by omega) (by simpa using h1)
        simp only [List.take_succ_cons, getH]
        rw [if_neg (by omega), ih]
    · simp only [h, if_false] at h1 ⊢
      simp at h1
      subst h1
      simp [getH]

/-- What is read is put by just these bytes. -/
theorem putF_getH : ∀ (f : Nat) (l : List Int) (n : Int) (k : Nat), Byt l → getH (f + 1) l = some (n, k) → putF f n = l.take k ∧ 0 ≤ n ∧ n < 128 ^ (f + 1) ∧ 1 ≤ k ∧ k ≤ l.length
  | f, [], n, k, _, h => by simp [getH] at h
  | 0, c :: r, n, k, hb, h => by
    have : (128 : Int) ^ (0 + 1) = 128 := rfl
    have hc := hb.head
    simp only [getH] at h
    split at h
    · simp at h
      obtain ⟨rfl, rfl⟩ := h
      simp [putF]
      omega
    · simp at h
  | f + 1, c :: r, n, k, hb, h => by
    have e : (128 : Int) ^ (f + 1 + 1) = 128 ^ (f + 1) * 128 := rfl
    have hc := hb.head
    rw [getH] at h
    split at h
    · simp at h
      obtain ⟨rfl, rfl⟩ := h
      have hp : (0 : Int) < 128 ^ (f + 1) := Int.pow_pos (by omega)
      rw [e]
      unfold putF
      rw [if_neg (by omega)]
      refine ⟨rfl, by omega, by omega, by omega, by simp⟩
    · split at h
      · simp at h
      · rename_i m j hg
        split at h
        · simp at h
        · simp at h
          obtain ⟨rfl, rfl⟩ := h
          obtain ⟨h1, h2, h3, h4, h5⟩ := putF_getH f r m j hb.tail hg
          rw [e]
          unfold putF
          rw [if_pos (by omega), show (c - 128 + 128 * m) / 128 = m by omega, show (c - 128 + 128 * m) % 128 + 128 = c by omega, h1]
          refine ⟨by simp, by omega, by omega, by omega, by simpa using h5⟩

theorem put_getH {l : List Int} {n : Int} {k : Nat} (hb : Byt l) (h : getH 5 l = some (n, k)) : put n = l.take k ∧ 0 ≤ n ∧ n ≤ Top ∧ 1 ≤ k ∧ k ≤ l.length := by
  obtain ⟨h1, h2, h3, h4, h5⟩ := putF_getH 4 l n k hb h
  have : (128 : Int) ^ (4 + 1) = 34359738368 := by decide
  exact ⟨h1, h2, by unfold Top; omega, h4, h5⟩

/-! ### Get, byte by byte from the left: what has been read so far, and what is still to come -/

def pw : Nat → Int
  | 0 => 1
  | 1 => 128
  | 2 => 16384
  | 3 => 2097152
  | 4 => 268435456
  | _ => 34359738368

/-- acc has been read of i bytes; r is what comes of the rest. -/
def comb (i : Nat) (acc : Int) (r : Option (Int × Nat)) : Option (Int × Nat) :=
  match r with
  | none => none
  | some (m, k) => if 0 < i ∧ m = 0 then none else some (acc + pw i * m, i + k)

theorem comb_zero (r : Option (Int × Nat)) : comb 0 0 r = r := by
  cases r with
  | none => rfl
  | some x => obtain ⟨m, k⟩ := x; simp [comb, pw]

theorem comb_more {i : Nat} {acc c : Int} {r : List Int} (hi : i < 5) (hc : 128 ≤ c) (hc2 : c ≤ 255) (hbr : Byt r) :
    comb i acc (getH (5 - i) (c :: r)) = comb (i + 1) (acc + pw i * (c % 128)) (getH (4 - i) r) := by
  obtain ⟨f, hf⟩ : ∃ f, 4 - i = f := ⟨_, rfl⟩
  rw [show 5 - i = f + 1 by omega, hf, getH, if_neg (by omega)]
  cases hg : getH f r with
  | none => rfl
  | some x =>
    obtain ⟨m, k⟩ := x
    have hm : 0 ≤ m := by
      cases f with
      | zero => simp [getH] at hg
      | succ f => exact (putF_getH f r m k hbr hg).2.1
    simp only []
    by_cases h0 : m = 0
    · subst h0
      simp [comb]
    · rw [if_neg h0]
      simp only [comb]
      rw [if_neg (by omega), if_neg (by omega)]
      simp only [Option.some.injEq, Prod.mk.injEq]
      refine ⟨?_, by omega⟩
      match i, hi with
      | 0, _ => simp only [pw]; omega
      | 1, _ => simp only [pw]; omega
      | 2, _ => simp only [pw]; omega
      | 3, _ => simp only [pw]; omega
      | 4, _ => simp only [pw]; omega

theorem comb_zero_byte {i : Nat} {acc : Int} {r : List Int} (hi : i < 5) (h0 : 0 < i) : comb i acc (getH (5 - i) (0 :: r)) = none := by
  rw [show 5 - i = 4 - i + 1 by omega, getH, if_pos (by omega)]
  simp [comb, h0]

theorem comb_last {i : Nat} {acc c : Int} {r : List Int} (hi : i < 5) (hc : c < 128) (h0 : ¬ (c = 0 ∧ 0 < i)) : comb i acc (getH (5 - i) (c :: r)) = some (acc + pw i * c, i + 1) := by
  rw [show 5 - i = 4 - i + 1 by omega, getH, if_pos hc]
  simp only [comb]
  rw [if_neg (by omega)]

theorem comb_end (acc : Int) (i f : Nat) : comb i acc (getH f []) = none := by cases f <;> rfl
theorem comb_five (acc : Int) (l : List Int) : comb 5 acc (getH (5 - 5) l) = none := rfl

/-! ### Many numbers -/

def enc (ns : List Int) : List Int := ns.flatMap put

theorem enc_nil : enc [] = [] := rfl
theorem enc_app (a b : List Int) : enc (a ++ b) = enc a ++ enc b := by simp [enc]
theorem enc_one (n : Int) : enc [n] = put n := by simp [enc]
theorem enc_cons (n : Int) (r : List Int) : enc (n :: r) = put n ++ enc r := by simp [enc]

theorem enc_len : ∀ ns : List Int, (enc ns).length ≤ 5 * ns.length
  | [] => by simp [enc]
  | n :: r => by
    have := enc_len r
    have h := (put_len n).2
    rw [enc_cons, List.length_append, List.length_cons]
    omega

theorem enc_take {ns : List Int} {k : Nat} (h : k < ns.length) : enc (ns.take (k + 1)) = enc (ns.take k) ++ put ns[k] := by
  rw [List.take_succ_eq_append_getElem h, enc_app, enc_one]

theorem enc_take_len (ns : List Int) (k : Nat) : (enc (ns.take k)).length ≤ 5 * k := by
  have := enc_len (ns.take k)
  have h : (ns.take k).length ≤ k := List.length_take_le _ _
  omega

theorem enc_byt {ns : List Int} (h : ∀ n ∈ ns, 0 ≤ n ∧ n ≤ Top) : Byt (enc ns) := by
  intro c hc
  obtain ⟨n, hn, hc⟩ := List.mem_flatMap.1 hc
  exact put_byt n (h n hn).1 (h n hn).2 c hc

/-- One byte more of a number that is being written. -/
theorem putF_more {f : Nat} {m : Int} (h : 128 ≤ m) (hf : m < 128 ^ (f + 1)) : ∃ g, f = g + 1 ∧ putF f m = (m % 128 + 128) :: putF g (m / 128) ∧ m / 128 < 128 ^ (g + 1) := by
  cases f with
  | zero => exact absurd hf (by have : (128 : Int) ^ (0 + 1) = 128 := rfl; omega)
  | succ g =>
    have e : (128 : Int) ^ (g + 1 + 1) = 128 ^ (g + 1) * 128 := rfl
    rw [e] at hf
    exact ⟨g, rfl, by rw [putF, if_pos h], by omega⟩

theorem putF_done {f : Nat} {m : Int} (h : ¬ 128 ≤ m) : putF f m = [m] := by
  cases f with
  | zero => rfl
  | succ g => rw [putF, if_neg h]

theorem lt_p5 {x : Int} (h : x ≤ 34359738367) : x < 128 ^ (4 + 1) := by
  have : (128 : Int) ^ (4 + 1) = 34359738368 := by decide
  omega

/-- What Put answers for whatever number. -/
def putA (n : Int) : List Int := if 0 ≤ n ∧ n ≤ 34359738367 then put n else []

theorem putA_in {n : Int} (h : 0 ≤ n ∧ n ≤ 34359738367) : putA n = put n := if_pos h
theorem putA_out {n : Int} (h : ¬ (0 ≤ n ∧ n ≤ 34359738367)) : putA n = [] := if_neg h
theorem putA_len (n : Int) : (putA n).length ≤ 5 := by
  unfold putA
  split
  · exact (put_len n).2
  · simp
theorem putA_byt (n : Int) : Byt (putA n) := by
  unfold putA
  split
  · rename_i h; exact put_byt n h.1 h.2
  · intro c hc; simp at hc

end Go.Proofs.YtonhehhmnobciaaGreat.V

/-
  The plain mathematics of rising lists: which rise, their bytes, and the list of bytes. No program is named here.
-/
namespace Go.Proofs.YtonhehhmnobciaaGreat.V

theorem getH_cut5 {n : Int} {j : Nat} (h0 : 0 ≤ n) (h : j < (put n).length) : getH 5 ((put n).take j) = none := getH_cut 4 n j h0 h

def risingB : Int → List Int → Bool
  | _, [] => true
  | m, x :: r => decide (m ≤ x ∧ x ≤ 34359738367) && risingB (x + 1) r

def rises (l : List Int) : Bool := decide (l.length ≤ 2000) && risingB 0 l

def deltas : Int → List Int → List Int
  | _, [] => []
  | m, x :: r => (x - m) :: deltas (x + 1) r

def nums (l : List Int) : List Int := (l.length : Int) :: deltas 0 l
def riseA (l : List Int) : List Int := if rises l then enc (nums l) else []
def riseE (l : List Int) : Int := if rises l then 0 else 1

theorem rising_cons {m x : Int} {r : List Int} (h : m ≤ x ∧ x ≤ 34359738367) : risingB m (x :: r) = risingB (x + 1) r := by simp [risingB, h]
theorem rising_not {m x : Int} {r : List Int} (h : ¬ (m ≤ x ∧ x ≤ 34359738367)) : risingB m (x :: r) = false := by simp only [risingB, h, decide_false, Bool.false_and]
theorem rising_head {m x : Int} {r : List Int} (h : risingB m (x :: r) = true) : (m ≤ x ∧ x ≤ 34359738367) ∧ risingB (x + 1) r = true := by simpa [risingB] using h

theorem deltas_len : ∀ (m : Int) (l : List Int), (deltas m l).length = l.length
  | _, [] => rfl
  | m, x :: r => by simp [deltas, deltas_len (x + 1) r]

theorem deltas_bd : ∀ (m : Int) (l : List Int), 0 ≤ m → risingB m l = true → ∀ n ∈ deltas m l, 0 ≤ n ∧ n ≤ 34359738367
  | _, [], _, _ => by simp [deltas]
  | m, x :: r, h0, h => by
    have ⟨h1, h2⟩ := rising_head h
    have ih := deltas_bd (x + 1) r (by omega) h2
    intro n hn
    rcases List.mem_cons.1 hn with e | e
    · omega
    · exact ih n e

theorem nums_bd {l : List Int} (h : rises l = true) : ∀ n ∈ nums l, 0 ≤ n ∧ n ≤ 34359738367 := by
  simp only [rises, Bool.and_eq_true, decide_eq_true_eq] at h
  intro n hn
  rcases List.mem_cons.1 hn with e | e
  · omega
  · exact deltas_bd 0 l (by omega) h.2 n e

theorem nums_len (l : List Int) : (nums l).length = l.length + 1 := by simp [nums, deltas_len]

theorem riseA_byt (l : List Int) : Byt (riseA l) := by
  unfold riseA
  split
  · rename_i h; exact enc_byt (nums_bd h)
  · intro c hc; simp at hc
theorem riseA_len {l : List Int} : (riseA l).length ≤ 5 * (l.length + 1) := by
  unfold riseA
  split
  · have := enc_len (nums l); rw [nums_len] at this; omega
  · simp

/-! ### Read -/

def readN : Nat → Int → List Int → Nat → Option (List Int × Nat)
  | 0, _, _, p => some ([], p)
  | c + 1, m, l, p =>
    match getH 5 (l.drop p) with
    | none => none
    | some (s, k) => if 34359738367 - m < s then none else
      match readN c (m + s + 1) l (p + k) with
      | none => none
      | some (r, q) => some ((m + s) :: r, q)

def readP (l : List Int) (p : Nat) : Option (List Int × Nat) :=
  match getH 5 (l.drop p) with
  | none => none
  | some (c, k) => if 2000 < c then none else readN c.toNat 0 l (p + k)

def read (l : List Int) (x : Int) : List Int × Int × Int :=
  if x < 0 ∨ (l.length : Int) < x then ([], 0, 1) else
  match readP l x.toNat with
  | none => ([], 0, 5)
  | some (r, q) => (r, (q : Int), 0)

def onto (pre : List Int) : Option (List Int × Nat) → Option (List Int × Nat)
  | none => none
  | some (r, q) => some (pre ++ r, q)

theorem onto_nil (x : Option (List Int × Nat)) : onto [] x = x := by cases x <;> rfl
theorem onto_none (pre : List Int) : onto pre none = none := rfl

theorem onto_step {pre : List Int} {c p k : Nat} {m s : Int} {l : List Int} (hg : getH 5 (l.drop p) = some (s, k)) (hs : ¬ 34359738367 - m < s) :
    onto pre (readN (c + 1) m l p) = onto (pre ++ [m + s]) (readN c (m + s + 1) l (p + k)) := by
  rw [readN, hg]
  simp only []
  rw [if_neg hs]
  cases readN c (m + s + 1) l (p + k) with
  | none => rfl
  | some x => simp [onto]

theorem onto_bad {pre : List Int} {c p : Nat} {m : Int} {l : List Int} (hg : getH 5 (l.drop p) = none) : onto pre (readN (c + 1) m l p) = none := by rw [readN, hg]; rfl
theorem onto_high {pre : List Int} {c p k : Nat} {m s : Int} {l : List Int} (hg : getH 5 (l.drop p) = some (s, k)) (hs : 34359738367 - m < s) : onto pre (readN (c + 1) m l p) = none := by
  rw [readN, hg]
  simp only []
  rw [if_pos hs]
  rfl

/-- What rises is read back. -/
theorem readN_enc : ∀ (xs : List Int) (m : Int) (l t : List Int) (p : Nat), 0 ≤ m → risingB m xs = true → l.drop p = enc (deltas m xs) ++ t → readN xs.length m l p = some (xs, p + (enc (deltas m xs)).length)
  | [], m, l, t, p, _, _, _ => by simp [readN, deltas, enc]
  | x :: r, m, l, t, p, h0, h, hd => by
    obtain ⟨h1, h2⟩ := rising_head h
    rw [deltas, enc_cons, List.append_assoc] at hd
    have hg := getH_put (x - m) (enc (deltas (x + 1) r) ++ t) (by omega) (by unfold Top; omega)
    rw [← hd] at hg
    have hd2 : l.drop (p + (put (x - m)).length) = enc (deltas (x + 1) r) ++ t := by rw [← List.drop_drop, hd, List.drop_left]
    have ih := readN_enc r (x + 1) l t (p + (put (x - m)).length) (by omega) h2 hd2
    rw [List.length_cons, readN, hg]
    simp only []
    rw [if_neg (by omega), show m + (x - m) + 1 = x + 1 by omega, ih, show m + (x - m) = x by omega, deltas, enc_cons, List.length_append]
    simp only [Option.some.injEq, Prod.mk.injEq, true_and]
    omega

theorem readP_enc {xs : List Int} {l t : List Int} {p : Nat} (h : rises xs = true) (hd : l.drop p = enc (nums xs) ++ t) : readP l p = some (xs, p + (enc (nums xs)).length) := by
  simp only [rises, Bool.and_eq_true, decide_eq_true_eq] at h
  rw [nums, enc_cons, List.append_assoc] at hd
  have hg := getH_put (xs.length : Int) (enc (deltas 0 xs) ++ t) (by omega) (by unfold Top; omega)
  rw [← hd] at hg
  have hd2 : l.drop (p + (put (xs.length : Int)).length) = enc (deltas 0 xs) ++ t := by rw [← List.drop_drop, hd, List.drop_left]
  rw [readP, hg]
  simp only []
  rw [if_neg (by omega), show ((xs.length : Int)).toNat = xs.length by omega, readN_enc xs 0 l t _ (by omega) h.2 hd2, nums, enc_cons, List.length_append]
  simp only [Option.some.injEq, Prod.mk.injEq, true_and]
  omega

/-- Cut off it is none. -/
theorem readN_cut : ∀ (xs : List Int) (m : Int) (l : List Int) (p j : Nat), 0 ≤ m → risingB m xs = true → j < (enc (deltas m xs)).length → l.drop p = (enc (deltas m xs)).take j → readN xs.length m l p = none
  | [], m, l, p, j, _, _, hj, _ => by simp [deltas, enc] at hj
  | x :: r, m, l, p, j, h0, h, hj, hd => by
    obtain ⟨h1, h2⟩ := rising_head h
    rw [deltas, enc_cons] at hj hd
    rw [List.length_cons, readN]
    by_cases hp : j < (put (x - m)).length
    · rw [List.take_append_of_le_length (by omega)] at hd
      rw [hd, getH_cut5 (by omega) hp]
    · obtain ⟨i, rfl⟩ : ∃ i, j = (put (x - m)).length + i := ⟨j - (put (x - m)).length, by omega⟩
      rw [List.take_length_add_append] at hd
      have hg := getH_put (x - m) ((enc (deltas (x + 1) r)).take i) (by omega) (by unfold Top; omega)
      rw [← hd] at hg
      have hd2 : l.drop (p + (put (x - m)).length) = (enc (deltas (x + 1) r)).take i := by rw [← List.drop_drop, hd, List.drop_left]
      have ih := readN_cut r (x + 1) l (p + (put (x - m)).length) i (by omega) h2 (by simp at hj; omega) hd2
      rw [hg]
      simp only []
      rw [if_neg (by omega), show m + (x - m) + 1 = x + 1 by omega, ih]

theorem readP_cut {xs : List Int} {l : List Int} {p j : Nat} (h : rises xs = true) (hj : j < (enc (nums xs)).length) (hd : l.drop p = (enc (nums xs)).take j) : readP l p = none := by
  simp only [rises, Bool.and_eq_true, decide_eq_true_eq] at h
  rw [nums, enc_cons] at hj hd
  rw [readP]
  by_cases hp : j < (put (xs.length : Int)).length
  · rw [List.take_append_of_le_length (by omega)] at hd
    rw [hd, getH_cut5 (by omega) hp]
  · obtain ⟨i, rfl⟩ : ∃ i, j = (put (xs.length : Int)).length + i := ⟨j - (put (xs.length : Int)).length, by omega⟩
    rw [List.take_length_add_append] at hd
    have hg := getH_put (xs.length : Int) ((enc (deltas 0 xs)).take i) (by omega) (by unfold Top; omega)
    rw [← hd] at hg
    have hd2 : l.drop (p + (put (xs.length : Int)).length) = (enc (deltas 0 xs)).take i := by rw [← List.drop_drop, hd, List.drop_left]
    rw [hg]
    simp only []
    rw [if_neg (by omega), show ((xs.length : Int)).toNat = xs.length by omega]
    exact readN_cut xs 0 l _ i (by omega) h.2 (by simp at hj; omega) hd2

/-- What is read rises, and is written by just these bytes. -/
theorem readN_back : ∀ (c : Nat) (m : Int) (l : List Int) (p : Nat) (xs : List Int) (q : Nat), Byt l → 0 ≤ m → p ≤ l.length → readN c m l p = some (xs, q) →
    p ≤ q ∧ q ≤ l.length ∧ xs.length = c ∧ risingB m xs = true ∧ enc (deltas m xs) = (l.drop p).take (q - p)
  | 0, m, l, p, xs, q, _, _, hp, h => by
    simp [readN] at h
    obtain ⟨rfl, rfl⟩ := h
    simp [risingB, deltas, enc, hp]
  | c + 1, m, l, p, xs, q, hb, h0, hp, h => by
    rw [readN] at h
    cases hg : getH 5 (l.drop p) with
    | none => rw [hg] at h; simp at h
    | some x =>
      obtain ⟨s, k⟩ := x
      rw [hg] at h
      simp only [] at h
      obtain ⟨g1, g2, g3, g4, g5⟩ := put_getH (hb.drop p) hg
      unfold Top at g3
      simp only [List.length_drop] at g5
      split at h
      · simp at h
      · cases hr : readN c (m + s + 1) l (p + k) with
        | none => rw [hr] at h; simp at h
        | some y =>
          obtain ⟨r, q'⟩ := y
          rw [hr] at h
          simp at h
          obtain ⟨rfl, rfl⟩ := h
          obtain ⟨i1, i2, i3, i4, i5⟩ := readN_back c (m + s + 1) l (p + k) r q' hb (by omega) (by omega) hr
          refine ⟨by omega, i2, by simp [i3], ?_, ?_⟩
          · rw [rising_cons (by omega)]; exact i4
          · rw [deltas, enc_cons, show m + s - m = s by omega, g1, i5, ← List.drop_drop]
            obtain ⟨d, rfl⟩ : ∃ d, q' = p + k + d := ⟨q' - (p + k), by omega⟩
            rw [show p + k + d - (p + k) = d by omega, show p + k + d - p = k + d by omega, List.take_add]

theorem readP_back {l : List Int} {p : Nat} {xs : List Int} {q : Nat} (hb : Byt l) (hp : p ≤ l.length) (h : readP l p = some (xs, q)) :
    p < q ∧ q ≤ l.length ∧ rises xs = true ∧ enc (nums xs) = (l.drop p).take (q - p) := by
  rw [readP] at h
  cases hg : getH 5 (l.drop p) with
  | none => rw [hg] at h; simp at h
  | some x =>
    obtain ⟨s, k⟩ := x
    rw [hg] at h
    simp only [] at h
    obtain ⟨g1, g2, g3, g4, g5⟩ := put_getH (hb.drop p) hg
    simp only [List.length_drop] at g5
    split at h
    · simp at h
    · obtain ⟨i1, i2, i3, i4, i5⟩ := readN_back s.toNat 0 l (p + k) xs q hb (by omega) (by omega) h
      refine ⟨by omega, i2, ?_, ?_⟩
      · simp only [rises, Bool.and_eq_true, decide_eq_true_eq]
        exact ⟨by omega, i4⟩
      · rw [nums, enc_cons, show (xs.length : Int) = s by omega, g1, i5, ← List.drop_drop]
        obtain ⟨d, rfl⟩ : ∃ d, q = p + k + d := ⟨q - (p + k), by omega⟩
        rw [show p + k + d - (p + k) = d by omega, show p + k + d - p = k + d by omega, List.take_add]

end Go.Proofs.YtonhehhmnobciaaGreat.V

/-
  What follows of the bytes of numbers, in plain mathematics: no number's bytes begin another one's; greater numbers have no fewer bytes.
-/
namespace Go.Proofs.YtonhehhmnobciaaGreat.V

theorem putF_mono : ∀ (f : Nat) (a b : Int), 0 ≤ a → a ≤ b → (putF f a).length ≤ (putF f b).length
  | 0, _, _, _, _ => by simp [putF]
  | f + 1, a, b, h0, h => by
    by_cases ha : 128 ≤ a
    · have ih := putF_mono f (a / 128) (b / 128) (by omega) (by omega)
      have hb : 128 ≤ b := by omega
      rw [putF, if_pos ha, putF, if_pos hb]
      simp [ih]
    · have := (putF_len (f + 1) b).1
      rw [putF, if_neg ha]
      simpa using this

theorem put_mono {a b : Int} (h0 : 0 ≤ a) (h : a ≤ b) : (put a).length ≤ (put b).length := putF_mono 4 a b h0 h

/-- If the bytes of a begin those of b, both are the same number. -/
theorem put_begin {a b : Int} (ha : 0 ≤ a ∧ a ≤ 34359738367) (hb : 0 ≤ b ∧ b ≤ 34359738367) (h : put a = (put b).take (put a).length) : a = b := by
  have h1 := getH_put a ((put b).drop (put a).length) ha.1 ha.2
  have h2 := getH_put b [] hb.1 hb.2
  have e : put a ++ (put b).drop (put a).length = put b := by
    have := List.take_append_drop (put a).length (put b)
    rw [← h] at this
    exact this
  rw [e] at h1
  rw [List.append_nil, h1] at h2
  simp at h2
  exact h2.1

theorem put_apart {a b : Int} {k : Nat} (ha : 0 ≤ a ∧ a ≤ 34359738367) (hb : 0 ≤ b ∧ b ≤ 34359738367) (hne : a ≠ b) (hk : (k = (put a).length ∧ k ≤ (put b).length) ∨ (k = (put b).length ∧ k ≤ (put a).length)) :
    decide ((put a).take k = (put b).take k) = false := by
  apply decide_eq_false
  intro h
  rcases hk with ⟨rfl, _⟩ | ⟨rfl, _⟩
  · rw [List.take_length] at h
    exact hne (put_begin ha hb h)
  · rw [List.take_length] at h
    exact hne (put_begin hb ha h.symm).symm

theorem putA_zero (n : Int) : ((((putA n).length : Int) == 0) = true ∧ putA n = [] ∧ ¬ (0 ≤ n ∧ n ≤ 34359738367)) ∨ ((((putA n).length : Int) == 0) = false ∧ putA n = put n ∧ 0 < (putA n).length ∧ (0 ≤ n ∧ n ≤ 34359738367)) := by
  by_cases h : 0 ≤ n ∧ n ≤ 34359738367
  · right
    have := (put_len n).1
    rw [putA_in h]
    exact ⟨by rw [beq_eq_false_iff_ne]; omega, rfl, by omega, h⟩
  · left
    rw [putA_out h]
    exact ⟨rfl, rfl, h⟩

end Go.Proofs.YtonhehhmnobciaaGreat.V

/-
  The plain mathematics of the sum (CRC-32C): one bit, eight bits, a byte, a row of bytes. No program is named here.
-/
namespace Go.Proofs.YtonhehhmnobciaaGreat.C

/-- The lowest bit is taken away; if it was set, the pattern is laid over the rest. -/
def bit (s : Nat) : Nat := if s % 2 = 1 then s / 2 ^^^ 2197175160 else s / 2

def step : Nat → Nat → Nat
  | 0, s => s
  | k + 1, s => step k (bit s)

/-- One byte is handed to the sum. -/
def byte (s : Nat) (c : Int) : Nat := step 8 (s ^^^ c.toNat)

def fold (s : Nat) (l : List Int) : Nat := l.foldl byte s

/-- The sum of a row of bytes. -/
def sum (l : List Int) : Nat := 4294967295 - fold 4294967295 l

theorem bit_lt {s : Nat} (h : s < 4294967296) : bit s < 4294967296 := by
  unfold bit
  split
  · exact Nat.xor_lt_two_pow (n := 32) (by omega) (by omega)
  · omega

theorem step_lt : ∀ (k s : Nat), s < 4294967296 → step k s < 4294967296
  | 0, _, h => h
  | k + 1, _, h => step_lt k _ (bit_lt h)

theorem byt_nat {c : Int} (h : 0 ≤ c ∧ c ≤ 255) : c.toNat < 256 := by omega

theorem xor_lt {a b : Nat} (ha : a < 4294967296) (hb : b < 4294967296) : a ^^^ b < 4294967296 := Nat.xor_lt_two_pow (n := 32) ha hb

theorem byte_lt {s : Nat} {c : Int} (h : s < 4294967296) (hc : c ≤ 255) : byte s c < 4294967296 := step_lt 8 _ (xor_lt h (by omega))

theorem fold_lt : ∀ (l : List Int) (s : Nat), V.Byt l → s < 4294967296 → fold s l < 4294967296
  | [], _, _, h => h
  | _ :: r, _, hb, h => fold_lt r _ hb.tail (byte_lt h hb.head.2)

theorem sum_lt (l : List Int) : sum l < 4294967296 := by unfold sum; omega

theorem fold_app (s : Nat) (a b : List Int) : fold s (a ++ b) = fold (fold s a) b := by simp [fold, List.foldl_append]
theorem fold_nil (s : Nat) : fold s [] = s := rfl
theorem fold_cons (s : Nat) (c : Int) (r : List Int) : fold s (c :: r) = fold (byte s c) r := rfl

theorem fold_take {l : List Int} {k : Nat} (s : Nat) (h : k < l.length) : fold s (l.take (k + 1)) = byte (fold s (l.take k)) l[k] := by
  rw [List.take_succ_eq_append_getElem h, fold_app]; rfl

theorem step_more (k s : Nat) (h : k < 8) : step (8 - k) s = step (8 - (k + 1)) (bit s) := by
  rw [show 8 - k = (8 - (k + 1)) + 1 by omega]; rfl

end Go.Proofs.YtonhehhmnobciaaGreat.C

/-
  The plain mathematics of frames: what is wrapped, and what is opened. No program is named here.
-/
namespace Go.Proofs.YtonhehhmnobciaaGreat
set_option maxRecDepth 100000

/-- The four bytes of a sum, the lowest one first. -/
def C.four (s : Nat) : List Int := [(s % 256 : Nat), (s / 256 % 256 : Nat), (s / 65536 % 256 : Nat), (s / 16777216 % 256 : Nat)]

theorem C.four_len (s : Nat) : (C.four s).length = 4 := rfl
theorem C.four_byt (s : Nat) : V.Byt (C.four s) := by
  intro c hc
  simp only [C.four, List.mem_cons, List.not_mem_nil, or_false] at hc
  omega

namespace F

/-- A frame but for its sum. -/
def body (kind : Int) (b : List Int) : List Int := [70, kind] ++ V.put b.length ++ b

def frame (kind : Int) (b : List Int) : List Int := body kind b ++ C.four (C.sum (body kind b))

/-- What Wrap answers. -/
def wrap (kind : Int) (b : List Int) : List Int := if b.length ≤ 65536 then frame kind b else []

theorem body_len (kind : Int) (b : List Int) : (body kind b).length = 2 + (V.put b.length).length + b.length := by simp [body]; omega
theorem frame_len (kind : Int) (b : List Int) : (frame kind b).length = 6 + (V.put b.length).length + b.length := by
  simp only [frame, List.length_append, body_len, C.four_len]; omega
theorem wrap_in {kind : Int} {b : List Int} (h : b.length ≤ 65536) : wrap kind b = frame kind b := if_pos h
theorem wrap_out {kind : Int} {b : List Int} (h : ¬ b.length ≤ 65536) : wrap kind b = [] := if_neg h

theorem body_byt {kind : Int} {b : List Int} (hk : 0 ≤ kind ∧ kind ≤ 255) (hb : V.Byt b) (hl : b.length ≤ 65536) : V.Byt (body kind b) := by
  refine V.Byt.app (V.Byt.app ?_ (V.put_byt _ (by omega) (by unfold V.Top; omega))) hb
  intro c hc
  simp at hc
  omega

theorem frame_byt {kind : Int} {b : List Int} (hk : 0 ≤ kind ∧ kind ≤ 255) (hb : V.Byt b) (hl : b.length ≤ 65536) : V.Byt (frame kind b) :=
  (body_byt hk hb hl).app (C.four_byt _)

/-- What Open answers behind the first two bytes, which are right: n within, from place p on. -/
def rest (l : List Int) (n p : Nat) : List Int × Int :=
  if C.four (C.sum (l.take (p + n))) = l.drop (p + n) then ((l.drop p).take n, 0) else ([], 6)

/-- What Open answers: what is within, and the error. -/
def opened (l : List Int) (kind : Int) : List Int × Int :=
  match l with
  | c0 :: c1 :: r =>
    if c0 = 70 ∧ c1 = kind then
      match V.getH 5 r with
      | none => ([], 5)
      | some (n, k) => if n ≤ 65536 ∧ (l.length : Int) = 2 + k + n + 4 then rest l n.toNat (2 + k) else ([], 5)
    else ([], 5)
  | _ => ([], 5)

theorem opened_short {l : List Int} {kind : Int} (h : l.length < 2) : opened l kind = ([], 5) := by
  match l with
  | [] => rfl
  | [_] => rfl
  | _ :: _ :: _ => simp at h; omega
theorem opened_head {c0 c1 : Int} {r : List Int} {kind : Int} (h : ¬ (c0 = 70 ∧ c1 = kind)) : opened (c0 :: c1 :: r) kind = ([], 5) := by
  simp only [opened]; rw [if_neg h]
theorem opened_none {r : List Int} {kind : Int} (h : V.getH 5 r = none) : opened (70 :: kind :: r) kind = ([], 5) := by
  simp only [opened, and_self, if_true, h]
theorem opened_size {r : List Int} {kind n : Int} {k : Nat} (h : V.getH 5 r = some (n, k)) (hn : ¬ (n ≤ 65536 ∧ ((70 :: kind :: r).length : Int) = 2 + k + n + 4)) : opened (70 :: kind :: r) kind = ([], 5) := by
  simp only [opened, and_self, if_true, h]; rw [if_neg hn]
theorem opened_rest {r : List Int} {kind : Int} {n k : Nat} (h : V.getH 5 r = some ((n : Int), k)) (hn : n ≤ 65536) (hl : (70 :: kind :: r).length = 2 + k + n + 4) : opened (70 :: kind :: r) kind = rest (70 :: kind :: r) n (2 + k) := by
  simp only [opened, and_self, if_true, h]; rw [if_pos ⟨by omega, by omega⟩]; simp

end F
end Go.Proofs.YtonhehhmnobciaaGreat

/-
  What follows of frames, in plain mathematics: what is wrapped is opened as it; what is cut, or has more behind it, is none; what is opened, wrapped again, is the same.
-/
namespace Go.Proofs.YtonhehhmnobciaaGreat.F

theorem frame_cons (kind : Int) (b : List Int) : frame kind b = 70 :: kind :: (V.put b.length ++ (b ++ C.four (C.sum (body kind b)))) := by
  simp [frame, body]

theorem body_take {l r : List Int} {kind : Int} {n k : Nat} (hlr : l = 70 :: kind :: r) (hp : V.put n = r.take k) (hlen : l.length = 2 + k + n + 4) :
    body kind ((l.drop (2 + k)).take n) = l.take (2 + k + n) := by
  have hx : ((l.drop (2 + k)).take n).length = n := by simp; omega
  have e : l.take (2 + k + n) = l.take (2 + k) ++ (l.drop (2 + k)).take n := by
    rw [List.take_add]
  unfold body
  rw [hx, hp, e]
  congr 1
  rw [hlr, show 2 + k = k + 1 + 1 by omega]
  simp

/-- What the document's Open asks, whether the frame of what is within is all, is whether the sum is right. -/
theorem wrap_same {l r : List Int} {kind : Int} {n k : Nat} (hlr : l = 70 :: kind :: r) (hp : V.put n = r.take k) (hn : n ≤ 65536) (hlen : l.length = 2 + k + n + 4) :
    (wrap kind ((l.drop (2 + k)).take n) = l) ↔ C.four (C.sum (l.take (2 + k + n))) = l.drop (2 + k + n) := by
  have hx : ((l.drop (2 + k)).take n).length = n := by simp; omega
  rw [wrap_in (by omega), frame, body_take hlr hp hlen]
  constructor
  · intro h
    conv at h => rhs; rw [← List.take_append_drop (2 + k + n) l]
    exact List.append_cancel_left h
  · intro h
    rw [h, List.take_append_drop]

theorem opened_frame {kind : Int} {b : List Int} (h : b.length ≤ 65536) : opened (frame kind b) kind = (b, 0) := by
  have hg := V.getH_put b.length (b ++ C.four (C.sum (body kind b))) (by omega) (by unfold V.Top; omega)
  have hl : (frame kind b).length = 2 + (V.put b.length).length + b.length + 4 := by rw [frame_len]; omega
  have hc := frame_cons kind b
  rw [hc] at hl ⊢
  rw [opened_rest hg h hl, ← hc]
  have hbl : (body kind b).length = 2 + (V.put b.length).length + b.length := body_len kind b
  have e1 : (frame kind b).take (2 + (V.put b.length).length + b.length) = body kind b := by
    rw [frame, ← hbl, List.take_left]
  have e2 : (frame kind b).drop (2 + (V.put b.length).length + b.length) = C.four (C.sum (body kind b)) := by
    rw [frame, ← hbl, List.drop_left]
  unfold rest
  rw [e1, e2, if_pos rfl]
  have e3 : frame kind b = ([70, kind] ++ V.put b.length) ++ (b ++ C.four (C.sum (body kind b))) := by simp [frame, body]
  have e4 : 2 + (V.put b.length).length = ([70, kind] ++ V.put b.length).length := by simp; omega
  rw [e3, e4, List.drop_left, List.take_left]

theorem opened_other {kind other : Int} {b : List Int} (h : kind ≠ other) : opened (frame kind b) other = ([], 5) := by
  rw [frame_cons]
  exact opened_head (fun h2 => h h2.2)

theorem opened_more {kind : Int} {b more : List Int} (h : b.length ≤ 65536) (hm : 0 < more.length) : opened (frame kind b ++ more) kind = ([], 5) := by
  have hg := V.getH_put b.length (b ++ C.four (C.sum (body kind b)) ++ more) (by omega) (by unfold V.Top; omega)
  have hl := frame_len kind b
  rw [frame_cons] at hl ⊢
  simp only [List.cons_append, List.append_assoc] at hg ⊢
  refine opened_size hg (fun hc => ?_)
  simp only [List.length_cons, List.length_append] at hl hc
  omega

theorem opened_cut {kind : Int} {b : List Int} {cut : Nat} (h : b.length ≤ 65536) (hc : cut < (frame kind b).length) : opened ((frame kind b).take cut) kind = ([], 5) := by
  by_cases h2 : cut < 2
  · exact opened_short (by simp; omega)
  · obtain ⟨j, rfl⟩ : ∃ j, cut = j + 1 + 1 := ⟨cut - 2, by omega⟩
    have hl := frame_len kind b
    rw [frame_cons] at hc hl ⊢
    simp only [List.take_succ_cons]
    by_cases hj : j < (V.put b.length).length
    · refine opened_none ?_
      rw [List.take_append_of_le_length (by omega)]
      exact V.getH_cut 4 b.length j (by omega) hj
    · obtain ⟨i, rfl⟩ : ∃ i, j = (V.put b.length).length + i := ⟨j - (V.put b.length).length, by omega⟩
      rw [List.take_length_add_append]
      have hg := V.getH_put b.length ((b ++ C.four (C.sum (body kind b))).take i) (by omega) (by unfold V.Top; omega)
      refine opened_size hg (fun hx => ?_)
      simp only [List.length_cons, List.length_append, List.length_take] at hl hx hc
      omega

/-- What Open answers: a frame's within, or nothing and one of the two errors. -/
theorem opened_cases {l : List Int} {kind : Int} (hb : V.Byt l) : (opened l kind = ([], 5) ∨ opened l kind = ([], 6)) ∨ ((opened l kind).2 = 0 ∧ (opened l kind).1.length ≤ 65536 ∧ V.Byt (opened l kind).1 ∧ wrap kind (opened l kind).1 = l) := by
  by_cases h2 : l.length < 2
  · exact .inl (.inl (opened_short h2))
  · obtain ⟨c0, c1, r, hlr⟩ : ∃ c0 c1 r, l = c0 :: c1 :: r := by
      match l, h2 with
      | [], h2 => simp at h2
      | [_], h2 => simp at h2
      | c0 :: c1 :: r, _ => exact ⟨c0, c1, r, rfl⟩
    by_cases hh : c0 = 70 ∧ c1 = kind
    · obtain ⟨rfl, rfl⟩ := hh
      cases hg : V.getH 5 r with
      | none => exact .inl (.inl (by rw [hlr]; exact opened_none hg))
      | some y =>
        obtain ⟨n, k⟩ := y
        have hbr : V.Byt r := by rw [hlr] at hb; exact hb.tail.tail
        obtain ⟨g1, g2, g3, g4, g5⟩ := V.put_getH hbr hg
        obtain ⟨m, rfl⟩ := Int.eq_ofNat_of_zero_le g2
        by_cases hn : m ≤ 65536 ∧ l.length = 2 + k + m + 4
        · have e : opened l c1 = rest l m (2 + k) := by rw [hlr]; rw [hlr] at hn; exact opened_rest hg hn.1 hn.2
          have ws := wrap_same hlr g1 hn.1 hn.2
          rw [e]
          unfold rest
          by_cases hd : C.four (C.sum (l.take (2 + k + m))) = l.drop (2 + k + m)
          · right
            rw [if_pos hd]
            refine ⟨rfl, ?_, ?_, ws.2 hd⟩
            · simp; omega
            · exact (hb.drop _).take _
          · left; right
            rw [if_neg hd]
        · exact .inl (.inl (by rw [hlr]; rw [hlr] at hn; exact opened_size hg (by omega)))
    · exact .inl (.inl (by rw [hlr]; exact opened_head hh))

end Go.Proofs.YtonhehhmnobciaaGreat.F

/-
  The sum laid over: of rows that are laid over one another the sum is that of theirs; bytes within four in a row that are other ones turn it. Plain mathematics; no program is named here.
-/
namespace Go.Proofs.YtonhehhmnobciaaGreat.C

def dig : Nat → Nat → List Int
  | 0, _ => []
  | m + 1, t => ((t % 256 : Nat) : Int) :: dig m (t / 256)

theorem bit_xor (a b : Nat) : bit (a ^^^ b) = bit a ^^^ bit b := by
  have hm := Nat.xor_mod_two_eq_one (a := a) (b := b)
  have hd : (a ^^^ b) / 2 = a / 2 ^^^ b / 2 := Nat.xor_div_two
  unfold bit
  rw [hd]
  by_cases ha : a % 2 = 1
  · by_cases hb : b % 2 = 1
    · rw [if_neg (by rw [hm]; simp [ha, hb]), if_pos ha, if_pos hb]
      rw [Nat.xor_assoc, Nat.xor_comm 2197175160, Nat.xor_assoc (b / 2), Nat.xor_self, Nat.xor_zero]
    · rw [if_pos (by rw [hm]; simp [ha, hb]), if_pos ha, if_neg hb]
      rw [Nat.xor_assoc, Nat.xor_assoc, Nat.xor_comm 2197175160]
  · by_cases hb : b % 2 = 1
    · rw [if_pos (by rw [hm]; simp [ha, hb]), if_neg ha, if_pos hb]
      rw [Nat.xor_assoc]
    · rw [if_neg (by rw [hm]; simp [ha, hb]), if_neg ha, if_neg hb]

theorem step_xor : ∀ (k a b : Nat), step k (a ^^^ b) = step k a ^^^ step k b
  | 0, _, _ => rfl
  | k + 1, a, b => by rw [step, step, step, bit_xor, step_xor k]

theorem step_add : ∀ (j k s : Nat), step (j + k) s = step j (step k s)
  | j, 0, _ => rfl
  | j, k + 1, s => by rw [show j + (k + 1) = (j + k) + 1 by omega, step, step, step_add j k]

theorem step_two : ∀ (k t : Nat), step k (2 ^ k * t) = t
  | 0, t => by simp [step]
  | k + 1, t => by
    have h : bit (2 ^ (k + 1) * t) = 2 ^ k * t := by
      have e : 2 ^ (k + 1) * t = 2 * (2 ^ k * t) := by rw [Nat.pow_succ]; rw [Nat.mul_comm (2 ^ k) 2, Nat.mul_assoc]
      unfold bit
      rw [e, if_neg (by omega)]
      omega
    rw [step, h, step_two k]

theorem step_zero : ∀ k : Nat, step k 0 = 0
  | 0 => rfl
  | k + 1 => by rw [step, show bit 0 = 0 from rfl, step_zero k]

theorem bit_null {t : Nat} (ht : t < 4294967296) (h : bit t = 0) : t = 0 := by
  unfold bit at h
  split at h
  · have h2 : t / 2 = 2197175160 := by
      have h3 := congrArg (fun z => z ^^^ 2197175160) h
      simpa only [Nat.xor_assoc, Nat.xor_self, Nat.xor_zero, Nat.zero_xor] using h3
    omega
  · omega

theorem step_null : ∀ (k t : Nat), t < 4294967296 → step k t = 0 → t = 0
  | 0, _, _, h => h
  | k + 1, t, ht, h => bit_null ht (step_null k (bit t) (bit_lt ht) h)

/-- A number is its lowest eight bits and the rest. -/
theorem parts (t : Nat) : t % 256 ^^^ 256 * (t / 256) = t := by
  apply Nat.eq_of_testBit_eq
  intro i
  rw [Nat.testBit_xor, show 256 = 2 ^ 8 from rfl, Nat.testBit_mod_two_pow, Nat.testBit_two_pow_mul, Nat.testBit_div_two_pow]
  by_cases h : i < 8
  · simp [h, show ¬ 8 ≤ i by omega]
  · simp [h, show 8 ≤ i by omega]

theorem byte_parts (s t : Nat) : byte s ((t % 256 : Nat) : Int) ^^^ t / 256 = step 8 (s ^^^ t) := by
  have h := step_two 8 (t / 256)
  conv => lhs; rw [← h]
  unfold byte
  rw [Int.toNat_natCast, ← step_xor, Nat.xor_assoc, show (2 : Nat) ^ 8 = 256 from rfl, parts]

/-- The bytes of a number, handed over one by one, are the number laid over the sum at once. -/
theorem fold_dig : ∀ (m s t : Nat), fold s (dig m t) ^^^ t / 256 ^ m = step (8 * m) (s ^^^ t)
  | 0, s, t => by simp [dig, fold, step]
  | m + 1, s, t => by
    have ih := fold_dig m (byte s ((t % 256 : Nat) : Int)) (t / 256)
    rw [dig, fold_cons, Nat.pow_succ, Nat.mul_comm (256 ^ m), ← Nat.div_div_eq_div_mul, ih, byte_parts, show 8 * (m + 1) = 8 * m + 8 by omega, step_add]

theorem not_xor {a : Nat} (ha : a < 4294967296) : 4294967295 - a = 4294967295 ^^^ a := by
  have h1 : (BitVec.allOnes 32 ^^^ BitVec.ofNat 32 a).toNat = (~~~ BitVec.ofNat 32 a).toNat := by rw [BitVec.allOnes_xor]
  rw [BitVec.toNat_xor, BitVec.toNat_not, BitVec.toNat_allOnes, BitVec.toNat_ofNat, Nat.mod_eq_of_lt (by omega)] at h1
  simpa using h1.symm

/-- All bytes of a row with its sum behind it leave the same. -/
theorem fold_whole {l : List Int} (hb : V.Byt l) : fold 4294967295 (l ++ dig 4 (sum l)) = step 32 4294967295 := by
  have hl := fold_lt l 4294967295 hb (by omega)
  have hs := sum_lt l
  have h := fold_dig 4 (fold 4294967295 l) (sum l)
  rw [show sum l / 256 ^ 4 = 0 from Nat.div_eq_of_lt (by omega), Nat.xor_zero] at h
  rw [fold_app, h, sum, not_xor hl, Nat.xor_comm 4294967295, ← Nat.xor_assoc, Nat.xor_self, Nat.zero_xor]

/-- A sum that is begun with more: what is more goes through. -/
theorem fold_from : ∀ (l : List Int) (s d : Nat), fold (s ^^^ d) l = fold s l ^^^ step (8 * l.length) d
  | [], _, _ => rfl
  | c :: r, s, d => by
    have h : byte (s ^^^ d) c = byte s c ^^^ step 8 d := by
      unfold byte
      rw [← step_xor, Nat.xor_assoc, Nat.xor_comm d, ← Nat.xor_assoc]
    rw [fold_cons, h, fold_from r, ← step_add, fold_cons]
    rfl

/-- One byte laid over another one. -/
def x2 (a b : Int) : Int := ((a.toNat ^^^ b.toNat : Nat) : Int)

theorem byte_x2 (s : Nat) (c e : Int) : byte s (x2 c e) = byte s c ^^^ step 8 e.toNat := by
  unfold byte x2
  rw [Int.toNat_natCast, ← Nat.xor_assoc, step_xor]

theorem x2_byt {a b : Int} (ha : 0 ≤ a ∧ a ≤ 255) (hb : 0 ≤ b ∧ b ≤ 255) : 0 ≤ x2 a b ∧ x2 a b ≤ 255 := by
  have h : a.toNat ^^^ b.toNat < 2 ^ 8 := Nat.xor_lt_two_pow (by omega) (by omega)
  unfold x2
  omega

/-- One byte of a row is turned. -/
theorem fold_set {l : List Int} {p : Nat} (s : Nat) (e : Int) (hp : p < l.length) : fold s (l.set p (x2 l[p] e)) = fold s l ^^^ step (8 * (l.length - p)) e.toNat := by
  have h1 : l.set p (x2 l[p] e) = l.take p ++ x2 l[p] e :: l.drop (p + 1) := by
    rw [List.set_eq_take_append_cons_drop, if_pos hp]
  have h2 : l = l.take p ++ l[p] :: l.drop (p + 1) := by
    rw [← List.drop_eq_getElem_cons hp, List.take_append_drop]
  have h3 : fold s l = fold (byte (fold s (l.take p)) l[p]) (l.drop (p + 1)) := by
    conv => lhs; rw [h2]
    rw [fold_app, fold_cons]
  rw [h1, fold_app, fold_cons, byte_x2, fold_from, h3, ← step_add]
  congr 2
  simp
  omega

/-- A byte that stands i places behind the first one that may be turned: as if it stood there, that much higher. -/
theorem step_high (D i e : Nat) (hi : i ≤ D) : step (8 * (D - i)) e = step (8 * D) (256 ^ i * e) := by
  have h := step_two (8 * i) e
  rw [show (2 : Nat) ^ (8 * i) = 256 ^ i by rw [Nat.pow_mul]] at h
  rw [show 8 * D = 8 * (D - i) + 8 * i by omega, step_add, h]

theorem high_add {i acc e : Nat} (h : acc < 256 ^ i) : acc ^^^ 256 ^ i * e = acc + 256 ^ i * e := by
  have e1 : (256 : Nat) ^ i = 2 ^ (8 * i) := by rw [Nat.pow_mul]
  rw [e1] at h ⊢
  rw [Nat.xor_comm]
  apply Nat.eq_of_testBit_eq
  intro j
  rw [Nat.add_comm, Nat.testBit_xor, Nat.testBit_two_pow_mul, Nat.testBit_two_pow_mul_add _ h]
  by_cases hj : j < 8 * i
  · simp [hj, show ¬ 8 * i ≤ j by omega]
  · have hz : acc.testBit j = false := Nat.testBit_lt_two_pow (Nat.lt_of_lt_of_le h (Nat.pow_le_pow_right (by omega) (by omega)))
    simp [hj, show 8 * i ≤ j by omega, hz]

end Go.Proofs.YtonhehhmnobciaaGreat.C

/-
  What follows of the sum, in plain mathematics: three rows laid over one another; a frame of which bytes within four in a row are turned.
-/
namespace Go.Proofs.YtonhehhmnobciaaGreat
set_option maxRecDepth 100000

theorem C.dig_four (s : Nat) : C.dig 4 s = C.four s := by
  simp only [C.dig, C.four, Nat.div_div_eq_div_mul]

namespace C

/-- Three rows laid over one another, as far as all go. -/
def mix : List Int → List Int → List Int → List Int
  | a :: as, b :: bs, c :: cs => x2 (x2 a b) c :: mix as bs cs
  | _, _, _ => []

theorem mix_len : ∀ (a b c : List Int), a.length ≤ b.length → a.length ≤ c.length → (mix a b c).length = a.length
  | [], _, _, _, _ => by simp [mix]
  | _ :: _, [], _, h, _ => by simp at h
  | _ :: _, _ :: _, [], _, h => by simp at h
  | a :: as, b :: bs, c :: cs, h1, h2 => by
    simp only [List.length_cons] at h1 h2
    simp [mix, mix_len as bs cs (by omega) (by omega)]

theorem mix_byt : ∀ (a b c : List Int), V.Byt a → V.Byt b → V.Byt c → V.Byt (mix a b c)
  | [], _, _, _, _, _ => by intro x hx; simp [mix] at hx
  | _ :: _, [], _, _, _, _ => by intro x hx; simp [mix] at hx
  | _ :: _, _ :: _, [], _, _, _ => by intro x hx; simp [mix] at hx
  | a :: as, b :: bs, c :: cs, h1, h2, h3 => by
    intro x hx
    rcases List.mem_cons.1 hx with h | h
    · rw [h]; exact x2_byt (x2_byt h1.head h2.head) h3.head
    · exact mix_byt as bs cs h1.tail h2.tail h3.tail x h

theorem mix_snoc : ∀ (a b c : List Int) (x y z : Int), a.length = b.length → a.length = c.length → mix (a ++ [x]) (b ++ [y]) (c ++ [z]) = mix a b c ++ [x2 (x2 x y) z]
  | [], [], [], _, _, _, _, _ => rfl
  | [], _ :: _, _, _, _, _, h, _ => by simp at h
  | [], [], _ :: _, _, _, _, _, h => by simp at h
  | _ :: _, [], _, _, _, _, h, _ => by simp at h
  | _ :: _, _ :: _, [], _, _, _, _, h => by simp at h
  | a :: as, b :: bs, c :: cs, x, y, z, h1, h2 => by
    simp only [List.length_cons] at h1 h2
    have ih := mix_snoc as bs cs x y z (by omega) (by omega)
    simp only [List.cons_append, mix, ih]

theorem mix_take {a b c : List Int} {k : Nat} (ha : k < a.length) (hb : k < b.length) (hc : k < c.length) :
    mix (a.take (k + 1)) (b.take (k + 1)) (c.take (k + 1)) = mix (a.take k) (b.take k) (c.take k) ++ [x2 (x2 a[k] b[k]) c[k]] := by
  rw [List.take_succ_eq_append_getElem ha, List.take_succ_eq_append_getElem hb, List.take_succ_eq_append_getElem hc]
  exact mix_snoc _ _ _ _ _ _ (by simp; omega) (by simp; omega)

theorem byte_mix (r s t : Nat) (a b c : Int) : byte (r ^^^ s ^^^ t) (x2 (x2 a b) c) = byte r a ^^^ byte s b ^^^ byte t c := by
  unfold byte x2
  rw [Int.toNat_natCast, Int.toNat_natCast, ← step_xor, ← step_xor]
  congr 1
  apply Nat.eq_of_testBit_eq
  intro i
  simp only [Nat.testBit_xor]
  cases r.testBit i <;> cases s.testBit i <;> cases t.testBit i <;> cases a.toNat.testBit i <;> cases b.toNat.testBit i <;> cases c.toNat.testBit i <;> rfl

theorem fold_mix : ∀ (a b c : List Int) (r s t : Nat), a.length = b.length → a.length = c.length → fold (r ^^^ s ^^^ t) (mix a b c) = fold r a ^^^ fold s b ^^^ fold t c
  | [], [], [], _, _, _, _, _ => rfl
  | [], _ :: _, _, _, _, _, h, _ => by simp at h
  | [], [], _ :: _, _, _, _, _, h => by simp at h
  | _ :: _, [], _, _, _, _, h, _ => by simp at h
  | _ :: _, _ :: _, [], _, _, _, _, h => by simp at h
  | a :: as, b :: bs, c :: cs, r, s, t, h1, h2 => by
    simp only [List.length_cons] at h1 h2
    rw [mix, fold_cons, byte_mix, fold_mix as bs cs _ _ _ (by omega) (by omega)]
    rfl

theorem sum_mix {a b c : List Int} (ha : V.Byt a) (hb : V.Byt b) (hc : V.Byt c) (h1 : a.length = b.length) (h2 : a.length = c.length) : sum (mix a b c) = sum a ^^^ sum b ^^^ sum c := by
  have h := fold_mix a b c 4294967295 4294967295 4294967295 h1 h2
  rw [Nat.xor_self, Nat.zero_xor] at h
  have la := fold_lt a 4294967295 ha (by omega)
  have lb := fold_lt b 4294967295 hb (by omega)
  have lc := fold_lt c 4294967295 hc (by omega)
  have lm := fold_lt (mix a b c) 4294967295 (mix_byt a b c ha hb hc) (by omega)
  unfold sum
  rw [not_xor la, not_xor lb, not_xor lc, not_xor lm, h]
  apply Nat.eq_of_testBit_eq
  intro i
  simp only [Nat.testBit_xor]
  cases Nat.testBit 4294967295 i <;> cases (fold 4294967295 a).testBit i <;> cases (fold 4294967295 b).testBit i <;> cases (fold 4294967295 c).testBit i <;> rfl

end C

namespace F

theorem frame_fold {kind : Int} {b : List Int} (hk : 0 ≤ kind ∧ kind ≤ 255) (hb : V.Byt b) (hl : b.length ≤ 65536) : C.fold 4294967295 (frame kind b) = C.step 32 4294967295 := by
  rw [frame, ← C.dig_four]
  exact C.fold_whole (body_byt hk hb hl)

/-- What a frame has become of which the first i bytes from p on were turned, by a number whose bytes these are. -/
structure Turned (W cur : List Int) (p i acc : Nat) : Prop where
  len : cur.length = W.length
  byt : V.Byt cur
  small : acc < 256 ^ i
  fold : C.fold 4294967295 cur = C.fold 4294967295 W ^^^ C.step (8 * (W.length - p)) acc

theorem Turned.start {W : List Int} (p : Nat) (hb : V.Byt W) : Turned W W p 0 0 := ⟨rfl, hb, by simp, by rw [C.step_zero, Nat.xor_zero]⟩

theorem Turned.more {W cur : List Int} {p i acc : Nat} {e : Int} (h : Turned W cur p i acc) (he : 0 ≤ e ∧ e ≤ 255) (hp : p + i < cur.length) :
    Turned W (cur.set (p + i) (C.x2 cur[p + i] e)) p (i + 1) (acc + 256 ^ i * e.toNat) := by
  obtain ⟨h1, h2, h3, h4⟩ := h
  refine ⟨by simp [h1], ?_, ?_, ?_⟩
  · intro c hc
    rcases List.mem_or_eq_of_mem_set hc with h | h
    · exact h2 c h
    · rw [h]; exact C.x2_byt (h2 _ (List.getElem_mem _)) he
  · have : 256 ^ i * e.toNat ≤ 256 ^ i * 255 := Nat.mul_le_mul_left _ (by omega)
    rw [Nat.pow_succ]
    omega
  · rw [C.fold_set 4294967295 e hp, h4, h1, show W.length - (p + i) = (W.length - p) - i by omega, C.step_high (W.length - p) i _ (by omega), Nat.xor_assoc, ← C.step_xor, C.high_add h3]

/-- A frame of which something within four bytes in a row was turned is none. -/
theorem Turned.none {kind : Int} {b cur : List Int} {p i acc : Nat} (hk : 0 ≤ kind ∧ kind ≤ 255) (hb : V.Byt b) (hl : b.length ≤ 65536) (h : Turned (frame kind b) cur p i acc) (hi : i ≤ 4) (ha : acc ≠ 0) :
    opened cur kind = ([], 5) ∨ opened cur kind = ([], 6) := by
  rcases opened_cases (kind := kind) h.byt with h5 | ⟨-, h1, h2, h3⟩
  · exact h5
  · exfalso
    apply ha
    have hs : acc < 4294967296 := by
      have := h.small
      have h4 : (256 : Nat) ^ i ≤ 256 ^ 4 := Nat.pow_le_pow_right (by omega) hi
      omega
    apply C.step_null (8 * ((frame kind b).length - p)) acc hs
    rw [wrap_in h1] at h3
    have f1 := frame_fold hk h2 h1
    have f2 := frame_fold hk hb hl
    have f3 := h.fold
    rw [h3] at f1
    rw [f1, f2] at f3
    have f4 := congrArg (fun z => C.step 32 4294967295 ^^^ z) f3
    simp only [← Nat.xor_assoc, Nat.xor_self, Nat.zero_xor] at f4
    exact f4.symm

end F
end Go.Proofs.YtonhehhmnobciaaGreat
