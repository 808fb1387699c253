/-
  Texts put together: Plain, PlainList.
-/

/-
  The plain mathematics of layer 1: the bytes of a number, the number of bytes, rising lists. No program is named here.
-/
namespace Go.Proofs.Ytefnkbgkcjhkoaa.V

/-- The greatest number that is written. -/
abbrev Top : Int := 34359738367

/-- The bytes of n, at most f + 1 of them. -/
def putF : Nat → Int → List Int
  | 0, n => [n]
  | f + 1, n => if 128 ≤ n then (n % 128 + 128) :: putF f (n / 128) else [n]

def put (n : Int) : List Int := putF 4 n

/-- The number whose bytes begin l, and how many these are, of at most f. -/
def getH : Nat → List Int → Option (Int × Nat)
  | 0, _ => none
  | _ + 1, [] => none
  | f + 1, c :: r => if c < 128 then some (c, 1) else
    match getH f r with
    | none => none
    | some (n, k) => if n = 0 then none else some (c - 128 + 128 * n, k + 1)

/-- What Get answers: number, place behind, error. -/
def get (l : List Int) (at' : Int) : Int × Int × Int :=
  if at' < 0 ∨ (l.length : Int) < at' then (0, 0, 1) else
  match getH 5 (l.drop at'.toNat) with
  | none => (0, 0, 5)
  | some (n, k) => (n, at' + k, 0)

def Byt (l : List Int) : Prop := ∀ c ∈ l, 0 ≤ c ∧ c ≤ 255

theorem Byt.drop {l : List Int} (h : Byt l) (n : Nat) : Byt (l.drop n) := fun c hc => h c (List.mem_of_mem_drop hc)
theorem Byt.take {l : List Int} (h : Byt l) (n : Nat) : Byt (l.take n) := fun c hc => h c (List.mem_of_mem_take hc)
theorem Byt.tail {c : Int} {l : List Int} (h : Byt (c :: l)) : Byt l := fun x hx => h x (List.mem_cons_of_mem _ hx)
theorem Byt.head {c : Int} {l : List Int} (h : Byt (c :: l)) : 0 ≤ c ∧ c ≤ 255 := h c (List.mem_cons_self ..)
theorem Byt.app {a b : List Int} (ha : Byt a) (hb : Byt b) : Byt (a ++ b) := fun c hc => by
  rcases List.mem_append.1 hc with h | h
  · exact ha c h
  · exact hb c h

theorem putF_byt : ∀ (f : Nat) (n : Int), 0 ≤ n → n < 128 ^ (f + 1) → Byt (putF f n)
  | 0, n, h0, h1 => by
    intro c hc
    simp [putF] at hc
    subst hc
    have : (128 : Int) ^ (0 + 1) = 128 := rfl
    omega
  | f + 1, n, h0, h1 => by
    unfold putF
    have e : (128 : Int) ^ (f + 1 + 1) = 128 ^ (f + 1) * 128 := rfl
    split
    · have ih := putF_byt f (n / 128) (by omega) (by rw [e] at h1; omega)
      intro c hc
      rcases List.mem_cons.1 hc with h | h
      · omega
      · exact ih c h
    · intro c hc
      simp at hc
      omega

theorem put_byt (n : Int) (h0 : 0 ≤ n) (h1 : n ≤ Top) : Byt (put n) := putF_byt 4 n h0 (by
  have : (128 : Int) ^ (4 + 1) = 34359738368 := by decide
  unfold Top at h1; omega)

theorem putF_len : ∀ (f : Nat) (n : Int), 1 ≤ (putF f n).length ∧ (putF f n).length ≤ f + 1
  | 0, n => by simp [putF]
  | f + 1, n => by
    unfold putF
    split
    · have := putF_len f (n / 128); simp; omega
    · simp

theorem put_len (n : Int) : 1 ≤ (put n).length ∧ (put n).length ≤ 5 := putF_len 4 n

/-- What is put is read, whatever stands behind. -/
theorem getH_putF : ∀ (f : Nat) (n : Int) (t : List Int), 0 ≤ n → n < 128 ^ (f + 1) → getH (f + 1) (putF f n ++ t) = some (n, (putF f n).length)
  | 0, n, t, h0, h1 => by
    have : (128 : Int) ^ (0 + 1) = 128 := rfl
    simp [putF, getH]
    omega
  | f + 1, n, t, h0, h1 => by
    have e : (128 : Int) ^ (f + 1 + 1) = 128 ^ (f + 1) * 128 := rfl
    unfold putF
    by_cases h : 128 ≤ n
    · have ih := getH_putF f (n / 128) t (by omega) (by rw [e] at h1; omega)
      simp only [h, if_true, List.cons_append, getH]
      rw [if_neg (by omega), ih]
      simp only
      rw [if_neg (by omega)]
      simp
      omega
    · simp only [h, if_false, List.cons_append, List.nil_append, getH]
      rw [if_pos (by omega)]
      simp

theorem getH_put (n : Int) (t : List Int) (h0 : 0 ≤ n) (h1 : n ≤ Top) : getH 5 (put n ++ t) = some (n, (put n).length) := getH_putF 4 n t h0 (by
  have : (128 : Int) ^ (4 + 1) = 34359738368 := by decide
  unfold Top at h1; omega)

/-- Cut off, they are none. -/
theorem getH_cut : ∀ (f : Nat) (n : Int) (j : Nat), 0 ≤ n → j < (putF f n).length → getH (f + 1) ((putF f n).take j) = none
  | 0, n, j, h0, h1 => by
    simp [putF] at h1
    subst h1
    simp [getH]
  | f + 1, n, j, h0, h1 => by
    unfold putF at h1 ⊢
    by_cases h : 128 ≤ n
    · simp only [h, if_true] at h1 ⊢
      cases j with
      | zero => simp [getH]
      | succ j =>
        have ih := getH_cut f (n / 128) j (by omega) (by simpa using h1)
        simp only [List.take_succ_cons, getH]
        rw [if_neg (by omega), ih]
    · simp only [h, if_false] at h1 ⊢
      simp at h1
      subst h1
      simp [getH]

/-- What is read is put by just these bytes. -/
theorem putF_getH : ∀ (f : Nat) (l : List Int) (n : Int) (k : Nat), Byt l → getH (f + 1) l = some (n, k) → putF f n = l.take k ∧ 0 ≤ n ∧ n < 128 ^ (f + 1) ∧ 1 ≤ k ∧ k ≤ l.length
  | f, [], n, k, _, h => by simp [getH] at h
  | 0, c :: r, n, k, hb, h => by
    have : (128 : Int) ^ (0 + 1) = 128 := rfl
    have hc := hb.head
    simp only [getH] at h
    split at h
    · simp at h
      obtain ⟨rfl, rfl⟩ := h
      simp [putF]
      omega
    · simp at h
  | f + 1, c :: r, n, k, hb, h => by
    have e : (128 : Int) ^ (f + 1 + 1) = 128 ^ (f + 1) * 128 := rfl
    have hc := hb.head
    rw [getH] at h
    split at h
    · simp at h
      obtain ⟨rfl, rfl⟩ := h
      have hp : (0 : Int) < 128 ^ (f + 1) := Int.pow_pos (by omega)
      rw [e]
      unfold putF
      rw [if_neg (by omega)]
      refine ⟨rfl, by omega, by omega, by omega, by simp⟩
    · split at h
      · simp at h
      · rename_i m j hg
        split at h
        · simp at h
        · simp at h
          obtain ⟨rfl, rfl⟩ := h
          obtain ⟨h1, h2, h3, h4, h5⟩ := putF_getH f r m j hb.tail hg
          rw [e]
          unfold putF
          rw [if_pos (by omega), show (c - 128 + 128 * m) / 128 = m by omega, show (c - 128 + 128 * m) % 128 + 128 = c by omega, h1]
          refine ⟨by simp, by omega, by omega, by omega, by simpa using h5⟩

theorem put_getH {l : List Int} {n : Int} {k : Nat} (hb : Byt l) (h : getH 5 l = some (n, k)) : put n = l.take k ∧ 0 ≤ n ∧ n ≤ Top ∧ 1 ≤ k ∧ k ≤ l.length := by
  obtain ⟨h1, h2, h3, h4, h5⟩ := putF_getH 4 l n k hb h
  have : (128 : Int) ^ (4 + 1) = 34359738368 := by decide
  exact ⟨h1, h2, by unfold Top; omega, h4, h5⟩

/-! ### Get, byte by byte from the left: what has been read so far, and what is still to come -/

def pw : Nat → Int
  | 0 => 1
  | 1 => 128
  | 2 => 16384
  | 3 => 2097152
  | 4 => 268435456
  | _ => 34359738368

/-- acc has been read of i bytes; r is what comes of the rest. -/
def comb (i : Nat) (acc : Int) (r : Option (Int × Nat)) : Option (Int × Nat) :=
  match r with
  | none => none
  | some (m, k) => if 0 < i ∧ m = 0 then none else some (acc + pw i * m, i + k)

theorem comb_zero (r : Option (Int × Nat)) : comb 0 0 r = r := by
  cases r with
  | none => rfl
  | some x => obtain ⟨m, k⟩ := x; simp [comb, pw]

theorem comb_more {i : Nat} {acc c : Int} {r : List Int} (hi : i < 5) (hc : 128 ≤ c) (hc2 : c ≤ 255) (hbr : Byt r) :
    comb i acc (getH (5 - i) (c :: r)) = comb (i + 1) (acc + pw i * (c % 128)) (getH (4 - i) r) := by
  obtain ⟨f, hf⟩ : ∃ f, 4 - i = f := ⟨_, rfl⟩
  rw [show 5 - i = f + 1 by omega, hf, getH, if_neg (by omega)]
  cases hg : getH f r with
  | none => rfl
  | some x =>
    obtain ⟨m, k⟩ := x
    have hm : 0 ≤ m := by
      cases f with
      | zero => simp [getH] at hg
      | succ f => exact (putF_getH f r m k hbr hg).2.1
    simp only []
    by_cases h0 : m = 0
    · subst h0
      simp [comb]
    · rw [if_neg h0]
      simp only [comb]
      rw [if_neg (by omega), if_neg (by omega)]
      simp only [Option.some.injEq, Prod.mk.injEq]
      refine ⟨?_, by omega⟩
      match i, hi with
      | 0, _ => simp only [pw]; omega
      | 1, _ => simp only [pw]; omega
      | 2, _ => simp only [pw]; omega
      | 3, _ => simp only [pw]; omega
      | 4, _ => simp only [pw]; omega

theorem comb_zero_byte {i : Nat} {acc : Int} {r : List Int} (hi : i < 5) (h0 : 0 < i) : comb i acc (getH (5 - i) (0 :: r)) = none := by
  rw [show 5 - i = 4 - i + 1 by omega, getH, if_pos (by omega)]
  simp [comb, h0]

theorem comb_last {i : Nat} {acc c : Int} {r : List Int} (hi : i < 5) (hc : c < 128) (h0 : ¬ (c = 0 ∧ 0 < i)) : comb i acc (getH (5 - i) (c :: r)) = some (acc + pw i * c, i + 1) := by
  rw [show 5 - i = 4 - i + 1 by omega, getH, if_pos hc]
  simp only [comb]
  rw [if_neg (by omega)]

theorem comb_end (acc : Int) (i f : Nat) : comb i acc (getH f []) = none := by cases f <;> rfl
theorem comb_five (acc : Int) (l : List Int) : comb 5 acc (getH (5 - 5) l) = none := rfl

/-! ### Many numbers -/

def enc (ns : List Int) : List Int := ns.flatMap put

theorem enc_nil : enc [] = [] := rfl
theorem enc_app (a b : List Int) : enc (a ++ b) = enc a ++ enc b := by simp [enc]
theorem enc_one (n : Int) : enc [n] = put n := by simp [enc]
theorem enc_cons (n : Int) (r : List Int) : enc (n :: r) = put n ++ enc r := by simp [enc]

theorem enc_len : ∀ ns : List Int, (enc ns).length ≤ 5 * ns.length
  | [] => by simp [enc]
  | n :: r => by
    have := enc_len r
    have h := (put_len n).2
    rw [enc_cons, List.length_append, List.length_cons]
    omega

theorem enc_take {ns : List Int} {k : Nat} (h : k < ns.length) : enc (ns.take (k + 1)) = enc (ns.take k) ++ put ns[k] := by
  rw [List.take_succ_eq_append_getElem h, enc_app, enc_one]

theorem enc_take_len (ns : List Int) (k : Nat) : (enc (ns.take k)).length ≤ 5 * k := by
  have := enc_len (ns.take k)
  have h : (ns.take k).length ≤ k := List.length_take_le _ _
  omega

theorem enc_byt {ns : List Int} (h : ∀ n ∈ ns, 0 ≤ n ∧ n ≤ Top) : Byt (enc ns) := by
  intro c hc
  obtain ⟨n, hn, hc⟩ := List.mem_flatMap.1 hc
  exact put_byt n (h n hn).1 (h n hn).2 c hc

/-- One byte more of a number that is being written. -/
theorem putF_more {f : Nat} {m : Int} (h : 128 ≤ m) (hf : m < 128 ^ (f + 1)) : ∃ g, f = g + 1 ∧ putF f m = (m % 128 + 128) :: putF g (m / 128) ∧ m / 128 < 128 ^ (g + 1) := by
  cases f with
  | zero => exact absurd hf (by have : (128 : Int) ^ (0 + 1) = 128 := rfl; omega)
  | succ g =>
    have e : (128 : Int) ^ (g + 1 + 1) = 128 ^ (g + 1) * 128 := rfl
    rw [e] at hf
    exact ⟨g, rfl, by rw [putF, if_pos h], by omega⟩

theorem putF_done {f : Nat} {m : Int} (h : ¬ 128 ≤ m) : putF f m = [m] := by
  cases f with
  | zero => rfl
  | succ g => rw [putF, if_neg h]

theorem lt_p5 {x : Int} (h : x ≤ 34359738367) : x < 128 ^ (4 + 1) := by
  have : (128 : Int) ^ (4 + 1) = 34359738368 := by decide
  omega

/-- What Put answers for whatever number. -/
def putA (n : Int) : List Int := if 0 ≤ n ∧ n ≤ 34359738367 then put n else []

theorem putA_in {n : Int} (h : 0 ≤ n ∧ n ≤ 34359738367) : putA n = put n := if_pos h
theorem putA_out {n : Int} (h : ¬ (0 ≤ n ∧ n ≤ 34359738367)) : putA n = [] := if_neg h
theorem putA_len (n : Int) : (putA n).length ≤ 5 := by
  unfold putA
  split
  · exact (put_len n).2
  · simp
theorem putA_byt (n : Int) : Byt (putA n) := by
  unfold putA
  split
  · rename_i h; exact put_byt n h.1 h.2
  · intro c hc; simp at hc

end Go.Proofs.Ytefnkbgkcjhkoaa.V

/-
  The plain mathematics of rising lists: which rise, their bytes, and the list of bytes. No program is named here.
-/
namespace Go.Proofs.Ytefnkbgkcjhkoaa.V

theorem getH_cut5 {n : Int} {j : Nat} (h0 : 0 ≤ n) (h : j < (put n).length) : getH 5 ((put n).take j) = none := getH_cut 4 n j h0 h

def risingB : Int → List Int → Bool
  | _, [] => true
  | m, x :: r => decide (m ≤ x ∧ x ≤ 34359738367) && risingB (x + 1) r

def rises (l : List Int) : Bool := decide (l.length ≤ 2000) && risingB 0 l

def deltas : Int → List Int → List Int
  | _, [] => []
  | m, x :: r => (x - m) :: deltas (x + 1) r

def nums (l : List Int) : List Int := (l.length : Int) :: deltas 0 l
def riseA (l : List Int) : List Int := if rises l then enc (nums l) else []
def riseE (l : List Int) : Int := if rises l then 0 else 1

theorem rising_cons {m x : Int} {r : List Int} (h : m ≤ x ∧ x ≤ 34359738367) : risingB m (x :: r) = risingB (x + 1) r := by simp [risingB, h]
theorem rising_not {m x : Int} {r : List Int} (h : ¬ (m ≤ x ∧ x ≤ 34359738367)) : risingB m (x :: r) = false := by simp only [risingB, h, decide_false, Bool.false_and]
theorem rising_head {m x : Int} {r : List Int} (h : risingB m (x :: r) = true) : (m ≤ x ∧ x ≤ 34359738367) ∧ risingB (x + 1) r = true := by simpa [risingB] using h

theorem deltas_len : ∀ (m : Int) (l : List Int), (deltas m l).length = l.length
  | _, [] => rfl
  | m, x :: r => by simp [deltas, deltas_len (x + 1) r]

theorem deltas_bd : ∀ (m : Int) (l : List Int), 0 ≤ m → risingB m l = true → ∀ n ∈ deltas m l, 0 ≤ n ∧ n ≤ 34359738367
  | _, [], _, _ => by simp [deltas]
  | m, x :: r, h0, h => by
    have ⟨h1, h2⟩ := rising_head h
    have ih := deltas_bd (x + 1) r (by omega) h2
    intro n hn
    rcases List.mem_cons.1 hn with e | e
    · omega
    · exact ih n e

theorem nums_bd {l : List Int} (h : rises l = true) : ∀ n ∈ nums l, 0 ≤ n ∧ n ≤ 34359738367 := by
  simp only [rises, Bool.and_eq_true, decide_eq_true_eq] at h
  intro n hn
  rcases List.mem_cons.1 hn with e | e
  · omega
  · exact deltas_bd 0 l (by omega) h.2 n e

theorem nums_len (l : List Int) : (nums l).length = l.length + 1 := by simp [nums, deltas_len]

theorem riseA_byt (l : List Int) : Byt (riseA l) := by
  unfold riseA
  split
  · rename_i h; exact enc_byt (nums_bd h)
  · intro c hc; simp at hc
theorem riseA_len {l : List Int} : (riseA l).length ≤ 5 * (l.length + 1) := by
  unfold riseA
  split
  · have := enc_len (nums l); rw [nums_len] at this; omega
  · simp

/-! ### Read -/

def readN : Nat → Int → List Int → Nat → Option (List Int × Nat)
  | 0, _, _, p => some ([], p)
  | c + 1, m, l, p =>
    match getH 5 (l.drop p) with
    | none => none
    | some (s, k) => if 34359738367 - m < s then none else
      match readN c (m + s + 1) l (p + k) with
      | none => none
      | some (r, q) => some ((m + s) :: r, q)

def readP (l : List Int) (p : Nat) : Option (List Int × Nat) :=
  match getH 5 (l.drop p) with
  | none => none
  | some (c, k) => if 2000 < c then none else readN c.toNat 0 l (p + k)

def read (l : List Int) (x : Int) : List Int × Int × Int :=
  if x < 0 ∨ (l.length : Int) < x then ([], 0, 1) else
  match readP l x.toNat with
  | none => ([], 0, 5)
  | some (r, q) => (r, (q : Int), 0)

def onto (pre : List Int) : Option (List Int × Nat) → Option (List Int × Nat)
  | none => none
  | some (r, q) => some (pre ++ r, q)

theorem onto_nil (x : Option (List Int × Nat)) : onto [] x = x := by cases x <;> rfl
theorem onto_none (pre : List Int) : onto pre none = none := rfl

theorem onto_step {pre : List Int} {c p k : Nat} {m s : Int} {l : List Int} (hg : getH 5 (l.drop p) = some (s, k)) (hs : ¬ 34359738367 - m < s) :
    onto pre (readN (c + 1) m l p) = onto (pre ++ [m + s]) (readN c (m + s + 1) l (p + k)) := by
  rw [readN, hg]
  simp only []
  rw [if_neg hs]
  cases readN c (m + s + 1) l (p + k) with
  | none => rfl
  | some x => simp [onto]

theorem onto_bad {pre : List Int} {c p : Nat} {m : Int} {l : List Int} (hg : getH 5 (l.drop p) = none) : onto pre (readN (c + 1) m l p) = none := by rw [readN, hg]; rfl
theorem onto_high {pre : List Int} {c p k : Nat} {m s : Int} {l : List Int} (hg : getH 5 (l.drop p) = some (s, k)) (hs : 34359738367 - m < s) : onto pre (readN (c + 1) m l p) = none := by
  rw [readN, hg]
  simp only []
  rw [if_pos hs]
  rfl

/-- What rises is read back. -/
theorem readN_enc : ∀ (xs : List Int) (m : Int) (l t : List Int) (p : Nat), 0 ≤ m → risingB m xs = true → l.drop p = enc (deltas m xs) ++ t → readN xs.length m l p = some (xs, p + (enc (deltas m xs)).length)
  | [], m, l, t, p, _, _, _ => by simp [readN, deltas, enc]
  | x :: r, m, l, t, p, h0, h, hd => by
    obtain ⟨h1, h2⟩ := rising_head h
    rw [deltas, enc_cons, List.append_assoc] at hd
    have hg := getH_put (x - m) (enc (deltas (x + 1) r) ++ t) (by omega) (by unfold Top; omega)
    rw [← hd] at hg
    have hd2 : l.drop (p + (put (x - m)).length) = enc (deltas (x + 1) r) ++ t := by rw [← List.drop_drop, hd, List.drop_left]
    have ih := readN_enc r (x + 1) l t (p + (put (x - m)).length) (by omega) h2 hd2
    rw [List.length_cons, readN, hg]
    simp only []
    rw [if_neg (by omega), show m + (x - m) + 1 = x + 1 by omega, ih, show m + (x - m) = x by omega, deltas, enc_cons, List.length_append]
    simp only [Option.some.injEq, Prod.mk.injEq, true_and]
    omega

theorem readP_enc {xs : List Int} {l t : List Int} {p : Nat} (h : rises xs = true) (hd : l.drop p = enc (nums xs) ++ t) : readP l p = some (xs, p + (enc (nums xs)).length) := by
  simp only [rises, Bool.and_eq_true, decide_eq_true_eq] at h
  rw [nums, enc_cons, List.append_assoc] at hd
  have hg := getH_put (xs.length : Int) (enc (deltas 0 xs) ++ t) (by omega) (by unfold Top; omega)
  rw [← hd] at hg
  have hd2 : l.drop (p + (put (xs.length : Int)).length) = enc (deltas 0 xs) ++ t := by rw [← List.drop_drop, hd, List.drop_left]
  rw [readP, hg]
  simp only []
  rw [if_neg (by omega), show ((xs.length : Int)).toNat = xs.length by omega, readN_enc xs 0 l t _ (by omega) h.2 hd2, nums, enc_cons, List.length_append]
  simp only [Option.some.injEq, Prod.mk.injEq, true_and]
  omega

/-- Cut off it is none. -/
theorem readN_cut : ∀ (xs : List Int) (m : Int) (l : List Int) (p j : Nat), 0 ≤ m → risingB m xs = true → j < (enc (deltas m xs)).length → l.drop p = (enc (deltas m xs)).take j → readN xs.length m l p = none
  | [], m, l, p, j, _, _, hj, _ => by simp [deltas, enc] at hj
  | x :: r, m, l, p, j, h0, h, hj, hd => by
    obtain ⟨h1, h2⟩ := rising_head h
    rw [deltas, enc_cons] at hj hd
    rw [List.length_cons, readN]
    by_cases hp : j < (put (x - m)).length
    · rw [List.take_append_of_le_length (by omega)] at hd
      rw [hd, getH_cut5 (by omega) hp]
    · obtain ⟨i, rfl⟩ : ∃ i, j = (put (x - m)).length + i := ⟨j - (put (x - m)).length, by omega⟩
      rw [List.take_length_add_append] at hd
      have hg := getH_put (x - m) ((enc (deltas (x + 1) r)).take i) (by omega) (by unfold Top; omega)
      rw [← hd] at hg
      have hd2 : l.drop (p + (put (x - m)).length) = (enc (deltas (x + 1) r)).take i := by rw [← List.drop_drop, hd, List.drop_left]
      have ih := readN_cut r (x + 1) l (p + (put (x - m)).length) i (by omega) h2 (by simp at hj; omega) hd2
      rw [hg]
      simp only []
      rw [if_neg (by omega), show m + (x - m) + 1 = x + 1 by omega, ih]

theorem readP_cut {xs : List Int} {l : List Int} {p j : Nat} (h : rises xs = true) (hj : j < (enc (nums xs)).length) (hd : l.drop p = (enc (nums xs)).take j) : readP l p = none := by
  simp only [rises, Bool.and_eq_true, decide_eq_true_eq] at h
  rw [nums, enc_cons] at hj hd
  rw [readP]
  by_cases hp : j < (put (xs.length : Int)).length
  · rw [List.take_append_of_le_length (by omega)] at hd
    rw [hd, getH_cut5 (by omega) hp]
  · obtain ⟨i, rfl⟩ : ∃ i, j = (put (xs.length : Int)).length + i := ⟨j - (put (xs.length : Int)).length, by omega⟩
    rw [List.take_length_add_append] at hd
    have hg := getH_put (xs.length : Int) ((enc (deltas 0 xs)).take i) (by omega) (by unfold Top; omega)
    rw [← hd] at hg
    have hd2 : l.drop (p + (put (xs.length : Int)).length) = (enc (deltas 0 xs)).take i := by rw [← List.drop_drop, hd, List.drop_left]
    rw [hg]
    simp only []
    rw [if_neg (by omega), show ((xs.length : Int)).toNat = xs.length by omega]
    exact readN_cut xs 0 l _ i (by omega) h.2 (by simp at hj; omega) hd2

/-- What is read rises, and is written by just these bytes. -/
theorem readN_back : ∀ (c : Nat) (m : Int) (l : List Int) (p : Nat) (xs : List Int) (q : Nat), Byt l → 0 ≤ m → p ≤ l.length → readN c m l p = some (xs, q) →
    p ≤ q ∧ q ≤ l.length ∧ xs.length = c ∧ risingB m xs = true ∧ enc (deltas m xs) = (l.drop p).take (q - p)
  | 0, m, l, p, xs, q, _, _, hp, h => by
    simp [readN] at h
    obtain ⟨rfl, rfl⟩ := h
    simp [risingB, deltas, enc, hp]
  | c + 1, m, l, p, xs, q, hb, h0, hp, h => by
    rw [readN] at h
    cases hg : getH 5 (l.drop p) with
    | none => rw [hg] at h; simp at h
    | some x =>
      obtain ⟨s, k⟩ := x
      rw [hg] at h
      simp only [] at h
      obtain ⟨g1, g2, g3, g4, g5⟩ := put_getH (hb.drop p) hg
      unfold Top at g3
      simp only [List.length_drop] at g5
      split at h
      · simp at h
      · cases hr : readN c (m + s + 1) l (p + k) with
        | none => rw [hr] at h; simp at h
        | some y =>
          obtain ⟨r, q'⟩ := y
          rw [hr] at h
          simp at h
          obtain ⟨rfl, rfl⟩ := h
          obtain ⟨i1, i2, i3, i4, i5⟩ := readN_back c (m + s + 1) l (p + k) r q' hb (by omega) (by omega) hr
          refine ⟨by omega, i2, by simp [i3], ?_, ?_⟩
          · rw [rising_cons (by omega)]; exact i4
          · rw [deltas, enc_cons, show m + s - m = s by omega, g1, i5, ← List.drop_drop]
            obtain ⟨d, rfl⟩ : ∃ d, q' = p + k + d := ⟨q' - (p + k), by omega⟩
            rw [show p + k + d - (p + k) = d by omega, show p + k + d - p = k + d by omega, List.take_add]

theorem readP_back {l : List Int} {p : Nat} {xs : List Int} {q : Nat} (hb : Byt l) (hp : p ≤ l.length) (h : readP l p = some (xs, q)) :
    p < q ∧ q ≤ l.length ∧ rises xs = true ∧ enc (nums xs) = (l.drop p).take (q - p) := by
  rw [readP] at h
  cases hg : getH 5 (l.drop p) with
  | none => rw [hg] at h; simp at h
  | some x =>
    obtain ⟨s, k⟩ := x
    rw [hg] at h
    simp only [] at h
    obtain ⟨g1, g2, g3, g4, g5⟩ := put_getH (hb.drop p) hg
    simp only [List.length_drop] at g5
    split at h
    · simp at h
    · obtain ⟨i1, i2, i3, i4, i5⟩ := readN_back s.toNat 0 l (p + k) xs q hb (by omega) (by omega) h
      refine ⟨by omega, i2, ?_, ?_⟩
      · simp only [rises, Bool.and_eq_true, decide_eq_true_eq]
        exact ⟨by omega, i4⟩
      · rw [nums, enc_cons, show (xs.length : Int) = s by omega, g1, i5, ← List.drop_drop]
        obtain ⟨d, rfl⟩ : ∃ d, q = p + k + d := ⟨q - (p + k), by omega⟩
        rw [show p + k + d - (p + k) = d by omega, show p + k + d - p = k + d by omega, List.take_add]

end Go.Proofs.Ytefnkbgkcjhkoaa.V
