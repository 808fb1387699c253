/-
  The plain mathematics of layer 1: the bytes of a number, the number of bytes, rising lists. No program is named here.
-/
namespace Go.Proofs.Ytggojmnalmjapaa.V

/-- The greatest number that is written. -/
abbrev Top : Int := 34359738367

/-- The bytes of n, at most f + 1 of them. -/
def putF : Nat → Int → List Int
  | 0, n => [n]
  | f + 1, n => if 128 ≤ n then (n % 128 + 128) :: putF f (n / 128) else [n]

def put (n : Int) : List Int := putF 4 n

/-- The number whose bytes begin l, and how many these are, of at most f. -/
def getH : Nat → List Int → Option (Int × Nat)
  | 0, _ => none
  | _ + 1, [] => none
  | f + 1, c :: r => if c < 128 then some (c, 1) else
    match getH f r with
    | none => none
    | some (n, k) => if n = 0 then none else some (c - 128 + 128 * n, k + 1)

/-- What Get answers: number, place behind, error. -/
def get (l : List Int) (at' : Int) : Int × Int × Int :=
  if at' < 0 ∨ (l.length : Int) < at' then (0, 0, 1) else
  match getH 5 (l.drop at'.toNat) with
  | none => (0, 0, 5)
  | some (n, k) => (n, at' + k, 0)

def Byt (l : List Int) : Prop := ∀ c ∈ l, 0 ≤ c ∧ c ≤ 255

theorem Byt.drop {l : List Int} (h : Byt l) (n : Nat) : Byt (l.drop n) := fun c hc => h c (List.mem_of_mem_drop hc)
theorem Byt.take {l : List Int} (h : Byt l) (n : Nat) : Byt (l.take n) := fun c hc => h c (List.mem_of_mem_take hc)
theorem Byt.tail {c : Int} {l : List Int} (h : Byt (c :: l)) : Byt l := fun x hx => h x (List.mem_cons_of_mem _ hx)
theorem Byt.head {c : Int} {l : List Int} (h : Byt (c :: l)) : 0 ≤ c ∧ c ≤ 255 := h c (List.mem_cons_self ..)
theorem Byt.app {a b : List Int} (ha : Byt a) (hb : Byt b) : Byt (a ++ b) := fun c hc => by
  rcases List.mem_append.1 hc with h | h
  · exact ha c h
  · exact hb c h

theorem putF_byt : ∀ (f : Nat) (n : Int), 0 ≤ n → n < 128 ^ (f + 1) → Byt (putF f n)
  | 0, n, h0, h1 => by
    intro c hc
    simp [putF] at hc
    subst hc
    have : (128 : Int) ^ (0 + 1) = 128 := rfl
    omega
  | f + 1, n, h0, h1 => by
    unfold putF
    have e : (128 : Int) ^ (f + 1 + 1) = 128 ^ (f + 1) * 128 := rfl
    split
    · have ih := putF_byt f (n / 128) (by omega) (by rw [e] at h1; omega)
      intro c hc
      rcases List.mem_cons.1 hc with h | h
      · omega
      · exact ih c h
    · intro c hc
      simp at hc
      omega

theorem put_byt (n : Int) (h0 : 0 ≤ n) (h1 : n ≤ Top) : Byt (put n) := putF_byt 4 n h0 (by
  have : (128 : Int) ^ (4 + 1) = 34359738368 := by decide
  unfold Top at h1; omega)

theorem putF_len : ∀ (f : Nat) (n : Int), 1 ≤ (putF f n).length ∧ (putF f n).length ≤ f + 1
  | 0, n => by simp [putF]
  | f + 1, n => by
    unfold putF
    split
    · have := putF_len f (n / 128); simp; omega
    · simp

theorem put_len (n : Int) : 1 ≤ (put n).length ∧ (put n).length ≤ 5 := putF_len 4 n

/-- What is put is read, whatever stands behind. -/
theorem getH_putF : ∀ (f : Nat) (n : Int) (t : List Int), 0 ≤ n → n < 128 ^ (f + 1) → getH (f + 1) (putF f n ++ t) = some (n, (putF f n).length)
  | 0, n, t, h0, h1 => by
    have : (128 : Int) ^ (0 + 1) = 128 := rfl
    simp [putF, getH]
    omega
  | f + 1, n, t, h0, h1 => by
    have e : (128 : Int) ^ (f + 1 + 1) = 128 ^ (f + 1) * 128 := rfl
    unfold putF
    by_cases h : 128 ≤ n
    · have ih := getH_putF f (n / 128) t (by omega) (by rw [e] at h1; omega)
      simp only [h, if_true, List.cons_append, getH]
      rw [if_neg (by omega), ih]
      simp only
      rw [if_neg (by omega)]
      simp
      omega
    · simp only [h, if_false, List.cons_append, List.nil_append, getH]
      rw [if_pos (by omega)]
      simp

theorem getH_put (n : Int) (t : List Int) (h0 : 0 ≤ n) (h1 : n ≤ Top) : getH 5 (put n ++ t) = some (n, (put n).length) := getH_putF 4 n t h0 (by
  have : (128 : Int) ^ (4 + 1) = 34359738368 := by decide
  unfold Top at h1; omega)

/-- Cut off, they are none. -/
theorem getH_cut : ∀ (f : Nat) (n : Int) (j : Nat), 0 ≤ n → j < (putF f n).length → getH (f + 1) ((putF f n).take j) = none
  | 0, n, j, h0, h1 => by
    simp [putF] at h1
    subst h1
    simp [getH]
  | f + 1, n, j, h0, h1 => by
    unfold putF at h1 ⊢
    by_cases h : 128 ≤ n
    · simp only [h, if_true] at h1 ⊢
      cases j with
      | zero => simp [getH]
      | succ j =>
        have ih := getH_cut f (n / 128) j (by omega) (by simpa using h1)
        simp only [List.take_succ_cons, getH]
        rw [if_neg (by omega), ih]
    · simp only [h, if_false] at h1 ⊢
      simp at h1
      subst h1
      simp [getH]

/-- What is read is put by just these bytes. -/
theorem putF_getH : ∀ (f : Nat) (l : List Int) (n : Int) (k : Nat), Byt l → getH (f + 1) l = some (n, k) → putF f n = l.take k ∧ 0 ≤ n ∧ n < 128 ^ (f + 1) ∧ 1 ≤ k ∧ k ≤ l.length
  | f, [], n, k, _, h => by simp [getH] at h
  | 0, c :: r, n, k, hb, h => by
    have : (128 : Int) ^ (0 + 1) = 128 := rfl
    have hc := hb.head
    simp only [getH] at h
    split at h
    · simp at h
      obtain ⟨rfl, rfl⟩ := h
      simp [putF]
      omega
    · simp at h
  | f + 1, c :: r, n, k, hb, h => by
    have e : (128 : Int) ^ (f + 1 + 1) = 128 ^ (f + 1) * 128 := rfl
    have hc := hb.head
    rw [getH] at h
    split at h
    · simp at h
      obtain ⟨rfl, rfl⟩ := h
      have hp : (0 : Int) < 128 ^ (f + 1) := Int.pow_pos (by omega)
      rw [e]
      unfold putF
      rw [if_neg (by omega)]
      refine ⟨rfl, by omega, by omega, by omega, by simp⟩
    · split at h
      · simp at h
      · rename_i m j hg
        split at h
        · simp at h
        · simp at h
          obtain ⟨rfl, rfl⟩ := h
          obtain ⟨h1, h2, h3, h4, h5⟩ := putF_getH f r m j hb.tail hg
          rw [e]
          unfold putF
          rw [if_pos (by omega), show (c - 128 + 128 * m) / 128 = m by omega, show (c - 128 + 128 * m) % 128 + 128 = c by omega, h1]
          refine ⟨by simp, by omega, by omega, by omega, by simpa using h5⟩

theorem put_getH {l : List Int} {n : Int} {k : Nat} (hb : Byt l) (h : getH 5 l = some (n, k)) : put n = l.take k ∧ 0 ≤ n ∧ n ≤ Top ∧ 1 ≤ k ∧ k ≤ l.length := by
  obtain ⟨h1, h2, h3, h4, h5⟩ := putF_getH 4 l n k hb h
  have : (128 : Int) ^ (4 + 1) = 34359738368 := by decide
  exact ⟨h1, h2, by unfold Top; omega, h4, h5⟩

/-! ### Get, byte by byte from the left: what has been read so far, and what is still to come -/

def pw : Nat → Int
  | 0 => 1
  | 1 => 128
  | 2 => 16384
  | 3 => 2097152
  | 4 => 268435456
  | _ => 34359738368

/-- acc has been read of i bytes; r is what comes of the rest. -/
def comb (i : Nat) (acc : Int) (r : Option (Int × Nat)) : Option (Int × Nat) :=
  match r with
  | none => none
  | some (m, k) => if 0 < i ∧ m = 0 then none else some (acc + pw i * m, i + k)

theorem comb_zero (r : Option (Int × Nat)) : comb 0 0 r = r := by
  cases r with
  | none => rfl
  | some x => obtain ⟨m, k⟩ := x; simp [comb, pw]

theorem comb_more {i : Nat} {acc c : Int} {r : List Int} (hi : i < 5) (hc : 128 ≤ c) (hc2 : c ≤ 255) (hbr : Byt r) :
    comb i acc (getH (5 - i) (c :: r)) = comb (i + 1) (acc + pw i * (c % 128)) (getH (4 - i) r) := by
  obtain ⟨f, hf⟩ : ∃ f, 4 - i = f := ⟨_, rfl⟩
  rw [show 5 - i = f + 1 by omega, hf, getH, if_neg (by omega)]
  cases hg : getH f r with
  | none => rfl
  | some x =>
    obtain ⟨m, k⟩ := x
    have hm : 0 ≤ m := by
      cases f with
      | zero => simp [getH] at hg
      | succ f => exact (putF_getH f r m k hbr hg).2.1
    simp only []
    by_cases h0 : m = 0
    · subst h0
      simp [comb]
    · rw [if_neg h0]
      simp only [comb]
      rw [if_neg (by omega), if_neg (by omega)]
      simp only [Option.some.injEq, Prod.mk.injEq]
      refine ⟨?_, by omega⟩
      match i, hi with
      | 0, _ => simp only [pw]; omega
      | 1, _ => simp only [pw]; omega
      | 2, _ => simp only [pw]; omega
      | 3, _ => simp only [pw]; omega
      | 4, _ => simp only [pw]; omega

theorem comb_zero_byte {i : Nat} {acc : Int} {r : List Int} (hi : i < 5) (h0 : 0 < i) : comb i acc (getH (5 - i) (0 :: r)) = none := by
  rw [show 5 - i = 4 - i + 1 by omega, getH, if_pos (by omega)]
  simp [comb, h0]

theorem comb_last {i : Nat} {acc c : Int} {r : List Int} (hi : i < 5) (hc : c < 128) (h0 : ¬ (c = 0 ∧ 0 < i)) : comb i acc (getH (5 - i) (c :: r)) = some (acc + pw i * c, i + 1) := by
  rw [show 5 - i = 4 - i + 1 by omega, getH, if_pos hc]
  simp only [comb]
  rw [if_neg (by omega)]

theorem comb_end (acc : Int) (i f : Nat) : comb i acc (getH f []) = none := by cases f <;> rfl
theorem comb_five (acc : Int) (l : List Int) : comb 5 acc (getH (5 - 5) l) = none := rfl

/-! ### Many numbers -/

def enc (ns : List Int) : List Int := ns.flatMap put

theorem enc_nil : enc [] = [] := rfl
theorem enc_app (a b : List Int) : enc (a ++ b) = enc a ++ enc b := by simp [enc]
theorem enc_one (n : Int) : enc [n] = put n := by simp [enc]
theorem enc_cons (n : Int) (r : List Int) : enc (n :: r) = put n ++ enc r := by simp [enc]

theorem enc_len : ∀ ns : List Int, (enc ns).length ≤ 5 * ns.length
  | [] => by simp [enc]
  | n :: r => by
    have := enc_len r
    have h := (put_len n).2
    rw [enc_cons, List.length_append, List.length_cons]
    omega

theorem enc_take {ns : List Int} {k : Nat} (h : k < ns.length) : enc (ns.take (k + 1)) = enc (ns.take k) ++ put ns[k] := by
  rw [List.take_succ_eq_append_getElem h, enc_app, enc_one]

theorem enc_take_len (ns : List Int) (k : Nat) : (enc (ns.take k)).length ≤ 5 * k := by
  have := enc_len (ns.take k)
  have h : (ns.take k).length ≤ k := List.length_take_le _ _
  omega

theorem enc_byt {ns : List Int} (h : ∀ n ∈ ns, 0 ≤ n ∧ n ≤ Top) : Byt (enc ns) := by
  intro c hc
  obtain ⟨n, hn, hc⟩ := List.mem_flatMap.1 hc
  exact put_byt n (h n hn).1 (h n hn).2 c hc

/-- One byte more of a number that is being written. -/
theorem putF_more {f : Nat} {m : Int} (h : 128 ≤ m) (hf : m < 128 ^ (f + 1)) : ∃ g, f = g + 1 ∧ putF f m = (m % 128 + 128) :: putF g (m / 128) ∧ m / 128 < 128 ^ (g + 1) := by
  cases f with
  | zero => exact absurd hf (by have : (128 : Int) ^ (0 + 1) = 128 := rfl; omega)
  | succ g =>
    have e : (128 : Int) ^ (g + 1 + 1) = 128 ^ (g + 1) * 128 := rfl
    rw [e] at hf
    exact ⟨g, rfl, by rw [putF, if_pos h], by omega⟩

theorem putF_done {f : Nat} {m : Int} (h : ¬ 128 ≤ m) : putF f m = [m] := by
  cases f with
  | zero => rfl
  | succ g => rw [putF, if_neg h]

theorem lt_p5 {x : Int} (h : x ≤ 34359738367) : x < 128 ^ (4 + 1) := by
  have : (128 : Int) ^ (4 + 1) = 34359738368 := by decide
  omega

/-- What Put answers for whatever number. -/
def putA (n : Int) : List Int := if 0 ≤ n ∧ n ≤ 34359738367 then put n else []

theorem putA_in {n : Int} (h : 0 ≤ n ∧ n ≤ 34359738367) : putA n = put n := if_pos h
theorem putA_out {n : Int} (h : ¬ (0 ≤ n ∧ n ≤ 34359738367)) : putA n = [] := if_neg h
theorem putA_len (n : Int) : (putA n).length ≤ 5 := by
  unfold putA
  split
  · exact (put_len n).2
  · simp
theorem putA_byt (n : Int) : Byt (putA n) := by
  unfold putA
  split
  · rename_i h; exact put_byt n h.1 h.2
  · intro c hc; simp at hc

end Go.Proofs.Ytggojmnalmjapaa.V
