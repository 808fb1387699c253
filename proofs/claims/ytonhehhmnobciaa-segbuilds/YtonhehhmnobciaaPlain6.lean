/-
  The plain mathematics of layer 6, first part: which postings may be, where a document's stands, a place put. No program is named here.
-/
import Derived.Test.YtonhehhmnobciaaPBase
import Derived.Test.YtonhehhmnobciaaPlainList
namespace Go.Proofs.Ytonhehhmnobciaa.Q

/-! ### Rising numbers below an end -/

def riseB : Int → Int → List Int → Bool
  | _, _, [] => true
  | m, z, x :: r => decide (m ≤ x ∧ x < z) && riseB (x + 1) z r

theorem rise_cons {m z x : Int} {r : List Int} (h : m ≤ x ∧ x < z) : riseB m z (x :: r) = riseB (x + 1) z r := by simp [riseB, h]
theorem rise_not {m z x : Int} {r : List Int} (h : ¬ (m ≤ x ∧ x < z)) : riseB m z (x :: r) = false := by simp only [riseB, h, decide_false, Bool.false_and]
theorem rise_head {m z x : Int} {r : List Int} (h : riseB m z (x :: r) = true) : (m ≤ x ∧ x < z) ∧ riseB (x + 1) z r = true := by simpa [riseB] using h

theorem rise_le : ∀ {l : List Int} {m z : Int}, riseB m z l = true → ∀ y ∈ l, m ≤ y ∧ y < z
  | [], _, _, _, y, hy => by simp at hy
  | x :: r, m, z, h, y, hy => by
    obtain ⟨h1, h2⟩ := rise_head h
    rcases List.mem_cons.1 hy with rfl | hy
    · exact h1
    · have := rise_le h2 y hy
      omega

theorem rise_mono : ∀ {l : List Int} {m m' z : Int}, m' ≤ m → riseB m z l = true → riseB m' z l = true
  | [], _, _, _, _, _ => rfl
  | x :: r, m, m', z, hm, h => by
    obtain ⟨h1, h2⟩ := rise_head h
    rw [rise_cons (by omega)]
    exact h2

theorem rise_len : ∀ {l : List Int} {m z : Int}, riseB m z l = true → l ≠ [] → m + (l.length : Int) ≤ z
  | [], _, _, _, h => absurd rfl h
  | [x], m, z, h, _ => by
    have := (rise_head h).1
    simp
    omega
  | x :: y :: r, m, z, h, _ => by
    obtain ⟨h1, h2⟩ := rise_head h
    have := rise_len h2 (by simp)
    simp only [List.length_cons] at this ⊢
    omega

theorem rise_V : ∀ {l : List Int} {m z : Int}, z ≤ 34359738368 → riseB m z l = true → V.risingB m l = true
  | [], _, _, _, _ => rfl
  | x :: r, m, z, hz, h => by
    obtain ⟨h1, h2⟩ := rise_head h
    rw [V.rising_cons (by omega)]
    exact rise_V hz h2

/-- Two rising lists with the same numbers are the same. -/
theorem rise_ext : ∀ {l k : List Int} {m m' z : Int}, riseB m z l = true → riseB m' z k = true → (∀ y, y ∈ l ↔ y ∈ k) → l = k
  | [], [], _, _, _, _, _, _ => rfl
  | [], y :: r, _, _, _, _, _, h => absurd ((h y).2 (by simp)) (by simp)
  | x :: r, [], _, _, _, _, _, h => absurd ((h x).1 (by simp)) (by simp)
  | x :: r, y :: s, m, m', z, h1, h2, h => by
    obtain ⟨_, a2⟩ := rise_head h1
    obtain ⟨_, b2⟩ := rise_head h2
    have ra := rise_le a2
    have rb := rise_le b2
    have hxy : x = y := by
      rcases List.mem_cons.1 ((h x).1 (by simp)) with e | e
      · exact e
      · rcases List.mem_cons.1 ((h y).2 (by simp)) with e' | e'
        · exact e'.symm
        · have := ra y e'
          have := rb x e
          omega
    subst hxy
    congr 1
    refine rise_ext a2 b2 fun u => ?_
    constructor
    · intro hu
      rcases List.mem_cons.1 ((h u).1 (List.mem_cons_of_mem _ hu)) with e | e
      · have := ra u hu; omega
      · exact e
    · intro hu
      rcases List.mem_cons.1 ((h u).2 (List.mem_cons_of_mem _ hu)) with e | e
      · have := rb u hu; omega
      · exact e

/-! ### A number put among rising ones -/

/-- How many stand ahead of x. -/
def ahead (l : List Int) (x : Int) : Nat := (l.takeWhile (fun y => decide (y < x))).length
def ins (l : List Int) (x : Int) : List Int := l.take (ahead l x) ++ x :: l.drop (ahead l x)

theorem ahead_le (l : List Int) (x : Int) : ahead l x ≤ l.length := (List.takeWhile_sublist _).length_le
theorem ahead_cons_lt {y x : Int} {r : List Int} (h : y < x) : ahead (y :: r) x = ahead r x + 1 := by simp [ahead, List.takeWhile, h]
theorem ahead_cons_ge {y x : Int} {r : List Int} (h : ¬ y < x) : ahead (y :: r) x = 0 := by simp [ahead, List.takeWhile, h]

/-- It is the k for which all ahead are less, and the k-th, if there is one, is not. -/
theorem ahead_is : ∀ {l : List Int} {x : Int} {k : Nat}, k ≤ l.length → (∀ i y, i < k → l[i]? = some y → y < x) → (∀ y, l[k]? = some y → ¬ y < x) → ahead l x = k
  | [], _, k, h, _, _ => by simp at h; subst h; rfl
  | y :: r, x, 0, _, _, h2 => ahead_cons_ge (h2 y rfl)
  | y :: r, x, k + 1, h, h1, h2 => by
    rw [ahead_cons_lt (h1 0 y (by omega) rfl), ahead_is (k := k) (by simpa using h) (fun i u hi hu => h1 (i + 1) u (by omega) (by simpa using hu)) (fun u hu => h2 u (by simpa using hu))]

theorem ahead_lt : ∀ {l : List Int} {x : Int} {i : Nat} {y : Int}, i < ahead l x → l[i]? = some y → y < x
  | [], _, i, y, h, hy => by simp at hy
  | u :: r, x, i, y, h, hy => by
    by_cases hu : u < x
    · cases i with
      | zero => simp at hy; omega
      | succ i =>
        rw [ahead_cons_lt hu] at h
        exact ahead_lt (l := r) (i := i) (by omega) (by simpa using hy)
    · rw [ahead_cons_ge hu] at h; omega

theorem ahead_at : ∀ {l : List Int} {x y : Int}, l[ahead l x]? = some y → ¬ y < x
  | [], _, _, h => by simp at h
  | u :: r, x, y, h => by
    by_cases hu : u < x
    · rw [ahead_cons_lt hu] at h
      exact ahead_at (l := r) (by simpa using h)
    · rw [ahead_cons_ge hu] at h
      simp at h
      omega

theorem ins_cons_lt {y x : Int} {r : List Int} (h : y < x) : ins (y :: r) x = y :: ins r x := by simp [ins, ahead_cons_lt h]
theorem ins_cons_ge {y x : Int} {r : List Int} (h : ¬ y < x) : ins (y :: r) x = x :: y :: r := by simp [ins, ahead_cons_ge h]

theorem ins_mem (l : List Int) (x y : Int) : y ∈ ins l x ↔ y = x ∨ y ∈ l := by
  rw [ins, List.mem_append, List.mem_cons]
  conv => rhs; rw [← List.take_append_drop (ahead l x) l, List.mem_append]
  constructor
  · rintro (h | h | h)
    · exact .inr (.inl h)
    · exact .inl h
    · exact .inr (.inr h)
  · rintro (h | h | h)
    · exact .inr (.inl h)
    · exact .inl h
    · exact .inr (.inr h)

theorem ins_len (l : List Int) (x : Int) : (ins l x).length = l.length + 1 := by
  have := ahead_le l x
  simp [ins]
  omega

theorem ins_rise : ∀ {l : List Int} {m z x : Int}, riseB m z l = true → m ≤ x → x < z → x ∉ l → riseB m z (ins l x) = true
  | [], m, z, x, _, h1, h2, _ => by simp [ins, ahead, riseB, h1, h2]
  | y :: r, m, z, x, h, h1, h2, h3 => by
    obtain ⟨a1, a2⟩ := rise_head h
    simp only [List.mem_cons, not_or] at h3
    by_cases hy : y < x
    · rw [ins_cons_lt hy, rise_cons a1]
      exact ins_rise a2 (by omega) h2 h3.2
    · rw [ins_cons_ge hy, rise_cons ⟨h1, h2⟩, rise_cons (by omega)]
      exact a2

/-- In a rising list x stands where as many are ahead, or nowhere. -/
theorem mem_ahead : ∀ {l : List Int} {m z x : Int}, riseB m z l = true → (x ∈ l ↔ l[ahead l x]? = some x)
  | [], _, _, x, _ => by simp
  | y :: r, m, z, x, h => by
    obtain ⟨a1, a2⟩ := rise_head h
    by_cases hy : y < x
    · rw [ahead_cons_lt hy, List.mem_cons]
      have ih := mem_ahead (x := x) a2
      simp only [List.getElem?_cons_succ]
      rw [← ih]
      constructor
      · rintro (e | e)
        · omega
        · exact e
      · exact .inr
    · rw [ahead_cons_ge hy]
      simp only [List.getElem?_cons_zero, Option.some.injEq, List.mem_cons]
      constructor
      · rintro (e | e)
        · exact e.symm
        · have := rise_le a2 x e
          omega
      · exact fun e => .inl e.symm

/-! ### Which postings may be -/

def places (l : List Int) : Bool := riseB 0 120 l && decide (0 < l.length)

def mayB : Int → List Pt → Bool
  | _, [] => true
  | m, p :: r => decide (m ≤ p.d ∧ p.d < 64) && places p.a && mayB (p.d + 1) r
def may (L : List Pt) : Bool := mayB 0 L

theorem may_cons {m : Int} {p : Pt} {r : List Pt} (h : m ≤ p.d ∧ p.d < 64) (hp : places p.a = true) : mayB m (p :: r) = mayB (p.d + 1) r := by simp [mayB, h, hp]
theorem may_not1 {m : Int} {p : Pt} {r : List Pt} (h : ¬ (m ≤ p.d ∧ p.d < 64)) : mayB m (p :: r) = false := by simp only [mayB, h, decide_false, Bool.false_and]
theorem may_not2 {m : Int} {p : Pt} {r : List Pt} (h : places p.a = false) : mayB m (p :: r) = false := by simp only [mayB, h, Bool.and_false, Bool.false_and]
theorem may_head {m : Int} {p : Pt} {r : List Pt} (h : mayB m (p :: r) = true) : (m ≤ p.d ∧ p.d < 64) ∧ places p.a = true ∧ mayB (p.d + 1) r = true := by
  simp only [mayB, Bool.and_eq_true, decide_eq_true_eq] at h
  exact ⟨h.1.1, h.1.2, h.2⟩

theorem may_all : ∀ {L : List Pt} {m : Int}, mayB m L = true → ∀ p ∈ L, (m ≤ p.d ∧ p.d < 64) ∧ places p.a = true
  | [], _, _, p, hp => by simp at hp
  | q :: r, m, h, p, hp => by
    obtain ⟨h1, h2, h3⟩ := may_head h
    rcases List.mem_cons.1 hp with rfl | hp
    · exact ⟨h1, h2⟩
    · have := may_all h3 p hp
      exact ⟨by omega, this.2⟩

theorem may_len : ∀ {L : List Pt} {m : Int}, mayB m L = true → L ≠ [] → m + (L.length : Int) ≤ 64
  | [], _, _, h => absurd rfl h
  | [p], m, h, _ => by
    have := (may_head h).1
    simp
    omega
  | p :: q :: r, m, h, _ => by
    obtain ⟨h1, _, h2⟩ := may_head h
    have := may_len h2 (by simp)
    simp only [List.length_cons] at this ⊢
    omega

theorem may_le {L : List Pt} (h : may L = true) : L.length ≤ 64 := by
  cases L with
  | nil => simp
  | cons p r =>
    have := may_len h (by simp)
    simp only [List.length_cons] at this ⊢
    omega

theorem places_le {l : List Int} (h : places l = true) : 1 ≤ l.length ∧ l.length ≤ 120 := by
  simp only [places, Bool.and_eq_true, decide_eq_true_eq] at h
  have := rise_len h.1 (by intro e; rw [e] at h; simp at h)
  omega
theorem places_rise {l : List Int} (h : places l = true) : riseB 0 120 l = true := by
  simp only [places, Bool.and_eq_true] at h
  exact h.1
theorem places_V {l : List Int} (h : places l = true) : V.rises l = true := by
  have h1 := places_le h
  simp only [V.rises, Bool.and_eq_true, decide_eq_true_eq]
  exact ⟨by omega, rise_V (by omega) (places_rise h)⟩

/-! ### Where a document's posting stands -/

def first (L : List Pt) (d : Int) : Nat := ahead (L.map Pt.d) d
def hasD (L : List Pt) (d : Int) : Bool := decide ((L.map Pt.d)[first L d]? = some d)
def find (L : List Pt) (d : Int) : Int := if may L = true ∧ hasD L d = true then (first L d : Int) else -1

theorem first_le (L : List Pt) (d : Int) : first L d ≤ L.length := by
  have := ahead_le (L.map Pt.d) d
  simpa [first] using this

theorem may_rise : ∀ {L : List Pt} {m : Int}, mayB m L = true → riseB m 64 (L.map Pt.d) = true
  | [], _, _ => rfl
  | p :: r, m, h => by
    obtain ⟨h1, _, h2⟩ := may_head h
    rw [List.map_cons, rise_cons h1]
    exact may_rise h2

theorem find_not {L : List Pt} {d : Int} (h : may L = false) : find L d = -1 := by simp [find, h]
theorem find_none {L : List Pt} {d : Int} (h : hasD L d = false) : find L d = -1 := by simp [find, h]
theorem find_at {L : List Pt} {d : Int} (h : may L = true) (h2 : hasD L d = true) : find L d = first L d := by simp [find, h, h2]

theorem hasD_at {L : List Pt} {d : Int} {p : Pt} (h : L[first L d]? = some p) : hasD L d = decide (p.d = d) := by simp [hasD, List.getElem?_map, h]
theorem hasD_end {L : List Pt} {d : Int} (h : first L d = L.length) : hasD L d = false := by simp [hasD, h]
theorem hasD_mem {L : List Pt} {d m : Int} (h : mayB m L = true) : hasD L d = true ↔ ∃ p ∈ L, p.d = d := by
  have := mem_ahead (x := d) (may_rise h)
  unfold hasD first
  rw [decide_eq_true_iff, ← this]
  simp

/-! ### A place put -/

/-- With the posting of d at its place, or the new one. -/
def putL (L : List Pt) (d x : Int) : List Pt :=
  match L[first L d]? with
  | some p => if p.d = d then L.set (first L d) ⟨d, ins p.a x⟩ else L.take (first L d) ++ ⟨d, [x]⟩ :: L.drop (first L d)
  | none => L.take (first L d) ++ ⟨d, [x]⟩ :: L.drop (first L d)

def hasP (L : List Pt) (d x : Int) : Bool :=
  match L[first L d]? with
  | some p => decide (p.d = d) && decide (x ∈ p.a)
  | none => false

def argB (L : List Pt) (d x : Int) : Bool := may L && decide (0 ≤ d ∧ d ≤ 63) && decide (0 ≤ x ∧ x ≤ 119)
/-- What Put answers: the postings, and the error. -/
def putA (L : List Pt) (d x : Int) : List Pt := if argB L d x = true ∧ hasP L d x = false then putL L d x else L
def putE (L : List Pt) (d x : Int) : Int := if argB L d x = true then (if hasP L d x = true then 3 else 0) else 1

theorem put_arg {L : List Pt} {d x : Int} (h : argB L d x = false) : putA L d x = L ∧ putE L d x = 1 := by simp [putA, putE, h]
theorem put_there {L : List Pt} {d x : Int} (h : argB L d x = true) (h2 : hasP L d x = true) : putA L d x = L ∧ putE L d x = 3 := by simp [putA, putE, h, h2]
theorem put_new {L : List Pt} {d x : Int} (h : argB L d x = true) (h2 : hasP L d x = false) : putA L d x = putL L d x ∧ putE L d x = 0 := by simp [putA, putE, h, h2]

theorem first_cons_lt {p : Pt} {r : List Pt} {d : Int} (h : p.d < d) : first (p :: r) d = first r d + 1 := by simp [first, ahead_cons_lt h]
theorem first_cons_ge {p : Pt} {r : List Pt} {d : Int} (h : ¬ p.d < d) : first (p :: r) d = 0 := by simp [first, ahead_cons_ge h]

theorem putL_nil (d x : Int) : putL [] d x = [⟨d, [x]⟩] := rfl
theorem putL_lt {p : Pt} {r : List Pt} {d x : Int} (h : p.d < d) : putL (p :: r) d x = p :: putL r d x := by
  unfold putL
  rw [first_cons_lt h]
  simp only [List.getElem?_cons_succ]
  cases r[first r d]? with
  | none => rfl
  | some q =>
    simp only []
    split <;> rfl
theorem putL_eq {p : Pt} {r : List Pt} {x : Int} : putL (p :: r) p.d x = ⟨p.d, ins p.a x⟩ :: r := by
  unfold putL
  rw [first_cons_ge (by omega)]
  simp
theorem putL_gt {p : Pt} {r : List Pt} {d x : Int} (h : d < p.d) : putL (p :: r) d x = ⟨d, [x]⟩ :: p :: r := by
  unfold putL
  rw [first_cons_ge (by omega)]
  simp
  omega

theorem hasP_nil (d x : Int) : hasP [] d x = false := rfl
theorem hasP_lt {p : Pt} {r : List Pt} {d x : Int} (h : p.d < d) : hasP (p :: r) d x = hasP r d x := by
  unfold hasP
  rw [first_cons_lt h]
  simp
theorem hasP_eq {p : Pt} {r : List Pt} {x : Int} : hasP (p :: r) p.d x = decide (x ∈ p.a) := by
  unfold hasP
  rw [first_cons_ge (by omega)]
  simp
theorem hasP_gt {p : Pt} {r : List Pt} {d x : Int} (h : d < p.d) : hasP (p :: r) d x = false := by
  unfold hasP
  rw [first_cons_ge (by omega)]
  simp
  omega

theorem putL_may : ∀ {L : List Pt} {m d x : Int}, mayB m L = true → m ≤ d → d < 64 → 0 ≤ x → x < 120 → hasP L d x = false → mayB m (putL L d x) = true
  | [], m, d, x, _, h1, h2, h3, h4, _ => by simp [putL_nil, mayB, places, riseB, h1, h2, h3, h4]
  | p :: r, m, d, x, h, h1, h2, h3, h4, h5 => by
    obtain ⟨a1, a2, a3⟩ := may_head h
    rcases Int.lt_trichotomy p.d d with e | e | e
    · rw [putL_lt e, may_cons a1 a2]
      rw [hasP_lt e] at h5
      exact putL_may a3 (by omega) h2 h3 h4 h5
    · subst e
      rw [putL_eq]
      rw [hasP_eq] at h5
      rw [may_cons (p := ⟨p.d, ins p.a x⟩) a1]
      · exact a3
      · simp only [places, Bool.and_eq_true, decide_eq_true_eq]
        exact ⟨ins_rise (places_rise a2) h3 h4 (by simpa using h5), by rw [ins_len]; omega⟩
    · rw [putL_gt e, may_cons (p := ⟨d, [x]⟩) ⟨h1, h2⟩ (by simp [places, riseB, h3, h4]), may_cons ⟨by show d + 1 ≤ p.d; omega, a1.2⟩ a2]
      exact a3

/-- What is there behind it: what was, and what was put. -/
theorem putL_has : ∀ {L : List Pt} {m d x : Int}, mayB m L = true → ∀ u y, hasP (putL L d x) u y = true ↔ hasP L u y = true ∨ (u = d ∧ y = x)
  | [], m, d, x, _, u, y => by
    rw [putL_nil, hasP_nil]
    rcases Int.lt_trichotomy d u with e | e | e
    · rw [hasP_lt (p := ⟨d, [x]⟩) e, hasP_nil]; simp; omega
    · subst e
      rw [show (⟨d, [x]⟩ : Pt) = ⟨d, [x]⟩ from rfl, hasP_eq (p := ⟨d, [x]⟩)]; simp
    · rw [hasP_gt (p := ⟨d, [x]⟩) e]; simp; omega
  | p :: r, m, d, x, h, u, y => by
    obtain ⟨a1, a2, a3⟩ := may_head h
    rcases Int.lt_trichotomy p.d d with e | e | e
    · rw [putL_lt e]
      rcases Int.lt_trichotomy p.d u with f | f | f
      · rw [hasP_lt f, hasP_lt f]; exact putL_has a3 u y
      · subst f
        rw [hasP_eq, hasP_eq]
        constructor
        · exact .inl
        · rintro (g | g)
          · exact g
          · omega
      · rw [hasP_gt f, hasP_gt f]; simp; omega
    · subst e
      rw [putL_eq]
      rcases Int.lt_trichotomy p.d u with f | f | f
      · rw [hasP_lt (p := ⟨p.d, ins p.a x⟩) f, hasP_lt f]
        constructor
        · exact .inl
        · rintro (g | g)
          · exact g
          · omega
      · subst f
        rw [hasP_eq (p := ⟨p.d, ins p.a x⟩), hasP_eq]
        simp [ins_mem]
        constructor
        · rintro (g | g)
          · exact .inr g
          · exact .inl g
        · rintro (g | g)
          · exact .inr g
          · exact .inl g
      · rw [hasP_gt (p := ⟨p.d, ins p.a x⟩) f, hasP_gt f]; simp; omega
    · rw [putL_gt e]
      rcases Int.lt_trichotomy d u with f | f | f
      · rw [hasP_lt (p := ⟨d, [x]⟩) f]
        constructor
        · exact .inl
        · rintro (g | g)
          · exact g
          · omega
      · subst f
        rw [hasP_eq (p := ⟨d, [x]⟩), hasP_gt e]; simp
      · rw [hasP_gt (p := ⟨d, [x]⟩) f, hasP_gt (by omega)]; simp; omega

/-- Postings that may be, and have the same places, are the same. -/
theorem may_ext : ∀ {L M : List Pt} {m m' : Int}, mayB m L = true → mayB m' M = true → (∀ u y, hasP L u y = true ↔ hasP M u y = true) → L = M
  | [], [], _, _, _, _, _ => rfl
  | [], q :: s, _, _, _, h2, h => by
    obtain ⟨_, b2, _⟩ := may_head h2
    have hl := (places_le b2).1
    obtain ⟨y, hy⟩ : ∃ y, y ∈ q.a := ⟨q.a[0], List.getElem_mem _⟩
    have := (h q.d y).2 (by rw [hasP_eq]; simpa using hy)
    simp [hasP_nil] at this
  | p :: r, [], _, _, h1, _, h => by
    obtain ⟨_, b2, _⟩ := may_head h1
    have hl := (places_le b2).1
    obtain ⟨y, hy⟩ : ∃ y, y ∈ p.a := ⟨p.a[0], List.getElem_mem _⟩
    have := (h p.d y).1 (by rw [hasP_eq]; simpa using hy)
    simp [hasP_nil] at this
  | p :: r, q :: s, m, m', h1, h2, h => by
    obtain ⟨a1, a2, a3⟩ := may_head h1
    obtain ⟨b1, b2, b3⟩ := may_head h2
    have la := (places_le a2).1
    have lb := (places_le b2).1
    have hpq : p.d = q.d := by
      rcases Int.lt_trichotomy p.d q.d with e | e | e
      · obtain ⟨y, hy⟩ : ∃ y, y ∈ p.a := ⟨p.a[0], List.getElem_mem _⟩
        have := (h p.d y).1 (by rw [hasP_eq]; simpa using hy)
        rw [hasP_gt e] at this
        simp at this
      · exact e
      · obtain ⟨y, hy⟩ : ∃ y, y ∈ q.a := ⟨q.a[0], List.getElem_mem _⟩
        have := (h q.d y).2 (by rw [hasP_eq]; simpa using hy)
        rw [hasP_gt e] at this
        simp at this
    have hr : ∀ {L : List Pt} {n u : Int} {y : Int}, mayB n L = true → hasP L u y = true → n ≤ u := by
      intro L
      induction L with
      | nil => intro n u y _ h; simp [hasP_nil] at h
      | cons t L ih =>
        intro n u y hn hu
        obtain ⟨c1, c2, c3⟩ := may_head hn
        rcases Int.lt_trichotomy t.d u with e | e | e
        · omega
        · omega
        · rw [hasP_gt e] at hu; simp at hu
    have e1 : p = q := by
      refine Pt.eq hpq (rise_ext (places_rise a2) (places_rise b2) fun y => ?_)
      have := h p.d y
      rw [hasP_eq] at this
      rw [hpq, hasP_eq] at this
      simpa using this
    subst e1
    congr 1
    refine may_ext a3 b3 fun u y => ?_
    by_cases hu : p.d < u
    · have := h u y
      rw [hasP_lt hu, hasP_lt hu] at this
      exact this
    · constructor
      · intro g; have := hr a3 g; omega
      · intro g; have := hr b3 g; omega

end Go.Proofs.Ytonhehhmnobciaa.Q
