/-
  Who lives behind tables, step by step. Plain mathematics; no program is named here.
-/
import Derived.Test.YtggojmnalmjapaaPlainR10
namespace Go.Proofs.Ytggojmnalmjapaa
set_option maxRecDepth 100000
namespace R

/-- As many lists as tables, each of as many. -/
def alk : List (List Int) → List (List Bool) → Bool
  | [], [] => true
  | t :: ts, l :: ls => decide (t.length = l.length) && alk ts ls
  | _, _ => false
theorem alk_iff : ∀ {ts : List (List Int)} {ls : List (List Bool)}, alk ts ls = true ↔ ts.length = ls.length ∧ ∀ (i : Nat) t l, ts[i]? = some t → ls[i]? = some l → t.length = l.length
  | [], [] => by simp [alk]
  | [], _ :: _ => by simp [alk]
  | _ :: _, [] => by simp [alk]
  | t :: ts, l :: ls => by
    have ih := alk_iff (ts := ts) (ls := ls)
    simp only [alk, Bool.and_eq_true, decide_eq_true_eq, ih, List.length_cons]
    constructor
    · rintro ⟨h1, h2, h3⟩
      refine ⟨by omega, fun i t' l' ht hl => ?_⟩
      cases i with
      | zero => simp at ht hl; subst ht hl; exact h1
      | succ i => exact h3 i t' l' (by simpa using ht) (by simpa using hl)
    · rintro ⟨h1, h2⟩
      exact ⟨h2 0 t l rfl rfl, by omega, fun i t' l' ht hl => h2 (i + 1) t' l' (by simpa using ht) (by simpa using hl)⟩
theorem fit_alk : ∀ (ts : List (List Int)) (was now : List (List Bool)), fitL ts was now = (alk ts was && alk ts now)
  | [], [], [] => rfl
  | [], [], _ :: _ => rfl
  | [], _ :: _, [] => rfl
  | [], _ :: _, _ :: _ => rfl
  | _ :: _, [], [] => rfl
  | t :: ts, [], b :: now => by simp [fitL, alk]
  | t :: ts, a :: was, [] => by simp [fitL, alk]
  | t :: ts, a :: was, b :: now => by
    simp only [fitL, alk, fit_alk ts was now]
    rw [show decide (a.length = t.length) = decide (t.length = a.length) by simp [eq_comm], show decide (b.length = t.length) = decide (t.length = b.length) by simp [eq_comm]]
    cases decide (t.length = a.length) <;> cases decide (t.length = b.length) <;> cases alk ts was <;> cases alk ts now <;> rfl

section
variable (ts : List (List Int)) (was now : List (List Bool))
/-- Document d of table i gets j, lived, and does not. -/
def Hit (j i d : Nat) : Prop := ∃ t a b, ts[i]? = some t ∧ was[i]? = some a ∧ now[i]? = some b ∧ t[d]? = some (j : Int) ∧ a[d]? = some true ∧ b[d]? = some false
/-- One of the documents ahead of document d of table i does so. -/
def Had (j i d : Nat) : Prop := ∃ i' d', (i' < i ∨ (i' = i ∧ d' < d)) ∧ Hit ts was now j i' d'
end
variable {ts : List (List Int)} {was now : List (List Bool)}
theorem had_start (j : Nat) : ¬ Had ts was now j 0 0 := by rintro ⟨i', d', h | ⟨-, h⟩, -⟩ <;> omega
theorem had_doc (j i d : Nat) : Had ts was now j i (d + 1) ↔ Had ts was now j i d ∨ Hit ts was now j i d := by
  constructor
  · rintro ⟨i', d', h, hh⟩
    by_cases e : i' = i ∧ d' = d
    · obtain ⟨rfl, rfl⟩ := e
      exact .inr hh
    · exact .inl ⟨i', d', by omega, hh⟩
  · rintro (⟨i', d', h, hh⟩ | hh)
    · exact ⟨i', d', by omega, hh⟩
    · exact ⟨i, d, by omega, hh⟩
theorem had_table {j i : Nat} {t : List Int} (ht : ts[i]? = some t) : Had ts was now j (i + 1) 0 ↔ Had ts was now j i t.length := by
  constructor
  · rintro ⟨i', d', h, hh⟩
    by_cases e : i' = i
    · subst e
      obtain ⟨t', a, b, h1, h2, h3, h4, h5, h6⟩ := id hh
      rw [ht] at h1
      cases h1
      exact ⟨i', d', .inr ⟨rfl, (List.getElem?_eq_some_iff.1 h4).1⟩, hh⟩
    · exact ⟨i', d', by omega, hh⟩
  · rintro ⟨i', d', h, hh⟩
    exact ⟨i', d', by omega, hh⟩
theorem had_all {j i : Nat} (hi : ts.length ≤ i) : Had ts was now j i 0 ↔ ∃ i' d', Hit ts was now j i' d' := by
  constructor
  · rintro ⟨i', d', h, hh⟩
    exact ⟨i', d', hh⟩
  · rintro ⟨i', d', hh⟩
    obtain ⟨t', a, b, h1, -⟩ := id hh
    have := (List.getElem?_eq_some_iff.1 h1).1
    exact ⟨i', d', by omega, hh⟩
theorem hit_of {j i d : Nat} {t : List Int} {a b : List Bool} {x : Int} {p q : Bool} (h1 : ts[i]? = some t) (h2 : was[i]? = some a) (h3 : now[i]? = some b) (h4 : t[d]? = some x) (h5 : a[d]? = some p) (h6 : b[d]? = some q) : Hit ts was now j i d ↔ x = (j : Int) ∧ p = true ∧ q = false := by
  constructor
  · rintro ⟨t', a', b', g1, g2, g3, g4, g5, g6⟩
    rw [h1] at g1; cases g1
    rw [h2] at g2; cases g2
    rw [h3] at g3; cases g3
    rw [h4] at g4
    rw [h5] at g5
    rw [h6] at g6
    exact ⟨Option.some.inj g4, Option.some.inj g5, Option.some.inj g6⟩
  · rintro ⟨rfl, rfl, rfl⟩
    exact ⟨t, a, b, h1, h2, h3, h4, h5, h6⟩

theorem hit_iff : ∀ {j : Nat} {t : List Int} {a b : List Bool}, hit (j : Int) t a b = true ↔ ∃ d : Nat, t[d]? = some (j : Int) ∧ a[d]? = some true ∧ b[d]? = some false
  | j, [], _, _ => by simp [hit]
  | j, _ :: _, [], _ => by simp [hit]
  | j, _ :: _, _ :: _, [] => by simp [hit]
  | j, x :: t, p :: a, q :: b => by
    have ih := hit_iff (j := j) (t := t) (a := a) (b := b)
    rw [hit, Bool.or_eq_true, ih]
    constructor
    · rintro (h | ⟨d, h⟩)
      · refine ⟨0, ?_⟩
        simp only [Bool.and_eq_true, decide_eq_true_eq, Bool.not_eq_true'] at h
        simp [h.1.1, h.1.2, h.2]
      · exact ⟨d + 1, by simpa using h⟩
    · rintro ⟨d, h1, h2, h3⟩
      cases d with
      | zero =>
        left
        simp at h1 h2 h3
        simp [h1, h2, h3]
      | succ d => exact .inr ⟨d, by simpa using h1, by simpa using h2, by simpa using h3⟩
theorem hits_iff : ∀ {j : Nat} {ts : List (List Int)} {was now : List (List Bool)}, hits (j : Int) ts was now = true ↔ ∃ i d, Hit ts was now j i d
  | j, [], _, _ => by simp [hits, Hit]
  | j, _ :: _, [], _ => by simp [hits, Hit]
  | j, _ :: _, _ :: _, [] => by simp [hits, Hit]
  | j, t :: ts, a :: was, b :: now => by
    have ih := hits_iff (j := j) (ts := ts) (was := was) (now := now)
    rw [hits, Bool.or_eq_true, ih, hit_iff]
    constructor
    · rintro (⟨d, h1, h2, h3⟩ | ⟨i, d, h⟩)
      · exact ⟨0, d, t, a, b, rfl, rfl, rfl, h1, h2, h3⟩
      · obtain ⟨t', a', b', h⟩ := h
        exact ⟨i + 1, d, t', a', b', by simpa using h⟩
    · rintro ⟨i, d, t', a', b', g1, g2, g3, h1, h2, h3⟩
      cases i with
      | zero =>
        simp at g1 g2 g3
        subst g1 g2 g3
        exact .inl ⟨d, h1, h2, h3⟩
      | succ i => exact .inr ⟨i, d, t', a', b', by simpa using g1, by simpa using g2, by simpa using g3, h1, h2, h3⟩

/-- What the list of m documents holds ahead of document d of table i. -/
def Cst (ts : List (List Int)) (was now : List (List Bool)) (m i d : Nat) (L : List Bool) : Prop :=
  L.length = m ∧ ∀ j, j < m → ∃ c, L[j]? = some c ∧ (c = false ↔ Had ts was now j i d)
theorem Cst.start (m : Nat) : Cst ts was now m 0 0 ((List.range m).map fun _ => true) := by
  refine ⟨by simp, fun j hj => ⟨true, by simp [hj], ?_⟩⟩
  simp [had_start]
theorem Cst.table {m i : Nat} {L : List Bool} {t : List Int} (s : Cst ts was now m i t.length L) (ht : ts[i]? = some t) : Cst ts was now m (i + 1) 0 L :=
  ⟨s.1, fun j hj => by obtain ⟨c, h1, h2⟩ := s.2 j hj; exact ⟨c, h1, h2.trans (had_table ht).symm⟩⟩
section
variable {m i d : Nat} {L : List Bool} {t : List Int} {a b : List Bool} {x : Int} {p q : Bool}
theorem Cst.skip (s : Cst ts was now m i d L) (h1 : ts[i]? = some t) (h2 : was[i]? = some a) (h3 : now[i]? = some b) (h4 : t[d]? = some x) (h5 : a[d]? = some p) (h6 : b[d]? = some q) (h : ¬ (0 ≤ x ∧ x < (m : Int)) ∨ (p && !q) = false) : Cst ts was now m i (d + 1) L := by
  refine ⟨s.1, fun j hj => ?_⟩
  obtain ⟨c, g1, g2⟩ := s.2 j hj
  refine ⟨c, g1, ?_⟩
  rw [had_doc, g2]
  have : ¬ Hit ts was now j i d := by
    rw [hit_of h1 h2 h3 h4 h5 h6]
    rintro ⟨e1, e2, e3⟩
    rcases h with h | h
    · omega
    · rw [e2, e3] at h
      cases h
  simp [this]
theorem Cst.kill (s : Cst ts was now m i d L) (h1 : ts[i]? = some t) (h2 : was[i]? = some a) (h3 : now[i]? = some b) (k : Nat) (h4 : t[d]? = some (k : Int)) (h5 : a[d]? = some p) (h6 : b[d]? = some q) (h : (p && !q) = true) (hk : k < m) : Cst ts was now m i (d + 1) (L.set k false) := by
  refine ⟨by rw [List.length_set]; exact s.1, fun j hj => ?_⟩
  have hpq : p = true ∧ q = false := by simpa using h
  by_cases e : k = j
  · subst e
    refine ⟨false, List.getElem?_set_self (by rw [s.1]; exact hk), ?_⟩
    rw [had_doc, hit_of h1 h2 h3 h4 h5 h6]
    simp [hpq]
  · obtain ⟨c, g1, g2⟩ := s.2 j hj
    refine ⟨c, by rw [List.getElem?_set_ne e]; exact g1, ?_⟩
    rw [had_doc, g2, hit_of h1 h2 h3 h4 h5 h6]
    have : ¬ (k : Int) = (j : Int) := by omega
    simp [this]
end
theorem Cst.done {m i : Nat} {L : List Bool} (s : Cst ts was now m i 0 L) (hi : ts.length ≤ i) : L = (nums m).map fun d => !hits d ts was now := by
  apply List.ext_getElem?
  intro j
  by_cases hj : j < m
  · obtain ⟨c, g1, g2⟩ := s.2 j hj
    rw [had_all hi, ← hits_iff] at g2
    rw [g1, List.getElem?_map, nums_at hj]
    simp only [Option.map_some, Option.some.injEq]
    cases c with
    | false => rw [g2.1 rfl]; rfl
    | true =>
      cases h : hits (j : Int) ts was now with
      | false => rfl
      | true => have := g2.2 h; cases this
  · rw [List.getElem?_eq_none (by have := s.1; omega), List.getElem?_eq_none (by simp [nums_len]; omega)]

/-- What the document holds of one document j. -/
def Dst (ts : List (List Int)) (was now : List (List Bool)) (j i d : Nat) (c : Bool) : Prop := c = false ↔ Had ts was now j i d
theorem Dst.start (j : Nat) : Dst ts was now j 0 0 true := by simp [Dst, had_start]
theorem Dst.table {j i : Nat} {c : Bool} {t : List Int} (s : Dst ts was now j i t.length c) (ht : ts[i]? = some t) : Dst ts was now j (i + 1) 0 c := s.trans (had_table ht).symm
theorem Dst.doc {j i d : Nat} {c : Bool} {t : List Int} {a b : List Bool} {x : Int} {p q : Bool} (s : Dst ts was now j i d c) (h1 : ts[i]? = some t) (h2 : was[i]? = some a) (h3 : now[i]? = some b) (h4 : t[d]? = some x) (h5 : a[d]? = some p) (h6 : b[d]? = some q) : Dst ts was now j i (d + 1) (if x = (j : Int) ∧ p = true ∧ q = false then false else c) := by
  unfold Dst at *
  rw [had_doc, hit_of h1 h2 h3 h4 h5 h6]
  by_cases h : x = (j : Int) ∧ p = true ∧ q = false
  · rw [if_pos h]
    exact ⟨fun _ => .inr h, fun _ => rfl⟩
  · rw [if_neg h, s]
    simp [h]
theorem Dst.done {j i : Nat} {c : Bool} (s : Dst ts was now j i 0 c) (hi : ts.length ≤ i) : c = !hits (j : Int) ts was now := by
  unfold Dst at s
  rw [had_all hi, ← hits_iff] at s
  cases c with
  | false => rw [s.1 rfl]; rfl
  | true =>
    cases h : hits (j : Int) ts was now with
    | false => rfl
    | true => have := s.2 h; cases this
theorem carry_in {n : Nat} (hn : n ≤ 64) (h1 : alk ts was = true) (h2 : alk ts now = true) : carry (n : Int) ts was now = (nums n).map fun d => !hits d ts was now := by
  unfold carry
  rw [if_pos ⟨by omega, by omega, by rw [fit_alk, h1, h2]; rfl⟩, Int.toNat_natCast]
theorem carry_out {n : Int} (h : n < 0 ∨ 64 < n ∨ alk ts was = false ∨ alk ts now = false) : carry n ts was now = [] := by
  unfold carry
  rw [if_neg]
  rintro ⟨h1, h2, h3⟩
  rw [fit_alk, Bool.and_eq_true] at h3
  rcases h with h | h | h | h
  · omega
  · omega
  · rw [h] at h3; cases h3.1
  · rw [h] at h3; cases h3.2
end R
end Go.Proofs.Ytggojmnalmjapaa
