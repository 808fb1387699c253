/-
  Tables, orders, orders turned, one behind the other, and who lives behind tables. Plain mathematics; no program is named here.
-/
import Derived.Test.YtggojmnalmjapaaOrd7
namespace Go.Proofs.Ytggojmnalmjapaa
set_option maxRecDepth 100000
namespace R

/-! ### Tables -/

def cnt (l : List Bool) : Nat := l.count true
def tab : Int → List Bool → List Int
  | _, [] => []
  | n, b :: l => (if b = true then n else -1) :: tab (if b = true then n + 1 else n) l
/-- Table. -/
def table (l : List Bool) (n : Int) : List Int := if 0 ≤ n ∧ n ≤ 1100 ∧ l.length ≤ 64 then tab n l else []

theorem tab_len : ∀ (l : List Bool) (n : Int), (tab n l).length = l.length
  | [], _ => rfl
  | b :: l, n => by simp only [tab, List.length_cons, tab_len l]
theorem cnt_le (l : List Bool) : cnt l ≤ l.length := List.count_le_length
theorem tab_app : ∀ (a b : List Bool) (n : Int), tab n (a ++ b) = tab n a ++ tab (n + (cnt a : Int)) b
  | [], b, n => by simp [tab, cnt]
  | x :: a, b, n => by
    have ih := tab_app a b
    cases x with
    | true =>
      simp only [List.cons_append, tab, if_true, ih]
      have : n + 1 + (cnt a : Int) = n + (cnt (true :: a) : Int) := by simp [cnt]; omega
      rw [this]
    | false =>
      have h : ¬ (false = true) := by decide
      simp only [List.cons_append, tab, if_neg h, ih]
      have : (cnt a : Int) = (cnt (false :: a) : Int) := by simp [cnt]
      rw [this]
theorem tab_step {l : List Bool} {k : Nat} {b : Bool} (h : l[k]? = some b) (n : Int) : tab n (l.take (k + 1)) = tab n (l.take k) ++ [if b = true then n + (cnt (l.take k) : Int) else -1] := by
  obtain ⟨hk, rfl⟩ := List.getElem?_eq_some_iff.1 h
  rw [List.take_succ_eq_append_getElem hk, tab_app]
  rfl
theorem cnt_step {l : List Bool} {k : Nat} {b : Bool} (h : l[k]? = some b) : cnt (l.take (k + 1)) = cnt (l.take k) + (if b = true then 1 else 0) := by
  obtain ⟨hk, rfl⟩ := List.getElem?_eq_some_iff.1 h
  rw [List.take_succ_eq_append_getElem hk]
  unfold cnt
  rw [List.count_append]
  cases l[k] <;> simp
/-- What the table has at a place. -/
theorem tab_at {l : List Bool} {k : Nat} {b : Bool} (h : l[k]? = some b) (n : Int) : (tab n l)[k]? = some (if b = true then n + (cnt (l.take k) : Int) else -1) := by
  obtain ⟨hk, rfl⟩ := List.getElem?_eq_some_iff.1 h
  have e : l = l.take k ++ (l[k] :: l.drop (k + 1)) := by rw [← List.drop_eq_getElem_cons hk, List.take_append_drop]
  have hl : (tab n (l.take k)).length = k := by rw [tab_len, List.length_take]; omega
  conv => lhs; rw [e]
  rw [tab_app, List.getElem?_append_right (by omega), hl, Nat.sub_self]
  rfl

/-! ### Orders -/

/-- Each number below the length is in p. -/
def Ord (p : List Int) : Prop := ∀ i : Nat, i < p.length → (i : Int) ∈ p
def nums (n : Nat) : List Int := (List.range n).map fun i : Nat => (i : Int)
theorem nums_len (n : Nat) : (nums n).length = n := by simp [nums]
theorem nums_mem {n : Nat} {x : Int} : x ∈ nums n ↔ 0 ≤ x ∧ x < n := by
  unfold nums
  simp only [List.mem_map, List.mem_range]
  constructor
  · rintro ⟨i, hi, rfl⟩; omega
  · intro h; exact ⟨x.toNat, by omega, by omega⟩
theorem nums_nodup (n : Nat) : (nums n).Nodup := by
  unfold nums
  have := List.nodup_range (n := n)
  rw [List.nodup_iff_pairwise_ne] at this ⊢
  rw [List.pairwise_map]
  exact this.imp fun h e => h (by omega)
theorem nums_at {n i : Nat} (h : i < n) : (nums n)[i]? = some (i : Int) := by simp [nums, h]

theorem perm_of {l : List Int} : ∀ {p : List Int}, l.Nodup → (∀ x ∈ l, x ∈ p) → p.length ≤ l.length → p.Perm l := by
  induction l with
  | nil =>
    intro p _ _ h
    have : p = [] := List.eq_nil_of_length_eq_zero (by simpa using h)
    subst this
    exact List.Perm.refl _
  | cons x l ih =>
    intro p hn hs hl
    obtain ⟨h1, h2⟩ := List.nodup_cons.1 hn
    have hx := hs x (List.mem_cons_self ..)
    have hp := List.perm_cons_erase hx
    refine hp.trans (List.Perm.cons x (ih h2 (fun y hy => ?_) ?_))
    · have hne : y ≠ x := fun e => h1 (by rw [← e]; exact hy)
      exact (List.mem_erase_of_ne hne).2 (hs y (List.mem_cons_of_mem _ hy))
    · rw [List.length_erase_of_mem hx]
      simp only [List.length_cons] at hl
      omega
theorem Ord.perm {p : List Int} (h : Ord p) : p.Perm (nums p.length) :=
  perm_of (nums_nodup _) (fun x hx => by
    obtain ⟨h0, h1⟩ := nums_mem.1 hx
    have := h x.toNat (by omega)
    rwa [show ((x.toNat : Nat) : Int) = x by omega] at this) (by rw [nums_len]; exact Nat.le_refl _)
theorem Ord.of_perm {p : List Int} {n : Nat} (h : p.Perm (nums n)) : p.length = n ∧ Ord p := by
  have hl : p.length = n := by rw [h.length_eq, nums_len]
  refine ⟨hl, fun i hi => ?_⟩
  rw [h.mem_iff]
  exact nums_mem.2 (by omega)
theorem Ord.nodup {p : List Int} (h : Ord p) : p.Nodup := h.perm.nodup_iff.2 (nums_nodup _)
theorem Ord.bd {p : List Int} (h : Ord p) {x : Int} (hx : x ∈ p) : 0 ≤ x ∧ x < p.length := nums_mem.1 (h.perm.mem_iff.1 hx)

/-- Where a number stands. -/
def at' (p : List Int) (i : Int) : Nat := p.idxOf i
theorem at_get {p : List Int} {i : Int} (h : i ∈ p) : p[at' p i]? = some i := by
  have hl := List.idxOf_lt_length_iff.2 h
  rw [at', List.getElem?_eq_getElem hl, List.getElem_idxOf hl]
theorem at_is {p : List Int} (hn : p.Nodup) {k : Nat} {i : Int} (h : p[k]? = some i) : at' p i = k := by
  obtain ⟨hk, rfl⟩ := List.getElem?_eq_some_iff.1 h
  have h2 := at_get (List.getElem_mem hk)
  obtain ⟨hk2, e2⟩ := List.getElem?_eq_some_iff.1 h2
  rw [List.nodup_iff_pairwise_ne] at hn
  rcases Nat.lt_trichotomy (at' p p[k]) k with h3 | h3 | h3
  · exact absurd e2 (List.pairwise_iff_getElem.1 hn _ _ hk2 hk h3)
  · exact h3
  · exact absurd e2.symm (List.pairwise_iff_getElem.1 hn _ _ hk hk2 h3)

def trn (p : List Int) : List Int := (nums p.length).map fun i => (at' p i : Int)
theorem trn_len (p : List Int) : (trn p).length = p.length := by simp [trn, nums_len]
theorem trn_at {p : List Int} {i : Nat} (h : i < p.length) : (trn p)[i]? = some (at' p (i : Int) : Int) := by
  unfold trn
  rw [List.getElem?_map, nums_at h]
  rfl
/-- What an order has where the turned one tells. -/
theorem trn_back {p : List Int} (hp : Ord p) {i : Nat} (h : i < p.length) : ∃ k : Nat, (trn p)[i]? = some (k : Int) ∧ k < p.length ∧ p[k]? = some (i : Int) :=
  ⟨_, trn_at h, List.idxOf_lt_length_iff.2 (hp i h), at_get (hp i h)⟩
/-- What the turned one has where an order tells. -/
theorem trn_fore {p : List Int} (hp : Ord p) {k : Nat} {i : Int} (h : p[k]? = some i) : (trn p)[i.toNat]? = some (k : Int) := by
  have hb := hp.bd (List.mem_of_getElem? h)
  rw [trn_at (by omega), show ((i.toNat : Nat) : Int) = i by omega, at_is hp.nodup h]
theorem trn_ord {p : List Int} (hp : Ord p) : Ord (trn p) := by
  intro i hi
  rw [trn_len] at hi
  exact List.mem_of_getElem? (trn_fore hp (List.getElem?_eq_getElem hi))
theorem trn_twice {p : List Int} (hp : Ord p) : trn (trn p) = p := by
  refine List.ext_getElem (by rw [trn_len, trn_len]) fun i h1 h2 => ?_
  have h3 := trn_fore hp (List.getElem?_eq_getElem h2)
  have hb := hp.bd (List.getElem_mem h2)
  have h4 := trn_fore (trn_ord hp) h3
  rw [Int.toNat_natCast, List.getElem?_eq_getElem h1] at h4
  have := Option.some.inj h4
  omega
/-- Turn. -/
def Good (p : List Int) : Prop := p.length ≤ 1100 ∧ Ord p
theorem Good.turn {p : List Int} (h : Good p) : Good (trn p) := ⟨by rw [trn_len]; exact h.1, trn_ord h.2⟩

/-! ### One behind the other -/

def thn1 (p : List Int) (x : Int) : Int := if 0 ≤ x ∧ x < (p.length : Int) then p.getD x.toNat 0 else -1
def thn (t p : List Int) : List Int := t.map (thn1 p)
theorem thn_len (t p : List Int) : (thn t p).length = t.length := by simp [thn]
theorem thn_step {t p : List Int} {k : Nat} {x : Int} (h : t[k]? = some x) : thn (t.take (k + 1)) p = thn (t.take k) p ++ [thn1 p x] := by
  obtain ⟨hk, rfl⟩ := List.getElem?_eq_some_iff.1 h
  unfold thn
  rw [List.take_succ_eq_append_getElem hk, List.map_append]
  rfl
theorem thn_own {p : List Int} (hp : Ord p) : thn p (trn p) = nums p.length := by
  refine List.ext_getElem (by rw [thn_len, nums_len]) fun i h1 h2 => ?_
  rw [thn_len] at h1
  have hb := hp.bd (List.getElem_mem h1)
  have h3 := trn_fore hp (List.getElem?_eq_getElem h1)
  have e : (thn p (trn p))[i] = thn1 (trn p) p[i] := by simp [thn]
  have e2 : (nums p.length)[i] = (i : Int) := by simp [nums]
  rw [e, e2, thn1, if_pos (by rw [trn_len]; exact hb)]
  simp [List.getD, h3]
theorem thn_own2 {p : List Int} (hp : Ord p) : thn (trn p) p = nums p.length := by
  have h := thn_own (trn_ord hp)
  rw [trn_twice hp, trn_len] at h
  exact h

/-! ### Who lives -/

/-- Does some document of one table get d that lived and does not? -/
def hit (d : Int) : List Int → List Bool → List Bool → Bool
  | x :: t, a :: was, b :: now => (decide (x = d) && a && !b) || hit d t was now
  | _, _, _ => false
def hits (d : Int) : List (List Int) → List (List Bool) → List (List Bool) → Bool
  | t :: ts, a :: was, b :: now => hit d t a b || hits d ts was now
  | _, _, _ => false
def fitL : List (List Int) → List (List Bool) → List (List Bool) → Bool
  | t :: ts, a :: was, b :: now => decide (a.length = t.length) && decide (b.length = t.length) && fitL ts was now
  | [], [], [] => true
  | _, _, _ => false
/-- Carry. -/
def carry (n : Int) (ts : List (List Int)) (was now : List (List Bool)) : List Bool :=
  if 0 ≤ n ∧ n ≤ 64 ∧ fitL ts was now = true then (nums n.toNat).map fun d => !hits d ts was now else []

theorem hit_same (d : Int) : ∀ (t : List Int) (was : List Bool), hit d t was was = false
  | [], _ => by simp [hit]
  | _ :: _, [] => by simp [hit]
  | x :: t, a :: was => by
    rw [hit, hit_same d t was]
    cases a <;> simp
theorem hit_less (d : Int) : ∀ (t : List Int) (was now : List Bool) (k : Nat), hit d t was now = true → hit d t was (now.set k false) = true
  | [], _, _, _, h => by simp [hit] at h
  | _ :: _, [], _, _, h => by simp [hit] at h
  | _ :: _, _ :: _, [], _, h => by simp [hit] at h
  | x :: t, a :: was, b :: now, k, h => by
    cases k with
    | zero =>
      rw [List.set_cons_zero, hit]
      rw [hit] at h
      cases b with
      | false => exact h
      | true =>
        simp only [Bool.not_true, Bool.and_false, Bool.false_or] at h
        rw [h, Bool.or_true]
    | succ k =>
      rw [List.set_cons_succ, hit]
      rw [hit, Bool.or_eq_true] at h
      rw [Bool.or_eq_true]
      rcases h with h | h
      · exact .inl h
      · exact .inr (hit_less d t was now k h)
theorem carry_len {n : Int} {ts : List (List Int)} {was now : List (List Bool)} (h0 : 0 ≤ n) (h1 : n ≤ 64) (hf : fitL ts was now = true) : ((carry n ts was now).length : Int) = n := by
  unfold carry
  rw [if_pos ⟨h0, h1, hf⟩, List.length_map, nums_len]
  omega

/-! ### Keys and ids put in order -/

/-- Is the one at place a ahead of the one at place b: by key, by id, by place? -/
def lt (keys : List Int) (ids : List ByteArray) (a b : Nat) : Bool :=
  decide (keys.getD a 0 < keys.getD b 0) || (decide (keys.getD a 0 = keys.getD b 0) && (K.lt (ids.getD a ⟨#[]⟩) (ids.getD b ⟨#[]⟩) || (decide (ids.getD a ⟨#[]⟩ = ids.getD b ⟨#[]⟩) && decide (a < b))))
theorem lt_iff {keys : List Int} {ids : List ByteArray} {a b : Nat} : lt keys ids a b = true ↔ keys.getD a 0 < keys.getD b 0 ∨ (keys.getD a 0 = keys.getD b 0 ∧ (K.lt (ids.getD a ⟨#[]⟩) (ids.getD b ⟨#[]⟩) = true ∨ (ids.getD a ⟨#[]⟩ = ids.getD b ⟨#[]⟩ ∧ a < b))) := by simp [lt]
theorem lt_irrefl (keys : List Int) (ids : List ByteArray) (a : Nat) : lt keys ids a a = false := by
  cases h : lt keys ids a a with
  | false => rfl
  | true =>
    rw [lt_iff] at h
    rcases h with h | ⟨-, h | ⟨-, h⟩⟩
    · omega
    · rw [K.lt_irrefl] at h; cases h
    · omega
theorem lt_trans {keys : List Int} {ids : List ByteArray} {a b c : Nat} (h : lt keys ids a b = true) (k : lt keys ids b c = true) : lt keys ids a c = true := by
  rw [lt_iff] at *
  rcases h with h | ⟨e1, h⟩
  · rcases k with k | ⟨e2, -⟩
    · exact .inl (by omega)
    · exact .inl (by omega)
  · rcases k with k | ⟨e2, k⟩
    · exact .inl (by omega)
    · refine .inr ⟨by omega, ?_⟩
      rcases h with h | ⟨f1, h⟩
      · rcases k with k | ⟨f2, -⟩
        · exact .inl (K.lt_trans h k)
        · rw [← f2]; exact .inl h
      · rcases k with k | ⟨f2, k⟩
        · rw [f1]; exact .inl k
        · exact .inr ⟨f1.trans f2, by omega⟩
theorem lt_tri {keys : List Int} {ids : List ByteArray} {a b : Nat} (h : lt keys ids a b = false) (k : lt keys ids b a = false) : a = b := by
  have h1 : ¬ lt keys ids a b = true := by rw [h]; decide
  have k1 : ¬ lt keys ids b a = true := by rw [k]; decide
  rw [lt_iff] at h1 k1
  have e : keys.getD a 0 = keys.getD b 0 := by omega
  have f : ids.getD a ⟨#[]⟩ = ids.getD b ⟨#[]⟩ := K.lt_tri (by
    cases hb : K.lt (ids.getD a ⟨#[]⟩) (ids.getD b ⟨#[]⟩) with
    | false => rfl
    | true => exact absurd (.inr ⟨e, .inl hb⟩) h1) (by
    cases hb : K.lt (ids.getD b ⟨#[]⟩) (ids.getD a ⟨#[]⟩) with
    | false => rfl
    | true => exact absurd (.inr ⟨e.symm, .inl hb⟩) k1)
  rcases Nat.lt_trichotomy a b with h3 | h3 | h3
  · exact absurd (.inr ⟨e, .inr ⟨f, h3⟩⟩) h1
  · exact h3
  · exact absurd (.inr ⟨e.symm, .inr ⟨f.symm, h3⟩⟩) k1

/-- Each ahead of the next ones. -/
def Up (keys : List Int) (ids : List ByteArray) (l : List Nat) : Prop := l.Pairwise fun a b => lt keys ids a b = true
theorem up_ext {keys : List Int} {ids : List ByteArray} : ∀ {l m : List Nat}, Up keys ids l → Up keys ids m → l.Perm m → l = m
  | [], m, _, _, p => (List.Perm.nil_eq p)
  | a :: l, [], _, _, p => by have := p.length_eq; simp at this
  | a :: l, b :: m, hl, hm, p => by
    obtain ⟨l1, l2⟩ := List.pairwise_cons.1 hl
    obtain ⟨m1, m2⟩ := List.pairwise_cons.1 hm
    have e : a = b := by
      rcases List.mem_cons.1 (p.mem_iff.1 (List.mem_cons_self ..)) with h | h
      · exact h
      · rcases List.mem_cons.1 (p.mem_iff.2 (List.mem_cons_self ..)) with k | k
        · exact k.symm
        · have := lt_trans (m1 a h) (l1 b k)
          rw [lt_irrefl] at this
          cases this
    subst e
    rw [up_ext l2 m2 (List.Perm.cons_inv p)]
/-- The order of n places: by what is there just once. -/
def Sorted (keys : List Int) (ids : List ByteArray) (n : Nat) (l : List Nat) : Prop := Up keys ids l ∧ l.Perm (List.range n)
theorem Sorted.uniq {keys : List Int} {ids : List ByteArray} {n : Nat} {l m : List Nat} (h : Sorted keys ids n l) (k : Sorted keys ids n m) : l = m := up_ext h.1 k.1 (h.2.trans k.2.symm)
theorem Sorted.ord {keys : List Int} {ids : List ByteArray} {n : Nat} {l : List Nat} (h : Sorted keys ids n l) : (l.map fun i : Nat => (i : Int)).length = n ∧ Ord (l.map fun i : Nat => (i : Int)) := Ord.of_perm (h.2.map _)

/-- A place put in among those that are in order, which are all less: as the document has it. -/
def lek (keys : List Int) (ids : List ByteArray) (i x : Nat) : Bool := decide (keys.getD i 0 < keys.getD x 0) || (decide (keys.getD i 0 = keys.getD x 0) && K.lt (ids.getD i ⟨#[]⟩) (ids.getD x ⟨#[]⟩))
theorem lek_lt {keys : List Int} {ids : List ByteArray} {i x : Nat} (h : x < i) : lek keys ids i x = !lt keys ids x i := by
  cases hx : lt keys ids x i with
  | true =>
    rw [Bool.not_true]
    cases hk : lek keys ids i x with
    | false => rfl
    | true =>
      have : lt keys ids i x = true := by
        rw [lt_iff]
        simp only [lek, Bool.or_eq_true, Bool.and_eq_true, decide_eq_true_eq] at hk
        rcases hk with hk | ⟨e, hk⟩
        · exact .inl hk
        · exact .inr ⟨e, .inl hk⟩
      have := lt_trans hx this
      rw [lt_irrefl] at this
      cases this
  | false =>
    rw [Bool.not_false]
    cases hk : lek keys ids i x with
    | true => rfl
    | false =>
      exfalso
      have h1 : lt keys ids i x = false := by
        cases hi : lt keys ids i x with
        | false => rfl
        | true =>
          rw [lt_iff] at hi
          have hk' : ¬ lek keys ids i x = true := by rw [hk]; decide
          simp only [lek, Bool.or_eq_true, Bool.and_eq_true, decide_eq_true_eq] at hk'
          rcases hi with hi | ⟨e, hi | ⟨-, hi⟩⟩
          · exact absurd (.inl hi) hk'
          · exact absurd (.inr ⟨e, hi⟩) hk'
          · omega
      have := lt_tri hx h1
      omega
def ins (keys : List Int) (ids : List ByteArray) (l : List Nat) (i : Nat) : List Nat := l.takeWhile (fun x => !lek keys ids i x) ++ i :: l.dropWhile (fun x => !lek keys ids i x)
def ord : (keys : List Int) → (ids : List ByteArray) → Nat → List Nat
  | _, _, 0 => []
  | keys, ids, n + 1 => ins keys ids (ord keys ids n) n
theorem ins_sorted {keys : List Int} {ids : List ByteArray} {n : Nat} {l : List Nat} (h : Sorted keys ids n l) : Sorted keys ids (n + 1) (ins keys ids l n) := by
  have hlt : ∀ x ∈ l, x < n := fun x hx => by simpa using h.2.mem_iff.1 hx
  have he : ∀ x ∈ l, (!lek keys ids n x) = lt keys ids x n := fun x hx => by rw [lek_lt (hlt x hx), Bool.not_not]
  have ht : ∀ (m : List Nat), (∀ x ∈ m, x ∈ l) → m.takeWhile (fun x => !lek keys ids n x) = m.takeWhile (fun x => lt keys ids x n) ∧ m.dropWhile (fun x => !lek keys ids n x) = m.dropWhile (fun x => lt keys ids x n) := by
    intro m
    induction m with
    | nil => intro _; exact ⟨rfl, rfl⟩
    | cons a m ih =>
      intro hm
      obtain ⟨i1, i2⟩ := ih fun x hx => hm x (List.mem_cons_of_mem _ hx)
      have e := he a (hm a (List.mem_cons_self ..))
      simp only [List.takeWhile_cons, List.dropWhile_cons, e, i1, i2, and_self]
  obtain ⟨t1, t2⟩ := ht l fun x hx => hx
  have hd : ∀ (m : List Nat), Up keys ids m → ∀ x ∈ m.dropWhile (fun x => lt keys ids x n), lt keys ids x n = false := by
    intro m
    induction m with
    | nil => intro _ x hx; cases hx
    | cons y m ih =>
      intro hu x hx
      obtain ⟨u1, u2⟩ := List.pairwise_cons.1 hu
      cases hy : lt keys ids y n with
      | true =>
        rw [List.dropWhile_cons, if_pos hy] at hx
        exact ih u2 x hx
      | false =>
        rw [List.dropWhile_cons, if_neg (by rw [hy]; decide)] at hx
        rcases List.mem_cons.1 hx with rfl | hx
        · exact hy
        · cases hb : lt keys ids x n with
          | false => rfl
          | true => have := lt_trans (u1 x hx) hb; rw [hy] at this; cases this
  have htk : ∀ (m : List Nat), ∀ x ∈ m.takeWhile (fun x => lt keys ids x n), lt keys ids x n = true := by
    intro m
    induction m with
    | nil => intro x hx; cases hx
    | cons y m ih =>
      intro x hx
      cases hy : lt keys ids y n with
      | true =>
        rw [List.takeWhile_cons, if_pos hy] at hx
        rcases List.mem_cons.1 hx with rfl | hx
        · exact hy
        · exact ih x hx
      | false =>
        rw [List.takeWhile_cons, if_neg (by rw [hy]; decide)] at hx
        cases hx
  have hgt : ∀ x ∈ l.dropWhile (fun x => lt keys ids x n), lt keys ids n x = true := fun x hx => by
    cases hb : lt keys ids n x with
    | true => rfl
    | false =>
      have := lt_tri (hd l h.1 x hx) hb
      have := hlt x ((List.dropWhile_sublist _).subset hx)
      omega
  unfold ins
  rw [t1, t2]
  refine ⟨List.pairwise_append.2 ⟨h.1.sublist (List.takeWhile_sublist _), List.pairwise_cons.2 ⟨hgt, h.1.sublist (List.dropWhile_sublist _)⟩, fun a ha b hb => ?_⟩, ?_⟩
  · have h1 := htk l a ha
    rcases List.mem_cons.1 hb with rfl | hb
    · exact h1
    · exact lt_trans h1 (hgt b hb)
  · refine List.perm_middle.trans ?_
    rw [List.takeWhile_append_dropWhile]
    rw [List.range_succ]
    exact (h.2.cons n).trans (List.perm_append_singleton n _).symm
theorem ord_sorted (keys : List Int) (ids : List ByteArray) : ∀ n, Sorted keys ids n (ord keys ids n)
  | 0 => ⟨List.Pairwise.nil, List.Perm.refl _⟩
  | n + 1 => ins_sorted (ord_sorted keys ids n)
/-- Order. -/
def order (keys : List Int) (ids : List ByteArray) : List Int := if keys.length = ids.length ∧ keys.length ≤ 1100 then (ord keys ids keys.length).map fun i : Nat => (i : Int) else []
end R
end Go.Proofs.Ytggojmnalmjapaa
