/-
  The plain mathematics of layer 8, laid ahead: cards in their order, put in order; where words stand in cards. No program is named here.
-/
import Derived.Test.YtonhehhmnobciaaPlain7
namespace Go.Proofs.Ytonhehhmnobciaa
set_option maxRecDepth 100000

/-- A card, as it reads. -/
structure Cd where
  id : ByteArray
  key : Int
  w : List ByteArray

theorem Cd.eq {a b : Cd} (h1 : a.id = b.id) (h2 : a.key = b.key) (h3 : a.w = b.w) : a = b := by
  cases a
  cases b
  simp at h1 h2 h3
  subst h1 h2 h3
  rfl

namespace S

/-- Is a's key the less one; or, of the same key, its id? -/
def before (a b : Cd) : Bool := decide (a.key < b.key) || (decide (a.key = b.key) && K.lt a.id b.id)

theorem before_iff {a b : Cd} : before a b = true ↔ a.key < b.key ∨ (a.key = b.key ∧ K.lt a.id b.id = true) := by
  simp [before]

theorem before_irrefl (a : Cd) : before a a = false := by simp [before, K.lt_irrefl]

theorem before_trans {a b c : Cd} (h : before a b = true) (k : before b c = true) : before a c = true := by
  rw [before_iff] at *
  rcases h with h | ⟨h1, h2⟩
  · rcases k with k | ⟨k1, k2⟩
    · exact .inl (by omega)
    · exact .inl (by omega)
  · rcases k with k | ⟨k1, k2⟩
    · exact .inl (by omega)
    · exact .inr ⟨by omega, K.lt_trans h2 k2⟩

theorem before_asymm {a b : Cd} (h : before a b = true) : before b a = false := by
  cases hb : before b a with
  | false => rfl
  | true => have := before_trans h hb; rw [before_irrefl] at this; cases this

theorem before_tri {a b : Cd} (h : before a b = false) (k : before b a = false) : a.key = b.key ∧ a.id = b.id := by
  have h1 : ¬ before a b = true := by rw [h]; decide
  have k1 : ¬ before b a = true := by rw [k]; decide
  rw [before_iff] at h1 k1
  have e : a.key = b.key := by omega
  refine ⟨e, K.lt_tri ?_ ?_⟩
  · cases hb : K.lt a.id b.id with
    | false => rfl
    | true => exact absurd (.inr ⟨e, hb⟩) h1
  · cases hb : K.lt b.id a.id with
    | false => rfl
    | true => exact absurd (.inr ⟨e.symm, hb⟩) k1

/-- Of unlike ids; each before the next ones. -/
def Unlike (l : List Cd) : Prop := l.Pairwise fun a b => a.id ≠ b.id
def Up (l : List Cd) : Prop := l.Pairwise fun a b => before a b = true

theorem Unlike.perm {l m : List Cd} (h : Unlike l) (p : l.Perm m) : Unlike m := (p.pairwise_iff fun h => Ne.symm h).1 h

/-- A card put in its place among some. -/
def ins (l : List Cd) (c : Cd) : List Cd := l.takeWhile (fun x => before x c) ++ c :: l.dropWhile (fun x => before x c)
/-- Cards put in order. -/
def srt (l : List Cd) : List Cd := l.foldl ins []

theorem ins_perm (l : List Cd) (c : Cd) : (ins l c).Perm (c :: l) := by
  unfold ins
  refine List.perm_middle.trans ?_
  rw [List.takeWhile_append_dropWhile]

theorem srts_perm : ∀ (l o : List Cd), (l.foldl ins o).Perm (o ++ l)
  | [], o => by simp
  | c :: l, o => by
    rw [List.foldl_cons]
    refine (srts_perm l (ins o c)).trans ?_
    refine ((ins_perm o c).append_right l).trans ?_
    exact List.perm_middle.symm

theorem srt_perm (l : List Cd) : (srt l).Perm l := srts_perm l []

theorem drop_ge : ∀ {l : List Cd} {c : Cd}, Up l → ∀ x ∈ l.dropWhile (fun x => before x c), before x c = false
  | [], _, _, x, hx => by cases hx
  | y :: l, c, h, x, hx => by
    obtain ⟨h1, h2⟩ := List.pairwise_cons.1 h
    cases hy : before y c with
    | true =>
      rw [List.dropWhile_cons, if_pos hy] at hx
      exact drop_ge h2 x hx
    | false =>
      rw [List.dropWhile_cons, if_neg (by rw [hy]; decide)] at hx
      rcases List.mem_cons.1 hx with rfl | hx
      · exact hy
      · cases hb : before x c with
        | false => rfl
        | true => have := before_trans (h1 x hx) hb; rw [hy] at this; cases this

theorem take_lt : ∀ {l : List Cd} {c x : Cd}, x ∈ l.takeWhile (fun x => before x c) → before x c = true
  | [], _, _, h => by cases h
  | y :: l, c, x, h => by
    cases hy : before y c with
    | true =>
      rw [List.takeWhile_cons, if_pos hy] at h
      rcases List.mem_cons.1 h with rfl | h
      · exact hy
      · exact take_lt h
    | false =>
      rw [List.takeWhile_cons, if_neg (by rw [hy]; decide)] at h
      cases h

theorem ins_up {l : List Cd} {c : Cd} (h : Up l) (hu : ∀ x ∈ l, x.id ≠ c.id) : Up (ins l c) := by
  unfold ins
  have hd : ∀ x ∈ l.dropWhile (fun x => before x c), before c x = true := fun x hx => by
    have h1 := drop_ge h x hx
    cases hb : before c x with
    | true => rfl
    | false => exact absurd (before_tri h1 hb).2 (hu x (List.dropWhile_sublist _ |>.subset hx))
  refine List.pairwise_append.2 ⟨h.sublist (List.takeWhile_sublist _), List.pairwise_cons.2 ⟨hd, h.sublist (List.dropWhile_sublist _)⟩, fun a ha b hb => ?_⟩
  have h1 := take_lt ha
  rcases List.mem_cons.1 hb with rfl | hb
  · exact h1
  · exact before_trans h1 (hd b hb)

theorem srts_up : ∀ {l o : List Cd}, Up o → Unlike (o ++ l) → Up (l.foldl ins o)
  | [], _, h, _ => h
  | c :: l, o, h, hu => by
    rw [List.foldl_cons]
    refine srts_up (ins_up h fun x hx => ?_) (hu.perm ?_)
    · exact (List.pairwise_append.1 hu).2.2 x hx c (List.mem_cons_self ..)
    · exact List.perm_middle.trans ((ins_perm o c).append_right l).symm

theorem srt_up {l : List Cd} (h : Unlike l) : Up (srt l) := srts_up .nil h

/-- Whichever way cards are put in order, it is the same row. -/
theorem up_ext : ∀ {l m : List Cd}, Up l → Up m → l.Perm m → l = m
  | [], m, _, _, p => (List.nil_perm.1 p).symm
  | x :: l, [], _, _, p => by have := p.length_eq; simp at this
  | x :: l, y :: m, hl, hm, p => by
    obtain ⟨l1, l2⟩ := List.pairwise_cons.1 hl
    obtain ⟨m1, m2⟩ := List.pairwise_cons.1 hm
    have e : x = y := by
      rcases List.mem_cons.1 (p.subset (List.mem_cons_self ..)) with e | hx
      · exact e
      · rcases List.mem_cons.1 (p.symm.subset (List.mem_cons_self ..)) with e | hy
        · exact e.symm
        · have a1 := m1 x hx
          have a2 := before_asymm (l1 y hy)
          rw [a1] at a2
          cases a2
    subst e
    rw [up_ext l2 m2 p.cons_inv]

theorem srt_is {l m : List Cd} (h : Unlike l) (hm : Up m) (p : m.Perm l) : srt l = m := up_ext (srt_up h) hm ((srt_perm l).trans p.symm)

theorem ins_at {l : List Cd} {c : Cd} {k : Nat} (hk : k ≤ l.length) (ha : ∀ j x, j < k → l[j]? = some x → before x c = true) (hb : ∀ x, l[k]? = some x → before x c = false) : ins l c = l.take k ++ c :: l.drop k := by
  have key : ∀ (l : List Cd) (k : Nat), k ≤ l.length → (∀ j x, j < k → l[j]? = some x → before x c = true) → (∀ x, l[k]? = some x → before x c = false) → l.takeWhile (fun x => before x c) = l.take k ∧ l.dropWhile (fun x => before x c) = l.drop k := by
    intro l
    induction l with
    | nil => intro k _ _ _; simp
    | cons y l ih =>
      intro k hk ha hb
      cases k with
      | zero =>
        have hy := hb y rfl
        rw [List.takeWhile_cons, List.dropWhile_cons, if_neg (by rw [hy]; decide), if_neg (by rw [hy]; decide)]
        simp
      | succ k =>
        have hy := ha 0 y (by omega) rfl
        obtain ⟨h1, h2⟩ := ih k (by simpa using hk) (fun j x hj hx => ha (j + 1) x (by omega) (by simpa using hx)) (fun x hx => hb x (by simpa using hx))
        rw [List.takeWhile_cons, List.dropWhile_cons, if_pos hy, if_pos hy, h1, h2]
        simp
  obtain ⟨h1, h2⟩ := key l k hk ha hb
  unfold ins
  rw [h1, h2]

/-! ### Where words stand -/

/-- From place k on: where t stands. -/
def plc (t : ByteArray) : Nat → List ByteArray → List Int
  | _, [] => []
  | k, x :: l => if x = t then (k : Int) :: plc t (k + 1) l else plc t (k + 1) l
def places (l : List ByteArray) (t : ByteArray) : List Int := plc t 0 l

theorem plc_app (t : ByteArray) : ∀ (l m : List ByteArray) (k : Nat), plc t k (l ++ m) = plc t k l ++ plc t (k + l.length) m
  | [], m, k => by simp [plc]
  | x :: l, m, k => by
    have := plc_app t l m (k + 1)
    simp only [List.cons_append, plc, this, List.length_cons, show k + 1 + l.length = k + (l.length + 1) by omega]
    split <;> simp

theorem places_step {l : List ByteArray} {k : Nat} {x : ByteArray} (h : l[k]? = some x) (t : ByteArray) : places (l.take (k + 1)) t = places (l.take k) t ++ if x = t then [(k : Int)] else [] := by
  obtain ⟨hk, rfl⟩ := List.getElem?_eq_some_iff.1 h
  unfold places
  rw [List.take_succ_eq_append_getElem hk, plc_app]
  have e : (l.take k).length = k := by simp; omega
  rw [e]
  simp [plc]

theorem mem_plc (t : ByteArray) : ∀ (l : List ByteArray) (k : Nat) (y : Int), y ∈ plc t k l ↔ ∃ j : Nat, y = ((k + j : Nat) : Int) ∧ l[j]? = some t
  | [], k, y => by simp [plc]
  | x :: l, k, y => by
    have ih := mem_plc t l (k + 1) y
    have key : (∃ j : Nat, y = ((k + j : Nat) : Int) ∧ (x :: l)[j]? = some t) ↔ (y = (k : Int) ∧ x = t) ∨ ∃ j : Nat, y = ((k + 1 + j : Nat) : Int) ∧ l[j]? = some t := by
      constructor
      · rintro ⟨j, h1, h2⟩
        cases j with
        | zero => exact .inl ⟨by simpa using h1, by simpa using h2⟩
        | succ j => exact .inr ⟨j, by rw [h1]; congr 1; omega, by simpa using h2⟩
      · rintro (⟨h1, h2⟩ | ⟨j, h1, h2⟩)
        · exact ⟨0, by simpa using h1, by simp [h2]⟩
        · exact ⟨j + 1, by rw [h1]; congr 1; omega, by simpa using h2⟩
    rw [key, ← ih]
    simp only [plc]
    split
    · rename_i e
      simp [e]
    · rename_i e
      simp [e]

theorem mem_places {l : List ByteArray} {t : ByteArray} {y : Int} : y ∈ places l t ↔ ∃ j : Nat, y = (j : Int) ∧ l[j]? = some t := by
  unfold places
  rw [mem_plc]
  simp

theorem plc_up (t : ByteArray) : ∀ (l : List ByteArray) (k : Nat), (plc t k l).Pairwise (fun a b => a < b) ∧ ∀ y ∈ plc t k l, (k : Int) ≤ y
  | [], _ => ⟨.nil, fun y hy => by cases hy⟩
  | x :: l, k => by
    obtain ⟨h1, h2⟩ := plc_up t l (k + 1)
    simp only [plc]
    split
    · refine ⟨List.pairwise_cons.2 ⟨fun y hy => by have := h2 y hy; omega, h1⟩, fun y hy => ?_⟩
      rcases List.mem_cons.1 hy with rfl | hy
      · omega
      · have := h2 y hy; omega
    · exact ⟨h1, fun y hy => by have := h2 y hy; omega⟩

theorem places_up (l : List ByteArray) (t : ByteArray) : (places l t).Pairwise fun a b => a < b := (plc_up t l 0).1

theorem plc_len (t : ByteArray) : ∀ (l : List ByteArray) (k : Nat), (plc t k l).length ≤ l.length
  | [], _ => Nat.le_refl _
  | x :: l, k => by
    have := plc_len t l (k + 1)
    simp only [plc, List.length_cons]
    split
    · simp; omega
    · omega
theorem places_len (l : List ByteArray) (t : ByteArray) : (places l t).length ≤ l.length := plc_len t l 0

theorem places_nil {l : List ByteArray} {t : ByteArray} : places l t = [] ↔ t ∉ l := by
  rw [List.eq_nil_iff_forall_not_mem]
  constructor
  · intro h ht
    obtain ⟨j, hj, e⟩ := List.mem_iff_getElem.1 ht
    exact h (j : Int) (mem_places.2 ⟨j, rfl, by rw [List.getElem?_eq_getElem hj, e]⟩)
  · intro h y hy
    obtain ⟨j, -, e⟩ := mem_places.1 hy
    exact h (List.mem_of_getElem? e)

/-! ### Postings: of each document, by its place, in which a word stands, at which places -/

/-- From document i on. -/
def pst (t : ByteArray) : Nat → List Cd → List (Int × List Int)
  | _, [] => []
  | i, c :: l => if places c.w t = [] then pst t (i + 1) l else ((i : Int), places c.w t) :: pst t (i + 1) l
def posts (l : List Cd) (t : ByteArray) : List (Int × List Int) := pst t 0 l

theorem pst_app (t : ByteArray) : ∀ (l m : List Cd) (i : Nat), pst t i (l ++ m) = pst t i l ++ pst t (i + l.length) m
  | [], m, i => by simp [pst]
  | c :: l, m, i => by
    have := pst_app t l m (i + 1)
    simp only [List.cons_append, pst, this, List.length_cons, show i + 1 + l.length = i + (l.length + 1) by omega]
    split <;> simp

theorem posts_step {l : List Cd} {i : Nat} {c : Cd} (h : l[i]? = some c) (t : ByteArray) : posts (l.take (i + 1)) t = posts (l.take i) t ++ if places c.w t = [] then [] else [((i : Int), places c.w t)] := by
  obtain ⟨hi, rfl⟩ := List.getElem?_eq_some_iff.1 h
  unfold posts
  rw [List.take_succ_eq_append_getElem hi, pst_app]
  have e : (l.take i).length = i := by simp; omega
  rw [e]
  simp [pst]

theorem mem_pst (t : ByteArray) : ∀ (l : List Cd) (i : Nat) (p : Int × List Int), p ∈ pst t i l ↔ ∃ (j : Nat) (c : Cd), l[j]? = some c ∧ p = (((i + j : Nat) : Int), places c.w t) ∧ places c.w t ≠ []
  | [], i, p => by simp [pst]
  | x :: l, i, p => by
    have ih := mem_pst t l (i + 1) p
    have key : (∃ (j : Nat) (c : Cd), (x :: l)[j]? = some c ∧ p = (((i + j : Nat) : Int), places c.w t) ∧ places c.w t ≠ []) ↔ (p = ((i : Int), places x.w t) ∧ places x.w t ≠ []) ∨ ∃ (j : Nat) (c : Cd), l[j]? = some c ∧ p = (((i + 1 + j : Nat) : Int), places c.w t) ∧ places c.w t ≠ [] := by
      constructor
      · rintro ⟨j, c, h1, h2, h3⟩
        cases j with
        | zero =>
          simp at h1
          subst h1
          exact .inl ⟨by simpa using h2, h3⟩
        | succ j => exact .inr ⟨j, c, by simpa using h1, by rw [h2, show i + 1 + j = i + (j + 1) by omega], h3⟩
      · rintro (⟨h2, h3⟩ | ⟨j, c, h1, h2, h3⟩)
        · exact ⟨0, x, rfl, by simpa using h2, h3⟩
        · exact ⟨j + 1, c, by simpa using h1, by rw [h2, show i + 1 + j = i + (j + 1) by omega], h3⟩
    rw [key, ← ih]
    simp only [pst]
    split
    · rename_i e
      simp [e]
    · rename_i e
      simp [e]

theorem mem_posts {l : List Cd} {t : ByteArray} {p : Int × List Int} : p ∈ posts l t ↔ ∃ (j : Nat) (c : Cd), l[j]? = some c ∧ p = ((j : Int), places c.w t) ∧ places c.w t ≠ [] := by
  unfold posts
  rw [mem_pst]
  simp

theorem pst_up (t : ByteArray) : ∀ (l : List Cd) (i : Nat), (pst t i l).Pairwise (fun p q => p.1 < q.1) ∧ ∀ p ∈ pst t i l, (i : Int) ≤ p.1
  | [], _ => ⟨.nil, fun p hp => by cases hp⟩
  | x :: l, i => by
    obtain ⟨h1, h2⟩ := pst_up t l (i + 1)
    simp only [pst]
    split
    · exact ⟨h1, fun p hp => by have := h2 p hp; omega⟩
    · refine ⟨List.pairwise_cons.2 ⟨fun p hp => by have := h2 p hp; simp only; omega, h1⟩, fun p hp => ?_⟩
      rcases List.mem_cons.1 hp with rfl | hp
      · simp
      · have := h2 p hp; omega
theorem posts_up (l : List Cd) (t : ByteArray) : (posts l t).Pairwise fun p q => p.1 < q.1 := (pst_up t l 0).1

theorem pst_len (t : ByteArray) : ∀ (l : List Cd) (i : Nat), (pst t i l).length ≤ l.length
  | [], _ => Nat.le_refl _
  | x :: l, i => by
    have := pst_len t l (i + 1)
    simp only [pst, List.length_cons]
    split
    · omega
    · simp; omega
theorem posts_len (l : List Cd) (t : ByteArray) : (posts l t).length ≤ l.length := pst_len t l 0

/-- A word stands in document d at place k, by its postings, just if it does by the cards. -/
theorem stands {l : List Cd} {t : ByteArray} {d k : Nat} {c : Cd} (hc : l[d]? = some c) : (∃ p ∈ posts l t, p.1 = (d : Int) ∧ (k : Int) ∈ p.2) ↔ c.w[k]? = some t := by
  constructor
  · rintro ⟨p, hp, h1, h2⟩
    obtain ⟨j, c', hj, rfl, -⟩ := mem_posts.1 hp
    have e : j = d := by simp only at h1; omega
    subst e
    rw [hc] at hj
    cases hj
    obtain ⟨y, hy, h3⟩ := mem_places.1 h2
    have e : y = k := by omega
    subst e
    exact h3
  · intro h
    have hm : (k : Int) ∈ places c.w t := mem_places.2 ⟨k, rfl, h⟩
    exact ⟨((d : Int), places c.w t), mem_posts.2 ⟨d, c, hc, rfl, fun e => by rw [e] at hm; cases hm⟩, rfl, hm⟩

/-- What the postings tell of one document are the places in it. -/
theorem of_doc {l : List Cd} {t : ByteArray} {d : Nat} {c : Cd} (hc : l[d]? = some c) : ((posts l t).filter fun p => decide (p.1 = (d : Int))).flatMap (·.2) = places c.w t := by
  have key : ∀ (l : List Cd) (i : Nat), (∀ j c', l[j]? = some c' → i + j ≠ d) → (pst t i l).filter (fun p => decide (p.1 = (d : Int))) = [] := by
    intro l i h
    rw [List.filter_eq_nil_iff]
    intro p hp
    obtain ⟨j, c', hj, rfl, -⟩ := (mem_pst t l i p).1 hp
    have := h j c' hj
    simp only [decide_eq_true_eq]
    omega
  obtain ⟨hd, rfl⟩ := List.getElem?_eq_some_iff.1 hc
  have hsplit : l = l.take d ++ ([l[d]] ++ l.drop (d + 1)) := by
    rw [List.singleton_append, ← List.drop_eq_getElem_cons hd, List.take_append_drop]
  have hlen : (l.take d).length = d := by simp; omega
  have e1 : posts l t = pst t 0 (l.take d) ++ (pst t d [l[d]] ++ pst t (d + 1) (l.drop (d + 1))) := by
    have : posts l t = pst t 0 (l.take d ++ ([l[d]] ++ l.drop (d + 1))) := by rw [← hsplit]; rfl
    rw [this, pst_app, pst_app, hlen]
    simp
  have f1 := key (l.take d) 0 (fun j c' hj => by have := (List.getElem?_eq_some_iff.1 hj).1; omega)
  have f3 := key (l.drop (d + 1)) (d + 1) (fun j c' _ => by omega)
  rw [e1, List.filter_append, List.filter_append, f1, f3, List.nil_append, List.append_nil]
  simp only [pst]
  split
  · rename_i e
    simp [e]
  · simp

/-! ### What may be, and the errors -/

def fits (c : Cd) : Bool := decide (c.w.length ≤ 120) && c.w.all (fun x => decide (1 ≤ x.size) && decide (x.size ≤ 32)) && decide (1 ≤ c.id.size) && decide (c.id.size ≤ 16) && decide (0 ≤ c.key) && decide (c.key ≤ 1073741824)

/-- The words of them all, in their order, each once. -/
def words (l : List Cd) : List ByteArray := D.un (l.map (·.w))

theorem mem_words {l : List Cd} {x : ByteArray} : x ∈ words l ↔ ∃ c ∈ l, x ∈ c.w := by
  unfold words
  rw [D.mem_un]
  constructor
  · rintro ⟨m, hm, hx⟩
    obtain ⟨c, hc, rfl⟩ := List.mem_map.1 hm
    exact ⟨c, hc, hx⟩
  · rintro ⟨c, hc, hx⟩
    exact ⟨c.w, List.mem_map.2 ⟨c, hc, rfl⟩, hx⟩

theorem words_rise (l : List Cd) : D.Rise (words l) := D.un_rise _

/-- In whatever order the cards stand, their words are the same. -/
theorem words_perm {l m : List Cd} (p : l.Perm m) : words l = words m :=
  D.rise_ext (words_rise _) (words_rise _) fun x => by
    rw [mem_words, mem_words]
    exact ⟨fun ⟨c, hc, hx⟩ => ⟨c, p.subset hc, hx⟩, fun ⟨c, hc, hx⟩ => ⟨c, p.symm.subset hc, hx⟩⟩
end S
end Go.Proofs.Ytonhehhmnobciaa
