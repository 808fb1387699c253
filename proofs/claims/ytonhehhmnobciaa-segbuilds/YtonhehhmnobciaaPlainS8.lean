/-
  Segments that may be: at each place stands just one word. Plain mathematics; no program is named here.
-/
import Derived.Test.YtonhehhmnobciaaKBase8
import Derived.Test.YtonhehhmnobciaaPlain6
namespace Go.Proofs.Ytonhehhmnobciaa
set_option maxRecDepth 100000
namespace S

/-- Cards that make a segment, in this order. -/
structure Ok (l : List Cd) (so : Bool) : Prop where
  fit : ∀ c ∈ l, fits c = true
  unl : Unlike l
  len : l.length ≤ 64
  few : (words l).length ≤ 200
  up : so = true → Up l

theorem fits_w {c : Cd} (h : fits c = true) : c.w.length ≤ 120 ∧ (∀ x ∈ c.w, 1 ≤ x.size ∧ x.size ≤ 32) ∧ 1 ≤ c.id.size ∧ c.id.size ≤ 16 ∧ 0 ≤ c.key ∧ c.key ≤ 1073741824 := by
  simp only [fits, Bool.and_eq_true, decide_eq_true_eq, List.all_eq_true] at h
  obtain ⟨⟨⟨⟨⟨h1, h2⟩, h3⟩, h4⟩, h5⟩, h6⟩ := h
  exact ⟨h1, fun x hx => h2 x hx, h3, h4, h5, h6⟩

theorem Ok.may {l : List Cd} {so : Bool} (h : Ok l so) : D.may (words l) = true := by
  refine D.may_of h.few (words_rise l) fun x hx => ?_
  obtain ⟨c, hc, hxc⟩ := mem_words.1 hx
  exact (fits_w (h.fit c hc)).2.1 x hxc

theorem words_may {l : List Cd} (h : ∀ c ∈ l, fits c = true) : D.may (words l) = decide ((words l).length ≤ 200) := by
  by_cases hl : (words l).length ≤ 200
  · rw [decide_eq_true hl]
    refine D.may_of hl (words_rise l) fun x hx => ?_
    obtain ⟨c, hc, hxc⟩ := mem_words.1 hx
    exact (fits_w (h c hc)).2.1 x hxc
  · rw [decide_eq_false hl]
    cases hm : D.may (words l) with
    | false => rfl
    | true => exact absurd (D.may_len hm) hl

abbrev Spot := (Int × Int) × Nat
/-- Where a word (the i-th one) is laid. -/
def sp (i : Nat) (p : Pt) : List Spot := p.a.map fun k => ((p.d, k), i)
def spots : Nat → List Tm → List Spot
  | _, [] => []
  | i, t :: ts => t.p.flatMap (sp i) ++ spots (i + 1) ts
theorem spots_app : ∀ (a b : List Tm) (i : Nat), spots i (a ++ b) = spots i a ++ spots (i + a.length) b
  | [], b, i => by simp [spots]
  | t :: a, b, i => by
    have := spots_app a b (i + 1)
    simp only [List.cons_append, spots, this, List.append_assoc, List.length_cons, show i + 1 + a.length = i + (a.length + 1) by omega]
theorem spots_snoc {ts : List Tm} {k : Nat} {t : Tm} (h : ts[k]? = some t) : spots 0 (ts.take (k + 1)) = spots 0 (ts.take k) ++ t.p.flatMap (sp k) := by
  obtain ⟨hk, rfl⟩ := List.getElem?_eq_some_iff.1 h
  rw [List.take_succ_eq_append_getElem hk, spots_app]
  have e : (ts.take k).length = k := by simp; omega
  rw [e]
  simp [spots]

theorem mem_spots : ∀ {ts : List Tm} {i : Nat} {x : Spot}, x ∈ spots i ts ↔ ∃ (n : Nat) (t : Tm) (p : Pt), ts[n]? = some t ∧ p ∈ t.p ∧ x.1.1 = p.d ∧ x.1.2 ∈ p.a ∧ x.2 = i + n
  | [], i, x => by simp [spots]
  | t :: ts, i, x => by
    have ih := mem_spots (ts := ts) (i := i + 1) (x := x)
    simp only [spots, List.mem_append, ih]
    constructor
    · rintro (h | ⟨n, t', p, h1, h2, h3, h4, h5⟩)
      · obtain ⟨p, hp, hx⟩ := List.mem_flatMap.1 h
        obtain ⟨k, hk, rfl⟩ := List.mem_map.1 hx
        exact ⟨0, t, p, rfl, hp, rfl, hk, rfl⟩
      · exact ⟨n + 1, t', p, by simpa using h1, h2, h3, h4, by omega⟩
    · rintro ⟨n, t', p, h1, h2, h3, h4, h5⟩
      cases n with
      | zero =>
        simp at h1
        subst h1
        refine .inl (List.mem_flatMap.2 ⟨p, h2, List.mem_map.2 ⟨x.1.2, h4, ?_⟩⟩)
        obtain ⟨⟨x1, x2⟩, x3⟩ := x
        simp only at h3 h5 ⊢
        subst h3 h5
        rfl
      | succ n => exact .inr ⟨n, t', p, by simpa using h1, h2, h3, h4, by omega⟩

/-- The places of the segment of cards. -/
def laid (l : List Cd) : List Spot := spots 0 ((words l).map (term l))

theorem mem_laid {l : List Cd} {x : Spot} : x ∈ laid l ↔ ∃ (d k : Nat) (c : Cd) (t : ByteArray), x.1 = ((d : Int), (k : Int)) ∧ l[d]? = some c ∧ c.w[k]? = some t ∧ (words l)[x.2]? = some t := by
  unfold laid
  rw [mem_spots]
  constructor
  · rintro ⟨n, t', p, h1, h2, h3, h4, h5⟩
    rw [List.getElem?_map] at h1
    obtain ⟨t, ht, rfl⟩ := Option.map_eq_some_iff.1 h1
    obtain ⟨q, hq, rfl⟩ := List.mem_map.1 h2
    obtain ⟨d, c, hc, rfl, -⟩ := mem_posts.1 hq
    obtain ⟨k, hk, hw⟩ := mem_places.1 h4
    exact ⟨d, k, c, t, Prod.ext h3 hk, hc, hw, by rw [h5, Nat.zero_add]; exact ht⟩
  · rintro ⟨d, k, c, t, h1, h2, h3, h4⟩
    have hm : (k : Int) ∈ places c.w t := mem_places.2 ⟨k, rfl, h3⟩
    refine ⟨x.2, term l t, ⟨d, places c.w t⟩, by rw [List.getElem?_map, h4]; rfl, List.mem_map.2 ⟨((d : Int), places c.w t), mem_posts.2 ⟨d, c, h2, rfl, fun e => by rw [e] at hm; cases hm⟩, rfl⟩, by rw [h1], by rw [h1]; exact hm, by omega⟩

/-- Each place has one word. -/
theorem laid_one {l : List Cd} {x y : Spot} (hx : x ∈ laid l) (hy : y ∈ laid l) (h : x.1 = y.1) : x = y := by
  obtain ⟨d, k, c, t, h1, h2, h3, h4⟩ := mem_laid.1 hx
  obtain ⟨d', k', c', t', g1, g2, g3, g4⟩ := mem_laid.1 hy
  have e : ((d : Int), (k : Int)) = ((d' : Int), (k' : Int)) := by rw [← h1, ← g1, h]
  simp only [Prod.mk.injEq] at e
  obtain rfl : d = d' := by omega
  obtain rfl : k = k' := by omega
  rw [h2] at g2
  cases g2
  rw [h3] at g3
  cases g3
  have e1 := D.bel_self (words_rise l) h4
  have e2 := D.bel_self (words_rise l) g4
  exact Prod.ext h (by omega)

theorem spots_nodup : ∀ {ts : List Tm} {i : Nat}, (∀ t ∈ ts, t.p.Pairwise (fun p q => p.d < q.d) ∧ ∀ p ∈ t.p, p.a.Pairwise (fun a b => a < b)) → (spots i ts).Nodup
  | [], i, _ => by simp [spots]
  | t :: ts, i, h => by
    obtain ⟨h1, h2⟩ := h t (List.mem_cons_self ..)
    have ih := spots_nodup (ts := ts) (i := i + 1) (fun t' ht' => h t' (List.mem_cons_of_mem _ ht'))
    rw [List.nodup_iff_pairwise_ne] at ih ⊢
    simp only [spots]
    refine List.pairwise_append.2 ⟨List.pairwise_flatMap.2 ⟨fun p hp => ?_, ?_⟩, ih, fun x hx y hy e => ?_⟩
    · unfold sp
      rw [List.pairwise_map]
      refine (h2 p hp).imp fun hab e => ?_
      simp only [Prod.mk.injEq, true_and, and_true] at e
      omega
    · refine h1.imp fun hpq x hx y hy e => ?_
      obtain ⟨a, -, rfl⟩ := List.mem_map.1 hx
      obtain ⟨b, -, rfl⟩ := List.mem_map.1 hy
      simp only [Prod.mk.injEq] at e
      omega
    · subst e
      obtain ⟨p, -, hx⟩ := List.mem_flatMap.1 hx
      obtain ⟨a, -, rfl⟩ := List.mem_map.1 hx
      obtain ⟨n, -, -, -, -, -, -, h5⟩ := mem_spots.1 hy
      simp only at h5
      omega

theorem laid_nodup (l : List Cd) : (laid l).Nodup := by
  refine spots_nodup fun t ht => ?_
  obtain ⟨x, -, rfl⟩ := List.mem_map.1 ht
  refine ⟨?_, fun p hp => ?_⟩
  · show ((posts l x).map pt).Pairwise _
    rw [List.pairwise_map]
    exact posts_up l x
  · obtain ⟨q, hq, rfl⟩ := List.mem_map.1 hp
    obtain ⟨d, c, -, rfl, -⟩ := mem_posts.1 hq
    exact places_up c.w x

theorem laid_keys (l : List Cd) : ((laid l).map (·.1)).Nodup := by
  rw [List.nodup_iff_pairwise_ne, List.pairwise_map]
  have := laid_nodup l
  rw [List.nodup_iff_pairwise_ne] at this
  exact List.Pairwise.imp_of_mem (fun ha hb hne e => hne (laid_one ha hb e)) this

/-- All places of cards. -/
def pairs : Nat → List Cd → List (Int × Int)
  | _, [] => []
  | d, c :: l => ((List.range c.w.length).map fun k : Nat => ((d : Int), (k : Int))) ++ pairs (d + 1) l
def total (l : List Cd) : Nat := (l.map (fun c => c.w.length)).sum
theorem pairs_len : ∀ (l : List Cd) (d : Nat), (pairs d l).length = total l
  | [], d => rfl
  | c :: l, d => by
    have := pairs_len l (d + 1)
    simp only [pairs, List.length_append, List.length_map, List.length_range, this, total, List.map_cons, List.sum_cons]
theorem mem_pairs : ∀ {l : List Cd} {d : Nat} {x : Int × Int}, x ∈ pairs d l ↔ ∃ (n k : Nat) (c : Cd), x = (((d + n : Nat) : Int), (k : Int)) ∧ l[n]? = some c ∧ k < c.w.length
  | [], d, x => by simp [pairs]
  | c :: l, d, x => by
    have ih := mem_pairs (l := l) (d := d + 1) (x := x)
    simp only [pairs, List.mem_append, ih, List.mem_map, List.mem_range]
    constructor
    · rintro (⟨k, hk, rfl⟩ | ⟨n, k, c', h1, h2, h3⟩)
      · exact ⟨0, k, c, by simp, rfl, hk⟩
      · exact ⟨n + 1, k, c', by rw [h1, show d + 1 + n = d + (n + 1) by omega], by simpa using h2, h3⟩
    · rintro ⟨n, k, c', h1, h2, h3⟩
      cases n with
      | zero =>
        simp at h2
        subst h2
        exact .inl ⟨k, h3, by rw [h1]; simp⟩
      | succ n => exact .inr ⟨n, k, c', by rw [h1, show d + 1 + n = d + (n + 1) by omega], by simpa using h2, h3⟩
theorem pairs_nodup : ∀ (l : List Cd) (d : Nat), (pairs d l).Nodup
  | [], d => by simp [pairs]
  | c :: l, d => by
    have ih := pairs_nodup l (d + 1)
    rw [List.nodup_iff_pairwise_ne] at ih ⊢
    simp only [pairs]
    refine List.pairwise_append.2 ⟨?_, ih, fun x hx y hy e => ?_⟩
    · rw [List.pairwise_map]
      have := List.nodup_range (n := c.w.length)
      rw [List.nodup_iff_pairwise_ne] at this
      refine this.imp fun hne e => ?_
      simp only [Prod.mk.injEq, true_and] at e
      omega
    · subst e
      obtain ⟨k, -, rfl⟩ := List.mem_map.1 hx
      obtain ⟨n, k', c', h1, -, -⟩ := mem_pairs.1 hy
      simp only [Prod.mk.injEq] at h1
      omega

theorem laid_len (l : List Cd) : (laid l).length = total l := by
  have hp : ((laid l).map (·.1)).Perm (pairs 0 l) := (List.perm_ext_iff_of_nodup (laid_keys l) (pairs_nodup l 0)).2 fun x => by
    rw [mem_pairs]
    constructor
    · intro hx
      obtain ⟨y, hy, rfl⟩ := List.mem_map.1 hx
      obtain ⟨d, k, c, t, h1, h2, h3, -⟩ := mem_laid.1 hy
      exact ⟨d, k, c, by rw [h1]; simp, h2, (List.getElem?_eq_some_iff.1 h3).1⟩
    · rintro ⟨d, k, c, h1, h2, h3⟩
      have hw : c.w[k]? = some c.w[k] := List.getElem?_eq_getElem h3
      have hm : c.w[k] ∈ words l := mem_words.2 ⟨c, List.mem_of_getElem? h2, List.getElem_mem h3⟩
      obtain ⟨i, hi, he⟩ := List.mem_iff_getElem.1 hm
      exact List.mem_map.2 ⟨(x, i), mem_laid.2 ⟨d, k, c, c.w[k], by rw [h1]; simp, h2, hw, by rw [List.getElem?_eq_getElem hi, he]⟩, rfl⟩
  have := hp.length_eq
  rw [List.length_map, pairs_len] at this
  exact this

theorem total_le {l : List Cd} (h : ∀ c ∈ l, c.w.length ≤ 120) : total l ≤ l.length * 120 := by
  induction l with
  | nil => simp [total]
  | cons c l ih =>
    have h1 := h c (List.mem_cons_self ..)
    have h2 := ih fun c' hc' => h c' (List.mem_cons_of_mem _ hc')
    simp only [total, List.map_cons, List.sum_cons, List.length_cons] at h2 ⊢
    omega

/-- The postings of a word may be. -/
theorem pst_may (t : ByteArray) : ∀ (l : List Cd) (i : Nat), i + l.length ≤ 64 → (∀ c ∈ l, c.w.length ≤ 120) → ∀ m : Int, 0 ≤ m → m ≤ i → Q.mayB m ((pst t i l).map pt) = true
  | [], i, _, _, m, _, _ => rfl
  | c :: l, i, hl, hw, m, h0, hm => by
    simp only [List.length_cons] at hl
    have ih := fun m' => pst_may t l (i + 1) (by omega) (fun c' hc' => hw c' (List.mem_cons_of_mem _ hc')) m'
    simp only [pst]
    split
    · exact ih m h0 (by omega)
    · rename_i hp
      rw [List.map_cons, Q.may_cons (p := pt ((i : Int), places c.w t)) ⟨hm, by show (i : Int) < 64; omega⟩]
      · exact ih _ (by show (0 : Int) ≤ (i : Int) + 1; omega) (by show (i : Int) + 1 ≤ ((i + 1 : Nat) : Int); omega)
      · show Q.places (places c.w t) = true
        have hlen : 0 < (places c.w t).length := by
          rcases Nat.eq_zero_or_pos (places c.w t).length with h | h
          · exact absurd (List.eq_nil_of_length_eq_zero h) hp
          · exact h
        simp only [Q.places, Bool.and_eq_true, decide_eq_true_eq]
        refine ⟨?_, hlen⟩
        have hw' := hw c (List.mem_cons_self ..)
        have key : ∀ (z : List Int) (m : Int), z.Pairwise (fun a b => a < b) → (∀ y ∈ z, m ≤ y ∧ y < 120) → Q.riseB m 120 z = true := by
          intro z
          induction z with
          | nil => intro m _ _; rfl
          | cons y z ih =>
            intro m hp hb
            obtain ⟨p1, p2⟩ := List.pairwise_cons.1 hp
            rw [Q.rise_cons (hb y (List.mem_cons_self ..))]
            exact ih _ p2 fun u hu => ⟨by have := p1 u hu; omega, (hb u (List.mem_cons_of_mem _ hu)).2⟩
        refine key _ 0 (places_up c.w t) fun y hy => ?_
        obtain ⟨j, rfl, hj⟩ := mem_places.1 hy
        have := (List.getElem?_eq_some_iff.1 hj).1
        omega
theorem posts_may {l : List Cd} (hl : l.length ≤ 64) (hw : ∀ c ∈ l, c.w.length ≤ 120) (t : ByteArray) : Q.may ((posts l t).map pt) = true := pst_may t l 0 (by omega) hw 0 (by omega) (by omega)
theorem posts_some {l : List Cd} {t : ByteArray} (h : t ∈ words l) : posts l t ≠ [] := by
  obtain ⟨c, hc, ht⟩ := mem_words.1 h
  obtain ⟨d, hd, e⟩ := List.mem_iff_getElem.1 hc
  have hp : places c.w t ≠ [] := fun e => places_nil.1 e ht
  intro e9
  have : ((d : Int), places c.w t) ∈ posts l t := mem_posts.2 ⟨d, c, by rw [List.getElem?_eq_getElem hd, e], rfl, hp⟩
  rw [e9] at this
  cases this
end S
end Go.Proofs.Ytonhehhmnobciaa
