/-
  What the statements of layer 5 say, in plain mathematics of what Words tells. No walk is here.
-/
import Derived.Test.YtpmbgbahoinelaaTWords5
namespace Go.Proofs.Ytpmbgbahoinelaa

theorem words_bs (s : ByteArray) : (T.words s).map T.bs = T.wgo (T.bs s) [] := by
  unfold T.words
  rw [List.map_map]
  exact List.map_id'' (fun _ => rfl) _

theorem wordsR_err {s : ByteArray} {m : List ByteArray} {n : Int} (h : T.wordsR s = (m, n)) (hn : n ≠ 0) : m = [] ∧ (n = 7 ∨ n = 8) := by
  unfold T.wordsR at h
  (repeat' split at h) <;> (cases h; simp_all)
theorem wordsR_ok {s : ByteArray} {m : List ByteArray} (h : T.wordsR s = (m, 0)) : s.size ≤ 240 ∧ T.valid (T.bs s) = true ∧ m = T.words s ∧ T.long m = false := by
  unfold T.wordsR at h
  split at h
  · cases h
  · split at h
    · cases h
    · split at h
      · cases h
      · rename_i h1 h2 h3
        cases h
        exact ⟨by omega, by simpa using h2, rfl, by simpa using h3⟩
theorem wordsR_mk {s : ByteArray} {m : List ByteArray} (h1 : s.size ≤ 240) (h2 : T.valid (T.bs s) = true) (h3 : T.wgo (T.bs s) [] = m.map T.bs) (h4 : T.long m = false) : T.wordsR s = (m, 0) := by
  have : m = T.words s := words_of h3.symm
  subst this
  unfold T.wordsR
  rw [if_neg (by omega), h2, if_neg (by decide), h4, if_neg (by decide)]

theorem long_all {m : List ByteArray} (h : T.long m = false) : ∀ x ∈ m, x.size ≤ 32 := by
  intro x hx
  unfold T.long at h
  rw [List.any_eq_false] at h
  have := h x hx
  simp at this
  omega
theorem long_no {m : List ByteArray} (h : ∀ x ∈ m, x.size ≤ 32) : T.long m = false := by
  unfold T.long
  rw [List.any_eq_false]
  intro x hx
  have := h x hx
  simp
  omega

theorem mem_bs {s x : ByteArray} (hx : x ∈ T.words s) : T.bs x ∈ T.wgo (T.bs s) [] := by
  rw [← words_bs]
  exact List.mem_map_of_mem hx
theorem word_good {s x : ByteArray} (hx : x ∈ T.words s) : T.Good (T.bs x) := T.wgo_good _ _ (by simp) _ (mem_bs hx)
theorem word_valid {s x : ByteArray} (hv : T.valid (T.bs s) = true) (hx : x ∈ T.words s) : T.valid (T.bs x) = true := T.wgo_valid _ _ 0 0 0 (fun h => absurd rfl h) (fun _ => rfl) hv _ (mem_bs hx)

/-- Each word is one. -/
theorem word_term {s x : ByteArray} {m : List ByteArray} (h : T.wordsR s = (m, 0)) (hx : x ∈ m) : T.termR x (T.wordsR x) = true := by
  obtain ⟨_, h2, rfl, h4⟩ := wordsR_ok h
  have hz := long_all h4 x hx
  rw [wordsR_mk (m := [x]) (by omega) (word_valid h2 hx) (T.wgo_self (word_good hx)) (long_no (by simpa using hz))]
  simp [T.termR]

/-- Words with a blank between each. -/
def joinB (ws : List ByteArray) : ByteArray := ⟨(T.join (ws.map T.bs)).toArray⟩
theorem joinB_nil : joinB [] = ⟨#[]⟩ := rfl
theorem joinB_one (x : ByteArray) : joinB [x] = ⟨#[]⟩ ++ x := by
  apply bs_inj
  rw [bs_append]
  rfl
theorem joinB_snoc {ws : List ByteArray} (h : ws ≠ []) (x : ByteArray) : joinB (ws ++ [x]) = joinB ws ++ ⟨#[32]⟩ ++ x := by
  apply bs_inj
  rw [bs_append, bs_append]
  show T.join ((ws ++ [x]).map T.bs) = T.join (ws.map T.bs) ++ [32] ++ T.bs x
  rw [List.map_append, List.map_singleton, T.join_snoc _ _ (by simpa using h)]
  simp
theorem joinB_words {s : ByteArray} {m : List ByteArray} (h : T.wordsR s = (m, 0)) : T.wordsR (joinB m) = (m, 0) ∧ (joinB m).size ≤ s.size := by
  obtain ⟨h1, h2, rfl, h4⟩ := wordsR_ok h
  have hz : (joinB (T.words s)).size ≤ s.size := by
    rw [← bs_len, ← bs_len s]
    show (T.join ((T.words s).map T.bs)).length ≤ _
    rw [words_bs]
    have := T.join_len (T.bs s) []
    simpa using this
  refine ⟨wordsR_mk (by omega) ?_ ?_ h4, hz⟩
  · refine T.valid_join _ (fun u hu => ?_)
    obtain ⟨x, hx, rfl⟩ := List.mem_map.1 hu
    exact word_valid h2 hx
  · refine T.wgo_join _ (fun u hu => ?_)
    obtain ⟨x, hx, rfl⟩ := List.mem_map.1 hu
    exact word_good hx
theorem joinB_take {m : List ByteArray} {k : Nat} {x : ByteArray} (h : m[k]? = some x) : joinB (m.take (k + 1)) = if k = 0 then joinB (m.take k) ++ x else joinB (m.take k) ++ ⟨#[32]⟩ ++ x := by
  obtain ⟨hk, rfl⟩ := List.getElem?_eq_some_iff.1 h
  rw [List.take_succ_eq_append_getElem hk]
  by_cases h0 : k = 0
  · subst h0
    rw [if_pos rfl]
    exact joinB_one m[0]
  · rw [if_neg h0]
    refine joinB_snoc (fun e => ?_) _
    have := congrArg List.length e
    rw [List.length_take, List.length_nil] at this
    omega
theorem joinB_size {m : List ByteArray} (h : T.long m = false) : ∀ k, k ≤ m.length → (joinB (m.take k)).size ≤ 33 * k := by
  intro k
  induction k with
  | zero => intro _; simp [joinB_nil]; rfl
  | succ k ih =>
    intro hk
    have ih := ih (by omega)
    obtain ⟨x, hx⟩ : ∃ x, m[k]? = some x := ⟨m[k], List.getElem?_eq_getElem (by omega)⟩
    have hz := long_all h x (List.mem_of_getElem? hx)
    rw [joinB_take hx]
    have h32 : (⟨#[32]⟩ : ByteArray).size = 1 := rfl
    split
    · rw [ByteArray.size_append]; omega
    · rw [ByteArray.size_append, ByteArray.size_append]; omega

/-- A blank between two texts. -/
theorem joins_plain {a b : ByteArray} {l m n : List ByteArray} {e f g : Int} (hz : a.size + b.size ≤ 239) (ha : T.wordsR a = (l, e)) (hb : T.wordsR b = (m, f)) (hn : T.wordsR (a ++ ⟨#[32]⟩ ++ b) = (n, g)) :
    (¬ (e = 0 ∧ f = 0) → g ≠ 0) ∧ (e = 0 ∧ f = 0 → n = l ++ m ∧ g = 0) := by
  have hbs : T.bs (a ++ ⟨#[32]⟩ ++ b) = T.bs a ++ 32 :: T.bs b := by
    rw [bs_append, bs_append]
    show T.bs a ++ [32] ++ T.bs b = _
    simp
  have hsz : (a ++ ⟨#[32]⟩ ++ b : ByteArray).size ≤ 240 := by
    rw [ByteArray.size_append, ByteArray.size_append]
    have h32 : (⟨#[32]⟩ : ByteArray).size = 1 := rfl
    omega
  have hval : T.valid (T.bs (a ++ ⟨#[32]⟩ ++ b)) = (T.valid (T.bs a) && T.valid (T.bs b)) := by rw [hbs, T.valid_blank]
  have hw : T.wgo (T.bs (a ++ ⟨#[32]⟩ ++ b)) [] = (T.words a ++ T.words b).map T.bs := by rw [hbs, T.wgo_blank, List.map_append, words_bs, words_bs]
  have hlong : T.long (T.words a ++ T.words b) = (T.long (T.words a) || T.long (T.words b)) := by unfold T.long; rw [List.any_append]
  refine ⟨fun hne hg => ?_, fun ⟨he, hf⟩ => ?_⟩
  · subst hg
    obtain ⟨_, h2, h3, h4⟩ := wordsR_ok hn
    have h5 : T.words a ++ T.words b = T.words (a ++ ⟨#[32]⟩ ++ b) := words_of hw.symm
    rw [h3, ← h5, hlong] at h4
    rw [hval] at h2
    simp only [Bool.and_eq_true] at h2
    simp only [Bool.or_eq_false_iff] at h4
    have k1 := wordsR_mk (s := a) (m := T.words a) (by omega) h2.1 (words_bs a).symm h4.1
    have k2 := wordsR_mk (s := b) (m := T.words b) (by omega) h2.2 (words_bs b).symm h4.2
    rw [ha] at k1
    rw [hb] at k2
    cases k1
    cases k2
    exact hne ⟨rfl, rfl⟩
  · subst he hf
    obtain ⟨_, a2, rfl, a4⟩ := wordsR_ok ha
    obtain ⟨_, b2, rfl, b4⟩ := wordsR_ok hb
    have := wordsR_mk (m := T.words a ++ T.words b) hsz (by rw [hval, a2, b2]; rfl) hw (by rw [hlong, a4, b4]; rfl)
    rw [hn] at this
    cases this
    exact ⟨rfl, rfl⟩

/-- Great letters. -/
def upB (s : ByteArray) : ByteArray := ⟨((T.bs s).map T.up).toArray⟩
theorem bs_upB (s : ByteArray) : T.bs (upB s) = (T.bs s).map T.up := rfl
theorem upB_size (s : ByteArray) : (upB s).size = s.size := by rw [← bs_len, bs_upB, List.length_map, bs_len]
theorem valid_upB (s : ByteArray) : T.valid (T.bs (upB s)) = T.valid (T.bs s) := by rw [bs_upB, T.valid_up]
theorem wordsR_upB (s : ByteArray) : T.wordsR (upB s) = T.wordsR s := by
  have : T.words (upB s) = T.words s := by unfold T.words; rw [bs_upB, T.wgo_up]
  unfold T.wordsR
  rw [upB_size, valid_upB, this]

/-- Few. -/
theorem few_plain {s : ByteArray} {m : List ByteArray} {n : Int} (h : T.wordsR s = (m, n)) : 2 * m.length ≤ s.size + 1 ∧ ∀ x ∈ m, 1 ≤ x.size ∧ x.size ≤ 32 := by
  by_cases hn : n = 0
  · subst hn
    obtain ⟨_, _, rfl, h4⟩ := wordsR_ok h
    refine ⟨?_, fun x hx => ⟨?_, long_all h4 x hx⟩⟩
    · have := T.wgo_few (T.bs s) []
      rw [← words_bs, List.length_map, bs_len] at this
      simpa using this
    · have hg := (word_good hx).1
      rw [← bs_len]
      exact List.length_pos_iff.2 hg
  · obtain ⟨rfl, _⟩ := wordsR_err h hn
    exact ⟨by simp, by simp⟩

/-- Two texts; a cut. -/
theorem valid_two {a b : ByteArray} (h : T.valid (T.bs a) = true) : T.valid (T.bs (a ++ b)) = T.valid (T.bs b) := by
  rw [bs_append]
  exact T.ok_append _ 0 0 0 _ h
theorem valid_cut {a : ByteArray} {k : Nat} (h : T.valid (T.bs a) = true) (hk : k < a.size) (r : Bool) (hr : (decide (128 ≤ T.byt (T.bs a) k) && decide (T.byt (T.bs a) k ≤ 191)) = r) :
    T.valid (T.bs (a.extract 0 k)) = !r ∧ T.valid (T.bs (a.extract k a.size)) = !r := by
  have hl : k < (T.bs a).length := by rw [bs_len]; exact hk
  have hc : T.byt (T.bs a) k = ((T.bs a)[k]).toNat := by unfold T.byt; simp [List.getD, hl]
  have := T.ok_cut (T.bs a) 0 0 0 k (T.bs a)[k] (fun h => absurd rfl h) h (List.getElem?_eq_getElem hl)
  rw [bs_from, bs_extract]
  simp only [List.drop_zero, Nat.sub_zero]
  rw [← hc] at this
  subst hr
  by_cases hin : 128 ≤ T.byt (T.bs a) k ∧ T.byt (T.bs a) k ≤ 191
  · have h2 := this.1 hin
    simp only [hin.1, hin.2, decide_true, Bool.and_self, Bool.not_true]
    exact h2
  · have h2 := this.2 hin
    have h3 : (decide (128 ≤ T.byt (T.bs a) k) && decide (T.byt (T.bs a) k ≤ 191)) = false := by
      rw [← Bool.not_eq_true]
      simpa using hin
    rw [h3]
    exact h2
end Go.Proofs.Ytpmbgbahoinelaa
