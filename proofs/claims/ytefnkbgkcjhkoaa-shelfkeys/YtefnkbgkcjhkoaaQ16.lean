/-
  Texts put together: Open8, Open13.
-/
import Derived.Test.YtefnkbgkcjhkoaaQ08
import Derived.Test.YtefnkbgkcjhkoaaRows
import Derived.WalkKit
import Derived.ProofKit
import Derived.OpenShut
import Derived.ChangeOld
import Derived.ChangeMaps5
import Derived.Deep.SlicePairs
import Derived.Deep.Strs
import Derived.Lib.SmallJoins
import Derived.SizedLaws
/-
  What comes in: cards, a card, a text: as it reads.
-/
namespace Go.Proofs.Ytefnkbgkcjhkoaa
open Go.RowKit Go.Deep Go.ChangeShapes Go.WideShapes Go.ChangeAt

section
set_option maxRecDepth 100000
variable {H : Type} {enc : TypeId × Value → H} {w : World} {base : Nat} {sp : Nat → Bool} {held : Bool} {n : Nat} {y : DataW H × List MemPlace}

theorem list_ofG {α : Type} {P : Nat → α → Prop} : ∀ (n : Nat), (∀ i, i < n → ∃ f, P i f) → ∃ L : List α, L.length = n ∧ ∀ i f, L[i]? = some f → P i f
  | 0, _ => ⟨[], rfl, fun i f h => by simp at h⟩
  | n + 1, h => by
    obtain ⟨L, hl, hp⟩ := list_ofG n fun i hi => h i (by omega)
    obtain ⟨f, hf⟩ := h n (Nat.lt_succ_self n)
    refine ⟨L ++ [f], by simp [hl], fun i g hg => ?_⟩
    rcases Nat.lt_or_ge i n with h1 | h1
    · rw [List.getElem?_append_left (by omega)] at hg
      exact hp i g hg
    · rw [List.getElem?_append_right (by omega)] at hg
      have : i - L.length = 0 := by
        have := (List.getElem?_eq_some_iff.1 hg).1
        simp at this; omega
      rw [this] at hg
      simp at hg
      subst hg
      have : i = n := by omega
      rw [this]
      exact hf

theorem tr_texts {v : Value} (h : DataW.trod enc Try.prog w base sp held n 28 [v] = some y) : ∃ s l, v = sv s ∧ Gl Value.string w (sv s) l := by
  rcases open_slice Try.underlying28 h with ⟨hcs, _⟩ | ⟨x, l, c, m, k, D, Pl, hcs, _, hl, hm, hmm, _, hx⟩
  · simp at hcs
    subst hcs
    exact ⟨(none, 0, 0), [], rfl, Gl.nil _ _⟩
  · simp at hcs
    subst hcs
    have hc : Try.prog.cellsOf 9 = 1 := by kernel_rfl
    have hlm : l ≤ m := by rw [hmm]; split <;> omega
    obtain ⟨L, hL, hp⟩ := list_ofG (P := fun i b => w.cell? (x.add i) = some (.string b)) l (fun i hi => by
      obtain ⟨cs', h1, h2⟩ := hx i (by omega)
      rw [hc] at h1
      obtain ⟨_, hlen, hcell⟩ := World.cells?_some h1
      have e0 := hcell 0 (by omega)
      match cs', hlen with
      | [u], _ =>
        obtain ⟨b, e2, _⟩ := DataW.trod_string Try.underlying9 h2
        simp at e2
        subst e2
        exact ⟨b, by simpa [Addr.add] using e0⟩)
    exact ⟨(some x, l, c), L, rfl, some x, c, by rw [hL]; rfl, by omega, hm, (fun h => by cases h), fun q hq i b hb => by
      obtain rfl := Option.some.inj hq
      exact hp i b hb⟩

theorem tr_card {cs : List Value} (h : DataW.trod enc Try.prog w base sp held n 30 cs = some y) : ∃ (p : Cd × Pts), cs = encC p ∧ Gl .string w (sv p.2) p.1.w ∧ p.1.id.size ≤ maxLen := by
  obtain ⟨y0, y1, y2, m, _, hl, g0, g1, g2⟩ := trod_struct3 Try.underlying30 h
  have hc : Try.prog.cellsOf 30 = 3 := by kernel_rfl
  have h9 : Try.prog.cellsOf 9 = 1 := by kernel_rfl
  have h27 : Try.prog.cellsOf 3 = 1 := by kernel_rfl
  have h4 : Try.prog.cellsOf 28 = 1 := by kernel_rfl
  rw [hc] at hl
  match cs, hl with
  | [v0, v1, v2], _ =>
    simp [h9, h27, h4] at g0 g1 g2
    obtain ⟨s, e0, _, hs⟩ := DataW.trod_string Try.underlying9 g0
    obtain ⟨k, e1, _⟩ := DataW.trod_int Try.underlying3 g1
    obtain ⟨q, l, rfl, hq⟩ := tr_texts g2
    simp at e0 e1
    subst e0 e1
    exact ⟨(⟨s, k, l⟩, q), rfl, hq, hs⟩

theorem tr_cards {v : Value} (h : DataW.trod enc Try.prog w base sp held n 22 [v] = some y) : ∃ L, Cs w v L ∧ ((∃ es s', y.1 = .slice es s' ∧ L.length = es.length) ∨ L = []) := by
  rcases open_slice Try.underlying22 h with ⟨hcs, _⟩ | ⟨x, l, c, m, k, D, Pl, hcs, _, hl, hm, hmm, hy, hx⟩
  · simp at hcs
    subst hcs
    exact ⟨[], Cs.nil _, .inr rfl⟩
  · simp at hcs
    subst hcs
    have hc : Try.prog.cellsOf 30 = 3 := by kernel_rfl
    have hlm : l ≤ m := by rw [hmm]; split <;> omega
    obtain ⟨ps, hL, hp⟩ := list_ofG (P := fun i (p : Cd × Pts) => (∀ j u, (encC p)[j]? = some u → w.cell? (x.add (i * 3 + j)) = some u) ∧ Gl .string w (sv p.2) p.1.w) l (fun i hi => by
      obtain ⟨cs', h1, h2⟩ := hx i (by omega)
      rw [hc] at h1
      obtain ⟨_, hlen, hcell⟩ := World.cells?_some h1
      obtain ⟨p, rfl, hw, _⟩ := tr_card h2
      refine ⟨p, fun j u hu => ?_, hw⟩
      have hj := (List.getElem?_eq_some_iff.1 hu).1
      have e0 := hcell j (by omega)
      rw [add_add, hu] at e0
      exact e0)
    refine ⟨ps.map (·.1), ⟨ps, ⟨some x, c, by rw [hL], by omega, hm, (fun h => by cases h), fun q hq i p hi j u hu => ?_⟩, rfl, fun p hpm => ?_⟩, .inl ⟨_, _, by rw [hy], by simp [hL]⟩⟩
    · obtain rfl := Option.some.inj hq
      exact (hp i p hi).1 j u hu
    · obtain ⟨i, hi, rfl⟩ := List.getElem_of_mem hpm
      exact (hp i _ (List.getElem?_eq_getElem hi)).2

theorem open_cds {r : Reach} {b0 : Nat} {v : Value} {d : DataW H} {p : List MemPlace} (hv : Value.okWide Try.prog w r b0 22 v) (h : DataW.Trod enc Try.prog w base sp held 22 v d p) : ∃ L, Cs w v L ∧ ((∃ es s', d = .slice es s' ∧ L.length = es.length) ∨ L = []) := by
  obtain ⟨a, len, cap, rfl⟩ := okWide_slice Try.underlying22 hv
  obtain ⟨fuel, hf⟩ := h
  exact tr_cards (v := .slice a len cap) (by simpa [Value.cells] using hf)
theorem cds_len {ts : List TypeId} {ds : List (DataW H)} (hsz : (DataW.weightsEach Try.prog ts ds).all (· ≤ reachBytes) = true) (ht : ts[0]? = some 22) {d : DataW H} (hd : ds[0]? = some d) {L : List Cd} (h : (∃ es s', d = .slice es s' ∧ L.length = es.length) ∨ L = []) : L.length ≤ 4398046511104 := by
  rcases h with ⟨es, s', rfl, hl⟩ | rfl
  · have := sized_slice hsz (j := 0) (t := 22) (e := 30) ht hd Try.underlying22
    rw [show Try.prog.bytesOf 30 = 48 by kernel_rfl] at this
    have h9 : reachBytes = 140737488351232 := by decide
    omega
  · exact Nat.zero_le _
theorem open_card {r : Reach} {b0 : Nat} {v : Value} {d : DataW H} {p : List MemPlace} (hv : Value.okWide Try.prog w r b0 30 v) (h : DataW.Trod enc Try.prog w base sp held 30 v d p) :
    ∃ (c : Cd) (q : Pts), v = .agg #[.string c.id, .int .i64 c.key, sv q] := by
  obtain ⟨c0, c1, c2, y0, y1, y2, m, rfl, _, _, h0, h1, h2⟩ := Joins.open_agg3 Try.underlying30 (by kernel_rfl) (by kernel_rfl) hv h
  obtain ⟨s, e0, _⟩ := DataW.trod_string Try.underlying9 h0
  obtain ⟨k, e1, _⟩ := DataW.trod_int Try.underlying3 h1
  obtain ⟨q, l, e2, _⟩ := tr_texts h2
  simp at e0 e1
  subst e0 e1 e2
  exact ⟨⟨s, k, l⟩, q, rfl⟩
theorem open_txt {r : Reach} {b0 : Nat} {v : Value} {d : DataW H} {p : List MemPlace} (hv : Value.okWide Try.prog w r b0 9 v) (h : DataW.Trod enc Try.prog w base sp held 9 v d p) : ∃ s, v = .string s ∧ s.size ≤ maxLen := by
  obtain ⟨s, h1, _, _, h2⟩ := Go.ChangeMaps.open_string Try.underlying9 hv h
  exact ⟨s, h1, h2⟩
end
end Go.Proofs.Ytefnkbgkcjhkoaa

/-
  What comes in: cards, a card, a text: as it reads, and how much of it there may be.
-/
namespace Go.Proofs.Ytefnkbgkcjhkoaa
open Go.RowKit Go.Deep Go.ChangeShapes Go.WideShapes Go.ChangeAt

section
set_option maxRecDepth 100000
variable {H : Type} {enc : TypeId × Value → H} {w : World} {base : Nat} {sp : Nat → Bool} {held : Bool} {n : Nat} {y : DataW H × List MemPlace}

theorem weights_all13 {P : Program} {e : TypeId} : ∀ {ds : List (DataW H)} {d : DataW H}, d ∈ ds → ∀ n ∈ d.weights P e, n ∈ DataW.weightsAll P e ds
  | x :: r, d, hd, n, hn => by
    simp only [DataW.weightsAll, List.mem_append]
    rcases List.mem_cons.1 hd with rfl | hd
    · exact .inl hn
    · exact .inr (weights_all13 hd n hn)

/-- So much of it there may be. -/
def Most13 (d : DataW H) (t : TypeId) (N : Nat) : Prop := ∀ n ∈ d.weights Try.prog t, n ≤ N

theorem tr_texts13 {v : Value} (h : DataW.trod enc Try.prog w base sp held n 28 [v] = some y) : ∃ s l, v = sv s ∧ Gl Value.string w (sv s) l ∧ ∀ N, Most13 y.1 28 N → l.length * 16 ≤ N := by
  rcases open_slice Try.underlying28 h with ⟨hcs, _⟩ | ⟨x, l, c, m, k, D, Pl, hcs, _, hl, hm, hmm, hy, hx⟩
  · simp at hcs
    subst hcs
    exact ⟨(none, 0, 0), [], rfl, Gl.nil _ _, fun N _ => by simp⟩
  · simp at hcs
    subst hcs
    have hc : Try.prog.cellsOf 9 = 1 := by kernel_rfl
    have hlm : l ≤ m := by rw [hmm]; split <;> omega
    obtain ⟨L, hL, hp⟩ := list_ofG (P := fun i b => w.cell? (x.add i) = some (.string b)) l (fun i hi => by
      obtain ⟨cs', h1, h2⟩ := hx i (by omega)
      rw [hc] at h1
      obtain ⟨_, hlen, hcell⟩ := World.cells?_some h1
      have e0 := hcell 0 (by omega)
      match cs', hlen with
      | [u], _ =>
        obtain ⟨b, e2, _⟩ := DataW.trod_string Try.underlying9 h2
        simp at e2
        subst e2
        exact ⟨b, by simpa [Addr.add] using e0⟩)
    refine ⟨(some x, l, c), L, rfl, ⟨some x, c, by rw [hL]; rfl, by omega, hm, (fun h => by cases h), fun q hq i b hb => ?_⟩, fun N hN => ?_⟩
    · obtain rfl := Option.some.inj hq
      exact hp i b hb
    · have h1 : (l + (m - l)) * 16 ∈ y.1.weights Try.prog 28 := by
        rw [hy, DataW.weights, Try.underlying28]
        simp only [List.length_map, List.length_range, show Try.prog.bytesOf 9 = 16 by kernel_rfl]
        exact List.mem_cons_self ..
      have := hN _ h1
      rw [hL]
      omega

theorem tr_card13 {cs : List Value} (h : DataW.trod enc Try.prog w base sp held n 30 cs = some y) : ∃ (p : Cd × Pts), cs = encC p ∧ Gl .string w (sv p.2) p.1.w ∧ ∀ N, Most13 y.1 30 N → p.1.w.length * 16 ≤ N := by
  obtain ⟨y0, y1, y2, m, hy, hl, g0, g1, g2⟩ := trod_struct3 Try.underlying30 h
  have hc : Try.prog.cellsOf 30 = 3 := by kernel_rfl
  have h9 : Try.prog.cellsOf 9 = 1 := by kernel_rfl
  have h27 : Try.prog.cellsOf 3 = 1 := by kernel_rfl
  have h4 : Try.prog.cellsOf 28 = 1 := by kernel_rfl
  rw [hc] at hl
  match cs, hl with
  | [v0, v1, v2], _ =>
    simp [h9, h27, h4] at g0 g1 g2
    obtain ⟨s, e0, _, hs⟩ := DataW.trod_string Try.underlying9 g0
    obtain ⟨k, e1, _⟩ := DataW.trod_int Try.underlying3 g1
    obtain ⟨q, l, rfl, hq, hw⟩ := tr_texts13 g2
    simp at e0 e1
    subst e0 e1
    refine ⟨(⟨s, k, l⟩, q), rfl, hq, fun N hN => hw N fun z hz => hN z ?_⟩
    rw [hy, DataW.weights, Try.underlying30]
    exact DataW.weights_mem_each (j := 2) rfl rfl z hz

theorem tr_cards13 {v : Value} (h : DataW.trod enc Try.prog w base sp held n 22 [v] = some y) : ∃ L, Cs w v L ∧ ∀ N, Most13 y.1 22 N → L.length * 48 ≤ N ∧ ∀ c ∈ L, c.w.length * 16 ≤ N := by
  rcases open_slice Try.underlying22 h with ⟨hcs, _⟩ | ⟨x, l, c, m, k, D, Pl, hcs, _, hl, hm, hmm, hy, hx⟩
  · simp at hcs
    subst hcs
    exact ⟨[], Cs.nil _, fun N _ => ⟨by simp, fun c hc => by cases hc⟩⟩
  · simp at hcs
    subst hcs
    have hc : Try.prog.cellsOf 30 = 3 := by kernel_rfl
    have hlm : l ≤ m := by rw [hmm]; split <;> omega
    obtain ⟨ps, hL, hp⟩ := list_ofG (P := fun i (p : Cd × Pts) => (∀ j u, (encC p)[j]? = some u → w.cell? (x.add (i * 3 + j)) = some u) ∧ Gl .string w (sv p.2) p.1.w ∧ ∀ N, Most13 (D i) 30 N → p.1.w.length * 16 ≤ N) l (fun i hi => by
      obtain ⟨cs', h1, h2⟩ := hx i (by omega)
      rw [hc] at h1
      obtain ⟨_, hlen, hcell⟩ := World.cells?_some h1
      obtain ⟨p, rfl, hw, hN⟩ := tr_card13 h2
      refine ⟨p, fun j u hu => ?_, hw, hN⟩
      have hj := (List.getElem?_eq_some_iff.1 hu).1
      have e0 := hcell j (by omega)
      rw [add_add, hu] at e0
      exact e0)
    refine ⟨ps.map (·.1), ⟨ps, ⟨some x, c, by rw [hL], by omega, hm, (fun h => by cases h), fun q hq i p hi j u hu => ?_⟩, rfl, fun p hpm => ?_⟩, fun N hN => ⟨?_, fun c hcm => ?_⟩⟩
    · obtain rfl := Option.some.inj hq
      exact (hp i p hi).1 j u hu
    · obtain ⟨i, hi, rfl⟩ := List.getElem_of_mem hpm
      exact (hp i _ (List.getElem?_eq_getElem hi)).2.1
    · have h1 : (l + (m - l)) * 48 ∈ y.1.weights Try.prog 22 := by
        rw [hy, DataW.weights, Try.underlying22]
        simp only [List.length_map, List.length_range, show Try.prog.bytesOf 30 = 48 by kernel_rfl]
        exact List.mem_cons_self ..
      have := hN _ h1
      rw [List.length_map, hL]
      omega
    · obtain ⟨p, hpm, rfl⟩ := List.mem_map.1 hcm
      obtain ⟨i, hi, rfl⟩ := List.getElem_of_mem hpm
      refine (hp i _ (List.getElem?_eq_getElem hi)).2.2 N fun z hz => hN z ?_
      rw [hy, DataW.weights, Try.underlying22]
      refine List.mem_cons_of_mem _ (List.mem_append_left _ (weights_all13 (List.mem_map.2 ⟨i, List.mem_range.2 (by omega), rfl⟩) z hz))

theorem open_cdsw {r : Reach} {b0 : Nat} {v : Value} {d : DataW H} {p : List MemPlace} (hv : Value.okWide Try.prog w r b0 22 v) (h : DataW.Trod enc Try.prog w base sp held 22 v d p) : ∃ L, Cs w v L ∧ ∀ N, Most13 d 22 N → L.length * 48 ≤ N ∧ ∀ c ∈ L, c.w.length * 16 ≤ N := by
  obtain ⟨a, len, cap, rfl⟩ := okWide_slice Try.underlying22 hv
  obtain ⟨fuel, hf⟩ := h
  exact tr_cards13 (v := .slice a len cap) (by simpa [Value.cells] using hf)
theorem cdsw_len {ts : List TypeId} {ds : List (DataW H)} (hsz : (DataW.weightsEach Try.prog ts ds).all (· ≤ reachBytes) = true) (ht : ts[0]? = some 22) {d : DataW H} (hd : ds[0]? = some d) {L : List Cd} (h : ∀ N, Most13 d 22 N → L.length * 48 ≤ N ∧ ∀ c ∈ L, c.w.length * 16 ≤ N) : L.length * 48 ≤ 140737488351232 ∧ ∀ c ∈ L, c.w.length * 16 ≤ 140737488351232 := by
  have h9 : reachBytes = 140737488351232 := by decide
  rw [← h9]
  refine h reachBytes fun n hn => ?_
  have := List.all_eq_true.1 hsz _ (DataW.weights_mem_each ht hd n hn)
  simpa using this
theorem open_cardw {r : Reach} {b0 : Nat} {v : Value} {d : DataW H} {p : List MemPlace} (hv : Value.okWide Try.prog w r b0 30 v) (h : DataW.Trod enc Try.prog w base sp held 30 v d p) :
    ∃ (c : Cd) (a : Option Addr) (m : Nat), v = .agg #[.string c.id, .int .i64 c.key, .slice a c.w.length m] ∧ Gl .string w (.slice a c.w.length m) c.w := by
  obtain ⟨c0, c1, c2, y0, y1, y2, m, rfl, _, _, h0, h1, h2⟩ := Joins.open_agg3 Try.underlying30 (by kernel_rfl) (by kernel_rfl) hv h
  obtain ⟨s, e0, _⟩ := DataW.trod_string Try.underlying9 h0
  obtain ⟨k, e1, _⟩ := DataW.trod_int Try.underlying3 h1
  obtain ⟨q, l, e2, hG, _⟩ := tr_texts13 h2
  simp at e0 e1
  subst e0 e1 e2
  obtain ⟨a, cap, hv, -⟩ := id hG
  rw [hv] at hG ⊢
  exact ⟨⟨s, k, l⟩, a, cap, rfl, hG⟩
end
end Go.Proofs.Ytefnkbgkcjhkoaa
