/-
  Texts put together: Open8, Open9.
-/
import Derived.Test.YtnahjaloodeicaaGreatM10
import Derived.Test.YtnahjaloodeicaaGreatRows
import Derived.WalkKit
import Derived.ProofKit
import Derived.OpenShut
import Derived.ChangeOld
import Derived.ChangeMaps5
import Derived.Deep.SlicePairs
import Derived.Deep.Strs
import Derived.Lib.SmallJoins
import Derived.SizedLaws
import Derived.Test.YtnahjaloodeicaaGreatM18
/-
  What comes in: cards, a card, a text: as it reads.
-/
namespace Go.Proofs.YtnahjaloodeicaaGreat
open Go.RowKit Go.Deep Go.ChangeShapes Go.WideShapes Go.ChangeAt

section
set_option maxRecDepth 100000
variable {H : Type} {enc : TypeId × Value → H} {w : World} {base : Nat} {sp : Nat → Bool} {held : Bool} {n : Nat} {y : DataW H × List MemPlace}

theorem list_ofG {α : Type} {P : Nat → α → Prop} : ∀ (n : Nat), (∀ i, i < n → ∃ f, P i f) → ∃ L : List α, L.length = n ∧ ∀ i f, L[i]? = some f → P i f
  | 0, _ => ⟨[], rfl, fun i f h => by simp at h⟩
  | n + 1, h => by
    obtain ⟨L, hl, hp⟩ := list_ofG n fun i hi => h i (by omega)
    obtain ⟨f, hf⟩ := h n (Nat.lt_succ_self n)
    refine ⟨L ++ [f], by simp [hl], fun i g hg => ?_⟩
    rcases Nat.lt_or_ge i n with h1 | h1
    · rw [List.getElem?_append_left (by omega)] at hg
      exact hp i g hg
    · rw [List.getElem?_append_right (by omega)] at hg
      have : i - L.length = 0 := by
        have := (List.getElem?_eq_some_iff.1 hg).1
        simp at this; omega
      rw [this] at hg
      simp at hg
      subst hg
      have : i = n := by omega
      rw [this]
      exact hf

theorem tr_texts {v : Value} (h : DataW.trod enc Tryz.prog w base sp held n 26 [v] = some y) : ∃ s l, v = sv s ∧ Gl Value.string w (sv s) l := by
  rcases open_slice Tryz.underlying26 h with ⟨hcs, _⟩ | ⟨x, l, c, m, k, D, Pl, hcs, _, hl, hm, hmm, _, hx⟩
  · simp at hcs
    subst hcs
    exact ⟨(none, 0, 0), [], rfl, Gl.nil _ _⟩
  · simp at hcs
    subst hcs
    have hc : Tryz.prog.cellsOf 9 = 1 := by kernel_rfl
    have hlm : l ≤ m := by rw [hmm]; split <;> omega
    obtain ⟨L, hL, hp⟩ := list_ofG (P := fun i b => w.cell? (x.add i) = some (.string b)) l (fun i hi => by
      obtain ⟨cs', h1, h2⟩ := hx i (by omega)
      rw [hc] at h1
      obtain ⟨_, hlen, hcell⟩ := World.cells?_some h1
      have e0 := hcell 0 (by omega)
      match cs', hlen with
      | [u], _ =>
        obtain ⟨b, e2, _⟩ := DataW.trod_string Tryz.underlying9 h2
        simp at e2
        subst e2
        exact ⟨b, by simpa [Addr.add] using e0⟩)
    exact ⟨(some x, l, c), L, rfl, some x, c, by rw [hL]; rfl, by omega, hm, (fun h => by cases h), fun q hq i b hb => by
      obtain rfl := Option.some.inj hq
      exact hp i b hb⟩

theorem tr_card {cs : List Value} (h : DataW.trod enc Tryz.prog w base sp held n 40 cs = some y) : ∃ (p : Cd × Pts), cs = encC p ∧ Gl .string w (sv p.2) p.1.w ∧ p.1.id.size ≤ maxLen := by
  obtain ⟨y0, y1, y2, m, _, hl, g0, g1, g2⟩ := trod_struct3 Tryz.underlying40 h
  have hc : Tryz.prog.cellsOf 40 = 3 := by kernel_rfl
  have h9 : Tryz.prog.cellsOf 9 = 1 := by kernel_rfl
  have h27 : Tryz.prog.cellsOf 3 = 1 := by kernel_rfl
  have h4 : Tryz.prog.cellsOf 26 = 1 := by kernel_rfl
  rw [hc] at hl
  match cs, hl with
  | [v0, v1, v2], _ =>
    simp [h9, h27, h4] at g0 g1 g2
    obtain ⟨s, e0, _, hs⟩ := DataW.trod_string Tryz.underlying9 g0
    obtain ⟨k, e1, _⟩ := DataW.trod_int Tryz.underlying3 g1
    obtain ⟨q, l, rfl, hq⟩ := tr_texts g2
    simp at e0 e1
    subst e0 e1
    exact ⟨(⟨s, k, l⟩, q), rfl, hq, hs⟩

theorem tr_cards {v : Value} (h : DataW.trod enc Tryz.prog w base sp held n 35 [v] = some y) : ∃ L, Cs w v L ∧ ((∃ es s', y.1 = .slice es s' ∧ L.length = es.length) ∨ L = []) := by
  rcases open_slice Tryz.underlying35 h with ⟨hcs, _⟩ | ⟨x, l, c, m, k, D, Pl, hcs, _, hl, hm, hmm, hy, hx⟩
  · simp at hcs
    subst hcs
    exact ⟨[], Cs.nil _, .inr rfl⟩
  · simp at hcs
    subst hcs
    have hc : Tryz.prog.cellsOf 40 = 3 := by kernel_rfl
    have hlm : l ≤ m := by rw [hmm]; split <;> omega
    obtain ⟨ps, hL, hp⟩ := list_ofG (P := fun i (p : Cd × Pts) => (∀ j u, (encC p)[j]? = some u → w.cell? (x.add (i * 3 + j)) = some u) ∧ Gl .string w (sv p.2) p.1.w) l (fun i hi => by
      obtain ⟨cs', h1, h2⟩ := hx i (by omega)
      rw [hc] at h1
      obtain ⟨_, hlen, hcell⟩ := World.cells?_some h1
      obtain ⟨p, rfl, hw, _⟩ := tr_card h2
      refine ⟨p, fun j u hu => ?_, hw⟩
      have hj := (List.getElem?_eq_some_iff.1 hu).1
      have e0 := hcell j (by omega)
      rw [add_add, hu] at e0
      exact e0)
    refine ⟨ps.map (·.1), ⟨ps, ⟨some x, c, by rw [hL], by omega, hm, (fun h => by cases h), fun q hq i p hi j u hu => ?_⟩, rfl, fun p hpm => ?_⟩, .inl ⟨_, _, by rw [hy], by simp [hL]⟩⟩
    · obtain rfl := Option.some.inj hq
      exact (hp i p hi).1 j u hu
    · obtain ⟨i, hi, rfl⟩ := List.getElem_of_mem hpm
      exact (hp i _ (List.getElem?_eq_getElem hi)).2

theorem open_cds {r : Reach} {b0 : Nat} {v : Value} {d : DataW H} {p : List MemPlace} (hv : Value.okWide Tryz.prog w r b0 35 v) (h : DataW.Trod enc Tryz.prog w base sp held 35 v d p) : ∃ L, Cs w v L ∧ ((∃ es s', d = .slice es s' ∧ L.length = es.length) ∨ L = []) := by
  obtain ⟨a, len, cap, rfl⟩ := okWide_slice Tryz.underlying35 hv
  obtain ⟨fuel, hf⟩ := h
  exact tr_cards (v := .slice a len cap) (by simpa [Value.cells] using hf)
theorem cds_len {ts : List TypeId} {ds : List (DataW H)} (hsz : (DataW.weightsEach Tryz.prog ts ds).all (· ≤ reachBytes) = true) (ht : ts[0]? = some 35) {d : DataW H} (hd : ds[0]? = some d) {L : List Cd} (h : (∃ es s', d = .slice es s' ∧ L.length = es.length) ∨ L = []) : L.length ≤ 4398046511104 := by
  rcases h with ⟨es, s', rfl, hl⟩ | rfl
  · have := sized_slice hsz (j := 0) (t := 35) (e := 40) ht hd Tryz.underlying35
    rw [show Tryz.prog.bytesOf 40 = 48 by kernel_rfl] at this
    have h9 : reachBytes = 140737488351232 := by decide
    omega
  · exact Nat.zero_le _
theorem open_card {r : Reach} {b0 : Nat} {v : Value} {d : DataW H} {p : List MemPlace} (hv : Value.okWide Tryz.prog w r b0 40 v) (h : DataW.Trod enc Tryz.prog w base sp held 40 v d p) :
    ∃ (c : Cd) (q : Pts), v = .agg #[.string c.id, .int .i64 c.key, sv q] := by
  obtain ⟨c0, c1, c2, y0, y1, y2, m, rfl, _, _, h0, h1, h2⟩ := Joins.open_agg3 Tryz.underlying40 (by kernel_rfl) (by kernel_rfl) hv h
  obtain ⟨s, e0, _⟩ := DataW.trod_string Tryz.underlying9 h0
  obtain ⟨k, e1, _⟩ := DataW.trod_int Tryz.underlying3 h1
  obtain ⟨q, l, e2, _⟩ := tr_texts h2
  simp at e0 e1
  subst e0 e1 e2
  exact ⟨⟨s, k, l⟩, q, rfl⟩
theorem open_txt {r : Reach} {b0 : Nat} {v : Value} {d : DataW H} {p : List MemPlace} (hv : Value.okWide Tryz.prog w r b0 9 v) (h : DataW.Trod enc Tryz.prog w base sp held 9 v d p) : ∃ s, v = .string s ∧ s.size ≤ maxLen := by
  obtain ⟨s, h1, _, _, h2⟩ := Go.ChangeMaps.open_string Tryz.underlying9 hv h
  exact ⟨s, h1, h2⟩
end
end Go.Proofs.YtnahjaloodeicaaGreat

/-
  What comes in: a segment, as it reads.
-/
namespace Go.Proofs.YtnahjaloodeicaaGreat
set_option maxRecDepth 100000
open Go.RowKit Go.Deep Go.ChangeShapes Go.WideShapes Go.ChangeAt

section
variable {H : Type} {enc : TypeId × Value → H} {w : World} {base : Nat} {sp : Nat → Bool} {held : Bool} {n : Nat} {y : DataW H × List MemPlace}

theorem tr_term {cs : List Value} (h : DataW.trod enc Tryz.prog w base sp held n 69 cs = some y) : ∃ (p : Tm × Pts), cs = encT p ∧ Pl w (sv p.2) p.1.p := by
  obtain ⟨y0, y1, m, _, hl, g0, g1⟩ := trod_struct2 Tryz.underlying69 h
  have hc : Tryz.prog.cellsOf 69 = 2 := by kernel_rfl
  have h9 : Tryz.prog.cellsOf 9 = 1 := by kernel_rfl
  have h27 : Tryz.prog.cellsOf 55 = 1 := by kernel_rfl
  rw [hc] at hl
  match cs, hl with
  | [v0, v1], _ =>
    simp [h9, h27] at g0 g1
    obtain ⟨s, e0, _⟩ := DataW.trod_string Tryz.underlying9 g0
    obtain ⟨L, hL⟩ := tr_posts g1
    simp at e0
    subst e0
    obtain ⟨a, cap, rfl, -⟩ := id hL
    exact ⟨(⟨s, L⟩, (a, L.length, cap)), rfl, hL⟩

theorem tr_terms {v : Value} (h : DataW.trod enc Tryz.prog w base sp held n 28 [v] = some y) : ∃ L, Ts w v L := by
  rcases open_slice Tryz.underlying28 h with ⟨hcs, _⟩ | ⟨x, l, c, m, k, D, Pl', hcs, _, hl, hm, hmm, hy, hx⟩
  · simp at hcs
    subst hcs
    exact ⟨[], Ts.nil _⟩
  · simp at hcs
    subst hcs
    have hc : Tryz.prog.cellsOf 69 = 2 := by kernel_rfl
    have hlm : l ≤ m := by rw [hmm]; split <;> omega
    obtain ⟨ps, hL, hp⟩ := list_ofG (P := fun i (p : Tm × Pts) => (∀ j u, (encT p)[j]? = some u → w.cell? (x.add (i * 2 + j)) = some u) ∧ Pl w (sv p.2) p.1.p) l (fun i hi => by
      obtain ⟨cs', h1, h2⟩ := hx i (by omega)
      rw [hc] at h1
      obtain ⟨_, hlen, hcell⟩ := World.cells?_some h1
      obtain ⟨p, rfl, hw⟩ := tr_term h2
      refine ⟨p, fun j u hu => ?_, hw⟩
      have hj := (List.getElem?_eq_some_iff.1 hu).1
      have e0 := hcell j (by omega)
      rw [add_add, hu] at e0
      exact e0)
    refine ⟨ps.map (·.1), ⟨ps, ⟨some x, c, by rw [hL], by omega, hm, (fun h => by cases h), fun q hq i p hi j u hu => ?_⟩, rfl, fun p hpm => ?_⟩⟩
    · obtain rfl := Option.some.inj hq
      exact (hp i p hi).1 j u hu
    · obtain ⟨i, hi, rfl⟩ := List.getElem_of_mem hpm
      exact (hp i _ (List.getElem?_eq_getElem hi)).2

theorem tr_texts9 {v : Value} (h : DataW.trod enc Tryz.prog w base sp held n 26 [v] = some y) : ∃ s l, v = sv s ∧ Gl Value.string w (sv s) l ∧ ∀ x ∈ l, x.size ≤ maxLen := by
  rcases open_slice Tryz.underlying26 h with ⟨hcs, _⟩ | ⟨x, l, c, m, k, D, Pl, hcs, _, hl, hm, hmm, _, hx⟩
  · simp at hcs
    subst hcs
    exact ⟨(none, 0, 0), [], rfl, Gl.nil _ _, fun x hx => by cases hx⟩
  · simp at hcs
    subst hcs
    have hc : Tryz.prog.cellsOf 9 = 1 := by kernel_rfl
    have hlm : l ≤ m := by rw [hmm]; split <;> omega
    obtain ⟨L, hL, hp⟩ := list_ofG (P := fun i b => w.cell? (x.add i) = some (.string b) ∧ b.size ≤ maxLen) l (fun i hi => by
      obtain ⟨cs', h1, h2⟩ := hx i (by omega)
      rw [hc] at h1
      obtain ⟨_, hlen, hcell⟩ := World.cells?_some h1
      have e0 := hcell 0 (by omega)
      match cs', hlen with
      | [u], _ =>
        obtain ⟨b, e2, _, e3⟩ := DataW.trod_string Tryz.underlying9 h2
        simp at e2
        subst e2
        exact ⟨b, by simpa [Addr.add] using e0, e3⟩)
    exact ⟨(some x, l, c), L, rfl, ⟨some x, c, by rw [hL]; rfl, by omega, hm, (fun h => by cases h), fun q hq i b hb => by
      obtain rfl := Option.some.inj hq
      exact (hp i b hb).1⟩, fun b hb => by
      obtain ⟨i, hi⟩ := List.mem_iff_getElem?.1 hb
      exact (hp i b hi).2⟩

theorem array5 {α : Type} {cs : Array α} (h : cs.size = 5) : ∃ c0 c1 c2 c3 c4, cs = #[c0, c1, c2, c3, c4] := by
  obtain ⟨l⟩ := cs
  match l, h with
  | [c0, c1, c2, c3, c4], _ => exact ⟨c0, c1, c2, c3, c4, rfl⟩

theorem open_seg {r : Reach} {b0 : Nat} {v : Value} {d : DataW H} {p : List MemPlace} (hv : Value.okWide Tryz.prog w r b0 30 v) (h : DataW.Trod enc Tryz.prog w base sp held 30 v d p) :
    ∃ (ia ka lna ta : Option Addr) (ic kc lnc tc : Nat) (s : Sg) (so : Bool), v = .agg #[.slice ia s.ids.length ic, .slice ka s.keys.length kc, .slice lna s.lens.length lnc, .slice ta s.ts.length tc, .bool so] ∧ Sv w (.slice ia s.ids.length ic) (.slice ka s.keys.length kc) (.slice lna s.lens.length lnc) (.slice ta s.ts.length tc) s ∧ ∀ x ∈ s.ids, x.size ≤ maxLen := by
  obtain ⟨cs, rfl, hsz⟩ := okWide_struct Tryz.underlying30 hv
  have hc : Tryz.prog.cellsOf 30 = 5 := by kernel_rfl
  obtain ⟨c0, c1, c2, c3, c4, rfl⟩ := array5 (hsz.trans hc)
  obtain ⟨fuel, hf⟩ := h
  obtain ⟨xs, n, _, -, hl, hlen, hg⟩ := DataW.trod_struct Tryz.underlying30 hf
  have h1 : Tryz.prog.cellsOf 26 = 1 := by kernel_rfl
  have h2 : Tryz.prog.cellsOf 27 = 1 := by kernel_rfl
  have h3 : Tryz.prog.cellsOf 28 = 1 := by kernel_rfl
  have h4 : Tryz.prog.cellsOf 4 = 1 := by kernel_rfl
  match xs, hlen with
  | [y0, y1, y2, y3, y4], _ =>
    have g0 := hg 0 _ rfl
    have g1 := hg 1 _ rfl
    have g2 := hg 2 _ rfl
    have g3 := hg 3 _ rfl
    have g4 := hg 4 _ rfl
    simp [Value.cells, h1, h2, h3, h4] at g0 g1 g2 g3 g4
    obtain ⟨⟨a0, b0', e0⟩, ids, rfl, G0, hs0⟩ := tr_texts9 g0
    obtain ⟨keys, G1⟩ := tr_ints g1
    obtain ⟨lens, G2⟩ := tr_ints g2
    obtain ⟨ts, G3⟩ := tr_terms g3
    obtain ⟨b, e4, _⟩ := DataW.trod_bool Tryz.underlying4 g4
    simp at e4
    subst e4
    obtain ⟨ia, ic, hv0, -⟩ := id G0
    obtain ⟨ka, kc, rfl, -⟩ := id G1
    obtain ⟨la, lc, rfl, -⟩ := id G2
    obtain ⟨ta, tc, rfl, -⟩ := G3.open
    rw [hv0] at G0 ⊢
    exact ⟨ia, ka, la, ta, ic, kc, lc, tc, ⟨ids, keys, lens, ts⟩, b, rfl, ⟨G0, G1, G2, G3⟩, hs0⟩
end
end Go.Proofs.YtnahjaloodeicaaGreat
