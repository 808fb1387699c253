/-
  What comes in of bounded bulk: segments, how many, and of how many words each.
-/
import Derived.Test.YtnahjaloodeicaaGreatM31
import Derived.Test.YtnahjaloodeicaaGreatMergeCardsUptoOpen9T
namespace Go.Proofs.YtnahjaloodeicaaGreat
open Go.RowKit Go.Deep Go.ChangeShapes Go.WideShapes Go.ChangeAt

namespace Bk
theorem one_le {H : Type} (d : DataW H) : 1 ≤ Rows.uptoBulk d := by
  cases d with
  | lit l => cases l <;> simp [Rows.uptoBulk]
  | nil => simp [Rows.uptoBulk]
  | ptr d => simp [Rows.uptoBulk]
  | slice elems spare => simp [Rows.uptoBulk]
  | agg parts => simp [Rows.uptoBulk]
  | iface t d => simp [Rows.uptoBulk]
  | map entries => simp [Rows.uptoBulk]
  | held h => simp [Rows.uptoBulk]
theorem part_le {H : Type} {d : DataW H} {l : List (DataW H)} (h : d ∈ l) : Rows.uptoBulk d ≤ Rows.uptoBulkAll l := by
  induction l with
  | nil => cases h
  | cons x r ih =>
    simp only [Rows.uptoBulkAll]
    cases List.mem_cons.1 h with
    | inl e => subst e; omega
    | inr e => have := ih e; omega
theorem length_le {H : Type} (l : List (DataW H)) : l.length ≤ Rows.uptoBulkAll l := by
  induction l with
  | nil => simp [Rows.uptoBulkAll]
  | cons x r ih => have := one_le x; simp only [Rows.uptoBulkAll, List.length_cons]; omega
theorem slice_len {H : Type} (es sp : List (DataW H)) : es.length ≤ Rows.uptoBulk (.slice es sp) := by
  have := length_le es
  simp only [Rows.uptoBulk]
  omega
theorem slice_part {H : Type} {es sp : List (DataW H)} {d : DataW H} (h : d ∈ es) : Rows.uptoBulk d ≤ Rows.uptoBulk (.slice es sp) := by
  have := part_le h
  simp only [Rows.uptoBulk]
  omega
theorem agg_part {H : Type} {ps : List (DataW H)} {d : DataW H} (h : d ∈ ps) : Rows.uptoBulk d ≤ Rows.uptoBulk (.agg ps) := by
  have := part_le h
  simp only [Rows.uptoBulk]
  omega
end Bk

section
set_option maxRecDepth 100000
variable {H : Type} {enc : TypeId × Value → H} {w : World} {base : Nat} {sp : Nat → Bool} {held : Bool} {n : Nat} {y : DataW H × List MemPlace}

theorem tr_segU {cs : List Value} (h : DataW.trod enc Tryz.prog w base sp held n 30 cs = some y) : ∃ p : G.Sq × Qd, cs = encG p ∧ Sv w (sv p.2.1) (sv p.2.2.1) (sv p.2.2.2.1) (sv p.2.2.2.2) p.1.1 ∧ (∀ x ∈ p.1.1.ids, x.size ≤ maxLen) ∧ p.1.1.ts.length ≤ Rows.uptoBulk y.1 := by
  obtain ⟨xs, n, _, hxx, hl, hlen, hg⟩ := DataW.trod_struct Tryz.underlying30 h
  have hc : Tryz.prog.cellsOf 30 = 5 := by kernel_rfl
  have h1 : Tryz.prog.cellsOf 26 = 1 := by kernel_rfl
  have h2 : Tryz.prog.cellsOf 27 = 1 := by kernel_rfl
  have h3 : Tryz.prog.cellsOf 28 = 1 := by kernel_rfl
  have h4 : Tryz.prog.cellsOf 4 = 1 := by kernel_rfl
  rw [hc] at hl
  match cs, hl, xs, hlen with
  | [c0, c1, c2, c3, c4], _, [y0, y1, y2, y3, y4], _ =>
    have g0 := hg 0 _ rfl
    have g1 := hg 1 _ rfl
    have g2 := hg 2 _ rfl
    have g3 := hg 3 _ rfl
    have g4 := hg 4 _ rfl
    simp [h1, h2, h3, h4] at g0 g1 g2 g3 g4
    obtain ⟨q0, ids, rfl, G0, hs0⟩ := tr_texts9 g0
    obtain ⟨keys, G1⟩ := tr_ints g1
    obtain ⟨lens, G2⟩ := tr_ints g2
    obtain ⟨ts, G3, hts⟩ := tr_termsT g3
    obtain ⟨b, e4, _⟩ := DataW.trod_bool Tryz.underlying4 g4
    simp at e4
    subst e4
    obtain ⟨ka, kc, rfl, -⟩ := id G1
    obtain ⟨la, lc, rfl, -⟩ := id G2
    obtain ⟨ta, tc, rfl, -⟩ := G3.open
    refine ⟨((⟨ids, keys, lens, ts⟩, b), q0, (ka, keys.length, kc), (la, lens.length, lc), (ta, ts.length, tc)), rfl, ⟨G0, G1, G2, G3⟩, hs0, ?_⟩
    have e5 : y.1 = .agg [y0.1, y1.1, y2.1, y3.1, y4.1] := by rw [hxx]; rfl
    rw [e5]
    have h6 := Bk.agg_part (ps := [y0.1, y1.1, y2.1, y3.1, y4.1]) (d := y3.1) (by simp)
    show ts.length ≤ _
    rcases hts with ⟨es, s', e1, e2⟩ | e1
    · rw [e1] at h6
      have := Bk.slice_len es s'
      rw [e1, e2]
      omega
    · rw [e1]
      simp

/-- Segments of bounded bulk. -/
def Bulky (L : List G.Sq) (m : Nat) : Prop := L.length ≤ m ∧ ∀ s ∈ L, (∀ x ∈ s.1.ids, x.size ≤ maxLen) ∧ s.1.ts.length ≤ m
theorem tr_sgsU {v : Value} (h : DataW.trod enc Tryz.prog w base sp held n 22 [v] = some y) : ∃ L, Gs w v L ∧ Bulky L (Rows.uptoBulk y.1) := by
  rcases open_slice Tryz.underlying22 h with ⟨hcs, _⟩ | ⟨x, l, c, m, k, D, Pl, hcs, _, hl, hm, hmm, hy, hx⟩
  · simp at hcs
    subst hcs
    exact ⟨[], Gs.nil _, Nat.zero_le _, fun s hs => by cases hs⟩
  · simp at hcs
    subst hcs
    have hc : Tryz.prog.cellsOf 30 = 5 := by kernel_rfl
    have hlm : l ≤ m := by rw [hmm]; split <;> omega
    have hy1 : y.1 = .slice ((List.range l).map D) ((List.range (m - l)).map fun j => D (l + j)) := by rw [hy]
    have hD : ∀ i, i < l → Rows.uptoBulk (D i) ≤ Rows.uptoBulk y.1 := fun i hi => by
      rw [hy1]
      exact Bk.slice_part (List.mem_map.2 ⟨i, List.mem_range.2 hi, rfl⟩)
    have hln : l ≤ Rows.uptoBulk y.1 := by
      rw [hy1]
      have := Bk.slice_len ((List.range l).map D) ((List.range (m - l)).map fun j => D (l + j))
      simpa using this
    obtain ⟨ps, hL, hp⟩ := list_ofG (P := fun i (p : G.Sq × Qd) => (∀ j u, (encG p)[j]? = some u → w.cell? (x.add (i * 5 + j)) = some u) ∧ Sv w (sv p.2.1) (sv p.2.2.1) (sv p.2.2.2.1) (sv p.2.2.2.2) p.1.1 ∧ (∀ x ∈ p.1.1.ids, x.size ≤ maxLen) ∧ p.1.1.ts.length ≤ Rows.uptoBulk y.1) l (fun i hi => by
      obtain ⟨cs', h1, h2⟩ := hx i (by omega)
      rw [hc] at h1
      obtain ⟨_, hlen, hcell⟩ := World.cells?_some h1
      obtain ⟨p, rfl, hw, hz, ht⟩ := tr_segU h2
      refine ⟨p, fun j u hu => ?_, hw, hz, Nat.le_trans ht (hD i hi)⟩
      have hj := (List.getElem?_eq_some_iff.1 hu).1
      have e0 := hcell j (by omega)
      rw [add_add, hu] at e0
      exact e0)
    refine ⟨ps.map (·.1), ⟨ps, ⟨some x, c, by rw [hL], by omega, hm, (fun h => by cases h), fun q hq i p hi j u hu => ?_⟩, rfl, fun p hpm => ?_⟩, by rw [List.length_map, hL]; exact hln, fun s hs => ?_⟩
    · obtain rfl := Option.some.inj hq
      exact (hp i p hi).1 j u hu
    · obtain ⟨i, hi, rfl⟩ := List.getElem_of_mem hpm
      exact (hp i _ (List.getElem?_eq_getElem hi)).2.1
    · obtain ⟨p, hpm, rfl⟩ := List.mem_map.1 hs
      obtain ⟨i, hi, rfl⟩ := List.getElem_of_mem hpm
      exact (hp i _ (List.getElem?_eq_getElem hi)).2.2

theorem open_sgsU {r : Reach} {b0 : Nat} {v : Value} {d : DataW H} {p : List MemPlace} (hv : Value.okWide Tryz.prog w r b0 22 v) (h : DataW.Trod enc Tryz.prog w base sp held 22 v d p) : ∃ L, Gs w v L ∧ Bulky L (Rows.uptoBulk d) := by
  obtain ⟨a, len, cap, rfl⟩ := okWide_slice Tryz.underlying22 hv
  obtain ⟨fuel, hf⟩ := h
  exact tr_sgsU (v := .slice a len cap) (by simpa [Value.cells] using hf)
end
theorem Bulky.of {H : Type} {L : List G.Sq} {d : DataW H} {ds : List (DataW H)} (h : Bulky L (Rows.uptoBulk d)) (hd : d ∈ ds) (hk : Rows.uptoSmall H ds = true) : Bulky L 1048576 := by
  have h1 : Rows.uptoBulkAll ds ≤ 1048576 := of_decide_eq_true hk
  have h2 := Bk.part_le hd
  exact ⟨by have := h.1; omega, fun s hs => ⟨(h.2 s hs).1, by have := (h.2 s hs).2; omega⟩⟩
end Go.Proofs.YtnahjaloodeicaaGreat
