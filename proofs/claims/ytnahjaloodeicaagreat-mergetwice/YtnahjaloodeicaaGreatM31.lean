/-
  Texts put together: Open11.
-/
import Derived.Test.YtnahjaloodeicaaGreatM19
import Derived.Test.YtnahjaloodeicaaGreatM26
/-
  What comes in: segments, lists of bools, and lists of such: as they read.
-/
namespace Go.Proofs.YtnahjaloodeicaaGreat
open Go.RowKit Go.Deep Go.ChangeShapes Go.WideShapes Go.ChangeAt

section
set_option maxRecDepth 100000
variable {H : Type} {enc : TypeId × Value → H} {w : World} {base : Nat} {sp : Nat → Bool} {held : Bool} {n : Nat} {y : DataW H × List MemPlace}

theorem tr_bools11 {v : Value} (h : DataW.trod enc Tryz.prog w base sp held n 38 [v] = some y) : ∃ l, Gl Value.bool w v l := by
  rcases open_slice Tryz.underlying38 h with ⟨hcs, _⟩ | ⟨x, l, c, m, k, D, Pl, hcs, _, hl, hm, hmm, _, hx⟩
  · simp at hcs
    subst hcs
    exact ⟨[], Gl.nil _ _⟩
  · simp at hcs
    subst hcs
    have hc : Tryz.prog.cellsOf 4 = 1 := by kernel_rfl
    have hlm : l ≤ m := by rw [hmm]; split <;> omega
    obtain ⟨L, hL, hp⟩ := list_ofG (P := fun i b => w.cell? (x.add i) = some (.bool b)) l (fun i hi => by
      obtain ⟨cs', h1, h2⟩ := hx i (by omega)
      rw [hc] at h1
      obtain ⟨_, hlen, hcell⟩ := World.cells?_some h1
      have e0 := hcell 0 (by omega)
      match cs', hlen with
      | [u], _ =>
        obtain ⟨b, e2, _⟩ := DataW.trod_bool Tryz.underlying4 h2
        simp at e2
        subst e2
        exact ⟨b, by simpa [Addr.add] using e0⟩)
    exact ⟨L, some x, c, by rw [hL], by omega, hm, (fun h => by cases h), fun q hq i b hb => by
      obtain rfl := Option.some.inj hq
      exact hp i b hb⟩

theorem tr_bls11 {v : Value} (h : DataW.trod enc Tryz.prog w base sp held n 23 [v] = some y) : ∃ ls, Bll w v ls := by
  rcases open_slice Tryz.underlying23 h with ⟨hcs, _⟩ | ⟨x, l, c, m, k, D, Pl, hcs, _, hl, hm, hmm, _, hx⟩
  · simp at hcs
    subst hcs
    exact ⟨[], [], Gl.nil _ _, rfl, fun i s l hs => by simp at hs⟩
  · simp at hcs
    subst hcs
    have hc : Tryz.prog.cellsOf 38 = 1 := by kernel_rfl
    have hlm : l ≤ m := by rw [hmm]; split <;> omega
    obtain ⟨L, hL, hp⟩ := list_ofG (P := fun i (b : (Option Addr × Nat × Nat) × List Bool) => w.cell? (x.add i) = some (sv b.1) ∧ Gl Value.bool w (sv b.1) b.2) l (fun i hi => by
      obtain ⟨cs', h1, h2⟩ := hx i (by omega)
      rw [hc] at h1
      obtain ⟨_, hlen, hcell⟩ := World.cells?_some h1
      have e0 := hcell 0 (by omega)
      match cs', hlen with
      | [u], _ =>
        obtain ⟨zs, hz⟩ := tr_bools11 h2
        obtain ⟨a', c', rfl, -⟩ := id hz
        exact ⟨((a', zs.length, c'), zs), by simpa [Addr.add, sv] using e0, hz⟩)
    refine ⟨L.map (·.2), L.map (·.1), ⟨some x, c, by simp [hL], by simp [hL]; omega, hm, (fun h => by cases h), fun q hq i b hb => ?_⟩, by simp, fun i s z hs hz => ?_⟩
    · obtain rfl := Option.some.inj hq
      rw [List.getElem?_map] at hb
      obtain ⟨g, hg, rfl⟩ := Option.map_eq_some_iff.1 hb
      exact (hp i g hg).1
    · rw [List.getElem?_map] at hs hz
      obtain ⟨g, hg, rfl⟩ := Option.map_eq_some_iff.1 hs
      rw [hg] at hz
      cases hz
      exact (hp i g hg).2

theorem tr_seg11 {cs : List Value} (h : DataW.trod enc Tryz.prog w base sp held n 30 cs = some y) : ∃ p : G.Sq × Qd, cs = encG p ∧ Sv w (sv p.2.1) (sv p.2.2.1) (sv p.2.2.2.1) (sv p.2.2.2.2) p.1.1 ∧ ∀ x ∈ p.1.1.ids, x.size ≤ maxLen := by
  obtain ⟨xs, n, _, -, hl, hlen, hg⟩ := DataW.trod_struct Tryz.underlying30 h
  have hc : Tryz.prog.cellsOf 30 = 5 := by kernel_rfl
  have h1 : Tryz.prog.cellsOf 26 = 1 := by kernel_rfl
  have h2 : Tryz.prog.cellsOf 27 = 1 := by kernel_rfl
  have h3 : Tryz.prog.cellsOf 28 = 1 := by kernel_rfl
  have h4 : Tryz.prog.cellsOf 4 = 1 := by kernel_rfl
  rw [hc] at hl
  match cs, hl, xs, hlen with
  | [c0, c1, c2, c3, c4], _, [y0, y1, y2, y3, y4], _ =>
    have g0 := hg 0 _ rfl
    have g1 := hg 1 _ rfl
    have g2 := hg 2 _ rfl
    have g3 := hg 3 _ rfl
    have g4 := hg 4 _ rfl
    simp [h1, h2, h3, h4] at g0 g1 g2 g3 g4
    obtain ⟨q0, ids, rfl, G0, hs0⟩ := tr_texts9 g0
    obtain ⟨keys, G1⟩ := tr_ints g1
    obtain ⟨lens, G2⟩ := tr_ints g2
    obtain ⟨ts, G3⟩ := tr_terms g3
    obtain ⟨b, e4, _⟩ := DataW.trod_bool Tryz.underlying4 g4
    simp at e4
    subst e4
    obtain ⟨ka, kc, rfl, -⟩ := id G1
    obtain ⟨la, lc, rfl, -⟩ := id G2
    obtain ⟨ta, tc, rfl, -⟩ := G3.open
    exact ⟨((⟨ids, keys, lens, ts⟩, b), q0, (ka, keys.length, kc), (la, lens.length, lc), (ta, ts.length, tc)), rfl, ⟨G0, G1, G2, G3⟩, hs0⟩

theorem tr_sgs11 {v : Value} (h : DataW.trod enc Tryz.prog w base sp held n 22 [v] = some y) : ∃ L, Gs w v L := by
  rcases open_slice Tryz.underlying22 h with ⟨hcs, _⟩ | ⟨x, l, c, m, k, D, Pl, hcs, _, hl, hm, hmm, hy, hx⟩
  · simp at hcs
    subst hcs
    exact ⟨[], Gs.nil _⟩
  · simp at hcs
    subst hcs
    have hc : Tryz.prog.cellsOf 30 = 5 := by kernel_rfl
    have hlm : l ≤ m := by rw [hmm]; split <;> omega
    obtain ⟨ps, hL, hp⟩ := list_ofG (P := fun i (p : G.Sq × Qd) => (∀ j u, (encG p)[j]? = some u → w.cell? (x.add (i * 5 + j)) = some u) ∧ Sv w (sv p.2.1) (sv p.2.2.1) (sv p.2.2.2.1) (sv p.2.2.2.2) p.1.1) l (fun i hi => by
      obtain ⟨cs', h1, h2⟩ := hx i (by omega)
      rw [hc] at h1
      obtain ⟨_, hlen, hcell⟩ := World.cells?_some h1
      obtain ⟨p, rfl, hw, _⟩ := tr_seg11 h2
      refine ⟨p, fun j u hu => ?_, hw⟩
      have hj := (List.getElem?_eq_some_iff.1 hu).1
      have e0 := hcell j (by omega)
      rw [add_add, hu] at e0
      exact e0)
    refine ⟨ps.map (·.1), ps, ⟨some x, c, by rw [hL], by omega, hm, (fun h => by cases h), fun q hq i p hi j u hu => ?_⟩, rfl, fun p hpm => ?_⟩
    · obtain rfl := Option.some.inj hq
      exact (hp i p hi).1 j u hu
    · obtain ⟨i, hi, rfl⟩ := List.getElem_of_mem hpm
      exact (hp i _ (List.getElem?_eq_getElem hi)).2

theorem open_bl {r : Reach} {b0 : Nat} {v : Value} {d : DataW H} {p : List MemPlace} (hv : Value.okWide Tryz.prog w r b0 38 v) (h : DataW.Trod enc Tryz.prog w base sp held 38 v d p) : ∃ l, Gl Value.bool w v l := by
  obtain ⟨a, len, cap, rfl⟩ := okWide_slice Tryz.underlying38 hv
  obtain ⟨fuel, hf⟩ := h
  exact tr_bools11 (v := .slice a len cap) (by simpa [Value.cells] using hf)
theorem open_bls {r : Reach} {b0 : Nat} {v : Value} {d : DataW H} {p : List MemPlace} (hv : Value.okWide Tryz.prog w r b0 23 v) (h : DataW.Trod enc Tryz.prog w base sp held 23 v d p) : ∃ ls, Bll w v ls := by
  obtain ⟨a, len, cap, rfl⟩ := okWide_slice Tryz.underlying23 hv
  obtain ⟨fuel, hf⟩ := h
  exact tr_bls11 (v := .slice a len cap) (by simpa [Value.cells] using hf)
theorem open_sgs {r : Reach} {b0 : Nat} {v : Value} {d : DataW H} {p : List MemPlace} (hv : Value.okWide Tryz.prog w r b0 22 v) (h : DataW.Trod enc Tryz.prog w base sp held 22 v d p) : ∃ L, Gs w v L := by
  obtain ⟨a, len, cap, rfl⟩ := okWide_slice Tryz.underlying22 hv
  obtain ⟨fuel, hf⟩ := h
  exact tr_sgs11 (v := .slice a len cap) (by simpa [Value.cells] using hf)
end
end Go.Proofs.YtnahjaloodeicaaGreat
