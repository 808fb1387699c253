/-
  Texts put together: Open12.
-/
import Derived.Test.YtfniphaehggcgaaQ11
import Derived.Test.YtfniphaehggcgaaQ14
import Derived.Lib.SmallJoins
/-
  What comes in: sizes, a tier, a number within its bounds: as it reads.
-/
namespace Go.Proofs.Ytfniphaehggcgaa
set_option maxRecDepth 100000
open Go.RowKit Go.Deep Go.ChangeShapes Go.WideShapes Go.ChangeAt

section
variable {H : Type} {enc : TypeId × Value → H} {w : World} {base : Nat} {sp : Nat → Bool} {held : Bool} {n : Nat} {y : DataW H × List MemPlace}

theorem tr_size {cs : List Value} (h : DataW.trod enc Try.prog w base sp held n 36 cs = some y) : ∃ s : Sz, cs = encZ s := by
  obtain ⟨y0, y1, y2, y3, m, _, hl, g0, g1, g2, g3⟩ := Joins.trod_struct4 Try.underlying36 h
  have hc : Try.prog.cellsOf 36 = 4 := by kernel_rfl
  have h9 : Try.prog.cellsOf 3 = 1 := by kernel_rfl
  have h4 : Try.prog.cellsOf 4 = 1 := by kernel_rfl
  rw [hc] at hl
  match cs, hl with
  | [v0, v1, v2, v3], _ =>
    simp [h9, h4] at g0 g1 g2 g3
    obtain ⟨a, e0, _⟩ := DataW.trod_int Try.underlying3 g0
    obtain ⟨b, e1, _⟩ := DataW.trod_int Try.underlying3 g1
    obtain ⟨c, e2, _⟩ := DataW.trod_int Try.underlying3 g2
    obtain ⟨d, e3, _⟩ := DataW.trod_bool Try.underlying4 g3
    simp at e0 e1 e2 e3
    subst e0 e1 e2 e3
    exact ⟨⟨a, b, c, d⟩, rfl⟩

theorem tr_sizes {v : Value} (h : DataW.trod enc Try.prog w base sp held n 22 [v] = some y) : ∃ L, Zl w v L := by
  rcases open_slice Try.underlying22 h with ⟨hcs, _⟩ | ⟨x, l, c, m, k, D, Pl, hcs, _, hl, hm, hmm, _, hx⟩
  · simp at hcs
    subst hcs
    exact ⟨[], Kl.nil _ _ _⟩
  · simp at hcs
    subst hcs
    have hc : Try.prog.cellsOf 36 = 4 := by kernel_rfl
    have hlm : l ≤ m := by rw [hmm]; split <;> omega
    obtain ⟨L, hL, hp⟩ := list_ofG (P := fun i (s : Sz) => ∀ j u, (encZ s)[j]? = some u → w.cell? (x.add (i * 4 + j)) = some u) l (fun i hi => by
      obtain ⟨cs', h1, h2⟩ := hx i (by omega)
      rw [hc] at h1
      obtain ⟨_, hlen, hcell⟩ := World.cells?_some h1
      obtain ⟨s, rfl⟩ := tr_size h2
      refine ⟨s, fun j u hu => ?_⟩
      have hj := (List.getElem?_eq_some_iff.1 hu).1
      have e0 := hcell j (by omega)
      rw [add_add, hu] at e0
      exact e0)
    refine ⟨L, some x, c, by rw [hL], by omega, hm, (fun h => by cases h), fun q hq i s hi j u hu => ?_⟩
    obtain rfl := Option.some.inj hq
    exact hp i s hi j u hu

theorem open_zls {r : Reach} {b0 : Nat} {v : Value} {d : DataW H} {p : List MemPlace} (hv : Value.okWide Try.prog w r b0 22 v) (h : DataW.Trod enc Try.prog w base sp held 22 v d p) : ∃ L, Zl w v L := by
  obtain ⟨a, len, cap, rfl⟩ := okWide_slice Try.underlying22 hv
  obtain ⟨fuel, hf⟩ := h
  exact tr_sizes (v := .slice a len cap) (by simpa [Value.cells] using hf)
theorem open_tier {r : Reach} {b0 : Nat} {v : Value} {d : DataW H} {p : List MemPlace} (hv : Value.okWide Try.prog w r b0 24 v) (h : DataW.Trod enc Try.prog w base sp held 24 v d p) :
    ∃ per most : Int, v = .agg #[.int .i64 per, .int .i64 most] ∧ per ≤ 9223372036854775807 := by
  obtain ⟨c0, c1, y0, y1, m, rfl, _, _, h0, h1⟩ := Joins.open_agg2 Try.underlying24 (by kernel_rfl) (by kernel_rfl) hv h
  obtain ⟨a, e0, w0⟩ := DataW.trod_int Try.underlying3 h0
  obtain ⟨b, e1, _⟩ := DataW.trod_int Try.underlying3 h1
  simp at e0 e1
  subst e0 e1
  exact ⟨a, b, rfl, (bounds_i64 w0.2).2⟩
theorem open_intb {r : Reach} {b0 : Nat} {v : Value} {d : DataW H} {p : List MemPlace} (hv : Value.okWide Try.prog w r b0 3 v) (h : DataW.Trod enc Try.prog w base sp held 3 v d p) : ∃ n, v = .int .i64 n ∧ n ≤ 9223372036854775807 := by
  obtain ⟨n, rfl⟩ := okWide_int Try.underlying3 hv
  obtain ⟨fuel, hf⟩ := h
  obtain ⟨k, e0, h2⟩ := DataW.trod_int Try.underlying3 (by simpa [Value.cells] using hf)
  simp at e0
  subst e0
  exact ⟨n, rfl, (bounds_i64 h2.2).2⟩
end
end Go.Proofs.Ytfniphaehggcgaa
