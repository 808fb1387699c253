/-
  Texts put together: Open10.
-/
import Derived.Test.YtfniphaehggcgaaQ11
import Derived.Test.YtfniphaehggcgaaRows
import Derived.WalkKit
import Derived.ProofKit
import Derived.OpenShut
import Derived.ChangeOld
import Derived.ChangeMaps5
import Derived.Deep.SlicePairs
/-
  What comes in: lists of bools, of numbers, of texts, and lists of such lists: as it reads.
-/
namespace Go.Proofs.Ytfniphaehggcgaa
set_option maxRecDepth 100000
open Go.RowKit Go.Deep Go.ChangeShapes Go.WideShapes Go.ChangeAt

section
variable {H : Type} {enc : TypeId × Value → H} {w : World} {base : Nat} {sp : Nat → Bool} {held : Bool} {n : Nat} {y : DataW H × List MemPlace}

theorem tr_row {k : IntKind} {t e : TypeId} (ht : Try.prog.underlying t = some (.slice e)) (he : Try.prog.underlying e = some (.int k)) (hc : Try.prog.cellsOf e = 1) {v : Value} (h : DataW.trod enc Try.prog w base sp held n t [v] = some y) :
    ∃ zs, Sl k w v zs ∧ ∀ c ∈ zs, (Lit.int k c).wf = true := by
  rcases open_ints ht he hc h with ⟨hcs, _⟩ | ⟨x, l, c, zs, hcs, _, hl, hm, hz, _, hcell, hwz⟩
  · simp at hcs
    subst hcs
    exact ⟨[], Sl.nil _ _, fun c hc => by simp at hc⟩
  · simp at hcs
    subst hcs
    have hle : l ≤ zs.length := by rw [hz]; split <;> omega
    have hlen : (zs.take l).length = l := by simp; omega
    refine ⟨zs.take l, ⟨some x, c, by rw [hlen], by omega, hm, (fun h => by cases h), fun q hq i hi => ?_⟩, fun c hc => hwz c (List.mem_of_mem_take hc)⟩
    obtain rfl := Option.some.inj hq
    have hi2 : i < l := by omega
    rw [hcell i (by omega)]
    simp [List.getD, hi2]

theorem tr_nums {v : Value} (h : DataW.trod enc Try.prog w base sp held n 47 [v] = some y) : ∃ zs, Il w v zs := by
  obtain ⟨zs, h1, -⟩ := tr_row Try.underlying47 Try.underlying3 (by kernel_rfl) h
  exact ⟨zs, Il.of h1⟩

theorem list_ofG {α : Type} {P : Nat → α → Prop} : ∀ (n : Nat), (∀ i, i < n → ∃ f, P i f) → ∃ L : List α, L.length = n ∧ ∀ i f, L[i]? = some f → P i f
  | 0, _ => ⟨[], rfl, fun i f h => by simp at h⟩
  | n + 1, h => by
    obtain ⟨L, hl, hp⟩ := list_ofG n fun i hi => h i (by omega)
    obtain ⟨f, hf⟩ := h n (Nat.lt_succ_self n)
    refine ⟨L ++ [f], by simp [hl], fun i g hg => ?_⟩
    rcases Nat.lt_or_ge i n with h1 | h1
    · rw [List.getElem?_append_left (by omega)] at hg
      exact hp i g hg
    · rw [List.getElem?_append_right (by omega)] at hg
      have : i - L.length = 0 := by
        have := (List.getElem?_eq_some_iff.1 hg).1
        simp at this; omega
      rw [this] at hg
      simp at hg
      subst hg
      have : i = n := by omega
      rw [this]
      exact hf

/-- Lists of lists, out of how one of them is opened. -/
theorem tr_lists10 {α : Type} {f : α → Value} {T E : TypeId} (hT : Try.prog.underlying T = some (.slice E)) (hc : Try.prog.cellsOf E = 1)
    (ho : ∀ (u : Value) (k : Nat) (sp' : Nat → Bool) (held' : Bool) (y' : DataW H × List MemPlace), DataW.trod enc Try.prog w base sp' held' k E [u] = some y' → ∃ l, Gl f w u l) {v : Value} (h : DataW.trod enc Try.prog w base sp held n T [v] = some y) : ∃ ls, Lg f w v ls := by
  rcases open_slice hT h with ⟨hcs, _⟩ | ⟨x, l, c, m, k, D, Pl, hcs, _, hl, hm, hmm, _, hx⟩
  · simp at hcs
    subst hcs
    exact ⟨[], [], Gl.nil _ _, rfl, fun i s l hs => by simp at hs⟩
  · simp at hcs
    subst hcs
    have hlm : l ≤ m := by rw [hmm]; split <;> omega
    obtain ⟨L, hL, hp⟩ := list_ofG (P := fun i (b : (Option Addr × Nat × Nat) × List α) => w.cell? (x.add i) = some (sv b.1) ∧ Gl f w (sv b.1) b.2) l (fun i hi => by
      obtain ⟨cs', h1, h2⟩ := hx i (by omega)
      rw [hc] at h1
      obtain ⟨_, hlen, hcell⟩ := World.cells?_some h1
      have e0 := hcell 0 (by omega)
      match cs', hlen with
      | [u], _ =>
        obtain ⟨zs, hz⟩ := ho _ _ _ _ _ h2
        obtain ⟨a', c', rfl, -⟩ := id hz
        exact ⟨((a', zs.length, c'), zs), by simpa [Addr.add, sv] using e0, hz⟩)
    refine ⟨L.map (·.2), L.map (·.1), ⟨some x, c, by simp [hL], by simp [hL]; omega, hm, (fun h => by cases h), fun q hq i b hb => ?_⟩, by simp, fun i s z hs hz => ?_⟩
    · obtain rfl := Option.some.inj hq
      rw [List.getElem?_map] at hb
      obtain ⟨g, hg, rfl⟩ := Option.map_eq_some_iff.1 hb
      exact (hp i g hg).1
    · rw [List.getElem?_map] at hs hz
      obtain ⟨g, hg, rfl⟩ := Option.map_eq_some_iff.1 hs
      obtain ⟨g', hg', rfl⟩ := Option.map_eq_some_iff.1 hz
      rw [hg] at hg'
      cases hg'
      exact (hp i g hg).2

theorem open_num {r : Reach} {b0 : Nat} {v : Value} {d : DataW H} {p : List MemPlace} (hv : Value.okWide Try.prog w r b0 47 v) (h : DataW.Trod enc Try.prog w base sp held 47 v d p) : ∃ l, Il w v l := by
  obtain ⟨a, len, cap, rfl⟩ := okWide_slice Try.underlying47 hv
  obtain ⟨fuel, hf⟩ := h
  exact tr_nums (v := .slice a len cap) (by simpa [Value.cells] using hf)
theorem open_tls {r : Reach} {b0 : Nat} {v : Value} {d : DataW H} {p : List MemPlace} (hv : Value.okWide Try.prog w r b0 27 v) (h : DataW.Trod enc Try.prog w base sp held 27 v d p) : ∃ l, Tl w v l := by
  obtain ⟨a, len, cap, rfl⟩ := okWide_slice Try.underlying27 hv
  obtain ⟨fuel, hf⟩ := h
  exact tr_lists10 Try.underlying27 (by kernel_rfl) (fun u k sp' held' y' h => tr_nums h) (v := .slice a len cap) (by simpa [Value.cells] using hf)
end
end Go.Proofs.Ytfniphaehggcgaa
