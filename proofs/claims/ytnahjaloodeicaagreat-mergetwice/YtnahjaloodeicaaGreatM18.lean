/-
  Texts put together: Open6.
-/
import Derived.Test.YtnahjaloodeicaaGreatM07
import Derived.WalkKit
import Derived.ProofKit
import Derived.OpenShut
import Derived.ChangeOld
import Derived.Deep.SlicePairs
import Derived.Deep.Strs
import Derived.Lib.SmallJoins
/-
  What comes in: postings, bytes, a byte: as it reads.
-/
namespace Go.Proofs.YtnahjaloodeicaaGreat
set_option maxRecDepth 100000
open Go.RowKit Go.Deep Go.ChangeShapes Go.WideShapes Go.ChangeAt

section
variable {H : Type} {enc : TypeId × Value → H} {w : World} {base : Nat} {sp : Nat → Bool} {held : Bool} {n : Nat} {y : DataW H × List MemPlace}

theorem tr_row {k : IntKind} {t e : TypeId} (ht : Tryz.prog.underlying t = some (.slice e)) (he : Tryz.prog.underlying e = some (.int k)) (hc : Tryz.prog.cellsOf e = 1) {v : Value} (h : DataW.trod enc Tryz.prog w base sp held n t [v] = some y) :
    ∃ zs, Sl k w v zs ∧ ∀ c ∈ zs, (Lit.int k c).wf = true := by
  rcases open_ints ht he hc h with ⟨hcs, _⟩ | ⟨x, l, c, zs, hcs, _, hl, hm, hz, _, hcell, hwz⟩
  · simp at hcs
    subst hcs
    exact ⟨[], Sl.nil _ _, fun c hc => by simp at hc⟩
  · simp at hcs
    subst hcs
    have hle : l ≤ zs.length := by rw [hz]; split <;> omega
    have hlen : (zs.take l).length = l := by simp; omega
    refine ⟨zs.take l, ⟨some x, c, by rw [hlen], by omega, hm, (fun h => by cases h), fun q hq i hi => ?_⟩, fun c hc => hwz c (List.mem_of_mem_take hc)⟩
    obtain rfl := Option.some.inj hq
    have hi2 : i < l := by omega
    rw [hcell i (by omega)]
    simp [List.getD, hi2]

theorem tr_ints {v : Value} (h : DataW.trod enc Tryz.prog w base sp held n 27 [v] = some y) : ∃ zs, Sl .i64 w v zs := by
  obtain ⟨zs, h1, _⟩ := tr_row Tryz.underlying27 Tryz.underlying3 (by kernel_rfl) h
  exact ⟨zs, h1⟩

theorem tr_post {cs : List Value} (h : DataW.trod enc Tryz.prog w base sp held n 58 cs = some y) : ∃ (f : Pt) (dv : Value), cs = [.int .i64 f.d, dv] ∧ Sl .i64 w dv f.a := by
  obtain ⟨y0, y1, m, _, hl, g0, g1⟩ := trod_struct2 Tryz.underlying58 h
  have hc : Tryz.prog.cellsOf 58 = 2 := by kernel_rfl
  have h9 : Tryz.prog.cellsOf 3 = 1 := by kernel_rfl
  have h27 : Tryz.prog.cellsOf 27 = 1 := by kernel_rfl
  rw [hc] at hl
  match cs, hl with
  | [v0, v1], _ =>
    simp [h9, h27] at g0 g1
    obtain ⟨k, e0, _⟩ := DataW.trod_int Tryz.underlying3 g0
    obtain ⟨zs, hz⟩ := tr_ints g1
    simp at e0
    subst e0
    exact ⟨⟨k, zs⟩, v1, rfl, hz⟩

theorem list_of {P : Nat → Pt → Prop} : ∀ (n : Nat), (∀ i, i < n → ∃ f, P i f) → ∃ L : List Pt, L.length = n ∧ ∀ i f, L[i]? = some f → P i f
  | 0, _ => ⟨[], rfl, fun i f h => by simp at h⟩
  | n + 1, h => by
    obtain ⟨L, hl, hp⟩ := list_of n fun i hi => h i (by omega)
    obtain ⟨f, hf⟩ := h n (Nat.lt_succ_self n)
    refine ⟨L ++ [f], by simp [hl], fun i g hg => ?_⟩
    rcases Nat.lt_or_ge i n with h1 | h1
    · rw [List.getElem?_append_left (by omega)] at hg
      exact hp i g hg
    · rw [List.getElem?_append_right (by omega)] at hg
      have : i - L.length = 0 := by
        have := (List.getElem?_eq_some_iff.1 hg).1
        simp at this; omega
      rw [this] at hg
      simp at hg
      subst hg
      have : i = n := by omega
      rw [this]
      exact hf

theorem tr_posts {v : Value} (h : DataW.trod enc Tryz.prog w base sp held n 55 [v] = some y) : ∃ L, Pl w v L := by
  rcases open_slice Tryz.underlying55 h with ⟨hcs, _⟩ | ⟨x, l, c, m, k, D, Pl', hcs, _, hl, hm, hmm, _, hx⟩
  · simp at hcs
    subst hcs
    exact ⟨[], Pl.nil _⟩
  · simp at hcs
    subst hcs
    have hc : Tryz.prog.cellsOf 58 = 2 := by kernel_rfl
    have hlm : l ≤ m := by rw [hmm]; split <;> omega
    obtain ⟨L, hL, hp⟩ := list_of (P := fun i f => ∃ dv, w.cell? (x.add (i * 2)) = some (.int .i64 f.d) ∧ w.cell? (x.add (i * 2 + 1)) = some dv ∧ Sl .i64 w dv f.a) l (fun i hi => by
      obtain ⟨cs', h1, h2⟩ := hx i (by omega)
      rw [hc] at h1
      obtain ⟨_, hlen, hcell⟩ := World.cells?_some h1
      obtain ⟨f, dv, rfl, hz⟩ := tr_post h2
      have e0 := hcell 0 (by omega)
      have e1 := hcell 1 (by omega)
      rw [add_add] at e0 e1
      exact ⟨f, dv, by simpa using e0, by simpa using e1, hz⟩)
    refine ⟨L, ⟨some x, c, by rw [hL], by omega, hm, (fun h => by cases h), fun q hq i f hf => ?_⟩⟩
    obtain rfl := Option.some.inj hq
    exact hp i f hf

theorem open_pls {r : Reach} {b0 : Nat} {v : Value} {d : DataW H} {p : List MemPlace} (hv : Value.okWide Tryz.prog w r b0 55 v) (h : DataW.Trod enc Tryz.prog w base sp held 55 v d p) : ∃ L, Pl w v L := by
  obtain ⟨a, len, cap, rfl⟩ := okWide_slice Tryz.underlying55 hv
  obtain ⟨fuel, hf⟩ := h
  exact tr_posts (v := .slice a len cap) (by simpa [Value.cells] using hf)
theorem open_u8 {r : Reach} {b0 : Nat} {v : Value} {d : DataW H} {p : List MemPlace} (hv : Value.okWide Tryz.prog w r b0 5 v) (h : DataW.Trod enc Tryz.prog w base sp held 5 v d p) : ∃ n, v = .int .u8 n ∧ 0 ≤ n ∧ n ≤ 255 := by
  obtain ⟨n, rfl⟩ := okWide_int Tryz.underlying5 hv
  obtain ⟨fuel, hf⟩ := h
  obtain ⟨k, e0, h2⟩ := DataW.trod_int Tryz.underlying5 (by simpa [Value.cells] using hf)
  simp at e0
  subst e0
  have := bounds_u8 h2.2
  exact ⟨n, rfl, by omega, by omega⟩
theorem open_num {r : Reach} {b0 : Nat} {v : Value} {d : DataW H} {p : List MemPlace} (hv : Value.okWide Tryz.prog w r b0 27 v) (h : DataW.Trod enc Tryz.prog w base sp held 27 v d p) : ∃ z, Sl .i64 w v z := by
  obtain ⟨a, len, cap, rfl⟩ := okWide_slice Tryz.underlying27 hv
  obtain ⟨fuel, hf⟩ := h
  exact tr_ints (v := .slice a len cap) (by simpa [Value.cells] using hf)
end
end Go.Proofs.YtnahjaloodeicaaGreat
