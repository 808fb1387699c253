/-
  What comes in: a disk, something to be done, a text, bytes, numbers: as it reads.
-/
import Derived.Test.YtnhhmohicjgpgaaSameD
import Derived.WalkKit
import Derived.ProofKit
import Derived.OpenShut
import Derived.ChangeOld
import Derived.Deep.SlicePairs
import Derived.Deep.Strs
import Derived.Lib.SmallJoins
namespace Go.Proofs.Ytnhhmohicjgpgaa
open Go.RowKit Go.Deep Go.ChangeShapes Go.WideShapes Go.ChangeAt

section
variable {H : Type} {enc : TypeId × Value → H} {w : World} {base : Nat} {sp : Nat → Bool} {held : Bool} {n : Nat} {y : DataW H × List MemPlace}

theorem tr_row {k : IntKind} {t e : TypeId} (ht : Try.prog.underlying t = some (.slice e)) (he : Try.prog.underlying e = some (.int k)) (hc : Try.prog.cellsOf e = 1) {v : Value} (h : DataW.trod enc Try.prog w base sp held n t [v] = some y) :
    ∃ zs, Sl k w v zs ∧ ∀ c ∈ zs, (Lit.int k c).wf = true := by
  rcases open_ints ht he hc h with ⟨hcs, _⟩ | ⟨x, l, c, zs, hcs, _, hl, hm, hz, _, hcell, hwz⟩
  · simp at hcs
    subst hcs
    exact ⟨[], Sl.nil _ _, fun c hc => by simp at hc⟩
  · simp at hcs
    subst hcs
    have hle : l ≤ zs.length := by rw [hz]; split <;> omega
    have hlen : (zs.take l).length = l := by simp; omega
    refine ⟨zs.take l, ⟨some x, c, by rw [hlen], by omega, hm, (fun h => by cases h), fun q hq i hi => ?_⟩, fun c hc => hwz c (List.mem_of_mem_take hc)⟩
    obtain rfl := Option.some.inj hq
    have hi2 : i < l := by omega
    rw [hcell i (by omega)]
    simp [List.getD, hi2]

theorem tr_bytes {v : Value} (h : DataW.trod enc Try.prog w base sp held n 27 [v] = some y) : ∃ zs, Sl .u8 w v zs ∧ ∀ c ∈ zs, 0 ≤ c ∧ c ≤ 255 := by
  obtain ⟨zs, h1, h2⟩ := tr_row Try.underlying27 Try.underlying5 (by kernel_rfl) h
  exact ⟨zs, h1, fun c hc => by have := bounds_u8 (h2 c hc); omega⟩

theorem tr_ints {v : Value} (h : DataW.trod enc Try.prog w base sp held n 44 [v] = some y) : ∃ zs, Sl .i64 w v zs := by
  obtain ⟨zs, h1, _⟩ := tr_row Try.underlying44 Try.underlying3 (by kernel_rfl) h
  exact ⟨zs, h1⟩

theorem tr_file {cs : List Value} (h : DataW.trod enc Try.prog w base sp held n 48 cs = some y) : ∃ (f : Pf) (dv : Value), cs = [.string f.nm, dv, .bool f.su] ∧ Sl .u8 w dv f.da ∧ (∀ c ∈ f.da, 0 ≤ c ∧ c ≤ 255) ∧ f.nm.size ≤ maxLen := by
  obtain ⟨y0, y1, y2, m, _, hl, g0, g1, g2⟩ := trod_struct3 Try.underlying48 h
  have hc : Try.prog.cellsOf 48 = 3 := by kernel_rfl
  have h9 : Try.prog.cellsOf 9 = 1 := by kernel_rfl
  have h27 : Try.prog.cellsOf 27 = 1 := by kernel_rfl
  have h4 : Try.prog.cellsOf 4 = 1 := by kernel_rfl
  rw [hc] at hl
  match cs, hl with
  | [v0, v1, v2], _ =>
    simp [h9, h27, h4] at g0 g1 g2
    obtain ⟨s, e0, _, hs⟩ := DataW.trod_string Try.underlying9 g0
    obtain ⟨b, e2, _⟩ := DataW.trod_bool Try.underlying4 g2
    obtain ⟨zs, hz, hzb⟩ := tr_bytes g1
    simp at e0 e2
    subst e0 e2
    exact ⟨⟨s, zs, b⟩, v1, rfl, hz, hzb, hs⟩

theorem list_of {P : Nat → Pf → Prop} : ∀ (n : Nat), (∀ i, i < n → ∃ f, P i f) → ∃ L : List Pf, L.length = n ∧ ∀ i f, L[i]? = some f → P i f
  | 0, _ => ⟨[], rfl, fun i f h => by simp at h⟩
  | n + 1, h => by
    obtain ⟨L, hl, hp⟩ := list_of n fun i hi => h i (by omega)
    obtain ⟨f, hf⟩ := h n (Nat.lt_succ_self n)
    refine ⟨L ++ [f], by simp [hl], fun i g hg => ?_⟩
    rcases Nat.lt_or_ge i n with h1 | h1
    · rw [List.getElem?_append_left (by omega)] at hg
      exact hp i g hg
    · rw [List.getElem?_append_right (by omega)] at hg
      have : i - L.length = 0 := by
        have := (List.getElem?_eq_some_iff.1 hg).1
        simp at this; omega
      rw [this] at hg
      simp at hg
      subst hg
      have : i = n := by omega
      rw [this]
      exact hf

theorem tr_files {v : Value} (h : DataW.trod enc Try.prog w base sp held n 22 [v] = some y) : ∃ L, Fl w v L ∧ Bys L := by
  rcases open_slice Try.underlying22 h with ⟨hcs, _⟩ | ⟨x, l, c, m, k, D, Pl, hcs, _, hl, hm, hmm, _, hx⟩
  · simp at hcs
    subst hcs
    exact ⟨[], Fl.nil _, fun f hf => by simp at hf⟩
  · simp at hcs
    subst hcs
    have hc : Try.prog.cellsOf 48 = 3 := by kernel_rfl
    have hlm : l ≤ m := by rw [hmm]; split <;> omega
    obtain ⟨L, hL, hp⟩ := list_of (P := fun i f => (∃ dv, w.cell? (x.add (i * 3)) = some (.string f.nm) ∧ w.cell? (x.add (i * 3 + 1)) = some dv ∧ w.cell? (x.add (i * 3 + 2)) = some (.bool f.su) ∧ Sl .u8 w dv f.da) ∧ ∀ c ∈ f.da, 0 ≤ c ∧ c ≤ 255) l (fun i hi => by
      obtain ⟨cs', h1, h2⟩ := hx i (by omega)
      rw [hc] at h1
      obtain ⟨_, hlen, hcell⟩ := World.cells?_some h1
      obtain ⟨f, dv, rfl, hz, hzb, _⟩ := tr_file h2
      have e0 := hcell 0 (by omega)
      have e1 := hcell 1 (by omega)
      have e2 := hcell 2 (by omega)
      rw [add_add] at e0 e1 e2
      exact ⟨f, ⟨dv, by simpa using e0, by simpa using e1, by simpa using e2, hz⟩, hzb⟩)
    refine ⟨L, ⟨some x, c, by rw [hL], by omega, hm, (fun h => by cases h), fun q hq i f hf => ?_⟩, fun f hf => ?_⟩
    · obtain rfl := Option.some.inj hq
      exact (hp i f hf).1
    · obtain ⟨i, hi, rfl⟩ := List.getElem_of_mem hf
      exact (hp i _ (List.getElem?_eq_getElem hi)).2

theorem open_disk {r : Reach} {b0 : Nat} {v : Value} {d : DataW H} {p : List MemPlace} (hv : Value.okWide Try.prog w r b0 24 v) (h : DataW.Trod enc Try.prog w base sp held 24 v d p) :
    ∃ cap fv L, v = .agg #[.int .i64 cap, fv] ∧ Fl w fv L ∧ Bys L := by
  obtain ⟨c0, c1, y0, y1, m, rfl, _, _, h0, h1⟩ := Joins.open_agg2 Try.underlying24 (by kernel_rfl) (by kernel_rfl) hv h
  obtain ⟨cap, e0, _⟩ := DataW.trod_int Try.underlying3 h0
  simp at e0
  subst e0
  obtain ⟨L, hL, hb⟩ := tr_files h1
  exact ⟨cap, c1, L, rfl, hL, hb⟩

theorem open_op {r : Reach} {b0 : Nat} {v : Value} {d : DataW H} {p : List MemPlace} (hv : Value.okWide Try.prog w r b0 39 v) (h : DataW.Trod enc Try.prog w base sp held 39 v d p) :
    ∃ kind A B dv z, v = .agg #[.int .i64 kind, .string A, .string B, dv] ∧ A.size ≤ maxLen ∧ B.size ≤ maxLen ∧ Sl .u8 w dv z ∧ ∀ c ∈ z, 0 ≤ c ∧ c ≤ 255 := by
  obtain ⟨c0, c1, c2, c3, y0, y1, y2, y3, m, rfl, _, _, h0, h1, h2, h3⟩ := Joins.open_agg4 Try.underlying39 (by kernel_rfl) (by kernel_rfl) hv h
  obtain ⟨k, e0, _⟩ := DataW.trod_int Try.underlying3 h0
  obtain ⟨A, e1, _, hA⟩ := DataW.trod_string Try.underlying9 h1
  obtain ⟨B, e2, _, hB⟩ := DataW.trod_string Try.underlying9 h2
  simp at e0 e1 e2
  subst e0 e1 e2
  obtain ⟨z, hz, hzb⟩ := tr_bytes h3
  exact ⟨k, A, B, c3, z, rfl, hA, hB, hz, hzb⟩
theorem open_txt {r : Reach} {b0 : Nat} {v : Value} {d : DataW H} {p : List MemPlace} (hv : Value.okWide Try.prog w r b0 9 v) (h : DataW.Trod enc Try.prog w base sp held 9 v d p) : ∃ s, v = .string s ∧ s.size ≤ maxLen := by
  obtain ⟨s, h1, _, _, h2⟩ := Go.ChangeMaps.open_string Try.underlying9 hv h
  exact ⟨s, h1, h2⟩
theorem open_byt {r : Reach} {b0 : Nat} {v : Value} {d : DataW H} {p : List MemPlace} (hv : Value.okWide Try.prog w r b0 27 v) (h : DataW.Trod enc Try.prog w base sp held 27 v d p) : ∃ z, Sl .u8 w v z ∧ ∀ c ∈ z, 0 ≤ c ∧ c ≤ 255 := by
  obtain ⟨a, len, cap, rfl⟩ := okWide_slice Try.underlying27 hv
  obtain ⟨fuel, hf⟩ := h
  exact tr_bytes (v := .slice a len cap) (by simpa [Value.cells] using hf)
theorem open_num {r : Reach} {b0 : Nat} {v : Value} {d : DataW H} {p : List MemPlace} (hv : Value.okWide Try.prog w r b0 44 v) (h : DataW.Trod enc Try.prog w base sp held 44 v d p) : ∃ z, Sl .i64 w v z := by
  obtain ⟨a, len, cap, rfl⟩ := okWide_slice Try.underlying44 hv
  obtain ⟨fuel, hf⟩ := h
  exact tr_ints (v := .slice a len cap) (by simpa [Value.cells] using hf)
end
end Go.Proofs.Ytnhhmohicjgpgaa
