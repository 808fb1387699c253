/-
  What a crash leaves, over plain lists. No program is named here.
-/
import Derived.Test.YtnhhmohicjgpgaaPlainDo
namespace Go.Proofs.Ytnhhmohicjgpgaa
open Go.RowKit

/-- What is left of the first k files, and how many numbers have been asked for. -/
def K.crTo (L : List Pf) (ps : List Int) : Nat → List Pf × Nat
  | 0 => ([], 0)
  | k + 1 => match L[k]? with
    | none => K.crTo L ps k
    | some f => if f.su = true then ((K.crTo L ps k).1 ++ [f], (K.crTo L ps k).2) else match ps[(K.crTo L ps k).2]? with
      | none => ((K.crTo L ps k).1, (K.crTo L ps k).2 + 1)
      | some p => if p < 0 then ((K.crTo L ps k).1, (K.crTo L ps k).2 + 1) else ((K.crTo L ps k).1 ++ [⟨f.nm, f.da.take p.toNat, true⟩], (K.crTo L ps k).2 + 1)
def K.crash (L : List Pf) (ps : List Int) : List Pf := (K.crTo L ps L.length).1

theorem K.cr_sure {L : List Pf} {ps : List Int} {k : Nat} {f : Pf} (h : L[k]? = some f) (hs : f.su = true) : K.crTo L ps (k + 1) = ((K.crTo L ps k).1 ++ [f], (K.crTo L ps k).2) := by simp [K.crTo, h, hs]
theorem K.cr_none {L : List Pf} {ps : List Int} {k : Nat} {f : Pf} (h : L[k]? = some f) (hs : f.su = false) (hp : ps[(K.crTo L ps k).2]? = none) : K.crTo L ps (k + 1) = ((K.crTo L ps k).1, (K.crTo L ps k).2 + 1) := by simp [K.crTo, h, hs, hp]
theorem K.cr_neg {L : List Pf} {ps : List Int} {k : Nat} {f : Pf} {p : Int} (h : L[k]? = some f) (hs : f.su = false) (hp : ps[(K.crTo L ps k).2]? = some p) (h0 : p < 0) : K.crTo L ps (k + 1) = ((K.crTo L ps k).1, (K.crTo L ps k).2 + 1) := by simp [K.crTo, h, hs, hp, h0]
theorem K.cr_keep {L : List Pf} {ps : List Int} {k : Nat} {f : Pf} {p : Int} (h : L[k]? = some f) (hs : f.su = false) (hp : ps[(K.crTo L ps k).2]? = some p) (h0 : ¬ p < 0) : K.crTo L ps (k + 1) = ((K.crTo L ps k).1 ++ [⟨f.nm, f.da.take p.toNat, true⟩], (K.crTo L ps k).2 + 1) := by simp [K.crTo, h, hs, hp, h0]

theorem K.cr_len (L : List Pf) (ps : List Int) : ∀ k, (K.crTo L ps k).1.length ≤ k ∧ (K.crTo L ps k).2 ≤ k
  | 0 => by simp [K.crTo]
  | k + 1 => by
    have ih := K.cr_len L ps k
    rw [K.crTo]
    split
    · omega
    · split
      · simp; omega
      · split
        · simp; omega
        · split
          · simp; omega
          · simp; omega

theorem Sl.cut1 {w : World} {a : Option Addr} {cap : Nat} {zs : List Int} (h : Sl .i64 w (.slice a zs.length cap) zs) (hp : 0 < zs.length) :
    ∃ a2 c2, (∀ w', (Instr.slice 44 (.slice a zs.length cap) (some (.int .i64 1)) none none).run Try.prog w' = .ok (.slice a2 (zs.drop 1).length c2) w') ∧ Sl .i64 w (.slice a2 (zs.drop 1).length c2) (zs.drop 1) := by
  obtain ⟨a', cap', hv, hl, hmx, hn, hc⟩ := h
  simp only [Value.slice.injEq, true_and] at hv
  obtain ⟨rfl, rfl⟩ := hv
  have hs : ∀ w : World, (sizeOf (Try.prog.elem 44)).run Try.prog w = .ok 1 w := fun w => by kernel_rfl
  refine ⟨if cap = 1 then a else a.map (·.add (1 * 1)), cap - 1, ?_, ?_⟩
  · intro w'
    rw [run_slice_l w' 44 _ zs.length cap (by kernel_rfl) .i64 1 (by omega) (by omega), hs]
    simp [Result.andThen, sliced]
  · refine ⟨_, cap - 1, rfl, by simp; omega, by unfold maxLen at *; omega, ?_, ?_⟩
    · intro h
      split at h
      · have := hn h; omega
      · simp at h; have := hn h; omega
    · intro x hx i hi
      simp at hi
      rw [if_neg (by omega)] at hx
      cases a with
      | none => simp at hx
      | some y =>
        have z0 := hc y rfl 0 hp
        have hcy := hc y rfl (1 + i) (by omega)
        obtain ⟨b, off, spot⟩ := y
        have hsp : spot = none := by simpa [Addr.add] using World.cell?_spot z0
        subst hsp
        simp [Addr.add_lit] at hx
        subst hx
        simp only [Addr.add_lit] at hcy ⊢
        rw [show off + 1 + i = off + (1 + i) by omega, hcy]
        simp [Nat.add_comm]

theorem Sl.to {w : World} {a : Option Addr} {n cap : Nat} {zs : List Int} (h : Sl .u8 w (.slice a n cap) zs) (m : Nat) (hm : m ≤ n) :
    (∀ w', (Instr.slice 27 (.slice a n cap) none (some (.int .i64 m)) none).run Try.prog w' = .ok (.slice a m cap) w') ∧ Sl .u8 w (.slice a m cap) (zs.take m) := by
  refine ⟨?_, h.take m hm⟩
  intro w'
  obtain ⟨a', cap', hv, hl, hmx, hn, hc⟩ := h
  simp only [Value.slice.injEq] at hv
  obtain ⟨rfl, rfl, rfl⟩ := hv
  have hs : ∀ w : World, (sizeOf (Try.prog.elem 27)).run Try.prog w = .ok 1 w := fun w => by kernel_rfl
  rw [run_slice_h w' 27 _ zs.length cap (by kernel_rfl) .i64 m (by omega) (by omega), hs]
  have ha : ∀ y : Addr, y.add 0 = y := fun y => by simp [Addr.add]
  have hb : (a.map fun y : Addr => y.add 0) = a := by cases a <;> simp [ha]
  simp [Result.andThen, sliced, hb]
end Go.Proofs.Ytnhhmohicjgpgaa
