/-
  A slice of postings, or of numbers, cut at a place: the run of s[:m], s[m:], s[lo:hi], and what each reads as.
-/
import Derived.Test.YtjkaidlgooemoaaPBase
namespace Go.Proofs.Ytjkaidlgooemoaa
open Go.RowKit

theorem Pl.form {w : World} {v : Value} {L : List Pt} (h : Pl w v L) : ∃ a cap, v = .slice a L.length cap := by
  obtain ⟨a, cap, hv, -⟩ := h
  exact ⟨a, cap, hv⟩

/-- s[lo:hi] of postings: the run, and what it reads as. -/
theorem Pl.cut {w : World} {a : Option Addr} {cap : Nat} {L : List Pt} (h : Pl w (.slice a L.length cap) L) (lo hi : Nat) (h1 : lo ≤ hi) (h2 : hi ≤ L.length) :
    Pl w (sliced a lo hi cap 2) ((L.drop lo).take (hi - lo)) := by
  obtain ⟨a', cap', hv, hl, hmx, hn, hc⟩ := h
  simp only [Value.slice.injEq, true_and] at hv
  obtain ⟨rfl, rfl⟩ := hv
  have hlen : ((L.drop lo).take (hi - lo)).length = hi - lo := by simp; omega
  refine ⟨_, cap - lo, by simp only [sliced, hlen]; rfl, by omega, by unfold maxLen at *; omega, ?_, ?_⟩
  · intro h
    split at h
    · have := hn h; omega
    · simp at h; have := hn h; omega
  · intro x hx i f hf
    have hi' : i < hi - lo := by
      have := (List.getElem?_eq_some_iff.1 hf).1
      omega
    have hfl : L[lo + i]? = some f := by
      rw [List.getElem?_take, if_pos hi', List.getElem?_drop] at hf
      exact hf
    rw [if_neg (by omega)] at hx
    cases a with
    | none => simp at hx
    | some y =>
      obtain ⟨dv, h0, h1, h3⟩ := hc y rfl (lo + i) f hfl
      obtain ⟨b, off, spot⟩ := y
      obtain ⟨dv0, z0, -⟩ := hc _ rfl 0 L[0] (List.getElem?_eq_getElem (by omega))
      have hsp : spot = none := by simpa [Addr.add] using World.cell?_spot z0
      subst hsp
      simp [Addr.add_lit] at hx
      subst hx
      simp only [Addr.add_lit] at h0 h1 ⊢
      exact ⟨dv, by rw [← h0]; congr 2; omega, by rw [← h1]; congr 2; omega, h3⟩

theorem Sl.cut {k : IntKind} {w : World} {a : Option Addr} {cap : Nat} {L : List Int} (h : Sl k w (.slice a L.length cap) L) (lo hi : Nat) (h1 : lo ≤ hi) (h2 : hi ≤ L.length) :
    Sl k w (sliced a lo hi cap 1) ((L.drop lo).take (hi - lo)) := by
  obtain ⟨a', cap', hv, hl, hmx, hn, hc⟩ := h
  simp only [Value.slice.injEq, true_and] at hv
  obtain ⟨rfl, rfl⟩ := hv
  have hlen : ((L.drop lo).take (hi - lo)).length = hi - lo := by simp; omega
  refine ⟨_, cap - lo, by simp only [sliced, hlen]; rfl, by omega, by unfold maxLen at *; omega, ?_, ?_⟩
  · intro h
    split at h
    · have := hn h; omega
    · simp at h; have := hn h; omega
  · intro x hx i hi0
    have hi' : i < hi - lo := by omega
    rw [if_neg (by omega)] at hx
    cases a with
    | none => simp at hx
    | some y =>
      have h0 := hc y rfl (lo + i) (by omega)
      obtain ⟨b, off, spot⟩ := y
      have z0 := hc _ rfl 0 (by omega)
      have hsp : spot = none := by simpa [Addr.add] using World.cell?_spot z0
      subst hsp
      simp [Addr.add_lit] at hx
      subst hx
      simp only [Addr.add_lit] at h0 ⊢
      rw [show off + lo + i = off + (lo + i) by omega, h0]
      simp [List.getD, hi']

theorem run_pl_from (a : Option Addr) (n cap m : Nat) (hm : m ≤ n) (w : World) :
    (Instr.slice 22 (.slice a n cap) (some (.int .i64 m)) none none).run Try.prog w = .ok (sliced a m n cap 2) w := by
  have hs : ∀ w : World, (sizeOf (Try.prog.elem 22)).run Try.prog w = .ok 2 w := fun w => by kernel_rfl
  rw [run_slice_l w 22 _ n cap (by kernel_rfl) .i64 m (by omega) (by omega), hs]
  simp [Result.andThen]

theorem run_pl_within (a : Option Addr) (n cap lo hi : Nat) (h1 : lo ≤ hi) (h2 : hi ≤ cap) (w : World) :
    (Instr.slice 22 (.slice a n cap) (some (.int .i64 lo)) (some (.int .i64 hi)) none).run Try.prog w = .ok (sliced a lo hi cap 2) w := by
  have hs : ∀ w : World, (sizeOf (Try.prog.elem 22)).run Try.prog w = .ok 2 w := fun w => by kernel_rfl
  rw [run_slice_lh w 22 _ n cap (by kernel_rfl) .i64 .i64 lo hi (by omega) (by omega) (by omega), hs]
  simp [Result.andThen]

theorem run_sl_from (a : Option Addr) (n cap m : Nat) (hm : m ≤ n) (w : World) :
    (Instr.slice 37 (.slice a n cap) (some (.int .i64 m)) none none).run Try.prog w = .ok (sliced a m n cap 1) w := by
  have hs : ∀ w : World, (sizeOf (Try.prog.elem 37)).run Try.prog w = .ok 1 w := fun w => by kernel_rfl
  rw [run_slice_l w 37 _ n cap (by kernel_rfl) .i64 m (by omega) (by omega), hs]
  simp [Result.andThen]

theorem run_by_within (a : Option Addr) (n cap lo hi : Nat) (h1 : lo ≤ hi) (h2 : hi ≤ cap) (w : World) :
    (Instr.slice 31 (.slice a n cap) (some (.int .i64 lo)) (some (.int .i64 hi)) none).run Try.prog w = .ok (sliced a lo hi cap 1) w := by
  have hs : ∀ w : World, (sizeOf (Try.prog.elem 31)).run Try.prog w = .ok 1 w := fun w => by kernel_rfl
  rw [run_slice_lh w 31 _ n cap (by kernel_rfl) .i64 .i64 lo hi (by omega) (by omega) (by omega), hs]
  simp [Result.andThen]

theorem drop_take_all {α : Type} (L : List α) (m : Nat) : (L.drop m).take (L.length - m) = L.drop m := List.take_of_length_le (by simp)
end Go.Proofs.Ytjkaidlgooemoaa
