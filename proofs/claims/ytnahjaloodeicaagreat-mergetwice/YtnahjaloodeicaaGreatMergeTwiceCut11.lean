/-
  Segments, and lists of bools, cut at a place: the runs of l[:n] and l[n:], and what they read as.
-/
import Derived.Test.YtnahjaloodeicaaGreatM30
namespace Go.Proofs.YtnahjaloodeicaaGreat
set_option maxRecDepth 100000
open Go.RowKit Go.Deep

theorem Kl.cut11 {α : Type} {f : α → List Value} {k : Nat} (hk : ∀ y, (f y).length = k) (hk0 : 0 < k) {w : World} {a : Option Addr} {cap : Nat} {L : List α} (h : Kl f k w (.slice a L.length cap) L) (lo hi : Nat) (h1 : lo ≤ hi) (h2 : hi ≤ L.length) :
    Kl f k w (sliced a lo hi cap k) ((L.drop lo).take (hi - lo)) := by
  obtain ⟨a', cap', hv, hl, hmx, hn, hc⟩ := h
  simp only [Value.slice.injEq, true_and] at hv
  obtain ⟨rfl, rfl⟩ := hv
  have hlen : ((L.drop lo).take (hi - lo)).length = hi - lo := by simp; omega
  refine ⟨_, cap - lo, by simp only [sliced, hlen]; rfl, by omega, by unfold maxLen at *; omega, ?_, ?_⟩
  · intro h
    split at h
    · have := hn h; omega
    · simp at h; have := hn h; omega
  · intro x hx i y hy j u hu
    have hi' : i < hi - lo := by
      have := (List.getElem?_eq_some_iff.1 hy).1
      omega
    have hfl : L[lo + i]? = some y := by
      rw [List.getElem?_take, if_pos hi', List.getElem?_drop] at hy
      exact hy
    rw [if_neg (by omega)] at hx
    cases a with
    | none => simp at hx
    | some z =>
      have c0 := hc z rfl (lo + i) y hfl j u hu
      obtain ⟨b, off, spot⟩ := z
      have hz : 0 < (f L[0]).length := by rw [hk]; exact hk0
      have z0 := hc _ rfl 0 L[0] (List.getElem?_eq_getElem (by omega)) 0 _ (List.getElem?_eq_getElem hz)
      have hsp : spot = none := by simpa [Addr.add] using World.cell?_spot z0
      subst hsp
      simp [Addr.add_lit] at hx
      subst hx
      simp only [Addr.add_lit] at c0 ⊢
      rw [← c0]
      congr 2
      rw [Nat.add_mul]
      omega

theorem Gl.kl {α : Type} {f : α → Value} {w : World} {v : Value} {l : List α} (h : Gl f w v l) : Kl (fun y => [f y]) 1 w v l := by
  obtain ⟨a, cap, hv, hl, hm, hn, hc⟩ := h
  refine ⟨a, cap, hv, hl, hm, hn, fun x hx i y hi j u hu => ?_⟩
  match j, hu with
  | 0, hu =>
    simp at hu
    subst hu
    rw [Nat.mul_one, Nat.add_zero]
    exact hc x hx i y hi
  | j + 1, hu => simp at hu
theorem Kl.gl {α : Type} {f : α → Value} {w : World} {v : Value} {l : List α} (h : Kl (fun y => [f y]) 1 w v l) : Gl f w v l := by
  obtain ⟨a, cap, hv, hl, hm, hn, hc⟩ := h
  refine ⟨a, cap, hv, hl, hm, hn, fun x hx i y hi => ?_⟩
  have := hc x hx i y hi 0 (f y) rfl
  rwa [Nat.mul_one, Nat.add_zero] at this

theorem Gs.cut {w : World} {a : Option Addr} {cap : Nat} {L : List G.Sq} (h : Gs w (.slice a L.length cap) L) (lo hi : Nat) (h1 : lo ≤ hi) (h2 : hi ≤ L.length) : Gs w (sliced a lo hi cap 5) ((L.drop lo).take (hi - lo)) := by
  obtain ⟨ps, hK, rfl, hS⟩ := h
  rw [List.length_map] at hK h2
  refine ⟨(ps.drop lo).take (hi - lo), hK.cut11 encG_len (by decide) lo hi h1 h2, by rw [List.map_take, List.map_drop], fun p hp => hS p (List.mem_of_mem_drop (List.mem_of_mem_take hp))⟩
theorem Bll.cut {w : World} {a : Option Addr} {cap : Nat} {L : List (List Bool)} (h : Bll w (.slice a L.length cap) L) (lo hi : Nat) (h1 : lo ≤ hi) (h2 : hi ≤ L.length) : Bll w (sliced a lo hi cap 1) ((L.drop lo).take (hi - lo)) := by
  obtain ⟨us, hK, hl, hS⟩ := h
  rw [← hl] at hK h2
  refine ⟨(us.drop lo).take (hi - lo), (Kl.cut11 (k := 1) (fun _ => rfl) (by decide) hK.kl lo hi h1 h2).gl, by simp [hl], fun i s l hs hl' => ?_⟩
  have hi1 : i < hi - lo := by
    have := (List.getElem?_eq_some_iff.1 hs).1
    simp at this; omega
  rw [List.getElem?_take, if_pos hi1, List.getElem?_drop] at hs hl'
  exact hS (lo + i) s l hs hl'

theorem run_gs_to (a : Option Addr) (n cap m : Nat) (hm : m ≤ cap) (w : World) :
    (Instr.slice 22 (.slice a n cap) none (some (.int .i64 m)) none).run Tryz.prog w = .ok (sliced a 0 m cap 5) w := by
  have hs : ∀ w : World, (sizeOf (Tryz.prog.elem 22)).run Tryz.prog w = .ok 5 w := fun w => by kernel_rfl
  rw [run_slice_h w 22 _ n cap (by kernel_rfl) .i64 m (by omega) (by omega), hs]
  simp [Result.andThen]
theorem run_gs_from (a : Option Addr) (n cap m : Nat) (hm : m ≤ n) (w : World) :
    (Instr.slice 22 (.slice a n cap) (some (.int .i64 m)) none none).run Tryz.prog w = .ok (sliced a m n cap 5) w := by
  have hs : ∀ w : World, (sizeOf (Tryz.prog.elem 22)).run Tryz.prog w = .ok 5 w := fun w => by kernel_rfl
  rw [run_slice_l w 22 _ n cap (by kernel_rfl) .i64 m (by omega) (by omega), hs]
  simp [Result.andThen]
theorem run_bl_to (a : Option Addr) (n cap m : Nat) (hm : m ≤ cap) (w : World) :
    (Instr.slice 23 (.slice a n cap) none (some (.int .i64 m)) none).run Tryz.prog w = .ok (sliced a 0 m cap 1) w := by
  have hs : ∀ w : World, (sizeOf (Tryz.prog.elem 23)).run Tryz.prog w = .ok 1 w := fun w => by kernel_rfl
  rw [run_slice_h w 23 _ n cap (by kernel_rfl) .i64 m (by omega) (by omega), hs]
  simp [Result.andThen]
theorem run_bl_from (a : Option Addr) (n cap m : Nat) (hm : m ≤ n) (w : World) :
    (Instr.slice 23 (.slice a n cap) (some (.int .i64 m)) none none).run Tryz.prog w = .ok (sliced a m n cap 1) w := by
  have hs : ∀ w : World, (sizeOf (Tryz.prog.elem 23)).run Tryz.prog w = .ok 1 w := fun w => by kernel_rfl
  rw [run_slice_l w 23 _ n cap (by kernel_rfl) .i64 m (by omega) (by omega), hs]
  simp [Result.andThen]
end Go.Proofs.YtnahjaloodeicaaGreat
