/-
  Texts put together: Behind8.
-/
import Derived.Test.YtefnkbgkcjhkoaaQ08
import Derived.Deep.RegionHeld3
import Derived.Deep.RegionLaw
import Derived.BigQuiet
/-
  Postings of the call's own, the places of each in a row of their own, all apart ('Own8'); the contract of behind.
-/
namespace Go.Proofs.Ytefnkbgkcjhkoaa
set_option maxRecDepth 100000
open Go.RowKit

def encP (q : Pt × Pts) : List Value := [.int .i64 q.1.d, sv q.2]
theorem encP_len (q : Pt × Pts) : (encP q).length = 2 := rfl
theorem encP_one (q : Pt × Pts) : ∀ u ∈ encP q, u.oneCell' = true := by
  intro u hu
  simp only [encP, List.mem_cons, List.not_mem_nil, or_false] at hu
  rcases hu with rfl | rfl <;> rfl

/-- Postings of the call's own: their row, a row for the places of each, all apart. -/
def Own8 (B : Nat) (w : World) (s : Pts) (qs : List (Pt × Pts)) : Prop :=
  w.ownsRow B 99 2 (sv s) qs.length (qs.flatMap encP) ∧ (∀ q ∈ qs, Pa B w (sv q.2) q.1.a) ∧ ∀ (i j : Nat) (x y : Pt × Pts), i ≠ j → qs[i]? = some x → qs[j]? = some y → Far (sv x.2) (sv y.2)
/-- The blocks that they lie in. -/
def Bl (s : Pts) (qs : List (Pt × Pts)) (k : Nat) : Prop := (sv s).ownBlock = some k ∨ ∃ q ∈ qs, (sv q.2).ownBlock = some k

/-- All but the blocks of M stays. -/
def Kept (M : Nat → Prop) (w w' : World) : Prop := Below 0 w w' ∧ ∀ k, k < w.heap.size → ¬ M k → w'.heap[k]? = w.heap[k]?
theorem Kept.below {M : Nat → Prop} {w w' : World} (h : Kept M w w') {B : Nat} (hB : B ≤ w.heap.size) (hM : ∀ k, M k → B ≤ k) : Below B w w' :=
  ⟨h.1.os, h.1.tape, h.1.output, h.1.size, fun k hk => h.2 k (by omega) fun hm => by have := hM k hm; omega⟩
theorem Kept.of {M : Nat → Prop} {w w' : World} {row : Option Nat} (h : w.grownBy w' row) (hr : ∀ k, row = some k → M k) : Kept M w w' :=
  ⟨⟨h.os, h.tape, h.output, h.size, fun k hk => by omega⟩, fun k hk hm => h.block k hk (fun e => hm (hr k e.symm))⟩
theorem Kept.of_below {M : Nat → Prop} {w w' : World} (h : Below w.heap.size w w') : Kept M w w' := ⟨⟨h.os, h.tape, h.output, h.size, fun k hk => by omega⟩, fun k hk _ => h.block k hk⟩
theorem Kept.trans {M : Nat → Prop} {w w1 w2 : World} (h : Kept M w w1) (k : Kept M w1 w2) : Kept M w w2 :=
  ⟨⟨k.1.os.trans h.1.os, k.1.tape.trans h.1.tape, k.1.output.trans h.1.output, Nat.le_trans h.1.size k.1.size, fun _ hk => by omega⟩, fun j hj hm => (k.2 j (Nat.lt_of_lt_of_le hj h.1.size) hm).trans (h.2 j hj hm)⟩
theorem Kept.mono {M M' : Nat → Prop} {w w' : World} (h : Kept M w w') (hm : ∀ k, k < w.heap.size → M k → M' k) : Kept M' w w' := ⟨h.1, fun k hk hn => h.2 k hk fun e => hn (hm k hk e)⟩

theorem own_keep {w w' : World} {B : Nat} {e : TypeId} {size : Nat} {v : Value} {n : Nat} {xs : List Value} (h : w.ownsRow B e size v n xs) (hk : ∀ b, v.ownBlock = some b → w'.heap[b]? = w.heap[b]?) : w'.ownsRow B e size v n xs := by
  refine ⟨h.1, ?_⟩
  rcases h.2 with hn | ⟨g, cap, cur, rfl, hB, hgg, rest⟩
  · exact .inl hn
  · exact .inr ⟨g, cap, cur, rfl, hB, by rw [hk g rfl]; exact hgg, rest⟩

theorem Own8.keep {B : Nat} {w w' : World} {s : Pts} {qs : List (Pt × Pts)} (h : Own8 B w s qs) (hk : ∀ k, Bl s qs k → w'.heap[k]? = w.heap[k]?) : Own8 B w' s qs :=
  ⟨own_keep h.1 fun b hb => hk b (.inl hb), fun q hq => own_keep (h.2.1 q hq) fun b hb => hk b (.inr ⟨q, hq, hb⟩), h.2.2⟩
theorem Own8.lt {B : Nat} {w : World} {s : Pts} {qs : List (Pt × Pts)} (h : Own8 B w s qs) {k : Nat} (hk : Bl s qs k) : B ≤ k ∧ k < w.heap.size := by
  rcases hk with hk | ⟨q, hq, hk⟩
  · exact h.1.lt k hk
  · exact World.ownsRow.lt (h.2.1 q hq) k hk
theorem Own8.below {B : Nat} {w w' : World} {s : Pts} {qs : List (Pt × Pts)} (h : Own8 B w s qs) (hb : Below w.heap.size w w') : Own8 B w' s qs := h.keep fun k hk => hb.block k (h.lt hk).2
theorem Own8.nil (B : Nat) (w : World) : Own8 B w (none, 0, 0) [] := ⟨World.ownsRow_nil _ _ _ _, (fun q hq => by cases hq), fun i j x y _ h => by simp at h⟩
theorem Own8.mono {B B' : Nat} {w : World} {s : Pts} {qs : List (Pt × Pts)} (h : Own8 B w s qs) (hB : B' ≤ B) : Own8 B' w s qs := ⟨own_mono h.1 hB, fun q hq => own_mono (h.2.1 q hq) hB, h.2.2⟩

theorem Own8.pl {B : Nat} {w : World} {s : Pts} {qs : List (Pt × Pts)} (h : Own8 B w s qs) : Pl w (sv s) (qs.map (·.1)) := by
  obtain ⟨a, cap, hv, hl, hm, hn, hc⟩ := Kl.owned encP_len (by decide) h.1
  refine ⟨a, cap, by rw [hv, List.length_map], by simpa using hl, hm, hn, fun x hx i p hi => ?_⟩
  rw [List.getElem?_map] at hi
  obtain ⟨q, hq, rfl⟩ := Option.map_eq_some_iff.1 hi
  exact ⟨sv q.2, hc x hx i q hq 0 _ rfl, hc x hx i q hq 1 _ rfl, Pa.sl (h.2.1 q (List.mem_of_getElem? hq))⟩

theorem frozen_keep8 {W w' : World} {a : Addr} {f : Bool} (h : W.frozen? a = f) (hb : Below W.heap.size W w') (hl : a.block < W.heap.size) : w'.frozen? a = f := by
  rw [hb.frozen hl]
  exact h

theorem own_n {w : World} {B : Nat} {e : TypeId} {k : Nat} {a : Option Addr} {n c m : Nat} {xs : List Value} (h : w.ownsRow B e k (sv (a, n, c)) m xs) : n = m := by
  rcases h.2 with ⟨e, h0⟩ | ⟨g, cap, cur, e, _⟩
  · simp [sv] at e; omega
  · simp [sv] at e; omega

namespace S
/-- Postings with one more place behind all of theirs. -/
def behind (l : List Pt) (d k : Int) : List Pt :=
  match l.getLast? with
  | some p => if p.d = d then l.dropLast ++ [⟨d, p.a ++ [k]⟩] else l ++ [⟨d, [k]⟩]
  | none => [⟨d, [k]⟩]
theorem behind_nil (d k : Int) : behind [] d k = [⟨d, [k]⟩] := rfl
theorem behind_new {l : List Pt} {p : Pt} {d k : Int} (h : p.d ≠ d) : behind (l ++ [p]) d k = l ++ [p] ++ [⟨d, [k]⟩] := by simp [behind, h]
theorem behind_old {l : List Pt} {p : Pt} {d k : Int} (h : p.d = d) : behind (l ++ [p]) d k = l ++ [⟨d, p.a ++ [k]⟩] := by simp [behind, h]
end S

/-- What behind leaves. -/
def BehEnd (B : Nat) (w : World) (s : Pts) (qs : List (Pt × Pts)) (d k : Int) (e : Ending) (w' : World) : Prop :=
  ∃ s' qs', e = .returned (sv s') ∧ Own8 B w' s' qs' ∧ qs'.map (·.1) = S.behind (qs.map (·.1)) d k ∧ (∀ j, Bl s' qs' j → Bl s qs j ∨ w.heap.size ≤ j) ∧ Kept (Bl s qs) w w'

/-- A new posting behind. -/
theorem beh_new {B : Nat} {w W w1 : World} {s : Pts} {qs : List (Pt × Pts)} {d k : Int} {g cap : Nat} (h : Own8 B W s qs) (hW : Below w.heap.size w W) (hB : B ≤ w.heap.size)
    (hb : S.behind (qs.map (·.1)) d k = qs.map (·.1) ++ [⟨d, [k]⟩])
    (ho : w1.ownsRow B 99 2 (.slice (some ⟨g, 0, none⟩) (qs.length + 1) cap) (qs ++ [((⟨d, [k]⟩ : Pt), ((some ⟨W.heap.size, 0, none⟩, 1, 1) : Pts))]).length ((qs ++ [((⟨d, [k]⟩ : Pt), ((some ⟨W.heap.size, 0, none⟩, 1, 1) : Pts))]).flatMap encP))
    (hg : (W.alloc (.cells #[.int .i64 k] 3)).grownBy w1 (sv s).ownBlock) (hl : (sv s).ownBlock = some g ∨ W.heap.size + 1 ≤ g) :
    BehEnd B w s qs d k (.returned (.slice (some ⟨g, 0, none⟩) (qs.length + 1) cap)) w1 := by
  have hlit : (W.alloc (.cells #[.int .i64 k] 3)).ownsRow B 3 1 (sv (some ⟨W.heap.size, 0, none⟩, 1, 1)) 1 ([k].map (Value.int .i64)) := World.ownsRow_lit W #[.int .i64 k] 1 (by have := hW.size; omega) (by unfold maxLen; omega) rfl
  have hWs := hW.size
  have hrow := h.1.alloc (.cells #[.int .i64 k] 3)
  have hpa : ∀ q ∈ qs, Pa B w1 (sv q.2) q.1.a := fun q hq => World.ownsRow.kept (World.ownsRow.alloc (h.2.1 q hq) _) hg (own_apart (World.ownsRow.alloc (h.2.1 q hq) _) hrow (by decide))
  have hnew : Pa B w1 (sv (some ⟨W.heap.size, 0, none⟩, 1, 1)) [k] := World.ownsRow.kept hlit hg (own_apart hlit hrow (by decide))
  refine ⟨(some ⟨g, 0, none⟩, qs.length + 1, cap), qs ++ [((⟨d, [k]⟩ : Pt), ((some ⟨W.heap.size, 0, none⟩, 1, 1) : Pts))], rfl, ⟨ho, fun q hq => ?_, fun i j x y hij hx hy => ?_⟩, by rw [hb]; simp, fun j hj => ?_, ?_⟩
  · rcases List.mem_append.1 hq with hq | hq
    · exact hpa q hq
    · simp only [List.mem_singleton] at hq
      subst hq
      exact hnew
  · have key : ∀ (i : Nat) (x : Pt × Pts), (qs ++ [((⟨d, [k]⟩ : Pt), ((some ⟨W.heap.size, 0, none⟩, 1, 1) : Pts))])[i]? = some x → qs[i]? = some x ∨ (i = qs.length ∧ x = (⟨d, [k]⟩, (some ⟨W.heap.size, 0, none⟩, 1, 1))) := by
      intro i x hx
      rcases Nat.lt_or_ge i qs.length with h1 | h1
      · rw [List.getElem?_append_left h1] at hx
        exact .inl hx
      · rw [List.getElem?_append_right h1] at hx
        have hlt := (List.getElem?_eq_some_iff.1 hx).1
        simp at hlt
        have e : i = qs.length := by omega
        subst e
        simp at hx
        exact .inr ⟨rfl, hx.symm⟩
    rcases key i x hx with hx | ⟨ei, rfl⟩
    · rcases key j y hy with hy | ⟨ej, rfl⟩
      · exact h.2.2 i j x y hij hx hy
      · intro b hb1 hb2
        have := (World.ownsRow.lt (h.2.1 x (List.mem_of_getElem? hx)) b hb1).2
        simp [sv, Value.ownBlock] at hb2
        omega
    · rcases key j y hy with hy | ⟨ej, rfl⟩
      · intro b hb1 hb2
        have := (World.ownsRow.lt (h.2.1 y (List.mem_of_getElem? hy)) b hb2).2
        simp [sv, Value.ownBlock] at hb1
        omega
      · omega
  · rcases hj with hj | ⟨q, hq, hj⟩
    · simp [sv, Value.ownBlock] at hj
      subst hj
      rcases hl with hl | hl
      · exact .inl (.inl hl)
      · exact .inr (by omega)
    · rcases List.mem_append.1 hq with hq | hq
      · exact .inl (.inr ⟨q, hq, hj⟩)
      · simp only [List.mem_singleton] at hq
        subst hq
        simp [sv, Value.ownBlock] at hj
        exact .inr (by omega)
  · refine (Kept.of_below (below_all hW _)).trans (Kept.of hg fun k hk => .inl hk)

/-- One more place in the last posting. -/
theorem beh_old {B : Nat} {w W w1 : World} {qs init : List (Pt × Pts)} {pd d k : Int} {pl : List Int} {pa : Option Addr} {pc g m c0 g1 cap1 : Nat} (h : Own8 B W (some ⟨g, 0, none⟩, m + 1, c0) qs) (hqs : qs = init ++ [(⟨pd, pl⟩, pa, pl.length, pc)]) (hm : init.length = m) (hW : Below w.heap.size w W) (hd : pd = d)
    (ho : w1.ownsRow B 3 1 (.slice (some ⟨g1, 0, none⟩) (pl.length + 1) cap1) (pl.length + 1) (pl.map (Value.int .i64) ++ [.int .i64 k]))
    (hg : ((W.alloc (.cells #[.int .i64 k] 3)).drew).grownBy w1 (Value.slice pa pl.length pc).ownBlock) (hl : (Value.slice pa pl.length pc).ownBlock = some g1 ∨ g1 = W.heap.size + 1) :
    BehEnd B w (some ⟨g, 0, none⟩, m + 1, c0) qs d k (.returned (.slice (some ⟨g, 0, none⟩) (m + 1) c0)) (w1.setCell ⟨g, m * 2 + 1, none⟩ (.slice (some ⟨g1, 0, none⟩) (pl.length + 1) cap1)) := by
  subst hd
  have hWs := hW.size
  have BA : Below W.heap.size W (W.alloc (.cells #[.int .i64 k] 3)).drew := (below_alloc _ _).drew
  have hql : qs.length = m + 1 := by rw [hqs]; simp [hm]
  have hmemL : ((⟨pd, pl⟩, pa, pl.length, pc) : Pt × Pts) ∈ qs := by rw [hqs]; simp
  have hatL : qs[m]? = some ((⟨pd, pl⟩, pa, pl.length, pc) : Pt × Pts) := by rw [hqs, ← hm]; simp
  have PL : Pa B (W.alloc (.cells #[.int .i64 k] 3)).drew (.slice pa pl.length pc) pl := own_below (h.2.1 _ hmemL) BA
  have row0 := own_below h.1 BA
  have row1 : w1.ownsRow B 99 2 (.slice (some ⟨g, 0, none⟩) (m + 1) c0) qs.length (qs.flatMap encP) := row0.kept hg (own_apart row0 PL (by decide))
  have fl : (qs.flatMap encP).set (m * 2 + 1) (.slice (some ⟨g1, 0, none⟩) (pl.length + 1) cap1) = (init ++ [((⟨pd, pl ++ [k]⟩ : Pt), ((some ⟨g1, 0, none⟩, pl.length + 1, cap1) : Pts))]).flatMap encP := by
    rw [hqs, List.flatMap_append, List.flatMap_append]
    have e : (init.flatMap encP).length = m * 2 := by rw [flat_len encP_len, hm]
    rw [List.set_append_right _ _ (by omega), e, show m * 2 + 1 - m * 2 = 1 by omega]
    rfl
  have row2 : (w1.setCell ⟨g, m * 2 + 1, none⟩ (.slice (some ⟨g1, 0, none⟩) (pl.length + 1) cap1)).ownsRow B 99 2 (.slice (some ⟨g, 0, none⟩) (m + 1) c0) (m + 1) ((init ++ [((⟨pd, pl ++ [k]⟩ : Pt), ((some ⟨g1, 0, none⟩, pl.length + 1, cap1) : Pts))]).flatMap encP) := by
    rw [hql] at row1
    have := (row1.stored (m * 2 + 1) (.slice (some ⟨g1, 0, none⟩) (pl.length + 1) cap1)).1
    rw [fl] at this
    exact this
  have ho' : w1.ownsRow B 3 1 (sv (some ⟨g1, 0, none⟩, pl.length + 1, cap1)) (pl ++ [k]).length ((pl ++ [k]).map (Value.int .i64)) := by simpa [sv] using ho
  have hset : ∀ u z, Pa B w1 u z → Pa B (w1.setCell ⟨g, m * 2 + 1, none⟩ (.slice (some ⟨g1, 0, none⟩) (pl.length + 1) cap1)) u z := fun u z hu => own_set hu (fun j hj e => by
    rcases own_apart hu row1 (by decide) with h1 | h1
    · rw [h1] at hj; cases hj
    · apply h1
      rw [hj]
      simp only at e
      rw [e]
      rfl) _
  have hinit : ∀ q ∈ init, Pa B w1 (sv q.2) q.1.a ∧ Far (sv q.2) (.slice pa pl.length pc) := fun q hq => by
    obtain ⟨i, hi, rfl⟩ := List.mem_iff_getElem.1 hq
    have hat : qs[i]? = some init[i] := by rw [hqs, List.getElem?_append_left hi]; exact List.getElem?_eq_getElem hi
    have hfar := h.2.2 i m _ _ (by omega) hat hatL
    have hfar' := h.2.2 m i _ _ (by omega) hatL hat
    exact ⟨Far.kept hfar' (own_below (h.2.1 _ (List.mem_of_getElem? hat)) BA) hg, hfar⟩
  have hnew : ∀ q ∈ init, Far (sv q.2) (sv (some ⟨g1, 0, none⟩, pl.length + 1, cap1)) := fun q hq b hb e => by
    simp [sv, Value.ownBlock] at e
    subst e
    rcases hl with h1 | h1
    · exact (hinit q hq).2 _ hb h1
    · have hq' : q ∈ qs := by rw [hqs]; exact List.mem_append_left _ hq
      have := (World.ownsRow.lt (h.2.1 q hq') _ hb).2
      omega
  have key : ∀ (i : Nat) (x : Pt × Pts), (init ++ [((⟨pd, pl ++ [k]⟩ : Pt), ((some ⟨g1, 0, none⟩, pl.length + 1, cap1) : Pts))])[i]? = some x → (i < m ∧ qs[i]? = some x ∧ x ∈ init) ∨ (i = m ∧ x = (⟨pd, pl ++ [k]⟩, (some ⟨g1, 0, none⟩, pl.length + 1, cap1))) := by
    intro i x hx
    rcases Nat.lt_or_ge i init.length with h1 | h1
    · rw [List.getElem?_append_left h1] at hx
      exact .inl ⟨by omega, by rw [hqs, List.getElem?_append_left h1]; exact hx, List.mem_of_getElem? hx⟩
    · rw [List.getElem?_append_right h1] at hx
      have hlt := (List.getElem?_eq_some_iff.1 hx).1
      simp at hlt
      have e : i - init.length = 0 := by omega
      rw [e] at hx
      simp at hx
      exact .inr ⟨by omega, hx.symm⟩
  refine ⟨(some ⟨g, 0, none⟩, m + 1, c0), init ++ [((⟨pd, pl ++ [k]⟩ : Pt), ((some ⟨g1, 0, none⟩, pl.length + 1, cap1) : Pts))], rfl, ⟨by simpa [sv, hm] using row2, fun q hq => ?_, fun i j x y hij hx hy => ?_⟩, ?_, fun j hj => ?_, ?_⟩
  · rcases List.mem_append.1 hq with hq | hq
    · exact hset _ _ (hinit q hq).1
    · simp only [List.mem_singleton] at hq
      subst hq
      exact hset _ _ ho'
  · rcases key i x hx with ⟨h1, h2, h3⟩ | ⟨h1, rfl⟩
    · rcases key j y hy with ⟨k1, k2, k3⟩ | ⟨k1, rfl⟩
      · exact h.2.2 i j x y hij h2 k2
      · exact hnew x h3
    · rcases key j y hy with ⟨k1, k2, k3⟩ | ⟨k1, rfl⟩
      · intro b hb e
        exact hnew y k3 b e hb
      · omega
  · rw [hqs, List.map_append, List.map_append]
    exact (S.behind_old (l := init.map (·.1)) (p := ⟨pd, pl⟩) (d := pd) (k := k) rfl).symm
  · rcases hj with hj | ⟨q, hq, hj⟩
    · exact .inl (.inl hj)
    · rcases List.mem_append.1 hq with hq | hq
      · exact .inl (.inr ⟨q, by rw [hqs]; exact List.mem_append_left _ hq, hj⟩)
      · simp only [List.mem_singleton] at hq
        subst hq
        simp [sv, Value.ownBlock] at hj
        subst hj
        rcases hl with h1 | h1
        · exact .inl (.inr ⟨_, hmemL, h1⟩)
        · exact .inr (by omega)
  · refine (Kept.of_below (below_trans' hW BA)).trans ((Kept.of hg fun j hj => .inr ⟨_, hmemL, hj⟩).trans (Kept.of (grown_set w1 ⟨g, m * 2 + 1, none⟩ _) fun j hj => .inl ?_))
    simp only [Option.some.injEq] at hj
    rw [← hj]
    rfl

set_option maxRecDepth 100000 in
set_option maxHeartbeats 4000000 in
theorem behind_any (s : Pts) (qs : List (Pt × Pts)) (d k : Int) (B : Nat) (w : World) (h : Own8 B w s qs) (hB : B ≤ w.heap.size) (hsz : qs.length ≤ 1000) (hsz2 : ∀ q ∈ qs, q.1.a.length ≤ 1000) :
    Calls Try.prog 67 #[sv s, .agg #[.int .i64 d, .int .i64 k]] w (BehEnd B w s qs d k) := by
  obtain ⟨i0, hi, hz0, hz1, hz2⟩ := info_parts Try.infoP
  obtain ⟨j0, hj, hj0, hj1, hj2⟩ := info_parts Try.info3
  obtain ⟨a0, n0, c0⟩ := s
  have hlen : n0 = qs.length := by
    rcases h.1.2 with ⟨e, h0⟩ | ⟨g, cap, cur, e, _⟩
    · simp [sv] at e; omega
    · simp [sv] at e; omega
  subst hlen
  have H := hide h
  show Calls Try.prog _ #[.slice a0 qs.length c0, .agg #[.int .i64 d, .int .i64 k]] w _
  rcases List.eq_nil_or_concat qs with rfl | ⟨init, p, hqs⟩
  · clear h
    go_enter Try.func67, Try.ntmps67
    go_wp2
    go_quiet (fail)
    obtain ⟨W, hW⟩ : ∃ W, W = (w.alloc (.cells #[.int .i64 d, .int .i64 k] 83)).drewN nq := ⟨_, rfl⟩
    have BW : Below w.heap.size w W := by rw [hW]; exact below_dr (below_alloc _ _) nq
    have y0 : W.cell? ⟨w.heap.size, 0, none⟩ = some (.int .i64 d) := by rw [hW]; simp
    have y1 : W.cell? ⟨w.heap.size, 1, none⟩ = some (.int .i64 k) := by rw [hW]; simp
    have OW := (unhide H).below BW
    have hWs := BW.size
    rw [← hW]
    clear hW
    have hrow := OW.1
    go_wp2_with (at_builtin; refine append_oneF rfl _ _ 77 rfl Try.underlying77 hi hz0 hz1 hz2 rfl (by decide) encP_len encP_one (pre := []) (v := .slice a0 0 c0) (⟨d, [k]⟩, (some ⟨W.heap.size, 0, none⟩, 1, 1)) rfl rfl rfl (by simp) (hrow.alloc _) (by simp; omega) (by simp) (by decide) ?_; intro g cap w1 O1 g1 l1)
    go_ret
    exact beh_new OW BW hB rfl O1 g1 (by simpa [sv] using l1)
  · obtain ⟨⟨pd, pl⟩, pa, pn, pc⟩ := p
    rw [List.concat_eq_append] at hqs
    obtain ⟨m, hm⟩ : ∃ m, init.length = m := ⟨_, rfl⟩
    have hql : qs.length = m + 1 := by rw [hqs]; simp [hm]
    have hat : qs[m]? = some (⟨pd, pl⟩, pa, pn, pc) := by rw [hqs, ← hm]; simp
    have hmem := List.mem_of_getElem? hat
    have hpn : pn = pl.length := own_n (h.2.1 _ hmem)
    subst hpn
    obtain ⟨g, cap, hv, hbg, hlg⟩ := h.1.form (by omega)
    have hcell0 : w.cell? ⟨g, m * 2, none⟩ = some (.int .i64 pd) := by
      have := h.1.cells (g := g) (by rw [hv]; rfl) (m * 2 + 0) _ (by rw [flat_at encP_len hat 0 (by decide)]; rfl)
      simpa [Addr.add_lit] using this
    have hcell1 : w.cell? ⟨g, m * 2 + 1, none⟩ = some (.slice pa pl.length pc) := by
      have := h.1.cells (g := g) (by rw [hv]; rfl) (m * 2 + 1) _ (by rw [flat_at encP_len hat 1 (by decide)]; rfl)
      simpa [Addr.add_lit, sv] using this
    have hpl := hsz2 _ hmem
    simp only [sv, Value.slice.injEq] at hv
    obtain ⟨rfl, -, rfl⟩ := hv
    have HQL := hide hql
    have HQS := hide hqs
    have hml : m ≤ 1000 := by omega
    show Calls Try.prog _ #[.slice (some ⟨g, 0, none⟩) qs.length c0, .agg #[.int .i64 d, .int .i64 k]] w _
    rw [hql]
    have hn0 : ((m : Int) + 1 == 0) = false := by simp; omega
    have hw0 : IntKind.i64.wrap (m : Int) = m := by simp [IntKind.wrap, IntKind.bits, IntKind.signed]; omega
    clear hqs h hat hmem hql
    by_cases hd : pd = d
    · have hq : (pd != d) = false := by simpa using hd
      have HD := hide hd
      clear hd
      go_enter Try.func67, Try.ntmps67
      go_wp2
      go_quiet (fail)
      obtain ⟨W, hW⟩ : ∃ W, W = (w.alloc (.cells #[.int .i64 d, .int .i64 k] 83)).drewN nq := ⟨_, rfl⟩
      have BW : Below w.heap.size w W := by rw [hW]; exact below_dr (below_alloc _ _) nq
      have y0 : W.cell? ⟨w.heap.size, 0, none⟩ = some (.int .i64 d) := by rw [hW]; simp
      have y1 : W.cell? ⟨w.heap.size, 1, none⟩ = some (.int .i64 k) := by rw [hW]; simp
      have OW := (unhide H).below BW
      have hWs := BW.size
      rw [← hW]
      clear hW
      have q0 : W.cell? ⟨g, m * 2 + 1, none⟩ = some (.slice pa pl.length pc) := cell_keep hcell1 BW
      have f0 : W.frozen? ⟨g, m * 2 + 1, none⟩ = false := by
        rw [BW.frozen (by omega)]
        exact (unhide H).1.frozenAt (m * 2 + 1)
      have PW : Pa B W (.slice pa pl.length pc) pl := OW.2.1 (⟨pd, pl⟩, pa, pl.length, pc) (by rw [unhide HQS]; simp)
      have hgW : g < W.heap.size := by omega
      have ne0 := World.new_ne W ⟨g, m * 2 + 1, none⟩ q0
      have ne1 := World.new_ne W ⟨w.heap.size, 1, none⟩ y1
      have hne : (Value.slice pa pl.length pc).ownBlock ≠ some g := by
        rcases own_apart PW OW.1 (by decide) with h1 | h1
        · rw [h1]; simp
        · exact h1
      clear hcell0 hcell1
      go_wp2
      go_region_law
        ((refine step_append_lies _ (by rfl) _ _ _ (by rfl) B 3 j0 _ 1 8 Try.underlying41 hj hj0 hj1 hj2 rfl (by omega) (.slice pa pl.length pc) _ _ (by rfl) ((World.ownsRow.alloc PW _).drew)
                  ⟨W.heap.size, 0, none⟩ 1 1 [.int .i64 k] (by rfl) (by rfl) (World.news_of_block (cs := #[.int .i64 k]) (t := 3) (fr := (0, 0)) (heap_alloc_new W _)) (by simp [Value.oneCell'])
                  (by omega) (by unfold maxLen; omega) (by omega) (by simp; omega) (W.heap.size + 1) (by simp) ?_; intro g1 cap1 w1 O1 g1' l1 lt1; have q1 := (g1'.cell_far ⟨g, m * 2 + 1, none⟩ (by simp; omega) (Ne.symm hne)).trans (cell_keep q0 (below_alloc W _).drew); have f1 := (g1'.frozen_far ⟨g, m * 2 + 1, none⟩ (by simp; omega) (Ne.symm hne)).trans (frozen_keep8 f0 (below_alloc W _).drew hgW)))
      all_goals
        go_wp2
        go_ret
        exact beh_old (W := W) (by rw [← unhide HQL]; exact OW) (unhide HQS) hm BW (unhide HD) O1 g1' l1
    · have hq : (pd != d) = true := by simpa using hd
      have HB : Hid (S.behind (qs.map (·.1)) d k = qs.map (·.1) ++ [⟨d, [k]⟩]) := by
        show _ = _
        rw [unhide HQS, List.map_append]
        exact S.behind_new hd
      go_enter Try.func67, Try.ntmps67
      go_wp2
      go_quiet (fail)
      obtain ⟨W, hW⟩ : ∃ W, W = (w.alloc (.cells #[.int .i64 d, .int .i64 k] 83)).drewN nq := ⟨_, rfl⟩
      have BW : Below w.heap.size w W := by rw [hW]; exact below_dr (below_alloc _ _) nq
      have y0 : W.cell? ⟨w.heap.size, 0, none⟩ = some (.int .i64 d) := by rw [hW]; simp
      have y1 : W.cell? ⟨w.heap.size, 1, none⟩ = some (.int .i64 k) := by rw [hW]; simp
      have OW := (unhide H).below BW
      have hWs := BW.size
      rw [← hW]
      clear hW
      have hrow := OW.1
      rw [show sv (some ⟨g, 0, none⟩, qs.length, c0) = .slice (some ⟨g, 0, none⟩) (m + 1) c0 by rw [unhide HQL]; rfl] at hrow
      go_wp2_with (at_builtin; refine append_oneF rfl _ _ 77 rfl Try.underlying77 hi hz0 hz1 hz2 rfl (by decide) encP_len encP_one (pre := qs) (v := .slice (some ⟨g, 0, none⟩) (m + 1) c0) (⟨d, [k]⟩, (some ⟨W.heap.size, 0, none⟩, 1, 1)) rfl rfl rfl (by simp) (hrow.alloc _) (by simp; omega) (by omega) (by decide) ?_; intro g1 cap1 w1 O1 g1' l1)
      go_ret
      have OW' : Own8 B W (some ⟨g, 0, none⟩, m + 1, c0) qs := by rw [← unhide HQL]; exact OW
      exact beh_new OW' BW hB (unhide HB) O1 g1' (by simpa [sv] using l1)
end Go.Proofs.Ytefnkbgkcjhkoaa
