/-
  Texts put together: InsB6, InsC6.
-/
import Derived.Test.YtefnkbgkcjhkoaaQ06
import Derived.Shelf.Spec.SlicesInsertGrow
import Derived.Test.YtefnkbgkcjhkoaaQ05
/-
  Laws of no program: copy at elements of several cells, a row of the call's own into which several cells are stored, a row that is taken longer.
-/
namespace Go.Proofs.Ytefnkbgkcjhkoaa
set_option maxRecDepth 100000
open Go.RowKit

theorem run_copy_k {P : Program} (w : World) (dT sT ty elem : TypeId) (b o dLen dCap : Nat) (a : Addr) (sLen sCap : Nat) (cs : List Value) (K m : Nat)
    (hu : P.underlying dT = some (.slice elem)) (hs : (P.info? elem).map (·.size) = some K) (hm : Nat.min sLen dLen = m) (hn : cs.length = m * K)
    (hsrc : ∀ j v, cs[j]? = some v → w.cell? (a.add j) = some v) (hc : ∀ j, j < cs.length → (w.cell? ⟨b, o + j, none⟩).isSome = true) (hf : ∀ j, j < cs.length → w.frozen? ⟨b, o + j, none⟩ = false) (h1 : ∀ v ∈ cs, v.oneCell' = true) :
    (Builtin.copy_ #[dT, sT] ty #[.slice (some ⟨b, o, none⟩) dLen dCap, .slice (some a) sLen sCap]).run P w = .ok (goInt m) (w.setCells b o cs) := by
  have hl := run_loadCells_list (P := P) w a cs hsrc
  have hst := run_storeCells_cells (P := P) b o cs 0 w (by simpa using hc) (by simpa using hf) h1
  cases hq : P.info? elem with
  | none => simp [hq] at hs
  | some i =>
    have hi : i.size = K := by simpa [hq] using hs
    simp [Builtin.copy_, run_underlying hu, Builtin.lenOf, Builtin.firstCells, sizeOf, typeInfo, hq, hi, hm, ← hn, hl, hst]

theorem own_setCells {B : Nat} {e : TypeId} {K g n cap : Nat} : ∀ (vs : List Value) (o : Nat) (w : World) (xs : List Value), w.ownsRow B e K (.slice (some ⟨g, 0, none⟩) n cap) n xs → o + vs.length ≤ xs.length →
    (w.setCells g o vs).ownsRow B e K (.slice (some ⟨g, 0, none⟩) n cap) n (xs.take o ++ vs ++ xs.drop (o + vs.length))
  | [], o, w, xs, h, _ => by simpa [World.setCells] using h
  | v :: r, o, w, xs, h, hl => by
    have h1 := (h.stored o v).1
    simp only [List.length_cons] at hl
    have h2 := own_setCells r (o + 1) _ _ h1 (by rw [List.length_set]; omega)
    rw [World.setCells]
    have e1 : (xs.set o v).take (o + 1) = xs.take o ++ [v] := by
      rw [List.take_succ_eq_append_getElem (by rw [List.length_set]; omega), List.take_set_of_le (Nat.le_refl _)]
      simp
    have e2 : (xs.set o v).drop (o + 1 + r.length) = xs.drop (o + (v :: r).length) := by
      rw [List.drop_set_of_lt (by omega)]
      congr 1
      simp only [List.length_cons]
      omega
    rw [e1, e2] at h2
    simpa using h2

theorem grown_setCells (g : Nat) : ∀ (vs : List Value) (o : Nat) (w : World), w.grownBy (w.setCells g o vs) (some g)
  | [], _, _ => ⟨rfl, rfl, rfl, Nat.le_refl _, fun _ _ _ => rfl⟩
  | v :: r, o, w => (grown_set w ⟨g, o, none⟩ v).trans (grown_setCells g r (o + 1) _)

theorem setCells_size (g : Nat) : ∀ (vs : List Value) (o : Nat) (w : World), (w.setCells g o vs).heap.size = w.heap.size
  | [], _, _ => rfl
  | v :: r, o, w => by
    rw [World.setCells, setCells_size g r]
    simp [World.setCell]

/-- The same row, one element longer, where there is room. -/
theorem own_more {w : World} {B : Nat} {e : TypeId} {K g n cap : Nat} {xs : List Value} (h : w.ownsRow B e K (.slice (some ⟨g, 0, none⟩) n cap) n xs) (hr : n + 1 ≤ cap) :
    ∃ ex : List Value, ex.length = K ∧ w.ownsRow B e K (.slice (some ⟨g, 0, none⟩) (n + 1) cap) (n + 1) (xs ++ ex) := by
  obtain ⟨hl, h2⟩ := h
  rcases h2 with ⟨h', _⟩ | ⟨g', cap', cur, h', hb, hg, hnc, hcm, hcs, htake⟩
  · simp at h'
  · simp only [Value.slice.injEq, Option.some.injEq, Addr.mk.injEq, and_true, true_and] at h'
    obtain ⟨rfl, rfl⟩ := h'
    have hle : (n + 1) * K ≤ cap * K := Nat.mul_le_mul_right K hr
    have e1 : (n + 1) * K = n * K + K := by rw [Nat.add_mul, Nat.one_mul]
    refine ⟨(cur.toList.drop (n * K)).take K, by simp; omega, ?_, .inr ⟨g, cap, cur, rfl, hb, hg, hr, hcm, hcs, ?_⟩⟩
    · simp [hl, e1]; omega
    · rw [e1, List.take_add, htake]

/-- A row as it was laid: its cells can be stored into. -/
theorem own_room {w : World} {B : Nat} {e : TypeId} {K g n cap : Nat} {xs : List Value} (h : w.ownsRow B e K (.slice (some ⟨g, 0, none⟩) n cap) n xs) :
    (∀ j, j < n * K → (w.cell? ⟨g, j, none⟩).isSome = true) ∧ (∀ j, w.frozen? ⟨g, j, none⟩ = false) ∧ (∀ j u, xs[j]? = some u → w.cell? ⟨g, j, none⟩ = some u) ∧ w.shape? g = some (e, cap * K) := by
  have hcell := h.cells (g := g) rfl
  obtain ⟨hl, h2⟩ := h
  rcases h2 with ⟨h', _⟩ | ⟨g', cap', cur, h', hb, hg, hnc, hcm, hcs, htake⟩
  · simp at h'
  · simp only [Value.slice.injEq, Option.some.injEq, Addr.mk.injEq, and_true, true_and] at h'
    obtain ⟨rfl, rfl⟩ := h'
    refine ⟨fun j hj => ?_, fun j => ?_, fun j u hu => ?_, ?_⟩
    · have := hcell j (xs[j]'(by omega)) (List.getElem?_eq_getElem (by omega))
      rw [Addr.add_lit, Nat.zero_add] at this
      rw [this]; rfl
    · simp [World.frozen?, hg]
    · have := hcell j u hu
      rwa [Addr.add_lit, Nat.zero_add] at this
    · simp [World.shape?, hg, hcs]

theorem own_len {w : World} {B : Nat} {e : TypeId} {K n : Nat} {v : Value} {xs : List Value} (h : w.ownsRow B e K v n xs) : xs.length = n * K := h.1

theorem own_form {w : World} {B : Nat} {e : TypeId} {K n : Nat} {v : Value} {xs : List Value} (h : w.ownsRow B e K v n xs) : (v = .slice none 0 0 ∧ n = 0) ∨ ∃ g cap, v = .slice (some ⟨g, 0, none⟩) n cap ∧ n ≤ cap ∧ cap ≤ 9223372036854775807 ∧ g < w.heap.size ∧ B ≤ g := by
  rcases h.2 with h' | ⟨g, cap, cur, rfl, hb, hg, hnc, hcm, hcs, htake⟩
  · exact .inl h'
  · exact .inr ⟨g, cap, rfl, hnc, by unfold maxLen at hcm; omega, (Array.getElem?_eq_some_iff.1 hg).1, hb⟩
end Go.Proofs.Ytefnkbgkcjhkoaa

/-
  The contract of slices.Insert of one element at cards, into a row of the call's own: at the end, where there is room, and where there is none.
-/
namespace Go.Proofs.Ytefnkbgkcjhkoaa
set_option maxRecDepth 100000
open Go.RowKit

theorem Try.infoAtC : (Try.prog.info? 30).map (fun i => (i.zero, i.size, i.bytes)) = some (some (.agg #[.string ⟨#[]⟩, .int .i64 0, .slice none 0 0]), 3, 48) := by kernel_rfl
theorem Try.sizeAtC : (Try.prog.info? 30).map (·.size) = some 3 := by kernel_rfl

theorem run_fromC (a : Option Addr) (n cap m : Nat) (hm : m ≤ n) (w : World) :
    (Instr.slice 22 (.slice a n cap) (some (.int .i64 m)) none none).run Try.prog w = .ok (sliced a m n cap 3) w := by
  have hs : ∀ w : World, (sizeOf (Try.prog.elem 22)).run Try.prog w = .ok 3 w := fun w => by kernel_rfl
  rw [run_slice_l w 22 _ n cap (by kernel_rfl) .i64 m (by omega) (by omega), hs]
  simp [Result.andThen]

theorem run_toC (a : Option Addr) (n cap : Nat) (x : Int) (m : Nat) (hx : x = m) (hm : m ≤ cap) (w : World) :
    (Instr.slice 22 (.slice a n cap) none (some (.int .i64 x)) none).run Try.prog w = .ok (sliced a 0 m cap 3) w := by
  subst hx
  have hs : ∀ w : World, (sizeOf (Try.prog.elem 22)).run Try.prog w = .ok 3 w := fun w => by kernel_rfl
  rw [run_slice_h w 22 _ n cap (by kernel_rfl) .i64 m (by omega) (by omega), hs]
  simp [Result.andThen]

theorem run_from'C (g off n cap m : Nat) (x : Int) (hx : x = m) (hm : m ≤ n) (hc : m < cap) (w : World) :
    (Instr.slice 22 (.slice (some ⟨g, off, none⟩) n cap) (some (.int .i64 x)) none none).run Try.prog w = .ok (.slice (some ⟨g, off + m * 3, none⟩) (n - m) (cap - m)) w := by
  subst hx
  rw [run_fromC _ _ _ _ hm]
  have hne : ¬ cap = m := by omega
  simp [sliced, hne, Addr.add_lit]

set_option maxHeartbeats 2000000 in
theorem ins_endC (v : Value) (n : Nat) (cs es : List Value) (vb : Nat) (w : World) (B : Nat) (ho : w.ownsRow B 30 3 v n cs) (hv : ∀ j u, es[j]? = some u → w.cell? ⟨vb, j, none⟩ = some u) (hel : es.length = 3)
    (h1e : ∀ u ∈ es, u.oneCell' = true) (hB : B ≤ w.heap.size) (hn : n ≤ 1000000) :
    Calls Try.prog 36 #[v, .int .i64 n, .slice (some ⟨vb, 0, none⟩) 1 1] w fun e w' => ∃ v', e = .returned v' ∧ w'.ownsRow B 30 3 v' (n + 1) (cs ++ es) ∧ w.grownBy w' v.ownBlock := by
  obtain ⟨i0, hi, hz0, hz1, hz2⟩ := info_parts Try.infoAtC
  obtain ⟨a, cap, hva, hnc, hcm⟩ : ∃ a cap, v = .slice a n cap ∧ n ≤ cap ∧ cap ≤ 9223372036854775807 := by
    rcases own_form ho with ⟨rfl, rfl⟩ | ⟨g, cap, rfl, h1, h2, -⟩
    · exact ⟨none, 0, rfl, Nat.le_refl _, by omega⟩
    · exact ⟨_, cap, rfl, h1, h2⟩
  subst hva
  have R1 := run_fromC a n cap n (Nat.le_refl _)
  obtain ⟨sv, hsv⟩ : ∃ sv, sv = sliced a n n cap 3 := ⟨_, rfl⟩
  rw [← hsv] at R1
  have A := hide hv
  clear hsv hv
  go_enter Try.func36, Try.ntmps36
  go_wp2_with (at_builtin; refine wpList_append_own _ rfl _ _ 22 rfl B 30 i0 _ 3 48 Try.underlying22 hi hz0 hz1 hz2 rfl (by decide) _ n cs rfl ho ⟨vb, 0, none⟩ 1 1 es rfl ?q1 ?q2 h1e ?q3 ?q4 hB ?q5)
  case q1 => rw [hel]
  case q2 =>
    intro j u hj
    rw [Addr.add_lit, Nat.zero_add]
    exact unhide A j u hj
  case q3 => unfold maxLen; omega
  case q4 => omega
  intro v' w' O G _
  go_wp2
  go_ret
  exact ⟨_, rfl, O, G⟩

set_option maxHeartbeats 4000000 in
set_option maxRecDepth 100000 in
theorem ins_roomC (g cap n i : Nat) (cs es : List Value) (vb : Nat) (w : World) (B : Nat) (ho : w.ownsRow B 30 3 (.slice (some ⟨g, 0, none⟩) n cap) n cs) (hv : w.heap[vb]? = some (.cells es.toArray 30 (0, 0))) (hel : es.length = 3)
    (h1c : ∀ u ∈ cs, u.oneCell' = true) (h1e : ∀ u ∈ es, u.oneCell' = true) (hne : vb ≠ g) (hi : i < n) (hr : n + 1 ≤ cap) (hcm : cap ≤ 9223372036854775807) :
    Calls Try.prog 36 #[.slice (some ⟨g, 0, none⟩) n cap, .int .i64 i, .slice (some ⟨vb, 0, none⟩) 1 1] w fun e w' => ∃ v', e = .returned v' ∧ w'.ownsRow B 30 3 v' (n + 1) (cs.take (i * 3) ++ es ++ cs.drop (i * 3)) ∧ w.grownBy w' (some g) := by
  obtain ⟨ex, hex, om⟩ := own_more ho hr
  have hcl := own_len ho
  obtain ⟨m1, m2, m3, m4⟩ := own_room om
  have hz1 : ¬ ((1 : Int) = 0) := by omega
  have hz2 : ¬ ((i : Int) = (n : Int)) := by omega
  have hvc : ∀ (W : World), W.heap[vb]? = some (.cells es.toArray 30 (0, 0)) → ∀ j u, es[j]? = some u → W.cell? ⟨vb, j, none⟩ = some u := by
    intro W hW j u hj
    simp [World.cell?, hW, hj]
  have hov : ∀ lb cb, (callFunc 52 #[.slice (some ⟨vb, 0, none⟩) 1 1, .slice (some ⟨g, 0 + (i + 1) * 3, none⟩) lb cb]).run Try.prog w = .ok (.value (.bool false)) w := fun lb cb => by
    rw [run_callFunc_extern Try.func52 (by kernel_rfl) (by kernel_rfl) (by kernel_rfl) (e := Extern.SlicesOverlaps.overlaps #[22, 22] #[4]) (by kernel_rfl),
      Lib.run_overlaps_apart w 22 4 30 Try.underlying22 3 (fun w => by kernel_rfl) ⟨vb, 0, none⟩ ⟨g, 0 + (i + 1) * 3, none⟩ 1 1 lb cb hne 30 30 3 (cap * 3) (by simp [World.shape?, hv, hel]) m4 (by omega) (by simp [World.frozen?, hv]) (by simp [World.frozen?, hv])]
    rfl
  have hcl' : cs.length = n * 3 := hcl
  have hdl : (cs.drop (i * 3)).length = (n - i) * 3 := by rw [List.length_drop, hcl, Nat.sub_mul]
  have hbd : (i + 1) * 3 + (n - i) * 3 = (n + 1) * 3 := by rw [← Nat.add_mul]; congr 1; omega
  have hik : i * 3 + 3 ≤ (n + 1) * 3 := by omega
  have R0 := run_from'C g 0 n cap i i rfl (by omega) (by omega)
  have R1 := run_toC (some ⟨g, 0, none⟩) n cap ((n : Int) + 1) (n + 1) (by omega) hr
  have S1 : sliced (some ⟨g, 0, none⟩) 0 (n + 1) cap 3 = .slice (some ⟨g, 0, none⟩) (n + 1) cap := by
    have : ¬ (cap = 0) := by omega
    simp [sliced, this, Addr.add_lit]
  rw [S1] at R1
  have R2 := run_from'C g 0 (n + 1) cap (i + 1) ((i : Int) + 1) (by omega) (by omega) (by omega)
  have R3 := run_from'C g 0 (n + 1) cap i i rfl (by omega) (by omega)
  have hcp1 : ∀ ty, (Builtin.copy_ #[22, 22] ty #[.slice (some ⟨g, 0 + (i + 1) * 3, none⟩) (n + 1 - (i + 1)) (cap - (i + 1)), .slice (some ⟨g, 0 + i * 3, none⟩) (n + 1 - i) (cap - i)]).run Try.prog w.drew = .ok (goInt ((n - i : Nat) : Int)) (w.drew.setCells g (0 + (i + 1) * 3) (cs.drop (i * 3))) := fun ty =>
    run_copy_k w.drew 22 22 ty 30 g (0 + (i + 1) * 3) (n + 1 - (i + 1)) (cap - (i + 1)) ⟨g, 0 + i * 3, none⟩ (n + 1 - i) (cap - i) (cs.drop (i * 3)) 3 (n - i) Try.underlying22 Try.sizeAtC (by simp only [Nat.min_def]; split <;> omega) hdl
      (fun j u hj => by
        rw [Addr.add_lit, Nat.zero_add]
        rw [List.getElem?_drop] at hj
        exact m3 _ u (by rw [List.getElem?_append_left (by have := (List.getElem?_eq_some_iff.1 hj).1; omega)]; exact hj))
      (fun j hj => m1 _ (by rw [hdl] at hj; omega)) (fun j _ => m2 _) (fun u hu => h1c u (List.mem_of_mem_drop hu))
  obtain ⟨W1, hW1⟩ : ∃ W1, W1 = w.drew.setCells g (0 + (i + 1) * 3) (cs.drop (i * 3)) := ⟨_, rfl⟩
  have omd : w.drew.ownsRow B 30 3 (.slice (some ⟨g, 0, none⟩) (n + 1) cap) (n + 1) (cs ++ ex) := om
  have o1 := own_setCells (cs.drop (i * 3)) (0 + (i + 1) * 3) w.drew (cs ++ ex) omd (by rw [hdl, List.length_append, hcl, hex]; omega)
  have g1 : w.grownBy W1 (some g) := by
    rw [hW1]
    have := grown_setCells g (cs.drop (i * 3)) (0 + (i + 1) * 3) w.drew
    exact ⟨this.os, this.tape, this.output, this.size, this.block⟩
  rw [← hW1] at hcp1 o1
  obtain ⟨k1, k2, -, -⟩ := own_room o1
  have hv1 : W1.heap[vb]? = some (.cells es.toArray 30 (0, 0)) := by
    rw [g1.block vb (Array.getElem?_eq_some_iff.1 hv).1 (by simpa using hne)]
    exact hv
  have hcp2 : ∀ ty, (Builtin.copy_ #[22, 22] ty #[.slice (some ⟨g, 0 + i * 3, none⟩) (n + 1 - i) (cap - i), .slice (some ⟨vb, 0, none⟩) 1 1]).run Try.prog W1 = .ok (goInt 1) (W1.setCells g (0 + i * 3) es) := fun ty =>
    run_copy_k W1 22 22 ty 30 g (0 + i * 3) (n + 1 - i) (cap - i) ⟨vb, 0, none⟩ 1 1 es 3 1 Try.underlying22 Try.sizeAtC (by simp only [Nat.min_def]; split <;> omega) (by rw [hel])
      (fun j u hj => by rw [Addr.add_lit, Nat.zero_add]; exact hvc W1 hv1 j u hj)
      (fun j hj => k1 _ (by rw [hel] at hj; omega)) (fun j _ => k2 _) h1e
  have o2 := own_setCells es (0 + i * 3) W1 _ o1 (by simp only [List.length_append, List.length_take, List.length_drop, hdl, hcl, hex, hel]; omega)
  have g2 := g1.trans (grown_setCells g es (0 + i * 3) W1)
  obtain ⟨W2, hW2⟩ : ∃ W2, W2 = W1.setCells g (0 + i * 3) es := ⟨_, rfl⟩
  rw [← hW2] at hcp2 o2 g2
  have hxs : ((cs ++ ex).take (0 + (i + 1) * 3) ++ cs.drop (i * 3) ++ (cs ++ ex).drop (0 + (i + 1) * 3 + (cs.drop (i * 3)).length)).take (0 + i * 3) ++ es ++
      ((cs ++ ex).take (0 + (i + 1) * 3) ++ cs.drop (i * 3) ++ (cs ++ ex).drop (0 + (i + 1) * 3 + (cs.drop (i * 3)).length)).drop (0 + i * 3 + es.length) = cs.take (i * 3) ++ es ++ cs.drop (i * 3) := by
    have hlx : (cs ++ ex).length = (n + 1) * 3 := by rw [List.length_append, hcl, hex]; omega
    have hd0 : (cs ++ ex).drop (0 + (i + 1) * 3 + (cs.drop (i * 3)).length) = [] := List.drop_eq_nil_of_le (by rw [hdl, hlx]; omega)
    have ht0 : ((cs ++ ex).take (0 + (i + 1) * 3)).length = (i + 1) * 3 := by rw [List.length_take, hlx]; omega
    rw [hd0, List.append_nil, hel, List.take_append_of_le_length (by rw [ht0]; omega), List.take_take, List.drop_append_of_le_length (by rw [ht0]; omega), List.drop_eq_nil_of_le (by rw [ht0]; omega), List.nil_append,
      List.take_append_of_le_length (by rw [hcl]; omega), Nat.zero_add, Nat.min_eq_left (by omega)]
  rw [hxs] at o2
  obtain ⟨s1, hs1⟩ : ∃ s1, s1 = Value.slice (some ⟨g, 0 + (i + 1) * 3, none⟩) (n + 1 - (i + 1)) (cap - (i + 1)) := ⟨_, rfl⟩
  obtain ⟨s2, hs2⟩ : ∃ s2, s2 = Value.slice (some ⟨g, 0 + i * 3, none⟩) (n + 1 - i) (cap - i) := ⟨_, rfl⟩
  obtain ⟨s0, hs0⟩ : ∃ s0, s0 = Value.slice (some ⟨g, 0 + i * 3, none⟩) (n - i) (cap - i) := ⟨_, rfl⟩
  have HOV := hov (n + 1 - (i + 1)) (cap - (i + 1))
  rw [← hs1] at HOV R2 hcp1
  rw [← hs2] at R3 hcp1 hcp2
  rw [← hs0] at R0
  have O2 := hide o2
  have G2 := hide g2
  have C1 := hide hcp1
  have hw1 : IntKind.i64.wrap ((i : Int) + 1) = (i : Int) + 1 := by rw [IntKind.wrap_i64]; omega
  have hcn : ¬ ((cap : Int) < (n : Int) + 1) := by omega
  clear hov m1 m2 m3 m4 hvc ho om hcl hcl' hdl hbd hik S1 hcp1 omd o1 k1 k2 g1 hv1 o2 g2 hxs hs1 hs2 hs0 hW1 hW2 hv h1c h1e hel hex
  go_enter Try.func36, Try.ntmps36
  go_wp2_with (simp only [HOV])
  go_region_law (refine step_copy_runI rfl _ _ 22 22 rfl s1 s2 (by simp [Act.eval, Act.put]) (by simp [Act.eval, Act.put]) (unhide C1 _) ?_)
  go_wp2
  go_ret
  exact ⟨_, rfl, unhide O2, unhide G2⟩

set_option maxHeartbeats 4000000 in
set_option maxRecDepth 100000 in
theorem ins_growC (g cap n i : Nat) (cs es : List Value) (vb : Nat) (w : World) (B : Nat) (ho : w.ownsRow B 30 3 (.slice (some ⟨g, 0, none⟩) n cap) n cs) (hv : w.heap[vb]? = some (.cells es.toArray 30 (0, 0))) (hel : es.length = 3)
    (h1c : ∀ u ∈ cs, u.oneCell' = true) (h1e : ∀ u ∈ es, u.oneCell' = true) (hB : B ≤ w.heap.size) (hi : i < n) (hnc : n ≤ cap) (hr : cap < n + 1) (hn : n ≤ 1000000) :
    Calls Try.prog 36 #[.slice (some ⟨g, 0, none⟩) n cap, .int .i64 i, .slice (some ⟨vb, 0, none⟩) 1 1] w fun e w' => ∃ v', e = .returned v' ∧ w'.ownsRow B 30 3 v' (n + 1) (cs.take (i * 3) ++ es ++ cs.drop (i * 3)) ∧ w.grownBy w' (some g) := by
  obtain ⟨i0, hi0, hz0, hz1, hz2⟩ := info_parts Try.infoAtC
  have hcl := own_len ho
  obtain ⟨m1, m2, m3, m4⟩ := own_room ho
  have hgw : g < w.heap.size := by
    have := m1 0 (by omega)
    obtain ⟨u, hu⟩ := Option.isSome_iff_exists.1 this
    exact World.block_lt_of_cell? w _ hu
  have hvw : vb < w.heap.size := (Array.getElem?_eq_some_iff.1 hv).1
  have hq1 : ¬ ((1 : Int) = 0) := by omega
  have hq2 : ¬ ((i : Int) = (n : Int)) := by omega
  have hq3 : (cap : Int) < (n : Int) + 1 := by omega
  have hvc : ∀ (W : World), W.heap[vb]? = some (.cells es.toArray 30 (0, 0)) → ∀ j u, es[j]? = some u → W.cell? ⟨vb, j, none⟩ = some u := by
    intro W hW j u hj
    simp [World.cell?, hW, hj]
  have hkk : (n : Int) + 1 - (i : Int) = ((n + 1 - i : Nat) : Int) := by omega
  have hik : i + (n + 1 - i) = n + 1 := by omega
  have hold : (Builtin.firstCells i0.size i (.slice (some ⟨g, 0, none⟩) i cap)).run Try.prog w.drew = .ok (cs.take (i * 3)).toArray w.drew := by
    rw [hz1]
    exact run_firstCells_some w.drew 3 i ⟨g, 0, none⟩ i cap (cs.take (i * 3)) (by rw [List.length_take]; omega) (fun j u hj => by
      rw [Addr.add_lit, Nat.zero_add]
      rw [List.getElem?_take] at hj
      split at hj
      · exact m3 j u hj
      · cases hj)
  obtain ⟨G, hG⟩ : ∃ G, G = grownCap w (n + 1) cap 30 := ⟨_, rfl⟩
  obtain ⟨ROW, hROW⟩ : ∃ ROW : Array Value, ROW = (cs.take (i * 3)).toArray ++ Builtin.zeroCells (.agg #[.string ⟨#[]⟩, .int .i64 0, .slice none 0 0] : Value).cells (n + 1 - i) ++ Builtin.zeroCells (.agg #[.string ⟨#[]⟩, .int .i64 0, .slice none 0 0] : Value).cells (G - (n + 1)) := ⟨_, rfl⟩
  have hrz : ∀ ty, (Builtin.append_ #[22, 3] ty #[.slice (some ⟨g, 0, none⟩) i cap, .int .i64 ((n : Int) + 1 - (i : Int))]).run Try.prog w =
      .ok (.slice (some ⟨w.heap.size, 0, none⟩) (n + 1) G) (w.drew.alloc (.cells ROW 30)) := fun ty => by
    have h := Lib.run_append_grow_zeros w 22 3 ty 30 i0 _ .i64 .i64 Try.underlying22 Try.underlying3 hi0 hz0 (some ⟨g, 0, none⟩) i cap (cs.take (i * 3)) hold (n + 1 - i) (by omega) (by omega) (by omega) (by omega) (by rw [hz2]; omega) (by rw [hz2, hik]; exact growslice_fits hr (by omega))
    rw [hik] at h
    rw [hkk, hROW, hG]
    exact h
  have hGn : n + 1 ≤ G := by rw [hG]; exact grownCap_ge w _ _ _
  have hG63 : G ≤ maxLen := by
    rw [hG]
    exact grownCap_le_maxLen w (n + 1) cap 30 (by unfold maxLen; omega)
  have hRs : ROW.size = G * 3 := by
    rw [hROW]
    simp [Builtin.zeroCells, Value.cells, hcl]
    omega
  have hRt : ROW.toList.take (i * 3) = cs.take (i * 3) := by
    rw [hROW, Array.toList_append, Array.toList_append, List.append_assoc, List.take_append_of_le_length (by simp [hcl]; omega)]
    simp only [List.take_take, Nat.min_self]
  obtain ⟨W1, hW1⟩ : ∃ W1, W1 = w.drew.alloc (.cells ROW 30) := ⟨_, rfl⟩
  have b1 : Below w.heap.size w W1 := by
    rw [hW1]
    have := below_alloc w.drew (.cells ROW 30)
    exact ⟨this.os, this.tape, this.output, this.size, this.block⟩
  obtain ⟨xs, hxs⟩ : ∃ xs, xs = ROW.toList.take ((n + 1) * 3) := ⟨_, rfl⟩
  have hGK : (n + 1) * 3 ≤ G * 3 := Nat.mul_le_mul_right _ hGn
  have hxl : xs.length = (n + 1) * 3 := by rw [hxs, List.length_take, Array.length_toList, hRs]; omega
  have hxt : xs.take (i * 3) = cs.take (i * 3) := by rw [hxs, List.take_take, Nat.min_eq_left (by omega), hRt]
  have o1 : W1.ownsRow w.heap.size 30 3 (.slice (some ⟨w.heap.size, 0, none⟩) (n + 1) G) (n + 1) xs :=
    ⟨hxl, .inr ⟨w.heap.size, G, ROW, rfl, Nat.le_refl _, by rw [hW1]; exact heap_alloc_new w.drew _, hGn, hG63, hRs, hxs.symm⟩⟩
  rw [← hW1] at hrz
  obtain ⟨k1, k2, -, -⟩ := own_room o1
  have hv1 : W1.heap[vb]? = some (.cells es.toArray 30 (0, 0)) := by rw [b1.block vb hvw]; exact hv
  have hcpA : ∀ ty, (Builtin.copy_ #[22, 22] ty #[.slice (some ⟨w.heap.size, 0 + i * 3, none⟩) (n + 1 - i) (G - i), .slice (some ⟨vb, 0, none⟩) 1 1]).run Try.prog W1 = .ok (goInt 1) (W1.setCells w.heap.size (0 + i * 3) es) := fun ty =>
    run_copy_k W1 22 22 ty 30 w.heap.size (0 + i * 3) (n + 1 - i) (G - i) ⟨vb, 0, none⟩ 1 1 es 3 1 Try.underlying22 Try.sizeAtC (by simp only [Nat.min_def]; split <;> omega) (by rw [hel])
      (fun j u hj => by rw [Addr.add_lit, Nat.zero_add]; exact hvc W1 hv1 j u hj)
      (fun j hj => k1 _ (by rw [hel] at hj; omega)) (fun j _ => k2 _) h1e
  have o2 := own_setCells es (0 + i * 3) W1 xs o1 (by rw [hxl, hel]; omega)
  obtain ⟨W2, hW2⟩ : ∃ W2, W2 = W1.setCells w.heap.size (0 + i * 3) es := ⟨_, rfl⟩
  have b2 : Below w.heap.size w W2 := by rw [hW2]; exact b1.grown (grown_setCells _ _ _ _) b1.size (fun k hk => by simp at hk; omega)
  rw [← hW2] at hcpA o2
  have o2d : W2.drew.ownsRow w.heap.size 30 3 (.slice (some ⟨w.heap.size, 0, none⟩) (n + 1) G) (n + 1) (xs.take (0 + i * 3) ++ es ++ xs.drop (0 + i * 3 + es.length)) := o2
  obtain ⟨l1, l2, -, -⟩ := own_room o2d
  have hdl : (cs.drop (i * 3)).length = (n - i) * 3 := by rw [List.length_drop, hcl, Nat.sub_mul]
  have hbd : (i + 1) * 3 + (n - i) * 3 = (n + 1) * 3 := by rw [← Nat.add_mul]; congr 1; omega
  have hold2 : ∀ j u, cs[j]? = some u → W2.drew.cell? ⟨g, j, none⟩ = some u := fun j u hj => (b2.cell (p := ⟨g, j, none⟩) hgw).trans (m3 j u hj)
  have hcpB : ∀ ty, (Builtin.copy_ #[22, 22] ty #[.slice (some ⟨w.heap.size, 0 + (i + 1) * 3, none⟩) (n + 1 - (i + 1)) (G - (i + 1)), .slice (some ⟨g, 0 + i * 3, none⟩) (n - i) (cap - i)]).run Try.prog W2.drew = .ok (goInt ((n - i : Nat) : Int)) (W2.drew.setCells w.heap.size (0 + (i + 1) * 3) (cs.drop (i * 3))) := fun ty =>
    run_copy_k W2.drew 22 22 ty 30 w.heap.size (0 + (i + 1) * 3) (n + 1 - (i + 1)) (G - (i + 1)) ⟨g, 0 + i * 3, none⟩ (n - i) (cap - i) (cs.drop (i * 3)) 3 (n - i) Try.underlying22 Try.sizeAtC (by simp only [Nat.min_def]; split <;> omega) hdl
      (fun j u hj => by
        rw [Addr.add_lit, Nat.zero_add]
        rw [List.getElem?_drop] at hj
        exact hold2 _ u hj)
      (fun j hj => l1 _ (by rw [hdl] at hj; omega)) (fun j _ => l2 _) (fun u hu => h1c u (List.mem_of_mem_drop hu))
  have hyl : (xs.take (0 + i * 3) ++ es ++ xs.drop (0 + i * 3 + es.length)).length = (n + 1) * 3 := by simp only [List.length_append, List.length_take, List.length_drop, hxl, hel]; omega
  have o3 := own_setCells (cs.drop (i * 3)) (0 + (i + 1) * 3) W2.drew _ o2d (by rw [hyl, hdl]; omega)
  obtain ⟨W3, hW3⟩ : ∃ W3, W3 = W2.drew.setCells w.heap.size (0 + (i + 1) * 3) (cs.drop (i * 3)) := ⟨_, rfl⟩
  have b3 : Below w.heap.size w W3 := by rw [hW3]; exact b2.drew.grown (grown_setCells _ _ _ _) b2.size (fun k hk => by simp at hk; omega)
  rw [← hW3] at hcpB o3
  have hfin : (xs.take (0 + i * 3) ++ es ++ xs.drop (0 + i * 3 + es.length)).take (0 + (i + 1) * 3) ++ cs.drop (i * 3) ++ (xs.take (0 + i * 3) ++ es ++ xs.drop (0 + i * 3 + es.length)).drop (0 + (i + 1) * 3 + (cs.drop (i * 3)).length) = cs.take (i * 3) ++ es ++ cs.drop (i * 3) := by
    have ht : (xs.take (0 + i * 3) ++ es).length = 0 + (i + 1) * 3 := by simp only [List.length_append, List.length_take, hxl, hel]; omega
    have h1 : (xs.take (0 + i * 3) ++ es ++ xs.drop (0 + i * 3 + es.length)).drop (0 + (i + 1) * 3 + (cs.drop (i * 3)).length) = [] := List.drop_eq_nil_of_le (by rw [hyl, hdl]; omega)
    have h2 : (xs.take (0 + i * 3) ++ es ++ xs.drop (0 + i * 3 + es.length)).take (0 + (i + 1) * 3) = xs.take (0 + i * 3) ++ es := by
      rw [← ht]
      exact List.take_left
    rw [h1, h2, List.append_nil, Nat.zero_add, hxt]
  rw [hfin] at o3
  have R0 := run_from'C g 0 n cap i i rfl (by omega) (by omega)
  have R1 := run_toC (some ⟨g, 0, none⟩) n cap i i rfl (by omega)
  have S1 : sliced (some ⟨g, 0, none⟩) 0 i cap 3 = .slice (some ⟨g, 0, none⟩) i cap := by
    have : ¬ (cap = 0) := by omega
    simp [sliced, this, Addr.add_lit]
  rw [S1] at R1
  have R2 := run_from'C w.heap.size 0 (n + 1) G i i rfl (by omega) (by omega)
  have R3 := run_from'C w.heap.size 0 (n + 1) G (i + 1) ((i : Int) + 1) (by omega) (by omega) (by omega)
  obtain ⟨s0, hs0⟩ : ∃ s0, s0 = Value.slice (some ⟨g, 0 + i * 3, none⟩) (n - i) (cap - i) := ⟨_, rfl⟩
  obtain ⟨s2, hs2⟩ : ∃ s2, s2 = Value.slice (some ⟨w.heap.size, 0 + i * 3, none⟩) (n + 1 - i) (G - i) := ⟨_, rfl⟩
  obtain ⟨s3, hs3⟩ : ∃ s3, s3 = Value.slice (some ⟨w.heap.size, 0 + (i + 1) * 3, none⟩) (n + 1 - (i + 1)) (G - (i + 1)) := ⟨_, rfl⟩
  rw [← hs0] at R0 hcpB
  rw [← hs2] at R2 hcpA
  rw [← hs3] at R3 hcpB
  have O3 := hide (own_mono o3 hB)
  have G3 := hide (grown_below b3 (some g))
  have CZ := hide hrz
  have CB := hide hcpB
  have hw1 : IntKind.i64.wrap ((i : Int) + 1) = (i : Int) + 1 := by rw [IntKind.wrap_i64]; omega
  clear m1 m2 m3 m4 hvc ho hcl hdl hbd hik hkk S1 hcpB hrz o1 k1 k2 l1 l2 b1 b2 b3 hv1 o2 o2d o3 hfin hyl hs0 hs2 hs3 hW1 hW2 hW3 hv h1c h1e hel hold hold2 hG hROW hRs hRt hxs hxl hxt hGK hi0 hz0 hz1 hz2 hgw hvw
  go_enter Try.func36, Try.ntmps36
  go_wp2_with (at_builtin; refine Lib.wpList_append_run _ rfl _ _ _ _ rfl _ _ rfl rfl _ _ (unhide CZ _) ?_)
  go_region_law (refine step_copy_runI rfl _ _ 22 22 rfl s3 s0 (by simp [Act.eval, Act.put]) (by simp [Act.eval, Act.put]) (unhide CB _) ?_)
  go_wp2
  go_ret
  exact ⟨_, rfl, unhide O3, unhide G3⟩

theorem ins_anyC (v : Value) (n i : Nat) (cs es : List Value) (vb : Nat) (w : World) (B : Nat) (ho : w.ownsRow B 30 3 v n cs) (hv : w.heap[vb]? = some (.cells es.toArray 30 (0, 0))) (hel : es.length = 3)
    (h1c : ∀ u ∈ cs, u.oneCell' = true) (h1e : ∀ u ∈ es, u.oneCell' = true) (hB : B ≤ w.heap.size) (hne : v.ownBlock ≠ some vb) (hi : i ≤ n) (hn : n ≤ 1000000) :
    Calls Try.prog 36 #[v, .int .i64 i, .slice (some ⟨vb, 0, none⟩) 1 1] w fun e w' => ∃ v', e = .returned v' ∧ w'.ownsRow B 30 3 v' (n + 1) (cs.take (i * 3) ++ es ++ cs.drop (i * 3)) ∧ w.grownBy w' v.ownBlock := by
  have hcl := own_len ho
  by_cases he : i = n
  · subst he
    rw [List.take_of_length_le (by omega), List.drop_eq_nil_of_le (by omega), List.append_nil]
    exact ins_endC v i cs es vb w B ho (fun j u hj => by simp [World.cell?, hv, hj]) hel h1e hB hn
  · rcases own_form ho with ⟨rfl, rfl⟩ | ⟨g, cap, rfl, h1, h2, h3, h4⟩
    · omega
    · by_cases hr : n + 1 ≤ cap
      · exact ins_roomC g cap n i cs es vb w B ho hv hel h1c h1e (fun e => hne (by rw [e]; rfl)) (by omega) hr h2
      · exact ins_growC g cap n i cs es vb w B ho hv hel h1c h1e hB (by omega) h1 (by omega) hn
end Go.Proofs.Ytefnkbgkcjhkoaa
