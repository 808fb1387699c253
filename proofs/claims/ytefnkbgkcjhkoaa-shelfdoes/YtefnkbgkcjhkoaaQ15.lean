/-
  Texts put together: Delete13, Rows13, Few13, RWith13.
-/
import Derived.Test.YtefnkbgkcjhkoaaQ14
import Derived.Test.YtefnkbgkcjhkoaaQ12
import Derived.Deep.RegionLaw
import Derived.Shelf.RegionOpenPlain
import Derived.Lib.SliceRun
import Derived.Test.YtefnkbgkcjhkoaaQ11
/-
  The contract of slices.Delete at cards, in a row of the call's own.
-/
namespace Go.Proofs.Ytefnkbgkcjhkoaa
set_option maxRecDepth 100000
open Go.RowKit

/-- The first ones of a row that is one's own. -/
theorem own_less13 {w : World} {B : Nat} {e : TypeId} {K g n cap : Nat} {xs : List Value} (h : w.ownsRow B e K (.slice (some ⟨g, 0, none⟩) n cap) n xs) {m : Nat} (hm : m ≤ n) : w.ownsRow B e K (.slice (some ⟨g, 0, none⟩) m cap) m (xs.take (m * K)) := by
  obtain ⟨hl, h2⟩ := h
  have hk : m * K ≤ n * K := Nat.mul_le_mul_right K hm
  rcases h2 with ⟨h', _⟩ | ⟨g', cap', cur, h', hb, hg, hnc, hcm, hcs, htake⟩
  · simp at h'
  · simp only [Value.slice.injEq, Option.some.injEq, Addr.mk.injEq, and_true, true_and] at h'
    obtain ⟨rfl, rfl⟩ := h'
    refine ⟨by rw [List.length_take, hl]; omega, .inr ⟨g, cap, cur, rfl, hb, hg, by omega, hcm, hcs, ?_⟩⟩
    rw [← htake, List.take_take, Nat.min_eq_left hk]

theorem run_clear_c (w : World) (ty : TypeId) (b o n c : Nat) (hn : 0 < n) (hc : ∀ j, j < n * 3 → (w.cell? ⟨b, o + j, none⟩).isSome = true) (hf : ∀ j, w.frozen? ⟨b, j, none⟩ = false) :
    ∃ zs : List Value, zs.length = n * 3 ∧ (Builtin.clear_ #[22] ty #[.slice (some ⟨b, o, none⟩) n c]).run Try.prog w = .ok (.tuple #[]) (w.setCells b o zs) := by
  obtain ⟨Z0, hZ0⟩ : ∃ z : Array Value, z = #[.string ⟨#[]⟩, .int .i64 0, .slice none 0 0] := ⟨_, rfl⟩
  have hv : ∀ w, (zeroValue 30).run Try.prog w = .ok (.agg Z0) w := fun w => by rw [hZ0]; kernel_rfl
  have hcz : (Value.agg Z0).cells = Z0 := by rw [hZ0]; rfl
  have hzs : Z0.size = 3 := by rw [hZ0]; rfl
  refine ⟨(Builtin.zeroCells Z0 n).toList, by simp [Builtin.zeroCells, hzs], ?_⟩
  have hst := run_storeCells_cells (P := Try.prog) b o (Builtin.zeroCells Z0 n).toList 0 w (fun j hj => by simpa using hc j (by simpa [Builtin.zeroCells, hzs] using hj)) (fun j _ => hf _) (fun v hv' => by
    simp only [Builtin.zeroCells, Array.toList_map, List.mem_map, Array.toList_range] at hv'
    obtain ⟨i, -, rfl⟩ := hv'
    have h4 : i % Z0.size < 3 := by rw [hzs]; omega
    obtain ⟨j, hj⟩ : ∃ j, i % Z0.size = j := ⟨_, rfl⟩
    rw [hj] at h4 ⊢
    subst hZ0
    have : j = 0 ∨ j = 1 ∨ j = 2 := by omega
    rcases this with rfl | rfl | rfl <;> rfl)
  simp only [Nat.add_zero] at hst
  obtain ⟨m, rfl⟩ : ∃ m, n = m + 1 := ⟨n - 1, by omega⟩
  simp [Builtin.clear_, run_underlying Try.underlying22, hv, hcz, hst]

set_option maxHeartbeats 4000000 in
set_option maxRecDepth 1000000 in
theorem delC_any (B g cap n i j : Nat) (cs : List Value) (w : World) (ho : w.ownsRow B 30 3 (.slice (some ⟨g, 0, none⟩) n cap) n cs) (h1 : ∀ u ∈ cs, u.oneCell' = true) (hij : i < j) (hj : j ≤ n) :
    Calls Try.prog 39 #[.slice (some ⟨g, 0, none⟩) n cap, .int .i64 i, .int .i64 j] w fun e w' =>
      e = .returned (.slice (some ⟨g, 0, none⟩) (i + (n - j)) cap) ∧ w'.ownsRow B 30 3 (.slice (some ⟨g, 0, none⟩) (i + (n - j)) cap) (i + (n - j)) (cs.take (i * 3) ++ cs.drop (j * 3)) ∧ w.grownBy w' (some g) := by
  obtain ⟨i0, hi0, hz0, hz1, hz2⟩ := info_parts Try.infoC
  obtain ⟨hnc, hcm⟩ : n ≤ cap ∧ cap ≤ 9223372036854775807 := by
    rcases own_form ho with ⟨h, _⟩ | ⟨g', cap', h, h3, h4, _⟩
    · cases h
    · simp only [Value.slice.injEq, true_and] at h
      obtain ⟨-, rfl⟩ := h
      exact ⟨h3, h4⟩
  have hcl := own_len ho
  have R1 := run_toC (some ⟨g, 0, none⟩) n cap i i rfl (by omega)
  have hS1 : sliced (some ⟨g, 0, none⟩) 0 i cap 3 = .slice (some ⟨g, 0, none⟩) i cap := by
    by_cases h : cap = 0
    · simp [sliced, h]
    · have : ¬ cap = 0 := h
      simp [sliced, this, Addr.add_lit]
  rw [hS1] at R1
  have R2 := run_fromC (some ⟨g, 0, none⟩) n cap j hj
  obtain ⟨news, hnews⟩ : ∃ news, news = cs.drop (j * 3) := ⟨_, rfl⟩
  have hnl : news.length = (n - j) * 3 := by rw [hnews, List.length_drop, hcl]; omega
  obtain ⟨m1, m2, m3, -⟩ := own_room ho
  obtain ⟨A, hA, hsrc⟩ : ∃ A : Addr, sliced (some ⟨g, 0, none⟩) j n cap 3 = .slice (some A) (n - j) (cap - j) ∧ Hid (∀ t u, news[t]? = some u → w.drew.cell? (A.add t) = some u) := by
    by_cases h : cap = j
    · refine ⟨⟨g, 0, none⟩, by simp [sliced, h], hide (fun t u hu => ?_)⟩
      have h0 : news.length = 0 := by rw [hnl]; omega
      rw [List.length_eq_zero_iff.1 h0] at hu
      simp at hu
    · refine ⟨⟨g, 0 + j * 3, none⟩, by simp [sliced, h, Addr.add_lit], hide (fun t u hu => ?_)⟩
      rw [hnews, List.getElem?_drop] at hu
      have := m3 _ u hu
      rw [Addr.add_lit, show 0 + j * 3 + t = j * 3 + t by omega]
      exact this
  rw [hA] at R2
  have s1 : Hid (news.length = (n - j) * 3) := hnl
  have s2 : Hid (∀ u ∈ news, u.oneCell' = true) := fun u hu => h1 u (by rw [hnews] at hu; exact List.mem_of_mem_drop hu)
  have s3 : Hid (∀ t, t < news.length → (w.drew.cell? ⟨g, 0 + i * 3 + t, none⟩).isSome = true ∧ w.drew.frozen? ⟨g, 0 + i * 3 + t, none⟩ = false) := fun t ht => by
    rw [hnl] at ht
    rw [Nat.zero_add]
    exact ⟨m1 _ (by omega), m2 _⟩
  obtain ⟨W1, hW1⟩ : ∃ W1, W1 = w.drew.setCells g (0 + i * 3) news := ⟨_, rfl⟩
  have O1 := own_setCells news (0 + i * 3) w.drew cs ho.drew (by rw [hnl, hcl]; omega)
  rw [← hW1] at O1
  have G1 : w.grownBy W1 (some g) := by
    rw [hW1]
    exact (⟨rfl, rfl, rfl, Nat.le_refl _, fun _ _ _ => rfl⟩ : w.grownBy w.drew (some g)).trans (grown_setCells g news _ w.drew)
  obtain ⟨l1, l2, -, -⟩ := own_room O1
  have hlen : i + (n - j) < n := by omega
  have R3 : ∀ w : World, (Instr.slice 22 (.slice (some ⟨g, 0, none⟩) (i + (n - j)) cap) (some (.int .i64 ((i + (n - j) : Nat) : Int))) (some (.int .i64 (n : Int))) none).run Try.prog w = .ok (.slice (some ⟨g, 0 + (i + (n - j)) * 3, none⟩) (n - (i + (n - j))) (cap - (i + (n - j)))) w := by
    obtain ⟨m, hm⟩ : ∃ m, i + (n - j) = m := ⟨_, rfl⟩
    rw [hm] at hlen ⊢
    intro w
    have hs : ∀ w : World, (sizeOf (Try.prog.elem 22)).run Try.prog w = .ok 3 w := fun w => by kernel_rfl
    rw [run_slice_lh w 22 _ m cap (by kernel_rfl) .i64 .i64 m n (by omega) (by omega) (by omega), hs]
    have hne : ¬ cap = m := by omega
    simp [Result.andThen, sliced, hne, Addr.add_lit]
  obtain ⟨zs, hzl, hcz⟩ : ∃ zs : List Value, zs.length = (n - (i + (n - j))) * 3 ∧ ∀ ty, (Builtin.clear_ #[22] ty #[.slice (some ⟨g, 0 + (i + (n - j)) * 3, none⟩) (n - (i + (n - j))) (cap - (i + (n - j)))]).run Try.prog W1 = .ok (.tuple #[]) (W1.setCells g (0 + (i + (n - j)) * 3) zs) := by
    obtain ⟨zs, h1, h2⟩ := run_clear_c W1 22 g (0 + (i + (n - j)) * 3) (n - (i + (n - j))) (cap - (i + (n - j))) (by omega) (fun t ht => l1 _ (by omega)) l2
    exact ⟨zs, h1, fun ty => h2⟩
  have O2 := own_setCells zs (0 + (i + (n - j)) * 3) W1 _ O1 (by rw [hzl, own_len O1]; omega)
  have O3 := own_less13 O2 (m := i + (n - j)) (by omega)
  have hX : ∀ ys : List Value, ((ys.take (0 + (i + (n - j)) * 3) ++ zs ++ ys.drop (0 + (i + (n - j)) * 3 + zs.length)).take ((i + (n - j)) * 3)) = ys.take ((i + (n - j)) * 3) ∨ ys.length < (i + (n - j)) * 3 := fun ys => by
    rcases Nat.lt_or_ge ys.length ((i + (n - j)) * 3) with h | h
    · exact .inr h
    · left
      rw [Nat.zero_add, List.append_assoc, List.take_append_of_le_length (by rw [List.length_take]; omega), List.take_take, Nat.min_self]
  have HE : Hid ((W1.setCells g (0 + (i + (n - j)) * 3) zs).ownsRow B 30 3 (.slice (some ⟨g, 0, none⟩) (i + (n - j)) cap) (i + (n - j)) (cs.take (i * 3) ++ cs.drop (j * 3)) ∧ w.grownBy (W1.setCells g (0 + (i + (n - j)) * 3) zs) (some g)) := by
    refine ⟨?_, G1.trans (grown_setCells g zs _ W1)⟩
    rcases hX (cs.take (0 + i * 3) ++ news ++ cs.drop (0 + i * 3 + news.length)) with h | h
    · have hL : (cs.take (0 + i * 3) ++ news ++ cs.drop (0 + i * 3 + news.length)).take ((i + (n - j)) * 3) = cs.take (i * 3) ++ cs.drop (j * 3) := by
        rw [Nat.zero_add, List.take_append_of_le_length (by rw [List.length_append, List.length_take, hnl, hcl]; omega), List.take_of_length_le (by rw [List.length_append, List.length_take, hnl, hcl]; omega), hnews]
      rw [h, hL] at O3
      exact O3
    · have := own_len O1
      omega
  have HE2 := unhide HE
  simp only [Nat.zero_add] at hcz HE2
  replace HE := hide HE2
  clear HE2
  have hW : Hid (W1 = w.drew.setCells g (0 + i * 3) news) := hW1
  have hic : i ≤ cap := by omega
  have hjc : j ≤ cap := by omega
  clear hW1 hnews hnl m1 m2 m3 O1 O2 O3 hX l1 l2 G1 h1 hA hS1 ho
  go_enter Try.func39, Try.ntmps39
  go_wp2_with fail
  go_region_law (refine step_append_room rfl (.tmp 22) (.tmp 25) 22 rfl 30 i0 3 Try.underlying22 hi0 hz1 g 0 i cap (by simp [Act.eval, Act.put]) A (n - j) (cap - j) news (by simp [Act.eval, Act.put]) s1.out hsrc.out s2.out (by omega) s3.out ?_; rw [← hW.out])
  go_wp2
  go_ret
  exact ⟨rfl, unhide HE⟩
end Go.Proofs.Ytefnkbgkcjhkoaa

/-
  What is done to a row of cards of the call's own: one is put in between, taken out, stored.
-/
namespace Go.Proofs.Ytefnkbgkcjhkoaa
set_option maxRecDepth 100000
open Go.RowKit

theorem ctake13 : ∀ (D : List (Cd × Pts)) (i : Nat), (D.flatMap encC).take (i * 3) = (D.take i).flatMap encC
  | [], i => by simp
  | x :: r, 0 => by simp
  | x :: r, i + 1 => by
    rw [List.take_succ_cons, List.flatMap_cons, List.flatMap_cons, ← ctake13 r i, List.take_append, encC_len, List.take_of_length_le (by rw [encC_len]; omega), show (i + 1) * 3 - 3 = i * 3 by omega]
theorem cdrop13 : ∀ (D : List (Cd × Pts)) (i : Nat), (D.flatMap encC).drop (i * 3) = (D.drop i).flatMap encC
  | [], i => by simp
  | x :: r, 0 => by simp
  | x :: r, i + 1 => by
    rw [List.drop_succ_cons, List.flatMap_cons, ← cdrop13 r i, List.drop_append, encC_len, List.drop_of_length_le (by rw [encC_len]; omega), show (i + 1) * 3 - 3 = i * 3 by omega, List.nil_append]
theorem cset13 : ∀ (D : List (Cd × Pts)) (i : Nat) (p : Cd × Pts), ((((D.flatMap encC).set (i * 3) (.string p.1.id)).set (i * 3 + 1) (.int .i64 p.1.key)).set (i * 3 + 2) (sv p.2)) = (D.set i p).flatMap encC
  | [], i, p => by simp
  | x :: r, 0, p => by simp [encC]
  | x :: r, i + 1, p => by
    have ih := cset13 r i p
    have e : ∀ k, (i + 1) * 3 + k = (i * 3 + k) + 3 := fun k => by omega
    have e0 : (i + 1) * 3 = (i * 3) + 3 := by omega
    rw [List.set_cons_succ, List.flatMap_cons, List.flatMap_cons, ← ih, e 1, e 2, e0]
    simp only [encC, List.cons_append, List.nil_append, List.set_cons_succ]

theorem Wo.weak {B B' : Nat} {w : World} {p : Cd × Pts} (h : Wo B w p) (hb : B' ≤ B) : Wo B' w p := by
  refine ⟨h.1, ?_⟩
  rcases h.2 with h | ⟨g, cap, cur, h1, h2, h3⟩
  · exact .inl h
  · exact .inr ⟨g, cap, cur, h1, by omega, h3⟩

theorem Cs.one13 {w : World} {g : Nat} {c : Cd} {wa : Option Addr} {wc : Nat} (h0 : w.cell? ⟨g, 0, none⟩ = some (.string c.id)) (h1 : w.cell? ⟨g, 1, none⟩ = some (.int .i64 c.key)) (h2 : w.cell? ⟨g, 2, none⟩ = some (.slice wa c.w.length wc)) (hG : Gl .string w (.slice wa c.w.length wc) c.w) : Cs w (.slice (some ⟨g, 0, none⟩) 1 1) [c] := by
  refine ⟨[(c, (wa, c.w.length, wc))], ⟨some ⟨g, 0, none⟩, 1, rfl, Nat.le_refl _, by unfold maxLen; omega, (fun h => by cases h), fun x hx i y hy j u hu => ?_⟩, rfl, fun p hp => ?_⟩
  · obtain rfl := Option.some.inj hx
    match i, hy with
    | 0, hy =>
      simp at hy
      subst hy
      rw [Addr.add_lit]
      match j, hu with
      | 0, hu => simp [encC] at hu; subst hu; simpa using h0
      | 1, hu => simp [encC] at hu; subst hu; simpa using h1
      | 2, hu => simp [encC] at hu; subst hu; simpa [sv] using h2
      | j + 3, hu => simp [encC] at hu
    | i + 1, hy => simp at hy
  · simp only [List.mem_cons, List.not_mem_nil, or_false] at hp
    subst hp
    exact hG

/-- One card more, in between. -/
theorem insC_call {B : Nat} {w : World} {v : Value} {ps : List (Cd × Pts)} (c : Cd) (a : Option Addr) (n : Nat) (hC : CO B w v ps) {B' : Nat} (hq : Wo B' w (c, (a, c.w.length, n))) (hB' : B ≤ B') (hB : B ≤ w.heap.size) (k : Nat) (hk : k ≤ ps.length) (hl : ps.length ≤ 10000) :
    Calls Try.prog 36 #[v, .int .i64 k, .slice (some ⟨w.heap.size, 0, none⟩) 1 1] (w.alloc (.cells #[.string c.id, .int .i64 c.key, .slice a c.w.length n] 30)) fun e w' => ∃ v', e = .returned v' ∧ CO B w' v' (ps.take k ++ (c, ((a, c.w.length, n) : Pts)) :: ps.drop k) ∧ Below B w w' := by
  obtain ⟨X, hX⟩ : ∃ X, X = w.alloc (.cells #[.string c.id, .int .i64 c.key, .slice a c.w.length n] 30) := ⟨_, rfl⟩
  rw [← hX]
  have B2 : Below w.heap.size w X := by rw [hX]; exact below_alloc _ _
  have CX := hC.below B2
  have WX := (hq.below B2).weak hB'
  have zX : X.heap.size = w.heap.size + 1 := by rw [hX]; simp
  have hv : X.heap[w.heap.size]? = some (.cells (encC (c, (a, c.w.length, n))).toArray 30 (0, 0)) := by rw [hX]; exact heap_alloc_new w _
  refine (ins_anyC v ps.length k (ps.flatMap encC) (encC (c, (a, c.w.length, n))) w.heap.size X B CX.1 hv (encC_len _) (fun u hu => ?_) (encC_one _) (by omega) (fun e => by have := (hC.1.lt _ e).2; omega) hk (by omega)).mono ?_
  · obtain ⟨y, _, hy⟩ := List.mem_flatMap.1 hu
    exact encC_one y u hy
  rintro e w' ⟨v', rfl, O', G'⟩
  have e1 : (ps.flatMap encC).take (k * 3) ++ encC (c, (a, c.w.length, n)) ++ (ps.flatMap encC).drop (k * 3) = (ps.take k ++ (c, ((a, c.w.length, n) : Pts)) :: ps.drop k).flatMap encC := by
    rw [ctake13, cdrop13, List.flatMap_append, List.flatMap_cons, List.append_assoc]
  have e2 : (ps.take k ++ (c, ((a, c.w.length, n) : Pts)) :: ps.drop k).length = ps.length + 1 := by simp; omega
  rw [e1] at O'
  refine ⟨v', rfl, ⟨by rw [e2]; exact O', fun p hp => ?_⟩, ?_⟩
  · rcases List.mem_append.1 hp with hp | hp
    · exact (CX.2 p (List.mem_of_mem_take hp)).kept CX.1 G'
    · rcases List.mem_cons.1 hp with rfl | hp
      · exact WX.kept CX.1 G'
      · exact (CX.2 p (List.mem_of_mem_drop hp)).kept CX.1 G'
  · exact (B2.mono hB).grown G' (by omega) (fun j hj => (CX.1.lt j hj).1)

/-- One card less. -/
theorem delC_call {B : Nat} {w : World} {g cap : Nat} {ps : List (Cd × Pts)} (hC : CO B w (.slice (some ⟨g, 0, none⟩) ps.length cap) ps) (hB : B ≤ w.heap.size) (k : Nat) (hk : k < ps.length) :
    Calls Try.prog 39 #[.slice (some ⟨g, 0, none⟩) ps.length cap, .int .i64 k, .int .i64 ((k : Int) + 1)] w fun e w' => ∃ v', e = .returned v' ∧ CO B w' v' (ps.take k ++ ps.drop (k + 1)) ∧ Below B w w' := by
  have CD := delC_any B g cap ps.length k (k + 1) (ps.flatMap encC) w hC.1 (fun u hu => by obtain ⟨y, _, hy⟩ := List.mem_flatMap.1 hu; exact encC_one y u hy) (Nat.lt_succ_self k) hk
  rw [show (((k + 1 : Nat)) : Int) = (k : Int) + 1 by omega] at CD
  refine CD.mono ?_
  rintro e w' ⟨rfl, O', G'⟩
  have e1 : (ps.flatMap encC).take (k * 3) ++ (ps.flatMap encC).drop ((k + 1) * 3) = (ps.take k ++ ps.drop (k + 1)).flatMap encC := by
    rw [ctake13, cdrop13, List.flatMap_append]
  have e2 : (ps.take k ++ ps.drop (k + 1)).length = k + (ps.length - (k + 1)) := by simp; omega
  rw [e1] at O'
  refine ⟨_, rfl, ⟨by rw [e2]; exact O', fun p hp => ?_⟩, ?_⟩
  · rcases List.mem_append.1 hp with hp | hp
    · exact (hC.2 p (List.mem_of_mem_take hp)).kept hC.1 G'
    · exact (hC.2 p (List.mem_of_mem_drop hp)).kept hC.1 G'
  · exact (Below.refl _ _).grown G' hB (fun j hj => (hC.1.lt j (by simpa [Value.ownBlock] using hj)).1)

/-- Another card at a place. -/
def set13 (w : World) (g p : Nat) (c : Cd) (v : Value) : World := ((w.setCell ⟨g, p, none⟩ (.string c.id)).setCell ⟨g, p + 1, none⟩ (.int .i64 c.key)).setCell ⟨g, p + 2, none⟩ v
theorem set13_grown (w : World) (g p : Nat) (c : Cd) (v : Value) : w.grownBy (set13 w g p c v) (some g) :=
  ((grown_set w ⟨g, p, none⟩ _).trans (grown_set _ ⟨g, p + 1, none⟩ _)).trans (grown_set _ ⟨g, p + 2, none⟩ _)
theorem set13_end {B : Nat} {w : World} {g cap : Nat} {ps : List (Cd × Pts)} (hC : CO B w (.slice (some ⟨g, 0, none⟩) ps.length cap) ps) (c : Cd) (a : Option Addr) (n : Nat) {B' : Nat} (hq : Wo B' w (c, (a, c.w.length, n))) (hB' : B ≤ B') (hB : B ≤ w.heap.size) (k : Nat) :
    CO B (set13 w g (k * 3) c (.slice a c.w.length n)) (.slice (some ⟨g, 0, none⟩) ps.length cap) (ps.set k (c, (a, c.w.length, n))) ∧ Below B w (set13 w g (k * 3) c (.slice a c.w.length n)) := by
  have G := set13_grown w g (k * 3) c (.slice a c.w.length n)
  refine ⟨⟨?_, fun p hp => ?_⟩, ?_⟩
  · have h1 := (hC.1.stored (k * 3) (.string c.id)).1
    have h2 := (h1.stored (k * 3 + 1) (.int .i64 c.key)).1
    have h3 := (h2.stored (k * 3 + 2) (.slice a c.w.length n)).1
    have e := cset13 ps k (c, (a, c.w.length, n))
    simp only [sv] at e
    rw [e] at h3
    rw [List.length_set]
    exact h3
  · rcases List.mem_or_eq_of_mem_set hp with hp | rfl
    · exact (hC.2 p hp).kept hC.1 G
    · exact (hq.weak hB').kept hC.1 G
  · exact (Below.refl _ _).grown G hB (fun j hj => (hC.1.lt j (by simpa [Value.ownBlock] using hj)).1)
theorem set13_at {B : Nat} {w : World} {g n cap : Nat} {ps : List (Cd × Pts)} (h : w.ownsRow B 30 3 (.slice (some ⟨g, 0, none⟩) n cap) n (ps.flatMap encC)) {k : Nat} {p : Cd × Pts} (hk : ps[k]? = some p) :
    (w.cell? ⟨g, k * 3, none⟩ = some (.string p.1.id) ∧ w.cell? ⟨g, k * 3 + 1, none⟩ = some (.int .i64 p.1.key) ∧ w.cell? ⟨g, k * 3 + 2, none⟩ = some (sv p.2)) ∧ ∀ j, w.frozen? ⟨g, j, none⟩ = false := by
  obtain ⟨-, m2, m3, -⟩ := own_room h
  exact ⟨⟨m3 _ _ ((flat_at encC_len hk 0 (by decide)).trans rfl), m3 _ _ ((flat_at encC_len hk 1 (by decide)).trans rfl), m3 _ _ ((flat_at encC_len hk 2 (by decide)).trans rfl)⟩, m2⟩
end Go.Proofs.Ytefnkbgkcjhkoaa

/-
  The contracts of Few and one.
-/
namespace Go.Proofs.Ytefnkbgkcjhkoaa
set_option maxRecDepth 100000
open Go.RowKit

/-- What Few tells. -/
def FewEnd13 (w : World) (L : List Cd) (e : Ending) (w' : World) : Prop := ∃ r : Bool, e = .returned (.bool r) ∧ (r = true → L.length ≤ 1110 ∧ ∀ c ∈ L, c.id.size ≤ 40 ∧ c.w.length ≤ 130) ∧ Below w.heap.size w w'

set_option maxRecDepth 100000 in
set_option maxHeartbeats 8000000 in
theorem few13_any (v : Value) (L : List Cd) (w : World) (h : Cs w v L) :
    Calls Try.prog 10 #[v] w fun e w' => FewEnd13 w L e w' := by
  obtain ⟨a, cap, rfl, h1, h2, hna, ho⟩ := h.open
  clear h
  by_cases hlen : 1110 < L.length
  · have q1 : decide ((1110 : Int) < (L.length : Int)) = true := decide_eq_true (by omega)
    clear ho
    go_enter Try.func10, Try.ntmps10
    go_wp2
    go_ret
    exact ⟨false, rfl, (fun h => by cases h), Below.refl _ _⟩
  go_enter Try.func10, Try.ntmps10
  go_wp2
  go_loop [3] (fun iv => ∃ k : Nat, k ≤ L.length ∧ iv = .int .i64 k ∧ Hid (∀ i x, i < k → L[i]? = some x → x.id.size ≤ 40 ∧ x.w.length ≤ 130)) (fun iv => L.length - (intOf iv).toNat)
  case atStart => exact ⟨0, Nat.zero_le _, rfl, hide (fun i x hi => by omega)⟩
  case round =>
    obtain ⟨k, hk, rfl, HA⟩ := hrel
    by_cases hlt : k < L.length
    · obtain ⟨b, off, rfl, hb, hc⟩ := ho (by omega)
      obtain ⟨c, hx⟩ : ∃ c, L[k]? = some c := ⟨L[k], List.getElem?_eq_getElem hlt⟩
      obtain ⟨wa, wc, c0, c1, c2, G⟩ := hc k c hx
      have HX := hide hx
      clear ho hc hx
      by_cases g1 : 40 < c.id.size
      · go_wp2
        go_ret
        exact ⟨false, rfl, (fun h => by cases h), Below.refl _ _⟩
      by_cases g2 : 130 < c.w.length
      · go_wp2
        go_ret
        exact ⟨false, rfl, (fun h => by cases h), Below.refl _ _⟩
      by_cases g3 : 70 < L.length ∧ 0 < c.w.length
      · obtain ⟨g3, g4⟩ := g3
        go_wp2
        go_ret
        exact ⟨false, rfl, (fun h => by cases h), Below.refl _ _⟩
      · have HA2 : Hid (∀ i x, i < k + 1 → L[i]? = some x → x.id.size ≤ 40 ∧ x.w.length ≤ 130) := hide (fun i x hi hx => by
          by_cases e : i = k
          · subst e
            rw [unhide HX] at hx
            cases hx
            omega
          · exact unhide HA i x (by omega) hx)
        obtain ⟨a', c', hv', l1, l2, l3, hoW⟩ := G.open
        simp only [Value.slice.injEq, true_and] at hv'
        obtain ⟨rfl, rfl⟩ := hv'
        clear G
        have go : 70 < L.length → c.w.length = 0 := fun h => by
          rcases Nat.eq_zero_or_pos c.w.length with h9 | h9
          · exact h9
          · exact absurd ⟨h, h9⟩ g3
        clear g3
        by_cases g5 : 70 < L.length
        · have g6 := go g5
          have g7 : ¬ 0 < c.w.length := by omega
          clear go hoW
          go_wp2
          go_loop [4] (fun jv => jv = .int .i64 (0 : Nat)) (fun _ => 0)
          case atStart => rfl
          case round =>
            obtain rfl := hrel
            go_wp2
            go_round
            case rel => exact ⟨k + 1, by omega, by go_num, HA2⟩
            case measure => simp [intOf]; omega
        · clear go
          go_wp2
          go_loop [4] (fun jv => ∃ j : Nat, j ≤ c.w.length ∧ jv = .int .i64 j) (fun jv => c.w.length - (intOf jv).toNat)
          case atStart => exact ⟨0, Nat.zero_le _, rfl⟩
          case round =>
            obtain ⟨j, hj, rfl⟩ := hrel
            by_cases hlj : j < c.w.length
            · obtain ⟨b2, off2, rfl, hb2, hc2⟩ := hoW (by omega)
              obtain ⟨x, hx⟩ : ∃ x, c.w[j]? = some x := ⟨c.w[j], List.getElem?_eq_getElem hlj⟩
              have d0 := hc2 j x hx
              clear hoW hc2 hx
              by_cases g6 : 40 < x.size
              · go_wp2
                go_ret
                exact ⟨false, rfl, (fun h => by cases h), Below.refl _ _⟩
              · go_wp2
                go_round
                case rel => exact ⟨j + 1, by omega, by go_num⟩
                case measure => simp [intOf]; omega
            · clear hoW
              go_wp2
              go_round
              case rel => exact ⟨k + 1, by omega, by go_num, HA2⟩
              case measure => simp [intOf]; omega
    · clear ho
      have HF : Hid (∀ c ∈ L, c.id.size ≤ 40 ∧ c.w.length ≤ 130) := hide (fun c hc => by
        obtain ⟨i, hi⟩ := List.mem_iff_getElem?.1 hc
        exact unhide HA i c (by have := (List.getElem?_eq_some_iff.1 hi).1; omega) hi)
      go_wp2
      go_ret
      exact ⟨true, rfl, (fun _ => ⟨by omega, unhide HF⟩), Below.refl _ _⟩

def OneEnd13 (w : World) (c : Cd) (e : Ending) (w' : World) : Prop := ∃ r : Bool, e = .returned (.bool r) ∧ (r = true → c.id.size ≤ 40 ∧ c.w.length ≤ 130) ∧ Below w.heap.size w w'

theorem one13_any (c : Cd) (wa : Option Addr) (wc : Nat) (w : World) (hG : Gl .string w (.slice wa c.w.length wc) c.w) :
    Calls Try.prog 17 #[.agg #[.string c.id, .int .i64 c.key, .slice wa c.w.length wc]] w fun e w' => OneEnd13 w c e w' := by
  obtain ⟨W, hW⟩ : ∃ W, W = (w.alloc (.cells #[.string c.id, .int .i64 c.key, .slice wa c.w.length wc] 30)).alloc (.cells #[.string c.id, .int .i64 c.key, .slice wa c.w.length wc] 30) := ⟨_, rfl⟩
  have BW : Below w.heap.size w W := by rw [hW]; exact below_all (below_alloc _ _) _
  have X1 : W.heap[w.heap.size + 1]? = some (.cells #[.string c.id, .int .i64 c.key, .slice wa c.w.length wc] 30 (0, 0)) := by
    rw [hW]
    have := heap_alloc_new (w.alloc (.cells #[.string c.id, .int .i64 c.key, .slice wa c.w.length wc] 30)) (.cells #[.string c.id, .int .i64 c.key, .slice wa c.w.length wc] 30)
    simpa using this
  have CF := few13_any _ [c] W (Cs.one13 (box_cell X1 (j := 0) rfl) (box_cell X1 (j := 1) rfl) (box_cell X1 (j := 2) rfl) (hG.below BW))
  have HW := hide hW
  clear hW X1 hG
  go_enter Try.func17, Try.ntmps17
  go_wp2_with fail
  rw [← unhide HW]
  refine CF.mono ?_
  rintro e w1 ⟨r, rfl, hr, B1⟩
  have HR : Hid (r = true → c.id.size ≤ 40 ∧ c.w.length ≤ 130) := hide (fun h => (hr h).2 c (by simp))
  have BB := below_trans' BW B1
  clear CF hr B1
  go_wp2
  go_ret
  exact ⟨r, rfl, unhide HR, BB⟩
end Go.Proofs.Ytefnkbgkcjhkoaa

/-
  The contracts of the document's own Without and With.
-/
namespace Go.Proofs.Ytefnkbgkcjhkoaa
set_option maxRecDepth 100000
open Go.RowKit

theorem run_fromW (a : Option Addr) (n cap m : Nat) (hm : m ≤ n) (w : World) :
    (Instr.slice 22 (.slice a n cap) (some (.int .i64 m)) none none).run Try.prog w = .ok (sliced a m n cap 3) w := by
  have hs : ∀ w : World, (sizeOf (Try.prog.elem 22)).run Try.prog w = .ok 3 w := fun w => by kernel_rfl
  rw [run_slice_l w 22 _ n cap (by kernel_rfl) .i64 m (by omega) (by omega), hs]
  simp [Result.andThen]

set_option maxRecDepth 100000 in
set_option maxHeartbeats 4000000 in
theorem rwithout_any (v : Value) (L : List Cd) (id : ByteArray) (w : World) (h : Cs w v L) (hl : L.length ≤ 2000) :
    Calls Try.prog 38 #[v, .string id] w fun e w' => ∃ v', e = .returned v' ∧ Cs w' v' (H.del L id) ∧ Below w.heap.size w w' := by
  obtain ⟨i0, hi, hz0, hz1, hz2⟩ := info_parts Try.infoC
  obtain ⟨rs, hK, hrs, hWs⟩ := h
  have hrl : rs.length = L.length := by rw [← hrs, List.length_map]
  obtain ⟨a, cap, rfl, h1, h2, hna, -⟩ := hK.open encC_len (by decide)
  rw [hrl]
  have HRS := hide hrs
  have HWS := hide hWs
  have HRL := hide hrl
  clear hrs hWs hrl
  go_enter Try.func38, Try.ntmps38
  go_wp2
  go_loopw [5, 6] (fun ov iv wr => ∃ (k : Nat) (ps : List (Cd × Pts)), k ≤ L.length ∧ iv = .int .i64 k ∧ ps.length ≤ k ∧ Hid (ps = (rs.take k).filter (fun p => decide (p.1.id ≠ id))) ∧ wr.ownsRow w.heap.size 30 3 ov ps.length (ps.flatMap encC) ∧ Below w.heap.size w wr) (fun _ iv _ => L.length - (intOf iv).toNat)
  case atStart => exact ⟨0, [], Nat.zero_le _, rfl, Nat.le_refl _, rfl, World.ownsRow_nil _ _ _ _, Below.refl _ _⟩
  case round =>
    obtain ⟨k, ps, hk, rfl, hpl, HP, hown, hbel⟩ := hrel
    by_cases hlt : k < L.length
    · obtain ⟨a', c', hv', -, -, -, ho⟩ := (hK.below hbel).open encC_len (by decide)
      simp only [Value.slice.injEq] at hv'
      obtain ⟨rfl, -, rfl⟩ := hv'
      obtain ⟨b, off, rfl, hb, hc⟩ := ho (by have := unhide HRL; omega)
      obtain ⟨c, hx⟩ : ∃ c, rs[k]? = some c := ⟨rs[k]'(by have := unhide HRL; omega), List.getElem?_eq_getElem _⟩
      have c0 := hc k c hx 0 _ rfl
      have c1 := hc k c hx 1 _ rfl
      have c2 := hc k c hx 2 _ rfl
      simp only [Nat.add_zero, ← Nat.add_assoc, sv] at c0 c1 c2
      have HTS := hide (take_snoc8 hx)
      have hbs := hbel.size
      clear ho hc hx
      by_cases hq : c.1.id = id
      · have he : (c.1.id.toList == id.toList) = true := by rw [hq]; simp
        have HP2 : Hid (ps = (rs.take (k + 1)).filter (fun p => decide (p.1.id ≠ id))) := by
          show _ = _
          rw [unhide HTS, List.filter_append, ← unhide HP]
          simp [hq]
        clear hq c1 c2
        go_wp2
        go_roundw
        case rel => exact ⟨k + 1, ps, by omega, by go_num, by omega, HP2, hown, hbel⟩
        case measure => simp [intOf]; omega
      · have he : (c.1.id.toList == id.toList) = false := by
          rw [K.eq_to, decide_eq_false hq]
        have HP2 : Hid (ps ++ [c] = (rs.take (k + 1)).filter (fun p => decide (p.1.id ≠ id))) := by
          show _ = _
          rw [unhide HTS, List.filter_append, ← unhide HP]
          simp [hq]
        clear hq
        go_wp2_with (at_builtin; refine append_oneF (f := encC) rfl _ _ 22 rfl Try.underlying22 hi hz0 hz1 hz2 rfl (by decide) encC_len encC_one (pre := ps) c rfl rfl rfl rfl hown (by omega) (by omega) (by decide) ?_; intro g6 q6 w6 O6 g6' l6)
        have B6 : Below w.heap.size w w6 := hbel.grown g6' hbs (fun j hj => (hown.lt j hj).1)
        have hpl2 : (ps ++ [c]).length ≤ k + 1 := by simp; omega
        clear g6' l6 hown
        go_roundw
        case rel => exact ⟨k + 1, ps ++ [c], by omega, by go_num, hpl2, HP2, O6, B6⟩
        case measure => simp [intOf]; omega
    · have hF : ps = rs.filter (fun p => decide (p.1.id ≠ id)) := by
        have := unhide HP
        rwa [List.take_of_length_le (by have := unhide HRL; omega)] at this
      have HE : Hid (ps.map (·.1) = H.del L id) := by
        show _ = _
        rw [hF, ← unhide HRS, H.del, List.filter_map]
        rfl
      have C9 : Cs _ _ (ps.map (·.1)) := Cs.own hown (fun p hp => (unhide HWS p (by rw [hF] at hp; exact (List.mem_filter.1 hp).1)).below hbel)
      rw [unhide HE] at C9
      clear hF
      go_wp2
      go_ret
      exact ⟨_, rfl, C9, hbel⟩

set_option maxRecDepth 100000 in
set_option maxHeartbeats 8000000 in
theorem rwith_any (v : Value) (L : List Cd) (c : Cd) (wa : Option Addr) (wc : Nat) (w : World) (h : Cs w v L) (hG : Gl .string w (.slice wa c.w.length wc) c.w) (hl : L.length ≤ 2000) (hu : H.Up L) (hid : ∀ x ∈ L, x.id.size ≤ 1000) (hh : H.has L c.id = false) :
    Calls Try.prog 37 #[v, .agg #[.string c.id, .int .i64 c.key, .slice wa c.w.length wc]] w fun e w' => ∃ v', e = .returned v' ∧ Cs w' v' (H.put L c) ∧ Below w.heap.size w w' := by
  obtain ⟨i0, hi, hz0, hz1, hz2⟩ := info_parts Try.infoC
  obtain ⟨rs, hK, hrs, hWs⟩ := h
  have hrl : rs.length = L.length := by rw [← hrs, List.length_map]
  obtain ⟨a, cap, rfl, h1, h2, hna, -⟩ := hK.open encC_len (by decide)
  obtain ⟨W, hW⟩ : ∃ W, W = w.alloc (.cells #[.string c.id, .int .i64 c.key, .slice wa c.w.length wc] 30) := ⟨_, rfl⟩
  have BW : Below w.heap.size w W := by rw [hW]; exact below_alloc _ _
  have z0 : W.cell? ⟨w.heap.size, 0, none⟩ = some (.string c.id) := by rw [hW]; exact box_cell (heap_alloc_new w _) rfl
  have z1 : W.cell? ⟨w.heap.size, 1, none⟩ = some (.int .i64 c.key) := by rw [hW]; exact box_cell (heap_alloc_new w _) rfl
  have z2 : W.cell? ⟨w.heap.size, 2, none⟩ = some (.slice wa c.w.length wc) := by rw [hW]; exact box_cell (heap_alloc_new w _) rfl
  have hwz : W.heap.size = w.heap.size + 1 := by rw [hW]; simp
  have HRS := hide hrs
  have HWS := hide hWs
  have HRL := hide hrl
  have HU := hide hu
  have HID := hide hid
  have HH := hide hh
  have HG := hide hG
  have HW := hide hW
  have HWZ := hide hwz
  rw [hrl] at h1 ⊢
  clear hrs hWs hrl hu hid hh hG hW hwz
  go_enter Try.func37, Try.ntmps37
  go_wp2
  rw [← unhide HW]
  go_loopw [5, 6] (fun ov iv wr => ∃ (k : Nat) (pre : List (Cd × Pts)), k ≤ L.length ∧ iv = .int .i64 k ∧ Hid (pre = rs.take k) ∧ pre.length ≤ 2000 ∧ Hid (∀ j x, j < k → L[j]? = some x → K.lt x.id c.id = true) ∧ wr.ownsRow W.heap.size 30 3 ov pre.length (pre.flatMap encC) ∧ Below W.heap.size W wr) (fun _ iv _ => L.length - (intOf iv).toNat)
  case atStart => exact ⟨0, [], Nat.zero_le _, rfl, rfl, Nat.zero_le _, hide (fun j x hj => by omega), World.ownsRow_nil _ _ _ _, Below.refl _ _⟩
  case round =>
    obtain ⟨k, pre, hk, rfl, HPR, hpl, HB, hown, hbel⟩ := hrel
    have d0 := cell_keep z0 hbel
    have d1 := cell_keep z1 hbel
    have d2 := cell_keep z2 hbel
    have B0 := below_trans' BW hbel
    have hbs := hbel.size
    have k0 : ∀ w', Below wr.heap.size wr w' → w'.cell? ⟨w.heap.size, 0, none⟩ = some (.string c.id) := fun w' hw' => cell_keep d0 hw'
    -- what is left behind the loop
    by_cases hlt : k < L.length
    · obtain ⟨a', c', hv', -, -, -, ho⟩ := (hK.below B0).open encC_len (by decide)
      simp only [Value.slice.injEq] at hv'
      obtain ⟨rfl, -, rfl⟩ := hv'
      obtain ⟨b, off, rfl, hb, hc⟩ := ho (by have := unhide HRL; omega)
      obtain ⟨q, hx⟩ : ∃ c, rs[k]? = some c := ⟨rs[k]'(by have := unhide HRL; omega), List.getElem?_eq_getElem _⟩
      have e0 := hc k q hx 0 _ rfl
      have e1 := hc k q hx 1 _ rfl
      have e2 := hc k q hx 2 _ rfl
      simp only [Nat.add_zero, ← Nat.add_assoc, sv] at e0 e1 e2
      have hLx : L[k]? = some q.1 := by rw [← unhide HRS, List.getElem?_map, hx]; rfl
      have hqs : q.1.id.size ≤ maxLen := by have := unhide HID q.1 (List.mem_of_getElem? hLx); unfold maxLen; omega
      have HTS := hide (take_snoc8 hx)
      have HX := hide hx
      have HLX := hide hLx
      have g0 : ∀ w', Below wr.heap.size wr w' → w'.cell? ⟨b, off + k * 3, none⟩ = some (.string q.1.id) := fun w' hw' => cell_keep e0 hw'
      have p1 : (k : Int) < (L.length : Int) := by omega
      have p2 : decide ((k : Int) < (L.length : Int)) = true := decide_eq_true p1
      obtain ⟨r, hr⟩ : ∃ r, K.lt q.1.id c.id = r := ⟨_, rfl⟩
      have CB : ∀ w', Calls Try.prog 29 #[.string q.1.id, .string c.id] w' fun e w'' => e = .returned (.bool r) ∧ Below w'.heap.size w' w'' := fun w' => (below_b q.1.id c.id w' hqs r hr).mono fun e w'' ⟨h1, n, h2⟩ => ⟨h1, by rw [h2]; exact below_dr (Below.refl _ _) n⟩
      have HQ := hide hr
      clear ho hc hx hLx hr
      cases r with
      | true =>
        have HB2 : Hid (∀ j x, j < k + 1 → L[j]? = some x → K.lt x.id c.id = true) := hide (fun j x hj hx => by
          by_cases e : j = k
          · subst e
            rw [unhide HLX] at hx
            cases hx
            exact unhide HQ
          · exact unhide HB j x (by omega) hx)
        go_wp2
        refine region_below (by kernel_rfl) (by kernel_rfl) ?_
        repeat
          (first
            | go_big_quiet_skip
            | (go_big_quiet_want; go_big_quiet_op
               first
                 | go_big_quiet_on
                 | (apply Exists.intro
                    refine ⟨fun w' hw' => ?_, ?_⟩
                    · first
                     | exact rfl
                     | (rw [g0 w' hw']; exact ⟨rfl, rfl⟩)
                     | (rw [k0 w' hw']; exact ⟨rfl, rfl⟩)
                     | (go_at_call 29; exact (CB _).mono fun e w'' ⟨h1, h2⟩ => ⟨h1, below_trans' hw' h2⟩)
                    go_big_quiet_on)))
        refine wpQuiet_nil ?_
        intro w9 hb9
        have B9 := below_trans' hbel hb9
        have O9 := own_below hown hb9
        have e0 := cell_keep e0 hb9
        have e1 := cell_keep e1 hb9
        have e2 := cell_keep e2 hb9
        have hbs9 := B9.size
        clear g0 k0 CB hown hbel d0 d1 d2 B0 hbs
        go_wp2_with (at_builtin; refine append_oneF (f := encC) rfl _ _ 22 rfl Try.underlying22 hi hz0 hz1 hz2 rfl (by decide) encC_len encC_one (pre := pre) q rfl rfl rfl rfl O9 (by omega) (by omega) (by decide) ?_; intro g6 q6 w6 O6 g6' l6)
        have B6 : Below W.heap.size W w6 := B9.grown g6' hbs9 (fun j hj => (O9.lt j hj).1)
        have HPR2 : Hid (pre ++ [q] = rs.take (k + 1)) := by show _ = _; rw [unhide HTS, ← unhide HPR]
        have hpl2 : (pre ++ [q]).length ≤ 2000 := by
          rw [unhide HPR2, List.length_take]
          omega
        clear g6' l6 O9
        go_roundw
        case rel => exact ⟨k + 1, pre ++ [q], by omega, by go_num, HPR2, hpl2, HB2, O6, B6⟩
        case measure => simp [intOf]; omega
      | false =>
        have HN : Hid ((H.low L c.id).length = k) := H.low_at (unhide HU) hk (unhide HB) (fun x hx => by rw [unhide HLX] at hx; cases hx; exact unhide HQ)
        go_wp2
        refine region_below (by kernel_rfl) (by kernel_rfl) ?_
        repeat
          (first
            | go_big_quiet_skip
            | (go_big_quiet_want; go_big_quiet_op
               first
                 | go_big_quiet_on
                 | (apply Exists.intro
                    refine ⟨fun w' hw' => ?_, ?_⟩
                    · first
                     | exact rfl
                     | (rw [g0 w' hw']; exact ⟨rfl, rfl⟩)
                     | (rw [k0 w' hw']; exact ⟨rfl, rfl⟩)
                     | (go_at_call 29; exact (CB _).mono fun e w'' ⟨h1, h2⟩ => ⟨h1, below_trans' hw' h2⟩)
                    go_big_quiet_on)))
        refine wpQuiet_nil ?_
        intro w9 hb9
        have B9 := below_trans' hbel hb9
        have O9 := own_below hown hb9
        have x0 := cell_keep d0 hb9
        have x1 := cell_keep d1 hb9
        have x2 := cell_keep d2 hb9
        have hbs9 := B9.size
        have hdl : (rs.drop k).length = L.length - k := by rw [List.length_drop, unhide HRL]
        have HDL := hide hdl
        have hdl2 : (rs.drop k).length ≤ 2000 := by omega
        have HR1 := run_fromW (some ⟨b, off, none⟩) L.length cap k hk
        have hnc : ¬ cap = k := by omega
        rw [show sliced (some ⟨b, off, none⟩) k L.length cap 3 = .slice (some ⟨b, off + k * 3, none⟩) (L.length - k) (cap - k) by simp [sliced, hnc, Addr.add_lit]] at HR1
        have HK9 := hide ((hK.below (below_trans' BW B9)).drop k (by have := unhide HRL; omega))
        clear g0 k0 CB hown hbel d0 d1 d2 B0 hbs e0 e1 e2 hdl hnc
        go_wp2_with (first
          | (at_builtin; refine append_oneF (f := encC) rfl _ _ 22 rfl Try.underlying22 hi hz0 hz1 hz2 rfl (by decide) encC_len encC_one (pre := pre) (c, (wa, c.w.length, wc)) rfl rfl rfl rfl O9 (by omega) (by omega) (by decide) ?_; intro g6 q6 w6 O6 g6' l6; have B6 : Below W.heap.size W w6 := B9.grown g6' hbs9 (fun j hj => (O9.lt j hj).1); have b6 := B6.size; have K6 : Kl encC 3 w6 (.slice (some ⟨b, off + k * 3, none⟩) (L.length - k) (cap - k)) (rs.drop k) := (by have := ((hK.below (below_trans' BW B6)).drop k (by have := unhide HRL; omega)); rw [unhide HRL] at this; exact this))
          | (at_builtin; go_loud (refine append_allF (f := encC) rfl _ _ 22 rfl Try.underlying22 hi hz0 hz1 hz2 rfl (by decide) encC_len encC_one (pre := pre ++ [(c, (wa, c.w.length, wc))]) (zs := rs.drop k) rfl rfl K6 O6 b6 (by rw [List.length_append]; simp only [List.length_cons, List.length_nil]; omega) (by decide) ?_; intro v7 w7 O7 g7)))
        have B7 : Below W.heap.size W w7 := B6.grown g7 b6 (fun j hj => (O6.lt j hj).1)
        have BB := below_trans' BW B7
        have C9 : Cs w7 v7 (((pre ++ [(c, ((wa, c.w.length, wc) : Pts))]) ++ rs.drop k).map (·.1)) := Cs.own O7 (fun p hp => by
          rcases List.mem_append.1 hp with hp | hp
          · rcases List.mem_append.1 hp with hp | hp
            · rw [unhide HPR] at hp
              exact (unhide HWS p (List.mem_of_mem_take hp)).below BB
            · simp only [List.mem_cons, List.not_mem_nil, or_false] at hp
              subst hp
              exact (unhide HG).below BB
          · exact (unhide HWS p (List.mem_of_mem_drop hp)).below BB)
        have HE : Hid (((pre ++ [(c, ((wa, c.w.length, wc) : Pts))]) ++ rs.drop k).map (·.1) = H.put L c) := by
          show _ = _
          rw [H.put_not (unhide HU) (unhide HH), unhide HN, ← unhide HRS, unhide HPR]
          simp [List.map_take, List.map_drop]
        rw [unhide HE] at C9
        clear O6 O7 g6' l6 g7 K6 O9
        go_wp2
        go_ret
        exact ⟨_, rfl, C9, BB⟩
    · obtain rfl : k = L.length := by omega
      have HN : Hid ((H.low L c.id).length = L.length) := H.low_at (unhide HU) hk (unhide HB) (fun x hx => by rw [List.getElem?_eq_none (Nat.le_refl _)] at hx; cases hx)
      have p1 : ¬ (L.length : Int) < (L.length : Int) := by omega
      have p2 : decide ((L.length : Int) < (L.length : Int)) = false := decide_eq_false p1
      have HDP : Hid (rs.drop L.length = []) := List.drop_eq_nil_of_le (by have := unhide HRL; omega)
      have HR1 := run_fromW a L.length cap L.length (Nat.le_refl _)
      obtain ⟨sa, sc, hS, hKs⟩ : ∃ sa sc, sliced a L.length L.length cap 3 = .slice sa 0 sc ∧ (∀ w, Kl encC 3 w (.slice sa 0 sc) []) := by
        refine ⟨_, _, by rw [sliced, Nat.sub_self], fun w => Kl.zero (by unfold maxLen; omega) ?_⟩
        intro h9
        split at h9
        · have := hna h9; omega
        · have : a = none := by simpa using h9
          have := hna this; omega
      rw [hS] at HR1
      have x0 := d0
      clear hS
      go_wp2
      go_quiet (fail)
      have hb9 : Below wr.heap.size wr (wr.drewN nq) := below_dr (Below.refl _ _) nq
      obtain ⟨w4, hw4⟩ : ∃ w4, w4 = wr.drewN nq := ⟨_, rfl⟩
      rw [← hw4] at hb9 ⊢
      have B9 := below_trans' hbel hb9
      have O9 := own_below hown hb9
      have x0 := cell_keep d0 hb9
      have x1 := cell_keep d1 hb9
      have x2 := cell_keep d2 hb9
      have hbs9 := B9.size
      clear k0 hown hbel d0 d1 d2 B0 hbs hw4 hb9
      go_wp2_with (first
        | (at_builtin; refine append_oneF (f := encC) rfl _ _ 22 rfl Try.underlying22 hi hz0 hz1 hz2 rfl (by decide) encC_len encC_one (pre := pre) (c, (wa, c.w.length, wc)) rfl rfl rfl rfl O9 (by omega) (by omega) (by decide) ?_; intro g6 q6 w6 O6 g6' l6; have B6 : Below W.heap.size W w6 := B9.grown g6' hbs9 (fun j hj => (O9.lt j hj).1); have b6 := B6.size; have K6 := hKs w6)
        | (at_builtin; go_loud (refine append_allF (f := encC) rfl _ _ 22 rfl Try.underlying22 hi hz0 hz1 hz2 rfl (by decide) encC_len encC_one (pre := pre ++ [(c, (wa, c.w.length, wc))]) (zs := ([] : List (Cd × Pts))) rfl rfl K6 O6 b6 (by rw [List.length_append]; simp only [List.length_cons, List.length_nil]; omega) (by decide) ?_; intro v7 w7 O7 g7)))
      have B7 : Below W.heap.size W w7 := B6.grown g7 b6 (fun j hj => (O6.lt j hj).1)
      have BB := below_trans' BW B7
      have C9 : Cs w7 v7 (((pre ++ [(c, ((wa, c.w.length, wc) : Pts))]) ++ ([] : List (Cd × Pts))).map (·.1)) := Cs.own O7 (fun p hp => by
        rcases List.mem_append.1 hp with hp | hp
        · rcases List.mem_append.1 hp with hp | hp
          · rw [unhide HPR] at hp
            exact (unhide HWS p (List.mem_of_mem_take hp)).below BB
          · simp only [List.mem_cons, List.not_mem_nil, or_false] at hp
            subst hp
            exact (unhide HG).below BB
        · cases hp)
      have HE : Hid (((pre ++ [(c, ((wa, c.w.length, wc) : Pts))]) ++ ([] : List (Cd × Pts))).map (·.1) = H.put L c) := by
        show _ = _
        rw [H.put_not (unhide HU) (unhide HH), unhide HN, ← unhide HRS, unhide HPR]
        have := unhide HRL
        simp [List.take_of_length_le, this]
      rw [unhide HE] at C9
      clear O6 O7 g6' l6 g7 K6 O9
      go_wp2
      go_ret
      exact ⟨_, rfl, C9, BB⟩
end Go.Proofs.Ytefnkbgkcjhkoaa
