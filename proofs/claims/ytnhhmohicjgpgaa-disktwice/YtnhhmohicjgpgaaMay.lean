/-
  The contracts of May: may a disk be?
-/
import Derived.Test.YtnhhmohicjgpgaaNames
import Derived.Test.YtnhhmohicjgpgaaSize
namespace Go.Proofs.Ytnhhmohicjgpgaa
open Go.RowKit

/-- A region that draws its order, and calls what makes memory, but answers the same in every world that has grown: walked once, in the order of the text. -/
theorem region_below {P : Program} {id : Nat} {Q : Exit → Act → World → Prop} {a : Act} {w : World} {l : List Oper} (hm : P.follows .mixedOrders = true) (hB : Region.lexB .any l.toArray = true)
    (h : wpQuiet P l.toArray (fun w' => Below w.heap.size w w') (fun a' => ∀ w', Below w.heap.size w w' → Q .normal a' w') l a) : (Code.region id l.toArray true).wp P Q a w :=
  wp_region_quiet (C := fun w' => Below w.heap.size w w') hm hB (Below.refl w.heap.size w).drew (by simpa using h)

theorem below_dr' {B : Nat} {w w1 : World} (h : Below B w w1) (n : Nat) : Below B w (w1.drewN n) := ⟨h.os, h.tape, h.output, h.size, h.block⟩

theorem below_may {w wr : World} {o o' : Obj} {n : Nat} (h : Below (w.heap.size + 1) (w.alloc o) wr) : Below w.heap.size w ((wr.alloc o').drewN n) := by
  have h1 : Below w.heap.size w wr := (below_alloc w o).trans (h.mono (Nat.le_succ _))
  exact below_dr (h1.alloc h1.size _) n

theorem below_may0 {w wr : World} {o : Obj} {n : Nat} (h : Below (w.heap.size + 1) (w.alloc o) wr) : Below w.heap.size w (wr.drewN n) :=
  below_dr ((below_alloc w o).trans (h.mono (Nat.le_succ _))) n

/-- Nothing too great for the walks. -/
def Fits (L : List Pf) : Prop := L.length ≤ 100 ∧ ∀ f ∈ L, f.da.length ≤ 1000 ∧ f.nm.size ≤ 1000

theorem Fits.sum {L : List Pf} (h : Fits L) : K.sum L ≤ 100000 := by
  have := K.sum_le L 1000 fun f hf => (h.2 f hf).1
  have h1 := h.1
  omega

set_option maxHeartbeats 3000000 in
theorem may_any (cap : Int) (v : Value) (L : List Pf) (w : World) (h : Fl w v L) (hf : Fits L) :
    Calls Try.prog 18 #[.agg #[.int .i64 cap, v]] w fun e w' => e = .returned (.bool (K.may cap L)) ∧ Below w.heap.size w w' := by
  have hsum := hf.sum
  have H := h
  obtain ⟨a, sc, rfl, hl, hm, hna, ho⟩ := h.open
  clear h
  by_cases h1 : cap < 0
  · go_enter Try.func18, Try.ntmps18
    go_wp2
    go_ret
    exact ⟨ret_bool (by simp [K.may]; omega), below_alloc _ _⟩
  by_cases h2 : 1048576 < cap
  · go_enter Try.func18, Try.ntmps18
    go_wp2
    go_ret
    exact ⟨ret_bool (by simp [K.may]; omega), below_alloc _ _⟩
  by_cases h3 : 64 < L.length
  · go_enter Try.func18, Try.ntmps18
    go_wp2
    go_ret
    exact ⟨ret_bool (by simp [K.may]; omega), below_alloc _ _⟩
  go_enter Try.func18, Try.ntmps18
  go_wp2
  go_loopw [22] (fun i wr => ∃ k : Nat, k ≤ L.length ∧ i = .int .i64 k ∧ K.ordTo L k = true ∧ Below (w.heap.size + 1) (w.alloc (.cells #[.int .i64 cap, .slice a L.length sc] 24)) wr) (fun i _ => L.length - (intOf i).toNat)
  case atStart => exact ⟨0, Nat.zero_le _, rfl, by simp [K.ordTo], Below.refl _ _⟩
  case round =>
    obtain ⟨k, hk, rfl, hord, hbel⟩ := hrel
    by_cases hlt : k < L.length
    · obtain ⟨f, hfk⟩ : ∃ f, L[k]? = some f := ⟨L[k], List.getElem?_eq_getElem hlt⟩
      obtain ⟨b, off, rfl, hb, hc⟩ := ho (by omega)
      obtain ⟨da, dc, c0, c1, c2, c3⟩ := hc k f hfk
      have hfm := List.mem_of_getElem? hfk
      have hns : f.nm.size ≤ maxLen := by have := (hf.2 f hfm).2; unfold maxLen; omega
      have hb1 : b < w.heap.size + 1 := by omega
      have d0 := (hbel.cell (p := ⟨b, off + k * 3, none⟩) hb1).trans ((World.cell?_alloc_lt w _ _ hb).trans c0)
      have d1 := (hbel.cell (p := ⟨b, off + k * 3 + 1, none⟩) hb1).trans ((World.cell?_alloc_lt w _ _ hb).trans c1)
      have d2 := (hbel.cell (p := ⟨b, off + k * 3 + 2, none⟩) hb1).trans ((World.cell?_alloc_lt w _ _ hb).trans c2)
      have e1 : wr.cell? ⟨w.heap.size, 1, none⟩ = some (.slice (some ⟨b, off, none⟩) L.length sc) := (hbel.cell (p := ⟨w.heap.size, 1, none⟩) (Nat.lt_succ_self _)).trans (by simp)
      have hbs := hbel.size
      have hbs2 : w.heap.size < wr.heap.size := (show w.heap.size + 1 ≤ wr.heap.size by simpa using hbs)
      have hbs3 : b < wr.heap.size := by omega
      have HO := hide hord
      have HOF := hide (@K.ord_false L k hlt)
      have HOS := hide (K.ordTo_succ L k)
      clear ho hord c0 c1 c2 c3
      have HOK := hide (K.okAt_name hfk)
      cases hnm : K.name f.nm with
      | false =>
        go_wp2
        go_quiet ((go_at_call 33; exact Calls.quiet_of_same (by simpa [hnm] using isName_any _ _ hns)))
        go_wp2
        go_ret
        refine ⟨ret_bool (by simp [K.may, unhide HOF (unhide HOK hnm)]), below_may hbel⟩
      | true =>
        rcases Nat.eq_zero_or_pos k with hk0 | hk0
        · subst hk0
          have hok := hide (K.okAt_zero hfk)
          simp only [Nat.zero_mul, Nat.add_zero] at d0 d1 d2
          go_wp2
          go_quiet ((go_at_call 33; exact Calls.quiet_of_same (by simpa [hnm] using isName_any _ _ hns)))
          go_wp2
          go_roundw
          case rel => exact ⟨1, by omega, by go_num, by rw [unhide HOS, unhide HO, unhide hok, hnm]; rfl, below_dr' (hbel.alloc (by simpa using hbs) _) _⟩
          case measure => simp [intOf]; omega
        · obtain ⟨j, rfl⟩ : ∃ j, k = j + 1 := ⟨k - 1, by omega⟩
          obtain ⟨g, hgj⟩ : ∃ g, L[j]? = some g := ⟨L[j], List.getElem?_eq_getElem (by omega)⟩
          obtain ⟨ga, gc, g0, _⟩ := hc j g hgj
          have p0 := (hbel.cell (p := ⟨b, off + j * 3, none⟩) hb1).trans ((World.cell?_alloc_lt w _ _ hb).trans g0)
          have hok := hide (K.okAt_succ hfk hgj)
          have hle := K.le_not f.nm g.nm
          clear g0
          cases hlg : K.lt g.nm f.nm with
          | false =>
            rw [hlg] at hle
            go_wp2
            go_quiet ((go_at_call 33; exact Calls.quiet_of_same (by simpa [hnm] using isName_any _ _ hns)))
            go_wp2
            go_ret
            exact ⟨ret_bool (by simp [K.may, unhide HOF (by rw [unhide hok, hlg]; simp)]), below_may hbel⟩
          | true =>
            rw [hlg] at hle
            go_wp2
            go_quiet ((go_at_call 33; exact Calls.quiet_of_same (by simpa [hnm] using isName_any _ _ hns)))
            go_wp2
            go_roundw
            case rel => exact ⟨j + 1 + 1, by omega, by go_num, by rw [unhide HOS, unhide HO, unhide hok, hnm, hlg]; rfl, below_dr' (hbel.alloc (by simpa using hbs) _) _⟩
            case measure => simp [intOf]; omega
    · have e0 : ∀ w', Below wr.heap.size wr w' → w'.cell? ⟨w.heap.size, 0, none⟩ = some (.int .i64 cap) := fun w' hw' => (hw'.cell (p := ⟨w.heap.size, 0, none⟩) (by have := hbel.size; simp at this; simp; omega)).trans ((hbel.cell (p := ⟨w.heap.size, 0, none⟩) (Nat.lt_succ_self _)).trans (by simp))
      have e1 : ∀ w', Below wr.heap.size wr w' → w'.cell? ⟨w.heap.size, 1, none⟩ = some (.slice a L.length sc) := fun w' hw' => (hw'.cell (p := ⟨w.heap.size, 1, none⟩) (by have := hbel.size; simp at this; simp; omega)).trans ((hbel.cell (p := ⟨w.heap.size, 1, none⟩) (Nat.lt_succ_self _)).trans (by simp))
      have hwb : Below w.heap.size w wr := (below_alloc _ _).trans (hbel.mono (Nat.le_succ _))
      have HH := H.below hwb
      have HO : K.ord L = true := by rw [K.ord, ← show k = L.length by omega]; exact hord
      clear ho hord
      go_wp2
      refine region_below (by kernel_rfl) (by kernel_rfl) ?_
      repeat
        (refine wpQuiet_step (fun K hK => ?_)
         go_simp
         first
           | (refine hK _ ?_; clear hK K)
           | (refine ⟨_, fun _ _ => rfl, hK _ ?_⟩; clear hK K)
           | (apply Exists.intro
              refine ⟨fun w' hw' => ?_, hK _ ?_⟩
              · first
                 | (rw [e0 w' hw']; exact ⟨rfl, rfl⟩)
                 | (rw [e1 w' hw']; exact ⟨rfl, rfl⟩)
                 | (go_at_call 34; exact (size_any _ _ _ (HH.below hw') (by omega)).mono fun e w'' ⟨h1, h2⟩ => ⟨h1, below_trans' hw' h2⟩)
              clear hK K))
      refine wpQuiet_nil ?_
      intro w9 hb9
      go_wp2
      go_ret
      exact ⟨ret_bool (by simp [K.may, HO]; omega), below_trans' hwb hb9⟩

set_option maxHeartbeats 3000000 in
theorem rmay_any (cap : Int) (v : Value) (L : List Pf) (w : World) (h : Fl w v L) (hf : Fits L) :
    Calls Try.prog 16 #[.agg #[.int .i64 cap, v]] w fun e w' => e = .returned (.bool (K.may cap L)) ∧ Below w.heap.size w w' := by
  have hsum := hf.sum
  have H := h
  obtain ⟨a, sc, rfl, hl, hm, hna, ho⟩ := h.open
  clear h
  by_cases h3 : 64 < L.length
  · go_enter Try.func16, Try.ntmps16
    go_wp2
    go_ret
    exact ⟨ret_bool (by simp [K.may]; omega), below_alloc _ _⟩
  go_enter Try.func16, Try.ntmps16
  go_wp2
  go_loopw [3] (fun i wr => ∃ k : Nat, k ≤ L.length ∧ i = .int .i64 k ∧ K.ordTo L k = true ∧ Below (w.heap.size + 1) (w.alloc (.cells #[.int .i64 cap, .slice a L.length sc] 24)) wr) (fun i _ => L.length - (intOf i).toNat)
  case atStart => exact ⟨0, Nat.zero_le _, rfl, by simp [K.ordTo], Below.refl _ _⟩
  case round =>
    obtain ⟨k, hk, rfl, hord, hbel⟩ := hrel
    by_cases hlt : k < L.length
    · obtain ⟨f, hfk⟩ : ∃ f, L[k]? = some f := ⟨L[k], List.getElem?_eq_getElem hlt⟩
      obtain ⟨b, off, rfl, hb, hc⟩ := ho (by omega)
      obtain ⟨da, dc, c0, c1, c2, c3⟩ := hc k f hfk
      have hfm := List.mem_of_getElem? hfk
      have hns : f.nm.size ≤ maxLen := by have := (hf.2 f hfm).2; unfold maxLen; omega
      have HO := hide hord
      have HOF := hide (@K.ord_false L k hlt)
      have HOS := hide (K.ordTo_succ L k)
      have HOK := hide (K.okAt_name hfk)
      have hb1 : b < w.heap.size + 1 := by omega
      have d0 := (hbel.cell (p := ⟨b, off + k * 3, none⟩) hb1).trans ((World.cell?_alloc_lt w _ _ hb).trans c0)
      have e1 : wr.cell? ⟨w.heap.size, 1, none⟩ = some (.slice (some ⟨b, off, none⟩) L.length sc) := (hbel.cell (p := ⟨w.heap.size, 1, none⟩) (Nat.lt_succ_self _)).trans (by simp)
      clear ho hord c0 c1 c2 c3
      cases hnm : K.name f.nm with
      | false =>
        go_wp2_with (go_at_call 30; refine (name_any _ _ hns).mono ?_; rintro e w' ⟨rfl, rfl⟩; rw [hnm])
        go_quiet (fail)
        go_wp2
        go_ret
        exact ⟨ret_bool (by simp [K.may, unhide HOF (unhide HOK hnm)]), below_may0 hbel⟩
      | true =>
        rcases Nat.eq_zero_or_pos k with hk0 | hk0
        · subst hk0
          have hok := hide (K.okAt_zero hfk)
          simp only [Nat.zero_mul, Nat.add_zero] at d0
          go_wp2_with (go_at_call 30; refine (name_any _ _ hns).mono ?_; rintro e w' ⟨rfl, rfl⟩; rw [hnm])
          go_quiet (fail)
          go_wp2
          go_roundw
          case rel => exact ⟨1, by omega, by go_num, by rw [unhide HOS, unhide HO, unhide hok, hnm]; rfl, below_dr' hbel _⟩
          case measure => simp [intOf]; omega
        · obtain ⟨j, rfl⟩ : ∃ j, k = j + 1 := ⟨k - 1, by omega⟩
          obtain ⟨g, hgj⟩ : ∃ g, L[j]? = some g := ⟨L[j], List.getElem?_eq_getElem (by omega)⟩
          obtain ⟨ga, gc, g0, -, -, -⟩ := hc j g hgj
          have p0 := (hbel.cell (p := ⟨b, off + j * 3, none⟩) hb1).trans ((World.cell?_alloc_lt w _ _ hb).trans g0)
          have hgm := List.mem_of_getElem? hgj
          have hgs : g.nm.size ≤ maxLen := by have := (hf.2 g hgm).2; unfold maxLen; omega
          have hok := hide (K.okAt_succ hfk hgj)
          clear g0
          cases hlg : K.lt g.nm f.nm with
          | false =>
            go_wp2_with (go_at_call 30; refine (name_any _ _ hns).mono ?_; rintro e w' ⟨rfl, rfl⟩; rw [hnm])
            go_quiet ((go_at_call 31; exact Calls.quiet_of (below_b g.nm f.nm _ hgs _ hlg)))
            go_wp2
            go_ret
            exact ⟨ret_bool (by simp [K.may, unhide HOF (by rw [unhide hok, hlg]; simp)]), below_may0 hbel⟩
          | true =>
            go_wp2_with (go_at_call 30; refine (name_any _ _ hns).mono ?_; rintro e w' ⟨rfl, rfl⟩; rw [hnm])
            go_quiet ((go_at_call 31; exact Calls.quiet_of (below_b g.nm f.nm _ hgs _ hlg)))
            go_wp2
            go_roundw
            case rel => exact ⟨j + 1 + 1, by omega, by go_num, by rw [unhide HOS, unhide HO, unhide hok, hnm, hlg]; rfl, below_dr' hbel _⟩
            case measure => simp [intOf]; omega
    · have HO : K.ord L = true := by rw [K.ord, ← show k = L.length by omega]; exact hord
      have H1 := H.below ((below_alloc w _).trans (hbel.mono (Nat.le_succ _)))
      have e0 : wr.cell? ⟨w.heap.size, 0, none⟩ = some (.int .i64 cap) := (hbel.cell (p := ⟨w.heap.size, 0, none⟩) (Nat.lt_succ_self _)).trans (by simp)
      have e1 : wr.cell? ⟨w.heap.size, 1, none⟩ = some (.slice a L.length sc) := (hbel.cell (p := ⟨w.heap.size, 1, none⟩) (Nat.lt_succ_self _)).trans (by simp)
      clear ho hord
      by_cases h1 : 0 ≤ cap
      · by_cases h2 : cap ≤ 1048576
        · go_wp2
          go_quiet ((go_at_call 32; exact Calls.quiet_of_same (used_any _ _ _ (H1.drewN _) (by omega))))
          go_wp2
          go_ret
          exact ⟨ret_bool (by simp [K.may, HO]; omega), below_may0 hbel⟩
        · have h2' : decide (cap ≤ 1048576) = false := by simpa using h2
          go_wp2
          go_quiet (fail)
          go_wp2
          go_ret
          exact ⟨ret_bool (by simp [K.may]; omega), below_may0 hbel⟩
      · have h1' : decide (0 ≤ cap) = false := by simpa using h1
        go_wp2
        go_quiet (fail)
        go_wp2
        go_ret
        exact ⟨ret_bool (by simp [K.may]; omega), below_may0 hbel⟩
end Go.Proofs.Ytnhhmohicjgpgaa
