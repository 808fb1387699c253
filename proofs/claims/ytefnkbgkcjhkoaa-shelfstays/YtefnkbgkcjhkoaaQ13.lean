/-
  Texts put together: Stand13.
-/
import Derived.Test.YtefnkbgkcjhkoaaQ12
import Derived.Shelf.Abstract
/-
  The contracts of stand and rising.
-/
namespace Go.Proofs.Ytefnkbgkcjhkoaa
set_option maxRecDepth 100000
open Go.RowKit

set_option maxHeartbeats 2000000 in
theorem stand_any (v : Value) (L : List Cd) (id : ByteArray) (w : World) (h : Cs w v L) (hl : L.length ≤ 1000000) (hu : H.Up L) :
    Calls Try.prog 30 #[v, .string id] w fun e w' => e = .returned (.tuple #[.int .i64 (H.low L id).length, .bool (H.has L id)]) ∧ Below w.heap.size w w' := by
  obtain ⟨W, hW⟩ : ∃ W, W = w.alloc (.cells #[.string id] 9) := ⟨_, rfl⟩
  have BW : Below w.heap.size w W := by rw [hW]; exact below_alloc _ _
  have p0 : W.cell? ⟨w.heap.size, 0, none⟩ = some (.string id) := by rw [hW]; exact box_cell (heap_alloc_new w _) rfl
  have H1 := h.below BW
  have CF := first_any 50 (enters_of Try.func50 (by kernel_rfl) rfl) #[.pointer (some ⟨w.heap.size, 0, none⟩)] (H.geq id) v L W H1 hl (H.geq_once hu id)
    (fun c _ wa wc w1 B1 => stand1_any c wa wc w.heap.size id w1 (cell_keep p0 B1))
  rw [H.cut_geq] at CF
  obtain ⟨m, hm⟩ : ∃ m, (H.low L id).length = m := ⟨_, rfl⟩
  obtain ⟨r, hr⟩ : ∃ r, H.has L id = r := ⟨_, rfl⟩
  have hle := H.low_le L id
  rw [hm] at CF hle
  rw [hm, hr]
  have H0 := h
  obtain ⟨a, cap, rfl, h1, h2, hna, -⟩ := h.open
  have HU := hide hu
  have HM := hide hm
  have HR := hide hr
  have HW := hide hW
  clear hm hr hu hW h
  go_enter Try.func30, Try.ntmps30
  go_wp2_with fail
  rw [← unhide HW]
  refine CF.mono ?_
  rintro e w1 ⟨rfl, B1⟩
  have BB := below_trans' BW B1
  have p1 := cell_keep p0 B1
  have H2 := H0.below BB
  clear CF B1 p0 H1 BW HW
  by_cases hlt : m < L.length
  · have q1 : decide ((m : Int) < (L.length : Int)) = true := by simp; omega
    have q2 : (m : Int) < (L.length : Int) := by omega
    obtain ⟨a', c', hv', -, -, -, ho⟩ := H2.open
    simp only [Value.slice.injEq, true_and] at hv'
    obtain ⟨rfl, rfl⟩ := hv'
    obtain ⟨b, off, rfl, hb, hc⟩ := ho (by omega)
    obtain ⟨c, hx⟩ : ∃ c, L[m]? = some c := ⟨L[m], List.getElem?_eq_getElem hlt⟩
    obtain ⟨wa, wc, c0, c1, c2, -⟩ := hc m c hx
    have HX := hide hx
    clear ho hc hx H2
    cases r with
    | true =>
      have he : (c.id.toList == id.toList) = true := by
        obtain ⟨x, hx1, hx2, _⟩ := H.at_has (unhide HU) (unhide HR)
        rw [unhide HM, unhide HX] at hx2
        cases hx2
        rw [hx1]; simp
      go_wp2
      go_quiet (fail)
      go_wp2
      exact bodyPost_ret (v := .tuple #[.int .i64 m, .bool true]) (by simp [results, Try.results30, go_sem]) rfl ⟨rfl, below_dr BB _⟩
    | false =>
      have he : (c.id.toList == id.toList) = false := by
        have := H.at_not (unhide HR) (x := c) (by rw [unhide HM]; exact unhide HX)
        rw [K.eq_to]; simpa using this
      go_wp2
      go_quiet (fail)
      go_wp2
      exact bodyPost_ret (v := .tuple #[.int .i64 m, .bool false]) (by simp [results, Try.results30, go_sem]) rfl ⟨rfl, below_dr BB _⟩
  · have q1 : decide ((m : Int) < (L.length : Int)) = false := by simp; omega
    have q2 : ¬ (m : Int) < (L.length : Int) := by omega
    have HF : Hid (r = false) := by
      show _ = _
      cases r with
      | false => rfl
      | true =>
        have := H.has_lt (unhide HU) (unhide HR)
        rw [unhide HM] at this
        exact absurd this hlt
    clear H2
    go_wp2
    go_quiet (fail)
    go_wp2
    exact bodyPost_ret (v := .tuple #[.int .i64 m, .bool false]) (by simp [results, Try.results30, go_sem]) rfl ⟨by rw [unhide HF], below_dr BB _⟩

set_option maxHeartbeats 2000000 in
theorem rising_any (v : Value) (L : List Cd) (w : World) (h : Cs w v L) :
    Calls Try.prog 26 #[v] w fun e w' => e = .returned (.bool (H.rise L)) ∧ Below w.heap.size w w' := by
  have H0 := h
  obtain ⟨a, cap, rfl, h1, h2, hna, -⟩ := h.open
  obtain ⟨r, hr⟩ : ∃ r, H.rise L = r := ⟨_, rfl⟩
  rw [hr]
  have HR := hide hr
  clear h hr
  go_enter Try.func26, Try.ntmps26
  go_wp2
  go_loopw [3] (fun iv wr => ∃ k : Nat, 1 ≤ k ∧ (k ≤ L.length ∨ k = 1) ∧ iv = .int .i64 k ∧ Hid (∀ i x y, i + 1 < k → L[i]? = some x → L[i + 1]? = some y → K.lt x.id y.id = true) ∧ Below w.heap.size w wr) (fun iv _ => L.length - (intOf iv).toNat)
  case atStart => exact ⟨1, Nat.le_refl _, .inr rfl, rfl, hide (fun i x y hi => by omega), Below.refl _ _⟩
  case round =>
    obtain ⟨k, hk1, hk, rfl, HA, hbel⟩ := hrel
    by_cases hlt : k < L.length
    · obtain ⟨a', c', hv', -, -, -, ho⟩ := (H0.below hbel).open
      simp only [Value.slice.injEq, true_and] at hv'
      obtain ⟨rfl, rfl⟩ := hv'
      obtain ⟨b, off, rfl, hb, hc⟩ := ho (by omega)
      obtain ⟨j, rfl⟩ : ∃ j, k = j + 1 := ⟨k - 1, by omega⟩
      obtain ⟨c, hx⟩ : ∃ c, L[j + 1]? = some c := ⟨L[j + 1], List.getElem?_eq_getElem hlt⟩
      obtain ⟨d, hy⟩ : ∃ c, L[j]? = some c := ⟨L[j]'(by omega), List.getElem?_eq_getElem _⟩
      obtain ⟨wa, wc, c0, -, -, -⟩ := hc (j + 1) c hx
      obtain ⟨wb, wd, d0, -, -, -⟩ := hc j d hy
      have hle := K.le_not c.id d.id
      have hj1 : (((j + 1 : Nat) : Int) - 1) = (j : Int) := by omega
      have hj2 : ((j : Int) + 1 - 1) = (j : Int) := by omega
      have hj3 : IntKind.i64.wrap ((j : Int) + 1) = (j : Int) + 1 := by rw [IntKind.wrap_i64]; omega
      have hj4 : IntKind.i64.wrap (j : Int) = (j : Int) := by rw [IntKind.wrap_i64]; omega
      have HX := hide hx
      have HY := hide hy
      clear ho hc hx hy
      cases hq : K.lt d.id c.id with
      | false =>
        have HF : Hid (r = false) := by show _ = _; rw [← unhide HR]; exact H.rise_no (unhide HY) (unhide HX) hq
        rw [hq] at hle
        clear hq
        go_wp2
        go_quiet (fail)
        go_wp2
        go_ret
        exact ⟨by rw [unhide HF]; rfl, below_dr hbel _⟩
      | true =>
        have HQ := hide hq
        rw [hq] at hle
        clear hq
        go_wp2
        go_quiet (fail)
        go_wp2
        go_roundw
        case rel =>
          refine ⟨j + 2, by omega, .inl (by omega), by go_num, hide (fun i x y hi hx hy => ?_), below_dr hbel _⟩
          by_cases e : i = j
          · subst e
            rw [unhide HY] at hx
            rw [unhide HX] at hy
            cases hx
            cases hy
            exact unhide HQ
          · exact unhide HA i x y (by omega) hx hy
        case measure => simp [intOf]; omega
    · have HT : Hid (r = true) := by
        show _ = _
        rw [← unhide HR]
        exact H.rise_yes fun i x y hx hy => unhide HA i x y (by have := (List.getElem?_eq_some_iff.1 hy).1; omega) hx hy
      go_wp2
      go_ret
      exact ⟨by rw [unhide HT]; rfl, hbel⟩
end Go.Proofs.Ytefnkbgkcjhkoaa
