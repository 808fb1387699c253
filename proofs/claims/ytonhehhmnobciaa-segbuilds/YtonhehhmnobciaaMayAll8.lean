/-
  The contract of mayAll: may all cards be, no two of one id?
-/
import Derived.Test.YtonhehhmnobciaaSmall8
namespace Go.Proofs.Ytonhehhmnobciaa
set_option maxRecDepth 100000
open Go.RowKit

namespace S
def mayAll (l : List Cd) : Bool := l.all fits && decide (l.map (·.id)).Nodup
end S

theorem take_snoc8 {α : Type} {l : List α} {k : Nat} {x : α} (h : l[k]? = some x) : l.take (k + 1) = l.take k ++ [x] := by
  obtain ⟨hk, rfl⟩ := List.getElem?_eq_some_iff.1 h
  exact List.take_succ_eq_append_getElem hk

set_option maxHeartbeats 2000000 in
theorem mayAll_b (v : Value) (L : List Cd) (w : World) (h : Cs w v L) (hlen : L.length ≤ 4398046511104) (r : Bool) (hr : S.mayAll L = r) :
    Calls Try.prog 27 #[v] w fun e w' => e = .returned (.bool r) ∧ Below w.heap.size w w' := by
  obtain ⟨i9, hi9, hz90, hz91, hz92⟩ := info_parts Try.infoS
  have H := h
  obtain ⟨a, cap, rfl, hl, hm, hna, -⟩ := h.open
  have HR := hide hr
  clear h hr
  go_enter Try.func27, Try.ntmps27
  go_wp2
  go_loopw [3, 8] (fun ov iv wr => ∃ (k : Nat) (pre : List ByteArray), k ≤ L.length ∧ iv = .int .i64 k ∧ Hid (pre = (L.take k).map (·.id)) ∧ Hid (pre.length = k) ∧ Hid ((L.take k).all S.fits = true) ∧ wr.ownsRow w.heap.size 9 1 ov pre.length (pre.map Value.string) ∧ Below w.heap.size w wr) (fun _ iv _ => L.length - (intOf iv).toNat)
  case atStart => exact ⟨0, [], Nat.zero_le _, rfl, rfl, rfl, rfl, World.ownsRow_nil _ _ _ _, Below.refl _ _⟩
  case round =>
    obtain ⟨k, pre, hk, rfl, HP, HPL, HF, hown, hbel⟩ := hrel
    have hpl : pre.length ≤ 4398046511104 := by have := unhide HPL; omega
    by_cases hlt : k < L.length
    · have H1 := H.below hbel
      obtain ⟨a', cap', hv', -, -, -, ho⟩ := H1.open
      simp only [Value.slice.injEq, true_and] at hv'
      obtain ⟨rfl, rfl⟩ := hv'
      obtain ⟨b, off, rfl, hb, hc⟩ := ho (by omega)
      obtain ⟨c, hx⟩ : ∃ c, L[k]? = some c := ⟨L[k], List.getElem?_eq_getElem hlt⟩
      obtain ⟨wa, wc, c0, c1, c2, G0⟩ := hc k c hx
      have HX := hide hx
      have HTS := hide (take_snoc8 hx)
      have hmem := hide (List.mem_of_getElem? hx)
      have G1 := G0.below (below_alloc wr (.cells #[.string c.id, .int .i64 c.key, .slice wa c.w.length wc] 25))
      have O1 := hown.alloc (.cells #[.string c.id, .int .i64 c.key, .slice wa c.w.length wc] 25)
      have B1 := hbel.alloc hbel.size (.cells #[.string c.id, .int .i64 c.key, .slice wa c.w.length wc] 25)
      have hbs := hbel.size
      clear ho hc hx H1
      cases hh : S.head c.id c.key c.w.length with
      | false =>
        have HH := hide hh
        have HR2 : Hid (r = false) := by
          show _ = _
          rw [← unhide HR, S.mayAll]
          have : S.fits c = false := by rw [S.fits_head, hh]; rfl
          have : L.all S.fits = false := by
            rw [← Bool.not_eq_true, List.all_eq_true]
            intro h9
            have := h9 c (unhide hmem)
            simp_all
          rw [this]; rfl
        clear hh
        go_wp2_with (go_at_call 61; refine (mayHead_b _ _ _ _ _ (unhide HH)).mono ?_; rintro e w' ⟨rfl, rfl⟩)
        go_ret
        exact ⟨by rw [unhide HR2]; rfl, B1⟩
      | true =>
        cases hbd : c.w.any S.badw with
        | true =>
          have HH := hide hh
          have HB := hide hbd
          have HR2 : Hid (r = false) := by
            show _ = _
            rw [← unhide HR, S.mayAll]
            have : S.fits c = false := by rw [S.fits_head, hh, hbd]; rfl
            have : L.all S.fits = false := by
              rw [← Bool.not_eq_true, List.all_eq_true]
              intro h9
              have := h9 c (unhide hmem)
              simp_all
            rw [this]; rfl
          clear hh hbd
          go_wp2_with (first | (go_at_call 61; refine (mayHead_b _ _ _ _ _ (unhide HH)).mono ?_; rintro e w' ⟨rfl, rfl⟩) | (go_at_call 62; refine (anyBad_b _ _ _ G1 _ (unhide HB)).mono ?_; rintro e w' ⟨rfl, rfl⟩))
          go_ret
          exact ⟨by rw [unhide HR2]; rfl, B1⟩
        | false =>
          have HH := hide hh
          have HB := hide hbd
          have HFC : Hid (S.fits c = true) := by show _ = _; rw [S.fits_head, hh, hbd]; rfl
          clear hh hbd
          go_wp2_with (first
            | (go_at_call 61; refine (mayHead_b _ _ _ _ _ (unhide HH)).mono ?_; rintro e w' ⟨rfl, rfl⟩)
            | (go_at_call 62; refine (anyBad_b _ _ _ G1 _ (unhide HB)).mono ?_; rintro e w' ⟨rfl, rfl⟩)
            | (at_builtin; refine append_oneL (f := Value.string) rfl _ _ 23 rfl Try.underlying23 hi9 hz90 hz91 hz92 rfl (fun _ => rfl) (pre := pre) c.id rfl rfl (by simp) O1 (by simp; omega) (by omega) (by omega) ?_; intro g gc w5 O5 g5 l5))
          have B5 := B1.grown g5 (by simp; omega) (fun j hj => (O1.lt j hj).1)
          clear g5 l5 O1 B1 G1 hown
          go_wp2
          go_roundw
          case rel =>
            refine ⟨k + 1, pre ++ [c.id], by omega, by go_num, ?_, by (show _ = _; have := unhide HPL; simp [this]), ?_, O5, B5⟩
            · show _ = _
              rw [unhide HTS, List.map_append, ← unhide HP]; rfl
            · show _ = _
              rw [unhide HTS, List.all_append, unhide HF]
              simp [unhide HFC]
          case measure => simp [intOf]; omega
    · have hkl : k = L.length := by omega
      have HL : Hid (pre = L.map (·.id)) := by show _ = _; rw [unhide HP, List.take_of_length_le (by omega)]
      have HA : Hid (L.all S.fits = true) := by have := unhide HF; rw [List.take_of_length_le (by omega)] at this; exact this
      have G1 := Gl.owned hown
      have hz : ∀ x ∈ pre, x.size ≤ maxLen := by
        intro x hx
        rw [unhide HL] at hx
        obtain ⟨c, hc, rfl⟩ := List.mem_map.1 hx
        have := List.all_eq_true.1 (unhide HA) c hc
        simp only [S.fits, Bool.and_eq_true, decide_eq_true_eq] at this
        unfold maxLen
        omega
      have HN : Hid (decide pre.Nodup = r) := by show _ = _; rw [← unhide HR, S.mayAll, unhide HA, unhide HL]; rfl
      go_wp2_with fail
      refine (unlike_b _ _ _ G1 hz _ (unhide HN)).mono ?_
      rintro e w2 ⟨rfl, B2⟩
      have BB := below_trans' hbel B2
      go_wp2
      go_ret
      exact ⟨rfl, BB⟩
end Go.Proofs.Ytonhehhmnobciaa
