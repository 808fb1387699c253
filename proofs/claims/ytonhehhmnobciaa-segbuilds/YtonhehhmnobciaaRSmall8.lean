/-
  The contracts of the document's own Fits and places.
-/
import Derived.Test.YtonhehhmnobciaaPlainS8
import Derived.Test.YtonhehhmnobciaaOwnS8
import Derived.Test.YtonhehhmnobciaaMayAll8
namespace Go.Proofs.Ytonhehhmnobciaa
set_option maxRecDepth 100000
open Go.RowKit

theorem fits_no {c : Cd} {r : Bool} (hr : S.fits c = r) (h : ¬ (c.w.length ≤ 120 ∧ (∀ x ∈ c.w, 1 ≤ x.size ∧ x.size ≤ 32) ∧ 1 ≤ c.id.size ∧ c.id.size ≤ 16 ∧ 0 ≤ c.key ∧ c.key ≤ 1073741824)) : r = false := by
  cases r with
  | false => rfl
  | true => exact absurd (S.fits_w hr) h
theorem fits_yes {c : Cd} {r : Bool} (hr : S.fits c = r) (h : c.w.length ≤ 120 ∧ (∀ x ∈ c.w, 1 ≤ x.size ∧ x.size ≤ 32) ∧ 1 ≤ c.id.size ∧ c.id.size ≤ 16 ∧ 0 ≤ c.key ∧ c.key ≤ 1073741824) : r = true := by
  rw [← hr]
  simp only [S.fits, Bool.and_eq_true, decide_eq_true_eq, List.all_eq_true]
  exact ⟨⟨⟨⟨⟨h.1, fun x hx => h.2.1 x hx⟩, h.2.2.1⟩, h.2.2.2.1⟩, h.2.2.2.2.1⟩, h.2.2.2.2.2⟩

set_option maxRecDepth 100000 in
set_option maxHeartbeats 4000000 in
theorem rfits_b (c : Cd) (wa : Option Addr) (wc : Nat) (w : World) (h : Gl .string w (.slice wa c.w.length wc) c.w) (r : Bool) (hr : S.fits c = r) :
    Calls Try.prog 33 #[.agg #[.string c.id, .int .i64 c.key, .slice wa c.w.length wc]] w fun e w' => e = .returned (.bool r) ∧ Below w.heap.size w w' := by
  obtain ⟨W, hW⟩ : ∃ W, W = w.alloc (.cells #[.string c.id, .int .i64 c.key, .slice wa c.w.length wc] 25) := ⟨_, rfl⟩
  have BW : Below w.heap.size w W := by rw [hW]; exact below_alloc _ _
  have X0 : W.heap[w.heap.size]? = some (.cells #[.string c.id, .int .i64 c.key, .slice wa c.w.length wc] 25 (0, 0)) := by rw [hW]; exact heap_alloc_new w _
  have HG := h.below BW
  have HR := hide hr
  have HW := hide hW
  have x0 := box_cell X0 (j := 0) rfl
  have x1 := box_cell X0 (j := 1) rfl
  have x2 := box_cell X0 (j := 2) rfl
  obtain ⟨a', c', hv', hl', hm', hn', hoW⟩ := HG.open
  simp only [Value.slice.injEq, true_and] at hv'
  obtain ⟨rfl, rfl⟩ := hv'
  clear hW h hr X0 HG
  by_cases h120 : 120 < c.w.length
  · have hf : r = false := fits_no (unhide HR) (fun h => by omega)
    subst hf
    clear hoW
    go_enter Try.func33, Try.ntmps33
    go_wp2
    go_ret
    exact ⟨rfl, by rw [← unhide HW]; exact BW⟩
  go_enter Try.func33, Try.ntmps33
  go_wp2
  rw [← unhide HW]
  go_loop [3] (fun iv => ∃ k : Nat, k ≤ c.w.length ∧ iv = .int .i64 k ∧ Hid (∀ i x, i < k → c.w[i]? = some x → 1 ≤ x.size ∧ x.size ≤ 32)) (fun iv => c.w.length - (intOf iv).toNat)
  case atStart => exact ⟨0, Nat.zero_le _, rfl, hide (fun i y hi _ => by omega)⟩
  case round =>
    obtain ⟨k, hk, rfl, HA⟩ := hrel
    by_cases hlt : k < c.w.length
    · obtain ⟨b, off, rfl, hb, hc⟩ := hoW (by omega)
      obtain ⟨x, hx⟩ : ∃ x, c.w[k]? = some x := ⟨c.w[k], List.getElem?_eq_getElem hlt⟩
      have d0 := hc k x hx
      have HX := hide hx
      clear hoW hc hx
      by_cases h1 : x.size < 1
      · have hf : r = false := fits_no (unhide HR) (fun h => by have := h.2.1 x (List.mem_of_getElem? (unhide HX)); omega)
        subst hf
        go_wp2
        go_ret
        exact ⟨rfl, BW⟩
      by_cases h2 : 32 < x.size
      · have hf : r = false := fits_no (unhide HR) (fun h => by have := h.2.1 x (List.mem_of_getElem? (unhide HX)); omega)
        subst hf
        go_wp2
        go_ret
        exact ⟨rfl, BW⟩
      · go_wp2
        go_round
        case rel =>
          refine ⟨k + 1, by omega, by go_num, hide (fun i y hi hy => ?_)⟩
          by_cases e : i = k
          · subst e
            rw [unhide HX] at hy
            cases hy
            omega
          · exact unhide HA i y (by omega) hy
        case measure => simp [intOf]; omega
    · clear hoW
      have HWD : Hid (∀ x ∈ c.w, 1 ≤ x.size ∧ x.size ≤ 32) := hide (fun x hx => by
        obtain ⟨m, hm2, e2⟩ := List.mem_iff_getElem.1 hx
        exact unhide HA m x (by omega) (by rw [List.getElem?_eq_getElem hm2, e2]))
      by_cases g1 : c.id.size < 1
      · have hf : r = false := fits_no (unhide HR) (fun h => by omega)
        subst hf
        go_wp2
        go_ret
        exact ⟨rfl, BW⟩
      by_cases g2 : 16 < c.id.size
      · have hf : r = false := fits_no (unhide HR) (fun h => by omega)
        subst hf
        go_wp2
        go_ret
        exact ⟨rfl, BW⟩
      by_cases g3 : c.key < 0
      · have hf : r = false := fits_no (unhide HR) (fun h => by omega)
        subst hf
        go_wp2
        go_ret
        exact ⟨rfl, BW⟩
      by_cases g4 : 1073741824 < c.key
      · have hf : r = false := fits_no (unhide HR) (fun h => by omega)
        subst hf
        have g5 : decide (c.key ≤ 1073741824) = false := by simp; omega
        go_wp2
        go_ret
        refine ⟨?_, BW⟩
        first | rfl | (simp; omega)
      · have hf : r = true := fits_yes (unhide HR) ⟨by omega, unhide HWD, by omega, by omega, by omega, by omega⟩
        subst hf
        go_wp2
        go_ret
        exact ⟨rfl, BW⟩

set_option maxRecDepth 100000 in
set_option maxHeartbeats 4000000 in
theorem rplaces_any (v : Value) (l : List ByteArray) (t : ByteArray) (w : World) (h : Gl .string w v l) (hl1 : l.length ≤ 1000) :
    Calls Try.prog 74 #[v, .string t] w fun e w' => ∃ v', e = .returned v' ∧ Pa w.heap.size w' v' (S.places l t) ∧ Below w.heap.size w w' := by
  obtain ⟨j0, hj, hj0, hj1, hj2⟩ := info_parts Try.info3
  have G := h
  obtain ⟨a, cap, rfl, hl, hm, hna, -⟩ := h.open
  clear h
  go_enter Try.func74, Try.ntmps74
  go_wp2
  go_loopw [5, 6] (fun ov iv wr => ∃ (k : Nat) (pre : List Int), k ≤ l.length ∧ iv = .int .i64 k ∧ Hid (pre = S.places (l.take k) t) ∧ pre.length ≤ k ∧ wr.ownsRow w.heap.size 3 1 ov pre.length (pre.map (Value.int .i64)) ∧ Below w.heap.size w wr) (fun _ iv _ => l.length - (intOf iv).toNat)
  case atStart => exact ⟨0, [], Nat.zero_le _, rfl, rfl, by simp, World.ownsRow_nil _ _ _ _, Below.refl _ _⟩
  case round =>
    obtain ⟨k2, pre2, hk2, rfl, HP2, hpre2, hown2, hbel2⟩ := hrel
    by_cases hlt2 : k2 < l.length
    · obtain ⟨a', c', hv', -, -, -, ho⟩ := (G.below hbel2).open
      simp only [Value.slice.injEq, true_and] at hv'
      obtain ⟨rfl, rfl⟩ := hv'
      obtain ⟨b, off, rfl, hb, hcell⟩ := ho (by omega)
      obtain ⟨x, hx⟩ : ∃ x, l[k2]? = some x := ⟨l[k2], List.getElem?_eq_getElem hlt2⟩
      have c0 := hcell k2 x hx
      have HST := hide (S.places_step hx t)
      have hbs := hbel2.size
      clear ho hcell hx
      by_cases hxt : x = t
      · subst hxt
        have q1 : (x.toList == x.toList) = true := by simp
        rw [if_pos rfl] at HST
        go_wp2_with (at_builtin; refine append_oneK (f := Value.int .i64) rfl _ _ 28 rfl Try.underlying28 hj hj0 hj1 hj2 rfl (fun _ => rfl) (pre := pre2) (y := (k2 : Int)) rfl rfl hown2 hbel2 (Nat.le_refl _) hbs (by omega) (by decide) ?_; intro v6 w6 O6 B6 g6 l6)
        clear g6 l6 hown2 hbel2
        go_roundw
        case rel =>
          refine ⟨k2 + 1, pre2 ++ [(k2 : Int)], by omega, by go_num, ?_, by simp; omega, O6, B6⟩
          show _ = _
          rw [unhide HST, ← unhide HP2]
        case measure => simp [intOf]; omega
      · have q1 : (x.toList == t.toList) = false := by rw [K.eq_to]; simpa using hxt
        rw [if_neg hxt, List.append_nil] at HST
        clear hxt
        go_wp2
        go_roundw
        case rel =>
          refine ⟨k2 + 1, pre2, by omega, by go_num, ?_, by omega, hown2, hbel2⟩
          show _ = _
          rw [unhide HST, ← unhide HP2]
        case measure => simp [intOf]; omega
    · have hpre' : pre2 = S.places l t := by rw [unhide HP2, List.take_of_length_le (by omega)]
      rw [hpre'] at hown2
      clear HP2 hpre2 hpre'
      go_wp2
      go_ret
      exact ⟨_, rfl, hown2, hbel2⟩
end Go.Proofs.Ytonhehhmnobciaa
