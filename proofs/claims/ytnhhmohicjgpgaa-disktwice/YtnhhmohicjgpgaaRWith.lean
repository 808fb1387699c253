/-
  The contract of the document's own with.
-/
import Derived.Test.YtnhhmohicjgpgaaWith
namespace Go.Proofs.Ytnhhmohicjgpgaa
open Go.RowKit

theorem take_snoc_pf (l : List Pf) (k : Nat) (f : Pf) (h : l[k]? = some f) : l.take (k + 1) = l.take k ++ [f] := by
  obtain ⟨hk, rfl⟩ := List.getElem?_eq_some_iff.1 h
  rw [List.take_succ_eq_append_getElem hk]

set_option maxHeartbeats 4000000 in
theorem rwith_any (v dv : Value) (L : List Pf) (f : Pf) (w : World) (h : Fl w v L) (hd : Sl .u8 w dv f.da) (hf : Fits L) :
    Calls Try.prog 43 #[v, .agg #[.string f.nm, dv, .bool f.su]] w fun e w' => ∃ v', e = .returned v' ∧ Fl w' v' (K.with L f) ∧ Below w.heap.size w w' := by
  have hL := hf.1
  obtain ⟨dd, dc0, rfl, -⟩ := id hd
  have H0 := h.below (below_alloc w (.cells #[.string f.nm, .slice dd f.da.length dc0, .bool f.su] 48))
  have D0 := hd.below (below_alloc w (.cells #[.string f.nm, .slice dd f.da.length dc0, .bool f.su] 48))
  obtain ⟨w0, hw0⟩ : ∃ w0, w0 = w.alloc (.cells #[.string f.nm, .slice dd f.da.length dc0, .bool f.su] 48) := ⟨_, rfl⟩
  obtain ⟨a, cap, rfl, hl, hm, hna, -⟩ := h.open
  clear h hd
  have z0 : w0.heap.size = w.heap.size + 1 := by rw [hw0]; simp
  have b0 : w0.cell? ⟨w.heap.size, 0, none⟩ = some (.string f.nm) := by rw [hw0]; simp
  have b1 : w0.cell? ⟨w.heap.size, 1, none⟩ = some (.slice dd f.da.length dc0) := by rw [hw0]; simp
  have b2 : w0.cell? ⟨w.heap.size, 2, none⟩ = some (.bool f.su) := by rw [hw0]; simp
  rw [← hw0] at H0 D0
  go_enter Try.func43, Try.ntmps43
  go_wp2
  rw [← hw0]
  go_loopw [5, 6] (fun v i wr => ∃ k : Nat, k ≤ L.length ∧ i = .int .i64 k ∧ (∀ j g, j < k → L[j]? = some g → K.lt g.nm f.nm = true) ∧ FO (w.heap.size + 1) w0 wr v (L.take k) ∧ Below (w.heap.size + 1) w0 wr) (fun _ i _ => L.length - (intOf i).toNat)
  case atStart => exact ⟨0, Nat.zero_le _, rfl, fun j g hj => by omega, FO.nil _ _ _, Below.refl _ _⟩
  case round =>
    obtain ⟨k, hk, rfl, hlow, hown, hbel⟩ := hrel
    have HLOW := hide hlow
    have HW := hide hw0
    have HZ := hide z0
    clear hlow hw0 z0
    have q0 : wr.cell? ⟨w.heap.size, 0, none⟩ = some (.string f.nm) := (hbel.cell (p := ⟨w.heap.size, 0, none⟩) (Nat.lt_succ_self _)).trans b0
    have q1 : wr.cell? ⟨w.heap.size, 1, none⟩ = some (.slice dd f.da.length dc0) := (hbel.cell (p := ⟨w.heap.size, 1, none⟩) (Nat.lt_succ_self _)).trans b1
    have q2 : wr.cell? ⟨w.heap.size, 2, none⟩ = some (.bool f.su) := (hbel.cell (p := ⟨w.heap.size, 2, none⟩) (Nat.lt_succ_self _)).trans b2
    have hbs : w.heap.size + 1 ≤ wr.heap.size := by have := hbel.size; have := unhide HZ; omega
    have lt1 : (L.take k).length ≤ 100 := by simp; omega
    by_cases hstop : k < L.length ∧ ∀ g, L[k]? = some g → K.lt g.nm f.nm = true
    · obtain ⟨hlt, hg0⟩ := hstop
      obtain ⟨g, hgk⟩ : ∃ g, L[k]? = some g := ⟨L[k], List.getElem?_eq_getElem hlt⟩
      have hlg := hg0 g hgk
      obtain ⟨a', sc', hv', -, -, -, ho⟩ := H0.open
      simp only [Value.slice.injEq, true_and] at hv'
      obtain ⟨rfl, rfl⟩ := hv'
      obtain ⟨b, off, rfl, hb, hc⟩ := ho (by omega)
      obtain ⟨da, dc, c0, c1, c2, c3⟩ := hc k g hgk
      have hbz : b < w.heap.size + 1 := by have := unhide HZ; omega
      have d0 := (hbel.cell (p := ⟨b, off + k * 3, none⟩) hbz).trans c0
      have d1 := (hbel.cell (p := ⟨b, off + k * 3 + 1, none⟩) hbz).trans c1
      have d2 := (hbel.cell (p := ⟨b, off + k * 3 + 2, none⟩) hbz).trans c2
      have hgs : g.nm.size ≤ maxLen := by have := (hf.2 g (List.mem_of_getElem? hgk)).2; unfold maxLen; omega
      have HG := hide hgk
      have ki : (k : Int) < (L.length : Int) := by omega
      have HLG := hide hlg
      have HTS := hide (take_snoc_pf L k g hgk)
      clear hg0 ho hc c0 c1 c2 hgk hlg
      go_wp2
      go_quiet ((go_at_call 31; exact Calls.quiet_of (below_b g.nm f.nm _ hgs _ (unhide HLG))))
      obtain ⟨wq, hwq⟩ : ∃ wq, wq = wr.drewN nq := ⟨_, rfl⟩
      have hbq : Below (w.heap.size + 1) w0 wq := by rw [hwq]; exact below_dr' hbel _
      have hzq : w.heap.size + 1 ≤ wq.heap.size := by rw [hwq]; exact hbs
      have Oq : FO (w.heap.size + 1) w0 wq u5 (L.take k) := by rw [hwq]; exact hown
      have y0 : wq.cell? ⟨b, off + k * 3, none⟩ = some (.string g.nm) := by rw [hwq]; exact d0
      have y1 : wq.cell? ⟨b, off + k * 3 + 1, none⟩ = some (.slice da g.da.length dc) := by rw [hwq]; exact d1
      have y2 : wq.cell? ⟨b, off + k * 3 + 2, none⟩ = some (.bool g.su) := by rw [hwq]; exact d2
      rw [← hwq]
      clear hwq q0 q1 q2 hbel hbs hown d0 d1 d2
      go_wp2_with (at_builtin; refine append_file (f := g) rfl _ _ rfl rfl rfl rfl Oq c3 hbq hzq (by omega) ?_; intro v1 w1 hown2 hbel2 _)
      go_roundw
      case rel =>
        refine ⟨k + 1, by omega, by go_num, fun j g' hj hg' => ?_, by rw [unhide HTS]; exact hown2, hbel2⟩
        rcases Nat.lt_or_ge j k with h1 | h1
        · exact unhide HLOW j g' h1 hg'
        · have : j = k := by omega
          subst this
          rw [unhide HG] at hg'
          cases hg'
          exact unhide HLG
      case measure => simp [intOf]; omega
    · have hno : ∀ g, L[k]? = some g → K.lt g.nm f.nm = false := by
        intro g hg
        have hlt := (List.getElem?_eq_some_iff.1 hg).1
        cases hx : K.lt g.nm f.nm with
        | false => rfl
        | true => exact absurd ⟨hlt, fun g' hg' => by rw [hg] at hg'; cases hg'; exact hx⟩ hstop
      have HWITH := hide (K.with_at hk (unhide HLOW) hno)
      obtain ⟨v1, v2, s1, s2, F1, F2⟩ := H0.cut k hk
      have lt2 : (L.drop k).length ≤ 100 := by simp; omega
      clear hstop s1 F1
      by_cases hlt : k < L.length
      · obtain ⟨g, hgk⟩ : ∃ g, L[k]? = some g := ⟨L[k], List.getElem?_eq_getElem hlt⟩
        have hlg := hno g hgk
        obtain ⟨a', sc', hv', -, -, -, ho⟩ := H0.open
        simp only [Value.slice.injEq, true_and] at hv'
        obtain ⟨rfl, rfl⟩ := hv'
        obtain ⟨b, off, rfl, hb, hc⟩ := ho (by omega)
        obtain ⟨da, dc, c0, c1, c2, c3⟩ := hc k g hgk
        have d0 := (hbel.cell (p := ⟨b, off + k * 3, none⟩) (by have := unhide HZ; simp; omega)).trans c0
        have hgs : g.nm.size ≤ maxLen := by have := (hf.2 g (List.mem_of_getElem? hgk)).2; unfold maxLen; omega
        have HLG := hide hlg
        have ki : (k : Int) < (L.length : Int) := by omega
        clear hno ho hc c0 c1 c2 c3 hgk hlg
        go_wp2
        go_quiet ((go_at_call 31; exact Calls.quiet_of (below_b g.nm f.nm _ hgs _ (unhide HLG))))
        obtain ⟨wq, hwq⟩ : ∃ wq, wq = wr.drewN nq := ⟨_, rfl⟩
        have hbq : Below (w.heap.size + 1) w0 wq := by rw [hwq]; exact below_dr' hbel _
        have hzq : w.heap.size + 1 ≤ wq.heap.size := by rw [hwq]; exact hbs
        have Oq : FO (w.heap.size + 1) w0 wq u5 (L.take k) := by rw [hwq]; exact hown
        have r0 : wq.cell? ⟨w.heap.size, 0, none⟩ = some (.string f.nm) := by rw [hwq]; exact q0
        have r1 : wq.cell? ⟨w.heap.size, 1, none⟩ = some (.slice dd f.da.length dc0) := by rw [hwq]; exact q1
        have r2 : wq.cell? ⟨w.heap.size, 2, none⟩ = some (.bool f.su) := by rw [hwq]; exact q2
        rw [← hwq]
        clear hwq q0 q1 q2 hbel hbs hown
        go_wp2_with (first
          | (at_builtin; refine append_file (f := f) rfl (.tmp 30) (.tmp 32) rfl rfl rfl rfl Oq D0 hbq hzq (by omega) ?_; intro x2 w2 O2 B2 _; have hz2 : w.heap.size + 1 ≤ w2.heap.size := (by have h1 := B2.size; have h2 := unhide HZ; omega))
          | (at_builtin; refine append_files rfl (.tmp 34) (.tmp 37) rfl rfl rfl F2 O2 B2 (by rw [unhide HZ]; exact Nat.le_refl _) hz2 (by simp; omega) ?_; intro x3 w3 O3 B3))
        go_ret
        have E := with_end (unhide HW) O3 B3
        exact ⟨_, rfl, by rw [unhide HWITH]; simpa using E.1, E.2⟩
      · go_wp2
        go_quiet (fail)
        obtain ⟨wq, hwq⟩ : ∃ wq, wq = wr.drewN nq := ⟨_, rfl⟩
        have hbq : Below (w.heap.size + 1) w0 wq := by rw [hwq]; exact below_dr' hbel _
        have hzq : w.heap.size + 1 ≤ wq.heap.size := by rw [hwq]; exact hbs
        have Oq : FO (w.heap.size + 1) w0 wq u5 (L.take k) := by rw [hwq]; exact hown
        have r0 : wq.cell? ⟨w.heap.size, 0, none⟩ = some (.string f.nm) := by rw [hwq]; exact q0
        have r1 : wq.cell? ⟨w.heap.size, 1, none⟩ = some (.slice dd f.da.length dc0) := by rw [hwq]; exact q1
        have r2 : wq.cell? ⟨w.heap.size, 2, none⟩ = some (.bool f.su) := by rw [hwq]; exact q2
        rw [← hwq]
        clear hwq q0 q1 q2 hbel hbs hown
        go_wp2_with (first
          | (at_builtin; refine append_file (f := f) rfl (.tmp 30) (.tmp 32) rfl rfl rfl rfl Oq D0 hbq hzq (by omega) ?_; intro x2 w2 O2 B2 _; have hz2 : w.heap.size + 1 ≤ w2.heap.size := (by have h1 := B2.size; have h2 := unhide HZ; omega))
          | (at_builtin; refine append_files rfl (.tmp 34) (.tmp 37) rfl rfl rfl F2 O2 B2 (by rw [unhide HZ]; exact Nat.le_refl _) hz2 (by simp; omega) ?_; intro x3 w3 O3 B3))
        go_ret
        have E := with_end (unhide HW) O3 B3
        exact ⟨_, rfl, by rw [unhide HWITH]; simpa using E.1, E.2⟩
end Go.Proofs.Ytnhhmohicjgpgaa
