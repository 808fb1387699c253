/-
  The contracts of with and without, the program's and the document's own.
-/
import Derived.Test.YtnhhmohicjgpgaaMay
import Derived.Test.YtnhhmohicjgpgaaCut
namespace Go.Proofs.Ytnhhmohicjgpgaa
open Go.RowKit

set_option maxHeartbeats 2000000 in
theorem without_any (v : Value) (L : List Pf) (s : ByteArray) (w : World) (h : Fl w v L) (hf : Fits L) :
    Calls Try.prog 47 #[v, .string s] w fun e w' => ∃ v', e = .returned v' ∧ Fl w' v' (K.without L s) ∧ Below w.heap.size w w' := by
  obtain ⟨a, cap, rfl, hl, hm, hna, ho⟩ := h.open
  clear h
  have hL := hf.1
  go_enter Try.func47, Try.ntmps47
  go_wp2
  go_loopw [5, 10] (fun v i wr => ∃ k : Nat, k ≤ L.length ∧ i = .int .i64 k ∧ FO w.heap.size w wr v (K.without (L.take k) s) ∧ Below w.heap.size w wr) (fun _ i _ => L.length - (intOf i).toNat)
  case atStart => exact ⟨0, Nat.zero_le _, rfl, FO.nil _ _ _, Below.refl _ _⟩
  case round =>
    obtain ⟨k, hk, rfl, hown, hbel⟩ := hrel
    by_cases hlt : k < L.length
    · obtain ⟨f, hfk⟩ : ∃ f, L[k]? = some f := ⟨L[k], List.getElem?_eq_getElem hlt⟩
      obtain ⟨b, off, rfl, hb, hc⟩ := ho (by omega)
      obtain ⟨da, dc, c0, c1, c2, c3⟩ := hc k f hfk
      have d0 := (hbel.cell (p := ⟨b, off + k * 3, none⟩) hb).trans c0
      have d1 := (hbel.cell (p := ⟨b, off + k * 3 + 1, none⟩) hb).trans c1
      have d2 := (hbel.cell (p := ⟨b, off + k * 3 + 2, none⟩) hb).trans c2
      have hbs := hbel.size
      have hq := @K.eq_to f.nm s
      have hpl : (K.without (L.take k) s).length ≤ 4294967296 := by have := K.without_len (L.take k) s; simp at this; omega
      clear hc ho c0 c1 c2
      by_cases he : f.nm = s
      · have hq' : (f.nm.toList == s.toList) = true := by rw [hq]; simpa using he
        have HE := hide (K.without_same hfk he)
        clear hq he hfk
        go_wp2
        go_roundw
        case rel => exact ⟨k + 1, by omega, by go_num, by rw [unhide HE]; exact hown.alloc _, hbel.alloc hbs _⟩
        case measure => simp [intOf]; omega
      · have hq' : (f.nm.toList == s.toList) = false := by rw [hq]; simpa using he
        have HE := hide (K.without_other hfk he)
        clear hq he hfk
        go_wp2_with (at_builtin; refine append_file (f := f) rfl _ _ rfl rfl rfl (by simp) (hown.alloc _) c3 (hbel.alloc hbs _) (by simp; omega) hpl ?_; intro v1 w1 hown2 hbel2 _)
        go_roundw
        case rel => exact ⟨k + 1, by omega, by go_num, by rw [unhide HE]; exact hown2, hbel2⟩
        case measure => simp [intOf]; omega
    · go_wp2
      go_ret
      rw [List.take_of_length_le (by omega)] at hown
      exact ⟨_, rfl, hown.fl (fun _ _ h => h.below hbel), hbel⟩

set_option maxHeartbeats 2000000 in
theorem rwithout_any (v : Value) (L : List Pf) (s : ByteArray) (w : World) (h : Fl w v L) (hf : Fits L) :
    Calls Try.prog 44 #[v, .string s] w fun e w' => ∃ v', e = .returned v' ∧ Fl w' v' (K.without L s) ∧ Below w.heap.size w w' := by
  obtain ⟨a, cap, rfl, hl, hm, hna, ho⟩ := h.open
  clear h
  have hL := hf.1
  go_enter Try.func44, Try.ntmps44
  go_wp2
  go_loopw [5, 6] (fun v i wr => ∃ k : Nat, k ≤ L.length ∧ i = .int .i64 k ∧ FO w.heap.size w wr v (K.without (L.take k) s) ∧ Below w.heap.size w wr) (fun _ i _ => L.length - (intOf i).toNat)
  case atStart => exact ⟨0, Nat.zero_le _, rfl, FO.nil _ _ _, Below.refl _ _⟩
  case round =>
    obtain ⟨k, hk, rfl, hown, hbel⟩ := hrel
    by_cases hlt : k < L.length
    · obtain ⟨f, hfk⟩ : ∃ f, L[k]? = some f := ⟨L[k], List.getElem?_eq_getElem hlt⟩
      obtain ⟨b, off, rfl, hb, hc⟩ := ho (by omega)
      obtain ⟨da, dc, c0, c1, c2, c3⟩ := hc k f hfk
      have d0 := (hbel.cell (p := ⟨b, off + k * 3, none⟩) hb).trans c0
      have d1 := (hbel.cell (p := ⟨b, off + k * 3 + 1, none⟩) hb).trans c1
      have d2 := (hbel.cell (p := ⟨b, off + k * 3 + 2, none⟩) hb).trans c2
      have hbs := hbel.size
      have hq := @K.eq_to f.nm s
      have hpl : (K.without (L.take k) s).length ≤ 4294967296 := by have := K.without_len (L.take k) s; simp at this; omega
      clear hc ho c0 c1 c2
      by_cases he : f.nm = s
      · have hq' : (f.nm.toList == s.toList) = true := by rw [hq]; simpa using he
        have HE := hide (K.without_same hfk he)
        clear hq he hfk
        go_wp2
        go_roundw
        case rel => exact ⟨k + 1, by omega, by go_num, by rw [unhide HE]; exact hown, hbel⟩
        case measure => simp [intOf]; omega
      · have hq' : (f.nm.toList == s.toList) = false := by rw [hq]; simpa using he
        have HE := hide (K.without_other hfk he)
        clear hq he hfk
        go_wp2_with (at_builtin; refine append_file (f := f) rfl _ _ rfl rfl rfl rfl hown c3 hbel hbs hpl ?_; intro v1 w1 hown2 hbel2 _)
        go_roundw
        case rel => exact ⟨k + 1, by omega, by go_num, by rw [unhide HE]; exact hown2, hbel2⟩
        case measure => simp [intOf]; omega
    · go_wp2
      go_ret
      rw [List.take_of_length_le (by omega)] at hown
      exact ⟨_, rfl, hown.fl (fun _ _ h => h.below hbel), hbel⟩

theorem with_end {w w0 w3 : World} {o : Obj} {v : Value} {M : List Pf} (hw : w0 = w.alloc o) (h : FO (w.heap.size + 1) w0 w3 v M) (hb : Below (w.heap.size + 1) w0 w3) : Fl w3 v M ∧ Below w.heap.size w w3 := by
  subst hw
  have hb' : Below (w.alloc o).heap.size (w.alloc o) w3 := by simpa using hb
  exact ⟨h.fl fun _ _ h => h.below hb', below_trans' (below_alloc w o) hb'⟩

set_option maxHeartbeats 4000000 in
theorem with_any (v dv : Value) (L : List Pf) (f : Pf) (w : World) (h : Fl w v L) (hd : Sl .u8 w dv f.da) (hf : Fits L) :
    Calls Try.prog 46 #[v, .agg #[.string f.nm, dv, .bool f.su]] w fun e w' => ∃ v', e = .returned v' ∧ Fl w' v' (K.with L f) ∧ Below w.heap.size w w' := by
  have hL := hf.1
  obtain ⟨dd, dc0, rfl, -⟩ := id hd
  have H0 := h.below (below_alloc w (.cells #[.string f.nm, .slice dd f.da.length dc0, .bool f.su] 48))
  have D0 := hd.below (below_alloc w (.cells #[.string f.nm, .slice dd f.da.length dc0, .bool f.su] 48))
  obtain ⟨w0, hw0⟩ : ∃ w0, w0 = w.alloc (.cells #[.string f.nm, .slice dd f.da.length dc0, .bool f.su] 48) := ⟨_, rfl⟩
  obtain ⟨a, cap, rfl, hl, hm, hna, -⟩ := h.open
  clear h hd
  have z0 : w0.heap.size = w.heap.size + 1 := by rw [hw0]; simp
  have b0 : w0.cell? ⟨w.heap.size, 0, none⟩ = some (.string f.nm) := by rw [hw0]; simp
  have b1 : w0.cell? ⟨w.heap.size, 1, none⟩ = some (.slice dd f.da.length dc0) := by rw [hw0]; simp
  have b2 : w0.cell? ⟨w.heap.size, 2, none⟩ = some (.bool f.su) := by rw [hw0]; simp
  rw [← hw0] at H0 D0
  go_enter Try.func46, Try.ntmps46
  go_wp2
  rw [← hw0]
  go_loopw [5] (fun i wr => ∃ k : Nat, k ≤ L.length ∧ i = .int .i64 k ∧ (∀ j g, j < k → L[j]? = some g → K.lt g.nm f.nm = true) ∧ Below (w.heap.size + 1) w0 wr) (fun i _ => L.length - (intOf i).toNat)
  case atStart => exact ⟨0, Nat.zero_le _, rfl, fun j g hj => by omega, Below.refl _ _⟩
  case round =>
    obtain ⟨k, hk, rfl, hlow, hbel⟩ := hrel
    have HLOW := hide hlow
    have HW := hide hw0
    have HZ := hide z0
    clear hlow hw0 z0
    have q0 : wr.cell? ⟨w.heap.size, 0, none⟩ = some (.string f.nm) := (hbel.cell (p := ⟨w.heap.size, 0, none⟩) (Nat.lt_succ_self _)).trans b0
    have hbs : w.heap.size + 1 ≤ wr.heap.size := by have := hbel.size; have := unhide HZ; omega
    by_cases hstop : k < L.length ∧ ∀ g, L[k]? = some g → K.lt g.nm f.nm = true
    · obtain ⟨hlt, hg0⟩ := hstop
      obtain ⟨g, hgk⟩ : ∃ g, L[k]? = some g := ⟨L[k], List.getElem?_eq_getElem hlt⟩
      have hlg := hg0 g hgk
      obtain ⟨a', sc', hv', -, -, -, ho⟩ := H0.open
      simp only [Value.slice.injEq, true_and] at hv'
      obtain ⟨rfl, rfl⟩ := hv'
      obtain ⟨b, off, rfl, hb, hc⟩ := ho (by omega)
      obtain ⟨da, dc, c0, c1, c2, c3⟩ := hc k g hgk
      have d0 := (hbel.cell (p := ⟨b, off + k * 3, none⟩) (by have := unhide HZ; simp; omega)).trans c0
      have hlg' : Op.bytesLess g.nm.toList f.nm.toList = true := hlg
      have HG := hide hgk
      have ki : (k : Int) < (L.length : Int) := by omega
      have HLG := hide hlg
      clear hg0 ho hc c0 c1 c2 c3 hgk hlg
      go_wp2
      go_quiet (fail)
      go_wp2
      go_roundw
      case rel =>
        refine ⟨k + 1, by omega, by go_num, fun j g' hj hg' => ?_, below_dr' hbel _⟩
        rcases Nat.lt_or_ge j k with h1 | h1
        · exact unhide HLOW j g' h1 hg'
        · have : j = k := by omega
          subst this
          rw [unhide HG] at hg'
          cases hg'
          exact unhide HLG
      case measure => simp [intOf]; omega
    · have hno : ∀ g, L[k]? = some g → K.lt g.nm f.nm = false := by
        intro g hg
        have hlt := (List.getElem?_eq_some_iff.1 hg).1
        cases hx : K.lt g.nm f.nm with
        | false => rfl
        | true => exact absurd ⟨hlt, fun g' hg' => by rw [hg] at hg'; cases hg'; exact hx⟩ hstop
      have HWITH := hide (K.with_at hk (unhide HLOW) hno)
      obtain ⟨v1, v2, s1, s2, F1, F2⟩ := H0.cut k hk
      have lt1 : (L.take k).length ≤ 100 := by simp; omega
      have lt2 : (L.drop k).length ≤ 100 := by simp; omega
      clear hstop
      by_cases hlt : k < L.length
      · obtain ⟨g, hgk⟩ : ∃ g, L[k]? = some g := ⟨L[k], List.getElem?_eq_getElem hlt⟩
        have hlg := hno g hgk
        obtain ⟨a', sc', hv', -, -, -, ho⟩ := H0.open
        simp only [Value.slice.injEq, true_and] at hv'
        obtain ⟨rfl, rfl⟩ := hv'
        obtain ⟨b, off, rfl, hb, hc⟩ := ho (by omega)
        obtain ⟨da, dc, c0, c1, c2, c3⟩ := hc k g hgk
        have d0 := (hbel.cell (p := ⟨b, off + k * 3, none⟩) (by have := unhide HZ; simp; omega)).trans c0
        have hlg' : Op.bytesLess g.nm.toList f.nm.toList = false := hlg
        have ki : (k : Int) < (L.length : Int) := by omega
        clear hno ho hc c0 c1 c2 c3 hgk hlg
        go_wp2
        go_quiet (fail)
        obtain ⟨wq, hwq⟩ : ∃ wq, wq = wr.drewN nq := ⟨_, rfl⟩
        have hbq : Below (w.heap.size + 1) w0 wq := by rw [hwq]; exact below_dr' hbel _
        have hzq : w.heap.size + 1 ≤ wq.heap.size := by rw [hwq]; exact hbs
        rw [← hwq]
        clear hwq q0 hbel hbs
        go_wp2_with (first
          | (at_builtin; refine append_files (pre := []) rfl (.const (.slice none 0 0)) (.tmp 25) rfl rfl rfl F1 (FO.nil _ _ _) hbq (by rw [unhide HZ]; exact Nat.le_refl _) hzq (by simp; omega) ?_; intro x1 w1 O1 B1; have r0 := (B1.cell (p := ⟨w.heap.size, 0, none⟩) (Nat.lt_succ_self _)).trans b0; have r1 := (B1.cell (p := ⟨w.heap.size, 1, none⟩) (Nat.lt_succ_self _)).trans b1; have r2 := (B1.cell (p := ⟨w.heap.size, 2, none⟩) (Nat.lt_succ_self _)).trans b2; have hz1 : w.heap.size + 1 ≤ w1.heap.size := (by have h1 := B1.size; have h2 := unhide HZ; omega))
          | (at_builtin; refine append_file (f := f) rfl (.tmp 27) (.tmp 29) rfl rfl rfl rfl O1 D0 B1 hz1 (by simp; omega) ?_; intro x2 w2 O2 B2 _; have hz2 : w.heap.size + 1 ≤ w2.heap.size := (by have h1 := B2.size; have h2 := unhide HZ; omega))
          | (at_builtin; refine append_files rfl (.tmp 31) (.tmp 34) rfl rfl rfl F2 O2 B2 (by rw [unhide HZ]; exact Nat.le_refl _) hz2 (by simp; omega) ?_; intro x3 w3 O3 B3))
        go_ret
        have E := with_end (unhide HW) O3 B3
        exact ⟨_, rfl, by rw [unhide HWITH]; simpa using E.1, E.2⟩
      · go_wp2
        go_quiet (fail)
        obtain ⟨wq, hwq⟩ : ∃ wq, wq = wr.drewN nq := ⟨_, rfl⟩
        have hbq : Below (w.heap.size + 1) w0 wq := by rw [hwq]; exact below_dr' hbel _
        have hzq : w.heap.size + 1 ≤ wq.heap.size := by rw [hwq]; exact hbs
        rw [← hwq]
        clear hwq q0 hbel hbs
        go_wp2_with (first
          | (at_builtin; refine append_files (pre := []) rfl (.const (.slice none 0 0)) (.tmp 25) rfl rfl rfl F1 (FO.nil _ _ _) hbq (by rw [unhide HZ]; exact Nat.le_refl _) hzq (by simp; omega) ?_; intro x1 w1 O1 B1; have r0 := (B1.cell (p := ⟨w.heap.size, 0, none⟩) (Nat.lt_succ_self _)).trans b0; have r1 := (B1.cell (p := ⟨w.heap.size, 1, none⟩) (Nat.lt_succ_self _)).trans b1; have r2 := (B1.cell (p := ⟨w.heap.size, 2, none⟩) (Nat.lt_succ_self _)).trans b2; have hz1 : w.heap.size + 1 ≤ w1.heap.size := (by have h1 := B1.size; have h2 := unhide HZ; omega))
          | (at_builtin; refine append_file (f := f) rfl (.tmp 27) (.tmp 29) rfl rfl rfl rfl O1 D0 B1 hz1 (by simp; omega) ?_; intro x2 w2 O2 B2 _; have hz2 : w.heap.size + 1 ≤ w2.heap.size := (by have h1 := B2.size; have h2 := unhide HZ; omega))
          | (at_builtin; refine append_files rfl (.tmp 31) (.tmp 34) rfl rfl rfl F2 O2 B2 (by rw [unhide HZ]; exact Nat.le_refl _) hz2 (by simp; omega) ?_; intro x3 w3 O3 B3))
        go_ret
        have E := with_end (unhide HW) O3 B3
        exact ⟨_, rfl, by rw [unhide HWITH]; simpa using E.1, E.2⟩
end Go.Proofs.Ytnhhmohicjgpgaa
