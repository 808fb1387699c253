/-
  The contract of the document's own Same.
-/
import Derived.Test.YtnhhmohicjgpgaaSameD
namespace Go.Proofs.Ytnhhmohicjgpgaa
open Go.RowKit

theorem bytes_q (va vb : Value) (xs ys : List Int) (w : World) (ha : Sl .u8 w va xs) (hb : Sl .u8 w vb ys) (r : Bool) (hr : decide (xs = ys) = r) :
    Calls Try.prog 14 #[va, vb] w fun e w' => e = .returned (.bool r) ∧ ∃ n, w' = w.drewN n := by
  rw [← hr]
  exact bytes_any va vb xs ys w ha hb
theorem bytes_b (va vb : Value) (xs ys : List Int) (w : World) (ha : Sl .u8 w va xs) (hb : Sl .u8 w vb ys) (r : Bool) (hr : decide (xs = ys) = r) :
    Calls Try.prog 14 #[va, vb] w fun e w' => e = .returned (.bool r) ∧ Below w.heap.size w w' :=
  (bytes_any va vb xs ys w ha hb).mono fun e w' ⟨h1, n, h2⟩ => ⟨by rw [h1, hr], by rw [h2]; exact below_dr (Below.refl _ _) n⟩

theorem file_ne_da {f g : Pf} (h : ¬ f.da = g.da) : ¬ f = g := fun e => h (by rw [e])
theorem file_ne_nm {f g : Pf} (h : ¬ f.nm = g.nm) : ¬ f = g := fun e => h (by rw [e])
theorem file_ne_su {f g : Pf} (h : ¬ f.su = g.su) : ¬ f = g := fun e => h (by rw [e])
theorem file_eq {f g : Pf} (h1 : f.nm = g.nm) (h2 : f.da = g.da) (h3 : f.su = g.su) : f = g := by cases f; cases g; simp_all

set_option maxHeartbeats 3000000 in
theorem rsame_any (c1 c2 : Int) (va vb : Value) (L M : List Pf) (w : World) (ha : Fl w va L) (hb : Fl w vb M) (r : Bool) (hr : (decide (c1 = c2) && Pf.eqs L M) = r) :
    Calls Try.prog 17 #[.agg #[.int .i64 c1, va], .agg #[.int .i64 c2, vb]] w fun e w' => e = .returned (.bool r) ∧ Below w.heap.size w w' := by
  have B2 : Below w.heap.size w ((w.alloc (.cells #[.int .i64 c1, va] 24)).alloc (.cells #[.int .i64 c2, vb] 24)) := (below_alloc _ _).alloc (by simp) _
  obtain ⟨a, sc, rfl, hl, hm, hna, oa⟩ := ha.open
  obtain ⟨a2, sc2, rfl, hl2, hm2, hna2, ob⟩ := hb.open
  clear ha hb hna hna2
  by_cases hc : c1 = c2
  · have hc' : (c1 != c2) = false := by simpa using hc
    have HC := hide hc
    clear hc
    by_cases hlen : L.length = M.length
    · have HL := hide hlen
      have h0 : ((L.length : Int) != (M.length : Int)) = false := by simp [hlen]
      clear hlen
      go_enter Try.func17, Try.ntmps17
      go_wp2
      go_loopw [5] (fun i wr => ∃ k : Nat, k ≤ L.length ∧ i = .int .i64 k ∧ L.take k = M.take k ∧ Below (w.heap.size + 2) ((w.alloc (.cells #[.int .i64 c1, .slice a L.length sc] 24)).alloc (.cells #[.int .i64 c2, .slice a2 M.length sc2] 24)) wr) (fun i _ => L.length - (intOf i).toNat)
      case atStart => exact ⟨0, Nat.zero_le _, rfl, rfl, Below.refl _ _⟩
      case round =>
        obtain ⟨k, hk, rfl, ht, hbel⟩ := hrel
        have HT := hide ht
        clear ht
        have hwb : Below w.heap.size w wr := B2.trans (hbel.mono (by omega))
        have q1 : wr.cell? ⟨w.heap.size, 1, none⟩ = some (.slice a L.length sc) := (hbel.cell (p := ⟨w.heap.size, 1, none⟩) (by simp)).trans (by simp)
        have q2 : wr.cell? ⟨w.heap.size + 1, 1, none⟩ = some (.slice a2 M.length sc2) := (hbel.cell (p := ⟨w.heap.size + 1, 1, none⟩) (by simp)).trans (by simp [go_sem])
        by_cases hlt : k < L.length
        · have hltb : k < M.length := by have := unhide HL; omega
          have ki : (k : Int) < (M.length : Int) := by omega
          have ki1 : (k : Int) < (L.length : Int) := by omega
          obtain ⟨f, hf⟩ : ∃ f, L[k]? = some f := ⟨L[k], List.getElem?_eq_getElem hlt⟩
          obtain ⟨g, hg⟩ : ∃ g, M[k]? = some g := ⟨M[k], List.getElem?_eq_getElem hltb⟩
          obtain ⟨b1, o1, rfl, x1, k1⟩ := oa (by omega)
          obtain ⟨b2, o2, rfl, x2, k2⟩ := ob (by omega)
          obtain ⟨da, dc, c0, c1', c2', c3⟩ := k1 k f hf
          obtain ⟨ea, ec, e0, e1, e2, e3⟩ := k2 k g hg
          have d0 := (hwb.cell (p := ⟨b1, o1 + k * 3, none⟩) x1).trans c0
          have d1 := (hwb.cell (p := ⟨b1, o1 + k * 3 + 1, none⟩) x1).trans c1'
          have d2 := (hwb.cell (p := ⟨b1, o1 + k * 3 + 2, none⟩) x1).trans c2'
          have g0 := (hwb.cell (p := ⟨b2, o2 + k * 3, none⟩) x2).trans e0
          have g1 := (hwb.cell (p := ⟨b2, o2 + k * 3 + 1, none⟩) x2).trans e1
          have g2 := (hwb.cell (p := ⟨b2, o2 + k * 3 + 2, none⟩) x2).trans e2
          have S1 := c3.below hwb
          have S2 := e3.below hwb
          have HF := hide hf
          have HG := hide hg
          clear c0 c1' c2' c3 e0 e1 e2 e3 k1 k2 oa ob hf hg
          have hq := @K.eq_to f.nm g.nm
          by_cases hd : f.da = g.da
          · have hd' : decide (f.da = g.da) = true := by simpa using hd
            have HD := hide hd
            have HD' := hide hd'
            clear hd hd'
            by_cases hn : f.nm = g.nm
            · have hn' : (f.nm.toList == g.nm.toList) = true := by rw [hq]; simpa using hn
              have HN := hide hn
              clear hq hn
              by_cases hs : f.su = g.su
              · have HS := hide hs
                rw [← hs] at g2
                clear hs
                obtain ⟨su, hsu⟩ : ∃ su, su = f.su := ⟨_, rfl⟩
                rw [← hsu] at d2 g2
                clear hsu
                have hs' : (su != su) = false := by simp
                go_wp2
                go_quiet ((go_at_call 14; exact Calls.quiet_of (bytes_q _ _ _ _ _ (S1.drewN _) (S2.drewN _) _ (unhide HD'))))
                go_wp2
                go_quiet (fail)
                go_wp2
                go_roundw
                case rel => exact ⟨k + 1, by omega, by go_num, files_step (unhide HF) (unhide HG) (unhide HT) (file_eq (unhide HN) (unhide HD) (unhide HS)), below_dr' hbel _⟩
                case measure => simp [intOf]; omega
              · have HS := hide hs
                have hg' : g.su = !f.su := by cases h1 : f.su <;> cases h2 : g.su <;> simp_all
                rw [hg'] at g2
                clear hs hg'
                obtain ⟨su, hsu⟩ : ∃ su, su = f.su := ⟨_, rfl⟩
                rw [← hsu] at d2 g2
                clear hsu
                cases su
                all_goals
                  simp only [Bool.not_true, Bool.not_false] at d2 g2
                  go_wp2
                  go_quiet ((go_at_call 14; exact Calls.quiet_of (bytes_q _ _ _ _ _ (S1.drewN _) (S2.drewN _) _ (unhide HD'))))
                  go_wp2
                  go_quiet (fail)
                  go_wp2
                  go_ret
                  exact ⟨ret_bool (by rw [← hr, files_not (unhide HF) (unhide HG) (file_ne_su (unhide HS))]; simp), below_dr (below_dr hwb _) _⟩
            · have hn' : (f.nm.toList == g.nm.toList) = false := by rw [hq]; simpa using hn
              have HN := hide hn
              clear hq hn
              go_wp2
              go_quiet ((go_at_call 14; exact Calls.quiet_of (bytes_q _ _ _ _ _ (S1.drewN _) (S2.drewN _) _ (unhide HD'))))
              go_wp2
              go_quiet (fail)
              go_wp2
              go_ret
              exact ⟨ret_bool (by rw [← hr, files_not (unhide HF) (unhide HG) (file_ne_nm (unhide HN))]; simp), below_dr (below_dr hwb _) _⟩
          · have hd' : decide (f.da = g.da) = false := by simpa using hd
            have HD := hide hd
            have HD' := hide hd'
            clear hd hd' hq
            go_wp2
            go_quiet ((go_at_call 14; exact Calls.quiet_of (bytes_q _ _ _ _ _ (S1.drewN _) (S2.drewN _) _ (unhide HD'))))
            go_wp2
            go_quiet (fail)
            go_wp2
            go_ret
            exact ⟨ret_bool (by rw [← hr, files_not (unhide HF) (unhide HG) (file_ne_da (unhide HD))]; simp), below_dr (below_dr hwb _) _⟩
        · go_wp2
          go_ret
          exact ⟨ret_bool (by rw [← hr, files_end (unhide HL) hlt (unhide HT)]; simp [unhide HC]), hwb⟩
    · have h0 : ((L.length : Int) != (M.length : Int)) = true := by rw [bne_iff_ne]; omega
      go_enter Try.func17, Try.ntmps17
      go_wp2
      go_ret
      exact ⟨ret_bool (by rw [← hr, files_len hlen]; simp), B2⟩
  · have hc' : (c1 != c2) = true := by simpa using hc
    have HC := hide hc
    clear hc
    go_enter Try.func17, Try.ntmps17
    go_wp2
    go_ret
    exact ⟨ret_bool (by rw [← hr]; simp [unhide HC]), B2⟩
end Go.Proofs.Ytnhhmohicjgpgaa
