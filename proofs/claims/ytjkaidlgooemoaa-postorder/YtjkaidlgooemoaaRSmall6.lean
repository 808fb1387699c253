/-
  The contracts of the document's own rising, May, Find, has and with: they answer as the plain functions do.
-/
import Derived.Test.YtjkaidlgooemoaaSmall6
import Derived.Test.YtjkaidlgooemoaaCut6
import Derived.Test.YtjkaidlgooemoaaRefRise
namespace Go.Proofs.Ytjkaidlgooemoaa
open Go.RowKit

set_option maxHeartbeats 1000000 in
theorem rrising_any (v : Value) (l : List Int) (z : Int) (w : World) (h : Sl .i64 w v l) (hz : z ≤ 1000000) :
    Calls Try.prog 36 #[v, .int .i64 z] w fun e w' => e = .returned (.bool (Q.riseB 0 z l)) ∧ Below w.heap.size w w' := by
  have H := h
  obtain ⟨a, cap, rfl, hl, hm, hna, -⟩ := h.open
  clear h
  go_enter Try.func36, Try.ntmps36
  go_wp2
  go_loopw [5] (fun iv wr => ∃ (k : Nat) (m : Int), k ≤ l.length ∧ iv = .int .i64 k ∧ m = least l k ∧ 0 ≤ m ∧ m ≤ 1000000 ∧ Q.riseB 0 z l = Q.riseB m z (l.drop k) ∧ Below w.heap.size w wr) (fun iv _ => l.length - (intOf iv).toNat)
  case atStart => exact ⟨0, 0, Nat.zero_le _, rfl, rfl, by omega, by omega, rfl, Below.refl _ _⟩
  case round =>
    obtain ⟨k, m, hk, rfl, hme, hm0, hm1, heq, hbel⟩ := hrel
    have HE := hide heq
    have HM := hide hme
    have H1 := H.below hbel
    clear heq hme
    by_cases hlt : k < l.length
    · obtain ⟨a', cap', hv', -, -, -, ho⟩ := H1.open
      simp only [Value.slice.injEq, true_and] at hv'
      obtain ⟨rfl, rfl⟩ := hv'
      obtain ⟨b, off, rfl, hbl, hc⟩ := ho (by omega)
      have c1 := hc k hlt
      obtain ⟨x, hxe⟩ : ∃ x, x = l[k] := ⟨_, rfl⟩
      have c2 : wr.cell? ⟨b, off + k, none⟩ = some (.int .i64 x) := by rw [c1, hxe]; simp [hlt]
      have HX := hide hxe
      clear hxe c1 ho H1
      have fin : ∀ h : ¬ (m ≤ x ∧ x < z), Q.riseB 0 z l = false := fun h => by
        rw [HE.out, dropAt hlt HX.out, Q.rise_not h]
      have FIN := hide fin
      clear fin
      by_cases h1 : x < 0
      · have t1 : decide (x < 0) = true := by simpa using h1
        clear hc
        go_wp2
        go_quiet (fail)
        go_wp2
        go_ret
        exact ⟨by rw [unhide FIN (by omega)]; rfl, below_dr' hbel _⟩
      · have t1 : decide (x < 0) = false := by simpa using h1
        by_cases h2 : z ≤ x
        · have t2 : decide (z ≤ x) = true := by simpa using h2
          clear hc
          go_wp2
          go_quiet (fail)
          go_wp2
          go_ret
          exact ⟨by rw [unhide FIN (by omega)]; rfl, below_dr' hbel _⟩
        · have t2 : decide (z ≤ x) = false := by simpa using h2
          by_cases hk0 : k = 0
          · have HK := hide hk0
            have t3 : decide (0 < k) = false := by simp; omega
            have t4 : decide ((0 : Int) < k) = false := by simp; omega
            clear hc hk0
            go_wp2
            go_quiet (fail)
            go_wp2
            go_roundw
            case rel => exact ⟨k + 1, x + 1, by omega, by go_num, (least_succ l hlt HX.out).symm, by omega, by omega, by rw [HE.out, dropAt hlt HX.out, Q.rise_cons (by have := HM.out; rw [unhide HK, least_zero] at this; omega)], below_dr' hbel _⟩
            case measure => simp [intOf]; omega
          · have t3 : decide (0 < k) = true := by simp; omega
            have t4 : decide ((0 : Int) < k) = true := by simp; omega
            have c3 := hc (k - 1) (by omega)
            have c4 : wr.cell? ⟨b, off + (k - 1), none⟩ = some (.int .i64 (m - 1)) := by
              rw [c3, HM.out, least, if_neg hk0]
              simp
            clear hc c3
            by_cases h5 : x ≤ m - 1
            · have t5 : decide (x ≤ m - 1) = true := by simpa using h5
              go_wp2
              go_quiet (fail)
              go_wp2
              go_ret
              exact ⟨by rw [unhide FIN (by omega)]; rfl, below_dr' hbel _⟩
            · have t5 : decide (x ≤ m - 1) = false := by simpa using h5
              go_wp2
              go_quiet (fail)
              go_wp2
              go_roundw
              case rel => exact ⟨k + 1, x + 1, by omega, by go_num, (least_succ l hlt HX.out).symm, by omega, by omega, by rw [HE.out, dropAt hlt HX.out, Q.rise_cons (by omega)], below_dr' hbel _⟩
              case measure => simp [intOf]; omega
    · go_wp2
      go_ret
      exact ⟨by rw [unhide HE, List.drop_eq_nil_of_le (by omega)]; rfl, hbel⟩

/-- The least document that the posting at place k may have. -/
def leastD (L : List Pt) (k : Nat) : Int := least (L.map Pt.d) k
theorem leastD_zero (L : List Pt) : leastD L 0 = 0 := rfl
theorem leastD_succ {L : List Pt} {k : Nat} {p : Pt} (h : L[k]? = some p) : leastD L (k + 1) = p.d + 1 := by
  obtain ⟨hk, rfl⟩ := List.getElem?_eq_some_iff.1 h
  simp [leastD, least, hk]

set_option maxHeartbeats 2000000 in
theorem rmay_any (v : Value) (L : List Pt) (w : World) (h : Pl w v L) :
    Calls Try.prog 16 #[v] w fun e w' => e = .returned (.bool (Q.may L)) ∧ Below w.heap.size w w' := by
  have H := h
  obtain ⟨a, cap, rfl, hl, hm, hna, -⟩ := h.open
  clear h
  by_cases hlen : 64 < L.length
  · have hr : Q.may L = false := by
      rw [← Bool.not_eq_true]
      intro e
      have := Q.may_le e
      omega
    have HR := hide hr
    clear hr
    go_enter Try.func16, Try.ntmps16
    go_wp2
    go_ret
    exact ⟨by rw [unhide HR]; rfl, Below.refl _ _⟩
  go_enter Try.func16, Try.ntmps16
  go_wp2
  go_loopw [3] (fun iv wr => ∃ (k : Nat) (m : Int), k ≤ L.length ∧ iv = .int .i64 k ∧ m = leastD L k ∧ 0 ≤ m ∧ m ≤ 64 ∧ Q.may L = Q.mayB m (L.drop k) ∧ Below w.heap.size w wr) (fun iv _ => L.length - (intOf iv).toNat)
  case atStart => exact ⟨0, 0, Nat.zero_le _, rfl, rfl, by omega, by omega, rfl, Below.refl _ _⟩
  case round =>
    obtain ⟨k, m, hk, rfl, hme, hm0, hm1, heq, hbel⟩ := hrel
    have HE := hide heq
    have HM := hide hme
    have H1 := H.below hbel
    clear heq hme
    by_cases hlt : k < L.length
    · obtain ⟨a', cap', hv', -, -, -, ho⟩ := H1.open
      simp only [Value.slice.injEq, true_and] at hv'
      obtain ⟨rfl, rfl⟩ := hv'
      obtain ⟨b, off, rfl, hbl, hc⟩ := ho (by omega)
      obtain ⟨p, hp⟩ : ∃ p, L[k]? = some p := ⟨L[k], List.getElem?_eq_getElem hlt⟩
      obtain ⟨da, dc, c0, c1, c2⟩ := hc k p hp
      have HD := hide (dropPt hp)
      have HS := hide (leastD_succ hp)
      obtain ⟨d, hd⟩ : ∃ d, p.d = d := ⟨_, rfl⟩
      obtain ⟨pl, hpl⟩ : ∃ pl, Q.riseB 0 120 p.a = pl := ⟨_, rfl⟩
      obtain ⟨n, hn⟩ : ∃ n, p.a.length = n := ⟨_, rfl⟩
      rw [hd] at c0
      rw [hn] at c1 c2
      have HPD := hide hd
      have HPP := hide hpl
      have HPN := hide hn
      clear hd hpl hn ho H1
      go_wp2_with fail
      refine (rrising_any _ _ _ _ c2 (by omega)).mono ?_
      rintro e w1 ⟨rfl, B1⟩
      rw [unhide HPP]
      have B2 := below_trans' hbel B1
      have d0 := cell_keep c0 B1
      have d1 := cell_keep c1 B1
      have fin1 : ∀ h : ¬ (m ≤ d ∧ d < 64), Q.may L = false := fun h => by
        rw [unhide HE, unhide HD, Q.may_not1 (by rw [unhide HPD]; exact h)]
      have fin2 : Q.places p.a = false → Q.may L = false := fun h => by
        rw [unhide HE, unhide HD, Q.may_not2 h]
      have F1 := hide fin1
      have F2 := hide fin2
      clear fin1 fin2 c0 c1 c2
      cases pl with
      | false =>
        clear hc
        go_wp2
        go_quiet (fail)
        go_wp2
        go_ret
        exact ⟨by rw [unhide F2 (by simp [Q.places, unhide HPP])]; rfl, below_dr' B2 _⟩
      | true =>
        by_cases h1 : n < 1
        · have t0 : decide ((n : Int) < 1) = true := by simp; omega
          have h1' : (n : Int) < 1 := by omega
          clear hc
          go_wp2
          go_quiet (fail)
          go_wp2
          go_ret
          exact ⟨by rw [unhide F2 (by simp [Q.places, unhide HPN]; omega)]; rfl, below_dr' B2 _⟩
        · have t0 : decide ((n : Int) < 1) = false := by simp; omega
          have hpl : Q.places p.a = true := by
            simp only [Q.places, unhide HPP, Bool.true_and, decide_eq_true_eq, unhide HPN]
            omega
          have HPL := hide hpl
          clear hpl
          by_cases h2 : d < 0
          · have t1 : decide (d < 0) = true := by simpa using h2
            clear hc
            go_wp2
            go_quiet (fail)
            go_wp2
            go_ret
            exact ⟨by rw [unhide F1 (by omega)]; rfl, below_dr' B2 _⟩
          · have t1 : decide (d < 0) = false := by simpa using h2
            by_cases h3 : 63 < d
            · have t2 : decide (63 < d) = true := by simpa using h3
              clear hc
              go_wp2
              go_quiet (fail)
              go_wp2
              go_ret
              exact ⟨by rw [unhide F1 (by omega)]; rfl, below_dr' B2 _⟩
            · have t2 : decide (63 < d) = false := by simpa using h3
              by_cases hk0 : k = 0
              · have HK := hide hk0
                have t3 : decide (0 < k) = false := by simp; omega
                have t4 : decide ((0 : Int) < k) = false := by simp; omega
                clear hc hk0
                go_wp2
                go_quiet (fail)
                go_wp2
                go_roundw
                case rel => exact ⟨k + 1, d + 1, by omega, by go_num, by rw [unhide HS, unhide HPD], by omega, by omega, by rw [unhide HE, unhide HD, Q.may_cons (by have := HM.out; rw [unhide HK, leastD_zero] at this; rw [unhide HPD]; omega) (unhide HPL), unhide HPD], below_dr' B2 _⟩
                case measure => simp [intOf]; omega
              · have t3 : decide (0 < k) = true := by simp; omega
                have t4 : decide ((0 : Int) < k) = true := by simp; omega
                obtain ⟨q, hq⟩ : ∃ q, L[k - 1]? = some q := ⟨L[k - 1], List.getElem?_eq_getElem (by omega)⟩
                obtain ⟨-, -, c3, -, -⟩ := hc (k - 1) q hq
                have hqd : q.d = m - 1 := by
                  have := leastD_succ hq
                  rw [show k - 1 + 1 = k by omega, ← HM.out] at this
                  omega
                rw [hqd] at c3
                have c4 := cell_keep c3 B1
                clear hc c3 hq hqd
                by_cases h5 : d ≤ m - 1
                · have t5 : decide (d ≤ m - 1) = true := by simpa using h5
                  go_wp2
                  go_quiet (fail)
                  go_wp2
                  go_ret
                  exact ⟨by rw [unhide F1 (by omega)]; rfl, below_dr' B2 _⟩
                · have t5 : decide (d ≤ m - 1) = false := by simpa using h5
                  go_wp2
                  go_quiet (fail)
                  go_wp2
                  go_roundw
                  case rel => exact ⟨k + 1, d + 1, by omega, by go_num, by rw [unhide HS, unhide HPD], by omega, by omega, by rw [unhide HE, unhide HD, Q.may_cons (by rw [unhide HPD]; omega) (unhide HPL), unhide HPD], below_dr' B2 _⟩
                  case measure => simp [intOf]; omega
    · go_wp2
      go_ret
      exact ⟨by rw [unhide HE, List.drop_eq_nil_of_le (by omega)]; rfl, hbel⟩
end Go.Proofs.Ytjkaidlgooemoaa
