/-
  The contracts of places, May, first and Find: they answer as the plain functions do.
-/
import Derived.Test.YtonhehhmnobciaaPlain6
import Derived.Test.YtonhehhmnobciaaRise
namespace Go.Proofs.Ytonhehhmnobciaa
set_option maxRecDepth 100000
open Go.RowKit

theorem dropPt {L : List Pt} {k : Nat} {p : Pt} (h : L[k]? = some p) : L.drop k = p :: L.drop (k + 1) := by
  obtain ⟨hk, rfl⟩ := List.getElem?_eq_some_iff.1 h
  exact List.drop_eq_getElem_cons hk

set_option maxHeartbeats 1000000 in
theorem places_any (v : Value) (l : List Int) (w : World) (h : Sl .i64 w v l) :
    Calls Try.prog 117 #[v] w fun e w' => e = .returned (.bool (Q.places l)) ∧ w' = w := by
  obtain ⟨a, cap, rfl, hl, hm, hna, ho⟩ := h.open
  clear h
  go_enter Try.func117, Try.ntmps117
  go_wp2
  go_loop [3, 8] (fun mv iv => ∃ (k : Nat) (m : Int), k ≤ l.length ∧ iv = .int .i64 k ∧ mv = .int .i64 m ∧ 0 ≤ m ∧ m ≤ 120 ∧ Q.riseB 0 120 l = Q.riseB m 120 (l.drop k)) (fun _ iv => l.length - (intOf iv).toNat)
  case atStart => exact ⟨0, 0, Nat.zero_le _, rfl, rfl, by omega, by omega, rfl⟩
  case round =>
    obtain ⟨k, m, hk, rfl, rfl, hm0, hm1, heq⟩ := hrel
    have HE := hide heq
    clear heq
    by_cases hlt : k < l.length
    · obtain ⟨b, off, rfl, hbl, hc⟩ := ho (by omega)
      have c1 := hc k hlt
      obtain ⟨x, hxe⟩ : ∃ x, x = l[k] := ⟨_, rfl⟩
      have c2 : w.cell? ⟨b, off + k, none⟩ = some (.int .i64 x) := by rw [c1, hxe]; simp [hlt]
      have HX := hide hxe
      clear hxe c1 hc ho
      by_cases h1 : x < m
      · go_wp2
        go_ret
        exact ⟨by rw [Q.places, unhide HE, dropAt hlt (unhide HX), Q.rise_not (by omega)]; rfl, rfl⟩
      · by_cases h2 : 120 ≤ x
        · go_wp2
          go_ret
          exact ⟨by rw [Q.places, unhide HE, dropAt hlt (unhide HX), Q.rise_not (by omega)]; rfl, rfl⟩
        · go_wp2
          go_round
          case rel => exact ⟨k + 1, x + 1, by omega, by go_num, rfl, by omega, by omega, by rw [unhide HE, dropAt hlt (unhide HX), Q.rise_cons (by omega)]⟩
          case measure => simp [intOf]; omega
    · go_wp2
      go_ret
      exact ⟨by rw [Q.places, unhide HE, List.drop_eq_nil_of_le (by omega)]; simp [Q.riseB], rfl⟩

set_option maxHeartbeats 1000000 in
theorem pmay_any (v : Value) (L : List Pt) (w : World) (h : Pl w v L) :
    Calls Try.prog 79 #[v] w fun e w' => e = .returned (.bool (Q.may L)) ∧ Below w.heap.size w w' := by
  have H := h
  obtain ⟨a, cap, rfl, hl, hm, hna, -⟩ := h.open
  clear h
  go_enter Try.func79, Try.ntmps79
  go_wp2
  go_loopw [3, 8] (fun mv iv wr => ∃ (k : Nat) (m : Int), k ≤ L.length ∧ iv = .int .i64 k ∧ mv = .int .i64 m ∧ 0 ≤ m ∧ m ≤ 64 ∧ Q.may L = Q.mayB m (L.drop k) ∧ Below w.heap.size w wr) (fun _ iv _ => L.length - (intOf iv).toNat)
  case atStart => exact ⟨0, 0, Nat.zero_le _, rfl, rfl, by omega, by omega, rfl, Below.refl _ _⟩
  case round =>
    obtain ⟨k, m, hk, rfl, rfl, hm0, hm1, heq, hbel⟩ := hrel
    have HE := hide heq
    have H1 := H.below hbel
    clear heq
    by_cases hlt : k < L.length
    · obtain ⟨a', cap', hv', -, -, -, ho⟩ := H1.open
      simp only [Value.slice.injEq, true_and] at hv'
      obtain ⟨rfl, rfl⟩ := hv'
      obtain ⟨b, off, rfl, hb, hc⟩ := ho (by omega)
      obtain ⟨p, hp⟩ : ∃ p, L[k]? = some p := ⟨L[k], List.getElem?_eq_getElem hlt⟩
      obtain ⟨da, dc, c0, c1, c2⟩ := hc k p hp
      have HD := hide (dropPt hp)
      have C2 := c2.below (below_alloc wr (.cells #[.int .i64 p.d, .slice da p.a.length dc] 51))
      clear ho hc H1 hp c2
      obtain ⟨d, hd⟩ : ∃ d, p.d = d := ⟨_, rfl⟩
      obtain ⟨pl, hpl⟩ : ∃ pl, Q.places p.a = pl := ⟨_, rfl⟩
      rw [hd] at c0 C2
      have HPD := hide hd
      have HPP := hide hpl
      clear hd hpl
      by_cases h1 : d < m
      · go_wp2
        go_ret
        exact ⟨by rw [unhide HE, unhide HD, Q.may_not1 (by rw [unhide HPD]; omega)]; rfl, hbel.alloc hbel.size _⟩
      · by_cases h2 : 64 ≤ d
        · go_wp2
          go_ret
          exact ⟨by rw [unhide HE, unhide HD, Q.may_not1 (by rw [unhide HPD]; omega)]; rfl, hbel.alloc hbel.size _⟩
        · cases pl with
          | false =>
            go_wp2_with (go_at_call 117; refine (places_any _ _ _ C2).mono ?_; rintro e w' ⟨rfl, rfl⟩; rw [unhide HPP])
            go_ret
            exact ⟨by rw [unhide HE, unhide HD, Q.may_not2 (unhide HPP)]; rfl, hbel.alloc hbel.size _⟩
          | true =>
            go_wp2_with (go_at_call 117; refine (places_any _ _ _ C2).mono ?_; rintro e w' ⟨rfl, rfl⟩; rw [unhide HPP])
            go_roundw
            case rel => exact ⟨k + 1, d + 1, by omega, by go_num, rfl, by omega, by omega, by rw [unhide HE, unhide HD, Q.may_cons (by rw [unhide HPD]; omega) (unhide HPP), unhide HPD], hbel.alloc hbel.size _⟩
            case measure => simp [intOf]; omega
    · go_wp2
      go_ret
      exact ⟨by rw [unhide HE, List.drop_eq_nil_of_le (by omega)]; rfl, hbel⟩

end Go.Proofs.Ytonhehhmnobciaa
