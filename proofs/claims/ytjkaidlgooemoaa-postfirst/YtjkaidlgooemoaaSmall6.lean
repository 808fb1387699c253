/-
  The contracts of places, May, first and Find: they answer as the plain functions do.
-/
import Derived.Test.YtjkaidlgooemoaaPlain6
import Derived.Test.YtjkaidlgooemoaaRise
namespace Go.Proofs.Ytjkaidlgooemoaa
open Go.RowKit

theorem dropPt {L : List Pt} {k : Nat} {p : Pt} (h : L[k]? = some p) : L.drop k = p :: L.drop (k + 1) := by
  obtain ⟨hk, rfl⟩ := List.getElem?_eq_some_iff.1 h
  exact List.drop_eq_getElem_cons hk

set_option maxHeartbeats 1000000 in
theorem places_any (v : Value) (l : List Int) (w : World) (h : Sl .i64 w v l) :
    Calls Try.prog 35 #[v] w fun e w' => e = .returned (.bool (Q.places l)) ∧ w' = w := by
  obtain ⟨a, cap, rfl, hl, hm, hna, ho⟩ := h.open
  clear h
  go_enter Try.func35, Try.ntmps35
  go_wp2
  go_loop [3, 8] (fun mv iv => ∃ (k : Nat) (m : Int), k ≤ l.length ∧ iv = .int .i64 k ∧ mv = .int .i64 m ∧ 0 ≤ m ∧ m ≤ 120 ∧ Q.riseB 0 120 l = Q.riseB m 120 (l.drop k)) (fun _ iv => l.length - (intOf iv).toNat)
  case atStart => exact ⟨0, 0, Nat.zero_le _, rfl, rfl, by omega, by omega, rfl⟩
  case round =>
    obtain ⟨k, m, hk, rfl, rfl, hm0, hm1, heq⟩ := hrel
    have HE := hide heq
    clear heq
    by_cases hlt : k < l.length
    · obtain ⟨b, off, rfl, hbl, hc⟩ := ho (by omega)
      have c1 := hc k hlt
      obtain ⟨x, hxe⟩ : ∃ x, x = l[k] := ⟨_, rfl⟩
      have c2 : w.cell? ⟨b, off + k, none⟩ = some (.int .i64 x) := by rw [c1, hxe]; simp [hlt]
      have HX := hide hxe
      clear hxe c1 hc ho
      by_cases h1 : x < m
      · go_wp2
        go_ret
        exact ⟨by rw [Q.places, unhide HE, dropAt hlt (unhide HX), Q.rise_not (by omega)]; rfl, rfl⟩
      · by_cases h2 : 120 ≤ x
        · go_wp2
          go_ret
          exact ⟨by rw [Q.places, unhide HE, dropAt hlt (unhide HX), Q.rise_not (by omega)]; rfl, rfl⟩
        · go_wp2
          go_round
          case rel => exact ⟨k + 1, x + 1, by omega, by go_num, rfl, by omega, by omega, by rw [unhide HE, dropAt hlt (unhide HX), Q.rise_cons (by omega)]⟩
          case measure => simp [intOf]; omega
    · go_wp2
      go_ret
      exact ⟨by rw [Q.places, unhide HE, List.drop_eq_nil_of_le (by omega)]; simp [Q.riseB], rfl⟩

set_option maxHeartbeats 1000000 in
theorem may_any (v : Value) (L : List Pt) (w : World) (h : Pl w v L) :
    Calls Try.prog 15 #[v] w fun e w' => e = .returned (.bool (Q.may L)) ∧ Below w.heap.size w w' := by
  have H := h
  obtain ⟨a, cap, rfl, hl, hm, hna, -⟩ := h.open
  clear h
  go_enter Try.func15, Try.ntmps15
  go_wp2
  go_loopw [3, 8] (fun mv iv wr => ∃ (k : Nat) (m : Int), k ≤ L.length ∧ iv = .int .i64 k ∧ mv = .int .i64 m ∧ 0 ≤ m ∧ m ≤ 64 ∧ Q.may L = Q.mayB m (L.drop k) ∧ Below w.heap.size w wr) (fun _ iv _ => L.length - (intOf iv).toNat)
  case atStart => exact ⟨0, 0, Nat.zero_le _, rfl, rfl, by omega, by omega, rfl, Below.refl _ _⟩
  case round =>
    obtain ⟨k, m, hk, rfl, rfl, hm0, hm1, heq, hbel⟩ := hrel
    have HE := hide heq
    have H1 := H.below hbel
    clear heq
    by_cases hlt : k < L.length
    · obtain ⟨a', cap', hv', -, -, -, ho⟩ := H1.open
      simp only [Value.slice.injEq, true_and] at hv'
      obtain ⟨rfl, rfl⟩ := hv'
      obtain ⟨b, off, rfl, hb, hc⟩ := ho (by omega)
      obtain ⟨p, hp⟩ : ∃ p, L[k]? = some p := ⟨L[k], List.getElem?_eq_getElem hlt⟩
      obtain ⟨da, dc, c0, c1, c2⟩ := hc k p hp
      have HD := hide (dropPt hp)
      have C2 := c2.below (below_alloc wr (.cells #[.int .i64 p.d, .slice da p.a.length dc] 39))
      clear ho hc H1 hp c2
      obtain ⟨d, hd⟩ : ∃ d, p.d = d := ⟨_, rfl⟩
      obtain ⟨pl, hpl⟩ : ∃ pl, Q.places p.a = pl := ⟨_, rfl⟩
      rw [hd] at c0 C2
      have HPD := hide hd
      have HPP := hide hpl
      clear hd hpl
      by_cases h1 : d < m
      · go_wp2
        go_ret
        exact ⟨by rw [unhide HE, unhide HD, Q.may_not1 (by rw [unhide HPD]; omega)]; rfl, hbel.alloc hbel.size _⟩
      · by_cases h2 : 64 ≤ d
        · go_wp2
          go_ret
          exact ⟨by rw [unhide HE, unhide HD, Q.may_not1 (by rw [unhide HPD]; omega)]; rfl, hbel.alloc hbel.size _⟩
        · cases pl with
          | false =>
            go_wp2_with (go_at_call 35; refine (places_any _ _ _ C2).mono ?_; rintro e w' ⟨rfl, rfl⟩; rw [unhide HPP])
            go_ret
            exact ⟨by rw [unhide HE, unhide HD, Q.may_not2 (unhide HPP)]; rfl, hbel.alloc hbel.size _⟩
          | true =>
            go_wp2_with (go_at_call 35; refine (places_any _ _ _ C2).mono ?_; rintro e w' ⟨rfl, rfl⟩; rw [unhide HPP])
            go_roundw
            case rel => exact ⟨k + 1, d + 1, by omega, by go_num, rfl, by omega, by omega, by rw [unhide HE, unhide HD, Q.may_cons (by rw [unhide HPD]; omega) (unhide HPP), unhide HPD], hbel.alloc hbel.size _⟩
            case measure => simp [intOf]; omega
    · go_wp2
      go_ret
      exact ⟨by rw [unhide HE, List.drop_eq_nil_of_le (by omega)]; rfl, hbel⟩

set_option maxHeartbeats 1000000 in
theorem first_any (v : Value) (L : List Pt) (d : Int) (w : World) (h : Pl w v L) :
    Calls Try.prog 28 #[v, .int .i64 d] w fun e w' => e = .returned (.int .i64 (Q.first L d)) ∧ w' = w := by
  obtain ⟨a, cap, rfl, hl, hm, hna, ho⟩ := h.open
  clear h
  go_enter Try.func28, Try.ntmps28
  go_wp2
  go_loop [5] (fun iv => ∃ k : Nat, k ≤ L.length ∧ iv = .int .i64 k ∧ ∀ i y, i < k → (L.map Pt.d)[i]? = some y → y < d) (fun iv => L.length - (intOf iv).toNat)
  case atStart => exact ⟨0, Nat.zero_le _, rfl, fun i y hi _ => by omega⟩
  case round =>
    obtain ⟨k, hk, rfl, hall⟩ := hrel
    have HA := hide hall
    clear hall
    by_cases hlt : k < L.length
    · obtain ⟨b, off, rfl, hb, hc⟩ := ho (by omega)
      obtain ⟨p, hp⟩ : ∃ p, L[k]? = some p := ⟨L[k], List.getElem?_eq_getElem hlt⟩
      obtain ⟨da, dc, c0, -, -⟩ := hc k p hp
      have HP := hide hp
      obtain ⟨x, hx⟩ : ∃ x, p.d = x := ⟨_, rfl⟩
      rw [hx] at c0
      have HX := hide hx
      clear ho hc hp hx
      by_cases h1 : x < d
      · go_wp2
        go_round
        case rel =>
          refine ⟨k + 1, by omega, by go_num, fun i y hi hy => ?_⟩
          by_cases e : i = k
          · subst e
            rw [List.getElem?_map, unhide HP] at hy
            simp at hy
            have := unhide HX
            omega
          · exact unhide HA i y (by omega) hy
        case measure => simp [intOf]; omega
      · go_wp2
        go_ret
        refine ⟨?_, rfl⟩
        rw [Q.first, Q.ahead_is (k := k) (by simp; omega) (unhide HA) (fun y hy => by
          rw [List.getElem?_map, unhide HP] at hy
          simp at hy
          have := unhide HX
          omega)]
        rfl
    · go_wp2
      go_ret
      refine ⟨?_, rfl⟩
      rw [Q.first, Q.ahead_is (k := k) (by simp; omega) (unhide HA) (fun y hy => by
          rw [List.getElem?_eq_none (by simp; omega)] at hy
          simp at hy)]
      rfl

set_option maxHeartbeats 1000000 in
theorem find_any (v : Value) (L : List Pt) (d : Int) (w : World) (h : Pl w v L) :
    Calls Try.prog 17 #[v, .int .i64 d] w fun e w' => e = .returned (.int .i64 (Q.find L d)) ∧ Below w.heap.size w w' := by
  have H := h
  obtain ⟨a, cap, rfl, hl, hm, hna, -⟩ := h.open
  clear h
  obtain ⟨mb, hmb⟩ : ∃ mb, Q.may L = mb := ⟨_, rfl⟩
  have HM := hide hmb
  clear hmb
  cases mb with
  | false =>
    go_enter Try.func17, Try.ntmps17
    go_wp2_with (go_at_call 15; refine (may_any _ _ _ H).mono ?_; rintro e w1 ⟨rfl, B1⟩; rw [unhide HM])
    go_ret
    exact ⟨by rw [Q.find_not (unhide HM)]; rfl, B1⟩
  | true =>
    go_enter Try.func17, Try.ntmps17
    go_wp2_with (go_at_call 15; refine (may_any _ _ _ H).mono ?_; rintro e w1 ⟨rfl, B1⟩; rw [unhide HM])
    have H1 := H.below B1
    obtain ⟨i, hi⟩ : ∃ i, Q.first L d = i := ⟨_, rfl⟩
    have hle := Q.first_le L d
    rw [hi] at hle
    have HI := hide hi
    clear hi
    go_wp2_with fail
    refine (first_any _ _ _ _ H1).mono ?_
    rintro e w2 ⟨rfl, rfl⟩
    rw [unhide HI]
    by_cases hlt : i < L.length
    · obtain ⟨a', cap', hv', -, -, -, ho⟩ := H1.open
      simp only [Value.slice.injEq, true_and] at hv'
      obtain ⟨rfl, rfl⟩ := hv'
      obtain ⟨b, off, rfl, hb, hc⟩ := ho (by omega)
      obtain ⟨p, hp⟩ : ∃ p, L[i]? = some p := ⟨L[i], List.getElem?_eq_getElem hlt⟩
      obtain ⟨da, dc, c0, -, -⟩ := hc i p hp
      have HP := hide hp
      have hne : ((i : Int) == (L.length : Int)) = false := by rw [beq_eq_false_iff_ne]; omega
      obtain ⟨x, hx⟩ : ∃ x, p.d = x := ⟨_, rfl⟩
      rw [hx] at c0
      have HX := hide hx
      clear ho hc hp hx
      by_cases hxd : x = d
      · have hbx : (x == d) = true := by simpa using hxd
        go_wp2
        go_ret
        exact ⟨by rw [Q.find_at (unhide HM) (by rw [Q.hasD_at (p := p) (by rw [unhide HI]; exact unhide HP), unhide HX]; simpa using hxd), unhide HI]; rfl, B1⟩
      · have hbx : (x == d) = false := by simpa using hxd
        go_wp2
        go_ret
        exact ⟨by rw [Q.find_none (by rw [Q.hasD_at (p := p) (by rw [unhide HI]; exact unhide HP), unhide HX]; simpa using hxd)]; rfl, B1⟩
    · have hie : i = L.length := by omega
      have heq : ((i : Int) == (L.length : Int)) = true := by rw [beq_iff_eq]; omega
      have HIE := hide hie
      clear hie hlt hle
      go_wp2
      go_ret
      exact ⟨by rw [Q.find_none (Q.hasD_end (by rw [unhide HI, unhide HIE]))]; rfl, B1⟩
end Go.Proofs.Ytjkaidlgooemoaa
