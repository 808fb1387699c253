/-
  The contracts of slices.Equal at numbers, of what Same asks of two postings, of slices.EqualFunc, of Same, and of the document's own Same: are two lists of postings the same?
-/
import Derived.Test.YtonhehhmnobciaaSmall6
import Derived.Test.YtonhehhmnobciaaSameInts
namespace Go.Proofs.Ytonhehhmnobciaa
set_option maxRecDepth 100000
open Go.RowKit

set_option maxHeartbeats 400000 in
theorem equal_any (va vb : Value) (xs ys : List Int) (w : World) (ha : Sl .i64 w va xs) (hb : Sl .i64 w vb ys) :
    Calls Try.prog 55 #[va, vb] w fun e w' => e = .returned (.bool (decide (xs = ys))) ∧ ∃ n, w' = w.drewN n := by
  obtain ⟨aa, ca, rfl, la, ma, na, oa⟩ := ha.open
  obtain ⟨ab, cb, rfl, lb, mb, nb, ob⟩ := hb.open
  clear ha hb
  by_cases hl : xs.length = ys.length
  · have HL : Hid (xs.length = ys.length) := hl
    have h0 : ((xs.length : Int) != (ys.length : Int)) = false := by simp [hl]
    clear hl
    go_enter Try.func55, Try.ntmps55
    go_wp2
    go_loopw [13] (fun i wr => ∃ k : Nat, k ≤ xs.length ∧ i = .int .i64 k ∧ xs.take k = ys.take k ∧ ∃ n, wr = w.drewN n) (fun i _ => xs.length - (intOf i).toNat)
    case atStart => exact ⟨0, Nat.zero_le _, rfl, rfl, 0, rfl⟩
    case round =>
      obtain ⟨k, hk, rfl, ht, n, rfl⟩ := hrel
      have HT : Hid (xs.take k = ys.take k) := ht
      clear ht
      by_cases hlt : k < xs.length
      · have hltb : k < ys.length := by have := HL.out; omega
        obtain ⟨ba, fa, rfl, _, ca⟩ := oa (by omega)
        obtain ⟨bb, fb, rfl, _, cb⟩ := ob (by omega)
        have c1 := ca k hlt
        have c2 := cb k hltb
        clear ca cb oa ob
        go_wp2
        go_region
        all_goals (try go_wp2)
        · have he : (xs[k] != ys[k]) = true := by assumption
          rw [bne_iff_ne] at he
          go_ret
          exact ⟨by rw [same_not HL.out hlt he]; rfl, n + 1, rfl⟩
        · have he : (xs[k] != ys[k]) = false := by assumption
          rw [bne_eq_false_iff_eq] at he
          go_roundw
          case rel => exact ⟨k + 1, by omega, by go_num, same_step HL.out hlt HT.out he, n + 1, rfl⟩
          case measure => simp [intOf]; omega
      · go_wp2
        go_ret
        exact ⟨by rw [same_end HL.out hlt HT.out]; rfl, n, rfl⟩
  · have h0 : ((xs.length : Int) != (ys.length : Int)) = true := by rw [bne_iff_ne]; omega
    go_enter Try.func55, Try.ntmps55
    go_wp2
    go_ret
    exact ⟨by rw [same_len hl]; rfl, 0, rfl⟩


theorem ints_q (va vb : Value) (xs ys : List Int) (w : World) (ha : Sl .i64 w va xs) (hb : Sl .i64 w vb ys) (r : Bool) (hr : decide (xs = ys) = r) :
    Calls Try.prog 37 #[va, vb] w fun e w' => e = .returned (.bool r) ∧ ∃ n, w' = w.drewN n :=
  (ints_any va vb xs ys w ha hb).mono fun e w' ⟨h1, h2⟩ => ⟨by rw [h1, hr], h2⟩

theorem equal_b (va vb : Value) (xs ys : List Int) (w : World) (ha : Sl .i64 w va xs) (hb : Sl .i64 w vb ys) (r : Bool) (hr : decide (xs = ys) = r) :
    Calls Try.prog 55 #[va, vb] w fun e w' => e = .returned (.bool r) ∧ Below w.heap.size w w' :=
  (equal_any va vb xs ys w ha hb).mono fun e w' ⟨h1, n, h2⟩ => ⟨by rw [h1, hr], by rw [h2]; exact below_dr (Below.refl _ _) n⟩

set_option maxHeartbeats 1000000 in
theorem same1_any (p q : Pt) (pa qa : Option Addr) (pc qc : Nat) (w : World) (hp : Sl .i64 w (.slice pa p.a.length pc) p.a) (hq : Sl .i64 w (.slice qa q.a.length qc) q.a) :
    Calls Try.prog 101 #[.agg #[.int .i64 p.d, .slice pa p.a.length pc], .agg #[.int .i64 q.d, .slice qa q.a.length qc]] w fun e w' => e = .returned (.bool (Pt.eqb p q)) ∧ Below w.heap.size w w' := by
  obtain ⟨W, hW⟩ : ∃ W, W = (w.alloc (.cells #[.int .i64 p.d, .slice pa p.a.length pc] 51)).alloc (.cells #[.int .i64 q.d, .slice qa q.a.length qc] 51) := ⟨_, rfl⟩
  have B0 : Below w.heap.size w W := by rw [hW]; exact (below_alloc _ _).alloc (by simp) _
  have P0 := hp.below B0
  have Q0 := hq.below B0
  have a0 : W.cell? ⟨w.heap.size, 0, none⟩ = some (.int .i64 p.d) := by rw [hW]; simp [go_sem]
  have a1 : W.cell? ⟨w.heap.size, 1, none⟩ = some (.slice pa p.a.length pc) := by rw [hW]; simp [go_sem]
  have b0 : W.cell? ⟨w.heap.size + 1, 0, none⟩ = some (.int .i64 q.d) := by rw [hW]; simp [go_sem]
  have b1 : W.cell? ⟨w.heap.size + 1, 1, none⟩ = some (.slice qa q.a.length qc) := by rw [hW]; simp [go_sem]
  obtain ⟨r, hr⟩ : ∃ r, decide (p.a = q.a) = r := ⟨_, rfl⟩
  have HR := hide hr
  obtain ⟨x, hx⟩ : ∃ x, p.d = x := ⟨_, rfl⟩
  obtain ⟨y, hy⟩ : ∃ y, q.d = y := ⟨_, rfl⟩
  have HX := hide hx
  have HY := hide hy
  rw [hx] at a0 hW ⊢
  rw [hy] at b0 hW ⊢
  have HW := hide hW
  clear hW hr hx hy hp hq
  by_cases hd : x = y
  · have hb : (x == y) = true := by simpa using hd
    have HD := hide hd
    clear hd
    go_enter Try.func101, Try.ntmps101
    go_wp2_with (go_at_call 55; refine (equal_b _ _ p.a q.a _ (by rw [← unhide HW]; exact P0) (by rw [← unhide HW]; exact Q0) r (unhide HR)).mono ?_; rintro e w1 ⟨rfl, B1⟩; rw [← unhide HW] at B1)
    go_ret
    refine ⟨?_, below_trans' B0 B1⟩
    rw [Pt.eqb, unhide HX, unhide HY, unhide HR, show decide (x = y) = true by simpa using unhide HD]
    cases r <;> rfl
  · have hb : (x == y) = false := by simpa using hd
    have HD := hide hd
    clear hd
    go_enter Try.func101, Try.ntmps101
    go_wp2
    rw [← unhide HW]
    go_ret
    refine ⟨?_, B0⟩
    rw [Pt.eqb, unhide HX, unhide HY, show decide (x = y) = false by simpa using unhide HD]
    rfl

/-- The first k are the same. -/
theorem Pt.eqs_step {L M : List Pt} {k : Nat} {p q : Pt} (hp : L[k]? = some p) (hq : M[k]? = some q) (h : L.take k = M.take k) (he : Pt.eqb p q = true) : L.take (k + 1) = M.take (k + 1) := by
  have e := Pt.eqb_iff.1 he
  subst e
  obtain ⟨h1, h2⟩ := List.getElem?_eq_some_iff.1 hp
  obtain ⟨h3, h4⟩ := List.getElem?_eq_some_iff.1 hq
  rw [List.take_succ_eq_append_getElem h1, List.take_succ_eq_append_getElem h3, h, h2, h4]
theorem Pt.eqs_end {L M : List Pt} {k : Nat} (hl : L.length = M.length) (hk : ¬ k < L.length) (h : L.take k = M.take k) : Pt.eqs L M = true := by
  rw [List.take_of_length_le (by omega), List.take_of_length_le (by omega)] at h
  exact Pt.eqs_iff.2 h
theorem Pt.eqs_off {L M : List Pt} {k : Nat} {p q : Pt} (hp : L[k]? = some p) (hq : M[k]? = some q) (he : Pt.eqb p q = false) : Pt.eqs L M = false := by
  refine Pt.eqs_not fun e => ?_
  subst e
  rw [hp] at hq
  simp at hq
  subst hq
  rw [Pt.eqb_iff.2 rfl] at he
  simp at he
theorem Pt.eqs_len {L M : List Pt} (hl : ¬ L.length = M.length) : Pt.eqs L M = false := Pt.eqs_not fun e => hl (by rw [e])

set_option maxHeartbeats 2000000 in
theorem equalFunc_any (v u : Value) (L M : List Pt) (w : World) (h : Pl w v L) (k : Pl w u M) :
    Calls Try.prog 100 #[v, u, .func (.func 101) #[] #[]] w fun e w' => e = .returned (.bool (Pt.eqs L M)) ∧ Below w.heap.size w w' := by
  have HV := h
  have HU := k
  obtain ⟨a, cap, rfl, hl, hm, hna, -⟩ := h.open
  obtain ⟨a2, cap2, rfl, hl2, hm2, hna2, -⟩ := k.open
  clear h k
  by_cases hlen : L.length = M.length
  · have h0 : ((L.length : Int) != (M.length : Int)) = false := by simp [hlen]
    have HL := hide hlen
    clear hlen
    go_enter Try.func100, Try.ntmps100
    go_wp2
    go_loopw [17] (fun iv wr => ∃ k : Nat, k ≤ L.length ∧ iv = .int .i64 k ∧ L.take k = M.take k ∧ Below w.heap.size w wr) (fun iv _ => L.length - (intOf iv).toNat)
    case atStart => exact ⟨0, Nat.zero_le _, rfl, rfl, Below.refl _ _⟩
    case round =>
      obtain ⟨k, hk, rfl, ht, hbel⟩ := hrel
      have HT := hide ht
      have V1 := HV.below hbel
      have U1 := HU.below hbel
      clear ht
      by_cases hlt : k < L.length
      · have hlt2 : k < M.length := by have := unhide HL; omega
        obtain ⟨a', cap', hv', -, -, -, ho⟩ := V1.open
        simp only [Value.slice.injEq, true_and] at hv'
        obtain ⟨rfl, rfl⟩ := hv'
        obtain ⟨b, off, rfl, hb, hc⟩ := ho (by omega)
        obtain ⟨p, hp⟩ : ∃ p, L[k]? = some p := ⟨L[k], List.getElem?_eq_getElem hlt⟩
        obtain ⟨da, dc, c0, c1, c2⟩ := hc k p hp
        clear ho hc
        obtain ⟨a', cap', hv', -, -, -, ho⟩ := U1.open
        simp only [Value.slice.injEq, true_and] at hv'
        obtain ⟨rfl, rfl⟩ := hv'
        obtain ⟨b2, off2, rfl, hb2, hc⟩ := ho (by omega)
        obtain ⟨q, hq⟩ : ∃ q, M[k]? = some q := ⟨M[k], List.getElem?_eq_getElem hlt2⟩
        obtain ⟨da2, dc2, e0, e1, e2⟩ := hc k q hq
        clear ho hc V1 U1
        have BW : Below wr.heap.size wr ((wr.alloc (.cells #[.int .i64 p.d, .slice da p.a.length dc] 51)).alloc (.cells #[.int .i64 q.d, .slice da2 q.a.length dc2] 51)) := (below_alloc _ _).alloc (by simp) _
        have C2 := c2.below BW
        have E2 := e2.below BW
        have BX := below_trans' hbel BW
        have HP := hide hp
        have HQ := hide hq
        obtain ⟨r, hr⟩ : ∃ r, Pt.eqb p q = r := ⟨_, rfl⟩
        have HR := hide hr
        clear c2 e2 hp hq hr BW
        cases r with
        | false =>
          go_wp2_with (go_at_call 101; refine (same1_any p q _ _ _ _ _ C2 E2).mono ?_; rintro e w1 ⟨rfl, B1⟩; rw [unhide HR])
          go_ret
          exact ⟨by rw [Pt.eqs_off (unhide HP) (unhide HQ) (unhide HR)]; rfl, below_trans' BX B1⟩
        | true =>
          go_wp2_with (go_at_call 101; refine (same1_any p q _ _ _ _ _ C2 E2).mono ?_; rintro e w1 ⟨rfl, B1⟩; rw [unhide HR])
          go_roundw
          case rel => exact ⟨k + 1, by omega, by go_num, Pt.eqs_step (unhide HP) (unhide HQ) (unhide HT) (unhide HR), below_trans' BX B1⟩
          case measure => simp [intOf]; omega
      · go_wp2
        go_ret
        exact ⟨by rw [Pt.eqs_end (unhide HL) hlt (unhide HT)]; rfl, hbel⟩
  · have h0 : ((L.length : Int) != (M.length : Int)) = true := by rw [bne_iff_ne]; omega
    go_enter Try.func100, Try.ntmps100
    go_wp2
    go_ret
    exact ⟨by rw [Pt.eqs_len hlen]; rfl, Below.refl _ _⟩

set_option maxHeartbeats 1000000 in
theorem same_any (v u : Value) (L M : List Pt) (w : World) (h : Pl w v L) (k : Pl w u M) :
    Calls Try.prog 58 #[v, u] w fun e w' => e = .returned (.bool (Pt.eqs L M)) ∧ Below w.heap.size w w' := by
  obtain ⟨r, hr⟩ : ∃ r, Pt.eqs L M = r := ⟨_, rfl⟩
  have C : Calls Try.prog 100 #[v, u, .func (.func 101) #[] #[]] w fun e w' => e = .returned (.bool r) ∧ Below w.heap.size w w' := by
    rw [← hr]; exact equalFunc_any v u L M w h k
  rw [hr]
  clear hr h k
  go_enter Try.func58, Try.ntmps58
  go_wp2_with fail
  refine C.mono ?_
  rintro e w1 ⟨rfl, B1⟩
  go_wp2
  go_ret
  exact ⟨rfl, B1⟩

set_option maxHeartbeats 2000000 in
theorem rsame_any (v u : Value) (L M : List Pt) (w : World) (h : Pl w v L) (k : Pl w u M) :
    Calls Try.prog 20 #[v, u] w fun e w' => e = .returned (.bool (Pt.eqs L M)) ∧ Below w.heap.size w w' := by
  have HV := h
  have HU := k
  obtain ⟨a, cap, rfl, hl, hm, hna, -⟩ := h.open
  obtain ⟨a2, cap2, rfl, hl2, hm2, hna2, -⟩ := k.open
  clear h k
  by_cases hlen : L.length = M.length
  · have h0 : ((L.length : Int) != (M.length : Int)) = false := by simp [hlen]
    have HL := hide hlen
    clear hlen
    go_enter Try.func20, Try.ntmps20
    go_wp2
    go_loopw [5] (fun iv wr => ∃ k : Nat, k ≤ L.length ∧ iv = .int .i64 k ∧ L.take k = M.take k ∧ Below w.heap.size w wr) (fun iv _ => L.length - (intOf iv).toNat)
    case atStart => exact ⟨0, Nat.zero_le _, rfl, rfl, Below.refl _ _⟩
    case round =>
      obtain ⟨k, hk, rfl, ht, hbel⟩ := hrel
      have HT := hide ht
      have V1 := HV.below hbel
      have U1 := HU.below hbel
      clear ht
      by_cases hlt : k < L.length
      · have hlt2 : k < M.length := by have := unhide HL; omega
        obtain ⟨a', cap', hv', -, -, -, ho⟩ := V1.open
        simp only [Value.slice.injEq, true_and] at hv'
        obtain ⟨rfl, rfl⟩ := hv'
        obtain ⟨b, off, rfl, hb, hc⟩ := ho (by omega)
        obtain ⟨p, hp⟩ : ∃ p, L[k]? = some p := ⟨L[k], List.getElem?_eq_getElem hlt⟩
        obtain ⟨da, dc, c0, c1, c2⟩ := hc k p hp
        clear ho hc
        obtain ⟨a', cap', hv', -, -, -, ho⟩ := U1.open
        simp only [Value.slice.injEq, true_and] at hv'
        obtain ⟨rfl, rfl⟩ := hv'
        obtain ⟨b2, off2, rfl, hb2, hc⟩ := ho (by omega)
        obtain ⟨q, hq⟩ : ∃ q, M[k]? = some q := ⟨M[k], List.getElem?_eq_getElem hlt2⟩
        obtain ⟨da2, dc2, e0, e1, e2⟩ := hc k q hq
        clear ho hc V1 U1
        have HP := hide hp
        have HQ := hide hq
        obtain ⟨r, hr⟩ : ∃ r, decide (p.a = q.a) = r := ⟨_, rfl⟩
        obtain ⟨x, hx⟩ : ∃ x, p.d = x := ⟨_, rfl⟩
        obtain ⟨y, hy⟩ : ∃ y, q.d = y := ⟨_, rfl⟩
        obtain ⟨pa, hpa⟩ : ∃ l, p.a = l := ⟨_, rfl⟩
        obtain ⟨qa, hqa⟩ : ∃ l, q.a = l := ⟨_, rfl⟩
        have HR := hide hr
        have HE : Hid (Pt.eqb p q = (decide (x = y) && r)) := by show Pt.eqb p q = _; rw [Pt.eqb, hx, hy, hr]
        rw [hx] at c0
        rw [hy] at e0
        rw [hpa] at c1 c2 hr
        rw [hqa] at e1 e2 hr
        have HRR := hide hr
        clear hp hq hx hy hpa hqa HR hr
        cases r with
        | false =>
          go_wp2
          go_quiet ((go_at_call 37; exact Calls.quiet_of (ints_q _ _ pa qa _ (c2.drewN _) (e2.drewN _) false (unhide HRR))))
          go_wp2
          go_quiet (fail)
          go_wp2
          go_ret
          exact ⟨by rw [Pt.eqs_off (unhide HP) (unhide HQ) (by rw [unhide HE, Bool.and_false])]; rfl, below_dr' (below_dr' hbel _) _⟩
        | true =>
          by_cases hxy : x = y
          · have hb1 : (x != y) = false := by simpa using hxy
            have HXY := hide hxy
            clear hxy
            go_wp2
            go_quiet ((go_at_call 37; exact Calls.quiet_of (ints_q _ _ pa qa _ (c2.drewN _) (e2.drewN _) true (unhide HRR))))
            go_wp2
            go_quiet (fail)
            go_wp2
            go_roundw
            case rel => exact ⟨k + 1, by omega, by go_num, Pt.eqs_step (unhide HP) (unhide HQ) (unhide HT) (by rw [unhide HE]; simpa using unhide HXY), below_dr' hbel _⟩
            case measure => simp [intOf]; omega
          · have hb1 : (x != y) = true := by simpa using hxy
            have HXY := hide hxy
            clear hxy
            go_wp2
            go_quiet ((go_at_call 37; exact Calls.quiet_of (ints_q _ _ pa qa _ (c2.drewN _) (e2.drewN _) true (unhide HRR))))
            go_wp2
            go_quiet (fail)
            go_wp2
            go_ret
            exact ⟨by rw [Pt.eqs_off (unhide HP) (unhide HQ) (by rw [unhide HE]; simpa using unhide HXY)]; rfl, below_dr' (below_dr' hbel _) _⟩
      · go_wp2
        go_ret
        exact ⟨by rw [Pt.eqs_end (unhide HL) hlt (unhide HT)]; rfl, hbel⟩
  · have h0 : ((L.length : Int) != (M.length : Int)) = true := by rw [bne_iff_ne]; omega
    go_enter Try.func20, Try.ntmps20
    go_wp2
    go_ret
    exact ⟨by rw [Pt.eqs_len hlen]; rfl, Below.refl _ _⟩
end Go.Proofs.Ytonhehhmnobciaa
