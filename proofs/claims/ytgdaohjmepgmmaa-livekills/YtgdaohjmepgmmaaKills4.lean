/-
  LiveKills' walk.
-/
import Derived.Test.YtgdaohjmepgmmaaLawB4
import Derived.Test.YtgdaohjmepgmmaaPlainLaw4
namespace Go.Proofs.Ytgdaohjmepgmmaa
open Go.RowKit

theorem Gl.addr {α : Type} {f : α → Value} {w : World} {a : Option Addr} {n cap : Nat} {l : List α} (h : Gl f w (.slice a n cap) l) (hp : 0 < l.length) : ∃ b off, a = some ⟨b, off, none⟩ := by
  obtain ⟨a', cap', hv, _, _, _, ho⟩ := h.open
  simp only [Value.slice.injEq] at hv
  obtain ⟨rfl, _, _⟩ := hv
  obtain ⟨b, off, hb, _⟩ := ho hp
  exact ⟨b, off, hb⟩
theorem Gl.at {α : Type} {f : α → Value} {w : World} {b off n cap : Nat} {l : List α} (h : Gl f w (.slice (some ⟨b, off, none⟩) n cap) l) {i : Nat} {y : α} (hi : l[i]? = some y) : w.cell? ⟨b, off + i, none⟩ = some (f y) := by
  obtain ⟨a', cap', hv, _, _, _, hc⟩ := h
  simp only [Value.slice.injEq] at hv
  obtain ⟨rfl, _, _⟩ := hv
  rw [← Addr.add_lit]
  exact hc _ rfl i y hi
theorem Gl.drewN {α : Type} {f : α → Value} {w : World} {v : Value} {l : List α} (h : Gl f w v l) (n : Nat) : Gl f (w.drewN n) v l := h
theorem less_q (va vb : Value) (a b : List Bool) (w : World) (ha : Gl .bool w va a) (hb : Gl .bool w vb b) (r : Bool) (hr : L.less a b = r) : Calls Try.prog 23 #[va, vb] w fun e w' => e = .returned (.bool r) ∧ ∃ n, w' = w.drewN n := by
  subst hr
  exact less_any va vb a b w ha hb

set_option maxHeartbeats 4000000 in
theorem liveKills_walk (vl : Value) (l : List Bool) (i k : Int) (w : World) (Hl : Gl .bool w vl l) :
    Calls Try.prog 6 #[vl, .int .i64 i, .int .i64 k] w fun e w' => e = .returned (.bool true) ∧ Below w.heap.size w w' := by
  obtain ⟨al, cl, rfl, -⟩ := id Hl
  go_enter Try.func6, Try.ntmps6
  obtain ⟨fl, hfl⟩ : ∃ fl, decide (l.length ≤ 100) = fl := ⟨_, rfl⟩
  have HFl := hide hfl
  clear hfl
  go_wp2_with fail
  refine (awake4_any _).mono ?_
  rintro e w1 ⟨rfl, hb1⟩
  have B1 := hb1
  have Hl := Hl.below hb1
  clear hb1
  go_wp2_with fail
  refine (few_any _ l _ Hl fl (unhide HFl)).mono ?_
  rintro e w2 ⟨rfl, hb2⟩
  have B2 := below_trans' B1 hb2
  have Hl := Hl.below hb2
  clear hb2 B1
  cases fl with
  | false =>
    go_wp2
    go_ret
    exact ⟨rfl, B2⟩
  | true =>
    have hll : l.length ≤ 100 := by simpa using unhide HFl
    by_cases hi0 : i < 0
    · have hd := lives_neg (l := l) hi0
      have HD := hide hd
      clear hd
      go_wp2_with fail
      refine (kill_b _ l _ _ Hl (by omega) false l (unhide HD).1 (unhide HD).2).mono ?_
      rintro e w3 ⟨v3, rfl, Hm, hb3⟩
      have B3 := below_trans' B2 hb3
      have Hl := Hl.below hb3
      obtain ⟨xa3, xc3, rfl, -⟩ := id Hm
      clear hb3 B2
      go_wp2_with fail
      refine (kill_b _ l _ _ Hm (by omega) false l (unhide HD).1 (unhide HD).2).mono ?_
      rintro e w4 ⟨v4, rfl, Hn, hb4⟩
      have B4 := below_trans' B3 hb4
      have Hl := Hl.below hb4
      have Hm := Hm.below hb4
      obtain ⟨xa4, xc4, rfl, -⟩ := id Hn
      clear hb4 B3
      go_wp2_with fail
      refine (bools_b _ _ l l _ Hm Hl true (by simp)).mono ?_
      rintro e w5 ⟨rfl, hb5⟩
      have B5 := below_trans' B4 hb5
      have Hl := Hl.below hb5
      clear hb5 B4 Hm Hn
      go_wp2
      go_ret
      exact ⟨rfl, B5⟩
    · by_cases hi1 : (l.length : Int) ≤ i
      · have hd := lives_out (l := l) hi1
        have HD := hide hd
        clear hd
        go_wp2_with fail
        refine (kill_b _ l _ _ Hl (by omega) false l (unhide HD).1 (unhide HD).2).mono ?_
        rintro e w3 ⟨v3, rfl, Hm, hb3⟩
        have B3 := below_trans' B2 hb3
        have Hl := Hl.below hb3
        obtain ⟨xa3, xc3, rfl, -⟩ := id Hm
        clear hb3 B2
        go_wp2_with fail
        refine (kill_b _ l _ _ Hm (by omega) false l (unhide HD).1 (unhide HD).2).mono ?_
        rintro e w4 ⟨v4, rfl, Hn, hb4⟩
        have B4 := below_trans' B3 hb4
        have Hl := Hl.below hb4
        have Hm := Hm.below hb4
        obtain ⟨xa4, xc4, rfl, -⟩ := id Hn
        clear hb4 B3
        go_wp2_with fail
        refine (bools_b _ _ l l _ Hm Hl true (by simp)).mono ?_
        rintro e w5 ⟨rfl, hb5⟩
        have B5 := below_trans' B4 hb5
        have Hl := Hl.below hb5
        clear hb5 B4 Hm Hn
        go_wp2
        go_ret
        exact ⟨rfl, B5⟩
      · obtain ⟨p, rfl⟩ := Int.eq_ofNat_of_zero_le (show 0 ≤ i by omega)
        have hp : p < l.length := by omega
        obtain ⟨x, hx⟩ : ∃ x, l[p]? = some x := ⟨l[p], List.getElem?_eq_getElem hp⟩
        obtain ⟨bl, ol, rfl⟩ := Hl.addr (by omega)
        have HX := hide hx
        clear hx hi0 hi1
        cases x with
        | false =>
          have hd := lives_dead (unhide HX)
          have HD := hide hd
          clear hd
          go_wp2_with fail
          refine (kill_b _ l _ _ Hl (by omega) false l (unhide HD).1 (unhide HD).2).mono ?_
          rintro e w3 ⟨v3, rfl, Hm, hb3⟩
          have B3 := below_trans' B2 hb3
          have Hl := Hl.below hb3
          obtain ⟨xa3, xc3, rfl, -⟩ := id Hm
          clear hb3 B2
          go_wp2_with fail
          refine (kill_b _ l _ _ Hm (by omega) false l (unhide HD).1 (unhide HD).2).mono ?_
          rintro e w4 ⟨v4, rfl, Hn, hb4⟩
          have B4 := below_trans' B3 hb4
          have Hl := Hl.below hb4
          have Hm := Hm.below hb4
          obtain ⟨xa4, xc4, rfl, -⟩ := id Hn
          clear hb4 B3
          go_wp2_with fail
          refine (bools_b _ _ l l _ Hm Hl true (by simp)).mono ?_
          rintro e w5 ⟨rfl, hb5⟩
          have B5 := below_trans' B4 hb5
          have Hl := Hl.below hb5
          clear hb5 B4 Hm Hn
          have k1 := Hl.at (unhide HX)
          go_wp2
          go_ret
          exact ⟨rfl, B5⟩
        | true =>
          have hd := lives_yes (unhide HX)
          have hml : (l.set p false).length = l.length := by simp
          have hmp := L.set_dead hp
          have hcn := L.count_set l p (unhide HX)
          have hls := L.set_less (unhide HX)
          have hoth : ∀ q, q ≠ p → (l.set p false)[q]? = l[q]? := fun q hq => List.getElem?_set_ne (Ne.symm hq)
          obtain ⟨m, hm⟩ : ∃ m, l.set p false = m := ⟨_, rfl⟩
          rw [hm] at hd hml hmp hcn hls hoth
          obtain ⟨c, hc⟩ : ∃ c, L.count m = c := ⟨_, rfl⟩
          rw [hc] at hcn
          have hc100 : c ≤ 100 := by have h1 := List.count_le_length (a := true) (l := m); unfold L.count at hc; omega
          have HC := hide hc
          have HCN := hide hcn
          have HLS := hide hls
          have HD := hide hd
          have HML := hide hml
          have HMP := hide hmp
          have HOT := hide hoth
          have hm100 : m.length ≤ 100 := by omega
          clear hm hd hml hmp hcn hls hoth hc
          go_wp2_with fail
          refine (kill_b _ l _ _ Hl (by omega) true m (unhide HD).1 (unhide HD).2).mono ?_
          rintro e w3 ⟨v3, rfl, Hm, hb3⟩
          have B3 := below_trans' B2 hb3
          have Hl := Hl.below hb3
          obtain ⟨xa3, xc3, rfl, -⟩ := id Hm
          clear hb3 B2
          rw [unhide HML] at Hm ⊢
          have HD2 := hide (lives_dead (unhide HMP))
          go_wp2_with fail
          refine (kill_b _ m _ _ Hm (by omega) false m (unhide HD2).1 (unhide HD2).2).mono ?_
          rintro e w4 ⟨v4, rfl, Hn, hb4⟩
          have B4 := below_trans' B3 hb4
          have Hl := Hl.below hb4
          have Hm := Hm.below hb4
          obtain ⟨xa4, xc4, rfl, -⟩ := id Hn
          clear hb4 B3
          rw [unhide HML]
          clear Hn
          obtain ⟨bm, om, rfl⟩ := Hm.addr (by rw [unhide HML]; omega)
          have k1 := Hm.at (unhide HMP)
          go_wp2_with fail
          refine (count_b _ m _ Hm (c : Int) (by rw [unhide HC])).mono ?_
          rintro e w5 ⟨rfl, hb5⟩
          have B5 := below_trans' B4 hb5
          have Hl := Hl.below hb5
          have Hm := Hm.below hb5
          clear hb5 B4
          go_wp2_with fail
          refine (count_b _ l _ Hl ((c : Int) + 1) (by rw [← unhide HCN]; rfl)).mono ?_
          rintro e w6 ⟨rfl, hb6⟩
          have B6 := below_trans' B5 hb6
          have Hl := Hl.below hb6
          have Hm := Hm.below hb6
          clear hb6 B5
          clear k1
          by_cases hk0 : k < 0
          · have d1 : decide (k < 0) = true := by simpa using hk0
            go_wp2
            go_quiet ((go_at_call 23; first | exact Calls.quiet_of (less_q _ _ m l _ (Hm.drewN _) (Hl.drewN _) true (unhide HLS).1) | exact Calls.quiet_of (less_q _ _ l m _ (Hl.drewN _) (Hm.drewN _) false (unhide HLS).2)))
            go_wp2
            go_ret
            exact ⟨rfl, below_dr B6 nq⟩
          · have d1 : decide (k < 0) = false := by simpa using hk0
            by_cases hk1 : (l.length : Int) ≤ k
            · have d2 : decide ((l.length : Int) ≤ k) = true := by simpa using hk1
              go_wp2
              go_quiet ((go_at_call 23; first | exact Calls.quiet_of (less_q _ _ m l _ (Hm.drewN _) (Hl.drewN _) true (unhide HLS).1) | exact Calls.quiet_of (less_q _ _ l m _ (Hl.drewN _) (Hm.drewN _) false (unhide HLS).2)))
              go_wp2
              go_ret
              exact ⟨rfl, below_dr B6 nq⟩
            · have d2 : decide ((l.length : Int) ≤ k) = false := by simpa using hk1
              by_cases hk2 : k = (p : Int)
              · subst hk2
                have d3 : ((p : Int) == (p : Int)) = true := by simp
                go_wp2
                go_quiet ((go_at_call 23; first | exact Calls.quiet_of (less_q _ _ m l _ (Hm.drewN _) (Hl.drewN _) true (unhide HLS).1) | exact Calls.quiet_of (less_q _ _ l m _ (Hl.drewN _) (Hm.drewN _) false (unhide HLS).2)))
                go_wp2
                go_ret
                exact ⟨rfl, below_dr B6 nq⟩
              · have d3 : (k == (p : Int)) = false := by simpa using hk2
                obtain ⟨q, rfl⟩ := Int.eq_ofNat_of_zero_le (show 0 ≤ k by omega)
                have hq : q < l.length := by omega
                obtain ⟨y, hy⟩ : ∃ y, l[q]? = some y := ⟨l[q], List.getElem?_eq_getElem hq⟩
                have k1 := Hl.at hy
                have k2 := Hm.at (((unhide HOT) q (by omega)).trans hy)
                have hyy : (y == y) = true := by simp
                clear hy hk0 hk1 hk2
                go_wp2
                go_quiet ((go_at_call 23; first | exact Calls.quiet_of (less_q _ _ m l _ (Hm.drewN _) (Hl.drewN _) true (unhide HLS).1) | exact Calls.quiet_of (less_q _ _ l m _ (Hl.drewN _) (Hm.drewN _) false (unhide HLS).2)))
                go_wp2
                go_ret
                exact ⟨rfl, below_dr B6 nq⟩
end Go.Proofs.Ytgdaohjmepgmmaa
