/-
  LiveNew's walk.
-/
import Derived.Test.YtgdaohjmepgmmaaLawB4
import Derived.Test.YtgdaohjmepgmmaaPlainLaw4
namespace Go.Proofs.Ytgdaohjmepgmmaa
open Go.RowKit

set_option maxHeartbeats 4000000 in
theorem liveNew_walk (n : Int) (vl : Value) (l : List Bool) (w : World) (Hl : Gl .bool w vl l) :
    Calls Try.prog 9 #[.int .i64 n, vl] w fun e w' => e = .returned (.bool true) ∧ Below w.heap.size w w' := by
  obtain ⟨al, cl, rfl, -⟩ := id Hl
  go_enter Try.func9, Try.ntmps9
  obtain ⟨fl, hfl⟩ : ∃ fl, decide (l.length ≤ 100) = fl := ⟨_, rfl⟩
  have HFl := hide hfl
  clear hfl
  go_wp2_with fail
  refine (awake4_any _).mono ?_
  rintro e w1 ⟨rfl, hb1⟩
  have B1 := hb1
  have Hl := Hl.below hb1
  clear hb1
  go_wp2_with fail
  refine (few_any _ l _ Hl fl (unhide HFl)).mono ?_
  rintro e w2 ⟨rfl, hb2⟩
  have B2 := below_trans' B1 hb2
  have Hl := Hl.below hb2
  clear hb2 B1
  cases fl with
  | false =>
    go_wp2
    go_ret
    exact ⟨rfl, B2⟩
  | true =>
    by_cases hc : n < 0
    · have hnew := new_out (.inl hc)
      have HN := hide hnew
      clear hnew
      go_wp2_with fail
      refine (new_b n _ [] (unhide HN)).mono ?_
      rintro e w3 ⟨v3, rfl, Hm, hb3⟩
      have B3 := below_trans' B2 hb3
      have Hl := Hl.below hb3
      obtain ⟨xa3, xc3, rfl, -⟩ := id Hm
      clear hb3 B2
      go_wp2
      go_ret
      exact ⟨rfl, B3⟩
    · skip
      by_cases hc : 64 < n
      · have hnew := new_out (.inr hc)
        have HN := hide hnew
        clear hnew
        go_wp2_with fail
        refine (new_b n _ [] (unhide HN)).mono ?_
        rintro e w3 ⟨v3, rfl, Hm, hb3⟩
        have B3 := below_trans' B2 hb3
        have Hl := Hl.below hb3
        obtain ⟨xa3, xc3, rfl, -⟩ := id Hm
        clear hb3 B2
        go_wp2
        go_ret
        exact ⟨rfl, B3⟩
      · obtain ⟨k, rfl⟩ := Int.eq_ofNat_of_zero_le (show 0 ≤ n by omega)
        have hk : k ≤ 64 := by omega
        obtain ⟨m, hm⟩ : ∃ m, L.new (k : Int) = m := ⟨_, rfl⟩
        have h1 := L.new_len hk
        have h2 := L.new_count hk
        have h3 := fun h => L.new_less hk (l := l) h
        rw [hm] at h1 h2 h3
        have HM := hide hm
        have H1 := hide h1
        have H2 := hide h2
        have H3 := hide h3
        have H4 := hide (show decide (m.length ≤ 64) = true by rw [h1]; simpa using hk)
        clear hm h1 h2 h3
        go_wp2_with fail
        refine (new_b (k : Int) _ m (unhide HM)).mono ?_
        rintro e w3 ⟨v3, rfl, Hm, hb3⟩
        have B3 := below_trans' B2 hb3
        have Hl := Hl.below hb3
        obtain ⟨xa3, xc3, rfl, -⟩ := id Hm
        clear hb3 B2
        rw [unhide H1] at Hm ⊢
        go_wp2_with fail
        refine (count_b _ m _ Hm (k : Int) (unhide H2)).mono ?_
        rintro e w4 ⟨rfl, hb4⟩
        have B4 := below_trans' B3 hb4
        have Hl := Hl.below hb4
        have Hm := Hm.below hb4
        clear hb4 B3
        go_wp2_with fail
        refine (may_b _ m _ Hm true (unhide H4)).mono ?_
        rintro e w5 ⟨rfl, hb5⟩
        have B5 := below_trans' B4 hb5
        have Hl := Hl.below hb5
        have Hm := Hm.below hb5
        clear hb5 B4
        by_cases hl : l.length = k
        · have e2 : ((l.length : Int) != (k : Int)) = false := by simp [hl]
          have H5 := hide ((unhide H3) hl)
          clear hl
          go_wp2_with fail
          refine (less_b _ _ l m _ Hl Hm true (unhide H5)).mono ?_
          rintro e w6 ⟨rfl, hb6⟩
          have B6 := below_trans' B5 hb6
          have Hl := Hl.below hb6
          have Hm := Hm.below hb6
          clear hb6 B5
          go_wp2
          go_ret
          exact ⟨rfl, B6⟩
        · have e2 : ((l.length : Int) != (k : Int)) = true := by rw [bne_iff_ne]; omega
          clear hl
          go_wp2
          go_ret
          exact ⟨rfl, B5⟩
end Go.Proofs.Ytgdaohjmepgmmaa
