/-
  No number's bytes begin another one's; of two numbers the greater one has no fewer bytes: the walk of VintFirst.
-/
import Derived.Test.YtfhgcofbomcfoaaAwake
import Derived.Test.YtfhgcofbomcfoaaPlainLaw
namespace Go.Proofs.Ytfhgcofbomcfoaa
open Go.RowKit

set_option maxHeartbeats 1000000 in
theorem vintFirst_walk (a b : Int) (w : World) : Calls Try.prog 7 #[.int .i64 a, .int .i64 b] w fun e w' => e = .returned (.bool true) ∧ Below w.heap.size w w' := by
  go_enter Try.func7, Try.ntmps7
  go_wp2_with fail
  refine (awake_any _).mono ?_
  rintro e w1 ⟨rfl, hb1⟩
  go_wp2_with fail
  refine (put_any a _).mono ?_
  rintro e w2 ⟨v2, rfl, hown2, hb2⟩
  go_wp2_with fail
  refine (put_any b _).mono ?_
  rintro e w3 ⟨v3, rfl, hown3, hb3⟩
  have S2 := (Sl.owned hown2).below hb3
  have S3 := Sl.owned hown3
  have B3 := below_trans' (below_trans' hb1 hb2) hb3
  clear hown2 hown3 hb1 hb2 hb3
  obtain ⟨a2, c2, e2, l2, m2, n2, o2⟩ := S2.open
  obtain ⟨a3, c3, e3, l3, m3, n3, o3⟩ := S3.open
  subst e2 e3
  by_cases hab : a = b
  · subst hab
    have habb : (a == a) = true := beq_self_eq_true a
    have habn : (a != a) = false := by simp
    rcases V.putA_zero a with ⟨hz, -, -⟩ | ⟨hz, -, -, -⟩
    all_goals
      clear o2 o3
      go_wp2_with fail
      refine (bytes_b _ _ _ _ _ S2 S3 true (by simp)).mono ?_
      rintro e w4 ⟨rfl, hb4⟩
      go_wp2
      go_ret
      exact ⟨rfl, below_trans' B3 hb4⟩
  · have habb : (a == b) = false := beq_eq_false_iff_ne.2 hab
    have habn : (a != b) = true := by simp [hab]
    have HAB : Hid (a ≠ b) := hab
    clear hab
    rcases V.putA_zero a with ⟨hz, -, -⟩ | ⟨hz, ea, la, ra⟩
    · clear o2 o3
      go_wp2
      go_ret
      exact ⟨rfl, B3⟩
    · rcases V.putA_zero b with ⟨hzb, -, -⟩ | ⟨hzb, eb, lb, rb⟩
      · clear o2 o3 ea
        go_wp2
        go_ret
        exact ⟨rfl, B3⟩
      · obtain ⟨b2, f2, rfl, -, -⟩ := o2 la
        obtain ⟨b3, f3, rfl, -, -⟩ := o3 lb
        clear o3 n2 n3
        have EA : Hid (V.putA a = V.put a) := ea
        have EB : Hid (V.putA b = V.put b) := eb
        clear ea eb
        by_cases hlt : (V.putA b).length < (V.putA a).length
        · have hs : decide ((V.putA a).take (V.putA b).length = (V.putA b).take (V.putA b).length) = false := by
            rw [EA.out, EB.out]
            rw [EA.out, EB.out] at hlt
            exact V.put_apart ra rb HAB.out (.inr ⟨rfl, by omega⟩)
          have hgt : b < a := by
            by_cases h : b < a
            · exact h
            · have := V.put_mono (a := a) (b := b) ra.1 (by omega)
              rw [EA.out, EB.out] at hlt
              omega
          have c12 := fun n : Nat => bytes_any _ _ _ _ (w3.drewN n) ((S2.take (V.putA b).length (by omega)).drewN n) ((S3.take (V.putA b).length (by omega)).drewN n)
          simp only [hs] at c12
          have HC : Hid (∀ n : Nat, Calls Try.prog 12 #[.slice (some ⟨b2, f2, none⟩) (V.putA b).length c2, .slice (some ⟨b3, f3, none⟩) (V.putA b).length c3] (w3.drewN n) fun e w' => e = .returned (.bool false) ∧ ∃ m, w' = (w3.drewN n).drewN m) := c12
          clear hs c12
          have hle : (V.putA b).length ≤ (V.putA a).length := by omega
          go_wp2_with fail
          go_quiet ((go_at_call 12; exact Calls.quiet_of (HC.out _)))
          go_wp2
          go_ret
          exact ⟨rfl, below_dr B3 nq⟩
        · have hs : decide ((V.putA a).take (V.putA a).length = (V.putA b).take (V.putA a).length) = false := by
            rw [EA.out, EB.out]
            rw [EA.out, EB.out] at hlt
            exact V.put_apart ra rb HAB.out (.inl ⟨rfl, by omega⟩)
          have c12 := fun n : Nat => bytes_any _ _ _ _ (w3.drewN n) ((S2.take (V.putA a).length (by omega)).drewN n) ((S3.take (V.putA a).length (by omega)).drewN n)
          simp only [hs] at c12
          have HC : Hid (∀ n : Nat, Calls Try.prog 12 #[.slice (some ⟨b2, f2, none⟩) (V.putA a).length c2, .slice (some ⟨b3, f3, none⟩) (V.putA a).length c3] (w3.drewN n) fun e w' => e = .returned (.bool false) ∧ ∃ m, w' = (w3.drewN n).drewN m) := c12
          clear hs c12
          by_cases hgt : a < b
          · go_wp2_with fail
            go_quiet ((go_at_call 12; exact Calls.quiet_of (HC.out _)))
            go_wp2
            go_ret
            exact ⟨rfl, below_dr B3 nq⟩
          · have hba : b < a := by have := HAB.out; omega
            have hle : (V.putA b).length ≤ (V.putA a).length := by
              have := V.put_mono (a := b) (b := a) rb.1 (by omega)
              rw [EA.out, EB.out]
              exact this
            go_wp2_with fail
            go_quiet ((go_at_call 12; exact Calls.quiet_of (HC.out _)))
            go_wp2
            go_ret
            exact ⟨rfl, below_dr B3 nq⟩
end Go.Proofs.Ytfhgcofbomcfoaa
