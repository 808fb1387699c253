/-
  The contracts of the document's test for rising lists, and of its Rise: they answer what the program's do.
-/
import Derived.Test.YtjkaidlgooemoaaRefGet
import Derived.Test.YtjkaidlgooemoaaHelp
import Derived.Test.YtjkaidlgooemoaaRise
namespace Go.Proofs.Ytjkaidlgooemoaa
open Go.RowKit

/-- The least that the number at place k may be: one above the one ahead. -/
def least (l : List Int) (k : Nat) : Int := if k = 0 then 0 else l.getD (k - 1) 0 + 1
theorem least_zero (l : List Int) : least l 0 = 0 := rfl
theorem least_succ (l : List Int) {k : Nat} {x : Int} (h : k < l.length) (hx : x = l[k]) : least l (k + 1) = x + 1 := by
  simp [least, h, hx]

set_option maxHeartbeats 1000000 in
theorem refRising_any (v : Value) (l : List Int) (w : World) (h : Sl .i64 w v l) :
    Calls Try.prog 57 #[v] w fun e w' => e = .returned (.bool (V.rises l)) ∧ ∃ n, w' = w.drewN n := by
  obtain ⟨a, cap, rfl, hl, hm, hna, ho⟩ := h.open
  clear h
  go_enter Try.func57, Try.ntmps57
  go_wp2
  go_loopw [3] (fun iv wr => ∃ (k : Nat) (m : Int), k ≤ l.length ∧ iv = .int .i64 k ∧ m = least l k ∧ 0 ≤ m ∧ m ≤ 34359738368 ∧ V.risingB 0 l = V.risingB m (l.drop k) ∧ ∃ n, wr = w.drewN n) (fun iv _ => l.length - (intOf iv).toNat)
  case atStart => exact ⟨0, 0, Nat.zero_le _, rfl, rfl, by omega, by omega, rfl, 0, rfl⟩
  case round =>
    obtain ⟨k, m, hk, rfl, hme, hm0, hm1, heq, n, rfl⟩ := hrel
    have HE := hide heq
    have HM := hide hme
    clear heq hme
    by_cases hlt : k < l.length
    · obtain ⟨b, off, rfl, hbl, hc⟩ := ho (by omega)
      have c1 := hc k hlt
      obtain ⟨x, hxe⟩ : ∃ x, x = l[k] := ⟨_, rfl⟩
      have c2 : w.cell? ⟨b, off + k, none⟩ = some (.int .i64 x) := by rw [c1, hxe]; simp [hlt]
      have HX := hide hxe
      clear hxe c1 ho
      have fin : ∀ h : ¬ (m ≤ x ∧ x ≤ 34359738367), V.rises l = false := fun h => by
        rw [V.rises, HE.out, dropAt hlt HX.out, V.rising_not h, Bool.and_false]
      have FIN := hide fin
      clear fin
      by_cases h1 : x < 0
      · have t1 : decide (x < 0) = true := by simpa using h1
        clear hc
        go_wp2
        go_quiet (fail)
        go_wp2
        go_ret
        exact ⟨by rw [unhide FIN (by omega)]; rfl, n + nq, World.drewN_drewN _ _ _⟩
      · have t1 : decide (x < 0) = false := by simpa using h1
        by_cases h2 : 34359738367 < x
        · have t2 : decide (34359738367 < x) = true := by simpa using h2
          clear hc
          go_wp2
          go_quiet (fail)
          go_wp2
          go_ret
          exact ⟨by rw [unhide FIN (by omega)]; rfl, n + nq, World.drewN_drewN _ _ _⟩
        · have t2 : decide (34359738367 < x) = false := by simpa using h2
          by_cases hk0 : k = 0
          · have HK := hide hk0
            have t3 : decide (0 < k) = false := by simp; omega
            have t4 : decide ((0 : Int) < k) = false := by simp; omega
            clear hc hk0
            go_wp2
            go_quiet (fail)
            go_wp2
            go_roundw
            case rel => exact ⟨k + 1, x + 1, by omega, by go_num, (least_succ l hlt HX.out).symm, by omega, by omega, by rw [HE.out, dropAt hlt HX.out, V.rising_cons (by have := HM.out; rw [unhide HK, least_zero] at this; omega)], n + nq, rfl⟩
            case measure => simp [intOf]; omega
          · have t3 : decide (0 < k) = true := by simp; omega
            have t4 : decide ((0 : Int) < k) = true := by simp; omega
            have c3 := hc (k - 1) (by omega)
            have c4 : w.cell? ⟨b, off + (k - 1), none⟩ = some (.int .i64 (m - 1)) := by
              rw [c3, HM.out, least, if_neg hk0]
              simp
            clear hc c3
            by_cases h5 : x ≤ m - 1
            · have t5 : decide (x ≤ m - 1) = true := by simpa using h5
              go_wp2
              go_quiet (fail)
              go_wp2
              go_ret
              exact ⟨by rw [unhide FIN (by omega)]; rfl, n + nq, World.drewN_drewN _ _ _⟩
            · have t5 : decide (x ≤ m - 1) = false := by simpa using h5
              go_wp2
              go_quiet (fail)
              go_wp2
              go_roundw
              case rel => exact ⟨k + 1, x + 1, by omega, by go_num, (least_succ l hlt HX.out).symm, by omega, by omega, by rw [HE.out, dropAt hlt HX.out, V.rising_cons (by omega)], n + nq, rfl⟩
              case measure => simp [intOf]; omega
    · have hend : V.rises l = decide ((l.length : Int) ≤ 2000) := by
        rw [V.rises, HE.out, List.drop_eq_nil_of_le (by omega)]
        simp [V.risingB]
        omega
      have HEND := hide hend
      clear hend ho
      go_wp2
      go_ret
      exact ⟨by rw [unhide HEND]; rfl, _, rfl⟩

theorem refRising_b (v : Value) (l : List Int) (w : World) (h : Sl .i64 w v l) :
    Calls Try.prog 57 #[v] w fun e w' => e = .returned (.bool (V.rises l)) ∧ Below w.heap.size w w' :=
  (refRising_any v l w h).mono fun e w' ⟨h1, n, h2⟩ => ⟨h1, by rw [h2]; exact below_dr (Below.refl _ _) n⟩

set_option maxHeartbeats 1000000 in
theorem refRise_any (v : Value) (l : List Int) (w : World) (h : Sl .i64 w v l) :
    Calls Try.prog 43 #[v] w fun e w' => ∃ v', e = .returned (.tuple #[v', .int .i64 (V.riseE l)]) ∧ w'.ownsRow w.heap.size 5 1 v' (V.riseA l).length ((V.riseA l).map (Value.int .u8)) ∧ Below w.heap.size w w' := by
  have hs := h
  obtain ⟨a, cap, rfl, hl, hm, hna, ho⟩ := h.open
  clear h ho
  obtain ⟨i0, hi, hz0, hz1, hz2⟩ := info_parts Try.info5
  by_cases hr : V.rises l = true
  · have hA : V.riseA l = V.enc (V.nums l) := if_pos hr
    have hE : V.riseE l = 0 := if_pos hr
    rw [hA, hE]
    clear hA hE
    have HR := hide hr
    have hlen : l.length ≤ 2000 := by simp [V.rises] at hr; omega
    have hrb : V.risingB 0 l = true := by simp [V.rises] at hr; exact hr.2
    have HB := hide hrb
    clear hr hrb
    go_enter Try.func43, Try.ntmps43
    go_wp2_with fail
    refine (refRising_b _ l _ hs).mono ?_
    rintro e w1 ⟨rfl, B1⟩
    rw [HR.out]
    go_wp2_with fail
    refine (refPut_any _ _).mono ?_
    rintro e w2 ⟨v2, rfl, hown2, hb2⟩
    have B2 := below_trans' B1 hb2
    have O2 := own_mono hown2 B1.size
    clear B1 hown2 hb2
    go_wp2
    go_loopw [5, 6] (fun ov iv wr => ∃ (k : Nat) (m : Int) (pre : List Int), k ≤ l.length ∧ iv = .int .i64 k ∧ m = least l k ∧ 0 ≤ m ∧ m ≤ 34359738368 ∧ V.risingB m (l.drop k) = true ∧
      pre ++ V.enc (V.deltas m (l.drop k)) = V.enc (V.nums l) ∧ pre.length ≤ 5 * (k + 1) ∧ wr.ownsRow w.heap.size 5 1 ov pre.length (pre.map (Value.int .u8)) ∧ Below w.heap.size w wr) (fun _ iv _ => l.length - (intOf iv).toNat)
    case atStart =>
      have hput : V.putA (l.length : Int) = V.put (l.length : Int) := V.putA_in (by omega)
      exact ⟨0, 0, V.putA (l.length : Int), Nat.zero_le _, rfl, rfl, by omega, by omega, HB.out, by rw [hput, V.nums, V.enc_cons]; rfl, by have := V.putA_len (l.length : Int); omega, O2, B2⟩
    case round =>
      obtain ⟨k, m, pre, hk, rfl, hme, hm0, hm1, hris, heq, hpl, hown, hbel⟩ := hrel
      have HE := hide heq
      have HS := hide hris
      have HM := hide hme
      have hBs := hbel.size
      clear heq hris hme O2 B2
      by_cases hlt : k < l.length
      · obtain ⟨a', cap', ea, -, -, -, ho⟩ := (hs.below hbel).open
        simp only [Value.slice.injEq] at ea
        obtain ⟨rfl, -, rfl⟩ := ea
        obtain ⟨b, off, rfl, hbl, hc⟩ := ho (by omega)
        have c1 := hc k hlt
        obtain ⟨x, hxe⟩ : ∃ x, x = l[k] := ⟨_, rfl⟩
        have c2 : wr.cell? ⟨b, off + k, none⟩ = some (.int .i64 x) := by rw [c1, hxe]; simp [hlt]
        have hx := HS.out
        rw [dropAt hlt hxe] at hx
        obtain ⟨hx1, hx2⟩ := V.rising_head hx
        have HX := hide hxe
        have HN := hide hx2
        have hput : V.putA (x - m) = V.put (x - m) := V.putA_in (by omega)
        have hpl5 := V.putA_len (x - m)
        have fin : pre ++ V.putA (x - m) ++ V.enc (V.deltas (x + 1) (l.drop (k + 1))) = V.enc (V.nums l) := by
          rw [← HE.out, dropAt hlt hxe, V.deltas, V.enc_cons, hput, List.append_assoc]
        have FIN := hide fin
        clear fin hput hxe c1 ho hx hx2
        by_cases hk0 : k = 0
        · have hmz : m = 0 := by rw [HM.out, hk0, least_zero]
          have hxm : x - m = x := by omega
          have HXM := hide hxm
          have t3 : ¬ 0 < k := by omega
          clear hc hk0 hmz hxm
          go_wp2_with (first | (go_at_call 42; refine (refPut_any _ _).mono ?_; rintro e w3 ⟨v3, rfl, hown3, hb3⟩; rw [← unhide HXM] at hown3) | (at_builtin; refine append_all rfl (.tmp 35) (.tmp 37) 31 rfl Try.underlying31 hi hz0 hz1 hz2 rfl rfl rfl (Sl.owned hown3) (own_below hown hb3) (hbel.trans (hb3.mono hBs)) (Nat.le_trans hBs hb3.size) (by omega) (by decide) ?_; intro v4 w4 hown4 hb4))
          go_roundw
          case rel =>
            refine ⟨k + 1, x + 1, pre ++ V.putA (x - m), by omega, by go_num, (least_succ l hlt HX.out).symm, by omega, by omega, HN.out, unhide FIN, by simp; omega, hown4, hb4⟩
          case measure => simp [intOf]; omega
        · have c3 := hc (k - 1) (by omega)
          have c4 : wr.cell? ⟨b, off + (k - 1), none⟩ = some (.int .i64 (m - 1)) := by
            rw [c3, HM.out, least, if_neg hk0]
            simp
          have t3 : 0 < k := by omega
          have hxm : x - m = x - (m - 1) - 1 := by omega
          have HXM := hide hxm
          clear hc c3 hk0 hxm
          go_wp2_with (first | (go_at_call 42; refine (refPut_any _ _).mono ?_; rintro e w3 ⟨v3, rfl, hown3, hb3⟩; rw [← unhide HXM] at hown3) | (at_builtin; refine append_all rfl (.tmp 35) (.tmp 37) 31 rfl Try.underlying31 hi hz0 hz1 hz2 rfl rfl rfl (Sl.owned hown3) (own_below hown hb3) (hbel.trans (hb3.mono hBs)) (Nat.le_trans hBs hb3.size) (by omega) (by decide) ?_; intro v4 w4 hown4 hb4))
          go_roundw
          case rel =>
            refine ⟨k + 1, x + 1, pre ++ V.putA (x - m), by omega, by go_num, (least_succ l hlt HX.out).symm, by omega, by omega, HN.out, unhide FIN, by simp; omega, hown4, hb4⟩
          case measure => simp [intOf]; omega
      · have hpe : pre = V.enc (V.nums l) := by
          have := HE.out
          rw [List.drop_eq_nil_of_le (by omega), V.deltas, V.enc_nil, List.append_nil] at this
          exact this
        have HPE := hide hpe
        clear hpe
        go_wp2
        go_ret2
        exact ⟨_, rfl, by rw [← unhide HPE]; exact hown, hbel⟩
  · have hr : V.rises l = false := by simpa using hr
    have hA : V.riseA l = [] := if_neg (by simp [hr])
    have hE : V.riseE l = 1 := if_neg (by simp [hr])
    rw [hA, hE]
    have HR := hide hr
    clear hA hE hr
    go_enter Try.func43, Try.ntmps43
    go_wp2_with fail
    refine (refRising_b _ l _ hs).mono ?_
    rintro e w1 ⟨rfl, B1⟩
    rw [HR.out]
    go_wp2
    go_ret2
    exact ⟨_, rfl, World.ownsRow_nil _ _ _ _, B1⟩
end Go.Proofs.Ytjkaidlgooemoaa
