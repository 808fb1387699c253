/-
  The contract of the document's Get: it answers what the program's does.
-/
import Derived.Test.YtgiefkeophobhaaHelp
import Derived.Test.YtgiefkeophobhaaPlainLaw
import Derived.Deep.RegionWith
import Derived.Deep.DeepMust
namespace Go.Proofs.Ytgiefkeophobhaa
open Go.RowKit

/-- Few bytes for a small number. -/
theorem putF_short : ∀ (k f : Nat) (n : Int), n < 128 ^ (k + 1) → (V.putF f n).length ≤ k + 1
  | _, 0, _, _ => by simp [V.putF]
  | 0, f + 1, n, h => by
    have : (128 : Int) ^ (0 + 1) = 128 := rfl
    rw [V.putF, if_neg (by omega)]
    simp
  | k + 1, f + 1, n, h => by
    have e : (128 : Int) ^ (k + 1 + 1) = 128 ^ (k + 1) * 128 := rfl
    rw [e] at h
    rw [V.putF]
    split
    · have := putF_short k f (n / 128) (by omega)
      simp
      omega
    · simp

theorem put_short {i : Nat} {n : Int} (hi : i < 5) (h0 : 0 < i) (h : n < V.pw i) : (V.put n).length ≤ i := by
  obtain ⟨k, rfl⟩ : ∃ k, i = k + 1 := ⟨i - 1, by omega⟩
  refine putF_short k 4 n ?_
  match k, hi with
  | 0, _ => exact h
  | 1, _ => exact h
  | 2, _ => exact h
  | 3, _ => exact h

theorem pw_mul {i : Nat} (hi : i < 5) : V.pw i * 128 = V.pw (i + 1) := by
  match i, hi with
  | 0, _ => rfl
  | 1, _ => rfl
  | 2, _ => rfl
  | 3, _ => rfl
  | 4, _ => rfl

theorem pw_bd (i : Nat) : 1 ≤ V.pw i ∧ V.pw i ≤ 34359738368 := by
  match i with
  | 0 => decide
  | 1 => decide
  | 2 => decide
  | 3 => decide
  | 4 => decide
  | _ + 5 => exact ⟨by simp [V.pw], by simp [V.pw]⟩

theorem pw_dig {i : Nat} {d : Int} (hi : i < 5) (h0 : 0 ≤ d) (h1 : d ≤ 127) : 0 ≤ V.pw i * d ∧ V.pw i * d ≤ 34359738368 := by
  match i, hi with
  | 0, _ => simp only [V.pw]; omega
  | 1, _ => simp only [V.pw]; omega
  | 2, _ => simp only [V.pw]; omega
  | 3, _ => simp only [V.pw]; omega
  | 4, _ => simp only [V.pw]; omega

set_option maxHeartbeats 1000000 in
theorem refGet_in (v : Value) (l : List Int) (p : Nat) (w : World) (h : Sl .u8 w v l) (hb : V.Byt l) (hp : p ≤ l.length) (hll : l.length ≤ 4294967296) :
    Calls Try.prog 41 #[v, .int .i64 (p : Int)] w fun e w' => e = .returned (.tuple #[.int .i64 (V.get l p).1, .int .i64 (V.get l p).2.1, .int .i64 (V.get l p).2.2]) ∧ Below w.heap.size w w' := by
  have hs := h
  obtain ⟨a, cap, rfl, hl, hm, hna, ho⟩ := h.open
  clear h
  have hp0 : decide ((p : Int) < 0) = false := by simp
  go_enter Try.func41, Try.ntmps41
  go_wp2
  go_loop [7, 8, 9] (fun nv yv iv => ∃ (i : Nat) (acc y : Int), i ≤ 5 ∧ p + i ≤ l.length ∧ iv = .int .i64 ((p : Int) + i) ∧ nv = .int .i64 acc ∧ yv = .int .i64 y ∧ y = V.pw i ∧ 0 ≤ acc ∧ acc < V.pw i ∧ V.getH 5 (l.drop p) = V.comb i acc (V.getH (5 - i) (l.drop (p + i)))) (fun _ _ iv => p + 5 - (intOf iv).toNat)
  case atStart => exact ⟨0, 0, 1, by omega, by omega, by simp, rfl, rfl, rfl, by omega, by simp [V.pw], by simp [V.comb_zero]⟩
  case round =>
    obtain ⟨i, acc, y, hi5, hil, rfl, rfl, rfl, hy, h0, h1, heq⟩ := hrel
    have HE : Hid (V.getH 5 (l.drop p) = V.comb i acc (V.getH (5 - i) (l.drop (p + i)))) := heq
    have HA : Hid (acc < V.pw i) := h1
    have HY : Hid (y = V.pw i) := hy
    have hyb := pw_bd i
    rw [← hy] at hyb
    have hab : acc < 34359738368 := by omega
    clear heq h1 hy
    by_cases hlt : i < 5 ∧ p + i < l.length
    · obtain ⟨hi, hlt⟩ := hlt
      have g1 : decide ((p : Int) + (i : Int) < (l.length : Int)) = true := by simp; omega
      have g2 : decide ((i : Int) < 5) = true := by simp; omega
      obtain ⟨b, off, rfl, hbl, hc⟩ := ho (by omega)
      have c1 := hc (p + i) hlt
      obtain ⟨c, hce⟩ : ∃ c, c = l[p + i] := ⟨_, rfl⟩
      have c2 : w.cell? ⟨b, off + (p + i), none⟩ = some (.int .u8 c) := by rw [c1, hce]; simp [hlt]
      have hcb := hb c (by rw [hce]; exact List.getElem_mem _)
      have HC : Hid (c = l[p + i]) := hce
      have hyd := pw_dig (d := c % 128) hi (by omega) (by omega)
      rw [← HY.out] at hyd
      clear hce c1 hc
      by_cases hge : 128 ≤ c
      · clear ho
        go_wp2
        go_round
        case rel =>
          have hpn := pw_next hi h0 HA.out (show (0 : Int) ≤ c % 128 by omega) (by omega)
          refine ⟨i + 1, acc + V.pw i * (c % 128), y * 128, by omega, by omega, by go_num, by rw [HY.out], rfl, by rw [HY.out, pw_mul hi], hpn.1, hpn.2.1, ?_⟩
          rw [HE.out, drop_at hlt HC.out, V.comb_more hi hge hcb.2 (hb.drop _), show 5 - (i + 1) = 4 - i by omega, show p + (i + 1) = p + i + 1 by omega]
        case measure => simp [intOf]; omega
      · have hsl := Try.slice_u8 b off l.length cap p (i + 1) (p : Int) (IntKind.i64.wrap ((p : Int) + (i : Int) + 1)) rfl (by rw [IntKind.wrap_i64]; omega) (by omega) (by omega)
        clear ho
        by_cases hz : c = 0 ∧ 0 < i
        · obtain ⟨rfl, hi0⟩ := hz
          have hdec : decide (V.putA acc = (l.drop p).take (i + 1)) = false := by
            apply decide_eq_false
            intro hx
            have h2 := congrArg List.length hx
            have h3 := put_short hi hi0 (n := acc) HA.out
            have h4 : V.putA acc = V.put acc := V.putA_in ⟨h0, by omega⟩
            simp only [h4, List.length_take, List.length_drop] at h2
            omega
          have HD := hide hdec
          clear hdec
          go_wp2
          go_region_with (first | (go_at_call 38; refine (refPut_any _ _).mono ?_; rintro e w1 ⟨v1, rfl, hown1, hb1⟩) | (go_at_call 23; refine (bytes_b _ _ _ _ _ (Sl.owned hown1) (Sl.below (w := w.drew) (hs.sub p (i + 1) (by omega)) hb1) false (unhide HD)).mono ?_; rintro e w2 ⟨rfl, hb2⟩))
          all_goals
            have B2 := below_trans' (below_trans' (Below.refl w.heap.size w).drew hb1) hb2
            go_wp2
            go_ret3
            exact ⟨ret3 (get_none hp (by rw [HE.out, drop_at hlt HC.out, V.comb_zero_byte hi hi0])), B2⟩
        · have hgs : V.getH 5 (l.drop p) = some (acc + y * c, i + 1) := by rw [HE.out, drop_at hlt HC.out, V.comb_last hi (by omega) hz, HY.out]
          have hcm : c % 128 = c := by omega
          have hdec : decide (V.putA (acc + y * (c % 128)) = (l.drop p).take (i + 1)) = true := by
            rw [hcm]
            obtain ⟨g1, g2, g3, g4, g5⟩ := V.put_getH (hb.drop p) hgs
            rw [V.putA_in ⟨g2, g3⟩, g1]
            simp
          have HD := hide hdec
          have HG := hide hgs
          have HM := hide hcm
          clear hdec hgs hcm hz
          go_wp2
          go_region_with (first | (go_at_call 38; refine (refPut_any _ _).mono ?_; rintro e w1 ⟨v1, rfl, hown1, hb1⟩) | (go_at_call 23; refine (bytes_b _ _ _ _ _ (Sl.owned hown1) (Sl.below (w := w.drew) (hs.sub p (i + 1) (by omega)) hb1) true (unhide HD)).mono ?_; rintro e w2 ⟨rfl, hb2⟩))
          all_goals
            have B2 := below_trans' (below_trans' (Below.refl w.heap.size w).drew hb1) hb2
            go_wp2
            go_ret3
            exact ⟨ret3 (by rw [get_some hp (unhide HG), unhide HM]; simp; omega), B2⟩
    · by_cases hi : i < 5
      · have g1 : decide ((p : Int) + (i : Int) < (l.length : Int)) = false := by simp; omega
        clear ho
        go_wp2
        go_ret3
        exact ⟨ret3 (get_none hp (by rw [HE.out, List.drop_eq_nil_of_le (by omega), V.comb_end])), Below.refl _ _⟩
      · have hi5' : i = 5 := by omega
        have H5 := hide hi5'
        clear hi5' ho
        by_cases hlt2 : p + i < l.length
        · have g1 : decide ((p : Int) + (i : Int) < (l.length : Int)) = true := by simp; omega
          have g2 : decide ((i : Int) < 5) = false := by simp; omega
          go_wp2
          go_ret3
          exact ⟨ret3 (get_none hp (by rw [HE.out, unhide H5]; rfl)), Below.refl _ _⟩
        · have g1 : decide ((p : Int) + (i : Int) < (l.length : Int)) = false := by simp; omega
          go_wp2
          go_ret3
          exact ⟨ret3 (get_none hp (by rw [HE.out, unhide H5]; rfl)), Below.refl _ _⟩

set_option maxHeartbeats 400000 in
theorem refGet_any (v : Value) (l : List Int) (x : Int) (w : World) (h : Sl .u8 w v l) (hb : V.Byt l) (hll : l.length ≤ 4294967296) :
    Calls Try.prog 41 #[v, .int .i64 x] w fun e w' => e = .returned (.tuple #[.int .i64 (V.get l x).1, .int .i64 (V.get l x).2.1, .int .i64 (V.get l x).2.2]) ∧ Below w.heap.size w w' := by
  by_cases hx : x < 0
  · obtain ⟨a, cap, rfl, hl, hm, hna, ho⟩ := h.open
    clear h ho
    go_enter Try.func41, Try.ntmps41
    go_wp2
    go_ret3
    exact ⟨ret3 (get_arg (.inl hx)), Below.refl _ _⟩
  · by_cases hx2 : (l.length : Int) < x
    · obtain ⟨a, cap, rfl, hl, hm, hna, ho⟩ := h.open
      clear h ho
      go_enter Try.func41, Try.ntmps41
      go_wp2
      go_ret3
      exact ⟨ret3 (get_arg (.inr hx2)), Below.refl _ _⟩
    · obtain ⟨p, rfl⟩ := Int.eq_ofNat_of_zero_le (show 0 ≤ x by omega)
      exact refGet_in v l p w h hb (by omega) hll
end Go.Proofs.Ytgiefkeophobhaa
