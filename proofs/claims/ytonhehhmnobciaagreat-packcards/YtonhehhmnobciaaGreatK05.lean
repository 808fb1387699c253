/-
  Texts put together: Write, Put, Get, Rise, Read.
-/
import Derived.Test.YtonhehhmnobciaaGreatRows
import Derived.Test.YtonhehhmnobciaaGreatK03
import Derived.Test.YtonhehhmnobciaaGreatK01
import Derived.Test.YtonhehhmnobciaaGreatK02
/-
  The contract of vint's writer: numbers from 0 to the greatest one, as many as there are, are written as their bytes, one behind the other, into new memory.
-/
namespace Go.Proofs.YtonhehhmnobciaaGreat
set_option maxRecDepth 100000
open Go.RowKit

theorem Tryz.info5 : (Tryz.prog.info? 5).map (fun i => (i.zero, i.size, i.bytes)) = some (some (.int .u8 0), 1, 1) := by kernel_rfl
theorem Tryz.info3 : (Tryz.prog.info? 3).map (fun i => (i.zero, i.size, i.bytes)) = some (some (.int .i64 0), 1, 8) := by kernel_rfl

set_option maxHeartbeats 1000000 in
theorem write_any (v : Value) (ns : List Int) (w : World) (h : Sl .i64 w v ns) (hn : ∀ n ∈ ns, 0 ≤ n ∧ n ≤ 34359738367) (hlen : ns.length ≤ 3000) :
    Calls Tryz.prog 50 #[v] w fun e w' => ∃ v', e = .returned v' ∧ w'.ownsRow w.heap.size 5 1 v' (V.enc ns).length ((V.enc ns).map (Value.int .u8)) ∧ Below w.heap.size w w' := by
  obtain ⟨a, cap, rfl, hl, hm, hna, ho⟩ := h.open
  clear h
  obtain ⟨i0, hi, hz0, hz1, hz2⟩ := info_parts Tryz.info5
  go_enter Tryz.func50, Tryz.ntmps50
  go_wp2
  go_loopw [3, 8] (fun v i wr => ∃ k : Nat, k ≤ ns.length ∧ i = .int .i64 k ∧ wr.ownsRow w.heap.size 5 1 v (V.enc (ns.take k)).length ((V.enc (ns.take k)).map (Value.int .u8)) ∧ Below w.heap.size w wr) (fun _ i _ => ns.length - (intOf i).toNat)
  case atStart => exact ⟨0, Nat.zero_le _, rfl, World.ownsRow_nil _ _ _ _, Below.refl _ _⟩
  case round =>
    obtain ⟨k, hk, rfl, hown, hbel⟩ := hrel
    by_cases hlt : k < ns.length
    · obtain ⟨b, off, rfl, hbl, hc⟩ := ho (by omega)
      have c1 : wr.cell? ⟨b, off + k, none⟩ = some (.int .i64 (ns.getD k 0)) := (hbel.cell hbl).trans (hc k hlt)
      have hx := hn ns[k] (List.getElem_mem _)
      obtain ⟨x, hxe⟩ : ∃ x, x = ns[k] := ⟨_, rfl⟩
      have c2 : wr.cell? ⟨b, off + k, none⟩ = some (.int .i64 x) := by rw [c1, hxe]; simp [hlt]
      rw [← hxe] at hx
      have HX : Hid (x = ns[k]) := hxe
      clear hxe c1 hc ho
      go_wp2
      go_loopw [3, 5] (fun v n wr => ∃ (f : Nat) (m : Int) (pre : List Int), n = .int .i64 m ∧ 0 ≤ m ∧ m ≤ 34359738367 ∧ m < 128 ^ (f + 1) ∧ pre ++ V.putF f m = V.enc (ns.take k) ++ V.put x ∧
        wr.ownsRow w.heap.size 5 1 v pre.length (pre.map (Value.int .u8)) ∧ Below w.heap.size w wr) (fun _ n _ => (intOf n).toNat)
      case atStart => exact ⟨4, x, V.enc (ns.take k), rfl, hx.1, hx.2, V.lt_p5 hx.2, rfl, hown, hbel⟩
      case round =>
        obtain ⟨f, m, pre, rfl, hm0, hm1, hmf, heq, hown1, hbel1⟩ := hrel
        have hpl : pre.length ≤ 5 * 3001 := by
          have h1 := congrArg List.length heq
          have h2 := V.enc_take_len ns k
          have h3 := (V.put_len x).2
          simp only [List.length_append] at h1
          omega
        have HQ : Hid (pre ++ V.putF f m = V.enc (ns.take k) ++ V.put x) := heq
        have HF : Hid (m < 128 ^ (f + 1)) := hmf
        have hBs := hbel1.size
        clear heq hmf hown
        by_cases hge : 128 ≤ m
        · go_wp2_with (at_builtin; refine append_one rfl _ _ 33 rfl Tryz.underlying33 hi hz0 hz1 hz2 rfl rfl rfl hown1 hbel1 hBs (by omega) (by decide) ?_; intro v1 w1 hown2 hbel2)
          go_roundw
          case rel =>
            obtain ⟨g, hg1, hg2, hg3⟩ := V.putF_more hge HF.out
            refine ⟨g, m / 128, pre ++ [m % 128 + 128], rfl, by omega, by omega, hg3, ?_, hown2, hbel2⟩
            have := HQ.out
            rw [hg2] at this
            simpa using this
          case measure => simp [intOf]; omega
        · go_wp2_with (at_builtin; refine append_one rfl _ _ 33 rfl Tryz.underlying33 hi hz0 hz1 hz2 rfl rfl rfl hown1 hbel1 hBs (by omega) (by decide) ?_; intro v1 w1 hown2 hbel2)
          go_roundw
          case rel =>
            have hq := HQ.out
            rw [V.putF_done hge] at hq
            refine ⟨k + 1, by omega, by go_num, ?_, hbel2⟩
            rw [V.enc_take hlt, ← HX.out, ← hq]
            exact hown2
          case measure => simp [intOf]; omega
    · go_wp2
      go_ret
      exact ⟨_, rfl, by rw [List.take_of_length_le (by omega)] at hown; exact hown, hbel⟩
end Go.Proofs.YtonhehhmnobciaaGreat

/-
  The contracts of Put, the program's and the document's: of a number from 0 to the greatest one its bytes, in new memory; of any other one nothing.
-/
namespace Go.Proofs.YtonhehhmnobciaaGreat
set_option maxRecDepth 100000
open Go.RowKit

set_option maxHeartbeats 400000 in
theorem put_any (n : Int) (w : World) :
    Calls Tryz.prog 21 #[.int .i64 n] w fun e w' => ∃ v', e = .returned v' ∧ w'.ownsRow w.heap.size 5 1 v' (V.putA n).length ((V.putA n).map (Value.int .u8)) ∧ Below w.heap.size w w' := by
  by_cases h : 0 ≤ n ∧ n ≤ 34359738367
  · obtain ⟨h0, h1⟩ := h
    rw [V.putA_in ⟨h0, h1⟩, ← V.enc_one]
    go_enter Tryz.func21, Tryz.ntmps21
    go_wp2_with fail
    refine (write_any _ [n] _ (Sl.lit (n := 1) [n] rfl rfl (by omega)) (by simp; omega) (by simp)).mono ?_
    rintro e w1 ⟨v1, rfl, hown, hbel⟩
    go_wp2
    go_ret
    exact ⟨_, rfl, own_mono hown (by simp), below_trans' (below_alloc _ _) hbel⟩
  · rw [V.putA_out h]
    by_cases h0 : n < 0
    · go_enter Tryz.func21, Tryz.ntmps21
      go_wp2
      go_ret
      exact ⟨_, rfl, World.ownsRow_nil _ _ _ _, Below.refl _ _⟩
    · have h1 : 34359738367 < n := by omega
      clear h
      go_enter Tryz.func21, Tryz.ntmps21
      go_wp2
      go_ret
      exact ⟨_, rfl, World.ownsRow_nil _ _ _ _, Below.refl _ _⟩

set_option maxHeartbeats 400000 in
theorem refPut_any (n : Int) (w : World) :
    Calls Tryz.prog 35 #[.int .i64 n] w fun e w' => ∃ v', e = .returned v' ∧ w'.ownsRow w.heap.size 5 1 v' (V.putA n).length ((V.putA n).map (Value.int .u8)) ∧ Below w.heap.size w w' := by
  obtain ⟨i0, hi, hz0, hz1, hz2⟩ := info_parts Tryz.info5
  by_cases h : 0 ≤ n ∧ n ≤ 34359738367
  · obtain ⟨h0, h1⟩ := h
    rw [V.putA_in ⟨h0, h1⟩]
    go_enter Tryz.func35, Tryz.ntmps35
    go_wp2
    go_loopw [0, 3] (fun nv v wr => ∃ (f : Nat) (m : Int) (pre : List Int), nv = .int .i64 m ∧ 0 ≤ m ∧ m ≤ 34359738367 ∧ m < 128 ^ (f + 1) ∧ pre ++ V.putF f m = V.put n ∧
        wr.ownsRow w.heap.size 5 1 v pre.length (pre.map (Value.int .u8)) ∧ Below w.heap.size w wr) (fun nv _ _ => (intOf nv).toNat)
    case atStart => exact ⟨4, n, [], rfl, h0, h1, V.lt_p5 h1, rfl, World.ownsRow_nil _ _ _ _, Below.refl _ _⟩
    case round =>
      obtain ⟨f, m, pre, rfl, hm0, hm1, hmf, heq, hown1, hbel1⟩ := hrel
      have hpl : pre.length ≤ 5 := by
        have h1 := congrArg List.length heq
        have h3 := (V.put_len n).2
        simp only [List.length_append] at h1
        omega
      have HQ : Hid (pre ++ V.putF f m = V.put n) := heq
      have HF : Hid (m < 128 ^ (f + 1)) := hmf
      have hBs := hbel1.size
      clear heq hmf
      by_cases hge : 128 ≤ m
      · go_wp2_with (at_builtin; refine append_one rfl _ _ 33 rfl Tryz.underlying33 hi hz0 hz1 hz2 rfl rfl rfl hown1 hbel1 hBs (by omega) (by decide) ?_; intro v1 w1 hown2 hbel2)
        go_roundw
        case rel =>
          obtain ⟨g, hg1, hg2, hg3⟩ := V.putF_more hge HF.out
          refine ⟨g, m / 128, pre ++ [128 + m % 128], rfl, by omega, by omega, hg3, ?_, hown2, hbel2⟩
          have := HQ.out
          rw [hg2, Int.add_comm] at this
          simpa using this
        case measure => simp [intOf]; omega
      · go_wp2_with (at_builtin; refine append_one rfl _ _ 33 rfl Tryz.underlying33 hi hz0 hz1 hz2 rfl rfl rfl hown1 hbel1 hBs (by omega) (by decide) ?_; intro v1 w1 hown2 hbel2)
        go_ret
        have hq := HQ.out
        rw [V.putF_done (by omega)] at hq
        exact ⟨_, rfl, by rw [← hq]; exact hown2, hbel2⟩
  · rw [V.putA_out h]
    by_cases h0 : n < 0
    · go_enter Tryz.func35, Tryz.ntmps35
      go_wp2
      go_ret
      exact ⟨_, rfl, World.ownsRow_nil _ _ _ _, Below.refl _ _⟩
    · have h1 : 34359738367 < n := by omega
      clear h
      go_enter Tryz.func35, Tryz.ntmps35
      go_wp2
      go_ret
      exact ⟨_, rfl, World.ownsRow_nil _ _ _ _, Below.refl _ _⟩
end Go.Proofs.YtonhehhmnobciaaGreat

/-
  The contract of Get: what it answers of whatever bytes, from whatever place on.
-/
namespace Go.Proofs.YtonhehhmnobciaaGreat
set_option maxRecDepth 100000
open Go.RowKit

theorem get_of {l : List Int} {p : Nat} (hp : p ≤ l.length) : V.get l p = match V.getH 5 (l.drop p) with | none => (0, 0, 5) | some (n, k) => (n, (p : Int) + k, 0) := by
  unfold V.get
  rw [if_neg (by omega)]
  rfl
theorem get_none {l : List Int} {p : Nat} (hp : p ≤ l.length) (h : V.getH 5 (l.drop p) = none) : V.get l p = (0, 0, 5) := by rw [get_of hp, h]
theorem get_some {l : List Int} {p : Nat} {n : Int} {k : Nat} (hp : p ≤ l.length) (h : V.getH 5 (l.drop p) = some (n, k)) : V.get l p = (n, (p : Int) + k, 0) := by rw [get_of hp, h]
theorem get_arg {l : List Int} {x : Int} (h : x < 0 ∨ (l.length : Int) < x) : V.get l x = (0, 0, 1) := by unfold V.get; rw [if_pos h]
theorem drop_at {l : List Int} {j : Nat} {c : Int} (h : j < l.length) (hc : c = l[j]) : l.drop j = c :: l.drop (j + 1) := by rw [List.drop_eq_getElem_cons h, hc]
theorem ret3 {a b c a' b' c' : Int} (h : (a, b, c) = (a', b', c')) : Ending.returned (.tuple #[.int .i64 a', .int .i64 b', .int .i64 c']) = .returned (.tuple #[.int .i64 a, .int .i64 b, .int .i64 c]) := by
  simp only [Prod.mk.injEq] at h
  rw [h.1, h.2.1, h.2.2]

set_option maxHeartbeats 1000000 in
theorem get_in (v : Value) (l : List Int) (p : Nat) (w : World) (h : Sl .u8 w v l) (hb : V.Byt l) (hp : p ≤ l.length) :
    Calls Tryz.prog 55 #[v, .int .i64 (p : Int)] w fun e w' => e = .returned (.tuple #[.int .i64 (V.get l p).1, .int .i64 (V.get l p).2.1, .int .i64 (V.get l p).2.2]) ∧ w' = w := by
  obtain ⟨a, cap, rfl, hl, hm, hna, ho⟩ := h.open
  clear h
  have hp0 : decide ((p : Int) < 0) = false := by simp
  go_enter Tryz.func55, Tryz.ntmps55
  go_wp2
  all_goals
    go_loop [7, 23] (fun nv iv => ∃ (i : Nat) (acc : Int), i ≤ 5 ∧ p + i ≤ l.length ∧ iv = .int .i64 i ∧ nv = .int .i64 acc ∧ 0 ≤ acc ∧ acc < V.pw i ∧ V.getH 5 (l.drop p) = V.comb i acc (V.getH (5 - i) (l.drop (p + i)))) (fun _ iv => 5 - (intOf iv).toNat)
    case atStart => exact ⟨0, 0, by omega, by omega, rfl, rfl, by omega, by simp [V.pw], by simp [V.comb_zero]⟩
    case round =>
      obtain ⟨i, acc, hi5, hil, rfl, rfl, h0, h1, heq⟩ := hrel
      have HE : Hid (V.getH 5 (l.drop p) = V.comb i acc (V.getH (5 - i) (l.drop (p + i)))) := heq
      have HA : Hid (acc < V.pw i) := h1
      clear heq h1
      by_cases hlt : i < 5 ∧ p + i < l.length
      · obtain ⟨hi, hlt⟩ := hlt
        obtain ⟨b, off, rfl, hbl, hc⟩ := ho (by omega)
        have c1 := hc (p + i) hlt
        obtain ⟨c, hce⟩ : ∃ c, c = l[p + i] := ⟨_, rfl⟩
        have c2 : w.cell? ⟨b, off + (p + i), none⟩ = some (.int .u8 c) := by rw [c1, hce]; simp [hlt]
        have hcb := hb c (by rw [hce]; exact List.getElem_mem _)
        have HC : Hid (c = l[p + i]) := hce
        clear hce c1 hc ho
        by_cases hge : 128 ≤ c
        · go_wp2
          go_round
          case rel =>
            have hpn := pw_next hi h0 HA.out (show (0 : Int) ≤ c % 128 by omega) (by omega)
            refine ⟨i + 1, acc + V.pw i * (c % 128), by omega, by omega, by go_num, by rw [or_pw hi h0 HA.out (by omega) (by omega)], hpn.1, hpn.2.1, ?_⟩
            rw [HE.out, drop_at hlt HC.out, V.comb_more hi hge hcb.2 (hb.drop _), show 5 - (i + 1) = 4 - i by omega, show p + (i + 1) = p + i + 1 by omega]
          case measure => simp [intOf]; omega
        · by_cases hz : c = 0
          · subst hz
            by_cases hi0 : 0 < i
            · go_wp2
              go_ret3
              exact ⟨ret3 (get_none hp (by rw [HE.out, drop_at hlt HC.out, V.comb_zero_byte hi hi0])), rfl⟩
            · go_wp2
              go_ret3
              exact ⟨ret3 (by rw [get_some hp (by rw [HE.out, drop_at hlt HC.out, V.comb_last hi (by omega) (by omega)])]; rw [or_zero h0 (by have := pw_next (d := 0) hi h0 HA.out (by omega) (by omega); omega)]; simp; omega), rfl⟩
          · have hz1 : (c == 0) = false := beq_eq_false_iff_ne.2 hz
            have hcm : c % 128 = c := by omega
            have HM : Hid (c % 128 = c) := hcm
            clear hcm
            go_wp2
            go_ret3
            exact ⟨ret3 (by rw [get_some hp (by rw [HE.out, drop_at hlt HC.out, V.comb_last hi (by omega) (by omega)])]; rw [or_pw hi h0 HA.out (by omega) (by omega), HM.out]; simp; omega), rfl⟩
      · go_wp2
        go_ret3
        refine ⟨ret3 (get_none hp ?_), rfl⟩
        rw [HE.out]
        by_cases h5 : i = 5
        · subst h5; rfl
        · rw [List.drop_eq_nil_of_le (by omega), V.comb_end]

set_option maxHeartbeats 400000 in
theorem get_any (v : Value) (l : List Int) (x : Int) (w : World) (h : Sl .u8 w v l) (hb : V.Byt l) :
    Calls Tryz.prog 55 #[v, .int .i64 x] w fun e w' => e = .returned (.tuple #[.int .i64 (V.get l x).1, .int .i64 (V.get l x).2.1, .int .i64 (V.get l x).2.2]) ∧ w' = w := by
  by_cases hx : x < 0
  · obtain ⟨a, cap, rfl, hl, hm, hna, ho⟩ := h.open
    clear h
    go_enter Tryz.func55, Tryz.ntmps55
    go_wp2
    go_ret3
    exact ⟨ret3 (get_arg (.inl hx)), rfl⟩
  · by_cases hx2 : (l.length : Int) < x
    · obtain ⟨a, cap, rfl, hl, hm, hna, ho⟩ := h.open
      clear h
      go_enter Tryz.func55, Tryz.ntmps55
      go_wp2
      go_ret3
      exact ⟨ret3 (get_arg (.inr hx2)), rfl⟩
    · obtain ⟨p, rfl⟩ := Int.eq_ofNat_of_zero_le (show 0 ≤ x by omega)
      exact get_in v l p w h hb (by omega)
end Go.Proofs.YtonhehhmnobciaaGreat

/-
  The contracts of the program's test for rising lists, and of Rise.
-/
namespace Go.Proofs.YtonhehhmnobciaaGreat
set_option maxRecDepth 100000
open Go.RowKit

theorem dropAt {l : List Int} {j : Nat} {c : Int} (h : j < l.length) (hc : c = l[j]) : l.drop j = c :: l.drop (j + 1) := by rw [List.drop_eq_getElem_cons h, hc]

set_option maxHeartbeats 1000000 in
theorem rising_any (v : Value) (l : List Int) (w : World) (h : Sl .i64 w v l) :
    Calls Tryz.prog 107 #[v] w fun e w' => e = .returned (.bool (V.rises l)) ∧ w' = w := by
  obtain ⟨a, cap, rfl, hl, hm, hna, ho⟩ := h.open
  clear h
  by_cases hlen : 2000 < l.length
  · have hr : V.rises l = false := by
      have : ¬ l.length ≤ 2000 := by omega
      simp [V.rises, this]
    have HR : Hid (V.rises l = false) := hr
    clear hr
    go_enter Tryz.func107, Tryz.ntmps107
    go_wp2
    go_ret
    exact ⟨by rw [HR.out]; rfl, rfl⟩
  · have hr : V.rises l = V.risingB 0 l := by
      have : l.length ≤ 2000 := by omega
      simp [V.rises, this]
    have HR : Hid (V.rises l = V.risingB 0 l) := hr
    clear hr
    go_enter Tryz.func107, Tryz.ntmps107
    go_wp2
    go_loop [3, 11] (fun mv iv => ∃ (k : Nat) (m : Int), k ≤ l.length ∧ iv = .int .i64 k ∧ mv = .int .i64 m ∧ 0 ≤ m ∧ m ≤ 34359738368 ∧ V.risingB 0 l = V.risingB m (l.drop k)) (fun _ iv => l.length - (intOf iv).toNat)
    case atStart => exact ⟨0, 0, Nat.zero_le _, rfl, rfl, by omega, by omega, rfl⟩
    case round =>
      obtain ⟨k, m, hk, rfl, rfl, hm0, hm1, heq⟩ := hrel
      have HE : Hid (V.risingB 0 l = V.risingB m (l.drop k)) := heq
      clear heq
      by_cases hlt : k < l.length
      · obtain ⟨b, off, rfl, hbl, hc⟩ := ho (by omega)
        have c1 := hc k hlt
        obtain ⟨x, hxe⟩ : ∃ x, x = l[k] := ⟨_, rfl⟩
        have c2 : w.cell? ⟨b, off + k, none⟩ = some (.int .i64 x) := by rw [c1, hxe]; simp [hlt]
        have HX : Hid (x = l[k]) := hxe
        clear hxe c1 hc ho
        by_cases h1 : x < m
        · go_wp2
          go_ret
          exact ⟨by rw [HR.out, HE.out, dropAt hlt HX.out, V.rising_not (by omega)]; rfl, rfl⟩
        · by_cases h2 : 34359738367 < x
          · go_wp2
            go_ret
            exact ⟨by rw [HR.out, HE.out, dropAt hlt HX.out, V.rising_not (by omega)]; rfl, rfl⟩
          · go_wp2
            go_round
            case rel => exact ⟨k + 1, x + 1, by omega, by go_num, rfl, by omega, by omega, by rw [HE.out, dropAt hlt HX.out, V.rising_cons (by omega)]⟩
            case measure => simp [intOf]; omega
      · go_wp2
        go_ret
        exact ⟨by rw [HR.out, HE.out, List.drop_eq_nil_of_le (by omega)]; rfl, rfl⟩

set_option maxHeartbeats 1000000 in
theorem rise_any (v : Value) (l : List Int) (w : World) (h : Sl .i64 w v l) :
    Calls Tryz.prog 88 #[v] w fun e w' => ∃ v', e = .returned (.tuple #[v', .int .i64 (V.riseE l)]) ∧ w'.ownsRow w.heap.size 5 1 v' (V.riseA l).length ((V.riseA l).map (Value.int .u8)) ∧ Below w.heap.size w w' := by
  have hs := h
  obtain ⟨a, cap, rfl, hl, hm, hna, ho⟩ := h.open
  clear h
  obtain ⟨i0, hi, hz0, hz1, hz2⟩ := info_parts Tryz.info3
  by_cases hr : V.rises l = true
  · have hA : V.riseA l = V.enc (V.nums l) := if_pos hr
    have hE : V.riseE l = 0 := if_pos hr
    rw [hA, hE]
    clear hA hE
    have HR : Hid (V.rises l = true) := hr
    have hlen : l.length ≤ 2000 := by simp [V.rises] at hr; omega
    have hrb : V.risingB 0 l = true := by simp [V.rises] at hr; exact hr.2
    have HB : Hid (V.risingB 0 l = true) := hrb
    clear hr hrb
    go_enter Tryz.func88, Tryz.ntmps88
    go_wp2_with fail
    refine (rising_any _ l _ hs).mono ?_
    rintro e w1 ⟨rfl, rfl⟩
    rw [HR.out]
    clear hs
    go_wp2
    go_loopw [4, 5, 16] (fun nv mv iv wr => ∃ (k : Nat) (m : Int) (pre : List Int), k ≤ l.length ∧ iv = .int .i64 k ∧ mv = .int .i64 m ∧ 0 ≤ m ∧ m ≤ 34359738368 ∧ V.risingB m (l.drop k) = true ∧
      pre ++ V.deltas m (l.drop k) = V.nums l ∧ pre.length = k + 1 ∧ wr.ownsRow w1.heap.size 3 1 nv pre.length (pre.map (Value.int .i64)) ∧ Below w1.heap.size w1 wr) (fun _ _ iv _ => l.length - (intOf iv).toNat)
    case atStart => exact ⟨0, 0, [(l.length : Int)], Nat.zero_le _, rfl, rfl, by omega, by omega, HB.out, rfl, rfl, World.ownsRow_lit _ _ 1 (Nat.le_refl _) (by unfold maxLen; omega) rfl, below_alloc _ _⟩
    case round =>
      obtain ⟨k, m, pre, hk, rfl, rfl, hm0, hm1, hris, heq, hpl, hown, hbel⟩ := hrel
      have HE : Hid (pre ++ V.deltas m (l.drop k) = V.nums l) := heq
      have HS : Hid (V.risingB m (l.drop k) = true) := hris
      have HP : Hid (pre.length = k + 1) := hpl
      have hpl2 : pre.length ≤ 3000 := by omega
      have hBs := hbel.size
      clear heq hris hpl
      by_cases hlt : k < l.length
      · obtain ⟨b, off, rfl, hbl, hc⟩ := ho (by omega)
        have c1 := hc k hlt
        obtain ⟨x, hxe⟩ : ∃ x, x = l[k] := ⟨_, rfl⟩
        have c2 : wr.cell? ⟨b, off + k, none⟩ = some (.int .i64 x) := by rw [hbel.cell hbl, c1, hxe]; simp [hlt]
        have hx := HS.out
        rw [dropAt hlt hxe] at hx
        obtain ⟨hx1, hx2⟩ := V.rising_head hx
        have HX : Hid (x = l[k]) := hxe
        have HN : Hid (V.risingB (x + 1) (l.drop (k + 1)) = true) := hx2
        clear hxe c1 hc ho hx hx2
        go_wp2_with (at_builtin; refine append_one rfl _ _ 26 rfl Tryz.underlying26 hi hz0 hz1 hz2 rfl rfl rfl hown hbel hBs (by omega) (by decide) ?_; intro v1 w2 hown2 hbel2)
        go_roundw
        case rel =>
          refine ⟨k + 1, x + 1, pre ++ [x - m], by omega, by go_num, rfl, by omega, by omega, HN.out, ?_, by simp [HP.out], hown2, hbel2⟩
          have := HE.out
          rw [dropAt hlt HX.out, V.deltas] at this
          simpa using this
        case measure => simp [intOf]; omega
      · have hpe : pre = V.nums l := by
          have := HE.out
          rw [List.drop_eq_nil_of_le (by omega), V.deltas, List.append_nil] at this
          exact this
        subst hpe
        go_wp2_with fail
        refine (write_any _ (V.nums l) _ (Sl.owned hown) (V.nums_bd HR.out) (by omega)).mono ?_
        rintro e w2 ⟨v2, rfl, hown2, hbel2⟩
        go_wp2
        go_ret2
        exact ⟨_, rfl, own_mono hown2 hBs, below_trans' hbel hbel2⟩
  · have hr : V.rises l = false := by simpa using hr
    have hA : V.riseA l = [] := if_neg (by simp [hr])
    have hE : V.riseE l = 1 := if_neg (by simp [hr])
    rw [hA, hE]
    have HR : Hid (V.rises l = false) := hr
    clear hA hE hr
    go_enter Tryz.func88, Tryz.ntmps88
    go_wp2_with fail
    refine (rising_any _ l _ hs).mono ?_
    rintro e w1 ⟨rfl, rfl⟩
    rw [HR.out]
    go_wp2
    go_ret2
    exact ⟨_, rfl, World.ownsRow_nil _ _ _ _, Below.refl _ _⟩
end Go.Proofs.YtonhehhmnobciaaGreat

/-
  The contract of Read: what it answers of whatever bytes, from whatever place on.
-/
namespace Go.Proofs.YtonhehhmnobciaaGreat
set_option maxRecDepth 100000
open Go.RowKit

theorem read_arg {l : List Int} {x : Int} (h : x < 0 ∨ (l.length : Int) < x) : V.read l x = ([], 0, 1) := if_pos h
theorem read_of {l : List Int} {p : Nat} (hp : p ≤ l.length) : V.read l p = match V.readP l p with | none => ([], 0, 5) | some (r, q) => (r, (q : Int), 0) := by
  unfold V.read
  rw [if_neg (by omega)]
  rfl
theorem read_none {l : List Int} {p : Nat} (hp : p ≤ l.length) (h : V.readP l p = none) : V.read l p = ([], 0, 5) := by rw [read_of hp, h]
theorem read_some {l : List Int} {p : Nat} {r : List Int} {q : Nat} (hp : p ≤ l.length) (h : V.readP l p = some (r, q)) : V.read l p = (r, (q : Int), 0) := by rw [read_of hp, h]
theorem readP_none {l : List Int} {p : Nat} (hg : V.getH 5 (l.drop p) = none) : V.readP l p = none := by rw [V.readP, hg]
theorem readP_many {l : List Int} {p k : Nat} {c : Int} (hg : V.getH 5 (l.drop p) = some (c, k)) (hc : 2000 < c) : V.readP l p = none := by rw [V.readP, hg]; exact if_pos hc
theorem readP_go {l : List Int} {p k : Nat} {c : Int} (hg : V.getH 5 (l.drop p) = some (c, k)) (hc : ¬ 2000 < c) : V.readP l p = V.readN c.toNat 0 l (p + k) := by rw [V.readP, hg]; exact if_neg hc

/-- What Read leaves: the list in new memory, the place, the error. -/
def ReadEnd (w : World) (r : List Int × Int × Int) (e : Ending) (w' : World) : Prop :=
  ∃ v', e = .returned (.tuple #[v', .int .i64 r.2.1, .int .i64 r.2.2]) ∧ w'.ownsRow w.heap.size 3 1 v' r.1.length (r.1.map (Value.int .i64)) ∧ Below w.heap.size w w'

theorem readEnd_nil {w w' : World} {p e : Int} (hb : Below w.heap.size w w') : ReadEnd w ([], p, e) (.returned (.tuple #[.slice none 0 0, .int .i64 p, .int .i64 e])) w' :=
  ⟨_, rfl, World.ownsRow_nil _ _ _ _, hb⟩

set_option maxHeartbeats 1000000 in
theorem read_in (v : Value) (l : List Int) (p : Nat) (w : World) (h : Sl .u8 w v l) (hb : V.Byt l) (hp : p ≤ l.length) :
    Calls Tryz.prog 122 #[v, .int .i64 (p : Int)] w fun e w' => ReadEnd w (V.read l p) e w' := by
  obtain ⟨i0, hi, hz0, hz1, hz2⟩ := info_parts Tryz.info3
  have hll := h.len
  cases hg : V.getH 5 (l.drop p) with
  | none =>
    rw [read_none hp (readP_none hg)]
    have hget := get_none hp hg
    go_enter Tryz.func122, Tryz.ntmps122
    go_wp2_with fail
    refine (get_any _ l _ _ h hb).mono ?_
    rintro e w1 ⟨rfl, rfl⟩
    rw [hget]
    clear hget hg h
    go_wp2
    go_ret3
    exact readEnd_nil (Below.refl _ _)
  | some x =>
    obtain ⟨c, k⟩ := x
    obtain ⟨g1, g2, g3, g4, g5⟩ := V.put_getH (hb.drop p) hg
    unfold V.Top at g3
    simp only [List.length_drop] at g5
    have hget := get_some hp hg
    have HG : Hid (V.get l p = (c, (p : Int) + k, 0)) := hget
    have HH : Hid (V.getH 5 (l.drop p) = some (c, k)) := hg
    clear hget hg g1
    by_cases hc : 2000 < c
    · rw [read_none hp (readP_many HH.out hc)]
      go_enter Tryz.func122, Tryz.ntmps122
      go_wp2_with fail
      refine (get_any _ l _ _ h hb).mono ?_
      rintro e w1 ⟨rfl, rfl⟩
      rw [HG.out]
      clear h
      go_wp2
      go_ret3
      exact readEnd_nil (Below.refl _ _)
    · obtain ⟨n, rfl⟩ := Int.eq_ofNat_of_zero_le g2
      have hpg : V.readP l p = V.readN n 0 l (p + k) := readP_go HH.out hc
      have HP : Hid (V.readP l p = V.readN n 0 l (p + k)) := hpg
      clear hpg
      go_enter Tryz.func122, Tryz.ntmps122
      go_wp2_with fail
      refine (get_any _ l _ _ h hb).mono ?_
      rintro e w1 ⟨rfl, rfl⟩
      rw [HG.out]
      have hs := h
      obtain ⟨a, cap, rfl, hl, hm, hna, ho⟩ := h.open
      clear h ho
      have HSL := hs
      clear hs
      go_wp2
      go_loopw [8, 10, 11, 28] (fun pv lv mv iv wr => ∃ (j q : Nat) (m : Int) (pre : List Int), j ≤ n ∧ iv = .int .i64 j ∧ q ≤ l.length ∧ pv = .int .i64 q ∧ mv = .int .i64 m ∧ 0 ≤ m ∧ m ≤ 34359738368 ∧
        V.readN n 0 l (p + k) = V.onto pre (V.readN (n - j) m l q) ∧ pre.length = j ∧ wr.ownsRow w1.heap.size 3 1 lv pre.length (pre.map (Value.int .i64)) ∧ Below w1.heap.size w1 wr) (fun _ _ _ iv _ => n - (intOf iv).toNat)
      case atStart => exact ⟨0, p + k, 0, [], Nat.zero_le _, rfl, by omega, by go_num, rfl, by omega, by omega, (V.onto_nil _).symm, rfl, World.ownsRow_nil _ _ _ _, Below.refl _ _⟩
      case round =>
        obtain ⟨j, q, m, pre, hj, rfl, hq, rfl, rfl, hm0, hm1, heq, hpl, hown, hbel⟩ := hrel
        have HE : Hid (V.readN n 0 l (p + k) = V.onto pre (V.readN (n - j) m l q)) := heq
        have HL : Hid (pre.length = j) := hpl
        have hpl2 : pre.length ≤ 3000 := by omega
        have hBs := hbel.size
        clear heq hpl
        by_cases hlt : j < n
        · have hnj : n - j = n - (j + 1) + 1 := by omega
          cases hg : V.getH 5 (l.drop q) with
          | none =>
            have HN : Hid (V.getH 5 (l.drop q) = none) := hg
            have HNJ : Hid (n - j = n - (j + 1) + 1) := hnj
            clear hg hnj
            go_wp2_with fail
            refine (get_any _ l _ _ (HSL.below hbel) hb).mono ?_
            rintro e w2 ⟨rfl, rfl⟩
            rw [get_none hq HN.out]
            go_wp2
            go_ret3
            rw [read_none hp (by rw [HP.out, HE.out, HNJ.out, V.onto_bad HN.out])]
            exact readEnd_nil hbel
          | some y =>
            obtain ⟨s, i⟩ := y
            obtain ⟨s1, s2, s3, s4, s5⟩ := V.put_getH (hb.drop q) hg
            unfold V.Top at s3
            simp only [List.length_drop] at s5
            have HN : Hid (V.getH 5 (l.drop q) = some (s, i)) := hg
            have HNJ : Hid (n - j = n - (j + 1) + 1) := hnj
            clear hg hnj s1
            by_cases hs : 34359738367 - m < s
            · go_wp2_with fail
              refine (get_any _ l _ _ (HSL.below hbel) hb).mono ?_
              rintro e w2 ⟨rfl, rfl⟩
              rw [get_some hq HN.out]
              go_wp2
              go_ret3
              rw [read_none hp (by rw [HP.out, HE.out, HNJ.out, V.onto_high HN.out hs])]
              exact readEnd_nil hbel
            · go_wp2_with fail
              refine (get_any _ l _ _ (HSL.below hbel) hb).mono ?_
              rintro e w2 ⟨rfl, rfl⟩
              rw [get_some hq HN.out]
              go_wp2_with (at_builtin; refine append_one rfl _ _ 26 rfl Tryz.underlying26 hi hz0 hz1 hz2 rfl rfl rfl hown hbel hBs (by omega) (by decide) ?_; intro v1 w3 hown2 hbel2)
              go_roundw
              case rel =>
                refine ⟨j + 1, q + i, m + s + 1, pre ++ [m + s], by omega, by go_num, by omega, by go_num, by go_num, by omega, by omega, ?_, by simp [HL.out], hown2, hbel2⟩
                rw [HE.out, HNJ.out, V.onto_step HN.out (by omega)]
              case measure => simp [intOf]; omega
        · have hjn : j = n := by omega
          have HJ : Hid (j = n) := hjn
          clear hjn
          go_wp2
          go_ret3
          rw [read_some hp (r := pre) (q := q) (by rw [HP.out, HE.out, HJ.out, Nat.sub_self]; simp [V.readN, V.onto])]
          exact ⟨_, rfl, hown, hbel⟩

set_option maxHeartbeats 400000 in
theorem read_any (v : Value) (l : List Int) (x : Int) (w : World) (h : Sl .u8 w v l) (hb : V.Byt l) :
    Calls Tryz.prog 122 #[v, .int .i64 x] w fun e w' => ReadEnd w (V.read l x) e w' := by
  by_cases hx : x < 0 ∨ (l.length : Int) < x
  · rw [read_arg hx]
    have hget := get_arg hx
    have HG : Hid (V.get l x = (0, 0, 1)) := hget
    clear hget hx
    go_enter Tryz.func122, Tryz.ntmps122
    go_wp2_with fail
    refine (get_any _ l _ _ h hb).mono ?_
    rintro e w1 ⟨rfl, rfl⟩
    rw [HG.out]
    go_wp2
    go_ret3
    exact readEnd_nil (Below.refl _ _)
  · obtain ⟨p, rfl⟩ := Int.eq_ofNat_of_zero_le (show 0 ≤ x by omega)
    exact read_in v l p w h hb (by omega)
end Go.Proofs.YtonhehhmnobciaaGreat
