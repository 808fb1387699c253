/-
  The contract of vint's writer: numbers from 0 to the greatest one, as many as there are, are written as their bytes, one behind the other, into new memory.
-/
import Derived.Test.YtonhehhmnobciaaRows
import Derived.Test.YtonhehhmnobciaaBase
import Derived.Test.YtonhehhmnobciaaPlain
namespace Go.Proofs.Ytonhehhmnobciaa
open Go.RowKit

theorem Try.info5 : (Try.prog.info? 5).map (fun i => (i.zero, i.size, i.bytes)) = some (some (.int .u8 0), 1, 1) := by kernel_rfl
theorem Try.info3 : (Try.prog.info? 3).map (fun i => (i.zero, i.size, i.bytes)) = some (some (.int .i64 0), 1, 8) := by kernel_rfl

set_option maxHeartbeats 1000000 in
theorem write_any (v : Value) (ns : List Int) (w : World) (h : Sl .i64 w v ns) (hn : ∀ n ∈ ns, 0 ≤ n ∧ n ≤ 34359738367) (hlen : ns.length ≤ 3000) :
    Calls Try.prog 77 #[v] w fun e w' => ∃ v', e = .returned v' ∧ w'.ownsRow w.heap.size 5 1 v' (V.enc ns).length ((V.enc ns).map (Value.int .u8)) ∧ Below w.heap.size w w' := by
  obtain ⟨a, cap, rfl, hl, hm, hna, ho⟩ := h.open
  clear h
  obtain ⟨i0, hi, hz0, hz1, hz2⟩ := info_parts Try.info5
  go_enter Try.func77, Try.ntmps77
  go_wp2
  go_loopw [3, 8] (fun v i wr => ∃ k : Nat, k ≤ ns.length ∧ i = .int .i64 k ∧ wr.ownsRow w.heap.size 5 1 v (V.enc (ns.take k)).length ((V.enc (ns.take k)).map (Value.int .u8)) ∧ Below w.heap.size w wr) (fun _ i _ => ns.length - (intOf i).toNat)
  case atStart => exact ⟨0, Nat.zero_le _, rfl, World.ownsRow_nil _ _ _ _, Below.refl _ _⟩
  case round =>
    obtain ⟨k, hk, rfl, hown, hbel⟩ := hrel
    by_cases hlt : k < ns.length
    · obtain ⟨b, off, rfl, hbl, hc⟩ := ho (by omega)
      have c1 : wr.cell? ⟨b, off + k, none⟩ = some (.int .i64 (ns.getD k 0)) := (hbel.cell hbl).trans (hc k hlt)
      have hx := hn ns[k] (List.getElem_mem _)
      obtain ⟨x, hxe⟩ : ∃ x, x = ns[k] := ⟨_, rfl⟩
      have c2 : wr.cell? ⟨b, off + k, none⟩ = some (.int .i64 x) := by rw [c1, hxe]; simp [hlt]
      rw [← hxe] at hx
      have HX : Hid (x = ns[k]) := hxe
      clear hxe c1 hc ho
      go_wp2
      go_loopw [3, 5] (fun v n wr => ∃ (f : Nat) (m : Int) (pre : List Int), n = .int .i64 m ∧ 0 ≤ m ∧ m ≤ 34359738367 ∧ m < 128 ^ (f + 1) ∧ pre ++ V.putF f m = V.enc (ns.take k) ++ V.put x ∧
        wr.ownsRow w.heap.size 5 1 v pre.length (pre.map (Value.int .u8)) ∧ Below w.heap.size w wr) (fun _ n _ => (intOf n).toNat)
      case atStart => exact ⟨4, x, V.enc (ns.take k), rfl, hx.1, hx.2, V.lt_p5 hx.2, rfl, hown, hbel⟩
      case round =>
        obtain ⟨f, m, pre, rfl, hm0, hm1, hmf, heq, hown1, hbel1⟩ := hrel
        have hpl : pre.length ≤ 5 * 3001 := by
          have h1 := congrArg List.length heq
          have h2 := V.enc_take_len ns k
          have h3 := (V.put_len x).2
          simp only [List.length_append] at h1
          omega
        have HQ : Hid (pre ++ V.putF f m = V.enc (ns.take k) ++ V.put x) := heq
        have HF : Hid (m < 128 ^ (f + 1)) := hmf
        have hBs := hbel1.size
        clear heq hmf hown
        by_cases hge : 128 ≤ m
        · go_wp2_with (at_builtin; refine append_one rfl _ _ 39 rfl Try.underlying39 hi hz0 hz1 hz2 rfl rfl rfl hown1 hbel1 hBs (by omega) (by decide) ?_; intro v1 w1 hown2 hbel2)
          go_roundw
          case rel =>
            obtain ⟨g, hg1, hg2, hg3⟩ := V.putF_more hge HF.out
            refine ⟨g, m / 128, pre ++ [m % 128 + 128], rfl, by omega, by omega, hg3, ?_, hown2, hbel2⟩
            have := HQ.out
            rw [hg2] at this
            simpa using this
          case measure => simp [intOf]; omega
        · go_wp2_with (at_builtin; refine append_one rfl _ _ 39 rfl Try.underlying39 hi hz0 hz1 hz2 rfl rfl rfl hown1 hbel1 hBs (by omega) (by decide) ?_; intro v1 w1 hown2 hbel2)
          go_roundw
          case rel =>
            have hq := HQ.out
            rw [V.putF_done hge] at hq
            refine ⟨k + 1, by omega, by go_num, ?_, hbel2⟩
            rw [V.enc_take hlt, ← HX.out, ← hq]
            exact hown2
          case measure => simp [intOf]; omega
    · go_wp2
      go_ret
      exact ⟨_, rfl, by rw [List.take_of_length_le (by omega)] at hown; exact hown, hbel⟩
end Go.Proofs.Ytonhehhmnobciaa
