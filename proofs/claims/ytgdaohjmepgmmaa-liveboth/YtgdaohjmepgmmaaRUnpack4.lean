/-
  The contract of Unpack, the document's.
-/
import Derived.Test.YtgdaohjmepgmmaaUnpack4
import Derived.Test.YtgdaohjmepgmmaaRPack4
import Derived.Test.YtgdaohjmepgmmaaRMake4
import Derived.Test.YtgdaohjmepgmmaaRefGet
namespace Go.Proofs.Ytgdaohjmepgmmaa
open Go.RowKit

namespace L
/-- A list that begins as what bytes tell, where they end too soon, is none. -/
theorem unl_snoc (b : List Int) (j : Nat) : unl b (j + 1) = unl b j ++ [bit (b.getD (1 + j / 8) 0) (j % 8)] := by
  unfold unl
  rw [List.range_succ, List.map_append]
  rfl
theorem unpack_short {b : List Int} {m : Nat} (h : V.get b 0 = ((m : Int), 1, 0)) (hm : m ≤ 64) {j : Nat} (hj : j < m) (hs : b.length ≤ 1 + j / 8) : unpack b = ([], 5) := by
  refine unpack_off h (by omega) ?_
  intro hx
  have := congrArg List.length hx
  rw [Int.toNat_natCast, pack_unl_len b hm] at this
  unfold width at this
  omega
end L

theorem half_step {c : Int} {k : Nat} : c / 2 ^ (k + 1) = c / 2 ^ k / 2 := by
  rw [Int.pow_succ, Int.ediv_ediv_of_nonneg (Int.le_of_lt (Int.pow_pos (by decide)))]

set_option maxHeartbeats 1000000 in
theorem runpack_any (v : Value) (b : List Int) (w : World) (h : Sl .u8 w v b) (hb : V.Byt b) (hll : b.length ≤ 4294967296) :
    Calls Try.prog 26 #[v] w (UnEnd w (L.unpack b)) := by
  obtain ⟨i0, hi, hz0, hz1, hz2⟩ := info_parts Try.info4'
  have hs := h
  obtain ⟨a, cap, rfl, hl, hm, hna, ho⟩ := h.open
  clear h
  obtain ⟨r, hr⟩ : ∃ r, V.get b 0 = r := ⟨_, rfl⟩
  obtain ⟨n, p, e⟩ := r
  by_cases hbad : e ≠ 0 ∨ 64 < n
  · rw [L.unpack_err hr hbad]
    have HR := hide hr
    clear hr ho
    by_cases he : e = 0
    · have hn : 64 < n := by omega
      subst he
      clear hbad
      go_enter Try.func26, Try.ntmps26
      go_wp2_with fail
      refine (refGet_any _ b 0 _ hs hb hll).mono ?_
      rw [unhide HR]
      rintro e w1 ⟨rfl, B1⟩
      go_wp2
      go_ret2
      exact ⟨_, rfl, World.ownsRow_nil _ _ _ _, B1⟩
    · have he1 : (e != 0) = true := by simpa using he
      clear hbad he
      go_enter Try.func26, Try.ntmps26
      go_wp2_with fail
      refine (refGet_any _ b 0 _ hs hb hll).mono ?_
      rw [unhide HR]
      rintro e w1 ⟨rfl, B1⟩
      go_wp2
      go_ret2
      exact ⟨_, rfl, World.ownsRow_nil _ _ _ _, B1⟩
  · have he : e = 0 := by omega
    subst he
    obtain ⟨hn0, hp1, r, hbr⟩ := L.get_few hb hr rfl (by omega)
    subst hp1
    obtain ⟨m, rfl⟩ := Int.eq_ofNat_of_zero_le hn0
    have hm64 : m ≤ 64 := by omega
    have hbl : 1 ≤ b.length := by rw [hbr]; simp
    have HR := hide hr
    clear hbad hn0 hbr hr
    go_enter Try.func26, Try.ntmps26
    go_wp2_with fail
    refine (refGet_any _ b 0 _ hs hb hll).mono ?_
    rw [unhide HR]
    rintro e w1 ⟨rfl, B1⟩
    go_wp2
    go_loopw [7, 8] (fun v iv wr => ∃ (j : Nat) (X : List Bool), j ≤ m ∧ iv = .int .i64 j ∧ X.length = j ∧ X = L.unl b j ∧
        wr.ownsRow w.heap.size 4 1 v X.length (X.map Value.bool) ∧ Below w.heap.size w wr) (fun _ iv _ => m - (intOf iv).toNat)
    case atStart => exact ⟨0, [], Nat.zero_le _, rfl, rfl, rfl, World.ownsRow_nil _ _ _ _, B1⟩
    case round =>
      obtain ⟨j, X, hj, rfl, hX, hF, hown, hbel⟩ := hrel
      have hxl : X.length ≤ 64 := by omega
      have HX := hide hX
      have HF := hide hF
      have hBs := hbel.size
      clear hX hF
      by_cases hlt : j < m
      · by_cases hj8 : 1 + j / 8 < b.length
        · obtain ⟨ba, fa, rfl, la2, ka⟩ := ho (by omega)
          obtain ⟨c, hc⟩ : ∃ c, c = b.getD (1 + j / 8) 0 := ⟨_, rfl⟩
          have c1 : wr.cell? ⟨ba, fa + (1 + j / 8), none⟩ = some (.int .u8 c) := (hbel.cell (p := ⟨ba, fa + (1 + j / 8), none⟩) la2).trans (by rw [hc]; exact ka _ hj8)
          have hcb : 0 ≤ c ∧ c ≤ 255 := by
            apply hb
            rw [hc]
            simp [List.getD, List.getElem?_eq_getElem hj8]
          have HC := hide hc
          clear hc ka ho
          go_wp2
          go_loop [9, 10] (fun cv kv => ∃ (k : Nat) (d : Int), k ≤ j % 8 ∧ kv = .int .i64 k ∧ cv = .int .i64 d ∧ 0 ≤ d ∧ d ≤ 255 ∧ d = c / 2 ^ k) (fun _ kv => 8 - (intOf kv).toNat)
          case atStart => exact ⟨0, c, by omega, rfl, rfl, hcb.1, hcb.2, by simp⟩
          case round =>
            obtain ⟨k, d, hk, rfl, rfl, hd0, hd1, hd⟩ := hrel
            have HD := hide hd
            have hm8 : j % 8 < 8 := Nat.mod_lt _ (by omega)
            clear hd
            by_cases hkl : k < j % 8
            · go_wp2
              go_round
              case rel => exact ⟨k + 1, d / 2, by omega, by go_num, rfl, by omega, by omega, by rw [half_step, ← unhide HD]⟩
              case measure => simp [intOf]; omega
            · have hkj : k = j % 8 := by omega
              have hbit : X ++ [d % 2 == 1] = L.unl b (j + 1) := by
                rw [L.unl_snoc, unhide HF, ← unhide HC, ← hkj]
                unfold L.bit
                rw [← unhide HD]
                congr 2
              have HBT := hide hbit
              clear hbit hkj
              go_wp2_with (at_builtin; refine append_oneG (f := Value.bool) (y := (d % 2 == 1)) rfl _ _ 22 rfl Try.underlying22 hi hz0 hz1 hz2 rfl (fun _ => rfl) rfl rfl hown hbel hBs (by omega) (by decide) ?_; intro v1 w1 hown1 hbel1)
              go_roundw
              case rel => exact ⟨j + 1, X ++ [d % 2 == 1], by omega, by go_num, by simp [unhide HX], unhide HBT, hown1, hbel1⟩
              case measure => simp [intOf]; omega
        · have hu := L.unpack_short (unhide HR) hm64 hlt (by omega)
          have HU := hide hu
          clear hu ho
          go_wp2
          go_ret2
          exact un_end (unhide HU) (World.ownsRow_nil _ _ _ _) hbel
      · have ejm : j = m := by omega
        have hXu : X = L.unl b m := by rw [← ejm]; exact unhide HF
        have HXU := hide hXu
        have S3 := hs.below hbel
        obtain ⟨ax, cx, rfl, -⟩ := id (Gl.owned hown)
        clear ho hXu HF ejm hs B1
        go_wp2_with fail
        refine (rpack_any _ X _ (Gl.owned hown)).mono ?_
        rintro e w3 ⟨v3, rfl, hown3, hb3⟩
        have S4 := S3.below hb3
        have O4 := own_below hown hb3
        have B4 := below_trans' hbel hb3
        have P4 := Sl.owned hown3
        obtain ⟨ap, cp, rfl, -⟩ := id P4
        clear hown3 hb3 S3 hown hbel
        by_cases hok : L.pack X = b
        · have hu := L.unpack_on (unhide HR) (by omega) (by rw [Int.toNat_natCast, ← unhide HXU]; exact hok)
          rw [Int.toNat_natCast, ← unhide HXU] at hu
          have HU := hide hu
          have HD := hide (show decide (L.pack X = b) = true by simpa using hok)
          clear hok hu
          go_wp2_with fail
          refine (bytes_b _ _ (L.pack X) b _ P4 S4 true (unhide HD)).mono ?_
          rintro e w5 ⟨rfl, hb5⟩
          have O5 := own_below O4 hb5
          have B5 := below_trans' B4 hb5
          clear S4 P4 O4 B4 hb5
          go_wp2
          go_ret2
          exact un_end (unhide HU) O5 B5
        · have hu := L.unpack_off (unhide HR) (by omega) (by rw [Int.toNat_natCast, ← unhide HXU]; exact hok)
          have HU := hide hu
          have HD := hide (show decide (L.pack X = b) = false by simpa using hok)
          clear hok hu
          go_wp2_with fail
          refine (bytes_b _ _ (L.pack X) b _ P4 S4 false (unhide HD)).mono ?_
          rintro e w5 ⟨rfl, hb5⟩
          have B5 := below_trans' B4 hb5
          clear S4 P4 O4 B4 hb5
          go_wp2
          go_ret2
          exact un_end (unhide HU) (World.ownsRow_nil _ _ _ _) B5
end Go.Proofs.Ytgdaohjmepgmmaa
