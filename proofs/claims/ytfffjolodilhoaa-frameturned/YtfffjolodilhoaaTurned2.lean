/-
  If bytes within four in a row are other ones a frame is not opened: the walk of FrameTurned.
-/
import Derived.Test.YtfffjolodilhoaaMixes2
namespace Go.Proofs.Ytfffjolodilhoaa
open Go.RowKit

set_option maxRecDepth 100000 in
set_option maxHeartbeats 3200000 in
theorem frameTurned_walk (v : Value) (l : List Int) (kind at' e0 e1 e2 e3 : Int) (w : World) (s : Sl .u8 w v l) (b : V.Byt l) (hk : 0 ≤ kind ∧ kind ≤ 255) (be : V.Byt [e0, e1, e2, e3]) :
    Calls Try.prog 5 #[v, .int .u8 kind, .int .i64 at', .agg #[.int .u8 e0, .int .u8 e1, .int .u8 e2, .int .u8 e3]] w fun e w' => e = .returned (.bool true) ∧ Below w.heap.size w w' := by
  go_enter Try.func5, Try.ntmps5
  go_wp2_with fail
  refine (awake2_any _).mono ?_
  rintro e w1 ⟨rfl, hb1⟩
  have B1 := below_trans' (below_alloc _ _) hb1
  have S1 := s.below B1
  have hw1 : w.heap.size < w1.heap.size := by have := hb1.size; simp at this; omega
  obtain ⟨oc, -⟩ := old_cells hb1
  have kE : ∀ j, j < 4 → w1.cell? ⟨w.heap.size, j, none⟩ = some (.int .u8 ([e0, e1, e2, e3].getD j 0)) := by
    intro j hj
    rw [oc _ _ (by simp)]
    match j, hj with
    | 0, _ => simp
    | 1, _ => simp
    | 2, _ => simp
    | 3, _ => simp
  clear oc hb1 s
  go_wp2_with fail
  refine (wrap_any kind _ l _ S1 b hk).mono ?_
  rintro e w2 ⟨v2, rfl, own2, hb2⟩
  have S2 := S1.below hb2
  have B2 := below_trans' B1 hb2
  have T2 := Sl.owned own2
  obtain ⟨a, cap, rfl, hl, hm, hna, ho⟩ := S2.open
  obtain ⟨a2, c2, e2', l2, m2, n2, o2⟩ := T2.open
  subst e2'
  clear ho hna S1
  by_cases h2 : 2000 < l.length
  · clear o2 n2 kE
    have h2' : decide (2000 < (l.length : Int)) = true := by simp; omega
    go_wp2
    go_ret
    exact ⟨rfl, B2⟩
  · have hle : l.length ≤ 65536 := by omega
    have h2' : decide (2000 < (l.length : Int)) = false := by simp; omega
    have HW := hide (F.wrap_in (kind := kind) hle)
    have h7 : (l.length : Int) + 7 ≤ ((F.wrap kind l).length : Int) := by
      rw [unhide HW, F.frame_len]; have := (V.put_len l.length).1; omega
    have h7' : decide ((l.length : Int) + 7 ≤ ((F.wrap kind l).length : Int)) = true := by simpa using h7
    have hwl : (F.wrap kind l).length ≤ 65547 := by
      rw [unhide HW, F.frame_len]; have := (V.put_len l.length).2; omega
    by_cases hc0 : at' < 0
    · clear o2 n2 kE
      have hc0' : decide (at' < 0) = true := by simpa using hc0
      go_wp2
      go_ret
      exact ⟨rfl, B2⟩
    · have hc0' : decide (at' < 0) = false := by simp; omega
      by_cases hc1 : ((F.wrap kind l).length : Int) ≤ at'
      · clear o2 n2 kE
        have hc1' : decide (((F.wrap kind l).length : Int) ≤ at') = true := by simpa using hc1
        go_wp2
        go_ret
        exact ⟨rfl, B2⟩
      · have hc1' : decide (((F.wrap kind l).length : Int) ≤ at') = false := by simp; omega
        obtain ⟨g, c2', hv2, hg1, hg2⟩ := own2.form (by omega)
        simp only [Value.slice.injEq, true_and] at hv2
        obtain ⟨rfl, rfl⟩ := hv2
        obtain ⟨p, rfl⟩ := Int.eq_ofNat_of_zero_le (show 0 ≤ at' by omega)
        clear o2 n2 T2
        have hp : p < (F.wrap kind l).length := by omega
        have bw : V.Byt (F.wrap kind l) := by rw [unhide HW]; exact F.frame_byt hk b hle
        go_wp2
        go_loopw [11, 12] (fun tv iv wr => ∃ (i acc : Nat) (cur : List Int), i ≤ 4 ∧ p + i ≤ (F.wrap kind l).length ∧ iv = .int .i64 i ∧ tv = .bool (decide (acc ≠ 0)) ∧ F.Turned (F.wrap kind l) cur p i acc ∧
            wr.ownsRow w1.heap.size 5 1 (.slice (some ⟨g, 0, none⟩) (F.wrap kind l).length c2) (F.wrap kind l).length (cur.map (Value.int .u8)) ∧ Below w1.heap.size w1 wr) (fun _ iv _ => 4 - (intOf iv).toNat)
        case atStart => exact ⟨0, 0, F.wrap kind l, by omega, by omega, rfl, rfl, F.Turned.start p bw, own2, hb2⟩
        case round =>
          obtain ⟨i, acc, cur, hi4, hpi, rfl, rfl, htu, hown, hbel⟩ := hrel
          have hcl : cur.length = (F.wrap kind l).length := htu.len
          have HCL := hide hcl
          have HTU := hide htu
          clear htu own2 hb2
          by_cases hlt : i < 4 ∧ p + i < (F.wrap kind l).length
          · obtain ⟨hi, hpl⟩ := hlt
            have t1 : decide ((i : Int) < 4) = true := by simp; omega
            have t2 : decide ((p : Int) + (i : Int) < ((F.wrap kind l).length : Int)) = true := by simp; omega
            obtain ⟨c, hce⟩ : ∃ c, c = cur[p + i]'(by omega) := ⟨_, rfl⟩
            obtain ⟨y, hye⟩ : ∃ y, y = [e0, e1, e2, e3].getD i 0 := ⟨_, rfl⟩
            have k1 : wr.cell? ⟨g, p + i, none⟩ = some (.int .u8 c) := by
              rw [hown.cellAt (p + i) (by omega), hce]
              simp [show p + i < cur.length by omega]
            have k2 : wr.cell? ⟨w.heap.size, i, none⟩ = some (.int .u8 y) := by rw [hbel.cell hw1, kE i hi, hye]
            have k3 : wr.frozen? ⟨g, p + i, none⟩ = false := hown.frozenAt _
            have bc : 0 ≤ c ∧ c ≤ 255 := by rw [hce]; exact (unhide HTU).byt _ (List.getElem_mem _)
            have by' : 0 ≤ y ∧ y ≤ 255 := by
              apply be
              rw [hye]
              match i, hi with
              | 0, _ => simp
              | 1, _ => simp
              | 2, _ => simp
              | 3, _ => simp
            have HTM : Hid (F.Turned (F.wrap kind l) (cur.set (p + i) (C.x2 c y)) p (i + 1) (acc + 256 ^ i * y.toNat)) := by
              rw [hce]
              exact (unhide HTU).more by' (by omega)
            have HX := hide (xor_u8 bc by')
            have hgne : g ≠ w.heap.size := by omega
            clear hce hye hcl
            have i0 : (0 : Int) ≤ (i : Int) := Int.natCast_nonneg _
            have i1 : (i : Int) < 4 := by omega
            have p0 : (0 : Int) ≤ (p : Int) + (i : Int) := by omega
            have p1 : (p : Int) + (i : Int) < ((F.wrap kind l).length : Int) := by omega
            have hwr : IntKind.i64.wrap ((p : Int) + (i : Int)) = (p : Int) + (i : Int) := by rw [IntKind.wrap_i64]; omega
            have hnt : ((p : Int) + (i : Int)).toNat = p + i := by omega
            have hlr : Below w1.heap.size w1 (wr.setCell ⟨g, p + i, none⟩ (.int .u8 (bits .xor .u8 c y))) := hbel.setCell hg1 _
            have hlo : (wr.setCell ⟨g, p + i, none⟩ (.int .u8 (bits .xor .u8 c y))).ownsRow w1.heap.size 5 1 (.slice (some ⟨g, 0, none⟩) (F.wrap kind l).length c2) (F.wrap kind l).length ((cur.set (p + i) (C.x2 c y)).map (Value.int .u8)) := by
              rw [← unhide HX, List.map_set]
              exact (hown.stored (p + i) _).1
            have k4 : (wr.setCell ⟨g, p + i, none⟩ (.int .u8 (bits .xor .u8 c y))).cell? ⟨w.heap.size, i, none⟩ = some (.int .u8 y) := by
              rw [World.cell?_setCell_other _ _ _ _ (by simp only [ne_eq, Addr.mk.injEq, not_and]; exact fun h => absurd h hgne)]
              exact k2
            have hpw : 0 < 256 ^ i := Nat.pow_pos (by omega)
            have HTU2 := HTM
            clear hown HTU
            by_cases hacc : acc = 0
            · have hd : decide (acc ≠ 0) = false := by simp [hacc]
              rw [hd]
              by_cases hy0 : y = 0
              · have hyb : (y != 0) = false := by simp [hy0]
                have ha' : decide (acc + 256 ^ i * y.toNat ≠ 0) = false := by simp [hacc, hy0]
                have HA := hide ha'
                have HY0 := hide hy0
                clear hd hacc ha' hy0
                go_wp2_with fail
                go_region
                go_wp2
                go_roundw
                case rel => exact ⟨i + 1, acc + 256 ^ i * y.toNat, cur.set (p + i) (C.x2 c y), by omega, by omega, by go_num, by rw [unhide HA], unhide HTM, hlo, hlr.drew⟩
                case measure => simp [intOf]; omega
              · have hyb : (y != 0) = true := by simp [hy0]
                have ha' : decide (acc + 256 ^ i * y.toNat ≠ 0) = true := by
                  have h1 : 0 < 256 ^ i * y.toNat := Nat.mul_pos hpw (by omega)
                  simp only [ne_eq, decide_eq_true_eq]; omega
                have HA := hide ha'
                clear hd hacc ha' hy0
                go_wp2_with fail
                go_region
                go_wp2
                go_roundw
                case rel => exact ⟨i + 1, acc + 256 ^ i * y.toNat, cur.set (p + i) (C.x2 c y), by omega, by omega, by go_num, by rw [unhide HA], unhide HTM, hlo, hlr.drew⟩
                case measure => simp [intOf]; omega
            · have hd : decide (acc ≠ 0) = true := by simp [hacc]
              rw [hd]
              have ha' : decide (acc + 256 ^ i * y.toNat ≠ 0) = true := by simp only [ne_eq, decide_eq_true_eq]; omega
              have HA := hide ha'
              clear hd hacc ha'
              go_wp2_with fail
              go_region
              go_wp2
              go_roundw
              case rel => exact ⟨i + 1, acc + 256 ^ i * y.toNat, cur.set (p + i) (C.x2 c y), by omega, by omega, by go_num, by rw [unhide HA], unhide HTM, hlo, hlr.drew⟩
              case measure => simp [intOf]; omega
          · have T3 : Sl .u8 wr (.slice (some ⟨g, 0, none⟩) (F.wrap kind l).length c2) cur := by
              rw [show (F.wrap kind l).length = cur.length from (unhide HCL).symm] at hown ⊢
              exact Sl.owned hown
            have B3 := below_trans' B1 hbel
            have bcur := (unhide HTU).byt
            clear hown hbel kE hcl
            obtain ⟨r1, r2, hr⟩ : ∃ r1 r2, F.opened cur kind = (r1, r2) := ⟨_, _, rfl⟩
            by_cases hacc : acc = 0
            · have hd : decide (acc ≠ 0) = false := by simp [hacc]
              rw [hd]
              have HR := hide hr
              clear hd hacc hr
              by_cases hi : i < 4
              · have t1 : decide ((i : Int) < 4) = true := by simp; omega
                have t2 : decide ((p : Int) + (i : Int) < ((F.wrap kind l).length : Int)) = false := by simp; omega
                clear hlt
                go_wp2_with fail
                refine (open_b _ cur kind _ T3 bcur r1 r2 (unhide HR)).mono ?_
                rintro e w4 ⟨v4, rfl, -, hb4⟩
                have B4 := below_trans' B3 hb4
                go_wp2
                go_ret
                exact ⟨rfl, B4⟩
              · have t1 : decide ((i : Int) < 4) = false := by simp; omega
                clear hlt
                go_wp2_with fail
                refine (open_b _ cur kind _ T3 bcur r1 r2 (unhide HR)).mono ?_
                rintro e w4 ⟨v4, rfl, -, hb4⟩
                have B4 := below_trans' B3 hb4
                go_wp2
                go_ret
                exact ⟨rfl, B4⟩
            · have hd : decide (acc ≠ 0) = true := by simp [hacc]
              rw [hd]
              have htu := unhide HTU
              rw [unhide HW] at htu
              have hn := F.Turned.none hk b hle htu hi4 hacc
              clear hd hacc hr htu
              have fin : ∀ (r2 : Int), (r2 = 5 ∨ r2 = 6) → F.opened cur kind = ([], r2) →
                  Calls Try.prog 10 #[.slice (some ⟨g, 0, none⟩) (F.wrap kind l).length c2, .int .u8 kind] wr fun e w' => ∃ a cap, e = .returned (.tuple #[.slice a 0 cap, .int .i64 r2]) ∧ Below w.heap.size w w' := by
                intro r2 _ ho
                refine (open_b _ cur kind _ T3 bcur [] r2 ho).mono ?_
                rintro e w4 ⟨v4, rfl, T4, hb4⟩
                obtain ⟨a4, c4, e4, -⟩ := T4.open
                exact ⟨a4, c4, by rw [e4]; rfl, below_trans' B3 hb4⟩
              rcases hn with hn | hn
              · have FN := hide (fin 5 (.inl rfl) hn)
                clear fin hn
                by_cases hi : i < 4
                · have t1 : decide ((i : Int) < 4) = true := by simp; omega
                  have t2 : decide ((p : Int) + (i : Int) < ((F.wrap kind l).length : Int)) = false := by simp; omega
                  clear hlt
                  go_wp2_with fail
                  refine (unhide FN).mono ?_
                  rintro e w4 ⟨a4, c4, rfl, B4⟩
                  go_wp2
                  go_ret
                  exact ⟨rfl, B4⟩
                · have t1 : decide ((i : Int) < 4) = false := by simp; omega
                  clear hlt
                  go_wp2_with fail
                  refine (unhide FN).mono ?_
                  rintro e w4 ⟨a4, c4, rfl, B4⟩
                  go_wp2
                  go_ret
                  exact ⟨rfl, B4⟩
              · have FN := hide (fin 6 (.inr rfl) hn)
                clear fin hn
                by_cases hi : i < 4
                · have t1 : decide ((i : Int) < 4) = true := by simp; omega
                  have t2 : decide ((p : Int) + (i : Int) < ((F.wrap kind l).length : Int)) = false := by simp; omega
                  clear hlt
                  go_wp2_with fail
                  refine (unhide FN).mono ?_
                  rintro e w4 ⟨a4, c4, rfl, B4⟩
                  go_wp2
                  go_ret
                  exact ⟨rfl, B4⟩
                · have t1 : decide ((i : Int) < 4) = false := by simp; omega
                  clear hlt
                  go_wp2_with fail
                  refine (unhide FN).mono ?_
                  rintro e w4 ⟨a4, c4, rfl, B4⟩
                  go_wp2
                  go_ret
                  exact ⟨rfl, B4⟩
end Go.Proofs.Ytfffjolodilhoaa
