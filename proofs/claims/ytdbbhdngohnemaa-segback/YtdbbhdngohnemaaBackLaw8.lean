/-
  The walk of the law of the cards that a segment was built of.
-/
import Derived.Test.YtdbbhdngohnemaaAwake8
import Derived.Test.YtdbbhdngohnemaaFew8
import Derived.BigQuiet
namespace Go.Proofs.Ytdbbhdngohnemaa
open Go.RowKit

set_option maxRecDepth 100000 in
set_option maxHeartbeats 8000000 in
theorem segBack_walk (v : Value) (L : List Cd) (so : Bool) (w : World) (h : Cs w v L) (hlen : L.length ≤ 4398046511104) :
    Calls Try.prog 4 #[v, .bool so] w fun e w' => e = .returned (.bool true) ∧ Below w.heap.size w w' := by
  have HV := h
  obtain ⟨a, cap, rfl, hl, hm, hna, -⟩ := h.open
  clear h
  obtain ⟨R, hR⟩ : ∃ R, S.build L so = R := ⟨_, rfl⟩
  have HR := hide hR
  clear hR
  go_enter Try.func4, Try.ntmps4
  go_wp2_with fail
  refine (awake_any w).mono ?_
  rintro e w1 ⟨rfl, B1⟩
  have HV1 := HV.below B1
  clear HV
  go_wp2_with fail
  refine (few8_any _ L w1 HV1).mono ?_
  rintro e w9 ⟨fw, rfl, -, hw9⟩
  rw [hw9]
  clear hw9 w9
  go_wp2_with fail
  refine (build_any _ L so w1 HV1 hlen R (unhide HR)).mono ?_
  obtain ⟨s, sb, en⟩ := R
  rintro e w2 ⟨iv, kv, lv, tv, rfl, S2, B2⟩
  obtain ⟨ia, ka, lna, ta, ic, kc, lnc, tc, rfl, rfl, rfl, rfl⟩ := S2.shape
  have Z2 := SB.new (so := sb) S2
  obtain ⟨W2, hW2⟩ : ∃ W2, W2 = w2.alloc (.cells #[.slice ia s.ids.length ic, .slice ka s.keys.length kc, .slice lna s.lens.length lnc, .slice ta s.ts.length tc, .bool sb] 31) := ⟨_, rfl⟩
  have BW2 : Below w2.heap.size w2 W2 := by rw [hW2]; exact below_alloc _ _
  rw [← hW2] at Z2
  have HV2 := (HV1.below B2).below BW2
  have BB := below_trans' (below_trans' B1 B2) BW2
  have HW2 := hide hW2
  obtain ⟨p2, hp2⟩ : ∃ p2, w2.heap.size = p2 := ⟨_, rfl⟩
  clear hW2 HV1 S2 B1 B2 BW2
  cases fw with
  | false =>
    go_wp2_with fail
    go_ret
    exact ⟨rfl, by rw [← unhide HW2]; exact BB⟩
  | true =>
  by_cases hen : en = 0
  case neg =>
    have q1 : (en == 0) = false := by simpa using hen
    have q2 : decide (en = 0) = false := by simpa using hen
    have q3 : (en != 0) = true := by simpa using hen
    go_wp2_with fail
    go_ret
    exact ⟨rfl, by rw [← unhide HW2]; exact BB⟩
  case pos =>
  subst hen
  obtain ⟨LL, hLL0, VV, hsb, -, hperm, hL64, -⟩ := build_ok (unhide HR) rfl
  dsimp only at hsb VV
  subst hsb
  have hLL := hperm.length_eq
  have HLL := hide hLL
  have HVV := hide VV
  have HPM := hide hperm
  have HL0 := hide hLL0
  have h64 : LL.length ≤ 64 := by omega
  clear hperm VV hLL0 hLL
  rw [hp2] at Z2
  have A0 := Z2.c0
  have A1 := Z2.c1
  have A2 := Z2.c2
  have A3 := Z2.c3
  have A4 := Z2.c4
  go_wp2_with fail
  rw [← unhide HW2]
  refine (cards_any ia ka lna ta ic kc lnc tc s sb LL W2 Z2.sv (unhide HVV)).mono ?_
  rintro e w3 ⟨vm, rfl, M3, B3⟩
  have Z3 := Z2.below B3
  have HV3 := HV2.below B3
  replace BB := below_trans' BB B3
  clear B3 Z2 HV2 A0 A1 A2 A3 A4 hp2 HW2
  cases sb with
  | false =>
    have hLe : LL = L := by rw [unhide HL0, if_neg (by decide)]
    rw [hLe] at M3
    clear hLe
    obtain ⟨ma, mc, rfl, hml, hmm, hmn, -⟩ := M3.open
    go_wp2_with fail
    refine (allSame_any _ _ L w3 M3 HV3).mono ?_
    rintro e w4 ⟨rfl, B4⟩
    have A4 := (Z3.below B4).c4
    replace BB := below_trans' BB B4
    go_wp2
    go_ret
    exact ⟨rfl, BB⟩
  | true =>
    obtain ⟨ma, mc, rfl, hml, hmm, hmn, -⟩ := M3.open
    go_wp2
    go_loopw [11] (fun iv wr => ∃ k : Nat, k ≤ LL.length ∧ iv = .int .i64 k ∧ Below w3.heap.size w3 wr) (fun iv _ => LL.length - (intOf iv).toNat)
    case atStart => exact ⟨0, Nat.zero_le _, rfl, Below.refl _ _⟩
    case round =>
      obtain ⟨k, hk, rfl, hbel⟩ := hrel
      by_cases hlt : k < LL.length
      · rcases Nat.eq_zero_or_pos k with hk0 | hk0
        · subst hk0
          go_wp2
          go_quiet (fail)
          go_wp2
          go_roundw
          case rel => exact ⟨1, by omega, by go_num, below_dr' hbel _⟩
          case measure => simp [intOf]; omega
        · obtain ⟨m, rfl⟩ : ∃ m, k = m + 1 := ⟨k - 1, by omega⟩
          obtain ⟨a', c', hv', -, -, -, ho⟩ := (M3.below hbel).open
          simp only [Value.slice.injEq, true_and] at hv'
          obtain ⟨rfl, rfl⟩ := hv'
          obtain ⟨b1, o1, rfl, hb1, hc1⟩ := ho (by omega)
          clear ho
          obtain ⟨ca, hxa⟩ : ∃ c, LL[m]? = some c := ⟨LL[m], List.getElem?_eq_getElem (by omega)⟩
          obtain ⟨cb, hxb⟩ : ∃ c, LL[m + 1]? = some c := ⟨LL[m + 1], List.getElem?_eq_getElem hlt⟩
          have HBF : Hid (S.before ca cb = true) := by
            have hup := (unhide HVV).2.up rfl
            obtain ⟨i1, r1⟩ := List.getElem?_eq_some_iff.1 hxa
            obtain ⟨i2, r2⟩ := List.getElem?_eq_some_iff.1 hxb
            have := List.pairwise_iff_getElem.1 hup m (m + 1) i1 i2 (by omega)
            rw [r1, r2] at this
            exact this
          obtain ⟨wa, wc, c0, c1, c2, -⟩ := hc1 m ca hxa
          obtain ⟨wb, wd, d0, d1, d2, -⟩ := hc1 (m + 1) cb hxb
          have g0 : ∀ w', Below wr.heap.size wr w' → w'.cell? ⟨b1, o1 + m * 3, none⟩ = some (.string ca.id) := fun w' hw' => cell_keep c0 hw'
          have g1 : ∀ w', Below wr.heap.size wr w' → w'.cell? ⟨b1, o1 + m * 3 + 1, none⟩ = some (.int .i64 ca.key) := fun w' hw' => cell_keep c1 hw'
          have g2 : ∀ w', Below wr.heap.size wr w' → w'.cell? ⟨b1, o1 + m * 3 + 2, none⟩ = some (.slice wa ca.w.length wc) := fun w' hw' => cell_keep c2 hw'
          have k0 : ∀ w', Below wr.heap.size wr w' → w'.cell? ⟨b1, o1 + (m + 1) * 3, none⟩ = some (.string cb.id) := fun w' hw' => cell_keep d0 hw'
          have k1 : ∀ w', Below wr.heap.size wr w' → w'.cell? ⟨b1, o1 + (m + 1) * 3 + 1, none⟩ = some (.int .i64 cb.key) := fun w' hw' => cell_keep d1 hw'
          have k2 : ∀ w', Below wr.heap.size wr w' → w'.cell? ⟨b1, o1 + (m + 1) * 3 + 2, none⟩ = some (.slice wb cb.w.length wd) := fun w' hw' => cell_keep d2 hw'
          have hw0 : IntKind.i64.wrap (m : Int) = m := by simp [IntKind.wrap, IntKind.bits, IntKind.signed]; omega
          have hpos : (0 : Int) < (m : Int) + 1 := by omega
          have p1 : (m : Int) < (LL.length : Int) := by omega
          have p2' : (m : Int) + 1 < (LL.length : Int) := by omega
          clear hc1 hxa hxb c0 c1 c2 d0 d1 d2
          go_wp2
          refine region_below (by kernel_rfl) (by kernel_rfl) ?_
          repeat
            (first
              | go_big_quiet_skip
              | (go_big_quiet_want; go_big_quiet_op
                 first
                   | go_big_quiet_on
                   | (apply Exists.intro
                      refine ⟨fun w' hw' => ?_, ?_⟩
                      · first
                        | exact rfl
                        | (rw [g0 w' hw']; dsimp only [Result.andThen]; rw [g1 w' hw']; dsimp only [Result.andThen]; rw [g2 w' hw']; exact ⟨rfl, rfl⟩)
                        | (rw [k0 w' hw']; dsimp only [Result.andThen]; rw [k1 w' hw']; dsimp only [Result.andThen]; rw [k2 w' hw']; exact ⟨rfl, rfl⟩)
                        | (go_at_call 12; exact (before_b ca cb _ _ _ _ _ _ _ _ (unhide HBF)).mono fun e w'' ⟨h1, h2⟩ => ⟨h1, below_trans' hw' h2⟩)
                      go_big_quiet_on)))
          refine wpQuiet_nil ?_
          intro w9 hb9
          have B10 := below_trans' hbel hb9
          clear g0 g1 g2 k0 k1 k2
          go_wp2
          go_roundw
          case rel => exact ⟨m + 1 + 1, by omega, by go_num, B10⟩
          case measure => simp [intOf]; omega
      · have Z4 := Z3.below hbel
        have HV4 := HV3.below hbel
        have M4 := M3.below hbel
        replace BB := below_trans' BB hbel
        obtain ⟨w4, hw4⟩ : ∃ w4, w4 = wr := ⟨_, rfl⟩
        rw [← hw4] at Z4 HV4 M4 BB ⊢
        clear hw4 hbel Z3 HV3 M3
        go_wp2
        clear hlt hk
        go_loopw [12] (fun iv wr => ∃ k : Nat, k ≤ L.length ∧ iv = .int .i64 k ∧ Below w4.heap.size w4 wr) (fun iv _ => L.length - (intOf iv).toNat)
        case atStart => exact ⟨0, Nat.zero_le _, rfl, Below.refl _ _⟩
        case round =>
          obtain ⟨i, hi, rfl, hbel⟩ := hrel
          by_cases hlt : i < L.length
          · obtain ⟨c, hx⟩ : ∃ c, L[i]? = some c := ⟨L[i], List.getElem?_eq_getElem hlt⟩
            obtain ⟨d, hd, hdc⟩ := List.mem_iff_getElem.1 ((unhide HPM).symm.subset (List.mem_of_getElem? hx))
            have hxd : LL[d]? = some c := by rw [List.getElem?_eq_getElem hd, hdc]
            have HXD := hide hxd
            obtain ⟨a', c', hv', -, -, -, ho⟩ := (HV4.below hbel).open
            simp only [Value.slice.injEq, true_and] at hv'
            obtain ⟨rfl, rfl⟩ := hv'
            obtain ⟨b2, o2, rfl, hb2, hc2⟩ := ho (by omega)
            clear ho
            obtain ⟨wb, wd, d0, d1, d2, G2⟩ := hc2 i c hx
            have ZR := Z4.below hbel
            have k0 : ∀ w', Below wr.heap.size wr w' → w'.cell? ⟨b2, o2 + i * 3, none⟩ = some (.string c.id) := fun w' hw' => cell_keep d0 hw'
            have g0 : ∀ w', Below wr.heap.size wr w' → w'.cell? ⟨p2, 0, none⟩ = some (.slice ia s.ids.length ic) := fun w' hw' => cell_keep ZR.c0 hw'
            have g1 : ∀ w', Below wr.heap.size wr w' → w'.cell? ⟨p2, 1, none⟩ = some (.slice ka s.keys.length kc) := fun w' hw' => cell_keep ZR.c1 hw'
            have g2 : ∀ w', Below wr.heap.size wr w' → w'.cell? ⟨p2, 2, none⟩ = some (.slice lna s.lens.length lnc) := fun w' hw' => cell_keep ZR.c2 hw'
            have g3 : ∀ w', Below wr.heap.size wr w' → w'.cell? ⟨p2, 3, none⟩ = some (.slice ta s.ts.length tc) := fun w' hw' => cell_keep ZR.c3 hw'
            have g4 : ∀ w', Below wr.heap.size wr w' → w'.cell? ⟨p2, 4, none⟩ = some (.bool true) := fun w' hw' => cell_keep ZR.c4 hw'
            have SR := ZR.sv
            have p1 : (i : Int) < (L.length : Int) := by omega
            have p3 : ¬ (d : Int) < 0 := by omega
            have p4 : ¬ (LL.length : Int) ≤ (d : Int) := by omega
            have HHV := hide HV4
            have HD := hide (And.intro d0 (And.intro d1 d2))
            clear hc2 hx hxd hdc d0 d1 d2
            go_wp2
            refine region_below (by kernel_rfl) (by kernel_rfl) ?_
            repeat
              (first
                | go_big_quiet_skip
                | (go_big_quiet_want; go_big_quiet_op
                   first
                     | go_big_quiet_on
                     | (apply Exists.intro
                        refine ⟨fun w' hw' => ?_, ?_⟩
                        · first
                          | exact rfl
                          | (rw [g0 w' hw']; dsimp only [Result.andThen]; rw [g1 w' hw']; dsimp only [Result.andThen]; rw [g2 w' hw']; dsimp only [Result.andThen]; rw [g3 w' hw']; dsimp only [Result.andThen]; rw [g4 w' hw']; exact ⟨rfl, rfl⟩)
                          | (rw [k0 w' hw']; exact ⟨rfl, rfl⟩)
                          | (go_at_call 16; exact (find8_any ia ka lna ta ic kc lnc tc s true LL d c _ (SR.below hw') (unhide HVV) (unhide HXD)).mono fun e w'' ⟨h1, h2⟩ => ⟨h1, below_trans' hw' h2⟩)
                        go_big_quiet_on)))
            refine wpQuiet_nil ?_
            intro w5 hb5
            have B5 := below_trans' hbel hb5
            clear g0 g1 g2 g3 g4 k0 ZR SR
            obtain ⟨a', c', hv', -, -, -, ho⟩ := (M4.below B5).open
            simp only [Value.slice.injEq, true_and] at hv'
            obtain ⟨rfl, rfl⟩ := hv'
            obtain ⟨b1, o1, rfl, hb1, hc1⟩ := ho (by omega)
            clear ho
            obtain ⟨wa, wc, c0, c1, c2, G1⟩ := hc1 d c (unhide HXD)
            obtain ⟨d0, d1, d2⟩ := unhide HD
            replace d0 := cell_keep d0 hb5
            replace d1 := cell_keep d1 hb5
            replace d2 := cell_keep d2 hb5
            replace G2 := G2.below hb5
            have g0 : ∀ w', Below w5.heap.size w5 w' → w'.cell? ⟨b1, o1 + d * 3, none⟩ = some (.string c.id) := fun w' hw' => cell_keep c0 hw'
            have g1 : ∀ w', Below w5.heap.size w5 w' → w'.cell? ⟨b1, o1 + d * 3 + 1, none⟩ = some (.int .i64 c.key) := fun w' hw' => cell_keep c1 hw'
            have g2 : ∀ w', Below w5.heap.size w5 w' → w'.cell? ⟨b1, o1 + d * 3 + 2, none⟩ = some (.slice wa c.w.length wc) := fun w' hw' => cell_keep c2 hw'
            have k0 : ∀ w', Below w5.heap.size w5 w' → w'.cell? ⟨b2, o2 + i * 3, none⟩ = some (.string c.id) := fun w' hw' => cell_keep d0 hw'
            have k1 : ∀ w', Below w5.heap.size w5 w' → w'.cell? ⟨b2, o2 + i * 3 + 1, none⟩ = some (.int .i64 c.key) := fun w' hw' => cell_keep d1 hw'
            have k2 : ∀ w', Below w5.heap.size w5 w' → w'.cell? ⟨b2, o2 + i * 3 + 2, none⟩ = some (.slice wb c.w.length wd) := fun w' hw' => cell_keep d2 hw'
            have p5 : (d : Int) < (LL.length : Int) := by omega
            clear hc1 c0 c1 c2 d0 d1 d2
            go_wp2
            refine region_below (by kernel_rfl) (by kernel_rfl) ?_
            repeat
              (first
                | go_big_quiet_skip
                | (go_big_quiet_want; go_big_quiet_op
                   first
                     | go_big_quiet_on
                     | (apply Exists.intro
                        refine ⟨fun w' hw' => ?_, ?_⟩
                        · first
                          | exact rfl
                          | (rw [g0 w' hw']; dsimp only [Result.andThen]; rw [g1 w' hw']; dsimp only [Result.andThen]; rw [g2 w' hw']; exact ⟨rfl, rfl⟩)
                          | (rw [k0 w' hw']; dsimp only [Result.andThen]; rw [k1 w' hw']; dsimp only [Result.andThen]; rw [k2 w' hw']; exact ⟨rfl, rfl⟩)
                          | (go_at_call 17; exact (samec_any c.id c.key _ _ c.w _ (G1.below hw') (G2.below hw')).mono fun e w'' ⟨h1, h2⟩ => ⟨h1, below_trans' hw' h2⟩)
                        go_big_quiet_on)))
            refine wpQuiet_nil ?_
            intro w6 hb6
            have B6 := below_trans' B5 hb6
            clear g0 g1 g2 k0 k1 k2 G1 G2
            go_wp2
            go_roundw
            case rel => exact ⟨i + 1, by omega, by go_num, B6⟩
            case measure => simp [intOf]; omega
          · have ZR := Z4.below hbel
            have A0 := ZR.c0
            have A1 := ZR.c1
            have A2 := ZR.c2
            have A3 := ZR.c3
            have A4 := ZR.c4
            have q8 : ((LL.length : Int) == (L.length : Int)) = true := by rw [unhide HLL]; simp
            have q9 : decide ((LL.length : Int) = (L.length : Int)) = true := by rw [unhide HLL]; simp
            replace BB := below_trans' BB hbel
            go_wp2_with fail
            refine (segMay_any ia ka lna ta ic kc lnc tc s true LL _ ZR.sv (unhide HVV)).mono ?_
            rintro e w7 ⟨rfl, B7⟩
            replace BB := below_trans' BB B7
            go_wp2
            go_ret
            exact ⟨rfl, BB⟩
end Go.Proofs.Ytdbbhdngohnemaa
