/-
  The walk of the law of cards by their keys.
-/
import Derived.Test.YtefnkbgkcjhkoaaQ19
import Derived.Test.YtefnkbgkcjhkoaaQ12
import Derived.BigQuiet
namespace Go.Proofs.Ytefnkbgkcjhkoaa
set_option maxRecDepth 100000
open Go.RowKit

set_option maxRecDepth 100000 in
set_option maxHeartbeats 8000000 in
theorem shelfKeys_walk (v : Value) (L : List Cd) (w : World) (h : Cs w v L) :
    Calls Try.prog 7 #[v] w fun e w' => e = .returned (.bool true) ∧ Below w.heap.size w w' := by
  have HL := h
  obtain ⟨a, cap, rfl, -⟩ := h.open
  clear h
  obtain ⟨m, hm⟩ : ∃ m, H.may L = m := ⟨_, rfl⟩
  have Hm := hide hm
  clear hm
  obtain ⟨K, hK⟩ : ∃ K, H.keyed L = K := ⟨_, rfl⟩
  have HK := hide hK
  clear hK
  go_enter Try.func7, Try.ntmps7
  have CC1 := awake13_any w
  go_wp2_with fail
  refine CC1.mono ?_
  rintro e w1 ⟨rfl, B1⟩
  have BB1 := B1
  replace HL := HL.below B1
  clear CC1 B1
  have CC2 := few13_any (.slice a L.length cap) L w1 HL
  go_wp2_with fail
  refine CC2.mono ?_
  rintro e w2 ⟨r1, rfl, hr1, B2⟩
  have BB2 := below_trans' BB1 B2
  replace HL := HL.below B2
  clear CC2 B2
  have Hr1 := hide hr1
  clear hr1
  cases r1 with
  | false =>
    go_wp2
    go_ret
    exact ⟨rfl, BB2⟩
  | true =>
    have CC3 := may13_any (.slice a L.length cap) L w2 HL
    rw [unhide Hm] at CC3
    go_wp2_with fail
    refine CC3.mono ?_
    rintro e w3 ⟨rfl, B3⟩
    have BB3 := below_trans' BB2 B3
    replace HL := HL.below B3
    clear CC3 B3
    cases m with
    | false =>
      go_wp2
      go_ret
      exact ⟨rfl, BB3⟩
    | true =>
      have CC4 := byKey13_any (.slice a L.length cap) L w3 HL
      rw [unhide HK] at CC4
      go_wp2_with fail
      refine CC4.mono ?_
      rintro e w4 ⟨v1, rfl, C1, B4⟩
      have BB4 := below_trans' BB3 B4
      replace HL := HL.below B4
      clear CC4 B4
      obtain ⟨a1, n1, rfl⟩ := C1.lens13 rfl
      have hkl : K.length = L.length := by rw [← unhide HK]; exact H.keyed_len (unhide Hm)
      have hlen : L.length ≤ 1100 := (H.may_iff.1 (unhide Hm)).1
      have hkl2 : K.length ≤ 1100 := by omega
      have HKL := hide hkl
      clear hkl
      have hq : ((K.length : Int) == (L.length : Int)) = true := by rw [unhide HKL]; simp
      have HLw := HL
      have C1w := C1
      obtain ⟨wb, hwb⟩ : ∃ wb, wb = w4 := ⟨_, rfl⟩
      rw [← hwb] at HLw C1w HL C1 BB4 ⊢
      clear hwb HL C1
      go_wp2
      go_loopw [6] (fun iv wr => ∃ k : Nat, k ≤ K.length ∧ iv = .int .i64 k ∧ Below wb.heap.size wb wr) (fun iv _ => K.length - (intOf iv).toNat)
      case atStart => exact ⟨0, Nat.zero_le _, rfl, Below.refl _ _⟩
      case round =>
        obtain ⟨i, hi, rfl, hbel⟩ := hrel
        have BBr := below_trans' BB4 hbel
        have HL := HLw.below hbel
        have C1 := C1w.below hbel
        by_cases hlt : i < K.length
        · obtain ⟨x, hx⟩ : ∃ x, K[i]? = some x := ⟨K[i], List.getElem?_eq_getElem hlt⟩
          obtain ⟨hhx, hat⟩ := H.keyed_found (unhide Hm) (by rw [unhide HK]; exact hx)
          obtain ⟨kn, hkn⟩ : ∃ kn, (H.low L x.id).length = kn := ⟨_, rfl⟩
          rw [hkn] at hat
          have HF : Hid (H.find L x.id = (kn : Int)) := by show _ = _; rw [H.find_pos (by rw [H.delB, unhide Hm, hhx]; rfl), hkn]
          have hknl := (List.getElem?_eq_some_iff.1 hat).1
          have HX := hide hx
          have HAT := hide hat
          clear hx hhx hat hkn
          obtain ⟨a', c', hv', -, -, -, ho⟩ := C1.open
          simp only [Value.slice.injEq] at hv'
          obtain ⟨rfl, -, rfl⟩ := hv'
          obtain ⟨b1, o1, rfl, -, hc1⟩ := ho (by omega)
          obtain ⟨wa1, wc1, d0, d1, d2, -⟩ := hc1 i x (unhide HX)
          clear ho hc1
          have CC41 := find13_any (.slice a L.length cap) L x.id wr HL
          rw [unhide HF] at CC41
          go_wp2_with fail
          refine CC41.mono ?_
          rintro e w41 ⟨rfl, B41⟩
          have BB41 := below_trans' hbel B41
          replace HL := HL.below B41
          replace C1 := C1.below B41
          clear CC41 B41
          clear d0 d1 d2
          have p1 : (kn : Int) < (L.length : Int) := by omega
          have p2 : ¬ (kn : Int) < 0 := by omega
          have p3 : (i : Int) < (K.length : Int) := by omega
          have p4 : decide ((L.length : Int) ≤ (kn : Int)) = false := decide_eq_false (by omega)
          have p5 : decide ((kn : Int) < 0) = false := decide_eq_false (by omega)
          have p6 : decide (L.length ≤ kn) = false := decide_eq_false (by omega)
          have p7 : ¬ L.length ≤ kn := by omega
          by_cases hi0 : i = 0
          · subst hi0
            go_wp2
            refine region_below (by kernel_rfl) (by kernel_rfl) ?_
            repeat
              (first
                | go_big_quiet_skip
                | (go_big_quiet_want; go_big_quiet_op
                   first
                     | go_big_quiet_on
                     | (apply Exists.intro
                        refine ⟨fun w' hw' => ?_, ?_⟩
                        · first
                         | exact rfl
                         | (rw [p1 w' hw']; exact ⟨rfl, rfl⟩)
                        go_big_quiet_on)))
            refine wpQuiet_nil ?_
            intro w9 hb9
            have BBq := below_trans' BB41 hb9
            replace HL := HL.below hb9
            replace C1 := C1.below hb9
            obtain ⟨wq, hwq⟩ : ∃ wq, wq = w9 := ⟨_, rfl⟩
            rw [← hwq] at HL C1 BBq ⊢
            clear hwq hb9
            obtain ⟨a', c', hv', -, -, -, ho⟩ := HL.open
            simp only [Value.slice.injEq] at hv'
            obtain ⟨rfl, -, rfl⟩ := hv'
            obtain ⟨bs, os, rfl, -, hcs⟩ := ho (by omega)
            obtain ⟨was, wcs, es0, es1, es2, Gs⟩ := hcs kn x (unhide HAT)
            clear ho hcs
            have gs0 : ∀ w', Below wq.heap.size wq w' → w'.cell? ⟨bs, os + kn * 3, none⟩ = some (.string x.id) := fun w' hw' => cell_keep es0 hw'
            have gs1 : ∀ w', Below wq.heap.size wq w' → w'.cell? ⟨bs, os + kn * 3 + 1, none⟩ = some (.int .i64 x.key) := fun w' hw' => cell_keep es1 hw'
            have gs2 : ∀ w', Below wq.heap.size wq w' → w'.cell? ⟨bs, os + kn * 3 + 2, none⟩ = some (.slice was x.w.length wcs) := fun w' hw' => cell_keep es2 hw'
            clear es0 es1 es2
            obtain ⟨a', c', hv', -, -, -, ho⟩ := C1.open
            simp only [Value.slice.injEq] at hv'
            obtain ⟨rfl, -, rfl⟩ := hv'
            obtain ⟨bt, ot, ebt, -, hct⟩ := ho (by omega)
            simp only [Option.some.injEq, Addr.mk.injEq, and_true] at ebt
            obtain ⟨rfl, rfl⟩ := ebt
            obtain ⟨wat, wct, et0, et1, et2, Gt⟩ := hct 0 x (unhide HX)
            clear ho hct
            rw [Nat.zero_mul, Nat.add_zero] at et0 et1 et2
            have gt0 : ∀ w', Below wq.heap.size wq w' → w'.cell? ⟨b1, o1, none⟩ = some (.string x.id) := fun w' hw' => cell_keep et0 hw'
            have gt1 : ∀ w', Below wq.heap.size wq w' → w'.cell? ⟨b1, o1 + 1, none⟩ = some (.int .i64 x.key) := fun w' hw' => cell_keep et1 hw'
            have gt2 : ∀ w', Below wq.heap.size wq w' → w'.cell? ⟨b1, o1 + 2, none⟩ = some (.slice wat x.w.length wct) := fun w' hw' => cell_keep et2 hw'
            clear et0 et1 et2
            clear HL C1
            go_wp2
            refine region_below (by kernel_rfl) (by kernel_rfl) ?_
            repeat
              (first
                | go_big_quiet_skip
                | (go_big_quiet_want; go_big_quiet_op
                   first
                     | go_big_quiet_on
                     | (apply Exists.intro
                        refine ⟨fun w' hw' => ?_, ?_⟩
                        · first
                         | exact rfl
                         | (rw [gs0 w' hw']; dsimp only [Result.andThen]; rw [gs1 w' hw']; dsimp only [Result.andThen]; rw [gs2 w' hw']; exact ⟨rfl, rfl⟩)
                         | (rw [gt0 w' hw']; dsimp only [Result.andThen]; rw [gt1 w' hw']; dsimp only [Result.andThen]; rw [gt2 w' hw']; exact ⟨rfl, rfl⟩)
                         | (go_at_call 24; exact (samecG_any x x _ _ _ _ _ (Gs.below hw') (Gt.below hw') true (S.sameC_refl x)).mono fun e w'' ⟨h1, h2⟩ => ⟨h1, below_trans' hw' h2⟩)
                        go_big_quiet_on)))
            refine wpQuiet_nil ?_
            intro w9 hb9
            have BBz := below_trans' BBq hb9
            clear gs0 gs1 gs2 gt0 gt1 gt2 Gs Gt
            go_wp2
            go_roundw
            case rel => exact ⟨0 + 1, by omega, by go_num, BBz⟩
            case measure => simp [intOf]; omega
          · obtain ⟨j, rfl⟩ : ∃ j, i = j + 1 := ⟨i - 1, by omega⟩
            obtain ⟨y, hy⟩ : ∃ y, K[j]? = some y := ⟨K[j]'(by omega), List.getElem?_eq_getElem _⟩
            have HB : Hid (S.before y x = true) := H.keyed_before (unhide Hm) (by rw [unhide HK]; exact hy) (by rw [unhide HK]; exact unhide HX)
            have HY := hide hy
            clear hy
            have hj1 : (((j + 1 : Nat) : Int) - 1) = (j : Int) := by omega
            have hj2 : ((j : Int) + 1 - 1) = (j : Int) := by omega
            have hj3 : IntKind.i64.wrap ((j : Int) + 1) = (j : Int) + 1 := by rw [IntKind.wrap_i64]; omega
            have hj4 : IntKind.i64.wrap (j : Int) = (j : Int) := by rw [IntKind.wrap_i64]; omega
            have hj5 : decide ((0 : Int) < (j : Int) + 1) = true := decide_eq_true (by omega)
            have hj6 : (0 : Int) < (j : Int) + 1 := by omega
            obtain ⟨a', c', hv', -, -, -, ho⟩ := C1.open
            simp only [Value.slice.injEq] at hv'
            obtain ⟨rfl, -, rfl⟩ := hv'
            obtain ⟨bp, op, ebp, -, hcp⟩ := ho (by omega)
            simp only [Option.some.injEq, Addr.mk.injEq, and_true] at ebp
            obtain ⟨rfl, rfl⟩ := ebp
            obtain ⟨wap, wcp, ep0, ep1, ep2, Gp⟩ := hcp j y (unhide HY)
            clear ho hcp
            have gp0 : ∀ w', Below w41.heap.size w41 w' → w'.cell? ⟨b1, o1 + j * 3, none⟩ = some (.string y.id) := fun w' hw' => cell_keep ep0 hw'
            have gp1 : ∀ w', Below w41.heap.size w41 w' → w'.cell? ⟨b1, o1 + j * 3 + 1, none⟩ = some (.int .i64 y.key) := fun w' hw' => cell_keep ep1 hw'
            have gp2 : ∀ w', Below w41.heap.size w41 w' → w'.cell? ⟨b1, o1 + j * 3 + 2, none⟩ = some (.slice wap y.w.length wcp) := fun w' hw' => cell_keep ep2 hw'
            clear ep0 ep1 ep2
            obtain ⟨a', c', hv', -, -, -, ho⟩ := C1.open
            simp only [Value.slice.injEq] at hv'
            obtain ⟨rfl, -, rfl⟩ := hv'
            obtain ⟨bq, oq, ebq, -, hcq⟩ := ho (by omega)
            simp only [Option.some.injEq, Addr.mk.injEq, and_true] at ebq
            obtain ⟨rfl, rfl⟩ := ebq
            obtain ⟨waq, wcq, eq0, eq1, eq2, Gq⟩ := hcq (j + 1) x (unhide HX)
            clear ho hcq
            have gq0 : ∀ w', Below w41.heap.size w41 w' → w'.cell? ⟨b1, o1 + (j + 1) * 3, none⟩ = some (.string x.id) := fun w' hw' => cell_keep eq0 hw'
            have gq1 : ∀ w', Below w41.heap.size w41 w' → w'.cell? ⟨b1, o1 + (j + 1) * 3 + 1, none⟩ = some (.int .i64 x.key) := fun w' hw' => cell_keep eq1 hw'
            have gq2 : ∀ w', Below w41.heap.size w41 w' → w'.cell? ⟨b1, o1 + (j + 1) * 3 + 2, none⟩ = some (.slice waq x.w.length wcq) := fun w' hw' => cell_keep eq2 hw'
            clear eq0 eq1 eq2
            have CBf : ∀ w', Calls Try.prog 25 #[.agg #[.string y.id, .int .i64 y.key, .slice wap y.w.length wcp], .agg #[.string x.id, .int .i64 x.key, .slice waq x.w.length wcq]] w' fun e w'' => e = .returned (.bool true) ∧ Below w'.heap.size w' w'' := fun w' => before_b y x _ _ _ _ _ _ w' true (unhide HB)
            go_wp2
            refine region_below (by kernel_rfl) (by kernel_rfl) ?_
            repeat
              (first
                | go_big_quiet_skip
                | (go_big_quiet_want; go_big_quiet_op
                   first
                     | go_big_quiet_on
                     | (apply Exists.intro
                        refine ⟨fun w' hw' => ?_, ?_⟩
                        · first
                         | exact rfl
                         | (rw [gp0 w' hw']; dsimp only [Result.andThen]; rw [gp1 w' hw']; dsimp only [Result.andThen]; rw [gp2 w' hw']; exact ⟨rfl, rfl⟩)
                         | (rw [gq0 w' hw']; dsimp only [Result.andThen]; rw [gq1 w' hw']; dsimp only [Result.andThen]; rw [gq2 w' hw']; exact ⟨rfl, rfl⟩)
                         | (go_at_call 25; exact (CBf _).mono fun e w'' ⟨h1, h2⟩ => ⟨h1, below_trans' hw' h2⟩)
                        go_big_quiet_on)))
            refine wpQuiet_nil ?_
            intro w9 hb9
            have BBq := below_trans' BB41 hb9
            replace HL := HL.below hb9
            replace C1 := C1.below hb9
            obtain ⟨wq, hwq⟩ : ∃ wq, wq = w9 := ⟨_, rfl⟩
            rw [← hwq] at HL C1 BBq ⊢
            clear hwq hb9 gp0 gp1 gp2 gq0 gq1 gq2 Gp Gq CBf
            obtain ⟨a', c', hv', -, -, -, ho⟩ := HL.open
            simp only [Value.slice.injEq] at hv'
            obtain ⟨rfl, -, rfl⟩ := hv'
            obtain ⟨bs, os, rfl, -, hcs⟩ := ho (by omega)
            obtain ⟨was, wcs, es0, es1, es2, Gs⟩ := hcs kn x (unhide HAT)
            clear ho hcs
            have gs0 : ∀ w', Below wq.heap.size wq w' → w'.cell? ⟨bs, os + kn * 3, none⟩ = some (.string x.id) := fun w' hw' => cell_keep es0 hw'
            have gs1 : ∀ w', Below wq.heap.size wq w' → w'.cell? ⟨bs, os + kn * 3 + 1, none⟩ = some (.int .i64 x.key) := fun w' hw' => cell_keep es1 hw'
            have gs2 : ∀ w', Below wq.heap.size wq w' → w'.cell? ⟨bs, os + kn * 3 + 2, none⟩ = some (.slice was x.w.length wcs) := fun w' hw' => cell_keep es2 hw'
            clear es0 es1 es2
            obtain ⟨a', c', hv', -, -, -, ho⟩ := C1.open
            simp only [Value.slice.injEq] at hv'
            obtain ⟨rfl, -, rfl⟩ := hv'
            obtain ⟨bt, ot, ebt, -, hct⟩ := ho (by omega)
            simp only [Option.some.injEq, Addr.mk.injEq, and_true] at ebt
            obtain ⟨rfl, rfl⟩ := ebt
            obtain ⟨wat, wct, et0, et1, et2, Gt⟩ := hct (j + 1) x (unhide HX)
            clear ho hct
            have gt0 : ∀ w', Below wq.heap.size wq w' → w'.cell? ⟨b1, o1 + (j + 1) * 3, none⟩ = some (.string x.id) := fun w' hw' => cell_keep et0 hw'
            have gt1 : ∀ w', Below wq.heap.size wq w' → w'.cell? ⟨b1, o1 + (j + 1) * 3 + 1, none⟩ = some (.int .i64 x.key) := fun w' hw' => cell_keep et1 hw'
            have gt2 : ∀ w', Below wq.heap.size wq w' → w'.cell? ⟨b1, o1 + (j + 1) * 3 + 2, none⟩ = some (.slice wat x.w.length wct) := fun w' hw' => cell_keep et2 hw'
            clear et0 et1 et2
            clear HL C1
            go_wp2
            refine region_below (by kernel_rfl) (by kernel_rfl) ?_
            repeat
              (first
                | go_big_quiet_skip
                | (go_big_quiet_want; go_big_quiet_op
                   first
                     | go_big_quiet_on
                     | (apply Exists.intro
                        refine ⟨fun w' hw' => ?_, ?_⟩
                        · first
                         | exact rfl
                         | (rw [gs0 w' hw']; dsimp only [Result.andThen]; rw [gs1 w' hw']; dsimp only [Result.andThen]; rw [gs2 w' hw']; exact ⟨rfl, rfl⟩)
                         | (rw [gt0 w' hw']; dsimp only [Result.andThen]; rw [gt1 w' hw']; dsimp only [Result.andThen]; rw [gt2 w' hw']; exact ⟨rfl, rfl⟩)
                         | (go_at_call 24; exact (samecG_any x x _ _ _ _ _ (Gs.below hw') (Gt.below hw') true (S.sameC_refl x)).mono fun e w'' ⟨h1, h2⟩ => ⟨h1, below_trans' hw' h2⟩)
                        go_big_quiet_on)))
            refine wpQuiet_nil ?_
            intro w9 hb9
            have BBz := below_trans' BBq hb9
            clear gs0 gs1 gs2 gt0 gt1 gt2 Gs Gt
            go_wp2
            go_roundw
            case rel => exact ⟨(j + 1) + 1, by omega, by go_num, BBz⟩
            case measure => simp [intOf]; omega
        · have hik : i = K.length := by omega
          clear HL C1
          go_wp2
          go_ret
          exact ⟨rfl, BBr⟩
end Go.Proofs.Ytefnkbgkcjhkoaa
