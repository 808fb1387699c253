/-
  RemapDies' walk.
-/
import Derived.Test.YtggojmnalmjapaaAwake10
namespace Go.Proofs.Ytggojmnalmjapaa
set_option maxRecDepth 100000
open Go.RowKit Go.Deep

theorem Try.infoB10 : (Try.prog.info? 4).map (fun i => (i.zero, i.size, i.bytes)) = some (some (.bool false), 1, 1) := by kernel_rfl
theorem Lg.of1 {α : Type} {f : α → Value} {e : TypeId} {w : World} {a : Option Addr} {cap : Nat} {l : List α} {g : Nat} (h : Gl f w (.slice a l.length cap) l) (hg : g = w.heap.size) : Lg f (w.alloc (.cells #[.slice a l.length cap] e)) (.slice (some ⟨g, 0, none⟩) 1 1) [l] :=
  Lg.lit1 (s := (a, l.length, cap)) h hg

/-- One table: the list whose places are those that no document got that died. -/
theorem R.carry1 {m : Nat} (hm : m ≤ 64) {t : List Int} {was now : List Bool} (h1 : was.length = t.length) (h2 : now.length = t.length) :
    R.carry (m : Int) [t] [was] [now] = (R.nums m).map fun d => !R.hit d t was now := by
  unfold R.carry
  rw [if_pos ⟨by omega, by omega, by simp [R.fitL, h1, h2]⟩, Int.toNat_natCast]
  simp [R.hits]
theorem R.carry1_at {m : Nat} {t : List Int} {was now : List Bool} {X : List Bool} (hX : X = (R.nums m).map fun d => !R.hit d t was now) {i : Nat} (hi : i < m) : X[i]? = some (!R.hit (i : Int) t was now) := by
  rw [hX, List.getElem?_map, R.nums_at hi]
  rfl

set_option maxHeartbeats 8000000 in
theorem remapDies_walk (CO : OrderC) (n k : Int) (v1 v2 v3 : Value) (t : List Int) (was now : List Bool) (w : World) (h1 : Il w v1 t) (h2 : Gl .bool w v2 was) (h3 : Gl .bool w v3 now) :
    Calls Try.prog 9 #[.int .i64 n, v1, v2, v3, .int .i64 k] w fun e w' => e = .returned (.bool true) ∧ Below w.heap.size w w' := by
  obtain ⟨a1, c1, rfl, -, m1, -⟩ := h1.open
  obtain ⟨a2, c2, rfl, -, m2, -⟩ := h2.open
  obtain ⟨a3, c3, rfl, -, m3, -⟩ := h3.open
  go_enter Try.func9, Try.ntmps9
  go_wp2_with fail
  refine (awake10_of CO _).mono ?_
  rintro e w1 ⟨rfl, B1⟩
  have G1 := h1.below B1
  have G2 := h2.below B1
  have G3 := h3.below B1
  clear h1 h2 h3
  by_cases l0 : (64 : Int) < (t.length : Int)
  · go_wp2
    go_ret
    exact ⟨rfl, B1⟩
  by_cases e2 : was.length = t.length
  case neg =>
    have hne : ((was.length : Int) != (t.length : Int)) = true := by simp; omega
    clear e2
    go_wp2
    go_ret
    exact ⟨rfl, B1⟩
  by_cases e3 : now.length = t.length
  case neg =>
    have hne : ((now.length : Int) != (t.length : Int)) = true := by simp; omega
    have hne2 : ((was.length : Int) != (t.length : Int)) = false := by simp; omega
    clear e2 e3
    go_wp2
    go_ret
    exact ⟨rfl, B1⟩
  have hne : ((was.length : Int) != (t.length : Int)) = false := by simp; omega
  have hne3 : ((now.length : Int) != (t.length : Int)) = false := by simp; omega
  by_cases n0 : n < 0
  · clear e2 e3
    go_wp2
    go_ret
    exact ⟨rfl, B1⟩
  by_cases n1 : 64 < n
  · clear e2 e3
    go_wp2
    go_ret
    exact ⟨rfl, B1⟩
  obtain ⟨m, rfl⟩ := Int.eq_ofNat_of_zero_le (show 0 ≤ n by omega)
  have hm : m ≤ 64 := by omega
  obtain ⟨S, hS⟩ : ∃ S, R.carry (m : Int) [t] [was] [was] = S := ⟨_, rfl⟩
  obtain ⟨X, hX⟩ : ∃ X, R.carry (m : Int) [t] [was] [now] = X := ⟨_, rfl⟩
  have HS1 := hide (((R.carry1 hm e2 e2).symm.trans hS).symm)
  have HX1 := hide (((R.carry1 hm e2 e3).symm.trans hX).symm)
  have hSl : S.length = m := by rw [unhide HS1, List.length_map, R.nums_len]
  have hXl : X.length = m := by rw [unhide HX1, List.length_map, R.nums_len]
  have C1 := hide (fun a b c w' (G : Tl w' a [t]) (H : Bl w' b [was]) (K : Bl w' c [was]) => by have := carry_any (m : Int) a b c [t] [was] [was] w' G H K; rwa [hS] at this)
  have C2 := hide (fun a b c w' (G : Tl w' a [t]) (H : Bl w' b [was]) (K : Bl w' c [now]) => by have := carry_any (m : Int) a b c [t] [was] [now] w' G H K; rwa [hX] at this)
  have E2 := hide e2
  have E3 := hide e3
  have HSl := hide hSl
  have HXl := hide hXl
  clear hS hX e2 e3 hSl hXl
  have hle : (now.length : Int) ≤ 64 := by have := unhide E3; omega
  go_wp2_with fail
  have T0 : Tl (((w1.alloc (.cells #[.slice a1 t.length c1] 23)).alloc (.cells #[.slice a2 was.length c2] 22)).alloc (.cells #[.slice a2 was.length c2] 22)) (.slice (some ⟨w1.heap.size, 0, none⟩) 1 1) [t] := (Lg.of1 G1 rfl).below (below_all (below_alloc _ _) _)
  have U0 : Bl (((w1.alloc (.cells #[.slice a1 t.length c1] 23)).alloc (.cells #[.slice a2 was.length c2] 22)).alloc (.cells #[.slice a2 was.length c2] 22)) (.slice (some ⟨w1.heap.size + 1, 0, none⟩) 1 1) [was] := (Lg.of1 (G2.below (below_alloc _ _)) (by simp)).below (below_alloc _ _)
  have V0 : Bl (((w1.alloc (.cells #[.slice a1 t.length c1] 23)).alloc (.cells #[.slice a2 was.length c2] 22)).alloc (.cells #[.slice a2 was.length c2] 22)) (.slice (some ⟨w1.heap.size + 1 + 1, 0, none⟩) 1 1) [was] := Lg.of1 (G2.below (below_all (below_alloc _ _) _)) (by simp)
  have b0 : Below w1.heap.size w1 (((w1.alloc (.cells #[.slice a1 t.length c1] 23)).alloc (.cells #[.slice a2 was.length c2] 22)).alloc (.cells #[.slice a2 was.length c2] 22)) := below_all (below_all (below_alloc _ _) _) _
  refine (unhide C1 _ _ _ _ T0 U0 V0).mono ?_
  rintro e w2 ⟨u2, rfl, O2, B2⟩
  have I2 : Gl .bool w2 u2 S := Gl.owned O2
  have T2 := T0.below B2
  have bb := below_trans' b0 B2
  have BB2 := below_trans' B1 bb
  have G2 := G2.below bb
  have G3 := G3.below bb
  obtain ⟨x2, y2, rfl, -, z2, -⟩ := I2.open
  rw [unhide HSl] at I2 ⊢
  obtain ⟨p0, hp0⟩ : ∃ p0, w1.heap.size = p0 := ⟨_, rfl⟩
  rw [hp0] at T2 ⊢
  clear O2 B2 B1 b0 bb T0 U0 V0 C1 G1 hp0
  go_wp2_with fail
  have U0 : Bl ((w2.alloc (.cells #[.slice a2 was.length c2] 22)).alloc (.cells #[.slice a3 now.length c3] 22)) (.slice (some ⟨w2.heap.size, 0, none⟩) 1 1) [was] := (Lg.of1 G2 rfl).below (below_alloc _ _)
  have V0 : Bl ((w2.alloc (.cells #[.slice a2 was.length c2] 22)).alloc (.cells #[.slice a3 now.length c3] 22)) (.slice (some ⟨w2.heap.size + 1, 0, none⟩) 1 1) [now] := Lg.of1 (G3.below (below_alloc _ _)) (by simp)
  have b0 : Below w2.heap.size w2 ((w2.alloc (.cells #[.slice a2 was.length c2] 22)).alloc (.cells #[.slice a3 now.length c3] 22)) := below_all (below_alloc _ _) _
  refine (unhide C2 _ _ _ _ (T2.below b0) U0 V0).mono ?_
  rintro e w3 ⟨u3, rfl, O3, B3⟩
  have I3 : Gl .bool w3 u3 X := Gl.owned O3
  have bb := below_trans' b0 B3
  have T3 := T2.below bb
  have I2 := I2.below bb
  have BB3 := below_trans' BB2 bb
  have G2 := G2.below bb
  have G3 := G3.below bb
  obtain ⟨x3, y3, rfl, -, z3, -⟩ := I3.open
  rw [unhide HXl] at I3 ⊢
  clear O3 B3 BB2 b0 bb U0 V0 C2 T2
  obtain ⟨i0, hi0, hz0, hz1, hz2⟩ := info_parts Try.infoB10
  by_cases k0 : k < 0
  · have d1 : decide (0 ≤ k) = false := by simp; omega
    go_wp2_with (first | (at_builtin; refine append_allG (f := Value.bool) rfl _ _ 22 rfl Try.underlying22 hi0 hz0 hz1 hz2 rfl (fun _ => rfl) (pre := []) rfl rfl G3 (World.ownsRow_nil _ _ _ _) (Below.refl _ _) (Nat.le_refl _) (by simp; omega) (by decide) ?_; intro v4 w4 hown B4; rw [List.nil_append] at hown; obtain ⟨g, c4, rfl, -⟩ := id (Gl.owned hown); have O4 := hide hown) | fail)
    obtain ⟨Z, hZ⟩ : ∃ Z, now = Z := ⟨_, rfl⟩
    obtain ⟨W4, hW4⟩ : ∃ W4, w4 = W4 := ⟨_, rfl⟩
    have I4 : Gl .bool W4 (.slice g now.length c4) Z := by rw [← hW4, ← hZ]; exact Gl.owned (unhide O4)
    have hZl : Z.length = now.length := by rw [← hZ]
    have hZh : ∀ d, R.hit d t was now = true → R.hit d t was Z = true := fun d h => by rw [← hZ]; exact h
    rw [hW4] at B4 ⊢
    have e4 : Z.length = t.length := hZl.trans (unhide E3)
    obtain ⟨Y, hY⟩ : ∃ Y, R.carry (m : Int) [t] [was] [Z] = Y := ⟨_, rfl⟩
    have HY1 := hide (((R.carry1 hm (unhide E2) e4).symm.trans hY).symm)
    have hYl : Y.length = m := by rw [unhide HY1, List.length_map, R.nums_len]
    rw [← hZl] at I4
    have T4 := T3.below B4
    have P2 := I2.below B4
    have P3 := I3.below B4
    have F2 := G2.below B4
    have BB4 := below_trans' BB3 B4
    have U0 : Bl ((W4.alloc (.cells #[.slice a2 was.length c2] 22)).alloc (.cells #[.slice g Z.length c4] 22)) (.slice (some ⟨W4.heap.size, 0, none⟩) 1 1) [was] := (Lg.of1 F2 rfl).below (below_alloc _ _)
    have V0 : Bl ((W4.alloc (.cells #[.slice a2 was.length c2] 22)).alloc (.cells #[.slice g Z.length c4] 22)) (.slice (some ⟨W4.heap.size + 1, 0, none⟩) 1 1) [Z] := Lg.of1 (I4.below (below_alloc _ _)) (by simp)
    have b0 : Below W4.heap.size W4 ((W4.alloc (.cells #[.slice a2 was.length c2] 22)).alloc (.cells #[.slice g Z.length c4] 22)) := below_all (below_alloc _ _) _
    have C3 := carry_any (m : Int) _ _ _ [t] [was] [Z] _ (T4.below b0) U0 V0
    rw [hY, hZl] at C3
    have HZH := hide hZh
    have HYl := hide hYl
    have HB := hide (And.intro BB4 (And.intro P2 (And.intro P3 b0)))
    have HZl := hide hZl
    clear hZ hW4 hZh hYl hZl e4 hY T4 P2 P3 F2 BB4 U0 V0 b0 I4 O4 hown
    refine C3.mono ?_
    rintro e w5 ⟨u5, rfl, O5, B5⟩
    have I5 : Gl .bool w5 u5 Y := Gl.owned O5
    obtain ⟨q1, q2, q3, q4⟩ := unhide HB
    have bb := below_trans' (by rw [unhide HZl] at q4; exact q4) B5
    have P2 := q2.below bb
    have P3 := q3.below bb
    have BB5 := below_trans' q1 bb
    obtain ⟨x5, y5, e5, -, z5, -, o5⟩ := I5.open
    subst e5
    rw [unhide HYl] at o5 ⊢
    obtain ⟨x2b, y2b, e2b, -, -, -, o2⟩ := P2.open
    obtain ⟨x3b, y3b, e3b, -, -, -, o3⟩ := P3.open
    rw [unhide HSl] at e2b o2
    rw [unhide HXl] at e3b o3
    simp only [Value.slice.injEq, true_and] at e2b e3b
    obtain ⟨rfl, rfl⟩ := e2b
    obtain ⟨rfl, rfl⟩ := e3b
    clear O5 B5 C3 HB q1 q2 q3 q4 bb I5 P2 P3 B4 BB3 T3 I2 I3 G2 G3
    go_wp2
    go_loop [17] (fun iv => ∃ i : Nat, i ≤ m ∧ iv = .int .i64 i) (fun iv => m - (intOf iv).toNat)
    case atStart => exact ⟨0, Nat.zero_le _, rfl⟩
    case round =>
      obtain ⟨i, hi, rfl⟩ := hrel
      by_cases hlt : i < m
      · obtain ⟨b5, f5, rfl, -, k5⟩ := o5 (by omega)
        obtain ⟨b2, f2, rfl, -, k2⟩ := o2 (by omega)
        obtain ⟨b3, f3, rfl, -, k3⟩ := o3 (by omega)
        have r5 := k5 i _ (R.carry1_at (unhide HY1) hlt)
        have r2 := k2 i _ (R.carry1_at (unhide HS1) hlt)
        have r3 := k3 i _ (R.carry1_at (unhide HX1) hlt)
        rw [R.hit_same, Bool.not_false] at r2
        have hzh := unhide HZH (i : Int)
        clear k5 k2 k3 o5 o2 o3
        cases hq : R.hit (i : Int) t was Z with
        | true =>
          rw [hq, Bool.not_true] at r5
          clear hq hzh
          go_wp2
          go_round
          case rel => exact ⟨i + 1, by omega, by go_num⟩
          case measure => simp [intOf]; omega
        | false =>
          rw [hq, Bool.not_false] at r5
          cases hr : R.hit (i : Int) t was now with
          | true => rw [hzh hr] at hq; cases hq
          | false =>
            rw [hr, Bool.not_false] at r3
            clear hq hr hzh
            go_wp2
            go_round
            case rel => exact ⟨i + 1, by omega, by go_num⟩
            case measure => simp [intOf]; omega
      · clear o5 o2 o3
        go_wp2
        go_ret
        exact ⟨rfl, BB5⟩
  · by_cases k1 : (now.length : Int) ≤ k
    · have d1 : decide (0 ≤ k) = true := by simp; omega
      have d2 : decide (k < (now.length : Int)) = false := by simp; omega
      go_wp2_with (first | (at_builtin; refine append_allG (f := Value.bool) rfl _ _ 22 rfl Try.underlying22 hi0 hz0 hz1 hz2 rfl (fun _ => rfl) (pre := []) rfl rfl G3 (World.ownsRow_nil _ _ _ _) (Below.refl _ _) (Nat.le_refl _) (by simp; omega) (by decide) ?_; intro v4 w4 hown B4; rw [List.nil_append] at hown; obtain ⟨g, c4, rfl, -⟩ := id (Gl.owned hown); have O4 := hide hown) | fail)
      obtain ⟨Z, hZ⟩ : ∃ Z, now = Z := ⟨_, rfl⟩
      obtain ⟨W4, hW4⟩ : ∃ W4, w4 = W4 := ⟨_, rfl⟩
      have I4 : Gl .bool W4 (.slice g now.length c4) Z := by rw [← hW4, ← hZ]; exact Gl.owned (unhide O4)
      have hZl : Z.length = now.length := by rw [← hZ]
      have hZh : ∀ d, R.hit d t was now = true → R.hit d t was Z = true := fun d h => by rw [← hZ]; exact h
      rw [hW4] at B4 ⊢
      have e4 : Z.length = t.length := hZl.trans (unhide E3)
      obtain ⟨Y, hY⟩ : ∃ Y, R.carry (m : Int) [t] [was] [Z] = Y := ⟨_, rfl⟩
      have HY1 := hide (((R.carry1 hm (unhide E2) e4).symm.trans hY).symm)
      have hYl : Y.length = m := by rw [unhide HY1, List.length_map, R.nums_len]
      rw [← hZl] at I4
      have T4 := T3.below B4
      have P2 := I2.below B4
      have P3 := I3.below B4
      have F2 := G2.below B4
      have BB4 := below_trans' BB3 B4
      have U0 : Bl ((W4.alloc (.cells #[.slice a2 was.length c2] 22)).alloc (.cells #[.slice g Z.length c4] 22)) (.slice (some ⟨W4.heap.size, 0, none⟩) 1 1) [was] := (Lg.of1 F2 rfl).below (below_alloc _ _)
      have V0 : Bl ((W4.alloc (.cells #[.slice a2 was.length c2] 22)).alloc (.cells #[.slice g Z.length c4] 22)) (.slice (some ⟨W4.heap.size + 1, 0, none⟩) 1 1) [Z] := Lg.of1 (I4.below (below_alloc _ _)) (by simp)
      have b0 : Below W4.heap.size W4 ((W4.alloc (.cells #[.slice a2 was.length c2] 22)).alloc (.cells #[.slice g Z.length c4] 22)) := below_all (below_alloc _ _) _
      have C3 := carry_any (m : Int) _ _ _ [t] [was] [Z] _ (T4.below b0) U0 V0
      rw [hY, hZl] at C3
      have HZH := hide hZh
      have HYl := hide hYl
      have HB := hide (And.intro BB4 (And.intro P2 (And.intro P3 b0)))
      have HZl := hide hZl
      clear hZ hW4 hZh hYl hZl e4 hY T4 P2 P3 F2 BB4 U0 V0 b0 I4 O4 hown
      refine C3.mono ?_
      rintro e w5 ⟨u5, rfl, O5, B5⟩
      have I5 : Gl .bool w5 u5 Y := Gl.owned O5
      obtain ⟨q1, q2, q3, q4⟩ := unhide HB
      have bb := below_trans' (by rw [unhide HZl] at q4; exact q4) B5
      have P2 := q2.below bb
      have P3 := q3.below bb
      have BB5 := below_trans' q1 bb
      obtain ⟨x5, y5, e5, -, z5, -, o5⟩ := I5.open
      subst e5
      rw [unhide HYl] at o5 ⊢
      obtain ⟨x2b, y2b, e2b, -, -, -, o2⟩ := P2.open
      obtain ⟨x3b, y3b, e3b, -, -, -, o3⟩ := P3.open
      rw [unhide HSl] at e2b o2
      rw [unhide HXl] at e3b o3
      simp only [Value.slice.injEq, true_and] at e2b e3b
      obtain ⟨rfl, rfl⟩ := e2b
      obtain ⟨rfl, rfl⟩ := e3b
      clear O5 B5 C3 HB q1 q2 q3 q4 bb I5 P2 P3 B4 BB3 T3 I2 I3 G2 G3
      go_wp2
      go_loop [17] (fun iv => ∃ i : Nat, i ≤ m ∧ iv = .int .i64 i) (fun iv => m - (intOf iv).toNat)
      case atStart => exact ⟨0, Nat.zero_le _, rfl⟩
      case round =>
        obtain ⟨i, hi, rfl⟩ := hrel
        by_cases hlt : i < m
        · obtain ⟨b5, f5, rfl, -, k5⟩ := o5 (by omega)
          obtain ⟨b2, f2, rfl, -, k2⟩ := o2 (by omega)
          obtain ⟨b3, f3, rfl, -, k3⟩ := o3 (by omega)
          have r5 := k5 i _ (R.carry1_at (unhide HY1) hlt)
          have r2 := k2 i _ (R.carry1_at (unhide HS1) hlt)
          have r3 := k3 i _ (R.carry1_at (unhide HX1) hlt)
          rw [R.hit_same, Bool.not_false] at r2
          have hzh := unhide HZH (i : Int)
          clear k5 k2 k3 o5 o2 o3
          cases hq : R.hit (i : Int) t was Z with
          | true =>
            rw [hq, Bool.not_true] at r5
            clear hq hzh
            go_wp2
            go_round
            case rel => exact ⟨i + 1, by omega, by go_num⟩
            case measure => simp [intOf]; omega
          | false =>
            rw [hq, Bool.not_false] at r5
            cases hr : R.hit (i : Int) t was now with
            | true => rw [hzh hr] at hq; cases hq
            | false =>
              rw [hr, Bool.not_false] at r3
              clear hq hr hzh
              go_wp2
              go_round
              case rel => exact ⟨i + 1, by omega, by go_num⟩
              case measure => simp [intOf]; omega
        · clear o5 o2 o3
          go_wp2
          go_ret
          exact ⟨rfl, BB5⟩
    · obtain ⟨q, rfl⟩ := Int.eq_ofNat_of_zero_le (show 0 ≤ k by omega)
      have hq : q < now.length := by omega
      obtain ⟨x, hx⟩ : ∃ x, now[q]? = some x := ⟨_, List.getElem?_eq_getElem hq⟩
      have HQ := hide hx
      clear hx k1
      go_wp2_with (first | (at_builtin; refine append_allG (f := Value.bool) rfl _ _ 22 rfl Try.underlying22 hi0 hz0 hz1 hz2 rfl (fun _ => rfl) (pre := []) rfl rfl G3 (World.ownsRow_nil _ _ _ _) (Below.refl _ _) (Nat.le_refl _) (by simp; omega) (by decide) ?_; intro v4 w4 hown B4; rw [List.nil_append] at hown; obtain ⟨g, c4, rfl, hg1, hg2⟩ := hown.form (by omega); have k1 := own_at hown rfl (unhide HQ); have k2 := hown.frozenAt q; have O4 := hide (own_put hown rfl q false); have B4 := B4.setCell (p := ⟨g, q, none⟩) hg1 (.bool false); have s4 : (w4.setCell ⟨g, q, none⟩ (.bool false)).heap.size = w4.heap.size := by simp [World.setCell]) | fail)
      obtain ⟨Z, hZ⟩ : ∃ Z, now.set q false = Z := ⟨_, rfl⟩
      obtain ⟨W4, hW4⟩ : ∃ W4, w4.setCell ⟨g, q, none⟩ (.bool false) = W4 := ⟨_, rfl⟩
      have I4 : Gl .bool W4 (.slice (some ⟨g, 0, none⟩) now.length c4) Z := by rw [← hW4, ← hZ]; exact Gl.owned (unhide O4)
      have hZl : Z.length = now.length := by rw [← hZ, List.length_set]
      have hZh : ∀ d, R.hit d t was now = true → R.hit d t was Z = true := fun d h => by rw [← hZ]; exact R.hit_less d t was now q h
      rw [hW4] at B4 ⊢
      have hs4 := s4
      rw [hW4] at s4
      rw [← s4]
      have e4 : Z.length = t.length := hZl.trans (unhide E3)
      obtain ⟨Y, hY⟩ : ∃ Y, R.carry (m : Int) [t] [was] [Z] = Y := ⟨_, rfl⟩
      have HY1 := hide (((R.carry1 hm (unhide E2) e4).symm.trans hY).symm)
      have hYl : Y.length = m := by rw [unhide HY1, List.length_map, R.nums_len]
      rw [← hZl] at I4
      have T4 := T3.below B4
      have P2 := I2.below B4
      have P3 := I3.below B4
      have F2 := G2.below B4
      have BB4 := below_trans' BB3 B4
      have U0 : Bl ((W4.alloc (.cells #[.slice a2 was.length c2] 22)).alloc (.cells #[.slice (some ⟨g, 0, none⟩) Z.length c4] 22)) (.slice (some ⟨W4.heap.size, 0, none⟩) 1 1) [was] := (Lg.of1 F2 rfl).below (below_alloc _ _)
      have V0 : Bl ((W4.alloc (.cells #[.slice a2 was.length c2] 22)).alloc (.cells #[.slice (some ⟨g, 0, none⟩) Z.length c4] 22)) (.slice (some ⟨W4.heap.size + 1, 0, none⟩) 1 1) [Z] := Lg.of1 (I4.below (below_alloc _ _)) (by simp)
      have b0 : Below W4.heap.size W4 ((W4.alloc (.cells #[.slice a2 was.length c2] 22)).alloc (.cells #[.slice (some ⟨g, 0, none⟩) Z.length c4] 22)) := below_all (below_alloc _ _) _
      have C3 := carry_any (m : Int) _ _ _ [t] [was] [Z] _ (T4.below b0) U0 V0
      rw [hY, hZl] at C3
      have HZH := hide hZh
      have HYl := hide hYl
      have HB := hide (And.intro BB4 (And.intro P2 (And.intro P3 b0)))
      have HZl := hide hZl
      clear hZ hW4 hZh hYl hZl e4 hY T4 P2 P3 F2 BB4 U0 V0 b0 I4 O4 hown k1 k2 hg1 hg2 s4 hs4
      refine C3.mono ?_
      rintro e w5 ⟨u5, rfl, O5, B5⟩
      have I5 : Gl .bool w5 u5 Y := Gl.owned O5
      obtain ⟨q1, q2, q3, q4⟩ := unhide HB
      have bb := below_trans' (by rw [unhide HZl] at q4; exact q4) B5
      have P2 := q2.below bb
      have P3 := q3.below bb
      have BB5 := below_trans' q1 bb
      obtain ⟨x5, y5, e5, -, z5, -, o5⟩ := I5.open
      subst e5
      rw [unhide HYl] at o5 ⊢
      obtain ⟨x2b, y2b, e2b, -, -, -, o2⟩ := P2.open
      obtain ⟨x3b, y3b, e3b, -, -, -, o3⟩ := P3.open
      rw [unhide HSl] at e2b o2
      rw [unhide HXl] at e3b o3
      simp only [Value.slice.injEq, true_and] at e2b e3b
      obtain ⟨rfl, rfl⟩ := e2b
      obtain ⟨rfl, rfl⟩ := e3b
      clear O5 B5 C3 HB q1 q2 q3 q4 bb I5 P2 P3 B4 BB3 T3 I2 I3 G2 G3
      go_wp2
      go_loop [17] (fun iv => ∃ i : Nat, i ≤ m ∧ iv = .int .i64 i) (fun iv => m - (intOf iv).toNat)
      case atStart => exact ⟨0, Nat.zero_le _, rfl⟩
      case round =>
        obtain ⟨i, hi, rfl⟩ := hrel
        by_cases hlt : i < m
        · obtain ⟨b5, f5, rfl, -, k5⟩ := o5 (by omega)
          obtain ⟨b2, f2, rfl, -, k2⟩ := o2 (by omega)
          obtain ⟨b3, f3, rfl, -, k3⟩ := o3 (by omega)
          have r5 := k5 i _ (R.carry1_at (unhide HY1) hlt)
          have r2 := k2 i _ (R.carry1_at (unhide HS1) hlt)
          have r3 := k3 i _ (R.carry1_at (unhide HX1) hlt)
          rw [R.hit_same, Bool.not_false] at r2
          have hzh := unhide HZH (i : Int)
          clear k5 k2 k3 o5 o2 o3
          cases hq : R.hit (i : Int) t was Z with
          | true =>
            rw [hq, Bool.not_true] at r5
            clear hq hzh
            go_wp2
            go_round
            case rel => exact ⟨i + 1, by omega, by go_num⟩
            case measure => simp [intOf]; omega
          | false =>
            rw [hq, Bool.not_false] at r5
            cases hr : R.hit (i : Int) t was now with
            | true => rw [hzh hr] at hq; cases hq
            | false =>
              rw [hr, Bool.not_false] at r3
              clear hq hr hzh
              go_wp2
              go_round
              case rel => exact ⟨i + 1, by omega, by go_num⟩
              case measure => simp [intOf]; omega
        · clear o5 o2 o3
          go_wp2
          go_ret
          exact ⟨rfl, BB5⟩
end Go.Proofs.Ytggojmnalmjapaa
