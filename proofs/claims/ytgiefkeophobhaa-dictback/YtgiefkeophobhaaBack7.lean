/-
  DictBack's and DictShort's walks.
-/
import Derived.Test.YtgiefkeophobhaaAwake7
namespace Go.Proofs.Ytgiefkeophobhaa
open Go.RowKit

set_option maxHeartbeats 4000000 in
theorem dictBack_walk (v u : Value) (l : List ByteArray) (b : List Int) (w : World) (h : Gl .string w v l) (hs : Sl .u8 w u b) (hb : V.Byt b) :
    Calls Try.prog 6 #[v, u] w fun e w' => e = .returned (.bool true) ∧ Below w.heap.size w w' := by
  obtain ⟨a, c, rfl, -⟩ := id h
  obtain ⟨ua, uc, rfl, -, hm, -⟩ := hs.open
  obtain ⟨f, hf⟩ : ∃ f, D.few l = f := ⟨_, rfl⟩
  obtain ⟨m, hmy⟩ : ∃ m, D.may l = m := ⟨_, rfl⟩
  obtain ⟨p, hp⟩ : ∃ p, D.pack l = p := ⟨_, rfl⟩
  have hpb := D.pack_byt l
  rw [hp] at hpb
  have HF := hide hf
  have HM := hide hmy
  have HP := hide hp
  clear hf hmy hp
  obtain ⟨z, n, hz⟩ : ∃ z n, D.unR b = (z, n) := ⟨_, _, rfl⟩
  have hcs : (z.length = 0 ∧ n = 5) ∨ (n = 0 ∧ D.may z = true ∧ D.pack z = b) := by
    rcases D.unR_cases b with e | ⟨x, e, h1, h2⟩
    · rw [hz] at e; cases e; exact .inl ⟨rfl, rfl⟩
    · rw [hz] at e; cases e; exact .inr ⟨rfl, h1, h2⟩
  have HZ := hide hz
  clear hz
  go_enter Try.func6, Try.ntmps6
  go_wp2_with fail
  refine (awake_any _).mono ?_
  rintro e w1 ⟨rfl, B1⟩
  have G1 := h.below B1
  have S1 := hs.below B1
  go_wp2_with fail
  refine (few_any _ l _ G1 f (unhide HF)).mono ?_
  rintro e w2 ⟨rfl, rfl⟩
  cases f with
  | false =>
    clear hcs
    go_wp2
    go_ret
    exact ⟨rfl, B1⟩
  | true =>
    by_cases h3 : (3000 : Int) < (b.length : Int)
    · clear hcs
      go_wp2
      go_ret
      exact ⟨rfl, B1⟩
    · have HCS := hide hcs
      clear hcs
      go_wp2_with fail
      refine (may_any _ l _ G1 m (unhide HM)).mono ?_
      rintro e w3 ⟨rfl, rfl⟩
      cases m with
      | true =>
        have HU := hide (D.unR_pack (unhide HM))
        rw [unhide HP] at HU
        go_wp2_with fail
        refine (pack_b _ l _ G1 p (unhide HP)).mono ?_
        rintro e w4 ⟨a4, c4, rfl, S4, B4⟩
        have BB4 := below_trans' B1 B4
        have GL := G1.below B4
        have SB := S1.below B4
        clear G1 S1 B1 B4
        go_wp2_with fail
        refine (unpack_b _ p _ S4 hpb l 0 (unhide HU)).mono ?_
        rintro e w5 ⟨a5, c5, rfl, G5, B5⟩
        have BB5 := below_trans' BB4 B5
        have GL := GL.below B5
        have SB := SB.below B5
        clear S4 BB4 B5
        go_wp2_with fail
        refine (texts_any _ _ l l _ G5 GL true (by simp)).mono ?_
        rintro e w6 ⟨rfl, B6⟩
        have BB6 := below_trans' BB5 B6
        have SB := SB.below B6
        clear G5 GL BB5 B6
        go_wp2_with fail
        refine (unpack_b _ b _ SB hb z n (unhide HZ)).mono ?_
        rintro e w7 ⟨a7, c7, rfl, G7, B7⟩
        have BB7 := below_trans' BB6 B7
        have SB := SB.below B7
        clear BB6 B7
        rcases unhide HCS with ⟨h1, h2⟩ | ⟨h1, h2, h3⟩
        · subst h2
          clear G7 HCS
          rw [h1]
          go_wp2
          go_ret
          exact ⟨rfl, BB7⟩
        · subst h1
          have H2 := hide h2
          have H3 := hide h3
          clear h2 h3 HCS
          go_wp2_with fail
          refine (pack_b _ z _ G7 b (unhide H3)).mono ?_
          rintro e w8 ⟨a8, c8, rfl, S8, B8⟩
          have BB8 := below_trans' BB7 B8
          have SB := SB.below B8
          have G8 := G7.below B8
          clear BB7 B8 G7
          go_wp2_with fail
          refine (bytes_b _ _ b b _ S8 SB true (by simp)).mono ?_
          rintro e w9 ⟨rfl, B9⟩
          have BB9 := below_trans' BB8 B9
          have G9 := G8.below B9
          clear BB8 B9 G8 S8 SB
          go_wp2_with fail
          refine (may_any _ z _ G9 true (unhide H2)).mono ?_
          rintro e w10 ⟨rfl, rfl⟩
          go_wp2
          go_ret
          exact ⟨rfl, BB9⟩
      | false =>
        have BB6 := B1
        have SB := S1
        clear B1 S1 G1
        go_wp2_with fail
        refine (unpack_b _ b _ SB hb z n (unhide HZ)).mono ?_
        rintro e w7 ⟨a7, c7, rfl, G7, B7⟩
        have BB7 := below_trans' BB6 B7
        have SB := SB.below B7
        clear BB6 B7
        rcases unhide HCS with ⟨h1, h2⟩ | ⟨h1, h2, h3⟩
        · subst h2
          clear G7 HCS
          rw [h1]
          go_wp2
          go_ret
          exact ⟨rfl, BB7⟩
        · subst h1
          have H2 := hide h2
          have H3 := hide h3
          clear h2 h3 HCS
          go_wp2_with fail
          refine (pack_b _ z _ G7 b (unhide H3)).mono ?_
          rintro e w8 ⟨a8, c8, rfl, S8, B8⟩
          have BB8 := below_trans' BB7 B8
          have SB := SB.below B8
          have G8 := G7.below B8
          clear BB7 B8 G7
          go_wp2_with fail
          refine (bytes_b _ _ b b _ S8 SB true (by simp)).mono ?_
          rintro e w9 ⟨rfl, B9⟩
          have BB9 := below_trans' BB8 B9
          have G9 := G8.below B9
          clear BB8 B9 G8 S8 SB
          go_wp2_with fail
          refine (may_any _ z _ G9 true (unhide H2)).mono ?_
          rintro e w10 ⟨rfl, rfl⟩
          go_wp2
          go_ret
          exact ⟨rfl, BB9⟩

theorem run_by_to (a : Option Addr) (n cap m : Nat) (hm : m ≤ cap) (w : World) :
    (Instr.slice 32 (.slice a n cap) none (some (.int .i64 (m : Int))) none).run Try.prog w = .ok (sliced a 0 m cap 1) w := by
  have hs : ∀ w : World, (sizeOf (Try.prog.elem 32)).run Try.prog w = .ok 1 w := fun w => by kernel_rfl
  rw [run_slice_h w 32 _ n cap (by kernel_rfl) .i64 m (by omega) (by omega), hs]
  simp [Result.andThen]
theorem Sl.cap_le {k : IntKind} {w : World} {a : Option Addr} {n cap : Nat} {zs : List Int} (h : Sl k w (.slice a n cap) zs) : n ≤ cap := by
  obtain ⟨a', c', hv, hl, -⟩ := h
  simp only [Value.slice.injEq] at hv
  obtain ⟨-, rfl, rfl⟩ := hv
  exact hl

theorem D.wide_take {l : List ByteArray} {k : Nat} {x : ByteArray} (h : l[k]? = some x) : D.wide (l.take (k + 1)) = D.wide (l.take k) + (x.size + 2) := by
  obtain ⟨hk, rfl⟩ := List.getElem?_eq_some_iff.1 h
  unfold D.wide
  rw [List.take_succ_eq_append_getElem hk, List.map_append, List.sum_append]
  simp

set_option maxHeartbeats 4000000 in
theorem dictShort_walk (v : Value) (l : List ByteArray) (cut : Int) (w : World) (h : Gl .string w v l) :
    Calls Try.prog 9 #[v, .int .i64 cut] w fun e w' => e = .returned (.bool true) ∧ Below w.heap.size w w' := by
  obtain ⟨a, c, hv, hlc, hm, hna, -⟩ := h.open
  subst hv
  obtain ⟨f, hf⟩ : ∃ f, D.few l = f := ⟨_, rfl⟩
  obtain ⟨m, hmy⟩ : ∃ m, D.may l = m := ⟨_, rfl⟩
  obtain ⟨p, hp⟩ : ∃ p, D.pack l = p := ⟨_, rfl⟩
  have hpb := D.pack_byt l
  rw [hp] at hpb
  have HF := hide hf
  have HM := hide hmy
  have HP := hide hp
  clear hf hmy hp
  go_enter Try.func9, Try.ntmps9
  go_wp2_with fail
  refine (awake_any _).mono ?_
  rintro e w1 ⟨rfl, B1⟩
  have G1 := h.below B1
  go_wp2_with fail
  refine (few_any _ l _ G1 f (unhide HF)).mono ?_
  rintro e w2 ⟨rfl, rfl⟩
  cases f with
  | false =>
    go_wp2
    go_ret
    exact ⟨rfl, B1⟩
  | true =>
    go_wp2_with fail
    refine (may_any _ l _ G1 m (unhide HM)).mono ?_
    rintro e w3 ⟨rfl, rfl⟩
    cases m with
    | false =>
      go_wp2
      go_ret
      exact ⟨rfl, B1⟩
    | true =>
      have hpl := D.pack_len (unhide HM)
      rw [unhide HP] at hpl
      have hps := D.pack_small l
      rw [unhide HP] at hps
      have hll := D.may_len (unhide HM)
      have hw32 := D.wide_le l 32 fun x hx => (D.may_size (unhide HM) x hx).2
      have hww : D.wide l ≤ 200 * 34 := Nat.le_trans hw32 (Nat.mul_le_mul hll (by omega))
      go_wp2_with fail
      refine (pack_b _ l _ G1 p (unhide HP)).mono ?_
      rintro e w4 ⟨a4, c4, rfl, S4, B4⟩
      have BB4 := below_trans' B1 B4
      have GL := G1.below B4
      obtain ⟨a', c', hv', -, -, -, ho⟩ := GL.open
      simp only [Value.slice.injEq, true_and] at hv'
      obtain ⟨rfl, rfl⟩ := hv'
      have HPL := hide hpl
      have HW32 := hide hww
      clear G1 B1 B4 GL hpl hw32 hww
      go_wp2
      go_loop [8, 9] (fun nv iv => ∃ (k y : Nat), k ≤ l.length ∧ y ≤ 7000 ∧ iv = .int .i64 k ∧ nv = .int .i64 y ∧ Hid (y = 2 + D.wide (l.take k))) (fun _ iv => l.length - (intOf iv).toNat)
      case atStart => exact ⟨0, 2, Nat.zero_le _, by omega, rfl, rfl, rfl⟩
      case round =>
        obtain ⟨k, y, hk, hy, rfl, rfl, HY⟩ := hrel
        by_cases hlt : k < l.length
        · obtain ⟨b, off, rfl, hb, hc⟩ := ho (by omega)
          obtain ⟨x, hx⟩ : ∃ x, l[k]? = some x := ⟨l[k], List.getElem?_eq_getElem hlt⟩
          have c1 := hc k x hx
          have hx32 := (D.may_size (unhide HM) x (List.mem_of_getElem? hx)).2
          have hst := D.wide_take hx
          have hle : D.wide (l.take (k + 1)) ≤ D.wide l := by
            unfold D.wide
            have e : l.map (fun x : ByteArray => x.size + 2) = (l.take (k + 1)).map (fun x => x.size + 2) ++ (l.drop (k + 1)).map (fun x => x.size + 2) := by
              rw [← List.map_append, List.take_append_drop]
            rw [e, List.sum_append]
            omega
          have hy2 : y + x.size + 2 ≤ 7000 := by have := unhide HY; have := unhide HW32; omega
          have HS : Hid (y + x.size + 2 = 2 + D.wide (l.take (k + 1))) := by show _ = _; have := unhide HY; omega
          clear hx hc ho hst hle
          go_wp2
          go_round
          case rel => exact ⟨k + 1, y + x.size + 2, by omega, hy2, by go_num, by go_num, unhide HS⟩
          case measure => simp [intOf]; omega
        · have hye : y = 2 + D.wide l := by have := unhide HY; rwa [List.take_of_length_le (by omega)] at this
          have hp1 := unhide HPL
          have g1 : ¬ (y : Int) < (p.length : Int) := by omega
          have g2 : ¬ (p.length : Int) < 1 + 2 * (l.length : Int) := by omega
          have HCU : Hid (∀ k, k < p.length → D.unR (p.take k) = ([], 5)) := fun k hk => by
            rw [← unhide HP] at hk ⊢
            exact D.unR_cut (unhide HM) hk (D.pack_byt l)
          clear hye hp1 ho HY
          by_cases h0 : cut < 0
          · go_wp2
            go_ret
            exact ⟨rfl, BB4⟩
          · by_cases h1 : (p.length : Int) ≤ cut
            · go_wp2
              go_ret
              exact ⟨rfl, BB4⟩
            · obtain ⟨cn, rfl⟩ := Int.eq_ofNat_of_zero_le (show 0 ≤ cut by omega)
              have hsl := run_by_to a4 p.length c4 cn (by have := S4.cap_le; omega)
              have ST := S4.cut 0 cn (by omega) (by omega)
              rw [List.drop_zero, Nat.sub_zero] at ST
              obtain ⟨cv, hcv⟩ : ∃ cv, sliced a4 0 cn c4 1 = cv := ⟨_, rfl⟩
              rw [hcv] at ST
              simp only [hcv] at hsl
              have hcb : V.Byt (p.take cn) := hpb.take cn
              have HU := hide (unhide HCU cn (by omega))
              obtain ⟨q, hq⟩ : ∃ q, p.take cn = q := ⟨_, rfl⟩
              rw [hq] at ST hcb HU
              clear hq
              go_wp2_with fail
              refine (unpack_b _ q _ ST hcb [] 5 (unhide HU)).mono ?_
              rintro e w5 ⟨a5, c5, rfl, G5, B5⟩
              have BB5 := below_trans' BB4 B5
              go_wp2
              go_ret
              exact ⟨rfl, BB5⟩
end Go.Proofs.Ytgiefkeophobhaa
