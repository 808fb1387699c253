/-
  DictTells', DictOrs' and DictPacks' walks.
-/
import Derived.Test.YtgiefkeophobhaaAwake7
namespace Go.Proofs.Ytgiefkeophobhaa
open Go.RowKit

theorem few_max {l : List ByteArray} (h : D.few l = true) : ∀ x ∈ l, x.size ≤ maxLen := fun x hx => by have := D.few_size h x hx; unfold maxLen; omega

set_option maxHeartbeats 4000000 in
theorem dictTells_walk (v : Value) (l : List ByteArray) (t : ByteArray) (w : World) (h : Gl .string w v l) :
    Calls Try.prog 3 #[v, .string t] w fun e w' => e = .returned (.bool true) ∧ Below w.heap.size w w' := by
  obtain ⟨a, c, rfl, -⟩ := id h
  obtain ⟨f, hf⟩ : ∃ f, D.few l = f := ⟨_, rfl⟩
  obtain ⟨m, hmy⟩ : ∃ m, D.may l = m := ⟨_, rfl⟩
  obtain ⟨p, hp⟩ : ∃ p, D.findR l t = p := ⟨_, rfl⟩
  obtain ⟨q, hq⟩ : ∃ q, D.belR l t = q := ⟨_, rfl⟩
  have HF := hide hf
  have HM := hide hmy
  have HP := hide hp
  have HQ := hide hq
  have hmm : (m == m) = true := by simp
  have hpp : (p == p) = true := by simp
  have hqq : (q == q) = true := by simp
  clear hf hmy hp hq
  go_enter Try.func3, Try.ntmps3
  go_wp2_with fail
  refine (awake_any _).mono ?_
  rintro e w1 ⟨rfl, B1⟩
  have G1 := h.below B1
  go_wp2_with fail
  refine (few_any _ l _ G1 f (unhide HF)).mono ?_
  rintro e w2 ⟨rfl, rfl⟩
  cases f with
  | false =>
    go_wp2
    go_ret
    exact ⟨rfl, B1⟩
  | true =>
    have hz := few_max (unhide HF)
    by_cases h4 : (40 : Int) < (t.size : Int)
    · go_wp2
      go_ret
      exact ⟨rfl, B1⟩
    · go_wp2_with fail
      refine (may_any _ l _ G1 m (unhide HM)).mono ?_
      rintro e w3 ⟨rfl, rfl⟩
      go_wp2_with fail
      refine (rmay_any _ l _ G1 hz m (unhide HM)).mono ?_
      rintro e w4 ⟨rfl, B4⟩
      have BB4 := below_trans' B1 B4
      have G4 := G1.below B4
      clear B4 G1 B1
      go_wp2_with fail
      refine (find_any _ l t _ G4 p (unhide HP)).mono ?_
      rintro e w5 ⟨rfl, rfl⟩
      go_wp2_with fail
      refine (rfind_any _ l t _ G4 hz p (unhide HP)).mono ?_
      rintro e w6 ⟨rfl, B6⟩
      have BB6 := below_trans' BB4 B6
      have G6 := G4.below B6
      clear B6 G4 BB4
      go_wp2_with fail
      refine (bel_any _ l t _ G6 q (unhide HQ)).mono ?_
      rintro e w7 ⟨rfl, rfl⟩
      go_wp2_with fail
      refine (rbel_any _ l t _ G6 hz q (unhide HQ)).mono ?_
      rintro e w8 ⟨rfl, B8⟩
      have BB8 := below_trans' BB6 B8
      go_wp2
      go_ret
      exact ⟨rfl, BB8⟩

set_option maxHeartbeats 4000000 in
theorem dictOrs_walk (v : Value) (ls : List (List ByteArray)) (w : World) (h : Ll w v ls) :
    Calls Try.prog 4 #[v] w fun e w' => e = .returned (.bool true) ∧ Below w.heap.size w w' := by
  obtain ⟨a, cap, hv, -, hm, -⟩ := h.at
  subst hv
  obtain ⟨z, hz⟩ : ∃ z, D.orR ls = z := ⟨_, rfl⟩
  have HZ := hide hz
  clear hz
  go_enter Try.func4, Try.ntmps4
  go_wp2_with fail
  refine (awake_any _).mono ?_
  rintro e w1 ⟨rfl, B1⟩
  have H1 := h.below B1
  by_cases h4 : (4 : Int) < (ls.length : Int)
  · go_wp2
    go_ret
    exact ⟨rfl, B1⟩
  · obtain ⟨a', cap', hv', -, -, ho⟩ := H1.at
    simp only [Value.slice.injEq, true_and] at hv'
    obtain ⟨rfl, rfl⟩ := hv'
    go_wp2
    go_loop [4] (fun iv => ∃ k : Nat, k ≤ ls.length ∧ iv = .int .i64 k ∧ Hid (∀ j l, j < k → ls[j]? = some l → D.few l = true)) (fun iv => ls.length - (intOf iv).toNat)
    case atStart => exact ⟨0, Nat.zero_le _, rfl, fun j l hj => by omega⟩
    case round =>
      obtain ⟨k, hk, rfl, HK⟩ := hrel
      by_cases hlt : k < ls.length
      · obtain ⟨b, off, rfl, hb, hc⟩ := ho (by omega)
        obtain ⟨l, hx⟩ : ∃ l, ls[k]? = some l := ⟨ls[k], List.getElem?_eq_getElem hlt⟩
        obtain ⟨x, c, c1, G1⟩ := hc k l hx
        obtain ⟨f, hf⟩ : ∃ f, D.few l = f := ⟨_, rfl⟩
        have HF := hide hf
        have HX := hide hx
        clear hx hc ho hf
        go_wp2_with fail
        refine (few_any _ l _ G1 f (unhide HF)).mono ?_
        rintro e w2 ⟨rfl, rfl⟩
        cases f with
        | false =>
          go_wp2
          go_ret
          exact ⟨rfl, B1⟩
        | true =>
          go_wp2
          go_round
          case rel =>
            refine ⟨k + 1, by omega, by go_num, fun j l' hj hl' => ?_⟩
            by_cases e : j = k
            · subst e
              rw [unhide HX] at hl'
              cases hl'
              exact unhide HF
            · exact unhide HK j l' (by omega) hl'
          case measure => simp [intOf]; omega
      · have hfw : ∀ l ∈ ls, D.few l = true := fun l hl => by
          obtain ⟨j, hj, rfl⟩ := List.mem_iff_getElem.1 hl
          exact unhide HK j _ (by omega) (List.getElem?_eq_getElem hj)
        have HFW := hide hfw
        clear hfw ho HK
        go_wp2_with fail
        refine (or_b _ ls _ H1 (by omega) z (unhide HZ)).mono ?_
        rintro e w2 ⟨a2, c2, rfl, G2, B2⟩
        have BB2 := below_trans' B1 B2
        have H2 := H1.below B2
        clear B1 B2 H1
        go_wp2_with fail
        refine (ror_b _ ls _ H2 (by omega) (unhide HFW) z (unhide HZ)).mono ?_
        rintro e w3 ⟨a3, c3, rfl, G3, B3⟩
        have BB3 := below_trans' BB2 B3
        have GG := G2.below B3
        clear BB2 B3 H2 G2
        go_wp2_with fail
        refine (texts_any _ _ z z _ GG G3 true (by simp)).mono ?_
        rintro e w4 ⟨rfl, B4⟩
        have BB4 := below_trans' BB3 B4
        go_wp2
        go_ret
        exact ⟨rfl, BB4⟩

set_option maxHeartbeats 4000000 in
theorem dictPacks_walk (v u : Value) (l : List ByteArray) (b : List Int) (w : World) (h : Gl .string w v l) (hs : Sl .u8 w u b) (hb : V.Byt b) :
    Calls Try.prog 5 #[v, u] w fun e w' => e = .returned (.bool true) ∧ Below w.heap.size w w' := by
  obtain ⟨a, c, rfl, -⟩ := id h
  obtain ⟨ua, uc, rfl, -, hm, -⟩ := hs.open
  obtain ⟨f, hf⟩ : ∃ f, D.few l = f := ⟨_, rfl⟩
  obtain ⟨z, n, hz⟩ : ∃ z n, D.unR b = (z, n) := ⟨_, _, rfl⟩
  obtain ⟨p, hp⟩ : ∃ p, D.pack l = p := ⟨_, rfl⟩
  have HF := hide hf
  have HZ := hide hz
  have HP := hide hp
  have hnn : (n == n) = true := by simp
  clear hf hz hp
  go_enter Try.func5, Try.ntmps5
  go_wp2_with fail
  refine (awake_any _).mono ?_
  rintro e w1 ⟨rfl, B1⟩
  have G1 := h.below B1
  have S1 := hs.below B1
  go_wp2_with fail
  refine (few_any _ l _ G1 f (unhide HF)).mono ?_
  rintro e w2 ⟨rfl, rfl⟩
  cases f with
  | false =>
    go_wp2
    go_ret
    exact ⟨rfl, B1⟩
  | true =>
    have hx := few_max (unhide HF)
    by_cases h3 : (3000 : Int) < (b.length : Int)
    · go_wp2
      go_ret
      exact ⟨rfl, B1⟩
    · go_wp2_with fail
      refine (unpack_b _ b _ S1 hb z n (unhide HZ)).mono ?_
      rintro e w3 ⟨a3, c3, rfl, G3, B3⟩
      have BB3 := below_trans' B1 B3
      have GL := G1.below B3
      have S3 := S1.below B3
      clear G1 S1 B1 B3
      go_wp2_with fail
      refine (runpack_b _ b _ S3 hb (by omega) z n (unhide HZ)).mono ?_
      rintro e w4 ⟨a4, c4, rfl, G4, B4⟩
      have BB4 := below_trans' BB3 B4
      have GL := GL.below B4
      have G3 := G3.below B4
      clear S3 BB3 B4
      go_wp2_with fail
      refine (texts_any _ _ z z _ G3 G4 true (by simp)).mono ?_
      rintro e w5 ⟨rfl, B5⟩
      have BB5 := below_trans' BB4 B5
      have GL := GL.below B5
      clear G3 G4 BB4 B5
      go_wp2_with fail
      refine (pack_b _ l _ GL p (unhide HP)).mono ?_
      rintro e w6 ⟨a6, c6, rfl, S6, B6⟩
      have BB6 := below_trans' BB5 B6
      have GL := GL.below B6
      clear BB5 B6
      go_wp2_with fail
      refine (rpack_b _ l _ GL hx p (unhide HP)).mono ?_
      rintro e w7 ⟨a7, c7, rfl, S7, B7⟩
      have BB7 := below_trans' BB6 B7
      have S6 := S6.below B7
      clear BB6 B7 GL
      go_wp2_with fail
      refine (bytes_b _ _ p p _ S6 S7 true (by simp)).mono ?_
      rintro e w8 ⟨rfl, B8⟩
      have BB8 := below_trans' BB7 B8
      go_wp2
      go_ret
      exact ⟨rfl, BB8⟩
end Go.Proofs.Ytgiefkeophobhaa
