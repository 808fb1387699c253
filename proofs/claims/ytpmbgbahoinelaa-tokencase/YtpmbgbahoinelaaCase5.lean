/-
  TokenCase's walk.
-/
import Derived.Test.YtpmbgbahoinelaaAwake5
import Derived.Deep.RegionHeld3
namespace Go.Proofs.Ytpmbgbahoinelaa
open Go.RowKit

/-- A region that draws its order, and calls what makes memory, but answers the same in every world that has grown: walked once, in the order of the text. -/
theorem region_below {P : Program} {id : Nat} {Q : Exit → Act → World → Prop} {a : Act} {w : World} {l : List Oper} (hm : P.follows .mixedOrders = true) (hB : Region.lexB .any l.toArray = true)
    (h : wpQuiet P l.toArray (fun w' => Below w.heap.size w w') (fun a' => ∀ w', Below w.heap.size w w' → Q .normal a' w') l a) : (Code.region id l.toArray true).wp P Q a w :=
  wp_region_quiet (C := fun w' => Below w.heap.size w w') hm hB (Below.refl w.heap.size w).drew (by simpa using h)

theorem Try.info5 : (Try.prog.info? 5).map (fun i => (i.zero, i.size, i.bytes)) = some (some (.int .u8 0), 1, 1) := by kernel_rfl

/-- 'string(b)'. -/
theorem Try.conv_bytes (w : World) (v : Value) (l : List UInt8) (h : Sl .u8 w v (l.map (fun b => (b.toNat : Int)))) : (convert 36 9 v).run Try.prog w = .ok (.string ⟨l.toArray⟩) w := by
  obtain ⟨a, cap, rfl, hl, hm, hn, hc⟩ := h
  rw [List.length_map] at hl hc ⊢
  cases a with
  | none =>
    have : l = [] := List.eq_nil_of_length_eq_zero (by have := hn rfl; omega)
    subst this
    rw [run_convert_bytes_string w 36 9 5 _ _ _ Try.underlying36 Try.underlying5 Try.underlying9]
    rfl
  | some a =>
    refine run_convert_bytes_back w 36 9 5 a cap l Try.underlying36 Try.underlying5 Try.underlying9 (fun j hj => ?_)
    rw [hc a rfl j hj]
    simp [List.getD, hj]

/-- What the loop has gathered. -/
def ups (s : ByteArray) (k : Nat) : List Int := ((T.bs s).take k).map (fun b => ((T.up b).toNat : Int))
theorem ups_step {s : ByteArray} {k : Nat} {b : UInt8} {y : Int} (h : (T.bs s).drop k = b :: (T.bs s).drop (k + 1)) (hy : ((T.up b).toNat : Int) = y) : ups s (k + 1) = ups s k ++ [y] := by
  unfold ups
  have hk : k < (T.bs s).length := by
    have := congrArg List.length h
    simp at this
    omega
  rw [List.take_succ_eq_append_getElem hk, List.map_append, List.map_singleton]
  have : (T.bs s)[k] = b := by
    have h2 := List.drop_eq_getElem_cons hk
    rw [h] at h2
    exact (List.cons.inj h2).1.symm
  rw [this, hy]
theorem ups_all {s : ByteArray} {k : Nat} (h : ¬ k < s.size) : ups s k = ((T.bs s).map T.up).map (fun b => (b.toNat : Int)) := by
  unfold ups
  rw [List.take_of_length_le (by rw [bs_len]; omega), List.map_map]
  rfl

set_option maxRecDepth 1000000 in
set_option maxHeartbeats 4000000 in
theorem tokenCase_walk (s : ByteArray) (w : World) :
    Calls Try.prog 7 #[.string s] w fun e w' => e = .returned (.bool true) ∧ Below w.heap.size w w' := by
  obtain ⟨i5, hi5, hz50, hz51, hz52⟩ := info_parts Try.info5
  go_enter Try.func7, Try.ntmps7
  go_wp2_with fail
  refine (awake5_any _).mono ?_
  rintro e w1 ⟨rfl, B1⟩
  by_cases h5 : (500 : Int) < (s.size : Int)
  · go_wp2
    go_ret
    exact ⟨rfl, B1⟩
  go_wp2
  go_loopw [4, 5] (fun vb vi wr => ∃ (k : Nat) (zs : List Int), k ≤ s.size ∧ vi = .int .i64 k ∧ wr.ownsRow w1.heap.size 5 1 vb zs.length (zs.map (Value.int .u8)) ∧ Below w1.heap.size w1 wr ∧ zs.length ≤ k ∧ Hid (ups s k = zs)) (fun _ vi _ => s.size - (intOf vi).toNat)
  case atStart => exact ⟨0, [], Nat.zero_le _, rfl, World.ownsRow_nil _ _ _ _, Below.refl _ _, Nat.le_refl _, rfl⟩
  case round =>
    obtain ⟨k, zs, hk, rfl, ho, hbr, hzl, HZ⟩ := hrel
    by_cases hlt : k < s.size
    · obtain ⟨b, hdb, hbb⟩ := drop_at hlt
      have hix : ∀ w : World, (Instr.index 9 (.string s) (.int .i64 (k : Int))).run Try.prog w = .ok (.int .u8 (b.toNat : Int)) w := fun w => Try.index_string s k hlt w _ rfl _ hbb
      have hup := T.up_toNat b
      obtain ⟨y, hy⟩ : ∃ y, ((T.up b).toNat : Int) = y := ⟨_, rfl⟩
      have hst := ups_step hdb hy
      rw [unhide HZ] at hst
      obtain ⟨bn, hbn⟩ : ∃ bn, b.toNat = bn := ⟨_, rfl⟩
      have hb8 : bn < 256 := by rw [← hbn]; exact b.toNat_lt
      rw [hbn] at hix hup
      have HS := hide hst
      by_cases hc : 97 ≤ bn ∧ bn ≤ 122
      · rw [if_pos hc] at hup
        have hy2 : (bn : Int) - 97 + 65 = y := by omega
        subst hy2
        have g1 : (97 : Int) ≤ (bn : Int) := by omega
        have g2 : (bn : Int) ≤ 122 := by omega
        clear hst hdb hbb hup hbn hy hc
        go_wp2_with (at_builtin; refine append_one rfl _ _ 36 rfl Try.underlying36 hi5 hz50 hz51 hz52 rfl (pre := zs) rfl rfl ho hbr hbr.size (by omega) (by decide) ?_; intro v3 w3 hown3 hbr3)
        go_roundw
        case rel => exact ⟨k + 1, _, by omega, by go_num, hown3, hbr3, by simp; omega, unhide HS⟩
        case measure => simp [intOf]; omega
      · rw [if_neg hc] at hup
        have hy2 : (bn : Int) = y := by omega
        subst hy2
        have hd : (97 : Int) ≤ (bn : Int) ∧ ¬ (bn : Int) ≤ 122 ∨ ¬ (97 : Int) ≤ (bn : Int) := by omega
        clear hst hdb hbb hup hbn hy hc
        rcases hd with ⟨g1, g2⟩ | g1
        · go_wp2_with (at_builtin; refine append_one rfl _ _ 36 rfl Try.underlying36 hi5 hz50 hz51 hz52 rfl (pre := zs) rfl rfl ho hbr hbr.size (by omega) (by decide) ?_; intro v3 w3 hown3 hbr3)
          go_roundw
          case rel => exact ⟨k + 1, _, by omega, by go_num, hown3, hbr3, by simp; omega, unhide HS⟩
          case measure => simp [intOf]; omega
        · go_wp2_with (at_builtin; refine append_one rfl _ _ 36 rfl Try.underlying36 hi5 hz50 hz51 hz52 rfl (pre := zs) rfl rfl ho hbr hbr.size (by omega) (by decide) ?_; intro v3 w3 hown3 hbr3)
          go_roundw
          case rel => exact ⟨k + 1, _, by omega, by go_num, hown3, hbr3, by simp; omega, unhide HS⟩
          case measure => simp [intOf]; omega
    · have hz := unhide HZ
      rw [ups_all hlt] at hz
      have S0 := Sl.owned ho
      rw [← hz] at S0
      clear hz HZ ho
      obtain ⟨m, n, hw⟩ : ∃ m n, T.wordsR s = (m, n) := ⟨_, _, rfl⟩
      obtain ⟨r, hr⟩ : ∃ r, T.valid (T.bs s) = r := ⟨_, rfl⟩
      have hw2 := wordsR_upB s
      have hr2 := valid_upB s
      obtain ⟨U, hU⟩ : ∃ U, upB s = U := ⟨_, rfl⟩
      have hcv0 : ∀ w' : World, Below wr.heap.size wr w' → (convert 36 9 u4).run Try.prog w' = .ok (.string U) w' := fun w' hb => by rw [← hU]; exact Try.conv_bytes w' _ _ (S0.below hb)
      rw [hU, hw] at hw2
      rw [hU, hr] at hr2
      have HW := hide hw
      have HR := hide hr
      have HW2 := hide hw2
      have HR2 := hide hr2
      have hnn : (n == n) = true := by simp
      have hrr : (r == r) = true := by simp
      have B2 := below_trans' B1 hbr
      obtain ⟨ab, cb, hv0, -⟩ := id S0
      obtain ⟨q, hq⟩ : ∃ q, (((T.bs s).map T.up).map (fun b => (b.toNat : Int))).length = q := ⟨_, rfl⟩
      rw [hq] at hv0
      subst hv0
      clear hq
      clear hw hr hw2 hr2 hU S0 B1
      go_wp2_with fail
      refine (words_any s _ m n (unhide HW)).mono ?_
      rintro e w4 ⟨v4, rfl, G4, hb4⟩
      have B4 := below_trans' B2 hb4
      obtain ⟨a4, c4, rfl, -⟩ := id G4
      have hcv4 := hcv0 w4 hb4
      clear B2
      go_wp2_with fail
      refine (words_any U _ m n (unhide HW2)).mono ?_
      rintro e w5 ⟨v5, rfl, G5, hb5⟩
      have B5 := below_trans' B4 hb5
      have hb45 := below_trans' hb4 hb5
      have G4 := G4.below hb5
      obtain ⟨a5, c5, rfl, -⟩ := id G5
      clear B4 hb4 hb5 hcv4
      go_wp2_with fail
      refine (texts_any _ _ m _ G4 G5).mono ?_
      rintro e w6 ⟨rfl, hb6⟩
      have B6 := below_trans' B5 hb6
      have hb46 := below_trans' hb45 hb6
      have hcv : ∀ w' : World, Below w6.heap.size w6 w' → _ := fun w' hb => hcv0 w' (below_trans' hb46 hb)
      clear B5 hb6 hb45 hb46 G4 G5 hcv0 HW HW2
      go_wp2
      refine region_below (by kernel_rfl) (by kernel_rfl) ?_
      repeat
        (first
          | go_big_quiet_skip
          | (go_big_quiet_want; go_big_quiet_op
             first
               | go_big_quiet_on
               | (apply Exists.intro
                  refine ⟨fun w' hw' => ?_, ?_⟩
                  · first
                   | exact rfl
                   | (rw [hcv w' hw']; exact ⟨rfl, rfl⟩)
                   | (go_at_call_of 14 (Value.string s); exact (valid_any s _ r (unhide HR)).mono fun e w'' ⟨h1, h2⟩ => ⟨h1, below_trans' hw' h2⟩)
                   | (go_at_call_of 14 (Value.string U); exact (valid_any U _ r (unhide HR2)).mono fun e w'' ⟨h1, h2⟩ => ⟨h1, below_trans' hw' h2⟩)
                  go_big_quiet_on)))
      refine wpQuiet_nil ?_
      intro w9 hb9
      go_wp2
      go_ret
      exact ⟨rfl, below_trans' B6 hb9⟩
end Go.Proofs.Ytpmbgbahoinelaa
