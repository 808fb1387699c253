/-
  The contract of read, the program's: one word, by the one ahead of it.
-/
import Derived.Test.YtgiefkeophobhaaPack7
import Derived.Laws.BytesArg
namespace Go.Proofs.Ytgiefkeophobhaa
open Go.RowKit

namespace D
/-- One word, by the one ahead of it, and how many bytes it took. -/
def rd1 (a : ByteArray) (l : List Int) : Option (ByteArray × Nat) :=
  match V.getH 5 l with
  | none => none
  | some (s, k) =>
    match V.getH 5 (l.drop k) with
    | none => none
    | some (m, j) => if (a.size : Int) < s ∨ (((l.drop k).drop j).length : Int) < m then none else some (mk a s.toNat (((l.drop k).drop j).take m.toNat), k + j + m.toNat)

theorem dec_rd1 (n : Nat) (a : ByteArray) (l : List Int) : dec (n + 1) a l = match rd1 a l with | none => none | some (x, q) => (dec n x (l.drop q)).map (x :: ·) := by
  rw [dec]
  unfold rd1
  cases V.getH 5 l with
  | none => rfl
  | some r =>
    obtain ⟨s, k⟩ := r
    simp only
    cases V.getH 5 (l.drop k) with
    | none => rfl
    | some r =>
      obtain ⟨m, j⟩ := r
      simp only
      split
      · rfl
      · simp [List.drop_drop]

/-- What read tells. -/
def readR (a : ByteArray) (l : List Int) (p : Nat) : ByteArray × Int × Bool :=
  match rd1 a (l.drop p) with
  | none => (⟨#[]⟩, 0, false)
  | some (x, q) => if 32 < x.size then (⟨#[]⟩, 0, false) else (x, (p : Int) + (q : Int), true)
end D

theorem Sl.cut {k : IntKind} {w : World} {a : Option Addr} {cap : Nat} {L : List Int} (h : Sl k w (.slice a L.length cap) L) (lo hi : Nat) (h1 : lo ≤ hi) (h2 : hi ≤ L.length) :
    Sl k w (sliced a lo hi cap 1) ((L.drop lo).take (hi - lo)) := by
  obtain ⟨a', cap', hv, hl, hmx, hn, hc⟩ := h
  simp only [Value.slice.injEq, true_and] at hv
  obtain ⟨rfl, rfl⟩ := hv
  have hlen : ((L.drop lo).take (hi - lo)).length = hi - lo := by simp; omega
  refine ⟨_, cap - lo, by simp only [sliced, hlen]; rfl, by omega, by unfold maxLen at *; omega, ?_, ?_⟩
  · intro h
    split at h
    · have := hn h; omega
    · simp at h; have := hn h; omega
  · intro x hx i hi0
    have hi' : i < hi - lo := by omega
    rw [if_neg (by omega)] at hx
    cases a with
    | none => simp at hx
    | some y =>
      have h0 := hc y rfl (lo + i) (by omega)
      obtain ⟨b, off, spot⟩ := y
      have z0 := hc _ rfl 0 (by omega)
      have hsp : spot = none := by simpa [Addr.add] using World.cell?_spot z0
      subst hsp
      simp [Addr.add_lit] at hx
      subst hx
      simp only [Addr.add_lit] at h0 ⊢
      rw [show off + lo + i = off + (lo + i) by omega, h0]
      simp [List.getD, hi']

theorem run_by_within (a : Option Addr) (n cap lo hi : Nat) (L H : Int) (hL : L = lo) (hH : H = hi) (h1 : lo ≤ hi) (h2 : hi ≤ cap) (w : World) :
    (Instr.slice 32 (.slice a n cap) (some (.int .i64 L)) (some (.int .i64 H)) none).run Try.prog w = .ok (sliced a lo hi cap 1) w := by
  subst hL hH
  have hs : ∀ w : World, (sizeOf (Try.prog.elem 32)).run Try.prog w = .ok 1 w := fun w => by kernel_rfl
  rw [run_slice_lh w 32 _ n cap (by kernel_rfl) .i64 .i64 lo hi (by omega) (by omega) (by omega), hs]
  simp [Result.andThen]

theorem Try.conv_str (w : World) (v : Value) (l : List Int) (h : Sl .u8 w v l) : (convert 32 9 v).run Try.prog w = .ok (.string (strOfNums l)) w := by
  obtain ⟨a, cap, rfl, hl, hm, hna, ho⟩ := h.open
  by_cases h0 : 0 < l.length
  · obtain ⟨b, off, rfl, -, hc⟩ := ho h0
    exact run_convert_bytes_arg w 32 5 Try.underlying32 Try.underlying5 b off _ cap l rfl hc 9 Try.underlying9
  · obtain rfl : l = [] := List.eq_nil_of_length_eq_zero (by omega)
    show (convert 32 9 (.slice a 0 cap)).run Try.prog w = _
    rw [run_convert_bytes_string w 32 9 5 a 0 cap Try.underlying32 Try.underlying5 Try.underlying9]
    cases a with
    | none => rfl
    | some x => simp [Conv.bytesToString, loadCells]; rfl

theorem get_w (v : Value) (l : List Int) (x : Int) (w : World) (h : Sl .u8 w v l) (hb : V.Byt l) (r1 r2 r3 : Int) (hr : V.get l x = (r1, r2, r3)) :
    Calls Try.prog 32 #[v, .int .i64 x] w fun e w' => e = .returned (.tuple #[.int .i64 r1, .int .i64 r2, .int .i64 r3]) ∧ w' = w :=
  (get_any v l x w h hb).mono fun e w' ⟨h1, h2⟩ => ⟨by rw [h1, hr], h2⟩

theorem get_step {l : List Int} {p k : Nat} {s : Int} (hp : p ≤ l.length) (hb : V.Byt l) (h : V.getH 5 (l.drop p) = some (s, k)) :
    ∃ sn q : Nat, s = (sn : Int) ∧ q = p + k ∧ q ≤ l.length ∧ sn ≤ 34359738367 ∧ V.get l (p : Int) = ((sn : Int), (q : Int), 0) := by
  obtain ⟨-, h2, h3, -, h5⟩ := V.put_getH (hb.drop p) h
  have h4 := get_some hp h
  rw [List.length_drop] at h5
  unfold V.Top at h3
  refine ⟨s.toNat, p + k, by omega, rfl, by omega, by omega, ?_⟩
  rw [h4, show ((s.toNat : Nat) : Int) = s by omega]
  simp

theorem run_str_to (a : ByteArray) (s : Nat) (h : s ≤ a.size) (w : World) : (Instr.slice 9 (.string a) none (some (.int .i64 (s : Int))) none).run Try.prog w = .ok (.string (a.extract 0 s)) w := by
  rw [run_slice_string_h w 9 a (by kernel_rfl) .i64 (s : Int) (by omega) (by omega)]
  simp

set_option maxHeartbeats 4000000 in
theorem read_any (v : Value) (l : List Int) (p : Nat) (a : ByteArray) (w : World) (h : Sl .u8 w v l) (hb : V.Byt l) (hp : p ≤ l.length) (ha : a.size ≤ 32) (x : ByteArray) (q : Int) (r : Bool) (hr : D.readR a l p = (x, q, r)) :
    Calls Try.prog 33 #[v, .int .i64 (p : Int), .string a] w fun e w' => e = .returned (.tuple #[.string x, .int .i64 q, .bool r]) ∧ Below w.heap.size w w' := by
  obtain ⟨ad, cap, hv, hl, hm, hna, -⟩ := h.open
  unfold D.readR D.rd1 at hr
  cases h1 : V.getH 5 (l.drop p) with
  | none =>
    rw [h1] at hr
    cases hr
    have HG := hide (get_none hp h1)
    subst hv
    go_enter Try.func33, Try.ntmps33
    go_wp2_with fail
    refine (get_w _ l _ _ h hb _ _ _ (unhide HG)).mono ?_
    rintro e w1 ⟨rfl, rfl⟩
    go_wp2
    go_ret3
    exact ⟨rfl, Below.refl _ _⟩
  | some r1 =>
    obtain ⟨s, k⟩ := r1
    rw [h1] at hr
    obtain ⟨sn, q1, rfl, hq1, hq1l, hsn, hg1⟩ := get_step hp hb h1
    simp only [List.drop_drop] at hr
    rw [← hq1] at hr
    have HG1 := hide hg1
    have HQ1 := hide hq1
    clear h1 hg1 hq1
    by_cases hs : a.size < sn
    · have g1 : (a.size : Int) < (sn : Int) := by omega
      have hr2 : (x, q, r) = ((⟨#[]⟩ : ByteArray), (0 : Int), false) := by
        rw [← hr]
        cases V.getH 5 (l.drop q1) with
        | none => rfl
        | some r2 =>
          simp only
          rw [if_pos (.inl g1)]
      cases hr2
      clear hr
      subst hv
      go_enter Try.func33, Try.ntmps33
      go_wp2_with fail
      refine (get_w _ l _ _ h hb _ _ _ (unhide HG1)).mono ?_
      rintro e w1 ⟨rfl, rfl⟩
      go_wp2
      go_ret3
      exact ⟨rfl, Below.refl _ _⟩
    · have g1 : ¬ (a.size : Int) < (sn : Int) := by omega
      cases h2 : V.getH 5 (l.drop q1) with
      | none =>
        rw [h2] at hr
        cases hr
        have HG2 := hide (get_none hq1l h2)
        clear h2
        subst hv
        go_enter Try.func33, Try.ntmps33
        go_wp2_with fail
        refine (get_w _ l _ _ h hb _ _ _ (unhide HG1)).mono ?_
        rintro e w1 ⟨rfl, rfl⟩
        go_wp2_with fail
        refine (get_w _ l _ _ h hb _ _ _ (unhide HG2)).mono ?_
        rintro e w1 ⟨rfl, rfl⟩
        go_wp2
        go_ret3
        exact ⟨rfl, Below.refl _ _⟩
      | some r2 =>
        obtain ⟨m, j⟩ := r2
        rw [h2] at hr
        obtain ⟨mn, q2, rfl, hq2, hq2l, hmn, hg2⟩ := get_step hq1l hb h2
        simp only [List.length_drop] at hr
        have e1 : p + (k + j) = q2 := by have := unhide HQ1; omega
        rw [← hq2] at hr
        have HG2 := hide hg2
        clear h2 hg2
        by_cases hmm : (l.length : Int) - (q2 : Int) < (mn : Int)
        · have hr2 : (x, q, r) = ((⟨#[]⟩ : ByteArray), (0 : Int), false) := by
            rw [← hr, if_pos (.inr (by omega))]
          cases hr2
          clear hr hq2
          subst hv
          go_enter Try.func33, Try.ntmps33
          go_wp2_with fail
          refine (get_w _ l _ _ h hb _ _ _ (unhide HG1)).mono ?_
          rintro e w1 ⟨rfl, rfl⟩
          go_wp2_with fail
          refine (get_w _ l _ _ h hb _ _ _ (unhide HG2)).mono ?_
          rintro e w1 ⟨rfl, rfl⟩
          go_wp2
          go_ret3
          exact ⟨rfl, Below.refl _ _⟩
        · rw [if_neg (by omega)] at hr
          simp only [Int.toNat_natCast] at hr
          obtain ⟨X, hX⟩ : ∃ X, D.mk a sn ((l.drop q2).take mn) = X := ⟨_, rfl⟩
          have hXs := D.mk_size a ((l.drop q2).take mn) (show sn ≤ a.size by omega)
          rw [hX] at hr hXs
          rw [List.length_take, List.length_drop, Nat.min_eq_left (by omega)] at hXs
          by_cases h32 : (32 : Int) < (sn : Int) + (mn : Int)
          · rw [if_pos (by omega)] at hr
            cases hr
            clear hq2 hX hXs
            subst hv
            go_enter Try.func33, Try.ntmps33
            go_wp2_with fail
            refine (get_w _ l _ _ h hb _ _ _ (unhide HG1)).mono ?_
            rintro e w1 ⟨rfl, rfl⟩
            go_wp2_with fail
            refine (get_w _ l _ _ h hb _ _ _ (unhide HG2)).mono ?_
            rintro e w1 ⟨rfl, rfl⟩
            go_wp2
            go_ret3
            exact ⟨rfl, Below.refl _ _⟩
          · rw [if_neg (by omega)] at hr
            cases hr
            have HQ : Hid ((p : Int) + ((k + j + mn : Nat) : Int) = (q2 : Int) + (mn : Int)) := by show _ = _; omega
            subst hv
            have hst := run_str_to a sn (by omega)
            have hcut := h.cut q2 (q2 + mn) (by omega) (by omega)
            rw [Nat.add_sub_cancel_left] at hcut
            have hsb := run_by_within ad l.length cap q2 (q2 + mn) (q2 : Int) ((q2 : Int) + (mn : Int)) rfl (by omega) (by omega) (by omega)
            have hsw := run_by_within ad l.length cap q2 (q2 + mn) (q2 : Int) (IntKind.i64.wrap ((q2 : Int) + (mn : Int))) rfl (by rw [IntKind.wrap_i64]; omega) (by omega) (by omega)
            obtain ⟨cv, hcv0⟩ : ∃ cv, sliced ad q2 (q2 + mn) cap 1 = cv := ⟨_, rfl⟩
            rw [hcv0] at hcut
            simp only [hcv0] at hsb hsw
            have hcs : (convert 32 9 cv).run Try.prog w.drew = .ok (.string (strOfNums ((l.drop q2).take mn))) w.drew := Try.conv_str _ _ _ (hcut.drewN 1)
            have hadd : ∀ w : World, (Op.stringOp .add (a.extract 0 sn) (strOfNums ((l.drop q2).take mn))).run Try.prog w = .ok (.string x) w := fun w => by
              rw [run_string_add_sum w _ _ (by
                have := congrArg ByteArray.size hX
                unfold D.mk at this
                rw [ByteArray.size_append] at this
                omega), ← hX]
              rfl
            obtain ⟨S1, hS1⟩ : ∃ S, a.extract 0 sn = S := ⟨_, rfl⟩
            obtain ⟨S2, hS2⟩ : ∃ S, strOfNums ((l.drop q2).take mn) = S := ⟨_, rfl⟩
            simp only [hS1, hS2] at hadd hst hcs
            clear hcut hcv0 hS1 hS2 hX hXs hq2 e1 HQ1
            go_enter Try.func33, Try.ntmps33
            go_wp2_with fail
            refine (get_w _ l _ _ h hb _ _ _ (unhide HG1)).mono ?_
            rintro e w1 ⟨rfl, rfl⟩
            go_wp2_with fail
            refine (get_w _ l _ _ h hb _ _ _ (unhide HG2)).mono ?_
            rintro e w1 ⟨rfl, rfl⟩
            go_wp2
            go_region
            all_goals (try go_wp2)
            go_ret3
            exact ⟨by rw [unhide HQ]; rfl, below_dr (Below.refl _ _) 1⟩
end Go.Proofs.Ytgiefkeophobhaa
