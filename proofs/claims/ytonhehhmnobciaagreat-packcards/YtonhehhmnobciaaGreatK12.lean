/-
  Texts put together: RRead7, Unpack7.
-/
import Derived.Test.YtonhehhmnobciaaGreatK10
import Derived.Test.YtonhehhmnobciaaGreatK08
import Derived.Test.YtonhehhmnobciaaGreatK07
import Derived.WalkMore
import Derived.ScopeJumps
/-
  The contract of the document's own read.
-/
namespace Go.Proofs.YtonhehhmnobciaaGreat
set_option maxRecDepth 100000
open Go.RowKit


namespace D
/-- The words that bytes would have. -/
def rdR (l : List Int) : Option (List ByteArray) :=
  match V.getH 5 l with
  | none => none
  | some (n, k) => if 200 < n then none else dec n.toNat ⟨#[]⟩ (l.drop k)

theorem unR_rd (l : List Int) : unR l = match rdR l with | none => ([], 5) | some zs => if pack zs = l then (zs, 0) else ([], 5) := by
  unfold unR rdR
  cases V.getH 5 l with
  | none => rfl
  | some r =>
    obtain ⟨n, k⟩ := r
    simp only
    split
    · rfl
    · rfl

/-- What has been read, and what is still to come. -/
theorem dec_step {n k p q : Nat} {a x : ByteArray} {l : List Int} {out : List ByteArray} {R : Option (List ByteArray)} (hk : k < n) (h : (dec (n - k) a (l.drop p)).map (out ++ ·) = R) (hr : rd1 a (l.drop p) = some (x, q)) :
    (dec (n - (k + 1)) x (l.drop (p + q))).map ((out ++ [x]) ++ ·) = R := by
  rw [show n - k = n - (k + 1) + 1 by omega, dec_rd1, hr] at h
  simp only [List.drop_drop] at h
  rw [← h]
  cases dec (n - (k + 1)) x (l.drop (p + q)) with
  | none => rfl
  | some zs => simp
theorem dec_stop {n k p : Nat} {a : ByteArray} {l : List Int} {out : List ByteArray} {R : Option (List ByteArray)} (hk : k < n) (h : (dec (n - k) a (l.drop p)).map (out ++ ·) = R) (hr : rd1 a (l.drop p) = none) : R = none := by
  rw [show n - k = n - (k + 1) + 1 by omega, dec_rd1, hr] at h
  exact h.symm
theorem dec_done {n k p : Nat} {a : ByteArray} {l : List Int} {out : List ByteArray} {R : Option (List ByteArray)} (hk : n ≤ k) (h : (dec (n - k) a (l.drop p)).map (out ++ ·) = R) : R = some out := by
  rw [show n - k = 0 by omega, dec] at h
  rw [← h]
  simp
end D

theorem own_dr7 {w : World} {B : Nat} {e : TypeId} {size : Nat} {v : Value} {n : Nat} {xs : List Value} (h : w.ownsRow B e size v n xs) (q : Nat) : (w.drewN q).ownsRow B e size v n xs := h

end Go.Proofs.YtonhehhmnobciaaGreat

/-
  The contract of Unpack, the program's (the next word is come to by a goto).
-/
namespace Go.Proofs.YtonhehhmnobciaaGreat
set_option maxRecDepth 100000
open Go.RowKit

/-- A scope in which the run jumps back to one label: what is walked from the label on serves the first pass, too. -/
theorem wp_jumps {P : Program} {a : Act} {w : World} {Q : Exit → Act → World → Prop} {c R : Code} (l : Nat) (J : Act → World → Prop) (μ : Act → World → Nat) (hf : findLabel c l = some (Code.skip.seq R))
    (pass : ∀ a w, J a w → R.wp P (Exit.jump l (fun a' w' => J a' w' ∧ μ a' w' < μ a w) Q) a w)
    (first : (∀ a w, J a w → R.wp P (Exit.jump l J Q) a w) → c.wp P (Exit.jump l J Q) a w) : (Code.scope c).wp P Q a w := by
  refine wp_scope_jumps l J μ hf (first fun a w h => Code.wp_mono (fun e a w q => ?_) (pass a w h)) (fun a w h => wp_seq (wp_skip (pass a w h)))
  cases e with
  | goto l' => exact ⟨q.1, q.2.1⟩
  | _ => exact q

def sliceLen : Value → Nat
  | .slice _ n _ => n
  | _ => 0

theorem nums_inj7 {xs ys : List Int} (bx : V.Byt xs) (hy : V.Byt ys) : ((strOfNums xs).toList == (strOfNums ys).toList) = decide (xs = ys) := by
  rw [Lib.strOfNums_toList, Lib.strOfNums_toList]
  by_cases h : xs = ys
  · subst h; simp
  · rw [decide_eq_false h, beq_eq_false_iff_ne]
    intro e
    apply h
    have h2 := congrArg (List.map fun u : UInt8 => (u.toNat : Int)) e
    have back : ∀ zs : List Int, V.Byt zs → (Lib.bytesOf zs).map (fun u : UInt8 => (u.toNat : Int)) = zs := by
      intro zs hz
      simp only [Lib.bytesOf, List.map_map]
      conv => rhs; rw [← List.map_id zs]
      apply List.map_congr_left
      intro n hn
      have := hz n hn
      simp
      omega
    rwa [back xs bx, back ys hy] at h2

set_option maxHeartbeats 400000 in
theorem equal7_any (va vb : Value) (xs ys : List Int) (w : World) (ha : Sl .u8 w va xs) (hb : Sl .u8 w vb ys) (bx : V.Byt xs) (hy : V.Byt ys) (r : Bool) (hr : decide (xs = ys) = r) :
    Calls Tryz.prog 56 #[va, vb] w fun e w' => e = .returned (.bool r) ∧ w' = w := by
  have c1 := Tryz.conv_str7 w va xs ha
  have c2 := Tryz.conv_str7 w vb ys hb
  subst hr
  go_enter Tryz.func56, Tryz.ntmps56
  go_wp2
  go_ret
  exact ⟨by rw [← nums_inj7 bx hy]; rfl, rfl⟩

namespace D
theorem rd1_len {a x : ByteArray} {l : List Int} {q : Nat} (hb : V.Byt l) (h : rd1 a l = some (x, q)) : q ≤ l.length := by
  unfold rd1 at h
  cases h1 : V.getH 5 l with
  | none => rw [h1] at h; cases h
  | some r =>
    obtain ⟨s, k⟩ := r
    rw [h1] at h
    simp only at h
    have b1 := (V.put_getH hb h1).2.2.2.2
    cases h2 : V.getH 5 (l.drop k) with
    | none => rw [h2] at h; cases h
    | some r =>
      obtain ⟨m, j⟩ := r
      rw [h2] at h
      simp only at h
      obtain ⟨-, b2, -, -, b3⟩ := V.put_getH (hb.drop k) h2
      split at h
      · cases h
      · rename_i hc
        simp only [Option.some.injEq, Prod.mk.injEq] at h
        simp only [List.length_drop] at hc b3
        omega

theorem readR_true {a x : ByteArray} {l : List Int} {p : Nat} {q : Int} (hb : V.Byt l) (hp : p ≤ l.length) (h : readR a l p = (x, q, true)) : ∃ k, rd1 a (l.drop p) = some (x, k) ∧ q = ((p + k : Nat) : Int) ∧ p + k ≤ l.length ∧ x.size ≤ 32 := by
  unfold readR at h
  cases h1 : rd1 a (l.drop p) with
  | none => rw [h1] at h; cases h
  | some r =>
    obtain ⟨z, k⟩ := r
    rw [h1] at h
    simp only at h
    have hl := rd1_len (hb.drop p) h1
    rw [List.length_drop] at hl
    split at h
    · cases h
    · simp only [Prod.mk.injEq, and_true] at h
      obtain ⟨rfl, rfl⟩ := h
      exact ⟨k, rfl, by omega, by omega, by omega⟩

theorem big_out {l : List ByteArray} {x : ByteArray} (hx : x ∈ l) (h : 32 < x.size) : pack l = [] := by
  unfold pack
  rw [if_neg]
  intro hm
  have := (may_size hm x hx).2
  omega

theorem readR_false {a x : ByteArray} {l : List Int} {n p : Nat} {q : Int} {out : List ByteArray} (h : readR a l p = (x, q, false)) (hl : l ≠ []) (hk : out.length < n) (hd : (dec (n - out.length) a (l.drop p)).map (out ++ ·) = rdR l) : unR l = ([], 5) := by
  rw [unR_rd]
  unfold readR at h
  cases h1 : rd1 a (l.drop p) with
  | none => rw [dec_stop hk hd h1]
  | some r =>
    obtain ⟨z, k⟩ := r
    rw [h1] at h
    simp only at h
    split at h
    · rename_i hz
      rw [← dec_step hk hd h1]
      cases dec (n - (out.length + 1)) z (l.drop (p + k)) with
      | none => rfl
      | some zs =>
        simp only [Option.map_some]
        rw [big_out (x := z) (by simp) hz, if_neg (fun e => hl e.symm)]
    · simp only [Prod.mk.injEq] at h
      exact absurd h.2.2 (by decide)
end D

set_option maxRecDepth 100000 in
set_option maxHeartbeats 8000000 in
theorem dunpack_any (v : Value) (l : List Int) (w : World) (h : Sl .u8 w v l) (hb : V.Byt l) (zr : List ByteArray) (er : Int) (hr : D.unR l = (zr, er)) :
    Calls Tryz.prog 90 #[v] w fun e w' => ∃ v', e = .returned (.tuple #[v', .int .i64 er]) ∧ w'.ownsRow w.heap.size 9 1 v' zr.length (zr.map Value.string) ∧ Below w.heap.size w w' := by
  obtain ⟨i9, hi9, hz90, hz91, hz92⟩ := info_parts Tryz.infoS
  obtain ⟨ad, cap, hv, hl, hm, hna, -⟩ := h.open
  cases h1 : V.getH 5 l with
  | none =>
    have hr2 : (zr, er) = (([] : List ByteArray), (5 : Int)) := by rw [← hr]; unfold D.unR; rw [h1]
    cases hr2
    have HG := hide (get_none (l := l) (p := 0) (Nat.zero_le _) h1)
    clear h1 hr
    subst hv
    go_enter Tryz.func90, Tryz.ntmps90
    go_wp2
    go_step3
    go_wp2_with fail
    refine (get_w _ l _ _ h hb _ _ _ (unhide HG)).mono ?_
    rintro e w1 ⟨rfl, rfl⟩
    go_wp2
    try rw [Exit.noGoto_ret]
    go_ret2
    exact ⟨_, rfl, World.ownsRow_nil _ _ _ _, Below.refl _ _⟩
  | some r1 =>
    obtain ⟨s, p0⟩ := r1
    obtain ⟨n, q0, rfl, hq0, hq0l, hnt, hg1⟩ := get_step (l := l) (p := 0) (Nat.zero_le _) hb h1
    rw [Nat.zero_add] at hq0
    subst hq0
    have HG1 := hide hg1
    have HNE := hide (D.getH_ne h1)
    clear hg1
    by_cases hn : (200 : Int) < (n : Int)
    · have hr2 : (zr, er) = (([] : List ByteArray), (5 : Int)) := by rw [← hr]; unfold D.unR; rw [h1]; simp only; rw [if_pos hn]
      cases hr2
      clear h1 hr
      subst hv
      go_enter Tryz.func90, Tryz.ntmps90
      go_wp2
      go_step3
      go_wp2_with fail
      refine (get_w _ l _ _ h hb _ _ _ (unhide HG1)).mono ?_
      rintro e w1 ⟨rfl, rfl⟩
      go_wp2
      try rw [Exit.noGoto_ret]
      go_ret2
      exact ⟨_, rfl, World.ownsRow_nil _ _ _ _, Below.refl _ _⟩
    · have hrd : D.dec n ⟨#[]⟩ (l.drop q0) = D.rdR l := by
        unfold D.rdR
        rw [h1]
        simp only
        rw [if_neg hn, Int.toNat_natCast]
      have HRD := hide hrd
      have HR := hide hr
      clear h1 hr hrd
      subst hv
      go_enter Tryz.func90, Tryz.ntmps90
      go_wp2
      refine wp_jumps 0 (fun a' w' => ∃ (p m : Nat) (y : ByteArray) (out : List ByteArray) (la : Option Addr) (lc : Nat) (u1 u2 u3 u6 u9 u10 u11 u12 u13 u14 u15 u16 u17 u18 u19 u20 u21 u22 u23 u24 u25 u26 u27 u28 u29 u30 u31 u32 u33 u34 u35 u36 u37 u38 u39 u40 u41 u42 u43 u44 u45 u46 u47 u48 u49 : Value),
          a' = { tmps := #[.slice ad l.length cap, u1, u2, u3, .int .i64 (n : Int), .int .i64 (p : Int), u6, .slice la m lc, .string y, u9, u10, u11, u12, u13, u14, u15, u16, u17, u18, u19, u20, u21, u22, u23, u24, u25, u26, u27, u28, u29, u30, u31, u32, u33, u34, u35, u36, u37, u38, u39, u40, u41, u42, u43, u44, u45, u46, u47, u48, u49], defers := [] } ∧
          m = out.length ∧ p ≤ l.length ∧ y.size ≤ 32 ∧ out.length ≤ n ∧ w'.ownsRow w.heap.size 9 1 (.slice la m lc) out.length (out.map Value.string) ∧ Below w.heap.size w w' ∧ Hid ((D.dec (n - out.length) y (l.drop p)).map (out ++ ·) = D.rdR l))
        (fun a' _ => n - sliceLen (a'.tmps.getD 7 undef)) rfl ?_ ?_
      · rintro a' w' ⟨p, m, y, out, la, lc, u1, u2, u3, u6, u9, u10, u11, u12, u13, u14, u15, u16, u17, u18, u19, u20, u21, u22, u23, u24, u25, u26, u27, u28, u29, u30, u31, u32, u33, u34, u35, u36, u37, u38, u39, u40, u41, u42, u43, u44, u45, u46, u47, u48, u49, rfl, rfl, hp, hy, hol, hown, hbel, HK⟩
        have H1 := h.below hbel
        by_cases hlt : out.length < n
        · obtain ⟨x, q, r, hrd⟩ : ∃ x q r, D.readR y l p = (x, q, r) := ⟨_, _, _, rfl⟩
          cases r with
          | false =>
            have hr2 : (zr, er) = (([] : List ByteArray), (5 : Int)) := by rw [← unhide HR]; exact D.readR_false hrd (unhide HNE) hlt (unhide HK)
            cases hr2
            have HX := hide hrd
            clear hrd HK HR
            go_wp2_with fail
            refine (dread_any _ l p y _ H1 hb hp hy _ _ _ (unhide HX)).mono ?_
            rintro e w2 ⟨rfl, B2⟩
            have BB2 := below_trans' hbel B2
            go_wp2
            simp only [Exit.jump]
            go_ret2
            exact ⟨_, rfl, World.ownsRow_nil _ _ _ _, BB2⟩
          | true =>
            obtain ⟨k, hk1, rfl, hk3, hk4⟩ := D.readR_true hb hp hrd
            have HX := hide hrd
            have HS := hide (D.dec_step hlt (unhide HK) hk1)
            clear hrd HK hk1
            obtain ⟨p2, hp2⟩ : ∃ p2, p + k = p2 := ⟨_, rfl⟩
            rw [hp2] at HX HS hk3
            clear hp2
            go_wp2_with fail
            refine (dread_any _ l p y _ H1 hb hp hy _ _ _ (unhide HX)).mono ?_
            rintro e w2 ⟨rfl, B2⟩
            have BB2 := below_trans' hbel B2
            have O2 := own_below hown B2
            clear hown hbel B2 H1 HX
            go_wp2_with (at_builtin; refine append_oneG (f := Value.string) rfl _ _ 25 rfl Tryz.underlying25 hi9 hz90 hz91 hz92 rfl (fun _ => rfl) (pre := out) rfl rfl O2 BB2 BB2.size (by omega) (by decide) ?_; intro v5 w5 O5 B5; obtain ⟨a5, c5, rfl, -⟩ := id (Gl.owned O5))
            go_step3
            refine ⟨rfl, ⟨p2, out.length + 1, x, out ++ [x], a5, c5, _, _, _, _, _, _, _, _, _, _, _, _, _, _, _, _, _, _, _, _, _, _, _, _, _, _, _, _, _, _, _, _, _, _, _, _, _, _, _, _, _, _, _, _, _, rfl, by simp, hk3, hk4, by simp; omega, by rw [show out.length + 1 = (out ++ [x]).length by simp]; exact O5, B5, by show _ = _; rw [List.length_append]; exact unhide HS⟩, ?_⟩
            simp [sliceLen]
            omega
        · have hR : D.rdR l = some out := D.dec_done (by omega) (unhide HK)
          have hun := unhide HR
          rw [D.unR_rd, hR] at hun
          simp only at hun
          obtain ⟨zp, hzp⟩ : ∃ z, D.pack out = z := ⟨_, rfl⟩
          have hzb := D.pack_byt out
          rw [hzp] at hun hzb
          obtain ⟨eq, heq⟩ : ∃ d, decide (zp = l) = d := ⟨_, rfl⟩
          have HP := hide hzp
          have HEQ := hide heq
          have HUN := hide hun
          have G1 := Gl.owned hown
          clear hR hun hzp heq HR HK
          go_wp2_with fail
          refine (dpack_any _ out _ G1 zp (unhide HP)).mono ?_
          rintro e w2 ⟨v2, rfl, O2, B2⟩
          have BB2 := below_trans' hbel B2
          have OO2 := own_below hown B2
          have S2 := Sl.owned O2
          have H2 := H1.below B2
          obtain ⟨v2a, v2c, hv2, -⟩ := id S2
          subst hv2
          clear hown hbel B2 O2 H1 G1
          go_wp2_with fail
          refine (equal7_any _ _ _ _ _ S2 H2 hzb hb _ (unhide HEQ)).mono ?_
          rintro e w3 ⟨rfl, rfl⟩
          cases eq with
          | true =>
            have hun := unhide HUN
            rw [if_pos (of_decide_eq_true (unhide HEQ))] at hun
            cases hun
            clear HUN
            go_wp2
            simp only [Exit.jump]
            go_ret2
            exact ⟨_, rfl, OO2, BB2⟩
          | false =>
            have hun := unhide HUN
            rw [if_neg (of_decide_eq_false (unhide HEQ))] at hun
            cases hun
            clear HUN
            go_wp2
            simp only [Exit.jump]
            go_ret2
            exact ⟨_, rfl, World.ownsRow_nil _ _ _ _, BB2⟩
      · intro hrest
        go_wp2_with fail
        refine (get_w _ l _ _ h hb _ _ _ (unhide HG1)).mono ?_
        rintro e w1 ⟨rfl, rfl⟩
        go_wp2
        go_step3
        rename_i hK
        refine hK _ _ (hrest _ _ ?_)
        exact ⟨q0, 0, ⟨#[]⟩, [], none, 0, _, _, _, _, _, _, _, _, _, _, _, _, _, _, _, _, _, _, _, _, _, _, _, _, _, _, _, _, _, _, _, _, _, _, _, _, _, _, _, _, _, _, _, _, _, rfl, rfl, hq0l, by decide, Nat.zero_le _, World.ownsRow_nil _ _ _ _, Below.refl _ _, by show _ = _; rw [← unhide HRD]; simp⟩
end Go.Proofs.YtonhehhmnobciaaGreat
