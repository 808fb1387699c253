/-
  The contract of the document's own read.
-/
import Derived.Test.YtgiefkeophobhaaRead7
import Derived.Test.YtgiefkeophobhaaRefGet
namespace Go.Proofs.Ytgiefkeophobhaa
open Go.RowKit

theorem Try.infoS : (Try.prog.info? 9).map (fun i => (i.zero, i.size, i.bytes)) = some (some (.string ⟨#[]⟩), 1, 16) := by kernel_rfl

namespace D
/-- The words that bytes would have. -/
def rdR (l : List Int) : Option (List ByteArray) :=
  match V.getH 5 l with
  | none => none
  | some (n, k) => if 200 < n then none else dec n.toNat ⟨#[]⟩ (l.drop k)

theorem unR_rd (l : List Int) : unR l = match rdR l with | none => ([], 5) | some zs => if pack zs = l then (zs, 0) else ([], 5) := by
  unfold unR rdR
  cases V.getH 5 l with
  | none => rfl
  | some r =>
    obtain ⟨n, k⟩ := r
    simp only
    split
    · rfl
    · rfl

/-- What has been read, and what is still to come. -/
theorem dec_step {n k p q : Nat} {a x : ByteArray} {l : List Int} {out : List ByteArray} {R : Option (List ByteArray)} (hk : k < n) (h : (dec (n - k) a (l.drop p)).map (out ++ ·) = R) (hr : rd1 a (l.drop p) = some (x, q)) :
    (dec (n - (k + 1)) x (l.drop (p + q))).map ((out ++ [x]) ++ ·) = R := by
  rw [show n - k = n - (k + 1) + 1 by omega, dec_rd1, hr] at h
  simp only [List.drop_drop] at h
  rw [← h]
  cases dec (n - (k + 1)) x (l.drop (p + q)) with
  | none => rfl
  | some zs => simp
theorem dec_stop {n k p : Nat} {a : ByteArray} {l : List Int} {out : List ByteArray} {R : Option (List ByteArray)} (hk : k < n) (h : (dec (n - k) a (l.drop p)).map (out ++ ·) = R) (hr : rd1 a (l.drop p) = none) : R = none := by
  rw [show n - k = n - (k + 1) + 1 by omega, dec_rd1, hr] at h
  exact h.symm
theorem dec_done {n k p : Nat} {a : ByteArray} {l : List Int} {out : List ByteArray} {R : Option (List ByteArray)} (hk : n ≤ k) (h : (dec (n - k) a (l.drop p)).map (out ++ ·) = R) : R = some out := by
  rw [show n - k = 0 by omega, dec] at h
  rw [← h]
  simp
end D

theorem own_dr7 {w : World} {B : Nat} {e : TypeId} {size : Nat} {v : Value} {n : Nat} {xs : List Value} (h : w.ownsRow B e size v n xs) (q : Nat) : (w.drewN q).ownsRow B e size v n xs := h

theorem rget_w (v : Value) (l : List Int) (x : Int) (w : World) (h : Sl .u8 w v l) (hb : V.Byt l) (hll : l.length ≤ 4294967296) (r1 r2 r3 : Int) (hr : V.get l x = (r1, r2, r3)) :
    Calls Try.prog 41 #[v, .int .i64 x] w fun e w' => e = .returned (.tuple #[.int .i64 r1, .int .i64 r2, .int .i64 r3]) ∧ Below w.heap.size w w' :=
  (refGet_any v l x w h hb hll).mono fun e w' ⟨h1, h2⟩ => ⟨by rw [h1, hr], h2⟩

set_option maxHeartbeats 8000000 in
theorem rread_any (v : Value) (l : List Int) (w : World) (h : Sl .u8 w v l) (hb : V.Byt l) (hll : l.length ≤ 3000) (R : Option (List ByteArray)) (hR : D.rdR l = R) :
    Calls Try.prog 35 #[v] w fun e w' => ∃ v', e = .returned (.tuple #[v', .bool R.isSome]) ∧ w'.ownsRow w.heap.size 9 1 v' (R.getD []).length ((R.getD []).map Value.string) ∧ Below w.heap.size w w' := by
  obtain ⟨i9, hi9, hz90, hz91, hz92⟩ := info_parts Try.infoS
  obtain ⟨ad, cap, hv, hl, hm, hna, -⟩ := h.open
  unfold D.rdR at hR
  cases h1 : V.getH 5 l with
  | none =>
    rw [h1] at hR
    subst hR
    have HG := hide (get_none (l := l) (p := 0) (Nat.zero_le _) h1)
    clear h1
    subst hv
    go_enter Try.func35, Try.ntmps35
    go_wp2_with fail
    refine (rget_w _ l _ _ h hb (by omega) _ _ _ (unhide HG)).mono ?_
    rintro e w1 ⟨rfl, B1⟩
    go_wp2
    go_ret2
    exact ⟨_, rfl, World.ownsRow_nil _ _ _ _, B1⟩
  | some r1 =>
    obtain ⟨s, k⟩ := r1
    rw [h1] at hR
    obtain ⟨n, p0, rfl, hp0, hp0l, hnt, hg1⟩ := get_step (l := l) (p := 0) (Nat.zero_le _) hb h1
    simp only at hR
    rw [Nat.zero_add] at hp0
    subst hp0
    have HG1 := hide hg1
    clear h1 hg1
    by_cases hn : (200 : Int) < (n : Int)
    · rw [if_pos hn] at hR
      subst hR
      subst hv
      go_enter Try.func35, Try.ntmps35
      go_wp2_with fail
      refine (rget_w _ l _ _ h hb (by omega) _ _ _ (unhide HG1)).mono ?_
      rintro e w1 ⟨rfl, B1⟩
      go_wp2
      go_ret2
      exact ⟨_, rfl, World.ownsRow_nil _ _ _ _, B1⟩
    · rw [if_neg hn, Int.toNat_natCast] at hR
      have HR := hide hR
      clear hR
      subst hv
      go_enter Try.func35, Try.ntmps35
      go_wp2_with fail
      refine (rget_w _ l _ _ h hb (by omega) _ _ _ (unhide HG1)).mono ?_
      rintro e w1 ⟨rfl, B1⟩
      clear HG1
      go_wp2
      go_loopw [5, 7, 8, 9] (fun atv ov av iv wr => ∃ (i p : Nat) (a : ByteArray) (out : List ByteArray), i ≤ n ∧ p ≤ l.length ∧ a.size ≤ p ∧ out.length = i ∧ atv = .int .i64 p ∧ av = .string a ∧ iv = .int .i64 i ∧
          wr.ownsRow w.heap.size 9 1 ov out.length (out.map Value.string) ∧ Below w.heap.size w wr ∧ Hid ((D.dec (n - i) a (l.drop p)).map (out ++ ·) = R)) (fun _ _ _ iv _ => n - (intOf iv).toNat)
      case atStart => exact ⟨0, _, ⟨#[]⟩, [], Nat.zero_le _, hp0l, Nat.zero_le _, rfl, rfl, rfl, rfl, World.ownsRow_nil _ _ _ _, B1, by show _ = _; rw [Nat.sub_zero, unhide HR]; simp⟩
      case round =>
        obtain ⟨i, p, a, out, hi, hp, hap, hol, rfl, rfl, rfl, hown, hbel, HK⟩ := hrel
        have HOL := hide hol
        have hol2 : out.length ≤ 200 := by omega
        clear hol B1 HR
        by_cases hlt : i < n
        · have H1 := h.below hbel
          have hst := @D.dec_stop n i p a l out R hlt (unhide HK)
          have hgo := @D.dec_step n i p
          unfold D.rd1 at hst
          cases h1 : V.getH 5 (l.drop p) with
          | none =>
            rw [h1] at hst
            have hst := hst rfl
            subst hst
            have HG := hide (get_none hp h1)
            obtain ⟨x1, x2, x3, hx⟩ : ∃ x1 x2 x3, V.get l 0 = (x1, x2, x3) := ⟨_, _, _, rfl⟩
            have HX := hide hx
            clear h1 hx hgo HK
            go_wp2_with fail
            refine (rget_w _ l _ _ H1 hb (by omega) _ _ _ (unhide HG)).mono ?_
            rintro e w2 ⟨rfl, B2⟩
            have BB2 := below_trans' hbel B2
            go_wp2_with fail
            refine (rget_w _ l _ _ (H1.below B2) hb (by omega) _ _ _ (unhide HX)).mono ?_
            rintro e w3 ⟨rfl, B3⟩
            have BB3 := below_trans' BB2 B3
            go_wp2
            go_ret2
            exact ⟨_, rfl, World.ownsRow_nil _ _ _ _, BB3⟩
          | some r1 =>
            obtain ⟨s, k1⟩ := r1
            rw [h1] at hst
            obtain ⟨sn, q1, rfl, hq1, hq1l, hsn, hg1⟩ := get_step hp hb h1
            simp only [List.drop_drop] at hst
            rw [← hq1] at hst
            have HG1 := hide hg1
            have HH1 := hide h1
            clear h1 hg1
            cases h2 : V.getH 5 (l.drop q1) with
            | none =>
              rw [h2] at hst
              have hst := hst rfl
              subst hst
              have HG2 := hide (get_none hq1l h2)
              clear h2 hgo HK hq1
              go_wp2_with fail
              refine (rget_w _ l _ _ H1 hb (by omega) _ _ _ (unhide HG1)).mono ?_
              rintro e w2 ⟨rfl, B2⟩
              have BB2 := below_trans' hbel B2
              go_wp2_with fail
              refine (rget_w _ l _ _ (H1.below B2) hb (by omega) _ _ _ (unhide HG2)).mono ?_
              rintro e w3 ⟨rfl, B3⟩
              have BB3 := below_trans' BB2 B3
              go_wp2
              go_ret2
              exact ⟨_, rfl, World.ownsRow_nil _ _ _ _, BB3⟩
            | some r2 =>
              obtain ⟨m, j⟩ := r2
              rw [h2] at hst
              obtain ⟨mn, q2, rfl, hq2, hq2l, hmn, hg2⟩ := get_step hq1l hb h2
              simp only [List.length_drop] at hst
              rw [← hq2] at hst
              have HG2 := hide hg2
              have HH2 := hide h2
              clear h2 hg2
              by_cases hs : (a.size : Int) < (sn : Int)
              · rw [if_pos (.inl hs)] at hst
                have hst := hst rfl
                subst hst
                clear hgo HK hq1 hq2 HH1 HH2
                go_wp2_with fail
                refine (rget_w _ l _ _ H1 hb (by omega) _ _ _ (unhide HG1)).mono ?_
                rintro e w2 ⟨rfl, B2⟩
                have BB2 := below_trans' hbel B2
                go_wp2_with fail
                refine (rget_w _ l _ _ (H1.below B2) hb (by omega) _ _ _ (unhide HG2)).mono ?_
                rintro e w3 ⟨rfl, B3⟩
                have BB3 := below_trans' BB2 B3
                go_wp2
                go_ret2
                exact ⟨_, rfl, World.ownsRow_nil _ _ _ _, BB3⟩
              · by_cases hmm : (l.length : Int) - (q2 : Int) < (mn : Int)
                · rw [if_pos (.inr (by omega))] at hst
                  have hst := hst rfl
                  subst hst
                  clear hgo HK hq1 hq2 HH1 HH2
                  go_wp2_with fail
                  refine (rget_w _ l _ _ H1 hb (by omega) _ _ _ (unhide HG1)).mono ?_
                  rintro e w2 ⟨rfl, B2⟩
                  have BB2 := below_trans' hbel B2
                  go_wp2_with fail
                  refine (rget_w _ l _ _ (H1.below B2) hb (by omega) _ _ _ (unhide HG2)).mono ?_
                  rintro e w3 ⟨rfl, B3⟩
                  have BB3 := below_trans' BB2 B3
                  go_wp2
                  go_ret2
                  exact ⟨_, rfl, World.ownsRow_nil _ _ _ _, BB3⟩
                · obtain ⟨X, hX⟩ : ∃ X, D.mk a sn ((l.drop q2).take mn) = X := ⟨_, rfl⟩
                  have hrd : D.rd1 a (l.drop p) = some (X, k1 + j + mn) := by
                    unfold D.rd1
                    rw [unhide HH1]
                    simp only [List.drop_drop]
                    rw [← hq1, unhide HH2]
                    simp only [List.length_drop]
                    rw [← hq2, if_neg (by omega)]
                    simp only [Int.toNat_natCast]
                    rw [hX]
                  have hnx := hgo hlt (unhide HK) hrd
                  rw [show p + (k1 + j + mn) = q2 + mn by omega] at hnx
                  have HNX := hide hnx
                  have hXs := D.mk_size a ((l.drop q2).take mn) (show sn ≤ a.size by omega)
                  rw [hX] at hXs
                  rw [List.length_take, List.length_drop, Nat.min_eq_left (by omega)] at hXs
                  have hXq : X.size ≤ q2 + mn := by omega
                  clear hst hgo HK hnx hrd HH1 HH2
                  have hst := run_str_to a sn (by omega)
                  have hsb := run_by_within ad l.length cap q2 (q2 + mn) (q2 : Int) ((q2 : Int) + (mn : Int)) rfl (by omega) (by omega) (by omega)
                  have hsw := run_by_within ad l.length cap q2 (q2 + mn) (q2 : Int) (IntKind.i64.wrap ((q2 : Int) + (mn : Int))) rfl (by rw [IntKind.wrap_i64]; omega) (by omega) (by omega)
                  have hcut : ∀ w' : World, Sl .u8 w' (.slice ad l.length cap) l → Sl .u8 w' (sliced ad q2 (q2 + mn) cap 1) ((l.drop q2).take mn) := fun w' h' => by
                    have := h'.cut q2 (q2 + mn) (by omega) (by omega)
                    rwa [Nat.add_sub_cancel_left] at this
                  obtain ⟨cv, hcv0⟩ : ∃ cv, sliced ad q2 (q2 + mn) cap 1 = cv := ⟨_, rfl⟩
                  rw [hcv0] at hcut
                  simp only [hcv0] at hsb hsw
                  have hadd : ∀ w : World, (Op.stringOp .add (a.extract 0 sn) (strOfNums ((l.drop q2).take mn))).run Try.prog w = .ok (.string X) w := fun w => by
                    rw [run_string_add_sum w _ _ (by
                      have := congrArg ByteArray.size hX
                      unfold D.mk at this
                      rw [ByteArray.size_append] at this
                      omega), ← hX]
                    rfl
                  have hcs0 : ∀ w' : World, Sl .u8 w' (.slice ad l.length cap) l → (convert 32 9 cv).run Try.prog w'.drew = .ok (.string (strOfNums ((l.drop q2).take mn))) w'.drew := fun w' h' => Try.conv_str _ _ _ (hcut w' h')
                  obtain ⟨S1, hS1⟩ : ∃ S, a.extract 0 sn = S := ⟨_, rfl⟩
                  obtain ⟨S2, hS2⟩ : ∃ S, strOfNums ((l.drop q2).take mn) = S := ⟨_, rfl⟩
                  simp only [hS1, hS2] at hadd hst hcs0
                  clear hcut hcv0 hS1 hS2 hX hXs hq1 hq2
                  go_wp2_with fail
                  refine (rget_w _ l _ _ H1 hb (by omega) _ _ _ (unhide HG1)).mono ?_
                  rintro e w2 ⟨rfl, B2⟩
                  have BB2 := below_trans' hbel B2
                  have O2 := own_below hown B2
                  have H2 := H1.below B2
                  clear hown hbel B2
                  go_wp2_with fail
                  refine (rget_w _ l _ _ H2 hb (by omega) _ _ _ (unhide HG2)).mono ?_
                  rintro e w3 ⟨rfl, B3⟩
                  obtain ⟨W3, hW3⟩ : ∃ W, W = w3.drew := ⟨_, rfl⟩
                  have BB3 : Below w.heap.size w W3 := by rw [hW3]; exact below_dr (below_trans' BB2 B3) 1
                  have O3 : W3.ownsRow w.heap.size 9 1 u7 out.length (out.map Value.string) := by rw [hW3]; exact own_dr7 (own_below O2 B3) 1
                  have HW3 := hide hW3
                  have hcs := hcs0 w3 (H2.below B3)
                  clear BB2 O2 H2 H1 B3 hcs0 hW3
                  go_wp2
                  go_region
                  all_goals
                    rw [← unhide HW3]
                    go_wp2_with (at_builtin; refine append_oneG (f := Value.string) rfl _ _ 22 rfl Try.underlying22 hi9 hz90 hz91 hz92 rfl (fun _ => rfl) (pre := out) rfl rfl O3 BB3 BB3.size (by omega) (by decide) ?_; intro v5 w5 O5 B5)
                    go_roundw
                    case rel => exact ⟨i + 1, q2 + mn, X, out ++ [X], by omega, by omega, by omega, by have := unhide HOL; simp; omega, by go_num, rfl, by go_num, O5, B5, unhide HNX⟩
                    case measure => simp [intOf]; omega
        · have HE : Hid (R = some out) := D.dec_done (by omega) (unhide HK)
          have hE := unhide HE
          subst hE
          clear HE HK
          go_wp2
          go_ret2
          exact ⟨_, rfl, hown, hbel⟩
end Go.Proofs.Ytgiefkeophobhaa
