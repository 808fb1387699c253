/-
  The walk of PostCuts: bytes of postings that are cut, or have one more, are none's.
-/
import Derived.Test.YtjkaidlgooemoaaAwake6
namespace Go.Proofs.Ytjkaidlgooemoaa
open Go.RowKit

theorem run_by_to (a : Option Addr) (n cap m : Nat) (x : Int) (hx : x = m) (hm : m ≤ cap) (w : World) :
    (Instr.slice 31 (.slice a n cap) none (some (.int .i64 x)) none).run Try.prog w = .ok (sliced a 0 m cap 1) w := by
  subst hx
  have hs : ∀ w : World, (sizeOf (Try.prog.elem 31)).run Try.prog w = .ok 1 w := fun w => by kernel_rfl
  rw [run_slice_h w 31 _ n cap (by kernel_rfl) .i64 m (by omega) (by omega), hs]
  simp [Result.andThen]

set_option maxHeartbeats 4000000 in
theorem postCuts_walk (v : Value) (L : List Pt) (cut more : Int) (w : World) (P : Pl w v L) (hm : 0 ≤ more ∧ more ≤ 255) :
    Calls Try.prog 9 #[v, .int .i64 cut, .int .u8 more] w fun e w' => e = .returned (.bool true) ∧ Below w.heap.size w w' := by
  obtain ⟨i5, hi5, hz0, hz1, hz2⟩ := info_parts Try.info5
  obtain ⟨va, vn, vc, hv⟩ := P.form'
  subst hv
  obtain ⟨fa, hfa⟩ : ∃ fa, Q.few L = fa := ⟨_, rfl⟩
  obtain ⟨R, hR⟩ : ∃ R, Q.packA L = R := ⟨_, rfl⟩
  obtain ⟨en, hen⟩ : ∃ n, Q.packE L = n := ⟨_, rfl⟩
  obtain ⟨mb, hmb⟩ : ∃ mb, Q.may L = mb := ⟨_, rfl⟩
  have HFA := hide hfa
  have HR := hide hR
  have HE := hide hen
  have HM := hide hmb
  clear hfa hR hen hmb
  go_enter Try.func9, Try.ntmps9
  go_wp2_with fail
  refine (awake_any _).mono ?_
  rintro e w1 ⟨rfl, BB⟩
  replace P := P.below BB
  go_wp2_with fail
  refine (few_b _ L _ P fa (unhide HFA)).mono ?_
  rintro e w2 ⟨rfl, B2⟩
  replace BB := below_trans' BB B2
  replace P := P.below B2
  clear B2
  go_wp2_with fail
  refine (pack_b _ L _ P R en (unhide HR) (unhide HE)).mono ?_
  rintro e w3 ⟨a3, c3, rfl, S3, B3⟩
  replace BB := below_trans' BB B3
  clear B3 P
  cases fa with
  | false =>
    go_wp2
    go_ret
    exact ⟨rfl, BB⟩
  | true =>
    cases mb with
    | false =>
      have h1 : en = 1 := by rw [← unhide HE, (Q.packA_out (unhide HM)).2]
      subst h1
      go_wp2
      go_ret
      exact ⟨rfl, BB⟩
    | true =>
      have h1 : en = 0 := by rw [← unhide HE, (Q.packA_in (unhide HM)).2]
      subst h1
      by_cases hc0 : cut < 0
      · go_wp2
        go_ret
        exact ⟨rfl, BB⟩
      by_cases hcl : (R.length : Int) ≤ cut
      · go_wp2
        go_ret
        exact ⟨rfl, BB⟩
      obtain ⟨k, hk⟩ : ∃ k : Nat, cut = k := Int.eq_ofNat_of_zero_le (by omega)
      subst hk
      have hRb : R = Q.bytes L := by rw [← unhide HR, (Q.packA_in (unhide HM)).1]
      have hRl : R.length ≤ 50000 := by rw [hRb]; exact Q.bytes_len (unhide HM)
      have hRt : V.Byt R := by rw [hRb]; exact Q.bytes_byt L
      have HU1 := hide (Q.unp_no (show Q.unp (R.take k) = none by rw [hRb]; exact Q.unp_cut (unhide HM) (by rw [← hRb]; omega)))
      have HU2 := hide (Q.unp_no (show Q.unp (R ++ [more]) = none by rw [hRb]; exact Q.unp_more (unhide HM) hm))
      have hcap : R.length ≤ c3 := by
        obtain ⟨a', cap', hvv, hlc, -⟩ := id S3
        simp only [Value.slice.injEq, true_and] at hvv
        rw [hvv.2]
        exact hlc
      have SC := S3.cut 0 k (by omega) (by omega)
      rw [List.drop_zero, Nat.sub_zero] at SC
      have R1 := run_by_to a3 R.length c3 k (k : Int) rfl (by omega)
      obtain ⟨ca, cn, cc, hcv⟩ : ∃ ca cn cc, sliced a3 0 k c3 1 = .slice ca cn cc := ⟨_, _, _, rfl⟩
      rw [hcv] at SC R1
      obtain ⟨T, hT⟩ : ∃ T, T = R.take k := ⟨_, rfl⟩
      rw [← hT] at SC HU1
      have hTb : V.Byt T := by rw [hT]; exact hRt.take k
      have hTl : T.length ≤ 1000000 := by rw [hT]; simp; omega
      obtain ⟨U, hU⟩ : ∃ U, U = R ++ [more] := ⟨_, rfl⟩
      rw [← hU] at HU2
      have hUb : V.Byt U := by rw [hU]; exact hRt.app (fun x hx => by simp at hx; subst hx; exact hm)
      have hUl : U.length ≤ 1000000 := by rw [hU]; simp; omega
      have HUE := hide hU
      clear hRb hcv hT hU
      go_wp2_with fail
      refine (unpack_b _ T _ SC hTb hTl [] 5 (unhide HU1).1 (unhide HU1).2).mono ?_
      rintro e w4 ⟨a4, c4, rfl, P4, B4⟩
      replace BB := below_trans' BB B4
      replace S3 := S3.below B4
      clear B4 P4 SC
      go_wp2_with (first
        | (at_builtin; refine append_all rfl (.const (.slice none 0 0)) (.tmp 52) 31 rfl Try.underlying31 hi5 hz0 hz1 hz2 rfl (B := w4.heap.size) (w0 := w4) (pre := []) (zs := R) rfl rfl S3 (World.ownsRow_nil _ _ _ _) (Below.refl _ _) (Nat.le_refl _) (by simp; omega) (by decide) ?_; intro v5 w5 O5 B5; rw [List.nil_append] at O5)
        | (at_builtin; refine append_one rfl (.tmp 53) (.tmp 55) 31 rfl Try.underlying31 hi5 hz0 hz1 hz2 rfl (pre := R) rfl rfl O5 B5 B5.size (by omega) (by decide) ?_; intro v6 w6 O6 B6; have S6 := Sl.owned O6; rw [← unhide HUE] at S6; clear O6)
        | fail)
      have BB6 := below_trans' BB B6
      refine (unpack_b _ U _ S6 hUb hUl [] 5 (unhide HU2).1 (unhide HU2).2).mono ?_
      rintro e w7 ⟨a7, c7, rfl, P7, B7⟩
      replace BB := below_trans' BB6 B7
      go_wp2
      go_ret
      exact ⟨rfl, BB⟩
end Go.Proofs.Ytjkaidlgooemoaa
