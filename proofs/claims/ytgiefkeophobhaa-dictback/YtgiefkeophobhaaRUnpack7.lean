/-
  The contract of the document's own Unpack.
-/
import Derived.Test.YtgiefkeophobhaaRRead7
import Derived.Test.YtgiefkeophobhaaRPack7
namespace Go.Proofs.Ytgiefkeophobhaa
open Go.RowKit

theorem D.dec_size : ∀ (n : Nat) (a : ByteArray) (l : List Int) (zs : List ByteArray), V.Byt l → D.dec n a l = some zs → ∀ x ∈ zs, x.size ≤ a.size + l.length
  | 0, _, _, _, _, h => fun x hx => by
    simp only [D.dec, Option.some.injEq] at h
    subst h
    cases hx
  | n + 1, a, l, zs, hb, h => by
    rw [D.dec] at h
    cases h1 : V.getH 5 l with
    | none => rw [h1] at h; cases h
    | some r =>
      obtain ⟨s, k⟩ := r
      rw [h1] at h
      simp only at h
      obtain ⟨-, b0, -, -, b1⟩ := V.put_getH hb h1
      cases h2 : V.getH 5 (l.drop k) with
      | none => rw [h2] at h; cases h
      | some r =>
        obtain ⟨m, j⟩ := r
        rw [h2] at h
        simp only at h
        obtain ⟨-, b2, -, -, b3⟩ := V.put_getH (hb.drop k) h2
        split at h
        · cases h
        · rename_i hc
          have hsz := D.mk_size a (((l.drop k).drop j).take m.toNat) (show s.toNat ≤ a.size by omega)
          have hlt : (((l.drop k).drop j).take m.toNat).length = m.toNat := by rw [List.length_take]; omega
          rw [hlt] at hsz
          simp only [List.length_drop] at hc b3
          cases hd : D.dec n (D.mk a s.toNat (((l.drop k).drop j).take m.toNat)) (((l.drop k).drop j).drop m.toNat) with
          | none => rw [hd] at h; cases h
          | some us =>
            rw [hd] at h
            simp only [Option.map_some, Option.some.injEq] at h
            subst h
            have ih := D.dec_size n _ _ us (((hb.drop k).drop j).drop _) hd
            intro x hx
            rcases List.mem_cons.1 hx with rfl | hx
            · omega
            · have := ih x hx
              simp only [List.length_drop] at this
              omega

theorem D.rd_size {l : List Int} {zs : List ByteArray} (hb : V.Byt l) (h : D.rdR l = some zs) : ∀ x ∈ zs, x.size ≤ l.length := by
  unfold D.rdR at h
  cases h1 : V.getH 5 l with
  | none => rw [h1] at h; cases h
  | some r =>
    obtain ⟨n, k⟩ := r
    rw [h1] at h
    simp only at h
    split at h
    · cases h
    · intro x hx
      have h2 := D.dec_size _ _ _ _ (hb.drop k) h x hx
      have h3 : (⟨#[]⟩ : ByteArray).size = 0 := rfl
      rw [List.length_drop, h3] at h2
      omega

set_option maxHeartbeats 4000000 in
theorem runpack_any (v : Value) (l : List Int) (w : World) (h : Sl .u8 w v l) (hb : V.Byt l) (hll : l.length ≤ 3000) (zr : List ByteArray) (er : Int) (hr : D.unR l = (zr, er)) :
    Calls Try.prog 22 #[v] w fun e w' => ∃ v', e = .returned (.tuple #[v', .int .i64 er]) ∧ w'.ownsRow w.heap.size 9 1 v' zr.length (zr.map Value.string) ∧ Below w.heap.size w w' := by
  obtain ⟨ad, cap, hv, hl, hm, hna, -⟩ := h.open
  rw [D.unR_rd] at hr
  obtain ⟨R, hR⟩ : ∃ R, D.rdR l = R := ⟨_, rfl⟩
  rw [hR] at hr
  have HR := hide hR
  cases R with
  | none =>
    cases hr
    clear hR
    obtain ⟨my, hmy⟩ : ∃ m, D.may [] = m := ⟨_, rfl⟩
    have HMY := hide hmy
    clear hmy
    subst hv
    go_enter Try.func22, Try.ntmps22
    go_wp2_with fail
    refine (rread_any _ l _ h hb hll none (unhide HR)).mono ?_
    rintro e w1 ⟨v1, rfl, O1, B1⟩
    have G1 := Gl.owned O1
    simp only [Option.getD_none, Option.isSome_none] at G1 ⊢
    obtain ⟨v1a, v1c, hv1, -⟩ := id G1
    subst hv1
    clear O1
    go_wp2_with fail
    refine (rmay_any _ [] _ G1 (fun x hx => by cases hx) _ (unhide HMY)).mono ?_
    rintro e w2 ⟨rfl, B2⟩
    have BB2 := below_trans' B1 B2
    go_wp2
    go_ret2
    exact ⟨_, rfl, World.ownsRow_nil _ _ _ _, BB2⟩
  | some zs =>
    simp only at hr
    have hsz := D.rd_size hb hR
    have hsz2 : ∀ x ∈ zs, x.size ≤ maxLen := fun x hx => by have := hsz x hx; unfold maxLen; omega
    have hne : l ≠ [] := by
      intro e
      subst e
      simp [D.rdR, V.getH] at hR
    have HUN := hide hr
    clear hR hr hsz
    subst hv
    cases hmy : D.may zs with
    | false =>
      have hun := unhide HUN
      have hp : D.pack zs = [] := by unfold D.pack; rw [hmy]; rfl
      rw [hp, if_neg (fun e => hne e.symm)] at hun
      cases hun
      have HMY := hide hmy
      clear hmy hp HUN hne
      go_enter Try.func22, Try.ntmps22
      go_wp2_with fail
      refine (rread_any _ l _ h hb hll (some zs) (unhide HR)).mono ?_
      rintro e w1 ⟨v1, rfl, O1, B1⟩
      have G1 := Gl.owned O1
      simp only [Option.getD_some, Option.isSome_some] at G1 ⊢
      obtain ⟨v1a, v1c, hv1, -⟩ := id G1
      subst hv1
      clear O1
      go_wp2_with fail
      refine (rmay_any _ zs _ G1 hsz2 _ (unhide HMY)).mono ?_
      rintro e w2 ⟨rfl, B2⟩
      have BB2 := below_trans' B1 B2
      go_wp2
      go_ret2
      exact ⟨_, rfl, World.ownsRow_nil _ _ _ _, BB2⟩
    | true =>
      have HMY := hide hmy
      obtain ⟨zp, hzp⟩ : ∃ z, D.pack zs = z := ⟨_, rfl⟩
      have hun := unhide HUN
      rw [hzp] at hun
      have HUN := hide hun
      obtain ⟨eq, heq⟩ : ∃ d, decide (zp = l) = d := ⟨_, rfl⟩
      have HP := hide hzp
      have HEQ := hide heq
      clear hmy hne hun hzp heq
      go_enter Try.func22, Try.ntmps22
      go_wp2_with fail
      refine (rread_any _ l _ h hb hll (some zs) (unhide HR)).mono ?_
      rintro e w1 ⟨v1, rfl, O1, B1⟩
      simp only [Option.getD_some, Option.isSome_some] at O1 ⊢
      have G1 := Gl.owned O1
      obtain ⟨v1a, v1c, hv1, -⟩ := id G1
      subst hv1
      have H1 := h.below B1
      go_wp2_with fail
      refine (rmay_any _ zs _ G1 hsz2 _ (unhide HMY)).mono ?_
      rintro e w2 ⟨rfl, B2⟩
      have BB2 := below_trans' B1 B2
      have O2 := own_below O1 B2
      have G2 := Gl.owned O2
      have H2 := H1.below B2
      clear O1 G1 H1 B1 B2
      go_wp2_with fail
      refine (rpack_any _ zs _ G2 hsz2 zp (unhide HP)).mono ?_
      rintro e w3 ⟨v3, rfl, O3, B3⟩
      have BB3 := below_trans' BB2 B3
      have OO3 := own_below O2 B3
      have S3 := Sl.owned O3
      have H3 := H2.below B3
      obtain ⟨v3a, v3c, hv3, -⟩ := id S3
      subst hv3
      clear O2 G2 H2 BB2 B3 O3
      go_wp2_with fail
      refine (bytes_b _ _ _ _ _ S3 H3 _ (unhide HEQ)).mono ?_
      rintro e w4 ⟨rfl, B4⟩
      have BB4 := below_trans' BB3 B4
      have OO4 := own_below OO3 B4
      clear OO3 S3 H3 BB3 B4
      cases eq with
      | true =>
        have hun := unhide HUN
        rw [if_pos (of_decide_eq_true (unhide HEQ))] at hun
        cases hun
        clear HUN
        go_wp2
        go_ret2
        exact ⟨_, rfl, OO4, BB4⟩
      | false =>
        have hun := unhide HUN
        rw [if_neg (of_decide_eq_false (unhide HEQ))] at hun
        cases hun
        clear HUN
        go_wp2
        go_ret2
        exact ⟨_, rfl, World.ownsRow_nil _ _ _ _, BB4⟩
end Go.Proofs.Ytgiefkeophobhaa
