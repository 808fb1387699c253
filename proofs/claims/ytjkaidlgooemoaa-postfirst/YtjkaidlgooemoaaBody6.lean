/-
  The contract of body: the bytes of a block's postings.
-/
import Derived.Test.YtjkaidlgooemoaaAppK6
import Derived.Test.YtjkaidlgooemoaaPlainPack6
import Derived.Test.YtjkaidlgooemoaaSmall6
import Derived.Test.YtjkaidlgooemoaaRise
import Derived.Test.YtjkaidlgooemoaaPut
namespace Go.Proofs.Ytjkaidlgooemoaa
open Go.RowKit

set_option maxHeartbeats 4000000 in
theorem body_any (v : Value) (g : List Pt) (m0 : Int) (w : World) (h : Pl w v g) (hg4 : g.length ≤ 4) (hm0 : -1 ≤ m0 ∧ m0 ≤ 63) (hg : ∀ p ∈ g, (0 ≤ p.d ∧ p.d ≤ 63) ∧ Q.places p.a = true) :
    Calls Try.prog 41 #[v, .int .i64 m0] w fun e w' => ∃ v', e = .returned v' ∧ Pb w.heap.size w' v' (Q.body m0 g) ∧ Below w.heap.size w w' := by
  obtain ⟨i5, hi5, hz0, hz1, hz2⟩ := info_parts Try.info5
  have hbl := Q.body_len (g := g) (m := m0) (fun p hp => (hg p hp).2)
  have H := h
  obtain ⟨a, cap, rfl, hl, hm, hna, -⟩ := h.open
  clear h
  go_enter Try.func41, Try.ntmps41
  go_wp2
  go_loopw [1, 5, 12] (fun av bv iv wr => ∃ (k : Nat) (m : Int) (pre : List Int), k ≤ g.length ∧ iv = .int .i64 k ∧ av = .int .i64 m ∧ (-1 ≤ m ∧ m ≤ 63) ∧ Q.body m0 g = pre ++ Q.body m (g.drop k) ∧ Pb w.heap.size wr bv pre ∧ Below w.heap.size w wr) (fun _ _ iv _ => g.length - (intOf iv).toNat)
  case atStart => exact ⟨0, m0, [], Nat.zero_le _, rfl, rfl, hm0, rfl, World.ownsRow_nil _ _ _ _, Below.refl _ _⟩
  case round =>
    obtain ⟨k, m, pre, hk, rfl, rfl, hmm, heq, hown, hbel⟩ := hrel
    have hpl : pre.length ≤ 2440 := by
      have := congrArg List.length heq
      simp only [List.length_append] at this
      omega
    have HE := hide heq
    clear heq
    by_cases hlt : k < g.length
    · have H1 := H.below hbel
      obtain ⟨a', cap', hv', -, -, -, ho⟩ := H1.open
      simp only [Value.slice.injEq, true_and] at hv'
      obtain ⟨rfl, rfl⟩ := hv'
      obtain ⟨b, off, rfl, hb, hc⟩ := ho (by omega)
      obtain ⟨p, hp⟩ : ∃ p, g[k]? = some p := ⟨g[k], List.getElem?_eq_getElem hlt⟩
      obtain ⟨da, dc, c0, c1, c2⟩ := hc k p hp
      obtain ⟨hpd, hpp⟩ := hg p (List.mem_of_getElem? hp)
      have hra := Q.riseA_short hpp
      have HDR := hide (dropPt hp)
      obtain ⟨d, hd⟩ : ∃ d, p.d = d := ⟨_, rfl⟩
      obtain ⟨pa, hpa⟩ : ∃ l, p.a = l := ⟨_, rfl⟩
      rw [hd] at c0 hpd
      rw [hpa] at c1 c2 hra
      obtain ⟨X, hX⟩ : ∃ X, X = wr.alloc (.cells #[.int .i64 d, .slice da pa.length dc] 39) := ⟨_, rfl⟩
      have BX : Below wr.heap.size wr X := by rw [hX]; exact below_alloc _ _
      have bX : X.heap[wr.heap.size]? = some (.cells #[.int .i64 d, .slice da pa.length dc] 39 (0, 0)) := by rw [hX]; exact heap_alloc_new wr _
      have SX := c2.below BX
      have HX := hide hX
      have HPD := hide hd
      have HPA := hide hpa
      have OX := own_below hown BX
      have hbk : ∀ j, u5.ownBlock = some j → j < wr.heap.size := fun j hj => (World.ownsRow.lt hown j hj).2
      have zX : X.heap.size = wr.heap.size + 1 := by rw [hX]; simp
      have HZX := hide zX
      have HBK := hide hbk
      have BBX := below_trans' hbel BX
      clear ho hc H1 c2 hp hX hd hpa hpp hown hbk zX
      go_wp2_with fail
      rw [← unhide HX]
      refine (rise_any _ _ _ SX).mono ?_
      rintro e w1 ⟨v1, rfl, O1, B1⟩
      have b1 := box_below bX B1
      have q0 := box_cell b1 (j := 0) rfl
      have OO1 := own_below OX B1
      have BB1 := below_trans' BBX B1
      obtain ⟨v1a, v1c, hv1, -⟩ := id (Sl.owned O1)
      subst hv1
      clear bX SX OX BX BBX B1
      go_wp2_with fail
      refine (put_any _ _).mono ?_
      rintro e w2 ⟨v2, rfl, O2, B2⟩
      have b2 := box_below b1 B2
      have S1 := Sl.owned (own_below O1 B2)
      have O1' := own_below O1 B2
      have OO2 := own_below OO1 B2
      have BB2 := below_trans' BB1 B2
      have S2 := Sl.owned O2
      have hp5 := V.putA_len (d - m - 1)
      obtain ⟨v2a, v2c, hv2, -⟩ := id S2
      subst hv2
      clear b1 q0 OO1 BB1 O1 B2
      have hap : (Value.slice v1a (V.riseA pa).length v1c).ownBlock = none ∨ (Value.slice v1a (V.riseA pa).length v1c).ownBlock ≠ u5.ownBlock := by
        cases hb1 : (Value.slice v1a (V.riseA pa).length v1c).ownBlock with
        | none => exact .inl rfl
        | some j =>
          refine .inr fun e => ?_
          have h1 := (World.ownsRow.lt O1' j hb1).1
          have h2 := unhide HBK j e.symm
          rw [unhide HZX] at h1
          omega
      have HAP := hide hap
      obtain ⟨pu, hpu⟩ : ∃ l, V.putA (d - m - 1) = l := ⟨_, rfl⟩
      obtain ⟨ra, hra'⟩ : ∃ l, V.riseA pa = l := ⟨_, rfl⟩
      rw [hpu] at S2 hp5 O2
      rw [hra'] at O1' S1 hra HAP
      rw [hpu, hra']
      have HPU := hide hpu
      have HRA := hide hra'
      clear hap hpu hra' O2 S1
      go_wp2_with (first
        | (at_builtin; refine append_allK rfl (.tmp 22) (.tmp 28) 31 rfl Try.underlying31 hi5 hz0 hz1 hz2 rfl (pre := pre) (zs := pu) rfl rfl S2 OO2 BB2 BB2.size (by omega) (by decide) ?_; intro v3 w3 O3 B3 G3; have b3 := box_grown b2 G3 (own_ne_box OO2 b2 (by decide)); have S13 := Sl.owned (World.ownsRow.kept O1' G3 (unhide HAP)))
        | (at_builtin; refine append_allK rfl (.tmp 30) (.tmp 31) 31 rfl Try.underlying31 hi5 hz0 hz1 hz2 rfl (pre := pre ++ pu) (zs := ra) rfl rfl S13 O3 B3 B3.size (by simp; omega) (by decide) ?_; intro v4 w4 O4 B4 G4; have b4 := box_grown b3 G4 (own_ne_box O3 b3 (by decide)); have q4 := box_cell b4 (j := 0) rfl))
      go_roundw
      case rel =>
        refine ⟨k + 1, d, pre ++ pu ++ ra, by omega, by go_num, rfl, by omega, ?_, O4, B4⟩
        rw [unhide HE, unhide HDR, Q.body, unhide HPD, unhide HPA, unhide HPU, unhide HRA]
        simp
      case measure => simp [intOf]; omega
    · have hke : g.drop k = [] := List.drop_eq_nil_of_le (by omega)
      have hfin : Q.body m0 g = pre := by rw [unhide HE, hke]; simp [Q.body]
      have HF := hide hfin
      clear hfin hke
      go_wp2
      go_ret
      exact ⟨_, rfl, by rw [unhide HF]; exact hown, hbel⟩
end Go.Proofs.Ytjkaidlgooemoaa
