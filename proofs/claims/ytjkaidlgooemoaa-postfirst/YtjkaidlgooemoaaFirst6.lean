/-
  The walk of PostFirst: what is sought is the first from there on, and a block stands ahead for each four postings that do.
-/
import Derived.Test.YtjkaidlgooemoaaPlainOrder6
import Derived.Deep.RegionHeld3
namespace Go.Proofs.Ytjkaidlgooemoaa
open Go.RowKit

theorem Q.before_lt {L : List Pt} {d : Int} {i j : Nat} {q : Pt} (hi : Q.first L d = i) (hj : j < i) (hq : L[j]? = some q) : q.d < d :=
  Q.ahead_lt (l := L.map Pt.d) (i := j) (by have : Q.ahead (L.map Pt.d) d = i := hi; omega) (by rw [List.getElem?_map, hq]; rfl)
theorem Q.at_ge {L : List Pt} {d : Int} {i : Nat} {q : Pt} (hi : Q.first L d = i) (hq : L[i]? = some q) : ¬ q.d < d :=
  Q.ahead_at (l := L.map Pt.d) (by have : Q.ahead (L.map Pt.d) d = i := hi; rw [this, List.getElem?_map, hq]; rfl)

set_option maxHeartbeats 8000000 in
theorem postFirst_walk (v : Value) (L : List Pt) (d : Int) (w : World) (P : Pl w v L) :
    Calls Try.prog 8 #[v, .int .i64 d] w fun e w' => e = .returned (.bool true) ∧ Below w.heap.size w w' := by
  obtain ⟨va, vc, hv⟩ := P.form
  subst hv
  obtain ⟨fa, hfa⟩ : ∃ fa, Q.few L = fa := ⟨_, rfl⟩
  obtain ⟨R, hR⟩ : ∃ R, Q.packA L = R := ⟨_, rfl⟩
  obtain ⟨en, hen⟩ : ∃ n, Q.packE L = n := ⟨_, rfl⟩
  obtain ⟨mb, hmb⟩ : ∃ mb, Q.may L = mb := ⟨_, rfl⟩
  have HFA := hide hfa
  have HR := hide hR
  have HE := hide hen
  have HM := hide hmb
  have hPl := P.len
  clear hfa hR hen hmb
  go_enter Try.func8, Try.ntmps8
  go_wp2_with fail
  refine (awake_any _).mono ?_
  rintro e w1 ⟨rfl, BB⟩
  replace P := P.below BB
  go_wp2_with fail
  refine (few_b _ L _ P fa (unhide HFA)).mono ?_
  rintro e w2 ⟨rfl, B2⟩
  replace BB := below_trans' BB B2
  replace P := P.below B2
  clear B2
  go_wp2_with fail
  refine (pack_b _ L _ P R en (unhide HR) (unhide HE)).mono ?_
  rintro e w3 ⟨a3, c3, rfl, S3, B3⟩
  replace BB := below_trans' BB B3
  replace P := P.below B3
  clear B3
  cases fa with
  | false =>
    go_wp2
    go_ret
    exact ⟨rfl, BB⟩
  | true =>
    cases mb with
    | false =>
      have h1 : en = 1 := by rw [← unhide HE, (Q.packA_out (unhide HM)).2]
      subst h1
      go_wp2
      go_ret
      exact ⟨rfl, BB⟩
    | true =>
      have h1 : en = 0 := by rw [← unhide HE, (Q.packA_in (unhide HM)).2]
      subst h1
      have hRb : R = Q.bytes L := by rw [← unhide HR, (Q.packA_in (unhide HM)).1]
      have hRl : R.length ≤ 1000000 := by rw [hRb]; have := Q.bytes_len (unhide HM); omega
      have hRt : V.Byt R := by rw [hRb]; exact Q.bytes_byt L
      have HUY := hide (Q.unp_yes (show Q.unp R = some L by rw [hRb]; exact Q.unp_bytes (unhide HM)))
      have hLl := Q.may_le (unhide HM)
      obtain ⟨i, hi⟩ : ∃ i, Q.first L d = i := ⟨_, rfl⟩
      have hle := Q.first_le L d
      rw [hi] at hle
      have HI := hide hi
      clear hi hRb
      by_cases hlt : i < L.length
      · obtain ⟨p, hp⟩ : ∃ p, L[i]? = some p := ⟨L[i], List.getElem?_eq_getElem hlt⟩
        obtain ⟨k1, k2, k3⟩ := Q.seek_at (unhide HUY) (unhide HI) hp
        obtain ⟨pd, pa, hpp⟩ : ∃ pd pa, p = ⟨pd, pa⟩ := ⟨p.d, p.a, rfl⟩
        have HSK := hide (fun v' w' (S : Sl .u8 w' v' R) => seek_b v' R d w' S hRt hRl pd pa ((i : Int) / 4) 0 (by rw [k1, hpp]) (by rw [k2]; omega) k3)
        have hge : ¬ (pd < d) := by have := Q.at_ge (unhide HI) hp; rw [hpp] at this; exact this
        have HFI := hide (Q.find_hit (unhide HM) hp (show p.d = pd by rw [hpp]))
        have HTK := hide (show Pt.eqs [⟨pd, pa⟩] ((L.drop i).take (i + 1 - i)) = true by
          rw [show i + 1 - i = 1 by omega, dropPt hp, ← hpp]
          exact Pt.eqs_refl _)
        have e1 : ((i : Int) / 4 == (i : Int) / 4) = true := by simp
        clear k1 k2 k3 hpp hp
        go_wp2_with fail
        refine (unhide HSK _ _ S3).mono ?_
        rintro e w4 ⟨a4, m4, c4, rfl, S4, B4⟩
        replace BB := below_trans' BB B4
        replace P := P.below B4
        obtain ⟨W4, hW4⟩ : ∃ W4, W4 = w4.alloc (.cells #[.int .i64 pd, .slice a4 m4 c4] 39) := ⟨_, rfl⟩
        have BW4 : Below w4.heap.size w4 W4 := by rw [hW4]; exact below_alloc _ _
        have x0 : W4.cell? ⟨w4.heap.size, 0, none⟩ = some (.int .i64 pd) := by rw [hW4]; simp
        have x1 : W4.cell? ⟨w4.heap.size, 1, none⟩ = some (.slice a4 m4 c4) := by rw [hW4]; simp
        have HW4 := hide hW4
        clear hW4 B4 S3
        go_wp2_with fail
        rw [← unhide HW4]
        refine (find_b _ L pd _ (P.below BW4) (i : Int) (unhide HFI)).mono ?_
        rintro e w5 ⟨rfl, B5⟩
        replace x0 := cell_keep x0 B5
        replace x1 := cell_keep x1 B5
        replace B5 := below_trans' BW4 B5
        replace BB := below_trans' BB B5
        replace P := P.below B5
        replace S4 := S4.below B5
        clear B5 BW4
        have h0 : ¬ ((i : Int) < 0) := by omega
        have h1 : ¬ ((L.length : Int) ≤ (i : Int)) := by omega
        obtain ⟨a', cap', hv', hlc, hcm, -, ho⟩ := P.open
        simp only [Value.slice.injEq, true_and] at hv'
        obtain ⟨rfl, rfl⟩ := hv'
        obtain ⟨b, off, rfl, hb, hc⟩ := ho (by omega)
        have C1 := P.cut i (i + 1) (by omega) (by omega)
        have R1 : ∀ w', (Instr.slice 22 (.slice (some ⟨b, off, none⟩) L.length vc) (some (.int .i64 (i : Int))) (some (.int .i64 ((i : Int) + 1))) none).run Try.prog w' = .ok (sliced (some ⟨b, off, none⟩) i (i + 1) vc 2) w' := fun w' => by
          rw [show (i : Int) + 1 = ((i + 1 : Nat) : Int) by omega]
          exact run_pl_within _ _ _ _ _ (by omega) (by omega) w'
        obtain ⟨ga, gn, gc, hgv⟩ : ∃ ga gn gc, sliced (some ⟨b, off, none⟩) i (i + 1) vc 2 = .slice ga gn gc := ⟨_, _, _, rfl⟩
        rw [hgv] at C1 R1
        have hw : IntKind.i64.wrap ((i : Int) + 1) = (i : Int) + 1 := by rw [IntKind.wrap_i64]; omega
        have R2 : ∀ w', (Instr.slice 22 (.slice (some ⟨b, off, none⟩) L.length vc) (some (.int .i64 (i : Int))) (some (.int .i64 (IntKind.i64.wrap ((i : Int) + 1)))) none).run Try.prog w' = .ok (.slice ga gn gc) w' := fun w' => by rw [hw]; exact R1 w'
        obtain ⟨T, hT⟩ : ∃ T, T = (L.drop i).take (i + 1 - i) := ⟨_, rfl⟩
        rw [← hT] at C1 HTK
        have BLit : Below w5.heap.size w5 (w5.alloc (.cells #[.int .i64 pd, .slice a4 m4 c4] 39)).drew := (below_alloc _ _).drew
        have PLit : Pl (w5.alloc (.cells #[.int .i64 pd, .slice a4 m4 c4] 39)).drew (.slice (some ⟨w5.heap.size, 0, none⟩) 1 1) [⟨pd, pa⟩] := (Pl.lit (p := ⟨pd, pa⟩) S4).below (Below.refl _ _).drew
        have HC := hide (rsame_b _ _ [⟨pd, pa⟩] T _ PLit (C1.below BLit) true (unhide HTK))
        clear hgv hT C1 PLit
        by_cases hi0 : i = 0
        · have t3 : decide (0 < i) = false := by simp; omega
          have t4 : decide ((0 : Int) < (i : Int)) = false := by simp; omega
          clear ho hc hi0
          go_wp2
          go_region_held3 (fun w' => w'.cell? ⟨w4.heap.size, 0, none⟩ = some (.int .i64 pd) ∧ w'.cell? ⟨w4.heap.size, 1, none⟩ = some (.slice a4 m4 c4))
            (first
              | go_keep
              | (go_split_ands; exact ⟨cell_keep (by assumption) B6, cell_keep (by assumption) B6⟩))
            ((go_at_call 14; refine (unhide HC).mono ?_; rintro e w6 ⟨rfl, B6⟩))
          replace BB := below_trans' BB (below_trans' BLit B6)
          go_wp2
          go_ret
          exact ⟨rfl, BB⟩
        · have t3 : decide (0 < i) = true := by simp; omega
          have t4 : decide ((0 : Int) < (i : Int)) = true := by simp; omega
          obtain ⟨q, hq⟩ : ∃ q, L[i - 1]? = some q := ⟨L[i - 1], List.getElem?_eq_getElem (by omega)⟩
          obtain ⟨-, -, g0, -, -⟩ := hc (i - 1) q hq
          have hqd := Q.before_lt (unhide HI) (j := i - 1) (by omega) hq
          obtain ⟨y, hy⟩ : ∃ y, q.d = y := ⟨_, rfl⟩
          rw [hy] at g0 hqd
          have hqd2 : ¬ (d ≤ y) := by omega
          clear ho hc hq hy
          go_wp2
          go_region_held3 (fun w' => w'.cell? ⟨w4.heap.size, 0, none⟩ = some (.int .i64 pd) ∧ w'.cell? ⟨w4.heap.size, 1, none⟩ = some (.slice a4 m4 c4))
            (first
              | go_keep
              | (go_split_ands; exact ⟨cell_keep (by assumption) B6, cell_keep (by assumption) B6⟩))
            ((go_at_call 14; refine (unhide HC).mono ?_; rintro e w6 ⟨rfl, B6⟩))
          replace BB := below_trans' BB (below_trans' BLit B6)
          go_wp2
          go_ret
          exact ⟨rfl, BB⟩
      · have hie : i = L.length := by omega
        obtain ⟨k1, k2, k3⟩ := Q.seek_none (unhide HUY) (show Q.first L d = L.length by rw [unhide HI, hie])
        have HSK := hide (fun v' w' (S : Sl .u8 w' v' R) => seek_b v' R d w' S hRt hRl 0 [] 0 2 k1 k2 k3)
        have HIE := hide hie
        clear k1 k2 k3 hie hlt hle
        go_wp2_with fail
        refine (unhide HSK _ _ S3).mono ?_
        rintro e w4 ⟨a4, m4, c4, rfl, S4, B4⟩
        replace BB := below_trans' BB B4
        replace P := P.below B4
        clear B4 S3 S4
        have BE := BB.alloc BB.size (.cells #[.int .i64 0, .slice a4 m4 c4] 39)
        by_cases hl0 : L.length = 0
        · have t0 : ((L.length : Int) == 0) = true := by rw [beq_iff_eq]; omega
          clear hl0
          go_wp2
          go_ret
          exact ⟨rfl, BE⟩
        · have t0 : ((L.length : Int) == 0) = false := by rw [beq_eq_false_iff_ne]; omega
          obtain ⟨a', cap', hv', hlc, hcm, -, ho⟩ := P.open
          simp only [Value.slice.injEq, true_and] at hv'
          obtain ⟨rfl, rfl⟩ := hv'
          obtain ⟨b, off, rfl, hb, hc⟩ := ho (by omega)
          obtain ⟨q, hq⟩ : ∃ q, L[L.length - 1]? = some q := ⟨L[L.length - 1], List.getElem?_eq_getElem (by omega)⟩
          obtain ⟨-, -, g0, -, -⟩ := hc (L.length - 1) q hq
          have hqd := Q.before_lt (unhide HI) (j := L.length - 1) (by have := unhide HIE; omega) hq
          obtain ⟨y, hy⟩ : ∃ y, q.d = y := ⟨_, rfl⟩
          rw [hy] at g0 hqd
          clear ho hc hq hy
          go_wp2
          go_ret
          exact ⟨rfl, BE⟩
end Go.Proofs.Ytjkaidlgooemoaa
