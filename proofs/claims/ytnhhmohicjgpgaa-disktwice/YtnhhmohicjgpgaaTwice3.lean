/-
  Behind a crash all is sure, and a second one changes nothing: the walk of DiskTwice.
-/
import Derived.Test.YtnhhmohicjgpgaaLawB
import Derived.Test.YtnhhmohicjgpgaaPlainSure
namespace Go.Proofs.Ytnhhmohicjgpgaa
open Go.RowKit

theorem crash_bys {L : List Pf} (hb : Bys L) (hu : K.Up L) (ps : List Int) : Bys (K.crash L ps) := by
  intro g hg c hc
  obtain ⟨f, hf, hl⟩ := K.crash_from hu hg
  obtain ⟨p, hp⟩ := hl.2.2.2
  rw [hp] at hc
  exact hb f hf c (List.mem_of_mem_take hc)
theorem K.crash_at {cap : Int} {L : List Pf} {ps : List Int} (hm : K.may cap L = true) {k : Nat} {g : Pf} (hg : (K.crash L ps)[k]? = some g) : g.su = true ∧ ∃ j : Nat, (if K.may cap L = true then K.at L g.nm else -1) = j := by
  obtain ⟨f, hf, hl⟩ := K.crash_from (K.may_up hm) (List.mem_of_getElem? hg)
  refine ⟨hl.1, ?_⟩
  rw [if_pos hm, hl.2.1]
  obtain ⟨i, hi, rfl⟩ := List.getElem_of_mem hf
  exact ⟨i, by simp [K.at, K.find_of_up (K.may_up hm) (List.getElem?_eq_getElem hi)]⟩
theorem K.crash_sures {L : List Pf} (hu : K.Up L) (ps : List Int) : ∀ f ∈ K.crash L ps, f.su = true := fun f hf => by
  obtain ⟨g, _, hl⟩ := K.crash_from hu hf
  exact hl.1

set_option maxHeartbeats 8000000 in
theorem diskTwice_walk (cap : Int) (v pv qv : Value) (L : List Pf) (ps qs : List Int) (w : World) (h : Fl w v L) (hby : Bys L) (hp : Sl .i64 w pv ps) (hq : Sl .i64 w qv qs) :
    Calls Try.prog 9 #[.agg #[.int .i64 cap, v], pv, qv] w fun e w' => e = .returned (.bool true) ∧ Below w.heap.size w w' := by
  obtain ⟨a, sc, rfl, hl, hm, hna, -⟩ := h.open
  obtain ⟨pa, pc, rfl, -⟩ := id hp
  obtain ⟨qa, qc, rfl, -⟩ := id hq
  obtain ⟨W, hW⟩ : ∃ W, W = w.alloc (.cells #[.int .i64 cap, .slice a L.length sc] 24) := ⟨_, rfl⟩
  have B0 : Below w.heap.size w W := by rw [hW]; exact below_alloc _ _
  have c0 : W.cell? ⟨w.heap.size, 0, none⟩ = some (.int .i64 cap) := by rw [hW]; simp
  have c1 : W.cell? ⟨w.heap.size, 1, none⟩ = some (.slice a L.length sc) := by rw [hW]; simp
  have H := h.below B0
  have P := hp.below B0
  have Q := hq.below B0
  have HW := hide hW
  clear hW h hp hq
  cases hfew : K.few L with
  | false =>
    go_enter Try.func9, Try.ntmps9
    go_wp2_with fail
    rw [← unhide HW]
    refine (awake3_any _).mono ?_
    rintro e w1 ⟨rfl, B1⟩
    have c0 := cell_keep c0 B1
    have c1 := cell_keep c1 B1
    have H := H.below B1
    have P := P.below B1
    have Q := Q.below B1
    have BB := below_trans' B0 B1
    go_wp2_with fail
    refine (few_b _ _ _ _ H _ hfew).mono ?_
    rintro e w2 ⟨rfl, B2⟩
    have c0 := cell_keep c0 B2
    have c1 := cell_keep c1 B2
    have H := H.below B2
    have P := P.below B2
    have Q := Q.below B2
    have BB := below_trans' BB B2
    go_wp2
    go_ret
    exact ⟨rfl, BB⟩
  | true =>
    have hf := K.few_fits hfew
    cases hmay : K.may cap L with
    | false =>
      go_enter Try.func9, Try.ntmps9
      go_wp2_with fail
      rw [← unhide HW]
      refine (awake3_any _).mono ?_
      rintro e w1 ⟨rfl, B1⟩
      have c0 := cell_keep c0 B1
      have c1 := cell_keep c1 B1
      have H := H.below B1
      have P := P.below B1
      have Q := Q.below B1
      have BB := below_trans' B0 B1
      go_wp2_with fail
      refine (few_b _ _ _ _ H _ hfew).mono ?_
      rintro e w2 ⟨rfl, B2⟩
      have c0 := cell_keep c0 B2
      have c1 := cell_keep c1 B2
      have H := H.below B2
      have P := P.below B2
      have Q := Q.below B2
      have BB := below_trans' BB B2
      go_wp2_with fail
      refine (may_b _ _ _ _ H hf _ hmay).mono ?_
      rintro e w3 ⟨rfl, B3⟩
      have c0 := cell_keep c0 B3
      have c1 := cell_keep c1 B3
      have H := H.below B3
      have P := P.below B3
      have Q := Q.below B3
      have BB := below_trans' BB B3
      go_wp2
      go_ret
      exact ⟨rfl, BB⟩
    | true =>
      by_cases g1 : 100 < ps.length
      · have g1' : decide (100 < (ps.length : Int)) = true := by simp; omega
        go_enter Try.func9, Try.ntmps9
        go_wp2_with fail
        rw [← unhide HW]
        refine (awake3_any _).mono ?_
        rintro e w1 ⟨rfl, B1⟩
        have c0 := cell_keep c0 B1
        have c1 := cell_keep c1 B1
        have H := H.below B1
        have P := P.below B1
        have Q := Q.below B1
        have BB := below_trans' B0 B1
        go_wp2_with fail
        refine (few_b _ _ _ _ H _ hfew).mono ?_
        rintro e w2 ⟨rfl, B2⟩
        have c0 := cell_keep c0 B2
        have c1 := cell_keep c1 B2
        have H := H.below B2
        have P := P.below B2
        have Q := Q.below B2
        have BB := below_trans' BB B2
        go_wp2_with fail
        refine (may_b _ _ _ _ H hf _ hmay).mono ?_
        rintro e w3 ⟨rfl, B3⟩
        have c0 := cell_keep c0 B3
        have c1 := cell_keep c1 B3
        have H := H.below B3
        have P := P.below B3
        have Q := Q.below B3
        have BB := below_trans' BB B3
        go_wp2
        go_ret
        exact ⟨rfl, BB⟩
      have g1' : decide (100 < (ps.length : Int)) = false := by simp; omega
      by_cases g2 : 100 < qs.length
      · have g2' : decide (100 < (qs.length : Int)) = true := by simp; omega
        go_enter Try.func9, Try.ntmps9
        go_wp2_with fail
        rw [← unhide HW]
        refine (awake3_any _).mono ?_
        rintro e w1 ⟨rfl, B1⟩
        have c0 := cell_keep c0 B1
        have c1 := cell_keep c1 B1
        have H := H.below B1
        have P := P.below B1
        have Q := Q.below B1
        have BB := below_trans' B0 B1
        go_wp2_with fail
        refine (few_b _ _ _ _ H _ hfew).mono ?_
        rintro e w2 ⟨rfl, B2⟩
        have c0 := cell_keep c0 B2
        have c1 := cell_keep c1 B2
        have H := H.below B2
        have P := P.below B2
        have Q := Q.below B2
        have BB := below_trans' BB B2
        go_wp2_with fail
        refine (may_b _ _ _ _ H hf _ hmay).mono ?_
        rintro e w3 ⟨rfl, B3⟩
        have c0 := cell_keep c0 B3
        have c1 := cell_keep c1 B3
        have H := H.below B3
        have P := P.below B3
        have Q := Q.below B3
        have BB := below_trans' BB B3
        go_wp2
        go_ret
        exact ⟨rfl, BB⟩
      have g2' : decide (100 < (qs.length : Int)) = false := by simp; omega
      have hup := K.may_up hmay
      obtain ⟨M, hMe⟩ : ∃ M, M = K.crash L ps := ⟨_, rfl⟩
      have hcr : (if K.may cap L = true then K.crash L ps else L) = M := by rw [if_pos hmay, hMe]
      have hmM : K.may cap M = true := by rw [hMe]; exact K.crash_may hmay ps
      have hFM : Fits M := by rw [hMe]; exact crash_fits hf hup ps
      have hbM : Bys M := by rw [hMe]; exact crash_bys hby hup ps
      have hat : ∀ (k : Nat) (g : Pf), M[k]? = some g → g.su = true ∧ ∃ j : Nat, (if K.may cap L = true then K.at L g.nm else -1) = j := by rw [hMe]; exact fun k g hg => K.crash_at hmay hg
      have hag : (if K.may cap M = true then K.crash M qs else M) = M := by rw [if_pos hmM]; rw [hMe]; exact K.crash_all (K.crash_sures hup ps) qs
      have hsu : K.sum M ≤ K.sum L := by rw [hMe]; exact K.crash_sum hup ps
      have HC := hide hcr
      have HG := hide hag
      have HAT := hide hat
      clear hcr hag hat hMe
      go_enter Try.func9, Try.ntmps9
      go_wp2_with fail
      rw [← unhide HW]
      refine (awake3_any _).mono ?_
      rintro e w1 ⟨rfl, B1⟩
      have c0 := cell_keep c0 B1
      have c1 := cell_keep c1 B1
      have H := H.below B1
      have P := P.below B1
      have Q := Q.below B1
      have BB := below_trans' B0 B1
      go_wp2_with fail
      refine (few_b _ _ _ _ H _ hfew).mono ?_
      rintro e w2 ⟨rfl, B2⟩
      have c0 := cell_keep c0 B2
      have c1 := cell_keep c1 B2
      have H := H.below B2
      have P := P.below B2
      have Q := Q.below B2
      have BB := below_trans' BB B2
      go_wp2_with fail
      refine (may_b _ _ _ _ H hf _ hmay).mono ?_
      rintro e w3 ⟨rfl, B3⟩
      have c0 := cell_keep c0 B3
      have c1 := cell_keep c1 B3
      have H := H.below B3
      have P := P.below B3
      have Q := Q.below B3
      have BB := below_trans' BB B3
      go_wp2_with fail
      refine (crash_b cap _ _ L ps _ H P hf _ (unhide HC)).mono ?_
      rintro e w4 ⟨v4, rfl, F4, B4⟩
      have c0 := cell_keep c0 B4
      have c1 := cell_keep c1 B4
      have H := H.below B4
      have P := P.below B4
      have Q := Q.below B4
      have BB := below_trans' BB B4
      obtain ⟨xa, xc, rfl, -⟩ := id F4
      have hz : w.heap.size < w4.heap.size := World.block_lt_of_cell? _ _ c0
      obtain ⟨W4, hW4⟩ : ∃ W, W = w4.alloc (.cells #[.int .i64 cap, .slice xa M.length xc] 24) := ⟨_, rfl⟩
      have BX4 : Below w4.heap.size w4 W4 := by rw [hW4]; exact below_alloc _ _
      have x0 : W4.cell? ⟨w4.heap.size, 0, none⟩ = some (.int .i64 cap) := by rw [hW4]; simp
      have x1 : W4.cell? ⟨w4.heap.size, 1, none⟩ = some (.slice xa M.length xc) := by rw [hW4]; simp
      have HW4 := hide hW4
      clear hW4
      have c0 := cell_keep c0 BX4
      have c1 := cell_keep c1 BX4
      have H := H.below BX4
      have Q := Q.below BX4
      have F4 := F4.below BX4
      have BB := below_trans' BB BX4
      obtain ⟨a', sc', hv', hl4, hm4, -, ho⟩ := F4.open
      simp only [Value.slice.injEq, true_and] at hv'
      obtain ⟨rfl, rfl⟩ := hv'
      have hx4 : w4.heap.size < W4.heap.size := World.block_lt_of_cell? _ _ x0
      have hM100 := hFM.1
      go_wp2
      rw [← unhide HW4]
      go_loopw [10] (fun i wr => ∃ k : Nat, k ≤ M.length ∧ i = .int .i64 k ∧ Below W4.heap.size W4 wr) (fun i _ => M.length - (intOf i).toNat)
      case atStart => exact ⟨0, Nat.zero_le _, rfl, Below.refl _ _⟩
      case round =>
        obtain ⟨k, hk, rfl, hbel⟩ := hrel
        have x0 := cell_keep x0 hbel
        have x1 := cell_keep x1 hbel
        have c0 := cell_keep c0 hbel
        have c1 := cell_keep c1 hbel
        have H := H.below hbel
        have Q := Q.below hbel
        have F4 := F4.below hbel
        have BB := below_trans' BB hbel
        by_cases hlt : k < M.length
        · obtain ⟨g, hgk⟩ : ∃ g, M[k]? = some g := ⟨M[k], List.getElem?_eq_getElem hlt⟩
          obtain ⟨b, off, rfl, hb, hc⟩ := ho (by omega)
          obtain ⟨fa, fc, e0, -, e2, -⟩ := hc k g hgk
          obtain ⟨hsu', j, hj⟩ := unhide HAT k g hgk
          rw [hsu'] at e2
          have hgs : g.nm.size ≤ maxLen := by have := (hFM.2 g (List.mem_of_getElem? hgk)).2; unfold maxLen; omega
          have HJ := hide hj
          have y0 := cells_below (cell_keep e0 hbel)
          have y2 := cells_below (cell_keep e2 hbel)
          have ex1 := cells_below x1
          have ec0 := cells_below c0
          have ec1 := cells_below c1
          have ki : (k : Int) < (M.length : Int) := by omega
          have hj0 : decide ((j : Int) < 0) = false := by simp
          clear hc ho e0 e2 hj hgk
          go_wp2
          refine region_below (by kernel_rfl) (by kernel_rfl) ?_
          iterate 18
            (first
              | go_big_quiet_skip
              | (go_big_quiet_want; go_big_quiet_op
                 first
                   | go_big_quiet_on
                   | (apply Exists.intro
                      refine ⟨fun w' hw' => ?_, ?_⟩
                      · first
                       | exact rfl
                       | (rw [ex1 w' hw']; exact ⟨rfl, rfl⟩)
                       | (rw [y0 w' hw']; exact ⟨rfl, rfl⟩)
                       | (rw [y2 w' hw']; exact ⟨rfl, rfl⟩)
                       | (rw [ec0 w' hw']; dsimp only [Result.andThen]; rw [ec1 w' hw']; exact ⟨rfl, rfl⟩)
                       | (go_at_call 21; exact (find_b _ _ L g.nm _ (H.below hw') hf hgs _ (unhide HJ)).mono fun e w'' ⟨h1, h2⟩ => ⟨h1, below_trans' hw' h2⟩)
                      go_big_quiet_on)))
          refine wpQuiet_nil ?_
          intro w9 hb9
          go_wp2
          go_roundw
          case rel => exact ⟨k + 1, by omega, by go_num, below_trans' hbel hb9⟩
          case measure => simp [intOf]; omega
        · have hus : ((if K.may cap M = true then K.sum M else 0 : Nat) : Int) = (K.sum M : Int) := by rw [if_pos hmM]
          have hus2 : ((if K.may cap L = true then K.sum L else 0 : Nat) : Int) = (K.sum L : Int) := by rw [if_pos hmay]
          have hcc : (cap == cap) = true := by simp
          have hle : decide ((K.sum M : Int) ≤ (K.sum L : Int)) = true := by simp; omega
          have HU := hide hus
          have HU2 := hide hus2
          clear ho hus hus2
          go_wp2
          go_region_held3 (fun w' => w'.cell? ⟨w4.heap.size, 0, none⟩ = some (.int .i64 cap) ∧ w'.cell? ⟨w4.heap.size, 1, none⟩ = some (.slice xa M.length xc) ∧ w'.cell? ⟨w.heap.size, 0, none⟩ = some (.int .i64 cap) ∧ w'.cell? ⟨w.heap.size, 1, none⟩ = some (.slice a L.length sc) ∧ Below wr.heap.size wr w')
            (first
              | (go_split_ands; exact ⟨x0, x1, c0, c1, (Below.refl _ _).drew⟩)
              | (go_split_ands; exact ⟨cell_keep (by assumption) B5, cell_keep (by assumption) B5, cell_keep (by assumption) B5, cell_keep (by assumption) B5, below_trans' (by assumption) B5⟩)
              | (go_split_ands; exact ⟨cell_keep (by assumption) B6, cell_keep (by assumption) B6, cell_keep (by assumption) B6, cell_keep (by assumption) B6, below_trans' (by assumption) B6⟩)
              | (go_split_ands; exact ⟨cell_keep (by assumption) B7, cell_keep (by assumption) B7, cell_keep (by assumption) B7, cell_keep (by assumption) B7, below_trans' (by assumption) B7⟩)
              | (go_split_ands; exact ⟨cell_keep (by assumption) B8, cell_keep (by assumption) B8, cell_keep (by assumption) B8, cell_keep (by assumption) B8, below_trans' (by assumption) B8⟩)
              | (go_split_ands; exact ⟨cell_keep (by assumption) B9, cell_keep (by assumption) B9, cell_keep (by assumption) B9, cell_keep (by assumption) B9, below_trans' (by assumption) B9⟩))
            (first
              | (go_at_call 18; go_split_ands; refine (may_b _ _ M _ (F4.below ?_) hFM _ hmM).mono ?_; assumption; rintro e w5 ⟨rfl, B5⟩)
              | (go_at_call 27; go_split_ands; refine (crash_b cap _ _ M qs _ (F4.below ?_) (Q.below ?_) hFM _ (unhide HG)).mono ?_; assumption; assumption; rintro e w6 ⟨v6, rfl, F6, B6⟩; obtain ⟨za, zc, rfl, -⟩ := id F6)
              | (go_at_call 23; go_split_ands; refine (same_any cap cap _ _ M M _ F6 (F4.below ?_) hbM hbM true (by simp [Pf.eqs_refl])).mono ?_; assumption; rintro e w7 ⟨rfl, B7⟩)
              | (go_at_call_of 19 (Value.agg #[Value.int IntKind.i64 cap, Value.slice xa M.length xc]); go_split_ands; refine (used_b3 _ _ M _ (F4.below ?_) hFM _ (unhide HU)).mono ?_; assumption; rintro e w8 ⟨rfl, B8⟩)
              | (go_at_call_of 19 (Value.agg #[Value.int IntKind.i64 cap, Value.slice a L.length sc]); go_split_ands; refine (used_b3 _ _ L _ (H.below ?_) hf _ (unhide HU2)).mono ?_; assumption; rintro e w9 ⟨rfl, B9⟩))
          have BE := below_trans' (below_trans' (below_trans' (below_trans' (below_trans' BB.drew B5) B6) B7) B8) B9
          go_wp2
          go_ret
          exact ⟨rfl, BE⟩
end Go.Proofs.Ytnhhmohicjgpgaa
