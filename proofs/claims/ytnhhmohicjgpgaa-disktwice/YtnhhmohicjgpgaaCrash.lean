/-
  The contract of Crash.
-/
import Derived.Test.YtnhhmohicjgpgaaRCrash
import Derived.Test.YtnhhmohicjgpgaaDeeds
import Derived.Deep.AppendLies
namespace Go.Proofs.Ytnhhmohicjgpgaa
open Go.RowKit

theorem drop_one (ps : List Int) (n : Nat) : (ps.drop n).drop 1 = ps.drop (n + 1) := by simp
theorem drop_none {ps : List Int} {n : Nat} (h : ps.drop n = []) : ps[n]? = none := by
  rw [List.drop_eq_nil_iff] at h
  exact List.getElem?_eq_none h
theorem drop_some {ps : List Int} {n : Nat} {p : Int} {q : List Int} (h : ps.drop n = p :: q) : ps[n]? = some p := by
  have := congrArg (fun l => l[0]?) h
  simpa using this
theorem drop_nil_succ {ps : List Int} {n : Nat} (h : ps.drop n = []) : ps.drop (n + 1) = [] := by
  rw [List.drop_eq_nil_iff] at h ⊢
  omega

set_option maxHeartbeats 4000000 in
theorem crash_any (cap : Int) (v pv : Value) (L : List Pf) (ps : List Int) (w : World) (h : Fl w v L) (hp : Sl .i64 w pv ps) (hf : Fits L) :
    Calls Try.prog 27 #[.agg #[.int .i64 cap, v], pv] w fun e w' => ∃ v', e = .returned (.agg #[.int .i64 cap, v']) ∧ Fl w' v' (if K.may cap L = true then K.crash L ps else L) ∧ Below w.heap.size w w' := by
  have hL := hf.1
  obtain ⟨i0, hi, hz0', hz1', hz2'⟩ := info_parts Try.info48
  obtain ⟨a, sc, rfl, hl, hm, hna, -⟩ := h.open
  obtain ⟨pa, pc, rfl, -⟩ := id hp
  obtain ⟨W, hW⟩ : ∃ W, W = (w.alloc (.cells #[.int .i64 cap, .slice a L.length sc] 24)).alloc (.cells #[.int .i64 0, .slice none 0 0] 24) := ⟨_, rfl⟩
  have B0 : Below w.heap.size w W := by rw [hW]; exact (below_alloc _ _).alloc (by simp) _
  have H0 := h.below B0
  have P0 := hp.below B0
  have c0 : W.cell? ⟨w.heap.size, 0, none⟩ = some (.int .i64 cap) := by rw [hW]; simp [go_sem]
  have c1 : W.cell? ⟨w.heap.size, 1, none⟩ = some (.slice a L.length sc) := by rw [hW]; simp [go_sem]
  have r0 : W.cell? ⟨w.heap.size + 1, 0, none⟩ = some (.int .i64 0) := by rw [hW]; simp [go_sem]
  have r1 : W.cell? ⟨w.heap.size + 1, 1, none⟩ = some (.slice none 0 0) := by rw [hW]; simp [go_sem]
  have n0 : W.frozen? ⟨w.heap.size + 1, 0, none⟩ = false := by rw [hW]; simp [go_sem]
  have n1 : W.frozen? ⟨w.heap.size + 1, 1, none⟩ = false := by rw [hW]; simp [go_sem]
  have HW := hide hW
  clear hW h hp
  cases hmay : K.may cap L with
  | false =>
    go_enter Try.func27, Try.ntmps27
    go_wp2_with fail
    rw [← unhide HW]
    refine (own_any _ _ _ _ H0 hf).mono ?_
    rintro e w1 ⟨v1, rfl, F1, B1⟩
    obtain ⟨ma, mc, rfl, -⟩ := id F1
    have xc0 := cell_keep c0 B1
    have xc1 := cell_keep c1 B1
    have hz0 : w.heap.size < w1.heap.size := World.block_lt_of_cell? _ _ xc0
    obtain ⟨WM, hWM⟩ : ∃ WM, WM = w1.alloc (.cells #[.int .i64 cap, .slice ma L.length mc] 24) := ⟨_, rfl⟩
    have BM : Below w1.heap.size w1 WM := by rw [hWM]; exact below_alloc _ _
    have HWM := hide hWM
    have m0 : WM.cell? ⟨w1.heap.size, 0, none⟩ = some (.int .i64 cap) := by rw [hWM]; simp
    have m1 : WM.cell? ⟨w1.heap.size, 1, none⟩ = some (.slice ma L.length mc) := by rw [hWM]; simp
    have HM := (H0.below B1).below BM
    clear hWM
    go_wp2_with fail
    rw [← unhide HWM]
    refine (may_b _ _ _ _ HM hf _ hmay).mono ?_
    rintro e w2 ⟨rfl, B2⟩
    have BA := below_trans' B1 (below_trans' BM B2)
    have BB := below_trans' B0 BA
    have F2 := (F1.below BM).below B2
    have P2 := P0.below BA
    have ym0 := cell_keep m0 B2
    have ym1 := cell_keep m1 B2
    have yc0 := cell_keep c0 BA
    have yr0 := cell_keep r0 BA
    have yr1 := cell_keep r1 BA
    have yn0 := frozen_keep n0 BA (World.block_lt_of_cell? _ _ r0)
    have yn1 := frozen_keep n1 BA (World.block_lt_of_cell? _ _ r1)
    have hy0 : w.heap.size < w2.heap.size := World.block_lt_of_cell? _ _ yc0
    have hy1 : w.heap.size + 1 < w2.heap.size := World.block_lt_of_cell? _ _ yr0
    clear H0 P0 HM F1 B1 BM B2 m0 m1 c0 c1 r0 r1 n0 n1 xc0 xc1 BA B0
    go_wp2
    exact bodyPost_ret (v := .agg #[.int .i64 cap, .slice ma L.length mc]) (by simp [results, Try.results27, go_sem, yr0, yr1]) rfl ⟨_, rfl, F2.set2 yr0 yr1 _ _, (BB.setCell (by simp) _).setCell (by simp) _⟩
  | true =>
    go_enter Try.func27, Try.ntmps27
    go_wp2_with fail
    rw [← unhide HW]
    refine (own_any _ _ _ _ H0 hf).mono ?_
    rintro e w1 ⟨v1, rfl, F1, B1⟩
    obtain ⟨ma, mc, rfl, -⟩ := id F1
    have xc0 := cell_keep c0 B1
    have xc1 := cell_keep c1 B1
    have hz0 : w.heap.size < w1.heap.size := World.block_lt_of_cell? _ _ xc0
    obtain ⟨WM, hWM⟩ : ∃ WM, WM = w1.alloc (.cells #[.int .i64 cap, .slice ma L.length mc] 24) := ⟨_, rfl⟩
    have BM : Below w1.heap.size w1 WM := by rw [hWM]; exact below_alloc _ _
    have HWM := hide hWM
    have m0 : WM.cell? ⟨w1.heap.size, 0, none⟩ = some (.int .i64 cap) := by rw [hWM]; simp
    have m1 : WM.cell? ⟨w1.heap.size, 1, none⟩ = some (.slice ma L.length mc) := by rw [hWM]; simp
    have HM := (H0.below B1).below BM
    clear hWM
    go_wp2_with fail
    rw [← unhide HWM]
    refine (may_b _ _ _ _ HM hf _ hmay).mono ?_
    rintro e w2 ⟨rfl, B2⟩
    have BA := below_trans' B1 (below_trans' BM B2)
    have BB := below_trans' B0 BA
    have F2 := (F1.below BM).below B2
    have P2 := P0.below BA
    have ym0 := cell_keep m0 B2
    have ym1 := cell_keep m1 B2
    have yc0 := cell_keep c0 BA
    have yr0 := cell_keep r0 BA
    have yr1 := cell_keep r1 BA
    have yn0 := frozen_keep n0 BA (World.block_lt_of_cell? _ _ r0)
    have yn1 := frozen_keep n1 BA (World.block_lt_of_cell? _ _ r1)
    have hy0 : w.heap.size < w2.heap.size := World.block_lt_of_cell? _ _ yc0
    have hy1 : w.heap.size + 1 < w2.heap.size := World.block_lt_of_cell? _ _ yr0
    clear H0 P0 HM F1 B1 BM B2 m0 m1 c0 c1 r0 r1 n0 n1 xc0 xc1 BA B0
    obtain ⟨a', sc', hv', -, -, -, ho⟩ := F2.open
    simp only [Value.slice.injEq, true_and] at hv'
    obtain ⟨rfl, rfl⟩ := hv'
    go_wp2
    go_loopw [1, 6, 19] (fun pk lf i wr => ∃ k : Nat, k ≤ L.length ∧ i = .int .i64 k ∧ Sl .i64 w2 pk (ps.drop (K.crTo L ps k).2) ∧ FO w2.heap.size w2 wr lf (K.crTo L ps k).1 ∧ Below w2.heap.size w2 wr) (fun _ _ i _ => L.length - (intOf i).toNat)
    case atStart => exact ⟨0, Nat.zero_le _, rfl, P2, FO.nil _ _ _, Below.refl _ _⟩
    case round =>
      obtain ⟨k, hk, rfl, hpk, hown, hbel⟩ := hrel
      have hcl := K.cr_len L ps k
      have hbs := hbel.size
      by_cases hlt : k < L.length
      · obtain ⟨f, hfk⟩ : ∃ f, L[k]? = some f := ⟨L[k], List.getElem?_eq_getElem hlt⟩
        obtain ⟨b, off, rfl, hb, hc⟩ := ho (by omega)
        obtain ⟨fa, fc, e0, e1, e2, e3⟩ := hc k f hfk
        have g0 := (hbel.cell (p := ⟨b, off + k * 3, none⟩) hb).trans e0
        have g1 := (hbel.cell (p := ⟨b, off + k * 3 + 1, none⟩) hb).trans e1
        have g2 := (hbel.cell (p := ⟨b, off + k * 3 + 2, none⟩) hb).trans e2
        have hbr : b < wr.heap.size := by omega
        have hdl := (hf.2 f (List.mem_of_getElem? hfk)).1
        cases hsu : f.su with
        | true =>
          have HCR := hide (K.cr_sure (ps := ps) hfk hsu)
          have HFE : Hid (f = ⟨f.nm, f.da, true⟩) := by rw [← hsu]; exact rfl
          rw [hsu] at g2
          clear ho hc e0 e1 e2 hfk hsu
          go_wp2_with (at_builtin; refine append_file (f := ⟨f.nm, f.da, true⟩) rfl _ _ rfl rfl rfl (by simp) (hown.alloc _) e3 (hbel.alloc hbs _) (by simp; omega) (by omega) ?_; intro v3 w3 O3 B3 _)
          go_roundw
          case rel => exact ⟨k + 1, by omega, by go_num, by rw [unhide HCR]; exact hpk, by rw [unhide HCR, unhide HFE]; exact O3, B3⟩
          case measure => simp [intOf]; omega
        | false =>
          rw [hsu] at g2
          obtain ⟨n, hn⟩ : ∃ n, n = (K.crTo L ps k).2 := ⟨_, rfl⟩
          rw [← hn] at hpk
          obtain ⟨q, hq⟩ : ∃ q, q = ps.drop n := ⟨_, rfl⟩
          rw [← hq] at hpk
          obtain ⟨ka, kc, rfl, kl, km, kn, kcell⟩ := hpk.open
          cases q with
          | nil =>
            have HCR := hide (K.cr_none (ps := ps) hfk hsu (by rw [← hn]; exact drop_none hq.symm))
            have HQ := hide (drop_nil_succ hq.symm)
            have HN := hide hn
            clear ho hc e0 e1 e2 e3 hfk hsu kcell hq hn
            go_wp2
            go_roundw
            case rel => exact ⟨k + 1, by omega, by go_num, by rw [unhide HCR, ← unhide HN, unhide HQ]; exact hpk, by rw [unhide HCR]; exact hown.alloc _, hbel.alloc hbs _⟩
            case measure => simp [intOf]; omega
          | cons p q =>
            obtain ⟨c2a, c2c, s1, S2⟩ := hpk.cut1 (by simp)
            obtain ⟨kb, ko, rfl, hkb, hkc⟩ := kcell (by simp)
            have hk0 : wr.cell? ⟨kb, ko, none⟩ = some (.int .i64 p) := (hbel.cell (p := ⟨kb, ko, none⟩) hkb).trans (by simpa using hkc 0 (by simp))
            have hkr : kb < wr.heap.size := by omega
            have hps := drop_some hq.symm
            have HQ : Hid ((p :: q).drop 1 = ps.drop (n + 1)) := by rw [hq]; exact drop_one ps n
            have hqn : 0 < (p :: q).length := by simp
            have HN := hide hn
            obtain ⟨lq, hlq⟩ : ∃ lq, lq = p :: q := ⟨_, rfl⟩
            rw [← hlq] at s1 S2 HQ hpk hqn
            have HLQ := hide hlq
            have hqi : (0 : Int) < (lq.length : Int) := by omega
            by_cases hneg : p < 0
            · have HCR := hide (K.cr_neg (ps := ps) hfk hsu (by rw [← hn]; exact hps) hneg)
              rw [← hlq]
              clear ho hc e0 e1 e2 e3 hfk hsu hps hq hn hkc kl km kn hpk kcell hlq
              go_wp2
              go_quiet (fail)
              go_wp2
              go_roundw
              case rel => exact ⟨k + 1, by omega, by go_num, by rw [unhide HCR, ← unhide HN, ← unhide HQ]; simpa using S2, by rw [unhide HCR]; exact hown.alloc _, below_dr' (hbel.alloc hbs _) _⟩
              case measure => simp [intOf]; omega
            · have HCR := hide (K.cr_keep (ps := ps) hfk hsu (by rw [← hn]; exact hps) hneg)
              obtain ⟨m, rfl⟩ := Int.eq_ofNat_of_zero_le (show 0 ≤ p by omega)
              simp only [Int.toNat_natCast] at HCR
              rw [← hlq]
              by_cases hle : f.da.length < m
              · obtain ⟨sl1, sl2⟩ := e3.to f.da.length (Nat.le_refl _)
                have HTK : Hid (f.da.take m = f.da.take f.da.length) := by rw [List.take_of_length_le (by omega), List.take_of_length_le (Nat.le_refl _)]; rfl
                have hi1 : (f.da.length : Int) < (m : Int) := by omega
                have hi2 : (0 : Int) ≤ (f.da.length : Int) := by omega
                clear ho hc e0 e1 e2 e3 hfk hsu hps hq hn hkc kl km kn hpk kcell hlq
                go_wp2
                go_quiet (fail)
                obtain ⟨wq, hwq⟩ : ∃ wq, wq = (wr.alloc (.cells #[.string f.nm, .slice fa f.da.length fc, .bool false] 48)).drewN nq := ⟨_, rfl⟩
                have y0 : wq.cell? ⟨wr.heap.size, 0, none⟩ = some (.string f.nm) := by rw [hwq]; simp
                have y1 : wq.cell? ⟨wr.heap.size, 1, none⟩ = some (.slice fa f.da.length fc) := by rw [hwq]; simp
                have zq : wq.heap.size = wr.heap.size + 1 := by rw [hwq]; simp
                obtain ⟨cs, hown1, hfc⟩ := hown
                have hownq : wq.ownsRow w2.heap.size 48 3 u6 (K.crTo L ps k).1.length cs := by rw [hwq]; exact hown1.alloc _
                have hbq : Below w2.heap.size w2 wq := by rw [hwq]; exact below_dr' (hbel.alloc hbs _) _
                have ag : u6.ownBlock ≠ some wr.heap.size := fun h => by have := (hown1.lt _ h).2; omega
                have HZQ := hide zq
                rw [← hwq]
                clear hwq g0 g1 g2 hk0 zq
                have hm0 : (0 : Int) ≤ (m : Int) := Int.natCast_nonneg _
                go_wp2
                have hlen : (K.crTo L ps k).1.length ≤ 100 := by omega
                go_region_held3 (fun w' => w'.cell? ⟨wr.heap.size, 0, none⟩ = some (.string f.nm) ∧ w'.cell? ⟨wr.heap.size, 1, none⟩ = some (.slice fa f.da.length fc))
                  (first
                    | go_keep
                    | (go_split_ands
                       refine ⟨?_, ?_⟩
                       · (rw [hgrow.cell_far _ (by simp; have := unhide HZQ; omega) (Ne.symm ag)]; assumption)
                       · (rw [hgrow.cell_far _ (by simp; have := unhide HZQ; omega) (Ne.symm ag)]; assumption)))
                  ((refine step_append_lies _ (by rfl) _ _ _ (by rfl) w2.heap.size 48 i0 _ 3 48 Try.underlying22 hi hz0' hz1' hz2' rfl (by omega) u6 _ _ (by rfl) ((hownq.alloc _).drew)
                      ⟨wq.heap.size, 0, none⟩ 1 1 [.string f.nm, .slice fa f.da.length fc, .bool true] (by rfl) (by rfl) (World.news_of_block (cs := #[.string f.nm, .slice fa f.da.length fc, .bool true]) (t := 48) (fr := (0, 0)) (heap_alloc_new wq _)) (by simp [Value.oneCell'])
                      (by omega) (by unfold maxLen; omega) (by omega) (by have := hbq.size; simp; omega) (wq.heap.size + 1) (by simp) ?_; intro gg gcap w3 hown3 hgrow hat hlt3))
                go_wp2
                go_roundw
                case rel =>
                  refine ⟨k + 1, by omega, by go_num, by rw [unhide HCR, ← unhide HN, ← unhide HQ]; simpa using S2, ?_, ?_⟩
                  · rw [unhide HCR, unhide HTK]
                    exact ⟨_, by simpa using hown3, hfc.append (FCp.one (f := ⟨f.nm, f.da.take f.da.length, true⟩) sl2)⟩
                  · exact ((hbq.alloc hbq.size _).drew).grown hgrow (by have := hbq.size; simp; omega) (fun j hj => (hownq.lt j hj).1)
                case measure => simp [intOf]; omega
              · obtain ⟨sl1, sl2⟩ := e3.to m (by omega)
                have hi1 : ¬ (f.da.length : Int) < (m : Int) := by omega
                have hi2 : (m : Int) ≤ (f.da.length : Int) := by omega
                clear ho hc e0 e1 e2 e3 hfk hsu hps hq hn hkc kl km kn hpk kcell hlq
                go_wp2
                go_quiet (fail)
                obtain ⟨wq, hwq⟩ : ∃ wq, wq = (wr.alloc (.cells #[.string f.nm, .slice fa f.da.length fc, .bool false] 48)).drewN nq := ⟨_, rfl⟩
                have y0 : wq.cell? ⟨wr.heap.size, 0, none⟩ = some (.string f.nm) := by rw [hwq]; simp
                have y1 : wq.cell? ⟨wr.heap.size, 1, none⟩ = some (.slice fa f.da.length fc) := by rw [hwq]; simp
                have zq : wq.heap.size = wr.heap.size + 1 := by rw [hwq]; simp
                obtain ⟨cs, hown1, hfc⟩ := hown
                have hownq : wq.ownsRow w2.heap.size 48 3 u6 (K.crTo L ps k).1.length cs := by rw [hwq]; exact hown1.alloc _
                have hbq : Below w2.heap.size w2 wq := by rw [hwq]; exact below_dr' (hbel.alloc hbs _) _
                have ag : u6.ownBlock ≠ some wr.heap.size := fun h => by have := (hown1.lt _ h).2; omega
                have HZQ := hide zq
                rw [← hwq]
                clear hwq g0 g1 g2 hk0 zq
                have hm0 : (0 : Int) ≤ (m : Int) := Int.natCast_nonneg _
                go_wp2
                have hlen : (K.crTo L ps k).1.length ≤ 100 := by omega
                go_region_held3 (fun w' => w'.cell? ⟨wr.heap.size, 0, none⟩ = some (.string f.nm) ∧ w'.cell? ⟨wr.heap.size, 1, none⟩ = some (.slice fa f.da.length fc))
                  (first
                    | go_keep
                    | (go_split_ands
                       refine ⟨?_, ?_⟩
                       · (rw [hgrow.cell_far _ (by simp; have := unhide HZQ; omega) (Ne.symm ag)]; assumption)
                       · (rw [hgrow.cell_far _ (by simp; have := unhide HZQ; omega) (Ne.symm ag)]; assumption)))
                  ((refine step_append_lies _ (by rfl) _ _ _ (by rfl) w2.heap.size 48 i0 _ 3 48 Try.underlying22 hi hz0' hz1' hz2' rfl (by omega) u6 _ _ (by rfl) ((hownq.alloc _).drew)
                      ⟨wq.heap.size, 0, none⟩ 1 1 [.string f.nm, .slice fa m fc, .bool true] (by rfl) (by rfl) (World.news_of_block (cs := #[.string f.nm, .slice fa m fc, .bool true]) (t := 48) (fr := (0, 0)) (heap_alloc_new wq _)) (by simp [Value.oneCell'])
                      (by omega) (by unfold maxLen; omega) (by omega) (by have := hbq.size; simp; omega) (wq.heap.size + 1) (by simp) ?_; intro gg gcap w3 hown3 hgrow hat hlt3))
                go_wp2
                go_roundw
                case rel =>
                  refine ⟨k + 1, by omega, by go_num, by rw [unhide HCR, ← unhide HN, ← unhide HQ]; simpa using S2, ?_, ?_⟩
                  · rw [unhide HCR]
                    exact ⟨_, by simpa using hown3, hfc.append (FCp.one (f := ⟨f.nm, f.da.take m, true⟩) sl2)⟩
                  · exact ((hbq.alloc hbq.size _).drew).grown hgrow (by have := hbq.size; simp; omega) (fun j hj => (hownq.lt j hj).1)
                case measure => simp [intOf]; omega
      · have FE : Fl wr _ _ := hown.fl (fun _ _ h => h.below hbel)
        obtain ⟨cs, hown1, -⟩ := hown
        obtain ⟨xa, xn, xc, rfl⟩ := slice_shape hown1
        have zc0 := (hbel.cell (p := ⟨w.heap.size, 0, none⟩) hy0).trans yc0
        have zr0 := (hbel.cell (p := ⟨w.heap.size + 1, 0, none⟩) hy1).trans yr0
        have zr1 := (hbel.cell (p := ⟨w.heap.size + 1, 1, none⟩) hy1).trans yr1
        have zn0 := (hbel.frozen (p := ⟨w.heap.size + 1, 0, none⟩) hy1).trans yn0
        have zn1 := (hbel.frozen (p := ⟨w.heap.size + 1, 1, none⟩) hy1).trans yn1
        have BE := below_trans' BB hbel
        have hkl : k = L.length := by omega
        have HCR : Hid ((K.crTo L ps k).1 = K.crash L ps) := by rw [hkl]; rfl
        clear hown1 hkl ho
        go_wp2
        exact bodyPost_ret (v := .agg #[.int .i64 cap, .slice xa xn xc]) (by simp [results, Try.results27, go_sem, zr0, zr1]) rfl ⟨_, rfl, by rw [← unhide HCR]; exact FE.set2 zr0 zr1 _ _, (BE.setCell (by simp) _).setCell (by simp) _⟩
end Go.Proofs.Ytnhhmohicjgpgaa
