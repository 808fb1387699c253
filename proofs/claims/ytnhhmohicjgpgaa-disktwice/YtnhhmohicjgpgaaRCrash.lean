/-
  The contract of the document's own Crash.
-/
import Derived.Test.YtnhhmohicjgpgaaPlainCrash
import Derived.Test.YtnhhmohicjgpgaaDo
namespace Go.Proofs.Ytnhhmohicjgpgaa
open Go.RowKit

theorem rcrash_end {B : Nat} {w0 wr : World} {v : Value} {M : List Pf} {cs : List Value} (h1 : wr.ownsRow B 48 3 v M.length cs) (h2 : FCp (Sl .u8 w0) cs M) (hb : Below w0.heap.size w0 wr) : Fl wr v M :=
  FO.fl (B := B) (w0 := w0) ⟨cs, h1, h2⟩ fun _ _ h => h.below hb

theorem rcrash_step {w1 wr w2 : World} {o : Obj} {c vo v2 : Value} {n m : Nat} {cs cs2 : List Value} (hown : wr.ownsRow (w1.heap.size + 1) 48 3 vo n cs) (q0 : wr.cell? ⟨w1.heap.size, 0, none⟩ = some c) (q1 : wr.cell? ⟨w1.heap.size, 1, none⟩ = some vo) (q2 : wr.frozen? ⟨w1.heap.size, 1, none⟩ = false)
    (hbel : Below w1.heap.size w1 wr) (hzr : w1.heap.size < wr.heap.size) (O2 : w2.ownsRow (w1.heap.size + 1) 48 3 v2 m cs2) (G2 : (wr.alloc o).grownBy w2 vo.ownBlock) :
    w2.cell? ⟨w1.heap.size, 1, none⟩ = some vo ∧ w2.frozen? ⟨w1.heap.size, 1, none⟩ = false ∧ ((w2.setCell ⟨w1.heap.size, 1, none⟩ v2).ownsRow (w1.heap.size + 1) 48 3 v2 m cs2 ∧ (w2.setCell ⟨w1.heap.size, 1, none⟩ v2).cell? ⟨w1.heap.size, 0, none⟩ = some c ∧
      (w2.setCell ⟨w1.heap.size, 1, none⟩ v2).cell? ⟨w1.heap.size, 1, none⟩ = some v2 ∧ (w2.setCell ⟨w1.heap.size, 1, none⟩ v2).frozen? ⟨w1.heap.size, 1, none⟩ = false ∧ Below w1.heap.size w1 (w2.setCell ⟨w1.heap.size, 1, none⟩ v2) ∧ w1.heap.size < (w2.setCell ⟨w1.heap.size, 1, none⟩ v2).heap.size) := by
  have hne : some w1.heap.size ≠ vo.ownBlock := fun e => by have := (hown.lt _ e.symm).1; omega
  have hlt : w1.heap.size < (wr.alloc o).heap.size := by simp; omega
  have hb := G2.block w1.heap.size hlt hne
  have ha : (wr.alloc o).heap[w1.heap.size]? = wr.heap[w1.heap.size]? := Below.heap_alloc wr o _ hzr
  have hh : w2.heap[w1.heap.size]? = wr.heap[w1.heap.size]? := hb.trans ha
  have t0 : w2.cell? ⟨w1.heap.size, 0, none⟩ = some c := (World.cell?_of_block (a := ⟨w1.heap.size, 0, none⟩) hh).trans q0
  have t1 : w2.cell? ⟨w1.heap.size, 1, none⟩ = some vo := (World.cell?_of_block (a := ⟨w1.heap.size, 1, none⟩) hh).trans q1
  have t2 : w2.frozen? ⟨w1.heap.size, 1, none⟩ = false := (World.frozen?_of_block (a := ⟨w1.heap.size, 1, none⟩) hh).trans q2
  have B2 : Below w1.heap.size w1 w2 := (hbel.alloc (by omega) o).grown G2 (by simp; omega) (fun j hj => by have := (hown.lt j hj).1; omega)
  refine ⟨t1, t2, own_set O2 (fun j hj => by have := (O2.lt j hj).1; show j ≠ w1.heap.size; omega) _, ?_, World.cell?_setCell_same _ _ _ t1, ?_, B2.setCell (Nat.le_refl _) _, ?_⟩
  · rw [World.cell?_setCell_other _ _ _ _ (by simp)]; exact t0
  · simp [go_sem, t2]
  · have := G2.size
    simp at this ⊢
    omega

theorem slice_shape {wr : World} {B : Nat} {v : Value} {M : List Pf} {cs : List Value} (h1 : wr.ownsRow B 48 3 v M.length cs) : ∃ xa xn xc, v = .slice xa xn xc := by
  rcases h1.2 with ⟨rfl, h0⟩ | ⟨g, cap, cur, rfl, _⟩
  · exact ⟨none, 0, 0, rfl⟩
  · exact ⟨_, _, _, rfl⟩

theorem picks_at {ps : List Int} {n : Nat} {p : Int} (h : ps[n]? = some p) : ps.getD n 0 = p := by simp [List.getD, h]

set_option maxHeartbeats 4000000 in
theorem rcrash_any (cap : Int) (v pv : Value) (L : List Pf) (ps : List Int) (w : World) (h : Fl w v L) (hp : Sl .i64 w pv ps) (hf : Fits L) :
    Calls Try.prog 28 #[.agg #[.int .i64 cap, v], pv] w fun e w' => ∃ v', e = .returned (.agg #[.int .i64 cap, v']) ∧ Fl w' v' (if K.may cap L = true then K.crash L ps else L) ∧ Below w.heap.size w w' := by
  have hL := hf.1
  obtain ⟨a, sc, rfl, hl, hm, hna, -⟩ := h.open
  obtain ⟨pa, pc, rfl, pl, pm, pn, -⟩ := hp.open
  obtain ⟨W, hW⟩ : ∃ W, W = (w.alloc (.cells #[.int .i64 cap, .slice a L.length sc] 24)).alloc (.cells #[.int .i64 0, .slice none 0 0] 24) := ⟨_, rfl⟩
  have B0 : Below w.heap.size w W := by rw [hW]; exact (below_alloc _ _).alloc (by simp) _
  have H0 := h.below B0
  have P0 := hp.below B0
  have c0 : W.cell? ⟨w.heap.size, 0, none⟩ = some (.int .i64 cap) := by rw [hW]; simp [go_sem]
  have c1 : W.cell? ⟨w.heap.size, 1, none⟩ = some (.slice a L.length sc) := by rw [hW]; simp [go_sem]
  have r0 : W.cell? ⟨w.heap.size + 1, 0, none⟩ = some (.int .i64 0) := by rw [hW]; simp [go_sem]
  have r1 : W.cell? ⟨w.heap.size + 1, 1, none⟩ = some (.slice none 0 0) := by rw [hW]; simp [go_sem]
  have n0 : W.frozen? ⟨w.heap.size + 1, 0, none⟩ = false := by rw [hW]; simp [go_sem]
  have n1 : W.frozen? ⟨w.heap.size + 1, 1, none⟩ = false := by rw [hW]; simp [go_sem]
  have HW := hide hW
  clear hW h hp
  cases hmay : K.may cap L with
  | false =>
    go_enter Try.func28, Try.ntmps28
    go_wp2_with fail
    rw [← unhide HW]
    refine (rmay_b _ _ _ _ H0 hf _ hmay).mono ?_
    rintro e w1 ⟨rfl, B1⟩
    have H1 := H0.below B1
    have xc0 := cell_keep c0 B1
    have xc1 := cell_keep c1 B1
    have xr0 := cell_keep r0 B1
    have xr1 := cell_keep r1 B1
    have xn0 := frozen_keep n0 B1 (World.block_lt_of_cell? _ _ r0)
    have xn1 := frozen_keep n1 B1 (World.block_lt_of_cell? _ _ r1)
    clear H0 P0 c0 c1 r0 r1 n0 n1
    go_wp2
    exact bodyPost_ret (v := .agg #[.int .i64 cap, .slice a L.length sc]) (by simp [results, Try.results28, go_sem, xr0, xr1]) rfl ⟨_, rfl, H1.set2 xr0 xr1 _ _, ((below_trans' B0 B1).setCell (by simp) _).setCell (by simp) _⟩
  | true =>
    go_enter Try.func28, Try.ntmps28
    go_wp2_with fail
    rw [← unhide HW]
    refine (rmay_b _ _ _ _ H0 hf _ hmay).mono ?_
    rintro e w1 ⟨rfl, B1⟩
    have H1 := H0.below B1
    have P1 := P0.below B1
    have xc0 := cell_keep c0 B1
    have xc1 := cell_keep c1 B1
    have xr0 := cell_keep r0 B1
    have xr1 := cell_keep r1 B1
    have xn0 := frozen_keep n0 B1 (World.block_lt_of_cell? _ _ r0)
    have xn1 := frozen_keep n1 B1 (World.block_lt_of_cell? _ _ r1)
    have BB1 := below_trans' B0 B1
    have hz0 : w.heap.size < w1.heap.size := World.block_lt_of_cell? _ _ xc0
    have hz1 : w.heap.size + 1 < w1.heap.size := World.block_lt_of_cell? _ _ xr0
    obtain ⟨a', sc', hv', -, -, -, ho⟩ := H1.open
    simp only [Value.slice.injEq, true_and] at hv'
    obtain ⟨rfl, rfl⟩ := hv'
    obtain ⟨pa', pc', pv', -, -, -, po⟩ := P1.open
    simp only [Value.slice.injEq, true_and] at pv'
    obtain ⟨rfl, rfl⟩ := pv'
    clear H0 P0 c0 c1 r0 r1 n0 n1
    go_wp2
    go_loopw [7, 8] (fun nx i wr => ∃ (k : Nat) (vo : Value) (cs : List Value), k ≤ L.length ∧ i = .int .i64 k ∧ nx = .int .i64 ((K.crTo L ps k).2 : Nat) ∧ wr.ownsRow (w1.heap.size + 1) 48 3 vo (K.crTo L ps k).1.length cs ∧ FCp (Sl .u8 w1) cs (K.crTo L ps k).1 ∧
        wr.cell? ⟨w1.heap.size, 0, none⟩ = some (.int .i64 cap) ∧ wr.cell? ⟨w1.heap.size, 1, none⟩ = some vo ∧ wr.frozen? ⟨w1.heap.size, 1, none⟩ = false ∧ Below w1.heap.size w1 wr ∧ w1.heap.size < wr.heap.size) (fun _ i _ => L.length - (intOf i).toNat)
    case atStart => exact ⟨0, .slice none 0 0, [], Nat.zero_le _, rfl, rfl, World.ownsRow_nil _ _ _ _, trivial, by simp, by simp, by simp [go_sem], below_alloc _ _, by simp⟩
    case round =>
      obtain ⟨k, vo, cs, hk, rfl, rfl, hown, hfc, q0, q1, q2, hbel, hzr⟩ := hrel
      have hcl := K.cr_len L ps k
      obtain ⟨voa, von, voc, rfl⟩ := slice_shape hown
      have d0 := (hbel.cell (p := ⟨w.heap.size, 0, none⟩) hz0).trans xc0
      have d1 := (hbel.cell (p := ⟨w.heap.size, 1, none⟩) hz0).trans xc1
      have hy0 : w.heap.size < wr.heap.size := by omega
      have hy1 : w.heap.size + 1 < wr.heap.size := by omega
      by_cases hlt : k < L.length
      · obtain ⟨f, hfk⟩ : ∃ f, L[k]? = some f := ⟨L[k], List.getElem?_eq_getElem hlt⟩
        obtain ⟨b, off, rfl, hb, hc⟩ := ho (by omega)
        obtain ⟨fa, fc, e0, e1, e2, e3⟩ := hc k f hfk
        have g0 := (hbel.cell (p := ⟨b, off + k * 3, none⟩) hb).trans e0
        have g1 := (hbel.cell (p := ⟨b, off + k * 3 + 1, none⟩) hb).trans e1
        have g2 := (hbel.cell (p := ⟨b, off + k * 3 + 2, none⟩) hb).trans e2
        have hbr : b < wr.heap.size := by omega
        have hdl := (hf.2 f (List.mem_of_getElem? hfk)).1
        cases hsu : f.su with
        | true =>
          have HCR := hide (K.cr_sure (ps := ps) hfk hsu)
          have hfe : f = ⟨f.nm, f.da, true⟩ := by rw [← hsu]
          have HFE := hide hfe
          rw [hsu] at g2
          clear ho hc e0 e1 e2 hfk hfe hsu po
          go_wp2_with (at_builtin; refine append_file_p (f := ⟨f.nm, f.da, true⟩) (fun _ _ h => Sl.oneCell h) rfl _ _ rfl rfl rfl (by simp) (hown.alloc _) hfc e3 (by simp; omega) (by omega) ?_; intro v2 w2 cs2 O2 F2 G2; obtain ⟨xa, xn, xc, rfl⟩ := slice_shape O2; obtain ⟨t1, t2, R1, R2, R3, R4, R5, R6⟩ := rcrash_step hown q0 q1 q2 hbel hzr O2 G2)
          go_roundw
          case rel => exact ⟨k + 1, _, cs2, by omega, by go_num, by rw [unhide HCR], by rw [unhide HCR, unhide HFE]; exact R1, by rw [unhide HCR, unhide HFE]; exact F2, R2, R3, R4, R5, R6⟩
          case measure => simp [intOf]; omega
        | false =>
          rw [hsu] at g2
          obtain ⟨n, hn⟩ : ∃ n, n = (K.crTo L ps k).2 := ⟨_, rfl⟩
          have hnk : n ≤ k := by omega
          rw [← hn]
          cases hpn : ps[n]? with
          | none =>
            have hge : ¬ n < ps.length := by intro h; rw [List.getElem?_eq_getElem h] at hpn; cases hpn
            have HCR := hide (K.cr_none (ps := ps) hfk hsu (by rw [← hn]; exact hpn))
            have HN := hide hn
            clear ho hc e0 e1 e2 e3 hfk hsu po hpn hn
            go_wp2
            go_roundw
            case rel => exact ⟨k + 1, _, cs, by omega, by go_num, by rw [unhide HCR, ← unhide HN]; go_num, by rw [unhide HCR]; exact hown.alloc _, by rw [unhide HCR]; exact hfc, cell_keep q0 (below_alloc _ _), cell_keep q1 (below_alloc _ _), frozen_keep q2 (below_alloc _ _) hzr, hbel.alloc (by omega) _, by simp; omega⟩
            case measure => simp [intOf]; omega
          | some p =>
            have hlt2 : n < ps.length := (List.getElem?_eq_some_iff.1 hpn).1
            obtain ⟨pb, po', rfl, hpb, hpc⟩ := po (by omega)
            have hpk : wr.cell? ⟨pb, po' + n, none⟩ = some (.int .i64 p) := by
              rw [(hbel.cell (p := ⟨pb, po' + n, none⟩) hpb).trans (hpc n hlt2), picks_at hpn]
            have hpbr : pb < wr.heap.size := by omega
            by_cases hneg : p < 0
            · have HCR := hide (K.cr_neg (ps := ps) hfk hsu (by rw [← hn]; exact hpn) hneg)
              have HN := hide hn
              clear ho hc e0 e1 e2 e3 hfk hsu po hpn hn hpc
              go_wp2
              go_roundw
              case rel => exact ⟨k + 1, _, cs, by omega, by go_num, by rw [unhide HCR, ← unhide HN]; go_num, by rw [unhide HCR]; exact hown.alloc _, by rw [unhide HCR]; exact hfc, cell_keep q0 (below_alloc _ _), cell_keep q1 (below_alloc _ _), frozen_keep q2 (below_alloc _ _) hzr, hbel.alloc (by omega) _, by simp; omega⟩
              case measure => simp [intOf]; omega
            · have HCR := hide (K.cr_keep (ps := ps) hfk hsu (by rw [← hn]; exact hpn) hneg)
              have HN := hide hn
              obtain ⟨m, rfl⟩ := Int.eq_ofNat_of_zero_le (show 0 ≤ p by omega)
              simp only [Int.toNat_natCast] at HCR
              by_cases hcut : m < f.da.length
              · obtain ⟨sl1, sl2⟩ := e3.to m (by omega)
                have hml : (f.da.take m).length = m := by simp; omega
                have hcut' : (m : Int) < (f.da.length : Int) := by omega
                clear ho hc e0 e1 e2 e3 hfk hsu po hpn hn hpc
                go_wp2_with (at_builtin; refine append_file_p (f := ⟨f.nm, f.da.take m, true⟩) (fun _ _ h => Sl.oneCell h) rfl _ _ rfl rfl rfl (by simp) (hown.alloc _) hfc sl2 (by simp; omega) (by omega) ?_; intro v2 w2 cs2 O2 F2 G2; obtain ⟨xa, xn, xc, rfl⟩ := slice_shape O2; obtain ⟨t1, t2, R1, R2, R3, R4, R5, R6⟩ := rcrash_step hown q0 q1 q2 hbel hzr O2 G2)
                go_roundw
                case rel => exact ⟨k + 1, _, cs2, by omega, by go_num, by rw [unhide HCR, ← unhide HN]; go_num, by rw [unhide HCR]; exact R1, by rw [unhide HCR]; exact F2, R2, R3, R4, R5, R6⟩
                case measure => simp [intOf]; omega
              · have HTK : Hid (f.da.take m = f.da) := List.take_of_length_le (by omega)
                have hcut' : ¬ (m : Int) < (f.da.length : Int) := by omega
                clear ho hc e0 e1 e2 hfk hsu po hpn hn hpc
                go_wp2_with (at_builtin; refine append_file_p (f := ⟨f.nm, f.da, true⟩) (fun _ _ h => Sl.oneCell h) rfl _ _ rfl rfl rfl (by simp) (hown.alloc _) hfc e3 (by simp; omega) (by omega) ?_; intro v2 w2 cs2 O2 F2 G2; obtain ⟨xa, xn, xc, rfl⟩ := slice_shape O2; obtain ⟨t1, t2, R1, R2, R3, R4, R5, R6⟩ := rcrash_step hown q0 q1 q2 hbel hzr O2 G2)
                go_roundw
                case rel => exact ⟨k + 1, _, cs2, by omega, by go_num, by rw [unhide HCR, ← unhide HN]; go_num, by rw [unhide HCR, unhide HTK]; exact R1, by rw [unhide HCR, unhide HTK]; exact F2, R2, R3, R4, R5, R6⟩
                case measure => simp [intOf]; omega
      · have FE := rcrash_end hown hfc hbel
        have yr0 := (hbel.cell (p := ⟨w.heap.size + 1, 0, none⟩) hz1).trans xr0
        have yr1 := (hbel.cell (p := ⟨w.heap.size + 1, 1, none⟩) hz1).trans xr1
        have yn0 := (hbel.frozen (p := ⟨w.heap.size + 1, 0, none⟩) hz1).trans xn0
        have yn1 := (hbel.frozen (p := ⟨w.heap.size + 1, 1, none⟩) hz1).trans xn1
        have BE := below_trans' BB1 hbel
        have hkl : k = L.length := by omega
        have HCR : Hid ((K.crTo L ps k).1 = K.crash L ps) := by rw [hkl]; rfl
        clear hown hfc hkl ho po
        go_wp2
        exact bodyPost_ret (v := .agg #[.int .i64 cap, .slice voa von voc]) (by simp [results, Try.results28, go_sem, yr0, yr1]) rfl ⟨_, rfl, by rw [← unhide HCR]; exact FE.set2 yr0 yr1 _ _, (BE.setCell (by simp) _).setCell (by simp) _⟩
end Go.Proofs.Ytnhhmohicjgpgaa
