/-
  The contract of the document's own Put: it answers what the program's does.
-/
import Derived.Test.YtjkaidlgooemoaaPut6
import Derived.Test.YtjkaidlgooemoaaPApp6
namespace Go.Proofs.Ytjkaidlgooemoaa
open Go.RowKit

set_option maxHeartbeats 4000000 in
theorem rput_any (v : Value) (L : List Pt) (d x : Int) (w : World) (h : Pl w v L) (hf : Fits L) :
    Calls Try.prog 13 #[v, .int .i64 d, .int .i64 x] w fun e w' => PutEnd w L d x e w' := by
  have hL := hf.1
  obtain ⟨a, cap, rfl⟩ := h.form
  obtain ⟨mb, hmb⟩ : ∃ mb, Q.may L = mb := ⟨_, rfl⟩
  have HM := hide hmb
  clear hmb
  go_enter Try.func13, Try.ntmps13
  go_wp2_with fail
  refine (rmay_any _ _ _ h).mono ?_
  rintro e w1 ⟨rfl, B1⟩
  rw [unhide HM]
  have H1 := h.below B1
  have finA : Q.argB L d x = false → PutEnd w L d x (.returned (.tuple #[.slice a L.length cap, .int .i64 1])) w1 := fun hh => by
    obtain ⟨e1, e2⟩ := Q.put_arg hh
    exact ⟨_, by rw [e2], by rw [e1]; exact H1, B1⟩
  have FA := hide finA
  clear finA
  cases mb with
  | false =>
    go_wp2
    exact bodyPost_ret (v := .tuple #[.slice a L.length cap, .int .i64 1]) (by simp [results, Try.results13, go_sem]) rfl (unhide FA (by simp [Q.argB, unhide HM]))
  | true =>
    by_cases h1 : d < 0
    · go_wp2
      exact bodyPost_ret (v := .tuple #[.slice a L.length cap, .int .i64 1]) (by simp [results, Try.results13, go_sem]) rfl (unhide FA (by simp [Q.argB]; omega))
    by_cases h2 : 63 < d
    · go_wp2
      exact bodyPost_ret (v := .tuple #[.slice a L.length cap, .int .i64 1]) (by simp [results, Try.results13, go_sem]) rfl (unhide FA (by simp [Q.argB]; omega))
    by_cases h3 : x < 0
    · go_wp2
      exact bodyPost_ret (v := .tuple #[.slice a L.length cap, .int .i64 1]) (by simp [results, Try.results13, go_sem]) rfl (unhide FA (by simp [Q.argB]; omega))
    by_cases h4 : 119 < x
    · go_wp2
      exact bodyPost_ret (v := .tuple #[.slice a L.length cap, .int .i64 1]) (by simp [results, Try.results13, go_sem]) rfl (unhide FA (by simp [Q.argB]; omega))
    have harg : Q.argB L d x = true := by
      simp only [Q.argB, unhide HM, Bool.true_and, Bool.and_eq_true, decide_eq_true_eq]
      omega
    have HG := hide harg
    clear harg
    go_wp2
    go_loopw [9, 10] (fun ov iv wr => ∃ (k : Nat) (pre : List Pt), k ≤ L.length ∧ iv = .int .i64 k ∧ pre = L.take k ∧ (∀ i y, i < k → (L.map Pt.d)[i]? = some y → y < d) ∧ PO w1.heap.size w1 wr ov pre ∧ Below w1.heap.size w1 wr) (fun _ iv _ => L.length - (intOf iv).toNat)
    case atStart => exact ⟨0, [], Nat.zero_le _, rfl, rfl, fun i y hi _ => by omega, PO.nil _ _ _, Below.refl _ _⟩
    case round =>
      obtain ⟨k, pre, hk, rfl, hpre, hall, hown, hbel⟩ := hrel
      have HA := hide hall
      have HP := hide hpre
      have hpl : pre.length ≤ 100 := by rw [hpre]; simp; omega
      clear hall hpre
      have H2 := H1.below hbel
      by_cases hlt : k < L.length
      · obtain ⟨a', cap', hv', -, -, -, ho⟩ := H2.open
        simp only [Value.slice.injEq, true_and] at hv'
        obtain ⟨rfl, rfl⟩ := hv'
        obtain ⟨b, off, rfl, hb, hc⟩ := ho (by omega)
        obtain ⟨p, hp⟩ : ∃ p, L[k]? = some p := ⟨L[k], List.getElem?_eq_getElem hlt⟩
        obtain ⟨da, dc, c0, c1, c2⟩ := hc k p hp
        obtain ⟨a', cap', hv', -, -, -, ho1⟩ := H1.open
        simp only [Value.slice.injEq, true_and] at hv'
        obtain ⟨rfl, rfl⟩ := hv'
        obtain ⟨b', off', hbo, hb1, hc1⟩ := ho1 (by omega)
        simp at hbo
        obtain ⟨rfl, rfl⟩ := hbo
        obtain ⟨da', dc', -, e1, e2⟩ := hc1 k p hp
        have ee := (hbel.cell (p := ⟨b, off + k * 2 + 1, none⟩) hb1).trans e1
        rw [c1] at ee
        simp at ee
        obtain ⟨rfl, rfl⟩ := ee
        have HTS : Hid (L.take (k + 1) = L.take k ++ [p]) := by
          obtain ⟨hk', rfl⟩ := List.getElem?_eq_some_iff.1 hp
          exact List.take_succ_eq_append_getElem hk'
        have HLP := hide hp
        clear ho hc ho1 hc1 e1 hp
        by_cases hpd : p.d < d
        · go_wp2_with (at_builtin; refine append_post (f := p) rfl _ _ rfl rfl rfl rfl hown e2 hbel hbel.size (by omega) ?_; intro v2 w2 O2 B2 G2)
          go_roundw
          case rel =>
            refine ⟨k + 1, pre ++ [p], by omega, by go_num, by rw [unhide HTS, unhide HP], fun i y hi hy => ?_, O2, B2⟩
            by_cases e : i = k
            · subst e
              rw [List.getElem?_map, unhide HLP] at hy
              simp at hy
              omega
            · exact unhide HA i y (by omega) hy
          case measure => simp [intOf]; omega
        · by_cases hpe : p.d = d
          · have hah : Q.first L d = k := Q.ahead_is (by simp; omega) (unhide HA) (fun y hy => by rw [List.getElem?_map, unhide HLP] at hy; simp at hy; omega)
            have HAH := hide hah
            have hbe : (p.d == d) = true := by simpa using hpe
            have HPE := hide hpe
            have hpa := hf.2 p (List.mem_of_getElem? (unhide HLP))
            have H9 := hide H1
            clear hah hpe
            obtain ⟨WB, hWB⟩ : ∃ WB, WB = wr.alloc (.cells #[.int .i64 (p.d), .slice da p.a.length dc] 39) := ⟨_, rfl⟩
            have BWB : Below wr.heap.size wr WB := by rw [hWB]; exact below_alloc _ _
            have zWB : WB.heap.size = wr.heap.size + 1 := by rw [hWB]; simp
            have SA : Sl .i64 WB (.slice da p.a.length dc) (p.a) := (e2.below hbel).below BWB
            have t0 : WB.cell? ⟨wr.heap.size, 0, none⟩ = some (.int .i64 (p.d)) := by rw [hWB]; simp
            have t1 : WB.cell? ⟨wr.heap.size, 1, none⟩ = some (.slice da p.a.length dc) := by rw [hWB]; simp
            have t2 : WB.frozen? ⟨wr.heap.size, 1, none⟩ = false := by rw [hWB]; simp [go_sem]
            have HWB := hide hWB
            have HHAS := hide (has_any (.slice da p.a.length dc) (p.a) x WB SA)
            have HWITH := hide (with_any (.slice da p.a.length dc) (p.a) x WB SA (by omega))
            have R2 : ∀ w', (Instr.slice 22 (.slice (some ⟨b, off, none⟩) L.length cap) (some (.int .i64 ((k : Int) + 1))) none none).run Try.prog w' = .ok (sliced (some ⟨b, off, none⟩) (k + 1) L.length cap 2) w' := fun w' => by
              rw [show ((k : Int) + 1 : Int) = ((k + 1 : Nat) : Int) by omega]
              exact run_pl_from _ _ _ _ (by omega) w'
            have C2 := H1.cut (k + 1) L.length (by omega) (Nat.le_refl _)
            rw [drop_take_all] at C2
            obtain ⟨sv, hsv⟩ : ∃ sv, sv = sliced (some ⟨b, off, none⟩) (k + 1) L.length cap 2 := ⟨_, rfl⟩
            rw [← hsv] at C2 R2
            obtain ⟨rs, hrs⟩ : ∃ rs, rs = L.drop (k + 1) := ⟨_, rfl⟩
            rw [← hrs] at C2
            have hrl : rs.length ≤ 100 := by rw [hrs]; simp; omega
            have HRS := hide hrs
            obtain ⟨ds, CL, PD⟩ := C2.cl
            have HCL := hide CL
            have HPD := hide PD
            obtain ⟨cs, O1, C1⟩ := hown
            have HO1 := hide O1
            have HC1 := hide C1
            have hbs := hbel.size
            clear hsv hWB SA hrs CL PD O1 C1 H1 H2 zWB
            obtain ⟨mm, hmm⟩ : ∃ mm, decide (x ∈ p.a) = mm := ⟨_, rfl⟩
            have HMM := hide hmm
            clear hmm
            cases mm with
            | true =>
              have hh := Q.putL_old (x := x) (show L[Q.first L d]? = some p by rw [unhide HAH]; exact unhide HLP) (unhide HPE)
              have h2 := Q.put_there (unhide HG) (by rw [hh.1]; exact unhide HMM)
              have H2E := hide h2
              clear hh h2
              go_wp2_with fail
              rw [← unhide HWB]
              refine (unhide HHAS).mono ?_
              rintro e wh ⟨rfl, rfl⟩
              rw [unhide HMM]
              go_wp2
              exact bodyPost_ret (v := .tuple #[.slice (some ⟨b, off, none⟩) L.length cap, .int .i64 3]) (by simp [results, Try.results13, go_sem]) rfl ⟨_, by rw [(unhide H2E).2], by rw [(unhide H2E).1]; exact (unhide H9).below (below_trans' hbel BWB), below_trans' B1 (below_trans' hbel BWB)⟩
            | false =>
              go_wp2_with fail
              rw [← unhide HWB]
              refine (unhide HHAS).mono ?_
              rintro e wh ⟨rfl, rfl⟩
              rw [unhide HMM]
              go_wp2_with fail
              refine (unhide HWITH).mono ?_
              rintro e w5 ⟨v5, rfl, P5, B5⟩
              have zWB : wh.heap.size = wr.heap.size + 1 := by rw [unhide HWB]; simp
              have r0 := cell_keep t0 B5
              have r1 := cell_keep t1 B5
              have r2 : w5.frozen? ⟨wr.heap.size, 1, none⟩ = false := (B5.frozen (p := ⟨wr.heap.size, 1, none⟩) (by rw [zWB]; exact Nat.lt_succ_self _)).trans t2
              obtain ⟨xa, xn, xc, hx5⟩ : ∃ xa xn xc, v5 = .slice xa xn xc := by
                obtain ⟨xa, xc, hh, -⟩ := id (Sl.owned P5)
                exact ⟨_, _, _, hh⟩
              subst hx5
              have B6 := below_trans' BWB B5
              have O6 := own_set (own_below (unhide HO1) B6) (p := ⟨wr.heap.size, 1, none⟩) (fun k hk => by have := ((unhide HO1).lt k hk).2; show k ≠ wr.heap.size; omega) (.slice xa xn xc)
              have P6 : Pa w1.heap.size (w5.setCell ⟨wr.heap.size, 1, none⟩ (.slice xa xn xc)) (.slice xa xn xc) (Q.ins (p.a) x) :=
                own_set (own_mono P5 (by rw [zWB]; omega)) (p := ⟨wr.heap.size, 1, none⟩) (fun k hk => by have := (P5.lt k hk).1; rw [zWB] at this; show k ≠ wr.heap.size; omega) _
              have B7 : Below w1.heap.size w1 (w5.setCell ⟨wr.heap.size, 1, none⟩ (.slice xa xn xc)) := (below_trans' hbel B6).setCell hbs _
              have hz5 : w1.heap.size ≤ w5.heap.size := (below_trans' hbel B6).size
              have C6 : PCp (Qd w1 (w5.setCell ⟨wr.heap.size, 1, none⟩ (.slice xa xn xc))) cs pre := (unhide HC1).turn fun u z h => .inl h
              clear P5 t0 t1 t2 zWB B6 B5
              go_wp2_with (first
                | (at_builtin; refine append_post_p (f := ⟨p.d, Q.ins (p.a) x⟩) Qd.one rfl (.tmp 88) (.tmp 90) rfl rfl rfl (by simp) O6 C6 (.inr P6) (by simp; omega) (by omega) ?_; intro v8 w8 cs8 O8 C8 G8 E8; have B8 := B7.grown G8 B7.size (fun j hj => (O6.lt j hj).1); have D8 := C8.turn (fun u z h => Qd.grown h O6 G8); have CL8 := Cl.below (unhide HCL) B8)
                | (at_builtin; refine append_posts_c Qd.one rfl (.tmp 92) (.tmp 95) rfl rfl rfl CL8 ((unhide HPD).turn fun u z h => .inl h) O8 D8 B8.size (by simp; omega) ?_; intro v9 w9 O9 C9 G9))
              have B9 := B8.grown G9 B8.size (fun j hj => (O8.lt j hj).1)
              have F9 := pl_of O9 (C9.turn (fun u z h => Qd.sl (Qd.grown h O8 G9) B9))
              have hfin : pre ++ [⟨p.d, Q.ins (p.a) x⟩] ++ rs = Q.putA L d x ∧ Q.putE L d x = 0 := by
                have hh := Q.putL_old (x := x) (show L[Q.first L d]? = some p by rw [unhide HAH]; exact unhide HLP) (unhide HPE)
                have h2 := Q.put_new (unhide HG) (by rw [hh.1]; exact unhide HMM)
                refine ⟨?_, h2.2⟩
                rw [h2.1, hh.2, unhide HAH, unhide HP, unhide HRS, unhide HPE]
                have hkl : k < L.length := hlt
                rw [List.set_eq_take_append_cons_drop, if_pos hkl]
                simp
              obtain ⟨ya, yn, yc, hy9⟩ : ∃ ya yn yc, v9 = .slice ya yn yc := by
                obtain ⟨ya, yc, hh⟩ := F9.form
                exact ⟨_, _, _, hh⟩
              subst hy9
              rw [hfin.1] at F9
              have HF9 := hide F9
              have HFI := hide hfin
              clear F9 hfin O9 C9 G9 O8 D8 C8 G8 C6 P6 O6 r0 r1 r2 E8 CL8
              go_wp2
              exact bodyPost_ret (v := .tuple #[.slice ya yn yc, .int .i64 0]) (by simp [results, Try.results13, go_sem]) rfl ⟨_, by rw [(unhide HFI).2], unhide HF9, below_trans' B1 B9⟩
          · have hah : Q.first L d = k := Q.ahead_is (by simp; omega) (unhide HA) (fun y hy => by rw [List.getElem?_map, unhide HLP] at hy; simp at hy; omega)
            have hdn : Q.hasD L d = false := by rw [Q.hasD_at (p := p) (by rw [hah]; exact unhide HLP)]; simpa using hpe
            have HAH := hide hah
            have HDN := hide hdn
            have hbe : (p.d == d) = false := by simpa using hpe
            clear hah hdn hpe
            obtain ⟨WB, hWB⟩ : ∃ WB, WB = wr.alloc (.cells #[.int .i64 (d), .slice none 0 0] 39) := ⟨_, rfl⟩
            have BWB : Below wr.heap.size wr WB := by rw [hWB]; exact below_alloc _ _
            have zWB : WB.heap.size = wr.heap.size + 1 := by rw [hWB]; simp
            have SA : Sl .i64 WB (.slice none 0 0) ([]) := Sl.nil _ _
            have t0 : WB.cell? ⟨wr.heap.size, 0, none⟩ = some (.int .i64 (d)) := by rw [hWB]; simp
            have t1 : WB.cell? ⟨wr.heap.size, 1, none⟩ = some (.slice none 0 0) := by rw [hWB]; simp
            have t2 : WB.frozen? ⟨wr.heap.size, 1, none⟩ = false := by rw [hWB]; simp [go_sem]
            have HWB := hide hWB
            have HHAS := hide (has_any (.slice none 0 0) ([]) x WB SA)
            have HWITH := hide (with_any (.slice none 0 0) ([]) x WB SA (by simp))
            have R2 : ∀ w', (Instr.slice 22 (.slice (some ⟨b, off, none⟩) L.length cap) (some (.int .i64 ((k : Int)))) none none).run Try.prog w' = .ok (sliced (some ⟨b, off, none⟩) (k) L.length cap 2) w' := fun w' => by
              rw [show ((k : Int) : Int) = ((k : Nat) : Int) by omega]
              exact run_pl_from _ _ _ _ (by omega) w'
            have C2 := H1.cut (k) L.length (by omega) (Nat.le_refl _)
            rw [drop_take_all] at C2
            obtain ⟨sv, hsv⟩ : ∃ sv, sv = sliced (some ⟨b, off, none⟩) (k) L.length cap 2 := ⟨_, rfl⟩
            rw [← hsv] at C2 R2
            obtain ⟨rs, hrs⟩ : ∃ rs, rs = L.drop (k) := ⟨_, rfl⟩
            rw [← hrs] at C2
            have hrl : rs.length ≤ 100 := by rw [hrs]; simp; omega
            have HRS := hide hrs
            obtain ⟨ds, CL, PD⟩ := C2.cl
            have HCL := hide CL
            have HPD := hide PD
            obtain ⟨cs, O1, C1⟩ := hown
            have HO1 := hide O1
            have HC1 := hide C1
            have hbs := hbel.size
            clear hsv hWB SA hrs CL PD O1 C1 H1 H2 zWB
            go_wp2_with fail
            rw [← unhide HWB]
            refine (unhide HHAS).mono ?_
            rintro e wh ⟨rfl, rfl⟩
            rw [show decide (x ∈ ([] : List Int)) = false from rfl]
            go_wp2_with fail
            refine (unhide HWITH).mono ?_
            rintro e w5 ⟨v5, rfl, P5, B5⟩
            have zWB : wh.heap.size = wr.heap.size + 1 := by rw [unhide HWB]; simp
            have r0 := cell_keep t0 B5
            have r1 := cell_keep t1 B5
            have r2 : w5.frozen? ⟨wr.heap.size, 1, none⟩ = false := (B5.frozen (p := ⟨wr.heap.size, 1, none⟩) (by rw [zWB]; exact Nat.lt_succ_self _)).trans t2
            obtain ⟨xa, xn, xc, hx5⟩ : ∃ xa xn xc, v5 = .slice xa xn xc := by
              obtain ⟨xa, xc, hh, -⟩ := id (Sl.owned P5)
              exact ⟨_, _, _, hh⟩
            subst hx5
            have B6 := below_trans' BWB B5
            have O6 := own_set (own_below (unhide HO1) B6) (p := ⟨wr.heap.size, 1, none⟩) (fun k hk => by have := ((unhide HO1).lt k hk).2; show k ≠ wr.heap.size; omega) (.slice xa xn xc)
            have P6 : Pa w1.heap.size (w5.setCell ⟨wr.heap.size, 1, none⟩ (.slice xa xn xc)) (.slice xa xn xc) (Q.ins ([]) x) :=
              own_set (own_mono P5 (by rw [zWB]; omega)) (p := ⟨wr.heap.size, 1, none⟩) (fun k hk => by have := (P5.lt k hk).1; rw [zWB] at this; show k ≠ wr.heap.size; omega) _
            have B7 : Below w1.heap.size w1 (w5.setCell ⟨wr.heap.size, 1, none⟩ (.slice xa xn xc)) := (below_trans' hbel B6).setCell hbs _
            have hz5 : w1.heap.size ≤ w5.heap.size := (below_trans' hbel B6).size
            have C6 : PCp (Qd w1 (w5.setCell ⟨wr.heap.size, 1, none⟩ (.slice xa xn xc))) cs pre := (unhide HC1).turn fun u z h => .inl h
            clear P5 t0 t1 t2 zWB B6 B5
            go_wp2_with (first
              | (at_builtin; refine append_post_p (f := ⟨d, Q.ins ([]) x⟩) Qd.one rfl (.tmp 88) (.tmp 90) rfl rfl rfl (by simp) O6 C6 (.inr P6) (by simp; omega) (by omega) ?_; intro v8 w8 cs8 O8 C8 G8 E8; have B8 := B7.grown G8 B7.size (fun j hj => (O6.lt j hj).1); have D8 := C8.turn (fun u z h => Qd.grown h O6 G8); have CL8 := Cl.below (unhide HCL) B8)
              | (at_builtin; refine append_posts_c Qd.one rfl (.tmp 92) (.tmp 95) rfl rfl rfl CL8 ((unhide HPD).turn fun u z h => .inl h) O8 D8 B8.size (by simp; omega) ?_; intro v9 w9 O9 C9 G9))
            have B9 := B8.grown G9 B8.size (fun j hj => (O8.lt j hj).1)
            have F9 := pl_of O9 (C9.turn (fun u z h => Qd.sl (Qd.grown h O8 G9) B9))
            have hfin : pre ++ [⟨d, Q.ins ([]) x⟩] ++ rs = Q.putA L d x ∧ Q.putE L d x = 0 := by
              have hh := Q.putL_new (x := x) (unhide HDN)
              have h2 := Q.put_new (unhide HG) hh.1
              refine ⟨?_, h2.2⟩
              rw [h2.1, hh.2, unhide HAH, ← unhide HP, ← unhide HRS]
              simp [Q.ins, Q.ahead]
            obtain ⟨ya, yn, yc, hy9⟩ : ∃ ya yn yc, v9 = .slice ya yn yc := by
              obtain ⟨ya, yc, hh⟩ := F9.form
              exact ⟨_, _, _, hh⟩
            subst hy9
            rw [hfin.1] at F9
            have HF9 := hide F9
            have HFI := hide hfin
            clear F9 hfin O9 C9 G9 O8 D8 C8 G8 C6 P6 O6 r0 r1 r2 E8 CL8
            go_wp2
            exact bodyPost_ret (v := .tuple #[.slice ya yn yc, .int .i64 0]) (by simp [results, Try.results13, go_sem]) rfl ⟨_, by rw [(unhide HFI).2], unhide HF9, below_trans' B1 B9⟩
      · have hah : Q.first L d = k := Q.ahead_is (by simp; omega) (unhide HA) (fun y hy => by rw [List.getElem?_eq_none (by simp; omega)] at hy; simp at hy)
        have hdn : Q.hasD L d = false := Q.hasD_end (by rw [hah]; omega)
        have HAH := hide hah
        have HDN := hide hdn
        clear hah hdn
        obtain ⟨WB, hWB⟩ : ∃ WB, WB = wr.alloc (.cells #[.int .i64 (d), .slice none 0 0] 39) := ⟨_, rfl⟩
        have BWB : Below wr.heap.size wr WB := by rw [hWB]; exact below_alloc _ _
        have zWB : WB.heap.size = wr.heap.size + 1 := by rw [hWB]; simp
        have SA : Sl .i64 WB (.slice none 0 0) ([]) := Sl.nil _ _
        have t0 : WB.cell? ⟨wr.heap.size, 0, none⟩ = some (.int .i64 (d)) := by rw [hWB]; simp
        have t1 : WB.cell? ⟨wr.heap.size, 1, none⟩ = some (.slice none 0 0) := by rw [hWB]; simp
        have t2 : WB.frozen? ⟨wr.heap.size, 1, none⟩ = false := by rw [hWB]; simp [go_sem]
        have HWB := hide hWB
        have HHAS := hide (has_any (.slice none 0 0) ([]) x WB SA)
        have HWITH := hide (with_any (.slice none 0 0) ([]) x WB SA (by simp))
        have R2 : ∀ w', (Instr.slice 22 (.slice (a) L.length cap) (some (.int .i64 ((k : Int)))) none none).run Try.prog w' = .ok (sliced (a) (k) L.length cap 2) w' := fun w' => by
          rw [show ((k : Int) : Int) = ((k : Nat) : Int) by omega]
          exact run_pl_from _ _ _ _ (by omega) w'
        have C2 := H1.cut (k) L.length (by omega) (Nat.le_refl _)
        rw [drop_take_all] at C2
        obtain ⟨sv, hsv⟩ : ∃ sv, sv = sliced (a) (k) L.length cap 2 := ⟨_, rfl⟩
        rw [← hsv] at C2 R2
        obtain ⟨rs, hrs⟩ : ∃ rs, rs = L.drop (k) := ⟨_, rfl⟩
        rw [← hrs] at C2
        have hrl : rs.length ≤ 100 := by rw [hrs]; simp; omega
        have HRS := hide hrs
        obtain ⟨ds, CL, PD⟩ := C2.cl
        have HCL := hide CL
        have HPD := hide PD
        obtain ⟨cs, O1, C1⟩ := hown
        have HO1 := hide O1
        have HC1 := hide C1
        have hbs := hbel.size
        clear hsv hWB SA hrs CL PD O1 C1 H1 H2 zWB
        go_wp2_with fail
        rw [← unhide HWB]
        refine (unhide HHAS).mono ?_
        rintro e wh ⟨rfl, rfl⟩
        rw [show decide (x ∈ ([] : List Int)) = false from rfl]
        go_wp2_with fail
        refine (unhide HWITH).mono ?_
        rintro e w5 ⟨v5, rfl, P5, B5⟩
        have zWB : wh.heap.size = wr.heap.size + 1 := by rw [unhide HWB]; simp
        have r0 := cell_keep t0 B5
        have r1 := cell_keep t1 B5
        have r2 : w5.frozen? ⟨wr.heap.size, 1, none⟩ = false := (B5.frozen (p := ⟨wr.heap.size, 1, none⟩) (by rw [zWB]; exact Nat.lt_succ_self _)).trans t2
        obtain ⟨xa, xn, xc, hx5⟩ : ∃ xa xn xc, v5 = .slice xa xn xc := by
          obtain ⟨xa, xc, hh, -⟩ := id (Sl.owned P5)
          exact ⟨_, _, _, hh⟩
        subst hx5
        have B6 := below_trans' BWB B5
        have O6 := own_set (own_below (unhide HO1) B6) (p := ⟨wr.heap.size, 1, none⟩) (fun k hk => by have := ((unhide HO1).lt k hk).2; show k ≠ wr.heap.size; omega) (.slice xa xn xc)
        have P6 : Pa w1.heap.size (w5.setCell ⟨wr.heap.size, 1, none⟩ (.slice xa xn xc)) (.slice xa xn xc) (Q.ins ([]) x) :=
          own_set (own_mono P5 (by rw [zWB]; omega)) (p := ⟨wr.heap.size, 1, none⟩) (fun k hk => by have := (P5.lt k hk).1; rw [zWB] at this; show k ≠ wr.heap.size; omega) _
        have B7 : Below w1.heap.size w1 (w5.setCell ⟨wr.heap.size, 1, none⟩ (.slice xa xn xc)) := (below_trans' hbel B6).setCell hbs _
        have hz5 : w1.heap.size ≤ w5.heap.size := (below_trans' hbel B6).size
        have C6 : PCp (Qd w1 (w5.setCell ⟨wr.heap.size, 1, none⟩ (.slice xa xn xc))) cs pre := (unhide HC1).turn fun u z h => .inl h
        clear P5 t0 t1 t2 zWB B6 B5
        go_wp2_with (first
          | (at_builtin; refine append_post_p (f := ⟨d, Q.ins ([]) x⟩) Qd.one rfl (.tmp 88) (.tmp 90) rfl rfl rfl (by simp) O6 C6 (.inr P6) (by simp; omega) (by omega) ?_; intro v8 w8 cs8 O8 C8 G8 E8; have B8 := B7.grown G8 B7.size (fun j hj => (O6.lt j hj).1); have D8 := C8.turn (fun u z h => Qd.grown h O6 G8); have CL8 := Cl.below (unhide HCL) B8)
          | (at_builtin; refine append_posts_c Qd.one rfl (.tmp 92) (.tmp 95) rfl rfl rfl CL8 ((unhide HPD).turn fun u z h => .inl h) O8 D8 B8.size (by simp; omega) ?_; intro v9 w9 O9 C9 G9))
        have B9 := B8.grown G9 B8.size (fun j hj => (O8.lt j hj).1)
        have F9 := pl_of O9 (C9.turn (fun u z h => Qd.sl (Qd.grown h O8 G9) B9))
        have hfin : pre ++ [⟨d, Q.ins ([]) x⟩] ++ rs = Q.putA L d x ∧ Q.putE L d x = 0 := by
          have hh := Q.putL_new (x := x) (unhide HDN)
          have h2 := Q.put_new (unhide HG) hh.1
          refine ⟨?_, h2.2⟩
          rw [h2.1, hh.2, unhide HAH, ← unhide HP, ← unhide HRS]
          simp [Q.ins, Q.ahead]
        obtain ⟨ya, yn, yc, hy9⟩ : ∃ ya yn yc, v9 = .slice ya yn yc := by
          obtain ⟨ya, yc, hh⟩ := F9.form
          exact ⟨_, _, _, hh⟩
        subst hy9
        rw [hfin.1] at F9
        have HF9 := hide F9
        have HFI := hide hfin
        clear F9 hfin O9 C9 G9 O8 D8 C8 G8 C6 P6 O6 r0 r1 r2 E8 CL8
        go_wp2
        exact bodyPost_ret (v := .tuple #[.slice ya yn yc, .int .i64 0]) (by simp [results, Try.results13, go_sem]) rfl ⟨_, by rw [(unhide HFI).2], unhide HF9, below_trans' B1 B9⟩
end Go.Proofs.Ytjkaidlgooemoaa
